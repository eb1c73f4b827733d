/-
  OWN WORK: Xte, Xif, Xcu, Xcv, Xct.
-/
import Derived.Test.YtgpckmolcdafcafP8
import Derived.Test.YtgpckmolcdafcafP7
import Derived.Test.YtgpckmolcdafcafP1
import Derived.Test.YtgpckmolcdafcafP2
import Derived.RegionTactic
/-
  THE WALK of the reference's Tell.
-/
namespace Go.Proofs.Ytgpckmolcdafcaf
open Go.RowKit

theorem telL_take (n : Nat) (y : It) : ∀ (l : List It) (j : Nat) (h : j < l.length), telL n y (l.take (j + 1)) = telL n y (l.take j) ++ [tel1 n y l[j]]
  | [], _, h => by simp at h
  | x :: l, 0, _ => by simp [telL]
  | x :: l, j + 1, h => by
    rw [List.take_succ_cons, List.take_succ_cons, telL, telL, telL_take n y l j (by simpa using h), List.getElem_cons_succ]
    rfl
theorem tel1_no {n : Nat} {y x : It} (h : x.node ≠ n) : tel1 n y x = x.with (telL n y x.kids) := by
  cases x with
  | mk k r a b l c o ks =>
    have h' : ¬ k = n := h
    rw [tel1, if_neg h']
    rfl
theorem tel1_yes {n : Nat} {y x : It} (h : x.node = n) : tel1 n y x = y.with (telL n y x.kids) := by
  cases x with
  | mk k r a b l c o ks =>
    have h' : k = n := h
    rw [tel1, if_pos h']
    rfl
theorem itc_with (x : It) (ks : List It) (kv : Value) : itc (x.with ks, kv) = [.int .i64 (x.node : Int), .int .i64 x.role, .string x.name, .string x.about, .int .i64 x.level, .int .i64 x.checked, .bool x.off, kv] := by
  unfold itc
  simp only [with_node, with_role, with_name, with_about, with_level, with_checked, with_off]
  rfl

theorem Box8.put0 {N : Nat} {a0 a1 a2 a3 a4 a5 a6 a7 : Value} {w : World} (h : Box8 N a0 a1 a2 a3 a4 a5 a6 a7 w) (v : Value) : Box8 N v a1 a2 a3 a4 a5 a6 a7 (w.setCell ⟨N, 0, none⟩ v) := by
  obtain ⟨h0, h1, h2, h3, h4, h5, h6, h7⟩ := h
  refine ⟨World.cell?_setCell_same _ _ _ h0, ?_, ?_, ?_, ?_, ?_, ?_, ?_⟩ <;> (rw [World.cell?_setCell_other _ _ _ _ (by intro e; cases e)]; assumption)
theorem Box8.put1 {N : Nat} {a0 a1 a2 a3 a4 a5 a6 a7 : Value} {w : World} (h : Box8 N a0 a1 a2 a3 a4 a5 a6 a7 w) (v : Value) : Box8 N a0 v a2 a3 a4 a5 a6 a7 (w.setCell ⟨N, 1, none⟩ v) := by
  obtain ⟨h0, h1, h2, h3, h4, h5, h6, h7⟩ := h
  refine ⟨?_, World.cell?_setCell_same _ _ _ h1, ?_, ?_, ?_, ?_, ?_, ?_⟩ <;> (rw [World.cell?_setCell_other _ _ _ _ (by intro e; cases e)]; assumption)
theorem Box8.put2 {N : Nat} {a0 a1 a2 a3 a4 a5 a6 a7 : Value} {w : World} (h : Box8 N a0 a1 a2 a3 a4 a5 a6 a7 w) (v : Value) : Box8 N a0 a1 v a3 a4 a5 a6 a7 (w.setCell ⟨N, 2, none⟩ v) := by
  obtain ⟨h0, h1, h2, h3, h4, h5, h6, h7⟩ := h
  refine ⟨?_, ?_, World.cell?_setCell_same _ _ _ h2, ?_, ?_, ?_, ?_, ?_⟩ <;> (rw [World.cell?_setCell_other _ _ _ _ (by intro e; cases e)]; assumption)
theorem Box8.put3 {N : Nat} {a0 a1 a2 a3 a4 a5 a6 a7 : Value} {w : World} (h : Box8 N a0 a1 a2 a3 a4 a5 a6 a7 w) (v : Value) : Box8 N a0 a1 a2 v a4 a5 a6 a7 (w.setCell ⟨N, 3, none⟩ v) := by
  obtain ⟨h0, h1, h2, h3, h4, h5, h6, h7⟩ := h
  refine ⟨?_, ?_, ?_, World.cell?_setCell_same _ _ _ h3, ?_, ?_, ?_, ?_⟩ <;> (rw [World.cell?_setCell_other _ _ _ _ (by intro e; cases e)]; assumption)
theorem Box8.put4 {N : Nat} {a0 a1 a2 a3 a4 a5 a6 a7 : Value} {w : World} (h : Box8 N a0 a1 a2 a3 a4 a5 a6 a7 w) (v : Value) : Box8 N a0 a1 a2 a3 v a5 a6 a7 (w.setCell ⟨N, 4, none⟩ v) := by
  obtain ⟨h0, h1, h2, h3, h4, h5, h6, h7⟩ := h
  refine ⟨?_, ?_, ?_, ?_, World.cell?_setCell_same _ _ _ h4, ?_, ?_, ?_⟩ <;> (rw [World.cell?_setCell_other _ _ _ _ (by intro e; cases e)]; assumption)
theorem Box8.put5 {N : Nat} {a0 a1 a2 a3 a4 a5 a6 a7 : Value} {w : World} (h : Box8 N a0 a1 a2 a3 a4 a5 a6 a7 w) (v : Value) : Box8 N a0 a1 a2 a3 a4 v a6 a7 (w.setCell ⟨N, 5, none⟩ v) := by
  obtain ⟨h0, h1, h2, h3, h4, h5, h6, h7⟩ := h
  refine ⟨?_, ?_, ?_, ?_, ?_, World.cell?_setCell_same _ _ _ h5, ?_, ?_⟩ <;> (rw [World.cell?_setCell_other _ _ _ _ (by intro e; cases e)]; assumption)
theorem Box8.put6 {N : Nat} {a0 a1 a2 a3 a4 a5 a6 a7 : Value} {w : World} (h : Box8 N a0 a1 a2 a3 a4 a5 a6 a7 w) (v : Value) : Box8 N a0 a1 a2 a3 a4 a5 v a7 (w.setCell ⟨N, 6, none⟩ v) := by
  obtain ⟨h0, h1, h2, h3, h4, h5, h6, h7⟩ := h
  refine ⟨?_, ?_, ?_, ?_, ?_, ?_, World.cell?_setCell_same _ _ _ h6, ?_⟩ <;> (rw [World.cell?_setCell_other _ _ _ _ (by intro e; cases e)]; assumption)
theorem Box8.put7 {N : Nat} {a0 a1 a2 a3 a4 a5 a6 a7 : Value} {w : World} (h : Box8 N a0 a1 a2 a3 a4 a5 a6 a7 w) (v : Value) : Box8 N a0 a1 a2 a3 a4 a5 a6 v (w.setCell ⟨N, 7, none⟩ v) := by
  obtain ⟨h0, h1, h2, h3, h4, h5, h6, h7⟩ := h
  refine ⟨?_, ?_, ?_, ?_, ?_, ?_, ?_, World.cell?_setCell_same _ _ _ h7⟩ <;> (rw [World.cell?_setCell_other _ _ _ _ (by intro e; cases e)]; assumption)
theorem set9 {N : Nat} {a0 a1 a2 a3 a4 a5 a6 a7 : Value} {w5 : World} (h : Box8 N a0 a1 a2 a3 a4 a5 a6 a7 w5) (v0 v1 v2 v3 v4 v5 v6 v7 u : Value) : ∃ w6, (((((((((w5.setCell ⟨N, 0, none⟩ v0).setCell ⟨N, 1, none⟩ v1).setCell ⟨N, 2, none⟩ v2).setCell ⟨N, 3, none⟩ v3).setCell ⟨N, 4, none⟩ v4).setCell ⟨N, 5, none⟩ v5).setCell ⟨N, 6, none⟩ v6).setCell ⟨N, 7, none⟩ v7).setCell ⟨N, 7, none⟩ u) = w6 ∧ Box8 N v0 v1 v2 v3 v4 v5 v6 u w6 ∧ (∀ g, g ≠ N → w6.heap[g]? = w5.heap[g]?) ∧ w6.heap.size = w5.heap.size ∧ w6.os = w5.os ∧ w6.tape = w5.tape ∧ w6.output = w5.output := by
  refine ⟨_, rfl, ((((((((h.put0 v0).put1 v1).put2 v2).put3 v3).put4 v4).put5 v5).put6 v6).put7 v7).put7 u, fun g hg => ?_, by simp, ?_⟩
  · simp only [heap_setCell_other _ _ _ _ (show g ≠ (⟨N, _, none⟩ : Addr).block from hg)]
  · have hb := ((((((((((Below.refl 0 w5).setCell (p := ⟨N, 0, none⟩) (Nat.zero_le _) v0).setCell (p := ⟨N, 1, none⟩) (Nat.zero_le _) v1).setCell (p := ⟨N, 2, none⟩) (Nat.zero_le _) v2).setCell (p := ⟨N, 3, none⟩) (Nat.zero_le _) v3).setCell (p := ⟨N, 4, none⟩) (Nat.zero_le _) v4).setCell (p := ⟨N, 5, none⟩) (Nat.zero_le _) v5).setCell (p := ⟨N, 6, none⟩) (Nat.zero_le _) v6).setCell (p := ⟨N, 7, none⟩) (Nat.zero_le _) v7).setCell (p := ⟨N, 7, none⟩) (Nat.zero_le _) u)
    exact ⟨hb.os, hb.tape, hb.output⟩

set_option maxHeartbeats 3200000 in
set_option maxRecDepth 100000 in
theorem utell_any (n : Nat) (y : It) (yp : Option Addr) (yn yc : Nat) (m : Nat) : ∀ (P : Nat → Prop) (v : Value) (l : List It) (w : World), RdI w P v l → (nodesL l).length ≤ m → (nodesL l).length ≤ 800000 →
    Calls Try.prog 9 #[v, .int .i64 (n : Int), .agg #[.int .i64 (y.node : Int), .int .i64 y.role, .string y.name, .string y.about, .int .i64 y.level, .int .i64 y.checked, .bool y.off, .slice yp yn yc]] w fun e w' => ∃ v', e = .returned v' ∧ RdI w' (fun g => (P g ∧ g < w.heap.size) ∨ w.heap.size ≤ g) v' (telL n y l) ∧ Below w.heap.size w w' := by
  induction m with
  | zero =>
    intro P v l w hr hm hsz
    have hl : l = [] := by
      have := top_few l
      exact List.length_eq_zero_iff.mp (by omega)
    subst hl
    obtain ⟨p, c, rfl⟩ := hr.shape
    have B1 : Below w.heap.size w (w.alloc (.cells #[.int .i64 (y.node : Int), .int .i64 y.role, .string y.name, .string y.about, .int .i64 y.level, .int .i64 y.checked, .bool y.off, .slice yp yn yc] 27)) := (Below.refl _ _).alloc (Nat.le_refl _) _
    clear hr
    go_enter Try.func9, Try.ntmps9
    go_upto_region 1 with fail
    generalize w.alloc (.cells #[.int .i64 (y.node : Int), .int .i64 y.role, .string y.name, .string y.about, .int .i64 y.level, .int .i64 y.checked, .bool y.off, .slice yp yn yc] 27) = W at *
    go_wp2_with fail
    refine wp_loop_rounds 1 ?_
    rw [rounds_succ]
    go_wp2_with fail
    go_ret
    exact ⟨_, rfl, RdI.nil _ _, B1⟩
  | succ m ih =>
    intro P v l w hr hm hsz
    obtain ⟨p, c, rfl, y1, y2, hat⟩ := (hr.any (Q := fun g => P g ∧ g < w.heap.size) (fun g hg hlt => ⟨hg, hlt⟩)).at
    have T : Hid (∀ j (hj : j < l.length), ∃ b o kv, p = some ⟨b, o, none⟩ ∧ (P b ∧ b < w.heap.size) ∧ ItAt w b (o + j * 8) l[j] kv ∧ RdI w (fun g => P g ∧ g < w.heap.size) kv l[j].kids) := hat
    have ZM : Hid (∀ j (hj : j < l.length), (nodesL l[j].kids).length ≤ m ∧ (nodesL l[j].kids).length ≤ 800000) := fun j hj => by have := nodesL_lt l j hj; omega
    have ZL : Hid (l.length ≤ 800000) := by show _ ≤ _; have := top_few l; omega
    have B1 : Below w.heap.size w (w.alloc (.cells #[.int .i64 (y.node : Int), .int .i64 y.role, .string y.name, .string y.about, .int .i64 y.level, .int .i64 y.checked, .bool y.off, .slice yp yn yc] 27)) := (Below.refl _ _).alloc (Nat.le_refl _) _
    have BX := box8_new w (.int .i64 (y.node : Int)) (.int .i64 y.role) (.string y.name) (.string y.about) (.int .i64 y.level) (.int .i64 y.checked) (.bool y.off) (.slice yp yn yc) 27
    have z1 : (w.alloc (.cells #[.int .i64 (y.node : Int), .int .i64 y.role, .string y.name, .string y.about, .int .i64 y.level, .int .i64 y.checked, .bool y.off, .slice yp yn yc] 27)).heap.size = w.heap.size + 1 := by simp
    clear hr hat hm hsz
    go_enter Try.func9, Try.ntmps9
    go_upto_region 1 with fail
    generalize w.alloc (.cells #[.int .i64 (y.node : Int), .int .i64 y.role, .string y.name, .string y.about, .int .i64 y.level, .int .i64 y.checked, .bool y.off, .slice yp yn yc] 27) = W0 at *
    have HB1 : Hid (Below w.heap.size w W0) := B1
    have HBX : Hid (Box8 w.heap.size (.int .i64 (y.node : Int)) (.int .i64 y.role) (.string y.name) (.string y.about) (.int .i64 y.level) (.int .i64 y.checked) (.bool y.off) (.slice yp yn yc) W0) := BX
    have Z1 : Hid (W0.heap.size = w.heap.size + 1) := z1
    clear B1 BX z1
    go_wp2_with fail
    go_loopw [7, 13] (fun vo iv wr => ∃ j : Nat, j ≤ l.length ∧ iv = .int .i64 j ∧ Hid (OwnR wr (w.heap.size + 1) (fun g => (P g ∧ g < w.heap.size) ∨ w.heap.size < g) vo (telL n y (l.take j))) ∧ Hid (Below (w.heap.size + 1) W0 wr)) (fun _ iv _ => l.length - (intOf iv).toNat)
    case atStart => exact ⟨0, Nat.zero_le _, rfl, (by show OwnR _ _ _ _ _; simpa [telL] using OwnR.nil _ _ _), Below.refl _ _⟩
    case round =>
      obtain ⟨j, hj, rfl, HO, HBr⟩ := hrel
      by_cases hlt : j < l.length
      · obtain ⟨b, o, kv, rfl, hb, hc, hk⟩ := T.out j hlt
        have kb : Keeps w wr := fun a v hv => keeps_below HBr.out (by have := Z1.out; omega) _ _ (keeps_below HB1.out (Nat.le_refl _) _ _ hv)
        have c0 := kb _ _ hc.c0
        have c1 := kb _ _ hc.c1
        have c2 := kb _ _ hc.c2
        have c3 := kb _ _ hc.c3
        have c4 := kb _ _ hc.c4
        have c5 := kb _ _ hc.c5
        have c6 := kb _ _ hc.c6
        have c7 := kb _ _ hc.c7
        have HE : Hid (telL n y (l.take (j + 1)) = telL n y (l.take j) ++ [tel1 n y l[j]]) := telL_take n y l j hlt
        have HY : Hid ((l[j].node ≠ n → tel1 n y l[j] = l[j].with (telL n y l[j].kids)) ∧ (l[j].node = n → tel1 n y l[j] = y.with (telL n y l[j].kids))) := ⟨tel1_no, tel1_yes⟩
        have hzr : w.heap.size + 1 ≤ wr.heap.size := by have := HBr.out.size; have := Z1.out; omega
        have hkr : RdI wr (fun g => P g ∧ g < w.heap.size) kv l[j].kids := (hk.under HB1.out).under (HBr.out.mono (by have := Z1.out; omega))
        have HTL : Hid ((telL n y (l.take j)).length = j) := by show _ = _; rw [tel_map, List.length_map, List.length_take]; omega
        obtain ⟨pk, ck, rfl⟩ := hk.shape
        have HM := ZM.out j hlt
        clear hc hk kb
        generalize telL n y (l.take j) = outj at *
        generalize tel1 n y l[j] = tj at *
        generalize l[j] = x at *
        have BXr := HBX.out.keeps (fun i v => keeps_below HBr.out (by have := Z1.out; omega) _ _)
        have B2 : Below wr.heap.size wr (wr.alloc (.cells #[.int .i64 (x.node : Int), .int .i64 x.role, .string x.name, .string x.about, .int .i64 x.level, .int .i64 x.checked, .bool x.off, .slice pk x.kids.length ck] 27)) := (Below.refl _ _).alloc (Nat.le_refl _) _
        have BY := box8_new wr (.int .i64 (x.node : Int)) (.int .i64 x.role) (.string x.name) (.string x.about) (.int .i64 x.level) (.int .i64 x.checked) (.bool x.off) (.slice pk x.kids.length ck) 27
        have zy : (wr.alloc (.cells #[.int .i64 (x.node : Int), .int .i64 x.role, .string x.name, .string x.about, .int .i64 x.level, .int .i64 x.checked, .bool x.off, .slice pk x.kids.length ck] 27)).heap.size = wr.heap.size + 1 := by simp
        have fy : ∀ i, (wr.alloc (.cells #[.int .i64 (x.node : Int), .int .i64 x.role, .string x.name, .string x.about, .int .i64 x.level, .int .i64 x.checked, .bool x.off, .slice pk x.kids.length ck] 27)).frozen? ⟨wr.heap.size, i, none⟩ = false := fun i => World.frozen?_alloc_new _ _ _ _
        have IC := ih (fun g => P g ∧ g < w.heap.size) (.slice pk x.kids.length ck) x.kids _ (hkr.under B2) HM.1 HM.2
        have BX2 := BXr.keeps (fun i v => keeps_below B2 (Nat.le_refl _) _ _)
        go_upto_region 5 with fail
        generalize wr.alloc (.cells #[.int .i64 (x.node : Int), .int .i64 x.role, .string x.name, .string x.about, .int .i64 x.level, .int .i64 x.checked, .bool x.off, .slice pk x.kids.length ck] 27) = W2 at *
        have HB2 : Hid (Below wr.heap.size wr W2) := B2
        have ZY : Hid (W2.heap.size = wr.heap.size + 1) := zy
        have HBY : Hid (Box8 wr.heap.size (.int .i64 (x.node : Int)) (.int .i64 x.role) (.string x.name) (.string x.about) (.int .i64 x.level) (.int .i64 x.checked) (.bool x.off) (.slice pk x.kids.length ck) W2) := BY
        have HBX2 : Hid (Box8 w.heap.size (.int .i64 (y.node : Int)) (.int .i64 y.role) (.string y.name) (.string y.about) (.int .i64 y.level) (.int .i64 y.checked) (.bool y.off) (.slice yp yn yc) W2) := BX2
        have HFY : Hid (∀ i, W2.frozen? ⟨wr.heap.size, i, none⟩ = false) := fy
        obtain ⟨d0, d1, d2, d3, d4, d5, d6, d7⟩ := BY
        obtain ⟨e0, e1, e2, e3, e4, e5, e6, e7⟩ := BX2
        clear c0 c1 c2 c3 c4 c5 c6 c7 B2 BXr zy hkr fy
        have HO2 := HO.out.below HB2.out
        go_upto_region 6 with (go_at_call 9; refine IC.mono ?_; clear IC; rintro e w5 ⟨v5, rfl, t1, t2⟩; have R5 : Hid (RdI w5 (fun g => (P g ∧ g < w.heap.size) ∨ W2.heap.size ≤ g) v5 (telL n y x.kids)) := t1.any (fun g hg _ => by rcases hg with hg | hg; exact Or.inl hg.1; exact Or.inr hg); have B5 : Hid (Below W2.heap.size W2 w5) := t2; obtain ⟨p5, c5, rfl⟩ := t1.shape; have HBY5 := HBY.out.keeps (fun i v => keeps_below t2 (Nat.le_refl _) _ _); have HBX5 := HBX2.out.keeps (fun i v => keeps_below t2 (Nat.le_refl _) _ _); have HO5 : Hid (OwnR w5 (w.heap.size + 1) (fun g => (P g ∧ g < w.heap.size) ∨ w.heap.size < g) u7 outj) := HO2.below t2; have F5 : ∀ i, w5.frozen? ⟨wr.heap.size, i, none⟩ = false := (fun i => (t2.frozen (p := ⟨wr.heap.size, i, none⟩) (by have := ZY.out; simp only; omega)).trans (HFY.out i)); clear t1 t2)
        by_cases hx : x.node = n
        · have hxe : ((x.node : Int) == (n : Int)) = true := by rw [beq_iff_eq]; omega
          have HX : Hid (x.node = n) := hx
          have HBX9 := (show Hid _ from HBY5)
          obtain ⟨a0, a1, a2, a3, a4, a5, a6, a7⟩ := HBY5
          obtain ⟨e0, e1, e2, e3, e4, e5, e6, e7⟩ := HBX5
          have f0 := F5 0
          have f1 := F5 1
          have f2 := F5 2
          have f3 := F5 3
          have f4 := F5 4
          have f5 := F5 5
          have f6 := F5 6
          have f7 := F5 7
          clear d0 d1 d2 d3 d4 d5 d6 d7 hx F5
          go_upto_region 9 with fail
          obtain ⟨w6, hw6, HY6, fr6, z6, os6⟩ := set9 HBX9.out (.int .i64 (y.node : Int)) (.int .i64 y.role) (.string y.name) (.string y.about) (.int .i64 y.level) (.int .i64 y.checked) (.bool y.off) (.slice yp yn yc) (.slice p5 (telL n y x.kids).length c5)
          rw [hw6]
          have FR6 : Hid (∀ g, g < w5.heap.size → g ≠ wr.heap.size → w6.heap[g]? = w5.heap[g]?) := fun g _ hne => fr6 g hne
          have Z6 : Hid (w6.heap.size = w5.heap.size) := z6
          have OS6 : Hid (w6.os = w5.os ∧ w6.tape = w5.tape ∧ w6.output = w5.output) := os6
          clear a0 a1 a2 a3 a4 a5 a6 a7 f0 f1 f2 f3 f4 f5 f6 f7 hw6 fr6 z6 os6 e0 e1 e2 e3 e4 e5 e6 e7
          have hx := HX.out
          have hz6 : w6.heap.size = w5.heap.size := Z6.out
          have hz5 := B5.out.size
          have hzY := ZY.out
          have HO6 : OwnR w6 (w.heap.size + 1) (fun g => (P g ∧ g < w.heap.size) ∨ w.heap.size < g) u7 outj := HO.out.frame (fun b e => by
            have hb := (HO.out.lt b e).2
            rw [FR6.out b (by omega) (by omega), B5.out.block b (by omega)]
            exact HB2.out.block b hb) (fun g hg hlt => by
            rw [FR6.out g (by omega) (by omega), B5.out.block g (by omega)]
            exact ⟨HB2.out.block g hlt, hg⟩)
          have R6 : RdI w6 (fun g => ((P g ∧ g < w.heap.size) ∨ w.heap.size < g) ∧ some g ≠ u7.ownBlock) (.slice p5 (telL n y x.kids).length c5) (telL n y x.kids) := R5.out.frame (fun g hg hlt => by
            have hne : g ≠ wr.heap.size := fun e => by rcases hg with hg | hg <;> omega
            refine ⟨FR6.out g hlt hne, ?_, fun e => ?_⟩
            · rcases hg with hg | hg
              · exact Or.inl hg
              · exact Or.inr (by omega)
            · have := HO.out.lt g e.symm
              rcases hg with hg | hg <;> omega)
          have E6 : Hid (tj = y.with (telL n y x.kids)) := HY.out.2 hx
          have KB6 : RdI w6 (fun g => ((P g ∧ g < w.heap.size) ∨ w.heap.size < g) ∧ some g ≠ u7.ownBlock) (.slice p5 (telL n y x.kids).length c5) tj.kids := by rw [E6.out, with_kids]; exact R6
          have hzz : outj.length ≤ 1000000 := by have h1 := HTL.out; have h2 := ZL.out; omega
          have hB6 : w.heap.size + 1 ≤ w6.heap.size := by omega
          have HB6 : Hid (Below (w.heap.size + 1) W0 w6) := ⟨by rw [OS6.out.1, B5.out.os, HB2.out.os, HBr.out.os], by rw [OS6.out.2.1, B5.out.tape, HB2.out.tape, HBr.out.tape], by rw [OS6.out.2.2, B5.out.output, HB2.out.output, HBr.out.output], by have := HBr.out.size; omega, fun k hk => by rw [FR6.out k (by omega) (by omega), B5.out.block k (by omega), HB2.out.block k (by omega)]; exact HBr.out.block k hk⟩
          obtain ⟨d0, d1, d2, d3, d4, d5, d6, d7⟩ := HY6
          clear HO2 R6 hz6 hz5 hzY
          go_wp2_with (at_builtin; refine append_itR (wr := w6) (y := tj) (kv := .slice p5 (telL n y x.kids).length c5) rfl _ _ rfl rfl rfl HO6 KB6 (by rw [E6.out, itc_with]) hB6 hzz ?_; intro v8 w8 o8 g8 l8)
          go_roundw
          case rel =>
            refine ⟨j + 1, by omega, by go_num, (by show OwnR _ _ _ _ _; rw [HE.out]; exact o8), ?_⟩
            have hlt8 := HO6.lt
            exact ⟨g8.os.trans HB6.out.os, g8.tape.trans HB6.out.tape, g8.output.trans HB6.out.output, Nat.le_trans HB6.out.size g8.size, fun k hk => (g8.block k (by have := HB6.out.size; have := Z1.out; omega) (fun e => by have := hlt8 k e.symm; omega)).trans (HB6.out.block k hk)⟩
          case measure => simp [intOf]; omega
        · have hxe : ((x.node : Int) == (n : Int)) = false := by rw [beq_eq_false_iff_ne]; omega
          have HX : Hid (x.node ≠ n) := hx
          obtain ⟨a0, a1, a2, a3, a4, a5, a6, a7⟩ := HBY5
          have f7 := F5 7
          clear d0 d1 d2 d3 d4 d5 d6 d7 e0 e1 e2 e3 e4 e5 e6 e7 hx F5 HBX5
          go_upto_region 9 with fail
          have HY6 : Box8 wr.heap.size (.int .i64 (x.node : Int)) (.int .i64 x.role) (.string x.name) (.string x.about) (.int .i64 x.level) (.int .i64 x.checked) (.bool x.off) (.slice p5 (telL n y x.kids).length c5) (w5.setCell ⟨wr.heap.size, 7, none⟩ (.slice p5 (telL n y x.kids).length c5)) := by
            refine ⟨?_, ?_, ?_, ?_, ?_, ?_, ?_, World.cell?_setCell_same _ _ _ a7⟩ <;> (rw [World.cell?_setCell_other _ _ _ _ (by intro e; cases e)]; assumption)
          have FR6 : Hid (∀ g, g < w5.heap.size → g ≠ wr.heap.size → (w5.setCell ⟨wr.heap.size, 7, none⟩ (.slice p5 (telL n y x.kids).length c5)).heap[g]? = w5.heap[g]?) := fun g _ hne => heap_setCell_other _ _ _ _ hne
          have Z6 : Hid ((w5.setCell ⟨wr.heap.size, 7, none⟩ (.slice p5 (telL n y x.kids).length c5)).heap.size = w5.heap.size) := by show _ = _; simp
          have OS6 : Hid ((w5.setCell ⟨wr.heap.size, 7, none⟩ (.slice p5 (telL n y x.kids).length c5)).os = w5.os ∧ (w5.setCell ⟨wr.heap.size, 7, none⟩ (.slice p5 (telL n y x.kids).length c5)).tape = w5.tape ∧ (w5.setCell ⟨wr.heap.size, 7, none⟩ (.slice p5 (telL n y x.kids).length c5)).output = w5.output) := by
            have hb := (Below.refl 0 w5).setCell (p := ⟨wr.heap.size, 7, none⟩) (Nat.zero_le _) (.slice p5 (telL n y x.kids).length c5)
            exact ⟨hb.os, hb.tape, hb.output⟩
          clear a0 a1 a2 a3 a4 a5 a6 a7 f7
          generalize w5.setCell ⟨wr.heap.size, 7, none⟩ (.slice p5 (telL n y x.kids).length c5) = w6 at *
          have hx := HX.out

          have hz6 : w6.heap.size = w5.heap.size := Z6.out
          have hz5 := B5.out.size
          have hzY := ZY.out
          have HO6 : OwnR w6 (w.heap.size + 1) (fun g => (P g ∧ g < w.heap.size) ∨ w.heap.size < g) u7 outj := HO.out.frame (fun b e => by
            have hb := (HO.out.lt b e).2
            rw [FR6.out b (by omega) (by omega), B5.out.block b (by omega)]
            exact HB2.out.block b hb) (fun g hg hlt => by
            rw [FR6.out g (by omega) (by omega), B5.out.block g (by omega)]
            exact ⟨HB2.out.block g hlt, hg⟩)
          have R6 : RdI w6 (fun g => ((P g ∧ g < w.heap.size) ∨ w.heap.size < g) ∧ some g ≠ u7.ownBlock) (.slice p5 (telL n y x.kids).length c5) (telL n y x.kids) := R5.out.frame (fun g hg hlt => by
            have hne : g ≠ wr.heap.size := fun e => by rcases hg with hg | hg <;> omega
            refine ⟨FR6.out g hlt hne, ?_, fun e => ?_⟩
            · rcases hg with hg | hg
              · exact Or.inl hg
              · exact Or.inr (by omega)
            · have := HO.out.lt g e.symm
              rcases hg with hg | hg <;> omega)
          have E6 : Hid (tj = x.with (telL n y x.kids)) := HY.out.1 hx
          have KB6 : RdI w6 (fun g => ((P g ∧ g < w.heap.size) ∨ w.heap.size < g) ∧ some g ≠ u7.ownBlock) (.slice p5 (telL n y x.kids).length c5) tj.kids := by rw [E6.out, with_kids]; exact R6
          have hzz : outj.length ≤ 1000000 := by have h1 := HTL.out; have h2 := ZL.out; omega
          have hB6 : w.heap.size + 1 ≤ w6.heap.size := by omega
          have HB6 : Hid (Below (w.heap.size + 1) W0 w6) := ⟨by rw [OS6.out.1, B5.out.os, HB2.out.os, HBr.out.os], by rw [OS6.out.2.1, B5.out.tape, HB2.out.tape, HBr.out.tape], by rw [OS6.out.2.2, B5.out.output, HB2.out.output, HBr.out.output], by have := HBr.out.size; omega, fun k hk => by rw [FR6.out k (by omega) (by omega), B5.out.block k (by omega), HB2.out.block k (by omega)]; exact HBr.out.block k hk⟩
          obtain ⟨d0, d1, d2, d3, d4, d5, d6, d7⟩ := HY6
          clear HO2 R6 hz6 hz5 hzY
          go_wp2_with (at_builtin; refine append_itR (wr := w6) (y := tj) (kv := .slice p5 (telL n y x.kids).length c5) rfl _ _ rfl rfl rfl HO6 KB6 (by rw [E6.out, itc_with]) hB6 hzz ?_; intro v8 w8 o8 g8 l8)
          go_roundw
          case rel =>
            refine ⟨j + 1, by omega, by go_num, (by show OwnR _ _ _ _ _; rw [HE.out]; exact o8), ?_⟩
            have hlt8 := HO6.lt
            exact ⟨g8.os.trans HB6.out.os, g8.tape.trans HB6.out.tape, g8.output.trans HB6.out.output, Nat.le_trans HB6.out.size g8.size, fun k hk => (g8.block k (by have := HB6.out.size; have := Z1.out; omega) (fun e => by have := hlt8 k e.symm; omega)).trans (HB6.out.block k hk)⟩
          case measure => simp [intOf]; omega
      · obtain rfl : j = l.length := by omega
        rw [List.take_length] at HO
        go_wp2_with fail
        go_ret
        refine ⟨_, rfl, HO.out.rd (fun g hg _ => by rcases hg with hg | hg; exact Or.inl hg; exact Or.inr (by omega)) (fun b hb => Or.inr (by omega)), ?_⟩
        exact HB1.out.trans (HBr.out.mono (by omega))
end Go.Proofs.Ytgpckmolcdafcaf

/-
  PLAIN MATHEMATICS of events: how the reference cuts an item out, pastes it in, and tells what is under it, where nodes are unlike.
-/
namespace Go.Proofs.Ytgpckmolcdafcaf

theorem nodesL_cons (x : It) (xs : List It) : nodesL (x :: xs) = nodes1 x ++ nodesL xs := by rw [nodesL]
end Go.Proofs.Ytgpckmolcdafcaf

/-
  THE WALKS of the reference's Has; of cut.
-/
namespace Go.Proofs.Ytgpckmolcdafcaf
open Go.RowKit

theorem has_int (l : List It) (k : Int) : (nodesZ (ofIts l)).contains k = hasI l k := by
  rw [nodes_of.2]
  unfold hasI
  rw [Bool.eq_iff_iff, List.contains_iff_mem, List.mem_map, Bool.and_eq_true, decide_eq_true_eq, List.contains_iff_mem]
  constructor
  · rintro ⟨m, hm, rfl⟩
    exact ⟨by omega, by simpa using hm⟩
  · rintro ⟨h1, h2⟩
    exact ⟨k.toNat, h2, by omega⟩
set_option maxHeartbeats 800000 in
theorem uhas_any {w : World} {P : Nat → Prop} {v : Value} {l : List It} (h : RdI w P v l) (hz : (nodesL l).length ≤ 500000) (k : Int) :
    Calls Try.prog 6 #[v, .int .i64 k] w fun e w' => e = .returned (.bool (hasI l k)) ∧ Below w.heap.size w w' := by
  have hzl : (nodesZ (ofIts l)).length = (nodesL l).length := by rw [nodes_of.2, List.length_map]
  have C := unodes_any (nodesZ (ofIts l)).length v (ofIts l) w h (Nat.le_refl _) (by omega)
  have HH : Hid ((nodesZ (ofIts l)).contains k = hasI l k) := has_int l k
  obtain ⟨p, c, rfl⟩ := h.shape
  clear h hz hzl
  generalize nodesZ (ofIts l) = L at *
  generalize hasI l k = r at *
  go_enter Try.func6, Try.ntmps6
  go_wp2_with (first
    | (go_at_call 12; refine C.mono ?_; clear C; rintro e w5 ⟨v5, rfl, ho5, hb5⟩; have C5 := qhasz_any (zs_of_owns ho5) k; rw [HH.out] at C5; obtain ⟨p5, c5, e5, _⟩ := (zs_of_owns ho5).at; subst e5)
    | (go_at_call 13; refine C5.mono ?_; clear C5; rintro e w6 ⟨rfl, hww⟩; subst hww))
  go_ret
  exact ⟨rfl, hb5⟩

/-- what is behind one that was looked through -/
theorem rm_next (n : Nat) (l : List It) (j : Nat) (h : j < l.length) : rmL n (l.take (j + 1)) = rmL n (l.take j) ++ rmL n [l[j]] := by
  rw [List.take_succ_eq_append_getElem h, rmL_app]
theorem rm_yes {n : Nat} {x : It} (h : x.node = n) : rmL n [x] = [] := by rw [rmL, if_pos h, rmL]
theorem rm_no {n : Nat} {x : It} (h : x.node ≠ n) : rmL n [x] = [x.with (rmL n x.kids)] := by rw [rmL, if_neg h, rm1_eq, rmL]
theorem rm_off {n : Nat} {x : It} (h : n ∉ nodes1 x) : rmL n [x] = [x] := by
  refine (rm_none n).2 [x] (fun hm => h ?_)
  rwa [nodesL_cons, show nodesL [] = [] from rfl, List.append_nil] at hm
theorem contains_next (n : Nat) (l : List It) (j : Nat) (h : j < l.length) : (nodesL (l.take (j + 1))).contains n = ((nodesL (l.take j)).contains n || (nodes1 l[j]).contains n) := by
  rw [List.take_succ_eq_append_getElem h, nodesL_app, nodesL_cons, show nodesL [] = [] from rfl, List.append_nil, Bool.eq_iff_iff, Bool.or_eq_true, List.contains_iff_mem, List.contains_iff_mem, List.contains_iff_mem, List.mem_append]
theorem contains1 (n : Nat) (x : It) : (nodes1 x).contains n = (decide (x.node = n) || (nodesL x.kids).contains n) := by
  rw [nodes1_eq, Bool.eq_iff_iff, Bool.or_eq_true, List.contains_iff_mem, List.contains_iff_mem, List.mem_cons, decide_eq_true_eq]
  constructor
  · rintro (h | h)
    · exact Or.inl h.symm
    · exact Or.inr h
  · rintro (h | h)
    · exact Or.inl h.symm
    · exact Or.inr h
/-- one node stands in one place -/
theorem apart_take {l : List It} (hu : Unlike l) {j : Nat} (h : j < l.length) {n : Nat} (h1 : n ∈ nodesL (l.take j)) : n ∉ nodes1 l[j] := fun h2 => by
  have hn : (nodesL (l.take (j + 1))).Nodup := by
    have e : l = l.take (j + 1) ++ l.drop (j + 1) := (List.take_append_drop _ _).symm
    unfold Unlike at hu
    rw [e, nodesL_app, List.nodup_append] at hu
    exact hu.1
  rw [List.take_succ_eq_append_getElem h, nodesL_app, List.nodup_append] at hn
  exact hn.2.2 n h1 n (by rw [nodesL_cons]; exact List.mem_append.mpr (Or.inl h2)) rfl
theorem unlike_kids {l : List It} (hu : Unlike l) {j : Nat} (h : j < l.length) : Unlike l[j].kids ∧ l[j].node ∉ nodesL l[j].kids := by
  have hn : (nodes1 l[j]).Nodup := by
    have e : l = l.take (j + 1) ++ l.drop (j + 1) := (List.take_append_drop _ _).symm
    unfold Unlike at hu
    rw [e, nodesL_app, List.nodup_append, List.take_succ_eq_append_getElem h, nodesL_app, List.nodup_append] at hu
    have := hu.1.2.1
    rwa [nodesL_cons, show nodesL [] = [] from rfl, List.append_nil] at this
  rw [nodes1_eq, List.nodup_cons] at hn
  exact ⟨hn.2, hn.1⟩
end Go.Proofs.Ytgpckmolcdafcaf

/-
  THE WALK of the reference's cut. (Laid by mkxcv.py.)
-/
namespace Go.Proofs.Ytgpckmolcdafcaf
open Go.RowKit

/-- what was found so far, if anything -/
structure Found (w : World) (F : Nat) (Q : Nat → Prop) (vo : Value) (n : Nat) (l : List It) (X : It) (kx : Value) : Prop where
  box : Box8 F (.int .i64 (X.node : Int)) (.int .i64 X.role) (.string X.name) (.string X.about) (.int .i64 X.level) (.int .i64 X.checked) (.bool X.off) kx w
  fz : ∀ i, w.frozen? ⟨F, i, none⟩ = false
  rd : RdI w (fun g => Q g ∧ some g ≠ vo.ownBlock) kx X.kids
  yes : n ∈ nodesL l → X ∈ itemL l ∧ X.node = n
  no : n ∉ nodesL l → X = item0

theorem Found.frame {w w' : World} {F : Nat} {Q : Nat → Prop} {vo vo' : Value} {n : Nat} {l l' : List It} {X : It} {kx : Value} (h : Found w F Q vo n l X kx) (hb : w'.heap[F]? = w.heap[F]?)
    (hq : ∀ g, Q g → some g ≠ vo.ownBlock → g < w.heap.size → w'.heap[g]? = w.heap[g]? ∧ some g ≠ vo'.ownBlock) (hy : n ∈ nodesL l' → X ∈ itemL l' ∧ X.node = n) (hn : n ∉ nodesL l' → X = item0) : Found w' F Q vo' n l' X kx :=
  ⟨h.box.keeps (fun i v hv => by rw [← hv]; exact World.cell?_of_block (a := ⟨F, i, none⟩) hb), fun i => (World.frozen?_of_block (a := ⟨F, i, none⟩) hb).trans (h.fz i), h.rd.frame (fun g hg hlt => ⟨(hq g hg.1 hg.2 hlt).1, hg.1, (hq g hg.1 hg.2 hlt).2⟩), hy, hn⟩
theorem Found.grown {w w' : World} {F : Nat} {Q : Nat → Prop} {vo vo' : Value} {n : Nat} {l : List It} {X : It} {kx : Value} (h : Found w F Q vo n l X kx) (hF : F < w.heap.size) (hne : vo.ownBlock ≠ some F) (hg : w.grownBy w' vo.ownBlock) (hl : vo'.ownBlock = vo.ownBlock ∨ ∃ q, w.heap.size ≤ q ∧ vo'.ownBlock = some q) : Found w' F Q vo' n l X kx :=
  h.frame (hg.block F hF (fun e => hne e.symm)) (fun g _ h2 h3 => ⟨hg.block g h3 h2, fun e => by
    rcases hl with e2 | ⟨q, h4, e2⟩
    · exact h2 (by rw [e, e2])
    · rw [e2] at e
      have := Option.some.inj e
      omega⟩) h.yes h.no
theorem set8 {N : Nat} {a0 a1 a2 a3 a4 a5 a6 a7 : Value} {w5 : World} (h : Box8 N a0 a1 a2 a3 a4 a5 a6 a7 w5) (v0 v1 v2 v3 v4 v5 v6 v7 : Value) : ∃ w6, ((((((((w5.setCell ⟨N, 0, none⟩ v0).setCell ⟨N, 1, none⟩ v1).setCell ⟨N, 2, none⟩ v2).setCell ⟨N, 3, none⟩ v3).setCell ⟨N, 4, none⟩ v4).setCell ⟨N, 5, none⟩ v5).setCell ⟨N, 6, none⟩ v6).setCell ⟨N, 7, none⟩ v7) = w6 ∧ Box8 N v0 v1 v2 v3 v4 v5 v6 v7 w6 ∧ (∀ g, g ≠ N → w6.heap[g]? = w5.heap[g]?) ∧ w6.heap.size = w5.heap.size ∧ w6.os = w5.os ∧ w6.tape = w5.tape ∧ w6.output = w5.output ∧ ∀ p, w6.frozen? p = w5.frozen? p := by
  refine ⟨_, rfl, (((((((h.put0 v0).put1 v1).put2 v2).put3 v3).put4 v4).put5 v5).put6 v6).put7 v7, fun g hg => ?_, by simp, ?_⟩
  · simp only [heap_setCell_other _ _ _ _ (show g ≠ (⟨N, _, none⟩ : Addr).block from hg)]
  · have hb := (((((((((Below.refl 0 w5).setCell (p := ⟨N, 0, none⟩) (Nat.zero_le _) v0).setCell (p := ⟨N, 1, none⟩) (Nat.zero_le _) v1).setCell (p := ⟨N, 2, none⟩) (Nat.zero_le _) v2).setCell (p := ⟨N, 3, none⟩) (Nat.zero_le _) v3).setCell (p := ⟨N, 4, none⟩) (Nat.zero_le _) v4).setCell (p := ⟨N, 5, none⟩) (Nat.zero_le _) v5).setCell (p := ⟨N, 6, none⟩) (Nat.zero_le _) v6).setCell (p := ⟨N, 7, none⟩) (Nat.zero_le _) v7)
    exact ⟨hb.os, hb.tape, hb.output, fun p => by simp⟩

set_option maxHeartbeats 6400000 in
set_option maxRecDepth 100000 in
theorem ucut_any (n : Nat) (m : Nat) : ∀ (P : Nat → Prop) (v : Value) (l : List It) (w : World), RdI w P v l → Unlike l → (nodesL l).length < m → (nodesL l).length ≤ 800000 →
    Calls Try.prog 14 #[v, .int .i64 (n : Int)] w fun e w' => ∃ v' X kx, e = .returned (.tuple #[v', itA X kx, .bool ((nodesL l).contains n)]) ∧ RdI w' (fun g => (P g ∧ g < w.heap.size) ∨ w.heap.size ≤ g) v' (rmL n l) ∧ RdI w' (fun g => (P g ∧ g < w.heap.size) ∨ w.heap.size ≤ g) kx X.kids ∧ (n ∈ nodesL l → X ∈ itemL l ∧ X.node = n) ∧ (n ∉ nodesL l → X = item0) ∧ Below w.heap.size w w' := by
  induction m with
  | zero => intro P v l w _ _ hm; omega
  | succ m ih =>
    intro P v l w hr hu hm hsz
    obtain ⟨p, c, rfl, y1, y2, hat⟩ := (hr.any (Q := fun g => P g ∧ g < w.heap.size) (fun g hg hlt => ⟨hg, hlt⟩)).at
    have T : Hid (∀ j (hj : j < l.length), ∃ b o kv, p = some ⟨b, o, none⟩ ∧ (P b ∧ b < w.heap.size) ∧ ItAt w b (o + j * 8) l[j] kv ∧ RdI w (fun g => P g ∧ g < w.heap.size) kv l[j].kids) := hat
    have ZM : Hid (∀ j (hj : j < l.length), (nodesL l[j].kids).length < m ∧ (nodesL l[j].kids).length ≤ 800000) := fun j hj => by have := nodesL_lt l j hj; omega
    have ZL : Hid (l.length ≤ 800000) := by show _ ≤ _; have := top_few l; omega
    have HU : Hid (Unlike l) := hu
    have B1 : Below w.heap.size w (w.alloc (.cells #[.int .i64 0, .int .i64 0, .string ⟨#[]⟩, .string ⟨#[]⟩, .int .i64 0, .int .i64 0, .bool false, .slice none 0 0] 27)) := (Below.refl _ _).alloc (Nat.le_refl _) _
    have z1 : (w.alloc (.cells #[.int .i64 0, .int .i64 0, .string ⟨#[]⟩, .string ⟨#[]⟩, .int .i64 0, .int .i64 0, .bool false, .slice none 0 0] 27)).heap.size = w.heap.size + 1 := by simp
    have r1 : (w.alloc (.cells #[.int .i64 0, .int .i64 0, .string ⟨#[]⟩, .string ⟨#[]⟩, .int .i64 0, .int .i64 0, .bool false, .slice none 0 0] 27)).heap[w.heap.size]? = some (.cells #[.int .i64 0, .int .i64 0, .string ⟨#[]⟩, .string ⟨#[]⟩, .int .i64 0, .int .i64 0, .bool false, .slice none 0 0] 27) := heap_alloc_new _ _
    have HSZ : Hid ((nodesL l).length ≤ 800000) := hsz
    clear hr hat hm hsz hu
    go_enter Try.func14, Try.ntmps14
    go_upto_region 1 with fail
    generalize w.alloc (.cells #[.int .i64 0, .int .i64 0, .string ⟨#[]⟩, .string ⟨#[]⟩, .int .i64 0, .int .i64 0, .bool false, .slice none 0 0] 27) = W0 at *
    have B2 : Below W0.heap.size W0 (W0.alloc (.cells #[.int .i64 0, .int .i64 0, .string ⟨#[]⟩, .string ⟨#[]⟩, .int .i64 0, .int .i64 0, .bool false, .slice none 0 0] 27)) := (Below.refl _ _).alloc (Nat.le_refl _) _
    have z2 : (W0.alloc (.cells #[.int .i64 0, .int .i64 0, .string ⟨#[]⟩, .string ⟨#[]⟩, .int .i64 0, .int .i64 0, .bool false, .slice none 0 0] 27)).heap.size = w.heap.size + 1 + 1 := by simp [z1]
    have X2 := box8_new W0 (.int .i64 0) (.int .i64 0) (.string ⟨#[]⟩) (.string ⟨#[]⟩) (.int .i64 0) (.int .i64 0) (.bool false) (.slice none 0 0) 27
    have f2 : ∀ i, (W0.alloc (.cells #[.int .i64 0, .int .i64 0, .string ⟨#[]⟩, .string ⟨#[]⟩, .int .i64 0, .int .i64 0, .bool false, .slice none 0 0] 27)).frozen? ⟨W0.heap.size, i, none⟩ = false := fun i => World.frozen?_alloc_new _ _ _ _
    rw [z1] at X2 f2
    have r2 : (W0.alloc (.cells #[.int .i64 0, .int .i64 0, .string ⟨#[]⟩, .string ⟨#[]⟩, .int .i64 0, .int .i64 0, .bool false, .slice none 0 0] 27)).heap[w.heap.size]? = some (.cells #[.int .i64 0, .int .i64 0, .string ⟨#[]⟩, .string ⟨#[]⟩, .int .i64 0, .int .i64 0, .bool false, .slice none 0 0] 27) := by rw [heap_alloc_old _ _ (by omega)]; exact r1
    go_upto_region 3 with fail
    generalize W0.alloc (.cells #[.int .i64 0, .int .i64 0, .string ⟨#[]⟩, .string ⟨#[]⟩, .int .i64 0, .int .i64 0, .bool false, .slice none 0 0] 27) = W1 at *
    have HB1 : Hid (Below w.heap.size w W1) := B1.trans (B2.mono B1.size)
    have HR1 : Hid (W1.heap[w.heap.size]? = some (.cells #[.int .i64 0, .int .i64 0, .string ⟨#[]⟩, .string ⟨#[]⟩, .int .i64 0, .int .i64 0, .bool false, .slice none 0 0] 27)) := r2
    have HZ1 : Hid (W1.heap.size = w.heap.size + 1 + 1) := z2
    have HX1 : Hid (Box8 (w.heap.size + 1) (.int .i64 0) (.int .i64 0) (.string ⟨#[]⟩) (.string ⟨#[]⟩) (.int .i64 0) (.int .i64 0) (.bool false) (.slice none 0 0) W1) := X2
    have HF1 : Hid (∀ i, W1.frozen? ⟨(w.heap.size + 1), i, none⟩ = false) := f2
    clear B1 z1 r1 B2 z2 X2 f2 r2
    go_wp2_with fail
    go_loopw [7, 9, 17] (fun vo ht iv wr => ∃ (j : Nat) (X : It) (kx : Value), j ≤ l.length ∧ iv = .int .i64 j ∧ ht = .bool ((nodesL (l.take j)).contains n) ∧ Hid (OwnR wr (w.heap.size + 1 + 1) (fun g => (P g ∧ g < w.heap.size) ∨ w.heap.size + 1 < g) vo (rmL n (l.take j))) ∧ Hid (Found wr (w.heap.size + 1) (fun g => (P g ∧ g < w.heap.size) ∨ w.heap.size + 1 < g) vo n (l.take j) X kx) ∧ Hid (Below w.heap.size w wr) ∧ Hid (wr.heap[w.heap.size]? = some (.cells #[.int .i64 0, .int .i64 0, .string ⟨#[]⟩, .string ⟨#[]⟩, .int .i64 0, .int .i64 0, .bool false, .slice none 0 0] 27)) ∧ Hid (w.heap.size + 1 + 1 ≤ wr.heap.size)) (fun _ _ iv _ => l.length - (intOf iv).toNat)
    case atStart =>
      refine ⟨0, item0, .slice none 0 0, Nat.zero_le _, rfl, rfl, (by show OwnR _ _ _ _ _; simpa [rmL] using OwnR.nil _ _ _), ⟨HX1.out, HF1.out, RdI.nil _ _, fun h => by simp [nodesL] at h, fun _ => rfl⟩, HB1.out, HR1.out, Nat.le_of_eq HZ1.out.symm⟩
    case round =>
      obtain ⟨j, X, kx, hj, rfl, rfl, HO, HFd, HBr, HR, HZ⟩ := hrel
      by_cases hlt : j < l.length
      · obtain ⟨b, o, kv, rfl, hb, hc, hk⟩ := T.out j hlt
        have kb : Keeps w wr := fun a v hv => keeps_below HBr.out (Nat.le_refl _) _ _ hv
        have c0 := kb _ _ hc.c0
        have c1 := kb _ _ hc.c1
        have c2 := kb _ _ hc.c2
        have c3 := kb _ _ hc.c3
        have c4 := kb _ _ hc.c4
        have c5 := kb _ _ hc.c5
        have c6 := kb _ _ hc.c6
        have c7 := kb _ _ hc.c7
        have hkr := hk.under HBr.out
        have HE1 : Hid (rmL n (l.take (j + 1)) = rmL n (l.take j) ++ rmL n [l[j]]) := rm_next n l j hlt
        have HE2 : Hid ((nodesL (l.take (j + 1))).contains n = ((nodesL (l.take j)).contains n || (nodes1 l[j]).contains n)) := contains_next n l j hlt
        have HE3 : Hid (n ∈ nodesL (l.take j) → n ∉ nodes1 l[j]) := apart_take HU.out hlt
        have HE4 : Hid (Unlike l[j].kids ∧ l[j].node ∉ nodesL l[j].kids) := unlike_kids HU.out hlt
        have HE5 : Hid (itemL (l.take (j + 1)) = itemL (l.take j) ++ item1 l[j]) := by show _ = _; rw [List.take_succ_eq_append_getElem hlt, itemL_app, show itemL [l[j]] = item1 l[j] from by rw [itemL, itemL, List.append_nil]]
        have HM := ZM.out j hlt
        have HLT : Hid (j < l.length) := hlt
        obtain ⟨pk, ck, rfl⟩ := hk.shape
        have hrl : (rmL n (l.take j)).length ≤ 1000000 := by
          have h1 := top_few (rmL n (l.take j))
          have h2 := ((rm_sub n).2 (l.take j)).length_le
          have h3 := nodesL_take_le l j
          have h4 := HSZ.out
          omega
        clear hc hk kb
        generalize l[j] = x at *
        have B2 : Below wr.heap.size wr (wr.alloc (.cells #[.int .i64 (x.node : Int), .int .i64 x.role, .string x.name, .string x.about, .int .i64 x.level, .int .i64 x.checked, .bool x.off, .slice pk x.kids.length ck] 27)) := (Below.refl _ _).alloc (Nat.le_refl _) _
        have BY := box8_new wr (.int .i64 (x.node : Int)) (.int .i64 x.role) (.string x.name) (.string x.about) (.int .i64 x.level) (.int .i64 x.checked) (.bool x.off) (.slice pk x.kids.length ck) 27
        have zy : (wr.alloc (.cells #[.int .i64 (x.node : Int), .int .i64 x.role, .string x.name, .string x.about, .int .i64 x.level, .int .i64 x.checked, .bool x.off, .slice pk x.kids.length ck] 27)).heap.size = wr.heap.size + 1 := by simp
        have fy : ∀ i, (wr.alloc (.cells #[.int .i64 (x.node : Int), .int .i64 x.role, .string x.name, .string x.about, .int .i64 x.level, .int .i64 x.checked, .bool x.off, .slice pk x.kids.length ck] 27)).frozen? ⟨wr.heap.size, i, none⟩ = false := fun i => World.frozen?_alloc_new _ _ _ _
        go_upto_region 7 with fail
        generalize wr.alloc (.cells #[.int .i64 (x.node : Int), .int .i64 x.role, .string x.name, .string x.about, .int .i64 x.level, .int .i64 x.checked, .bool x.off, .slice pk x.kids.length ck] 27) = W2 at *
        have HB2 : Hid (Below wr.heap.size wr W2) := B2
        have ZY : Hid (W2.heap.size = wr.heap.size + 1) := zy
        have HBY : Hid (Box8 wr.heap.size (.int .i64 (x.node : Int)) (.int .i64 x.role) (.string x.name) (.string x.about) (.int .i64 x.level) (.int .i64 x.checked) (.bool x.off) (.slice pk x.kids.length ck) W2) := BY
        have HFY : Hid (∀ i, W2.frozen? ⟨wr.heap.size, i, none⟩ = false) := fy
        have HKR : Hid (RdI wr (fun g => P g ∧ g < w.heap.size) (.slice pk x.kids.length ck) x.kids) := hkr
        clear c0 c1 c2 c3 c4 c5 c6 c7 B2 zy fy hkr
        obtain ⟨d0, d1, d2, d3, d4, d5, d6, d7⟩ := BY
        have HO2 : Hid (OwnR W2 (w.heap.size + 1 + 1) (fun g => (P g ∧ g < w.heap.size) ∨ w.heap.size + 1 < g) u7 (rmL n (l.take j))) := HO.out.below HB2.out
        have HFd2 : Hid (Found W2 (w.heap.size + 1) (fun g => (P g ∧ g < w.heap.size) ∨ w.heap.size + 1 < g) u7 n (l.take j) X kx) := HFd.out.frame (HB2.out.block _ (by have := HZ.out; omega)) (fun g _ h2 h3 => ⟨HB2.out.block g h3, h2⟩) HFd.out.yes HFd.out.no
        have HR2 : Hid (W2.heap[w.heap.size]? = some (.cells #[.int .i64 0, .int .i64 0, .string ⟨#[]⟩, .string ⟨#[]⟩, .int .i64 0, .int .i64 0, .bool false, .slice none 0 0] 27)) := (HB2.out.block _ (by have := HZ.out; omega)).trans HR.out
        have HBW2 : Hid (Below w.heap.size w W2) := HBr.out.trans (HB2.out.mono HBr.out.size)
        have HK2 : Hid (RdI W2 (fun g => P g ∧ g < w.heap.size) (.slice pk x.kids.length ck) x.kids) := HKR.out.under HB2.out
        have HLV : Hid (∀ g, u7.ownBlock = some g → w.heap.size + 1 + 1 ≤ g ∧ g < wr.heap.size) := HO.out.lt
        cases hth : (nodesL (l.take j)).contains n with
        | true =>
          have hin : n ∈ nodesL (l.take j) := by simpa using hth
          have hno := HE3.out hin
          have hxe : ((x.node : Int) == (n : Int)) = false := by
            rw [beq_eq_false_iff_ne]
            intro e
            exact hno (by rw [nodes1_eq]; exact List.mem_cons.mpr (Or.inl (by omega)))
          have EJ : Hid (rmL n (l.take (j + 1)) = rmL n (l.take j) ++ [x]) := by show _ = _; rw [HE1.out, rm_off hno]
          have EC : Hid ((nodesL (l.take (j + 1))).contains n = true) := by show _ = _; rw [HE2.out, hth]; rfl
          have HIN : Hid (n ∈ nodesL (l.take j)) := hin
          have KB : RdI W2 (fun g => ((P g ∧ g < w.heap.size) ∨ w.heap.size + 1 < g) ∧ some g ≠ u7.ownBlock) (.slice pk x.kids.length ck) x.kids := HK2.out.any (fun g hg _ => ⟨Or.inl hg, fun e => by have := HLV.out g e.symm; omega⟩)
          have hB2 : w.heap.size + 1 + 1 ≤ W2.heap.size := by have := HZ.out; have := ZY.out; omega
          have HO2' := HO2.out
          clear hth hin hno
          go_wp2_with (at_builtin; refine append_itR (wr := W2) (y := x) (kv := .slice pk x.kids.length ck) rfl _ _ rfl rfl rfl HO2' KB rfl hB2 hrl ?_; intro v8 w8 o8 g8 l8)
          go_roundw
          case rel =>
            refine ⟨j + 1, X, kx, by omega, by go_num, by rw [EC.out], (by show OwnR _ _ _ _ _; rw [EJ.out]; exact o8), ?_, ?_, ?_, ?_⟩
            · have h1 := HFd2.out.grown (by omega) (fun e => by have := HLV.out _ e; omega) g8 l8
              exact ⟨h1.box, h1.fz, h1.rd, fun _ => by
                obtain ⟨q1, q2⟩ := h1.yes HIN.out
                exact ⟨by rw [HE5.out]; exact List.mem_append.mpr (Or.inl q1), q2⟩, fun h2 => absurd (by have := EC.out; simpa using this) h2⟩
            · exact ⟨g8.os.trans HBW2.out.os, g8.tape.trans HBW2.out.tape, g8.output.trans HBW2.out.output, Nat.le_trans HBW2.out.size g8.size, fun k hk => (g8.block k (by have := HBW2.out.size; omega) (fun e => by have := HLV.out k e.symm; omega)).trans (HBW2.out.block k hk)⟩
            · show _ = _
              rw [g8.block _ (by omega) (fun e => by have := HLV.out _ e.symm; omega)]
              exact HR2.out
            · show _ ≤ _
              have := g8.size; omega
          case measure => simp [intOf]; omega
        | false =>
          by_cases hx : x.node = n
          · have hxe : ((x.node : Int) == (n : Int)) = true := by rw [beq_iff_eq]; omega
            have EJ : Hid (rmL n (l.take (j + 1)) = rmL n (l.take j)) := by show _ = _; rw [HE1.out, rm_yes hx, List.append_nil]
            have EC : Hid ((nodesL (l.take (j + 1))).contains n = true) := by show _ = _; rw [HE2.out, contains1, decide_eq_true hx]; simp
            have HX : Hid (x.node = n) := hx
            obtain ⟨a0, a1, a2, a3, a4, a5, a6, a7⟩ := HFd2.out.box
            have f0 := HFd2.out.fz 0
            have f1 := HFd2.out.fz 1
            have f2 := HFd2.out.fz 2
            have f3 := HFd2.out.fz 3
            have f4 := HFd2.out.fz 4
            have f5 := HFd2.out.fz 5
            have f6 := HFd2.out.fz 6
            have f7 := HFd2.out.fz 7
            clear hth hx hrl
            go_wp2_with fail
            obtain ⟨w6, hw6, HY6, fr6, z6, os6, tp6, ou6, fz6⟩ := set8 HFd2.out.box (.int .i64 (x.node : Int)) (.int .i64 x.role) (.string x.name) (.string x.about) (.int .i64 x.level) (.int .i64 x.checked) (.bool x.off) (.slice pk x.kids.length ck)
            rw [hw6]
            clear hw6 a0 a1 a2 a3 a4 a5 a6 a7 f0 f1 f2 f3 f4 f5 f6 f7
            go_roundw
            case rel =>
              have hz2 := HZ.out
              have hzy := ZY.out
              refine ⟨j + 1, x, .slice pk x.kids.length ck, by omega, by go_num, by rw [EC.out], ?_, ⟨HY6, fun i => by rw [fz6]; exact HFd2.out.fz i, ?_, fun _ => ⟨by rw [HE5.out]; exact List.mem_append.mpr (Or.inr (mem_item1.mpr (Or.inl rfl))), HX.out⟩, fun h2 => absurd (by have := EC.out; simpa using this) h2⟩, ?_, ?_, ?_⟩
              · show OwnR _ _ _ _ _
                rw [EJ.out]
                exact HO2.out.frame (fun b e => fr6 b (by have := HLV.out b e; omega)) (fun g hg hlt => ⟨fr6 g (by omega), hg⟩)
              · exact HK2.out.frame (fun g hg hlt => ⟨fr6 g (by omega), Or.inl hg, fun e => by have := HLV.out g e.symm; omega⟩)
              · exact ⟨os6.trans HBW2.out.os, tp6.trans HBW2.out.tape, ou6.trans HBW2.out.output, by rw [z6]; exact HBW2.out.size, fun k hk => (fr6 k (by omega)).trans (HBW2.out.block k hk)⟩
              · show _ = _
                rw [fr6 _ (by omega)]
                exact HR2.out
              · show _ ≤ _
                omega
            case measure => simp [intOf]; omega
          · have hxe : ((x.node : Int) == (n : Int)) = false := by rw [beq_eq_false_iff_ne]; omega
            have HX : Hid (x.node ≠ n) := hx
            have IC := ih (fun g => P g ∧ g < w.heap.size) (.slice pk x.kids.length ck) x.kids W2 HK2.out HE4.out.1 HM.1 HM.2
            unfold itA at IC
            have EQ : Hid ((nodes1 x).contains n = (nodesL x.kids).contains n) := by show _ = _; rw [contains1, decide_eq_false hx]; rfl
            have EJ : Hid (rmL n (l.take (j + 1)) = rmL n (l.take j) ++ [x.with (rmL n x.kids)]) := by show _ = _; rw [HE1.out, rm_no hx]
            have EC : Hid ((nodesL (l.take (j + 1))).contains n = (nodesL x.kids).contains n) := by show _ = _; rw [HE2.out, hth, EQ.out]; rfl
            clear hth hx
            cases hin : (nodesL x.kids).contains n with
            | false =>
              rw [hin] at IC
              have HIN : Hid (n ∉ nodesL x.kids) := (by simpa using hin : n ∉ nodesL x.kids)
              clear hin
              go_upto_region 11 with (go_at_call 14; refine IC.mono ?_; clear IC; rintro e w5 ⟨v5, X5, kx5, rfl, t1, t2, t3, t4, t5⟩; obtain ⟨p5, c5, rfl⟩ := t1.shape; obtain ⟨q5, b5, rfl⟩ := t2.shape; have HT1 := (show Hid _ from t1); have HT2 := (show Hid _ from t2); have HT3 := (show Hid _ from t3); have HT4 := (show Hid _ from t4); have HT5 : Hid (Below W2.heap.size W2 w5) := t5; clear t1 t2 t3 t4 t5)
              have B6 : Below w5.heap.size w5 (w5.alloc (.cells #[.int .i64 (X5.node : Int), .int .i64 X5.role, .string X5.name, .string X5.about, .int .i64 X5.level, .int .i64 X5.checked, .bool X5.off, .slice q5 X5.kids.length b5] 27)) := (Below.refl _ _).alloc (Nat.le_refl _) _
              have BZ := box8_new w5 (.int .i64 (X5.node : Int)) (.int .i64 X5.role) (.string X5.name) (.string X5.about) (.int .i64 X5.level) (.int .i64 X5.checked) (.bool X5.off) (.slice q5 X5.kids.length b5) 27
              have z6 : ((w5.alloc (.cells #[.int .i64 (X5.node : Int), .int .i64 X5.role, .string X5.name, .string X5.about, .int .i64 X5.level, .int .i64 X5.checked, .bool X5.off, .slice q5 X5.kids.length b5] 27))).heap.size = w5.heap.size + 1 := by simp
              generalize (w5.alloc (.cells #[.int .i64 (X5.node : Int), .int .i64 X5.role, .string X5.name, .string X5.about, .int .i64 X5.level, .int .i64 X5.checked, .bool X5.off, .slice q5 X5.kids.length b5] 27)) = w6 at *
              have hz5 := HT5.out.size
              have B26 : Below W2.heap.size W2 w6 := HT5.out.trans (B6.mono hz5)
              have HZ6 : Hid (W2.heap.size ≤ w6.heap.size) := B26.size
              have EX : Hid (x.with (rmL n x.kids) = x) := by show _ = _; rw [(rm_none n).2 _ HIN.out, with_self]
              have EJ2 : Hid (rmL n (l.take (j + 1)) = rmL n (l.take j) ++ [x]) := by show _ = _; rw [EJ.out, EX.out]
              have EC2 : Hid ((nodesL (l.take (j + 1))).contains n = false) := by show _ = _; rw [EC.out]; simpa using HIN.out
              have HOUT : Hid (n ∉ nodesL (l.take (j + 1))) := (by simpa using EC2.out : n ∉ nodesL (l.take (j + 1)))
              have HOUT0 : Hid (n ∉ nodesL (l.take j)) := fun hm => HOUT.out (by rw [List.take_succ_eq_append_getElem HLT.out, nodesL_app]; exact List.mem_append.mpr (Or.inl hm))
              have HO6 : Hid (OwnR w6 (w.heap.size + 1 + 1) (fun g => (P g ∧ g < w.heap.size) ∨ w.heap.size + 1 < g) u7 (rmL n (l.take j))) := HO2.out.below B26
              have HFd6 : Hid (Found w6 (w.heap.size + 1) (fun g => (P g ∧ g < w.heap.size) ∨ w.heap.size + 1 < g) u7 n (l.take (j + 1)) X kx) := HFd2.out.frame (B26.block _ (by have := HZ.out; have := ZY.out; omega)) (fun g _ h2 h3 => ⟨B26.block g h3, h2⟩) (fun h => absurd h HOUT.out) (fun _ => HFd2.out.no HOUT0.out)
              have HR6 : Hid (w6.heap[w.heap.size]? = some (.cells #[.int .i64 0, .int .i64 0, .string ⟨#[]⟩, .string ⟨#[]⟩, .int .i64 0, .int .i64 0, .bool false, .slice none 0 0] 27)) := (B26.block _ (by have := HZ.out; have := ZY.out; omega)).trans HR2.out
              have HBW6 : Hid (Below w.heap.size w w6) := HBW2.out.trans (B26.mono HBW2.out.size)
              have KB : RdI w6 (fun g => ((P g ∧ g < w.heap.size) ∨ w.heap.size + 1 < g) ∧ some g ≠ u7.ownBlock) (.slice pk x.kids.length ck) x.kids := (HK2.out.under B26).any (fun g hg _ => ⟨Or.inl hg, fun e => by have := HLV.out g e.symm; omega⟩)
              have BY6 := HBY.out.keeps (fun i v => keeps_below B26 (Nat.le_refl _) _ _)
              clear d0 d1 d2 d3 d4 d5 d6 d7 B6 B26 BZ z6 hz5
              obtain ⟨d0, d1, d2, d3, d4, d5, d6, d7⟩ := BY6
              have hB6 : w.heap.size + 1 + 1 ≤ w6.heap.size := by have := HZ6.out; have := HZ.out; have := ZY.out; omega
              have HO6' := HO6.out
              have HLV6 : Hid (∀ g, u7.ownBlock = some g → w.heap.size + 1 + 1 ≤ g ∧ g < wr.heap.size) := HLV.out
              go_wp2_with (at_builtin; refine append_itR (wr := w6) (y := x) (kv := .slice pk x.kids.length ck) rfl _ _ rfl rfl rfl HO6' KB rfl hB6 hrl ?_; intro v8 w8 o8 g8 l8)
              go_roundw
              case rel =>
                have hz6 := HZ6.out
                have hz := HZ.out
                have hzy := ZY.out
                refine ⟨j + 1, X, kx, by omega, by go_num, by rw [EC2.out], (by show OwnR _ _ _ _ _; rw [EJ2.out]; exact o8), ?_, ?_, ?_, ?_⟩
                · exact HFd6.out.grown (by omega) (fun e => by have := HLV6.out _ e; omega) g8 l8
                · exact ⟨g8.os.trans HBW6.out.os, g8.tape.trans HBW6.out.tape, g8.output.trans HBW6.out.output, Nat.le_trans HBW6.out.size g8.size, fun k hk => (g8.block k (by have := HBW6.out.size; omega) (fun e => by have := HLV6.out k e.symm; omega)).trans (HBW6.out.block k hk)⟩
                · show _ = _
                  rw [g8.block _ (by omega) (fun e => by have := HLV6.out _ e.symm; omega)]
                  exact HR6.out
                · show _ ≤ _
                  have := g8.size; omega
              case measure => simp [intOf]; omega
            | true =>
              rw [hin] at IC
              have HIN : Hid (n ∈ nodesL x.kids) := (by simpa using hin : n ∈ nodesL x.kids)
              have EC2 : Hid ((nodesL (l.take (j + 1))).contains n = true) := EC.out.trans hin
              clear hin
              go_upto_region 11 with (go_at_call 14; refine IC.mono ?_; clear IC; rintro e w5 ⟨v5, X5, kx5, rfl, t1, t2, t3, t4, t5⟩; obtain ⟨p5, c5, rfl⟩ := t1.shape; obtain ⟨q5, b5, rfl⟩ := t2.shape; have HT1 := (show Hid _ from t1); have HT2 := (show Hid _ from t2); have HT3 := (show Hid _ from t3); have HT5 : Hid (Below W2.heap.size W2 w5) := t5; clear t1 t2 t3 t4 t5)
              have B6 : Below w5.heap.size w5 (w5.alloc (.cells #[.int .i64 (X5.node : Int), .int .i64 X5.role, .string X5.name, .string X5.about, .int .i64 X5.level, .int .i64 X5.checked, .bool X5.off, .slice q5 X5.kids.length b5] 27)) := (Below.refl _ _).alloc (Nat.le_refl _) _
              have BZ := box8_new w5 (.int .i64 (X5.node : Int)) (.int .i64 X5.role) (.string X5.name) (.string X5.about) (.int .i64 X5.level) (.int .i64 X5.checked) (.bool X5.off) (.slice q5 X5.kids.length b5) 27
              have z6 : ((w5.alloc (.cells #[.int .i64 (X5.node : Int), .int .i64 X5.role, .string X5.name, .string X5.about, .int .i64 X5.level, .int .i64 X5.checked, .bool X5.off, .slice q5 X5.kids.length b5] 27))).heap.size = w5.heap.size + 1 := by simp
              generalize (w5.alloc (.cells #[.int .i64 (X5.node : Int), .int .i64 X5.role, .string X5.name, .string X5.about, .int .i64 X5.level, .int .i64 X5.checked, .bool X5.off, .slice q5 X5.kids.length b5] 27)) = w6 at *
              have hz5 := HT5.out.size
              have B26 : Below W2.heap.size W2 w6 := HT5.out.trans (B6.mono hz5)
              have HZ6 : Hid (W2.heap.size ≤ w6.heap.size) := B26.size
              have BY6 := HBY.out.keeps (fun i v => keeps_below B26 (Nat.le_refl _) _ _)
              have HFd6 := HFd2.out.frame (w' := w6) (vo' := u7) (B26.block _ (by have := HZ.out; have := ZY.out; omega)) (fun g _ h2 h3 => ⟨B26.block g h3, h2⟩) HFd2.out.yes HFd2.out.no
              have g7 : w6.frozen? ⟨wr.heap.size, 7, none⟩ = false := (B26.frozen (p := ⟨wr.heap.size, 7, none⟩) (by have := ZY.out; simp only; omega)).trans (HFY.out 7)
              clear d0 d1 d2 d3 d4 d5 d6 d7
              obtain ⟨d0, d1, d2, d3, d4, d5, d6, d7⟩ := BY6
              obtain ⟨a0, a1, a2, a3, a4, a5, a6, a7⟩ := HFd6.box
              obtain ⟨e0, e1, e2, e3, e4, e5, e6, e7⟩ := BZ
              have f0 := HFd6.fz 0
              have f1 := HFd6.fz 1
              have f2 := HFd6.fz 2
              have f3 := HFd6.fz 3
              have f4 := HFd6.fz 4
              have f5 := HFd6.fz 5
              have f6 := HFd6.fz 6
              have f7 := HFd6.fz 7
              have HB26 : Hid (Below W2.heap.size W2 w6) := B26
              have HFX6 := (show Hid _ from HFd6)
              have HB56 : Hid (Below w5.heap.size w5 w6) := B6
              have n1 : ¬ wr.heap.size = w5.heap.size := by have := ZY.out; omega
              have n2 : ¬ w5.heap.size = wr.heap.size := fun e => n1 e.symm
              have n3 : ¬ wr.heap.size = w.heap.size + 1 := by have := HZ.out; omega
              have n4 : ¬ w.heap.size + 1 = wr.heap.size := fun e => n3 e.symm
              have n5 : ¬ w5.heap.size = w.heap.size + 1 := by have := HZ.out; have := ZY.out; omega
              have n6 : ¬ w.heap.size + 1 = w5.heap.size := fun e => n5 e.symm
              clear B26 B6 HFd6 z6 hz5
              go_upto_region 12 with fail
              go_region
              obtain ⟨w9, hw9, HF9, fr9, z9, os9, tp9, ou9, fz9⟩ := set8 (w5 := w6.setCell ⟨wr.heap.size, 7, none⟩ (.slice p5 (rmL n x.kids).length c5)) (HFX6.out.box.keeps (fun i v hv => by rw [World.cell?_setCell_other _ _ _ _ (by intro e; first | exact n3 (congrArg Addr.block e) | exact n4 (congrArg Addr.block e))]; exact hv)) (.int .i64 (X5.node : Int)) (.int .i64 X5.role) (.string X5.name) (.string X5.about) (.int .i64 X5.level) (.int .i64 X5.checked) (.bool X5.off) (.slice q5 X5.kids.length b5)
              rw [hw9]
              have HY9 : Box8 wr.heap.size (.int .i64 (x.node : Int)) (.int .i64 x.role) (.string x.name) (.string x.about) (.int .i64 x.level) (.int .i64 x.checked) (.bool x.off) (.slice p5 (rmL n x.kids).length c5) w9 := by
                have h7 : Box8 wr.heap.size (.int .i64 (x.node : Int)) (.int .i64 x.role) (.string x.name) (.string x.about) (.int .i64 x.level) (.int .i64 x.checked) (.bool x.off) (.slice p5 (rmL n x.kids).length c5) (w6.setCell ⟨wr.heap.size, 7, none⟩ (.slice p5 (rmL n x.kids).length c5)) := Box8.put7 (a7 := .slice pk x.kids.length ck) ⟨d0, d1, d2, d3, d4, d5, d6, d7⟩ _
                exact h7.keeps (fun i v hv => by rw [← hv]; exact World.cell?_of_block (a := ⟨wr.heap.size, i, none⟩) (fr9 _ n3))
              have hb7 := (Below.refl 0 w6).setCell (p := ⟨wr.heap.size, 7, none⟩) (Nat.zero_le _) (.slice p5 (rmL n x.kids).length c5)
              have frA : ∀ g : Nat, g ≠ wr.heap.size → g ≠ w.heap.size + 1 → w9.heap[g]? = w6.heap[g]? := fun g h1 h2 => (fr9 g h2).trans (heap_setCell_other _ _ _ _ h1)
              have zA : w9.heap.size = w6.heap.size := by rw [z9]; simp
              have osA : w9.os = w6.os ∧ w9.tape = w6.tape ∧ w9.output = w6.output := ⟨os9.trans hb7.os, tp9.trans hb7.tape, ou9.trans hb7.output⟩
              have fzA : ∀ i, w9.frozen? ⟨w.heap.size + 1, i, none⟩ = false := fun i => by rw [fz9]; simpa using HFX6.out.fz i
              clear hw9 fr9 z9 os9 tp9 ou9 fz9 hb7 d0 d1 d2 d3 d4 d5 d6 d7 a0 a1 a2 a3 a4 a5 a6 a7 e0 e1 e2 e3 e4 e5 e6 e7 f0 f1 f2 f3 f4 f5 f6 f7 g7
              have hzz6 := HZ6.out
              have hzz := HZ.out
              have hzy := ZY.out
              have HTo : w9.drew.os = w9.os ∧ w9.drew.output = w9.output ∧ w9.drew.tape = w9.tape := ⟨rfl, rfl, rfl⟩
              have fr10 : ∀ g : Nat, w9.drew.heap[g]? = w9.heap[g]? := fun _ => rfl
              have z10 : w9.drew.heap.size = w9.heap.size := rfl
              have HY10 : Box8 wr.heap.size (.int .i64 (x.node : Int)) (.int .i64 x.role) (.string x.name) (.string x.about) (.int .i64 x.level) (.int .i64 x.checked) (.bool x.off) (.slice p5 (rmL n x.kids).length c5) w9.drew := HY9
              have HF10 : Box8 (w.heap.size + 1) (.int .i64 (X5.node : Int)) (.int .i64 X5.role) (.string X5.name) (.string X5.about) (.int .i64 X5.level) (.int .i64 X5.checked) (.bool X5.off) (.slice q5 X5.kids.length b5) w9.drew := HF9
              have fz10 : ∀ i, w9.drew.frozen? ⟨w.heap.size + 1, i, none⟩ = false := fzA
              clear HY9 HF9 fzA
              generalize w9.drew = w10 at *
              have frB : Hid (∀ g : Nat, g ≠ wr.heap.size → g ≠ w.heap.size + 1 → w10.heap[g]? = w6.heap[g]?) := fun g h1 h2 => (fr10 g).trans (frA g h1 h2)
              have HO6 : Hid (OwnR w10 (w.heap.size + 1 + 1) (fun g => (P g ∧ g < w.heap.size) ∨ w.heap.size + 1 < g) u7 (rmL n (l.take j))) := HO.out.frame (fun b e => by
                have hb := HLV.out b e
                rw [frB.out b (by omega) (by omega), HB26.out.block b (by omega)]
                exact HB2.out.block b hb.2) (fun g hg hlt => by
                have hne : g ≠ w.heap.size + 1 := fun e => by rcases hg with hg | hg <;> omega
                rw [frB.out g (by omega) hne, HB26.out.block g (by omega)]
                exact ⟨HB2.out.block g hlt, hg⟩)
              have hrd : ∀ g : Nat, ((P g ∧ g < w.heap.size) ∧ g < W2.heap.size ∨ W2.heap.size ≤ g) → g < w5.heap.size → w10.heap[g]? = w5.heap[g]? ∧ ((P g ∧ g < w.heap.size) ∨ w.heap.size + 1 < g) ∧ some g ≠ u7.ownBlock := fun g hg hlt => by
                have h1 : g ≠ wr.heap.size := fun e => by rcases hg with hg | hg <;> omega
                have h2 : g ≠ w.heap.size + 1 := fun e => by rcases hg with hg | hg <;> omega
                refine ⟨(frB.out g h1 h2).trans (HB56.out.block g hlt), ?_, fun e => ?_⟩
                · rcases hg with hg | hg
                  · exact Or.inl hg.1
                  · exact Or.inr (by omega)
                · have := HLV.out g e.symm
                  rcases hg with hg | hg <;> omega
              have HFd6 : Hid (Found w10 (w.heap.size + 1) (fun g => (P g ∧ g < w.heap.size) ∨ w.heap.size + 1 < g) u7 n (l.take (j + 1)) X5 (.slice q5 X5.kids.length b5)) :=
                ⟨HF10, fz10, HT2.out.frame (fun g hg hlt => ⟨(hrd g hg hlt).1, (hrd g hg hlt).2⟩), fun _ => ⟨by rw [HE5.out]; exact List.mem_append.mpr (Or.inr (mem_item1.mpr (Or.inr (HT3.out HIN.out).1))), (HT3.out HIN.out).2⟩, fun h2 => absurd (by have := EC2.out; simpa using this) h2⟩
              have KB : RdI w10 (fun g => ((P g ∧ g < w.heap.size) ∨ w.heap.size + 1 < g) ∧ some g ≠ u7.ownBlock) (.slice p5 (rmL n x.kids).length c5) (x.with (rmL n x.kids)).kids := by
                rw [with_kids]
                exact HT1.out.frame (fun g hg hlt => ⟨(hrd g hg hlt).1, (hrd g hg hlt).2⟩)
              have HR6 : Hid (w10.heap[w.heap.size]? = some (.cells #[.int .i64 0, .int .i64 0, .string ⟨#[]⟩, .string ⟨#[]⟩, .int .i64 0, .int .i64 0, .bool false, .slice none 0 0] 27)) := by
                show _ = _
                rw [frB.out _ (by omega) (by omega), HB26.out.block _ (by omega)]
                exact HR2.out
              have HBW6 : Hid (Below w.heap.size w w10) := by
                have hb := HBW2.out.trans (HB26.out.mono HBW2.out.size)
                exact ⟨by rw [HTo.1, osA.1]; exact hb.os, by rw [HTo.2.2, osA.2.1]; exact hb.tape, by rw [HTo.2.1, osA.2.2]; exact hb.output, by rw [z10, zA]; exact hb.size, fun k hk => by rw [frB.out k (by omega) (by omega)]; exact hb.block k hk⟩
              have HZ6 : Hid (W2.heap.size ≤ w10.heap.size) := by show _ ≤ _; rw [z10, zA]; exact hzz6
              clear HO2 frA zA osA HTo fr10 z10 HF10 fz10 hrd hzz6 hzz hzy n1 n2 n3 n4 n5 n6
              obtain ⟨d0, d1, d2, d3, d4, d5, d6, d7⟩ := HY10
              have hB6 : w.heap.size + 1 + 1 ≤ w10.heap.size := by have := HZ6.out; have := HZ.out; have := ZY.out; omega
              have HO6' := HO6.out
              have HLV6 : Hid (∀ g, u7.ownBlock = some g → w.heap.size + 1 + 1 ≤ g ∧ g < wr.heap.size) := HLV.out
              go_wp2_with (at_builtin; refine append_itR (wr := w10) (y := x.with (rmL n x.kids)) (kv := .slice p5 (rmL n x.kids).length c5) rfl _ _ rfl rfl rfl HO6' KB (by rw [itc_with]) hB6 hrl ?_; intro v8 w8 o8 g8 l8)
              go_roundw
              case rel =>
                have hz6 := HZ6.out
                have hz := HZ.out
                have hzy := ZY.out
                refine ⟨j + 1, X5, .slice q5 X5.kids.length b5, by omega, by go_num, by rw [EC2.out], (by show OwnR _ _ _ _ _; rw [EJ.out]; exact o8), ?_, ?_, ?_, ?_⟩
                · exact HFd6.out.grown (by omega) (fun e => by have := HLV6.out _ e; omega) g8 l8
                · exact ⟨g8.os.trans HBW6.out.os, g8.tape.trans HBW6.out.tape, g8.output.trans HBW6.out.output, Nat.le_trans HBW6.out.size g8.size, fun k hk => (g8.block k (by have := HBW6.out.size; omega) (fun e => by have := HLV6.out k e.symm; omega)).trans (HBW6.out.block k hk)⟩
                · show _ = _
                  rw [g8.block _ (by omega) (fun e => by have := HLV6.out _ e.symm; omega)]
                  exact HR6.out
                · show _ ≤ _
                  have := g8.size; omega
              case measure => simp [intOf]; omega
      · obtain rfl : j = l.length := by omega
        rw [List.take_length] at HO HFd
        have hR := HR.out
        have BN : Box8 w.heap.size (.int .i64 0) (.int .i64 0) (.string ⟨#[]⟩) (.string ⟨#[]⟩) (.int .i64 0) (.int .i64 0) (.bool false) (.slice none 0 0) wr := by
          refine ⟨?_, ?_, ?_, ?_, ?_, ?_, ?_, ?_⟩ <;> simp [World.cell?, hR]
        have FN : ∀ i, wr.frozen? ⟨w.heap.size, i, none⟩ = false := fun i => by simp [World.frozen?, hR]
        obtain ⟨a0, a1, a2, a3, a4, a5, a6, a7⟩ := HFd.out.box
        have HBN := (show Hid _ from BN)
        obtain ⟨e0, e1, e2, e3, e4, e5, e6, e7⟩ := BN
        have f0 := FN 0
        have f1 := FN 1
        have f2 := FN 2
        have f3 := FN 3
        have f4 := FN 4
        have f5 := FN 5
        have f6 := FN 6
        have f7 := FN 7
        obtain ⟨pv, cv, hvo⟩ := HO.out.shape
        subst hvo
        have HLR : Hid ((rmL n l).length = (rmL n l).length) := rfl
        obtain ⟨pk, ck, hkx⟩ := HFd.out.rd.shape
        subst hkx
        clear hR FN
        go_wp2_with fail
        go_region
        obtain ⟨w9, hw9, HF9, fr9, z9, os9, tp9, ou9, fz9⟩ := set8 HBN.out (.int .i64 (X.node : Int)) (.int .i64 X.role) (.string X.name) (.string X.about) (.int .i64 X.level) (.int .i64 X.checked) (.bool X.off) (.slice pk X.kids.length ck)
        rw [hw9]
        clear hw9 a0 a1 a2 a3 a4 a5 a6 a7 e0 e1 e2 e3 e4 e5 e6 e7 f0 f1 f2 f3 f4 f5 f6 f7
        have fr10 : ∀ g : Nat, g ≠ w.heap.size → w9.drew.heap[g]? = wr.heap[g]? := fr9
        have HF10 : Box8 w.heap.size (.int .i64 (X.node : Int)) (.int .i64 X.role) (.string X.name) (.string X.about) (.int .i64 X.level) (.int .i64 X.checked) (.bool X.off) (.slice pk X.kids.length ck) w9.drew := HF9
        have HBW : Below w.heap.size w w9.drew := ⟨os9.trans HBr.out.os, tp9.trans HBr.out.tape, ou9.trans HBr.out.output, by show _ ≤ w9.heap.size; rw [z9]; exact HBr.out.size, fun k hk => (fr9 k (by omega)).trans (HBr.out.block k hk)⟩
        clear fr9 HF9 z9 os9 tp9 ou9 fz9
        generalize w9.drew = w10 at *
        obtain ⟨h0, h1, h2, h3, h4, h5, h6, h7⟩ := HF10
        have hz := HZ.out
        have hOR : OwnR w10 (w.heap.size + 1 + 1) (fun g => (P g ∧ g < w.heap.size) ∨ w.heap.size + 1 < g) (.slice pv (rmL n l).length cv) (rmL n l) := HO.out.frame (fun b e => fr10 b (by have := HO.out.lt b e; omega)) (fun g hg _ => ⟨fr10 g (by rcases hg with hg | hg <;> omega), hg⟩)
        have hXR : RdI w10 (fun g => (P g ∧ g < w.heap.size) ∨ w.heap.size ≤ g) (.slice pk X.kids.length ck) X.kids := HFd.out.rd.frame (fun g hg _ => ⟨fr10 g (by rcases hg.1 with hg | hg <;> omega), by rcases hg.1 with hg | hg; exact Or.inl hg; exact Or.inr (by omega)⟩)
        have HOR := (show Hid _ from hOR)
        have HXR := (show Hid _ from hXR)
        have HBW10 : Hid (Below w.heap.size w w10) := HBW
        clear hOR hXR HBW fr10
        go_wp2_with fail
        refine bodyPost_ret (v := .tuple #[.slice pv (rmL n l).length cv, .agg #[.int .i64 (X.node : Int), .int .i64 X.role, .string X.name, .string X.about, .int .i64 X.level, .int .i64 X.checked, .bool X.off, .slice pk X.kids.length ck], .bool (decide (n ∈ nodesL l))]) (by simp [results, Try.results14, go_sem, h0, h1, h2, h3, h4, h5, h6, h7]) rfl ⟨_, X, .slice pk X.kids.length ck, by first | rfl | (rw [List.contains_eq_mem]; rfl), OwnR.rd HOR.out (fun g hg _ => by rcases hg with hg | hg; exact Or.inl hg; exact Or.inr (by omega)) (fun b hb => Or.inr (by omega)), HXR.out, HFd.out.yes, HFd.out.no, HBW10.out⟩
end Go.Proofs.Ytgpckmolcdafcaf

/-
  THE WALK of the reference's Cut.
-/
namespace Go.Proofs.Ytgpckmolcdafcaf
open Go.RowKit

set_option maxHeartbeats 3200000 in
set_option maxRecDepth 100000 in
theorem uCut_any (n : Nat) {P : Nat → Prop} {v : Value} {l : List It} {w : World} (hr : RdI w P v l) (hu : Unlike l) (hsz : (nodesL l).length ≤ 800000) :
    Calls Try.prog 7 #[v, .int .i64 (n : Int)] w fun e w' => ∃ v' X kx, e = .returned (.tuple #[v', itA X kx]) ∧ RdI w' (fun g => (P g ∧ g < w.heap.size) ∨ w.heap.size ≤ g) v' (rmL n l) ∧ RdI w' (fun g => (P g ∧ g < w.heap.size) ∨ w.heap.size ≤ g) kx X.kids ∧ (n ∈ nodesL l → X ∈ itemL l ∧ X.node = n) ∧ (n ∉ nodesL l → X = item0) ∧ Below w.heap.size w w' := by
  have B1 : Below w.heap.size w (w.alloc (.cells #[.int .i64 0, .int .i64 0, .string ⟨#[]⟩, .string ⟨#[]⟩, .int .i64 0, .int .i64 0, .bool false, .slice none 0 0] 27)) := (Below.refl _ _).alloc (Nat.le_refl _) _
  have r1 : (w.alloc (.cells #[.int .i64 0, .int .i64 0, .string ⟨#[]⟩, .string ⟨#[]⟩, .int .i64 0, .int .i64 0, .bool false, .slice none 0 0] 27)).heap[w.heap.size]? = some (.cells #[.int .i64 0, .int .i64 0, .string ⟨#[]⟩, .string ⟨#[]⟩, .int .i64 0, .int .i64 0, .bool false, .slice none 0 0] 27) := heap_alloc_new _ _
  have z1 : (w.alloc (.cells #[.int .i64 0, .int .i64 0, .string ⟨#[]⟩, .string ⟨#[]⟩, .int .i64 0, .int .i64 0, .bool false, .slice none 0 0] 27)).heap.size = w.heap.size + 1 := by simp
  have C := ucut_any n ((nodesL l).length + 1) (fun g => P g ∧ g < w.heap.size) v l _ ((hr.any (Q := fun g => P g ∧ g < w.heap.size) (fun g hg hlt => ⟨hg, hlt⟩)).under B1) hu (by omega) hsz
  unfold itA at C ⊢
  obtain ⟨p, c, rfl⟩ := hr.shape
  clear hr hu hsz
  go_enter Try.func7, Try.ntmps7
  go_upto_region 1 with fail
  generalize w.alloc (.cells #[.int .i64 0, .int .i64 0, .string ⟨#[]⟩, .string ⟨#[]⟩, .int .i64 0, .int .i64 0, .bool false, .slice none 0 0] 27) = W0 at *
  have HB1 : Hid (Below w.heap.size w W0) := B1
  have HR1 : Hid (W0.heap[w.heap.size]? = some (.cells #[.int .i64 0, .int .i64 0, .string ⟨#[]⟩, .string ⟨#[]⟩, .int .i64 0, .int .i64 0, .bool false, .slice none 0 0] 27)) := r1
  have HZ1 : Hid (W0.heap.size = w.heap.size + 1) := z1
  clear B1 r1 z1
  go_upto_region 2 with (go_at_call 14; refine C.mono ?_; clear C; rintro e w5 ⟨v5, X5, kx5, rfl, t1, t2, t3, t4, t5⟩; obtain ⟨p5, c5, rfl⟩ := t1.shape; obtain ⟨q5, b5, rfl⟩ := t2.shape; have HT1 := (show Hid _ from t1); have HT2 := (show Hid _ from t2); have HT3 := (show Hid _ from t3); have HT4 := (show Hid _ from t4); have HT5 : Hid (Below W0.heap.size W0 w5) := t5; clear t1 t2 t3 t4 t5)
  have B6 : Below w5.heap.size w5 (w5.alloc (.cells #[.int .i64 (X5.node : Int), .int .i64 X5.role, .string X5.name, .string X5.about, .int .i64 X5.level, .int .i64 X5.checked, .bool X5.off, .slice q5 X5.kids.length b5] 27)) := (Below.refl _ _).alloc (Nat.le_refl _) _
  have BZ := box8_new w5 (.int .i64 (X5.node : Int)) (.int .i64 X5.role) (.string X5.name) (.string X5.about) (.int .i64 X5.level) (.int .i64 X5.checked) (.bool X5.off) (.slice q5 X5.kids.length b5) 27
  generalize w5.alloc (.cells #[.int .i64 (X5.node : Int), .int .i64 X5.role, .string X5.name, .string X5.about, .int .i64 X5.level, .int .i64 X5.checked, .bool X5.off, .slice q5 X5.kids.length b5] 27) = w6 at *
  have hz5 := HT5.out.size
  have hz1 := HZ1.out
  have hR : w6.heap[w.heap.size]? = some (.cells #[.int .i64 0, .int .i64 0, .string ⟨#[]⟩, .string ⟨#[]⟩, .int .i64 0, .int .i64 0, .bool false, .slice none 0 0] 27) := by
    rw [B6.block _ (by omega), HT5.out.block _ (by omega)]
    exact HR1.out
  have BN : Box8 w.heap.size (.int .i64 0) (.int .i64 0) (.string ⟨#[]⟩) (.string ⟨#[]⟩) (.int .i64 0) (.int .i64 0) (.bool false) (.slice none 0 0) w6 := by
    refine ⟨?_, ?_, ?_, ?_, ?_, ?_, ?_, ?_⟩ <;> simp [World.cell?, hR]
  have FN : ∀ i, w6.frozen? ⟨w.heap.size, i, none⟩ = false := fun i => by simp [World.frozen?, hR]
  have HBN := (show Hid _ from BN)
  obtain ⟨a0, a1, a2, a3, a4, a5, a6, a7⟩ := BZ
  obtain ⟨e0, e1, e2, e3, e4, e5, e6, e7⟩ := BN
  have f0 := FN 0
  have f1 := FN 1
  have f2 := FN 2
  have f3 := FN 3
  have f4 := FN 4
  have f5 := FN 5
  have f6 := FN 6
  have f7 := FN 7
  have HB56 : Hid (Below w5.heap.size w5 w6) := B6
  have HZ5 : Hid (w.heap.size + 1 ≤ w5.heap.size) := by show _ ≤ _; omega
  have n1 : ¬ w.heap.size = w5.heap.size := by omega
  have n2 : ¬ w5.heap.size = w.heap.size := by omega
  clear hR FN B6 hz5 hz1
  go_region
  obtain ⟨w9, hw9, HF9, fr9, z9, os9, tp9, ou9, fz9⟩ := set8 HBN.out (.int .i64 (X5.node : Int)) (.int .i64 X5.role) (.string X5.name) (.string X5.about) (.int .i64 X5.level) (.int .i64 X5.checked) (.bool X5.off) (.slice q5 X5.kids.length b5)
  rw [hw9]
  clear hw9 a0 a1 a2 a3 a4 a5 a6 a7 e0 e1 e2 e3 e4 e5 e6 e7 f0 f1 f2 f3 f4 f5 f6 f7 n1 n2
  have fr10 : ∀ g : Nat, g ≠ w.heap.size → w9.drew.heap[g]? = w6.heap[g]? := fr9
  have HF10 : Box8 w.heap.size (.int .i64 (X5.node : Int)) (.int .i64 X5.role) (.string X5.name) (.string X5.about) (.int .i64 X5.level) (.int .i64 X5.checked) (.bool X5.off) (.slice q5 X5.kids.length b5) w9.drew := HF9
  have hb := HB1.out.trans ((HT5.out.trans (HB56.out.mono HT5.out.size)).mono HB1.out.size)
  have HBW : Hid (Below w.heap.size w w9.drew) := ⟨os9.trans hb.os, tp9.trans hb.tape, ou9.trans hb.output, by show _ ≤ w9.heap.size; rw [z9]; exact hb.size, fun k hk => (fr9 k (by omega)).trans (hb.block k hk)⟩
  clear fr9 HF9 z9 os9 tp9 ou9 fz9 hb
  generalize w9.drew = w10 at *
  obtain ⟨h0, h1, h2, h3, h4, h5, h6, h7⟩ := HF10
  have hrd : ∀ g : Nat, ((P g ∧ g < w.heap.size) ∧ g < W0.heap.size ∨ W0.heap.size ≤ g) → g < w5.heap.size → w10.heap[g]? = w5.heap[g]? ∧ ((P g ∧ g < w.heap.size) ∨ w.heap.size ≤ g) := fun g hg hlt => by
    have hz1 := HZ1.out
    have hne : g ≠ w.heap.size := fun e => by rcases hg with hg | hg <;> omega
    refine ⟨(fr10 g hne).trans (HB56.out.block g hlt), ?_⟩
    rcases hg with hg | hg
    · exact Or.inl hg.1
    · exact Or.inr (by omega)
  have HO1 : Hid (RdI w10 (fun g => (P g ∧ g < w.heap.size) ∨ w.heap.size ≤ g) (.slice p5 (rmL n l).length c5) (rmL n l)) := HT1.out.frame hrd
  have HO2 : Hid (RdI w10 (fun g => (P g ∧ g < w.heap.size) ∨ w.heap.size ≤ g) (.slice q5 X5.kids.length b5) X5.kids) := HT2.out.frame hrd
  clear hrd fr10
  go_wp2_with fail
  refine bodyPost_ret (v := .tuple #[.slice p5 (rmL n l).length c5, .agg #[.int .i64 (X5.node : Int), .int .i64 X5.role, .string X5.name, .string X5.about, .int .i64 X5.level, .int .i64 X5.checked, .bool X5.off, .slice q5 X5.kids.length b5]]) (by simp [results, Try.results7, go_sem, h0, h1, h2, h3, h4, h5, h6, h7]) rfl ⟨_, X5, .slice q5 X5.kids.length b5, rfl, HO1.out, HO2.out, HT3.out, HT4.out, HBW.out⟩
end Go.Proofs.Ytgpckmolcdafcaf
