/-
  OWN WORK: Xpt, Xpu, Xun, Xpa.
-/
import Derived.Test.YtgpckmolcdafcaeP0
import Derived.Test.YtgpckmolcdafcaeP1
import Derived.Test.YtgpckmolcdafcaeP2
import Derived.Test.YtgpckmolcdafcaeP3
import Derived.Test.YtgpckmolcdafcaeP4
import Derived.Test.YtgpckmolcdafcaeP5
import Derived.Test.YtgpckmolcdafcaeP6
import Derived.Test.YtgpckmolcdafcaeP7
import Derived.Test.YtgpckmolcdafcaeP8
import Derived.Test.YtgpckmolcdafcaeP9
import Derived.Lib.Strings
import Derived.WalkKit
import Derived.WalkSpells
import Derived.WalkLawsBesides
import Derived.Laws.AppendOwnNone
import Derived.Deep.RegionWith
import Derived.Deep.RegionLaw
import Derived.Deep.Cut
import Derived.Deep.RegionHeld3
import Derived.Deep.Slices
import Derived.ProofKit
import Derived.OpenShut
import Derived.JoinedCond
import Derived.Carry
import Derived.Shelf.RegionOpenPlain
import Derived.Lib.SliceRun
import Derived.Maps.OwnOps
import Derived.Maps.Views
import Derived.Maps.OwnSet
import Derived.Deep.AppendLies
import Derived.Deep.Strs
import Derived.Laws.CopyRow
import Derived.Lib.Overlaps
import Derived.Lib.AppendZerosOnto
import Derived.Deep.QuietTactic
import Derived.BigQuiet
import Derived.RegionTactic
/-
  ITEMS that came in: how they read, all the way down, whatever their nodes (below 0, too).
-/
namespace Go.Proofs.Ytgpckmolcdafcae
open Go.ChangeShapes Go.WideShapes Go.ChangeAt Go.RowKit

/-! ### how much they hold -/
/-! ### in memory -/
/-! ### items whose nodes are none below 0 -/
theorem toIt_eq (x : Iz) : toIt x = .mk x.node.toNat x.role x.name x.about x.level x.checked x.off (toIts x.kids) := by cases x with | mk => rw [toIt]; rfl
/-! ### what came in -/
end Go.Proofs.Ytgpckmolcdafcae

/-
  THE WALK of the reference's Has, at any numbers.
-/
namespace Go.Proofs.Ytgpckmolcdafcae
open Go.RowKit

theorem hasz_yes {l : List Int} {k : Int} {j : Nat} (hj : j < l.length) (he : l[j] = k) : l.contains k = true := by
  rw [List.contains_iff_mem, ← he]
  exact List.getElem_mem hj
theorem hasz_no {l : List Int} {k : Int} (hn : ∀ x ∈ l, x ≠ k) : l.contains k = false := by
  cases h : l.contains k with
  | false => rfl
  | true =>
    rw [List.contains_iff_mem] at h
    exact absurd rfl (hn k h)

set_option maxHeartbeats 1600000 in
theorem qhasz_any {w : World} {vl : Value} {l : List Int} (hl : ZsAt w vl l) (k : Int) :
    Calls Try.prog 18 #[vl, .int .i64 k] w fun e w' => e = .returned (.bool (l.contains k)) ∧ w' = w := by
  obtain ⟨q, cc, rfl, h1, h2, hat⟩ := hl.at
  have T : Hid (∀ j (hj : j < l.length), ∃ b o, q = some ⟨b, o, none⟩ ∧ w.cell? ⟨b, o + j, none⟩ = some (.int .i64 l[j])) := hat
  clear hat hl
  go_enter Try.func18, Try.ntmps18
  go_wp2_with fail
  go_loopw [9] (fun i wr => ∃ j : Nat, j ≤ l.length ∧ i = .int .i64 j ∧ Hid (∀ x ∈ l.take j, x ≠ k) ∧ wr = w) (fun i _ => l.length - (intOf i).toNat)
  case atStart => exact ⟨0, Nat.zero_le _, rfl, fun k hk => by simp at hk, rfl⟩
  case round =>
    obtain ⟨j, hj, rfl, NO, hww⟩ := hrel
    subst hww
    by_cases hlt : j < l.length
    · obtain ⟨e1, o1, rfl, k1⟩ := T.out j hlt
      by_cases hh : l[j] = k
      · have E : Hid (l.contains k = true) := hasz_yes hlt hh
        rw [hh] at k1
        clear hh
        go_wp2_with fail
        go_ret
        exact ⟨by rw [E.out]; rfl, rfl⟩
      · have N2 : Hid (∀ x ∈ l.take (j + 1), x ≠ k) := by
          intro x hx
          rw [List.take_succ_eq_append_getElem hlt, List.mem_append, List.mem_singleton] at hx
          rcases hx with hx | rfl
          · exact NO.out x hx
          · exact hh
        have hq : (l[j] == k) = false := beq_eq_false_iff_ne.2 hh
        clear hh
        generalize l[j] = x at *
        go_wp2_with fail
        go_roundw
        case rel => exact ⟨j + 1, by omega, by go_num, N2, by first | rfl | trivial⟩
        case measure => simp [intOf]; omega
    · obtain rfl : j = l.length := by omega
      have E : Hid (l.contains k = false) := hasz_no (fun x hx => NO.out x (by rw [List.take_length]; exact hx))
      go_wp2_with fail
      go_ret
      exact ⟨by rw [E.out]; rfl, rfl⟩
end Go.Proofs.Ytgpckmolcdafcae

/-
  ROWS of items that the call makes, whose items' kids lie wherever: append of one item.
-/
namespace Go.Proofs.Ytgpckmolcdafcae
open Go.RowKit

/-- append of one item, in a block that was made for it -/
theorem append_itR {wr : World} {ops : Array Oper} {rest : List Oper} {o : Oper} {a : Act} {Q0 : Exit → Act → World → Prop} (hgd : o.guard = none)
    (s x : Operand) (ho : o.op = Op.call { callee := Callee.builtin Builtin.append, args := #[s, x], argTypes := #[22, 22] }) {B : Nat} {Q : Nat → Prop} {v : Value} {l : List It} {W : World} {y : It} {kv : Value}
    (hs : a.eval s = v) (hx : a.eval x = .slice (some ⟨wr.heap.size, 0, none⟩) 1 1) (hown : OwnR wr B Q v l) (hk : RdI wr (fun g => Q g ∧ some g ≠ v.ownBlock) kv y.kids) (hW : W = wr.alloc (.cells (itc (y, kv)).toArray 26)) (hB : B ≤ wr.heap.size) (hsz : l.length ≤ 1000000)
    (h : ∀ v' w1, OwnR w1 B Q v' (l ++ [y]) → wr.grownBy w1 v.ownBlock → (v'.ownBlock = v.ownBlock ∨ ∃ q, wr.heap.size ≤ q ∧ v'.ownBlock = some q) → wpList Try.prog ops Q0 rest (a.put o.dst v') w1) :
    wpList Try.prog ops Q0 (o :: rest) a W := by
  obtain ⟨i0, hi, hz0, hz1, hz2⟩ := info_parts infoT
  obtain ⟨kvs, hl, hrow, hkids⟩ := hown
  obtain ⟨pk, ck, ekv⟩ := hk.shape
  have B1 : Below wr.heap.size wr W := by rw [hW]; exact (Below.refl _ _).alloc (Nat.le_refl _) _
  have z1 : W.heap.size = wr.heap.size + 1 := by rw [hW]; simp
  have hrow2 : W.ownsRow B 26 8 v l.length (cellsT l kvs) := by rw [hW]; exact World.ownsRow.alloc hrow _
  have hnews : ∀ (j : Nat) (u : Value), (itc (y, kv))[j]? = some u → W.cell? ((⟨wr.heap.size, 0, none⟩ : Addr).add j) = some u := by
    intro j u hj
    rw [add_at, Nat.zero_add, hW, World.cell?_alloc_new]
    simpa using hj
  have one : ∀ u ∈ itc (y, kv), u.oneCell' = true := by
    intro u hu
    unfold itc at hu
    simp only [List.mem_cons, List.not_mem_nil, or_false] at hu
    rcases hu with rfl | rfl | rfl | rfl | rfl | rfl | rfl | rfl <;> first | rfl | (rw [ekv]; rfl)
  have hvlt := hrow.lt
  refine wpList_append_lies _ hgd s x 22 ho B 26 i0 _ 8 96 Try.underlying22 hi hz0 hz1 hz2 rfl (by decide) v l.length (cellsT l kvs) hs hrow2 ⟨wr.heap.size, 0, none⟩ 1 1 (itc (y, kv)) hx (by rw [itc_len]) hnews one (by decide) (by unfold maxLen; omega) (by omega) (by omega) _ rfl ?_
  intro g cap w1 k1 k2 k3 k4
  have hg : wr.grownBy w1 v.ownBlock := ⟨k2.os.trans B1.os, k2.tape.trans B1.tape, k2.output.trans B1.output, Nat.le_trans B1.size k2.size, fun q hq hr => (k2.block q (by omega) hr).trans (B1.block q hq)⟩
  have hfr : ∀ q, q < wr.heap.size → some q ≠ v.ownBlock → w1.heap[q]? = wr.heap[q]? ∧ some q ≠ (Value.slice (some ⟨g, 0, none⟩) (l.length + 1) cap).ownBlock := fun q hq hn => by
    refine ⟨hg.block q hq hn, fun e => ?_⟩
    have e : q = g := by simpa [Value.ownBlock] using e
    rcases k3 with k3 | k3
    · exact hn (by rw [k3, e])
    · omega
  refine h _ _ ⟨kvs ++ [kv], by simp [hl], ?_, fun j hj hj' => ?_⟩ hg ?_
  · rw [List.length_append, List.length_singleton, cellsT_app _ _ _ _ hl]
    have : cellsT [y] [kv] = itc (y, kv) := by simp [cellsT]
    rw [this]
    exact k1
  · by_cases e : j < l.length
    · have e' : j < kvs.length := by omega
      rw [List.getElem_append_left e, List.getElem_append_left e']
      exact (hkids j e e').frame (fun q hq hlt => ⟨(hfr q hlt hq.2).1, hq.1, (hfr q hlt hq.2).2⟩)
    · have e1 : j = l.length := by simp at hj; omega
      subst e1
      have h1 : (l ++ [y])[l.length]'hj = y := by simp
      have h2 : (kvs ++ [kv])[l.length]'hj' = kv := by simp [← hl]
      rw [h1, h2]
      exact hk.frame (fun q hq hlt => ⟨(hfr q hlt hq.2).1, hq.1, (hfr q hlt hq.2).2⟩)
  · rcases k3 with k3 | k3
    · exact Or.inl k3.symm
    · exact Or.inr ⟨g, by omega, rfl⟩
end Go.Proofs.Ytgpckmolcdafcae

/-
  THE WALK of the reference's Tell.
-/
namespace Go.Proofs.Ytgpckmolcdafcae
open Go.RowKit

theorem telL_take (n : Nat) (y : It) : ∀ (l : List It) (j : Nat) (h : j < l.length), telL n y (l.take (j + 1)) = telL n y (l.take j) ++ [tel1 n y l[j]]
  | [], _, h => by simp at h
  | x :: l, 0, _ => by simp [telL]
  | x :: l, j + 1, h => by
    rw [List.take_succ_cons, List.take_succ_cons, telL, telL, telL_take n y l j (by simpa using h), List.getElem_cons_succ]
    rfl
theorem tel1_no {n : Nat} {y x : It} (h : x.node ≠ n) : tel1 n y x = x.with (telL n y x.kids) := by
  cases x with
  | mk k r a b l c o ks =>
    have h' : ¬ k = n := h
    rw [tel1, if_neg h']
    rfl
theorem tel1_yes {n : Nat} {y x : It} (h : x.node = n) : tel1 n y x = y.with (telL n y x.kids) := by
  cases x with
  | mk k r a b l c o ks =>
    have h' : k = n := h
    rw [tel1, if_pos h']
    rfl
theorem itc_with (x : It) (ks : List It) (kv : Value) : itc (x.with ks, kv) = [.int .i64 (x.node : Int), .int .i64 x.role, .string x.name, .string x.about, .int .i64 x.level, .int .i64 x.checked, .bool x.off, kv] := by
  unfold itc
  simp only [with_node, with_role, with_name, with_about, with_level, with_checked, with_off]
  rfl

theorem Box8.put0 {N : Nat} {a0 a1 a2 a3 a4 a5 a6 a7 : Value} {w : World} (h : Box8 N a0 a1 a2 a3 a4 a5 a6 a7 w) (v : Value) : Box8 N v a1 a2 a3 a4 a5 a6 a7 (w.setCell ⟨N, 0, none⟩ v) := by
  obtain ⟨h0, h1, h2, h3, h4, h5, h6, h7⟩ := h
  refine ⟨World.cell?_setCell_same _ _ _ h0, ?_, ?_, ?_, ?_, ?_, ?_, ?_⟩ <;> (rw [World.cell?_setCell_other _ _ _ _ (by intro e; cases e)]; assumption)
theorem Box8.put2 {N : Nat} {a0 a1 a2 a3 a4 a5 a6 a7 : Value} {w : World} (h : Box8 N a0 a1 a2 a3 a4 a5 a6 a7 w) (v : Value) : Box8 N a0 a1 v a3 a4 a5 a6 a7 (w.setCell ⟨N, 2, none⟩ v) := by
  obtain ⟨h0, h1, h2, h3, h4, h5, h6, h7⟩ := h
  refine ⟨?_, ?_, World.cell?_setCell_same _ _ _ h2, ?_, ?_, ?_, ?_, ?_⟩ <;> (rw [World.cell?_setCell_other _ _ _ _ (by intro e; cases e)]; assumption)
theorem Box8.put3 {N : Nat} {a0 a1 a2 a3 a4 a5 a6 a7 : Value} {w : World} (h : Box8 N a0 a1 a2 a3 a4 a5 a6 a7 w) (v : Value) : Box8 N a0 a1 a2 v a4 a5 a6 a7 (w.setCell ⟨N, 3, none⟩ v) := by
  obtain ⟨h0, h1, h2, h3, h4, h5, h6, h7⟩ := h
  refine ⟨?_, ?_, ?_, World.cell?_setCell_same _ _ _ h3, ?_, ?_, ?_, ?_⟩ <;> (rw [World.cell?_setCell_other _ _ _ _ (by intro e; cases e)]; assumption)
theorem Box8.put4 {N : Nat} {a0 a1 a2 a3 a4 a5 a6 a7 : Value} {w : World} (h : Box8 N a0 a1 a2 a3 a4 a5 a6 a7 w) (v : Value) : Box8 N a0 a1 a2 a3 v a5 a6 a7 (w.setCell ⟨N, 4, none⟩ v) := by
  obtain ⟨h0, h1, h2, h3, h4, h5, h6, h7⟩ := h
  refine ⟨?_, ?_, ?_, ?_, World.cell?_setCell_same _ _ _ h4, ?_, ?_, ?_⟩ <;> (rw [World.cell?_setCell_other _ _ _ _ (by intro e; cases e)]; assumption)
theorem Box8.put5 {N : Nat} {a0 a1 a2 a3 a4 a5 a6 a7 : Value} {w : World} (h : Box8 N a0 a1 a2 a3 a4 a5 a6 a7 w) (v : Value) : Box8 N a0 a1 a2 a3 a4 v a6 a7 (w.setCell ⟨N, 5, none⟩ v) := by
  obtain ⟨h0, h1, h2, h3, h4, h5, h6, h7⟩ := h
  refine ⟨?_, ?_, ?_, ?_, ?_, World.cell?_setCell_same _ _ _ h5, ?_, ?_⟩ <;> (rw [World.cell?_setCell_other _ _ _ _ (by intro e; cases e)]; assumption)
theorem Box8.put6 {N : Nat} {a0 a1 a2 a3 a4 a5 a6 a7 : Value} {w : World} (h : Box8 N a0 a1 a2 a3 a4 a5 a6 a7 w) (v : Value) : Box8 N a0 a1 a2 a3 a4 a5 v a7 (w.setCell ⟨N, 6, none⟩ v) := by
  obtain ⟨h0, h1, h2, h3, h4, h5, h6, h7⟩ := h
  refine ⟨?_, ?_, ?_, ?_, ?_, ?_, World.cell?_setCell_same _ _ _ h6, ?_⟩ <;> (rw [World.cell?_setCell_other _ _ _ _ (by intro e; cases e)]; assumption)
theorem Box8.put7 {N : Nat} {a0 a1 a2 a3 a4 a5 a6 a7 : Value} {w : World} (h : Box8 N a0 a1 a2 a3 a4 a5 a6 a7 w) (v : Value) : Box8 N a0 a1 a2 a3 a4 a5 a6 v (w.setCell ⟨N, 7, none⟩ v) := by
  obtain ⟨h0, h1, h2, h3, h4, h5, h6, h7⟩ := h
  refine ⟨?_, ?_, ?_, ?_, ?_, ?_, ?_, World.cell?_setCell_same _ _ _ h7⟩ <;> (rw [World.cell?_setCell_other _ _ _ _ (by intro e; cases e)]; assumption)
theorem set9 {N : Nat} {a0 a1 a2 a3 a4 a5 a6 a7 : Value} {w5 : World} (h : Box8 N a0 a1 a2 a3 a4 a5 a6 a7 w5) (v0 v1 v2 v3 v4 v5 v6 v7 u : Value) : ∃ w6, (((((((((w5.setCell ⟨N, 0, none⟩ v0).setCell ⟨N, 1, none⟩ v1).setCell ⟨N, 2, none⟩ v2).setCell ⟨N, 3, none⟩ v3).setCell ⟨N, 4, none⟩ v4).setCell ⟨N, 5, none⟩ v5).setCell ⟨N, 6, none⟩ v6).setCell ⟨N, 7, none⟩ v7).setCell ⟨N, 7, none⟩ u) = w6 ∧ Box8 N v0 v1 v2 v3 v4 v5 v6 u w6 ∧ (∀ g, g ≠ N → w6.heap[g]? = w5.heap[g]?) ∧ w6.heap.size = w5.heap.size ∧ w6.os = w5.os ∧ w6.tape = w5.tape ∧ w6.output = w5.output := by
  refine ⟨_, rfl, ((((((((h.put0 v0).put1 v1).put2 v2).put3 v3).put4 v4).put5 v5).put6 v6).put7 v7).put7 u, fun g hg => ?_, by simp, ?_⟩
  · simp only [heap_setCell_other _ _ _ _ (show g ≠ (⟨N, _, none⟩ : Addr).block from hg)]
  · have hb := ((((((((((Below.refl 0 w5).setCell (p := ⟨N, 0, none⟩) (Nat.zero_le _) v0).setCell (p := ⟨N, 1, none⟩) (Nat.zero_le _) v1).setCell (p := ⟨N, 2, none⟩) (Nat.zero_le _) v2).setCell (p := ⟨N, 3, none⟩) (Nat.zero_le _) v3).setCell (p := ⟨N, 4, none⟩) (Nat.zero_le _) v4).setCell (p := ⟨N, 5, none⟩) (Nat.zero_le _) v5).setCell (p := ⟨N, 6, none⟩) (Nat.zero_le _) v6).setCell (p := ⟨N, 7, none⟩) (Nat.zero_le _) v7).setCell (p := ⟨N, 7, none⟩) (Nat.zero_le _) u)
    exact ⟨hb.os, hb.tape, hb.output⟩

set_option maxHeartbeats 3200000 in
set_option maxRecDepth 100000 in
theorem utell_any (n : Nat) (y : It) (yp : Option Addr) (yn yc : Nat) (m : Nat) : ∀ (P : Nat → Prop) (v : Value) (l : List It) (w : World), RdI w P v l → (nodesL l).length ≤ m → (nodesL l).length ≤ 800000 →
    Calls Try.prog 21 #[v, .int .i64 (n : Int), .agg #[.int .i64 (y.node : Int), .int .i64 y.role, .string y.name, .string y.about, .int .i64 y.level, .int .i64 y.checked, .bool y.off, .slice yp yn yc]] w fun e w' => ∃ v', e = .returned v' ∧ RdI w' (fun g => (P g ∧ g < w.heap.size) ∨ w.heap.size ≤ g) v' (telL n y l) ∧ Below w.heap.size w w' := by
  induction m with
  | zero =>
    intro P v l w hr hm hsz
    have hl : l = [] := by
      have := top_few l
      exact List.length_eq_zero_iff.mp (by omega)
    subst hl
    obtain ⟨p, c, rfl⟩ := hr.shape
    have B1 : Below w.heap.size w (w.alloc (.cells #[.int .i64 (y.node : Int), .int .i64 y.role, .string y.name, .string y.about, .int .i64 y.level, .int .i64 y.checked, .bool y.off, .slice yp yn yc] 26)) := (Below.refl _ _).alloc (Nat.le_refl _) _
    clear hr
    go_enter Try.func21, Try.ntmps21
    go_upto_region 1 with fail
    generalize w.alloc (.cells #[.int .i64 (y.node : Int), .int .i64 y.role, .string y.name, .string y.about, .int .i64 y.level, .int .i64 y.checked, .bool y.off, .slice yp yn yc] 26) = W at *
    go_wp2_with fail
    refine wp_loop_rounds 1 ?_
    rw [rounds_succ]
    go_wp2_with fail
    go_ret
    exact ⟨_, rfl, RdI.nil _ _, B1⟩
  | succ m ih =>
    intro P v l w hr hm hsz
    obtain ⟨p, c, rfl, y1, y2, hat⟩ := (hr.any (Q := fun g => P g ∧ g < w.heap.size) (fun g hg hlt => ⟨hg, hlt⟩)).at
    have T : Hid (∀ j (hj : j < l.length), ∃ b o kv, p = some ⟨b, o, none⟩ ∧ (P b ∧ b < w.heap.size) ∧ ItAt w b (o + j * 8) l[j] kv ∧ RdI w (fun g => P g ∧ g < w.heap.size) kv l[j].kids) := hat
    have ZM : Hid (∀ j (hj : j < l.length), (nodesL l[j].kids).length ≤ m ∧ (nodesL l[j].kids).length ≤ 800000) := fun j hj => by have := nodesL_lt l j hj; omega
    have ZL : Hid (l.length ≤ 800000) := by show _ ≤ _; have := top_few l; omega
    have B1 : Below w.heap.size w (w.alloc (.cells #[.int .i64 (y.node : Int), .int .i64 y.role, .string y.name, .string y.about, .int .i64 y.level, .int .i64 y.checked, .bool y.off, .slice yp yn yc] 26)) := (Below.refl _ _).alloc (Nat.le_refl _) _
    have BX := box8_new w (.int .i64 (y.node : Int)) (.int .i64 y.role) (.string y.name) (.string y.about) (.int .i64 y.level) (.int .i64 y.checked) (.bool y.off) (.slice yp yn yc) 26
    have z1 : (w.alloc (.cells #[.int .i64 (y.node : Int), .int .i64 y.role, .string y.name, .string y.about, .int .i64 y.level, .int .i64 y.checked, .bool y.off, .slice yp yn yc] 26)).heap.size = w.heap.size + 1 := by simp
    clear hr hat hm hsz
    go_enter Try.func21, Try.ntmps21
    go_upto_region 1 with fail
    generalize w.alloc (.cells #[.int .i64 (y.node : Int), .int .i64 y.role, .string y.name, .string y.about, .int .i64 y.level, .int .i64 y.checked, .bool y.off, .slice yp yn yc] 26) = W0 at *
    have HB1 : Hid (Below w.heap.size w W0) := B1
    have HBX : Hid (Box8 w.heap.size (.int .i64 (y.node : Int)) (.int .i64 y.role) (.string y.name) (.string y.about) (.int .i64 y.level) (.int .i64 y.checked) (.bool y.off) (.slice yp yn yc) W0) := BX
    have Z1 : Hid (W0.heap.size = w.heap.size + 1) := z1
    clear B1 BX z1
    go_wp2_with fail
    go_loopw [7, 13] (fun vo iv wr => ∃ j : Nat, j ≤ l.length ∧ iv = .int .i64 j ∧ Hid (OwnR wr (w.heap.size + 1) (fun g => (P g ∧ g < w.heap.size) ∨ w.heap.size < g) vo (telL n y (l.take j))) ∧ Hid (Below (w.heap.size + 1) W0 wr)) (fun _ iv _ => l.length - (intOf iv).toNat)
    case atStart => exact ⟨0, Nat.zero_le _, rfl, (by show OwnR _ _ _ _ _; simpa [telL] using OwnR.nil _ _ _), Below.refl _ _⟩
    case round =>
      obtain ⟨j, hj, rfl, HO, HBr⟩ := hrel
      by_cases hlt : j < l.length
      · obtain ⟨b, o, kv, rfl, hb, hc, hk⟩ := T.out j hlt
        have kb : Keeps w wr := fun a v hv => keeps_below HBr.out (by have := Z1.out; omega) _ _ (keeps_below HB1.out (Nat.le_refl _) _ _ hv)
        have c0 := kb _ _ hc.c0
        have c1 := kb _ _ hc.c1
        have c2 := kb _ _ hc.c2
        have c3 := kb _ _ hc.c3
        have c4 := kb _ _ hc.c4
        have c5 := kb _ _ hc.c5
        have c6 := kb _ _ hc.c6
        have c7 := kb _ _ hc.c7
        have HE : Hid (telL n y (l.take (j + 1)) = telL n y (l.take j) ++ [tel1 n y l[j]]) := telL_take n y l j hlt
        have HY : Hid ((l[j].node ≠ n → tel1 n y l[j] = l[j].with (telL n y l[j].kids)) ∧ (l[j].node = n → tel1 n y l[j] = y.with (telL n y l[j].kids))) := ⟨tel1_no, tel1_yes⟩
        have hzr : w.heap.size + 1 ≤ wr.heap.size := by have := HBr.out.size; have := Z1.out; omega
        have hkr : RdI wr (fun g => P g ∧ g < w.heap.size) kv l[j].kids := (hk.under HB1.out).under (HBr.out.mono (by have := Z1.out; omega))
        have HTL : Hid ((telL n y (l.take j)).length = j) := by show _ = _; rw [tel_map, List.length_map, List.length_take]; omega
        obtain ⟨pk, ck, rfl⟩ := hk.shape
        have HM := ZM.out j hlt
        clear hc hk kb
        generalize telL n y (l.take j) = outj at *
        generalize tel1 n y l[j] = tj at *
        generalize l[j] = x at *
        have BXr := HBX.out.keeps (fun i v => keeps_below HBr.out (by have := Z1.out; omega) _ _)
        have B2 : Below wr.heap.size wr (wr.alloc (.cells #[.int .i64 (x.node : Int), .int .i64 x.role, .string x.name, .string x.about, .int .i64 x.level, .int .i64 x.checked, .bool x.off, .slice pk x.kids.length ck] 26)) := (Below.refl _ _).alloc (Nat.le_refl _) _
        have BY := box8_new wr (.int .i64 (x.node : Int)) (.int .i64 x.role) (.string x.name) (.string x.about) (.int .i64 x.level) (.int .i64 x.checked) (.bool x.off) (.slice pk x.kids.length ck) 26
        have zy : (wr.alloc (.cells #[.int .i64 (x.node : Int), .int .i64 x.role, .string x.name, .string x.about, .int .i64 x.level, .int .i64 x.checked, .bool x.off, .slice pk x.kids.length ck] 26)).heap.size = wr.heap.size + 1 := by simp
        have fy : ∀ i, (wr.alloc (.cells #[.int .i64 (x.node : Int), .int .i64 x.role, .string x.name, .string x.about, .int .i64 x.level, .int .i64 x.checked, .bool x.off, .slice pk x.kids.length ck] 26)).frozen? ⟨wr.heap.size, i, none⟩ = false := fun i => World.frozen?_alloc_new _ _ _ _
        have IC := ih (fun g => P g ∧ g < w.heap.size) (.slice pk x.kids.length ck) x.kids _ (hkr.under B2) HM.1 HM.2
        have BX2 := BXr.keeps (fun i v => keeps_below B2 (Nat.le_refl _) _ _)
        go_upto_region 5 with fail
        generalize wr.alloc (.cells #[.int .i64 (x.node : Int), .int .i64 x.role, .string x.name, .string x.about, .int .i64 x.level, .int .i64 x.checked, .bool x.off, .slice pk x.kids.length ck] 26) = W2 at *
        have HB2 : Hid (Below wr.heap.size wr W2) := B2
        have ZY : Hid (W2.heap.size = wr.heap.size + 1) := zy
        have HBY : Hid (Box8 wr.heap.size (.int .i64 (x.node : Int)) (.int .i64 x.role) (.string x.name) (.string x.about) (.int .i64 x.level) (.int .i64 x.checked) (.bool x.off) (.slice pk x.kids.length ck) W2) := BY
        have HBX2 : Hid (Box8 w.heap.size (.int .i64 (y.node : Int)) (.int .i64 y.role) (.string y.name) (.string y.about) (.int .i64 y.level) (.int .i64 y.checked) (.bool y.off) (.slice yp yn yc) W2) := BX2
        have HFY : Hid (∀ i, W2.frozen? ⟨wr.heap.size, i, none⟩ = false) := fy
        obtain ⟨d0, d1, d2, d3, d4, d5, d6, d7⟩ := BY
        obtain ⟨e0, e1, e2, e3, e4, e5, e6, e7⟩ := BX2
        clear c0 c1 c2 c3 c4 c5 c6 c7 B2 BXr zy hkr fy
        have HO2 := HO.out.below HB2.out
        go_upto_region 6 with (go_at_call 21; refine IC.mono ?_; clear IC; rintro e w5 ⟨v5, rfl, t1, t2⟩; have R5 : Hid (RdI w5 (fun g => (P g ∧ g < w.heap.size) ∨ W2.heap.size ≤ g) v5 (telL n y x.kids)) := t1.any (fun g hg _ => by rcases hg with hg | hg; exact Or.inl hg.1; exact Or.inr hg); have B5 : Hid (Below W2.heap.size W2 w5) := t2; obtain ⟨p5, c5, rfl⟩ := t1.shape; have HBY5 := HBY.out.keeps (fun i v => keeps_below t2 (Nat.le_refl _) _ _); have HBX5 := HBX2.out.keeps (fun i v => keeps_below t2 (Nat.le_refl _) _ _); have HO5 : Hid (OwnR w5 (w.heap.size + 1) (fun g => (P g ∧ g < w.heap.size) ∨ w.heap.size < g) u7 outj) := HO2.below t2; have F5 : ∀ i, w5.frozen? ⟨wr.heap.size, i, none⟩ = false := (fun i => (t2.frozen (p := ⟨wr.heap.size, i, none⟩) (by have := ZY.out; simp only; omega)).trans (HFY.out i)); clear t1 t2)
        by_cases hx : x.node = n
        · have hxe : ((x.node : Int) == (n : Int)) = true := by rw [beq_iff_eq]; omega
          have HX : Hid (x.node = n) := hx
          have HBX9 := (show Hid _ from HBY5)
          obtain ⟨a0, a1, a2, a3, a4, a5, a6, a7⟩ := HBY5
          obtain ⟨e0, e1, e2, e3, e4, e5, e6, e7⟩ := HBX5
          have f0 := F5 0
          have f1 := F5 1
          have f2 := F5 2
          have f3 := F5 3
          have f4 := F5 4
          have f5 := F5 5
          have f6 := F5 6
          have f7 := F5 7
          clear d0 d1 d2 d3 d4 d5 d6 d7 hx F5
          go_upto_region 9 with fail
          obtain ⟨w6, hw6, HY6, fr6, z6, os6⟩ := set9 HBX9.out (.int .i64 (y.node : Int)) (.int .i64 y.role) (.string y.name) (.string y.about) (.int .i64 y.level) (.int .i64 y.checked) (.bool y.off) (.slice yp yn yc) (.slice p5 (telL n y x.kids).length c5)
          rw [hw6]
          have FR6 : Hid (∀ g, g < w5.heap.size → g ≠ wr.heap.size → w6.heap[g]? = w5.heap[g]?) := fun g _ hne => fr6 g hne
          have Z6 : Hid (w6.heap.size = w5.heap.size) := z6
          have OS6 : Hid (w6.os = w5.os ∧ w6.tape = w5.tape ∧ w6.output = w5.output) := os6
          clear a0 a1 a2 a3 a4 a5 a6 a7 f0 f1 f2 f3 f4 f5 f6 f7 hw6 fr6 z6 os6 e0 e1 e2 e3 e4 e5 e6 e7
          have hx := HX.out
          have hz6 : w6.heap.size = w5.heap.size := Z6.out
          have hz5 := B5.out.size
          have hzY := ZY.out
          have HO6 : OwnR w6 (w.heap.size + 1) (fun g => (P g ∧ g < w.heap.size) ∨ w.heap.size < g) u7 outj := HO.out.frame (fun b e => by
            have hb := (HO.out.lt b e).2
            rw [FR6.out b (by omega) (by omega), B5.out.block b (by omega)]
            exact HB2.out.block b hb) (fun g hg hlt => by
            rw [FR6.out g (by omega) (by omega), B5.out.block g (by omega)]
            exact ⟨HB2.out.block g hlt, hg⟩)
          have R6 : RdI w6 (fun g => ((P g ∧ g < w.heap.size) ∨ w.heap.size < g) ∧ some g ≠ u7.ownBlock) (.slice p5 (telL n y x.kids).length c5) (telL n y x.kids) := R5.out.frame (fun g hg hlt => by
            have hne : g ≠ wr.heap.size := fun e => by rcases hg with hg | hg <;> omega
            refine ⟨FR6.out g hlt hne, ?_, fun e => ?_⟩
            · rcases hg with hg | hg
              · exact Or.inl hg
              · exact Or.inr (by omega)
            · have := HO.out.lt g e.symm
              rcases hg with hg | hg <;> omega)
          have E6 : Hid (tj = y.with (telL n y x.kids)) := HY.out.2 hx
          have KB6 : RdI w6 (fun g => ((P g ∧ g < w.heap.size) ∨ w.heap.size < g) ∧ some g ≠ u7.ownBlock) (.slice p5 (telL n y x.kids).length c5) tj.kids := by rw [E6.out, with_kids]; exact R6
          have hzz : outj.length ≤ 1000000 := by have h1 := HTL.out; have h2 := ZL.out; omega
          have hB6 : w.heap.size + 1 ≤ w6.heap.size := by omega
          have HB6 : Hid (Below (w.heap.size + 1) W0 w6) := ⟨by rw [OS6.out.1, B5.out.os, HB2.out.os, HBr.out.os], by rw [OS6.out.2.1, B5.out.tape, HB2.out.tape, HBr.out.tape], by rw [OS6.out.2.2, B5.out.output, HB2.out.output, HBr.out.output], by have := HBr.out.size; omega, fun k hk => by rw [FR6.out k (by omega) (by omega), B5.out.block k (by omega), HB2.out.block k (by omega)]; exact HBr.out.block k hk⟩
          obtain ⟨d0, d1, d2, d3, d4, d5, d6, d7⟩ := HY6
          clear HO2 R6 hz6 hz5 hzY
          go_wp2_with (at_builtin; refine append_itR (wr := w6) (y := tj) (kv := .slice p5 (telL n y x.kids).length c5) rfl _ _ rfl rfl rfl HO6 KB6 (by rw [E6.out, itc_with]) hB6 hzz ?_; intro v8 w8 o8 g8 l8)
          go_roundw
          case rel =>
            refine ⟨j + 1, by omega, by go_num, (by show OwnR _ _ _ _ _; rw [HE.out]; exact o8), ?_⟩
            have hlt8 := HO6.lt
            exact ⟨g8.os.trans HB6.out.os, g8.tape.trans HB6.out.tape, g8.output.trans HB6.out.output, Nat.le_trans HB6.out.size g8.size, fun k hk => (g8.block k (by have := HB6.out.size; have := Z1.out; omega) (fun e => by have := hlt8 k e.symm; omega)).trans (HB6.out.block k hk)⟩
          case measure => simp [intOf]; omega
        · have hxe : ((x.node : Int) == (n : Int)) = false := by rw [beq_eq_false_iff_ne]; omega
          have HX : Hid (x.node ≠ n) := hx
          obtain ⟨a0, a1, a2, a3, a4, a5, a6, a7⟩ := HBY5
          have f7 := F5 7
          clear d0 d1 d2 d3 d4 d5 d6 d7 e0 e1 e2 e3 e4 e5 e6 e7 hx F5 HBX5
          go_upto_region 9 with fail
          have HY6 : Box8 wr.heap.size (.int .i64 (x.node : Int)) (.int .i64 x.role) (.string x.name) (.string x.about) (.int .i64 x.level) (.int .i64 x.checked) (.bool x.off) (.slice p5 (telL n y x.kids).length c5) (w5.setCell ⟨wr.heap.size, 7, none⟩ (.slice p5 (telL n y x.kids).length c5)) := by
            refine ⟨?_, ?_, ?_, ?_, ?_, ?_, ?_, World.cell?_setCell_same _ _ _ a7⟩ <;> (rw [World.cell?_setCell_other _ _ _ _ (by intro e; cases e)]; assumption)
          have FR6 : Hid (∀ g, g < w5.heap.size → g ≠ wr.heap.size → (w5.setCell ⟨wr.heap.size, 7, none⟩ (.slice p5 (telL n y x.kids).length c5)).heap[g]? = w5.heap[g]?) := fun g _ hne => heap_setCell_other _ _ _ _ hne
          have Z6 : Hid ((w5.setCell ⟨wr.heap.size, 7, none⟩ (.slice p5 (telL n y x.kids).length c5)).heap.size = w5.heap.size) := by show _ = _; simp
          have OS6 : Hid ((w5.setCell ⟨wr.heap.size, 7, none⟩ (.slice p5 (telL n y x.kids).length c5)).os = w5.os ∧ (w5.setCell ⟨wr.heap.size, 7, none⟩ (.slice p5 (telL n y x.kids).length c5)).tape = w5.tape ∧ (w5.setCell ⟨wr.heap.size, 7, none⟩ (.slice p5 (telL n y x.kids).length c5)).output = w5.output) := by
            have hb := (Below.refl 0 w5).setCell (p := ⟨wr.heap.size, 7, none⟩) (Nat.zero_le _) (.slice p5 (telL n y x.kids).length c5)
            exact ⟨hb.os, hb.tape, hb.output⟩
          clear a0 a1 a2 a3 a4 a5 a6 a7 f7
          generalize w5.setCell ⟨wr.heap.size, 7, none⟩ (.slice p5 (telL n y x.kids).length c5) = w6 at *
          have hx := HX.out

          have hz6 : w6.heap.size = w5.heap.size := Z6.out
          have hz5 := B5.out.size
          have hzY := ZY.out
          have HO6 : OwnR w6 (w.heap.size + 1) (fun g => (P g ∧ g < w.heap.size) ∨ w.heap.size < g) u7 outj := HO.out.frame (fun b e => by
            have hb := (HO.out.lt b e).2
            rw [FR6.out b (by omega) (by omega), B5.out.block b (by omega)]
            exact HB2.out.block b hb) (fun g hg hlt => by
            rw [FR6.out g (by omega) (by omega), B5.out.block g (by omega)]
            exact ⟨HB2.out.block g hlt, hg⟩)
          have R6 : RdI w6 (fun g => ((P g ∧ g < w.heap.size) ∨ w.heap.size < g) ∧ some g ≠ u7.ownBlock) (.slice p5 (telL n y x.kids).length c5) (telL n y x.kids) := R5.out.frame (fun g hg hlt => by
            have hne : g ≠ wr.heap.size := fun e => by rcases hg with hg | hg <;> omega
            refine ⟨FR6.out g hlt hne, ?_, fun e => ?_⟩
            · rcases hg with hg | hg
              · exact Or.inl hg
              · exact Or.inr (by omega)
            · have := HO.out.lt g e.symm
              rcases hg with hg | hg <;> omega)
          have E6 : Hid (tj = x.with (telL n y x.kids)) := HY.out.1 hx
          have KB6 : RdI w6 (fun g => ((P g ∧ g < w.heap.size) ∨ w.heap.size < g) ∧ some g ≠ u7.ownBlock) (.slice p5 (telL n y x.kids).length c5) tj.kids := by rw [E6.out, with_kids]; exact R6
          have hzz : outj.length ≤ 1000000 := by have h1 := HTL.out; have h2 := ZL.out; omega
          have hB6 : w.heap.size + 1 ≤ w6.heap.size := by omega
          have HB6 : Hid (Below (w.heap.size + 1) W0 w6) := ⟨by rw [OS6.out.1, B5.out.os, HB2.out.os, HBr.out.os], by rw [OS6.out.2.1, B5.out.tape, HB2.out.tape, HBr.out.tape], by rw [OS6.out.2.2, B5.out.output, HB2.out.output, HBr.out.output], by have := HBr.out.size; omega, fun k hk => by rw [FR6.out k (by omega) (by omega), B5.out.block k (by omega), HB2.out.block k (by omega)]; exact HBr.out.block k hk⟩
          obtain ⟨d0, d1, d2, d3, d4, d5, d6, d7⟩ := HY6
          clear HO2 R6 hz6 hz5 hzY
          go_wp2_with (at_builtin; refine append_itR (wr := w6) (y := tj) (kv := .slice p5 (telL n y x.kids).length c5) rfl _ _ rfl rfl rfl HO6 KB6 (by rw [E6.out, itc_with]) hB6 hzz ?_; intro v8 w8 o8 g8 l8)
          go_roundw
          case rel =>
            refine ⟨j + 1, by omega, by go_num, (by show OwnR _ _ _ _ _; rw [HE.out]; exact o8), ?_⟩
            have hlt8 := HO6.lt
            exact ⟨g8.os.trans HB6.out.os, g8.tape.trans HB6.out.tape, g8.output.trans HB6.out.output, Nat.le_trans HB6.out.size g8.size, fun k hk => (g8.block k (by have := HB6.out.size; have := Z1.out; omega) (fun e => by have := hlt8 k e.symm; omega)).trans (HB6.out.block k hk)⟩
          case measure => simp [intOf]; omega
      · obtain rfl : j = l.length := by omega
        rw [List.take_length] at HO
        go_wp2_with fail
        go_ret
        refine ⟨_, rfl, HO.out.rd (fun g hg _ => by rcases hg with hg | hg; exact Or.inl hg; exact Or.inr (by omega)) (fun b hb => Or.inr (by omega)), ?_⟩
        exact HB1.out.trans (HBr.out.mono (by omega))
end Go.Proofs.Ytgpckmolcdafcae

/-
  PLAIN MATHEMATICS of events: how the reference cuts an item out, pastes it in, and tells what is under it, where nodes are unlike.
-/
namespace Go.Proofs.Ytgpckmolcdafcae

theorem nodesL_cons (x : It) (xs : List It) : nodesL (x :: xs) = nodes1 x ++ nodesL xs := by rw [nodesL]
theorem ins_none (p i : Nat) (y : It) : (∀ x, p ∉ nodes1 x → ins1 p i y x = x) ∧ ∀ l, p ∉ nodesL l → insL p i y l = l := by
  refine It.ind (fun x h hn => ?_) (fun _ => rfl) (fun x xs h1 h2 hn => ?_)
  · rw [nodes1_eq, List.mem_cons] at hn
    apply It.same (ins1_node _ _ _ _) (ins1_says _ _ _ _)
    rw [ins1_kids, if_neg (fun e => hn (Or.inl e.symm)), h (fun hm => hn (Or.inr hm))]
  · rw [nodesL_cons, List.mem_append] at hn
    have e1 := h1 (fun hm => hn (Or.inl hm))
    have e2 := h2 (fun hm => hn (Or.inr hm))
    rw [ins_map] at e2 ⊢
    rw [List.map_cons, e1, e2]
end Go.Proofs.Ytgpckmolcdafcae

/-
  THE WALKS of the reference's Has; of cut.
-/
namespace Go.Proofs.Ytgpckmolcdafcae
open Go.RowKit

theorem has_int (l : List It) (k : Int) : (nodesZ (ofIts l)).contains k = hasI l k := by
  rw [nodes_of.2]
  unfold hasI
  rw [Bool.eq_iff_iff, List.contains_iff_mem, List.mem_map, Bool.and_eq_true, decide_eq_true_eq, List.contains_iff_mem]
  constructor
  · rintro ⟨m, hm, rfl⟩
    exact ⟨by omega, by simpa using hm⟩
  · rintro ⟨h1, h2⟩
    exact ⟨k.toNat, h2, by omega⟩
set_option maxHeartbeats 800000 in
theorem uhas_any {w : World} {P : Nat → Prop} {v : Value} {l : List It} (h : RdI w P v l) (hz : (nodesL l).length ≤ 500000) (k : Int) :
    Calls Try.prog 16 #[v, .int .i64 k] w fun e w' => e = .returned (.bool (hasI l k)) ∧ Below w.heap.size w w' := by
  have hzl : (nodesZ (ofIts l)).length = (nodesL l).length := by rw [nodes_of.2, List.length_map]
  have C := unodes_any (nodesZ (ofIts l)).length v (ofIts l) w h (Nat.le_refl _) (by omega)
  have HH : Hid ((nodesZ (ofIts l)).contains k = hasI l k) := has_int l k
  obtain ⟨p, c, rfl⟩ := h.shape
  clear h hz hzl
  generalize nodesZ (ofIts l) = L at *
  generalize hasI l k = r at *
  go_enter Try.func16, Try.ntmps16
  go_wp2_with (first
    | (go_at_call 11; refine C.mono ?_; clear C; rintro e w5 ⟨v5, rfl, ho5, hb5⟩; have C5 := qhasz_any (zs_of_owns ho5) k; rw [HH.out] at C5; obtain ⟨p5, c5, e5, _⟩ := (zs_of_owns ho5).at; subst e5)
    | (go_at_call 18; refine C5.mono ?_; clear C5; rintro e w6 ⟨rfl, hww⟩; subst hww))
  go_ret
  exact ⟨rfl, hb5⟩

/-- what is behind one that was looked through -/
theorem rm_next (n : Nat) (l : List It) (j : Nat) (h : j < l.length) : rmL n (l.take (j + 1)) = rmL n (l.take j) ++ rmL n [l[j]] := by
  rw [List.take_succ_eq_append_getElem h, rmL_app]
theorem rm_yes {n : Nat} {x : It} (h : x.node = n) : rmL n [x] = [] := by rw [rmL, if_pos h, rmL]
theorem rm_no {n : Nat} {x : It} (h : x.node ≠ n) : rmL n [x] = [x.with (rmL n x.kids)] := by rw [rmL, if_neg h, rm1_eq, rmL]
theorem rm_off {n : Nat} {x : It} (h : n ∉ nodes1 x) : rmL n [x] = [x] := by
  refine (rm_none n).2 [x] (fun hm => h ?_)
  rwa [nodesL_cons, show nodesL [] = [] from rfl, List.append_nil] at hm
theorem contains_next (n : Nat) (l : List It) (j : Nat) (h : j < l.length) : (nodesL (l.take (j + 1))).contains n = ((nodesL (l.take j)).contains n || (nodes1 l[j]).contains n) := by
  rw [List.take_succ_eq_append_getElem h, nodesL_app, nodesL_cons, show nodesL [] = [] from rfl, List.append_nil, Bool.eq_iff_iff, Bool.or_eq_true, List.contains_iff_mem, List.contains_iff_mem, List.contains_iff_mem, List.mem_append]
theorem contains1 (n : Nat) (x : It) : (nodes1 x).contains n = (decide (x.node = n) || (nodesL x.kids).contains n) := by
  rw [nodes1_eq, Bool.eq_iff_iff, Bool.or_eq_true, List.contains_iff_mem, List.contains_iff_mem, List.mem_cons, decide_eq_true_eq]
  constructor
  · rintro (h | h)
    · exact Or.inl h.symm
    · exact Or.inr h
  · rintro (h | h)
    · exact Or.inl h.symm
    · exact Or.inr h
/-- one node stands in one place -/
theorem apart_take {l : List It} (hu : Unlike l) {j : Nat} (h : j < l.length) {n : Nat} (h1 : n ∈ nodesL (l.take j)) : n ∉ nodes1 l[j] := fun h2 => by
  have hn : (nodesL (l.take (j + 1))).Nodup := by
    have e : l = l.take (j + 1) ++ l.drop (j + 1) := (List.take_append_drop _ _).symm
    unfold Unlike at hu
    rw [e, nodesL_app, List.nodup_append] at hu
    exact hu.1
  rw [List.take_succ_eq_append_getElem h, nodesL_app, List.nodup_append] at hn
  exact hn.2.2 n h1 n (by rw [nodesL_cons]; exact List.mem_append.mpr (Or.inl h2)) rfl
theorem unlike_kids {l : List It} (hu : Unlike l) {j : Nat} (h : j < l.length) : Unlike l[j].kids ∧ l[j].node ∉ nodesL l[j].kids := by
  have hn : (nodes1 l[j]).Nodup := by
    have e : l = l.take (j + 1) ++ l.drop (j + 1) := (List.take_append_drop _ _).symm
    unfold Unlike at hu
    rw [e, nodesL_app, List.nodup_append, List.take_succ_eq_append_getElem h, nodesL_app, List.nodup_append] at hu
    have := hu.1.2.1
    rwa [nodesL_cons, show nodesL [] = [] from rfl, List.append_nil] at this
  rw [nodes1_eq, List.nodup_cons] at hn
  exact ⟨hn.2, hn.1⟩
end Go.Proofs.Ytgpckmolcdafcae

/-
  THE WALK of the reference's cut. (Laid by mkxcv.py.)
-/
namespace Go.Proofs.Ytgpckmolcdafcae
open Go.RowKit

theorem set8 {N : Nat} {a0 a1 a2 a3 a4 a5 a6 a7 : Value} {w5 : World} (h : Box8 N a0 a1 a2 a3 a4 a5 a6 a7 w5) (v0 v1 v2 v3 v4 v5 v6 v7 : Value) : ∃ w6, ((((((((w5.setCell ⟨N, 0, none⟩ v0).setCell ⟨N, 1, none⟩ v1).setCell ⟨N, 2, none⟩ v2).setCell ⟨N, 3, none⟩ v3).setCell ⟨N, 4, none⟩ v4).setCell ⟨N, 5, none⟩ v5).setCell ⟨N, 6, none⟩ v6).setCell ⟨N, 7, none⟩ v7) = w6 ∧ Box8 N v0 v1 v2 v3 v4 v5 v6 v7 w6 ∧ (∀ g, g ≠ N → w6.heap[g]? = w5.heap[g]?) ∧ w6.heap.size = w5.heap.size ∧ w6.os = w5.os ∧ w6.tape = w5.tape ∧ w6.output = w5.output ∧ ∀ p, w6.frozen? p = w5.frozen? p := by
  refine ⟨_, rfl, (((((((h.put0 v0).put1 v1).put2 v2).put3 v3).put4 v4).put5 v5).put6 v6).put7 v7, fun g hg => ?_, by simp, ?_⟩
  · simp only [heap_setCell_other _ _ _ _ (show g ≠ (⟨N, _, none⟩ : Addr).block from hg)]
  · have hb := (((((((((Below.refl 0 w5).setCell (p := ⟨N, 0, none⟩) (Nat.zero_le _) v0).setCell (p := ⟨N, 1, none⟩) (Nat.zero_le _) v1).setCell (p := ⟨N, 2, none⟩) (Nat.zero_le _) v2).setCell (p := ⟨N, 3, none⟩) (Nat.zero_le _) v3).setCell (p := ⟨N, 4, none⟩) (Nat.zero_le _) v4).setCell (p := ⟨N, 5, none⟩) (Nat.zero_le _) v5).setCell (p := ⟨N, 6, none⟩) (Nat.zero_le _) v6).setCell (p := ⟨N, 7, none⟩) (Nat.zero_le _) v7)
    exact ⟨hb.os, hb.tape, hb.output, fun p => by simp⟩

set_option maxHeartbeats 6400000 in
set_option maxRecDepth 100000 in
theorem ucut_any (n : Nat) (m : Nat) : ∀ (P : Nat → Prop) (v : Value) (l : List It) (w : World), RdI w P v l → Unlike l → (nodesL l).length < m → (nodesL l).length ≤ 800000 →
    Calls Try.prog 29 #[v, .int .i64 (n : Int)] w fun e w' => ∃ v' X kx, e = .returned (.tuple #[v', itA X kx, .bool ((nodesL l).contains n)]) ∧ RdI w' (fun g => (P g ∧ g < w.heap.size) ∨ w.heap.size ≤ g) v' (rmL n l) ∧ RdI w' (fun g => (P g ∧ g < w.heap.size) ∨ w.heap.size ≤ g) kx X.kids ∧ (n ∈ nodesL l → X ∈ itemL l ∧ X.node = n) ∧ (n ∉ nodesL l → X = item0) ∧ Below w.heap.size w w' := by
  induction m with
  | zero => intro P v l w _ _ hm; omega
  | succ m ih =>
    intro P v l w hr hu hm hsz
    obtain ⟨p, c, rfl, y1, y2, hat⟩ := (hr.any (Q := fun g => P g ∧ g < w.heap.size) (fun g hg hlt => ⟨hg, hlt⟩)).at
    have T : Hid (∀ j (hj : j < l.length), ∃ b o kv, p = some ⟨b, o, none⟩ ∧ (P b ∧ b < w.heap.size) ∧ ItAt w b (o + j * 8) l[j] kv ∧ RdI w (fun g => P g ∧ g < w.heap.size) kv l[j].kids) := hat
    have ZM : Hid (∀ j (hj : j < l.length), (nodesL l[j].kids).length < m ∧ (nodesL l[j].kids).length ≤ 800000) := fun j hj => by have := nodesL_lt l j hj; omega
    have ZL : Hid (l.length ≤ 800000) := by show _ ≤ _; have := top_few l; omega
    have HU : Hid (Unlike l) := hu
    have B1 : Below w.heap.size w (w.alloc (.cells #[.int .i64 0, .int .i64 0, .string ⟨#[]⟩, .string ⟨#[]⟩, .int .i64 0, .int .i64 0, .bool false, .slice none 0 0] 26)) := (Below.refl _ _).alloc (Nat.le_refl _) _
    have z1 : (w.alloc (.cells #[.int .i64 0, .int .i64 0, .string ⟨#[]⟩, .string ⟨#[]⟩, .int .i64 0, .int .i64 0, .bool false, .slice none 0 0] 26)).heap.size = w.heap.size + 1 := by simp
    have r1 : (w.alloc (.cells #[.int .i64 0, .int .i64 0, .string ⟨#[]⟩, .string ⟨#[]⟩, .int .i64 0, .int .i64 0, .bool false, .slice none 0 0] 26)).heap[w.heap.size]? = some (.cells #[.int .i64 0, .int .i64 0, .string ⟨#[]⟩, .string ⟨#[]⟩, .int .i64 0, .int .i64 0, .bool false, .slice none 0 0] 26) := heap_alloc_new _ _
    have HSZ : Hid ((nodesL l).length ≤ 800000) := hsz
    clear hr hat hm hsz hu
    go_enter Try.func29, Try.ntmps29
    go_upto_region 1 with fail
    generalize w.alloc (.cells #[.int .i64 0, .int .i64 0, .string ⟨#[]⟩, .string ⟨#[]⟩, .int .i64 0, .int .i64 0, .bool false, .slice none 0 0] 26) = W0 at *
    have B2 : Below W0.heap.size W0 (W0.alloc (.cells #[.int .i64 0, .int .i64 0, .string ⟨#[]⟩, .string ⟨#[]⟩, .int .i64 0, .int .i64 0, .bool false, .slice none 0 0] 26)) := (Below.refl _ _).alloc (Nat.le_refl _) _
    have z2 : (W0.alloc (.cells #[.int .i64 0, .int .i64 0, .string ⟨#[]⟩, .string ⟨#[]⟩, .int .i64 0, .int .i64 0, .bool false, .slice none 0 0] 26)).heap.size = w.heap.size + 1 + 1 := by simp [z1]
    have X2 := box8_new W0 (.int .i64 0) (.int .i64 0) (.string ⟨#[]⟩) (.string ⟨#[]⟩) (.int .i64 0) (.int .i64 0) (.bool false) (.slice none 0 0) 26
    have f2 : ∀ i, (W0.alloc (.cells #[.int .i64 0, .int .i64 0, .string ⟨#[]⟩, .string ⟨#[]⟩, .int .i64 0, .int .i64 0, .bool false, .slice none 0 0] 26)).frozen? ⟨W0.heap.size, i, none⟩ = false := fun i => World.frozen?_alloc_new _ _ _ _
    rw [z1] at X2 f2
    have r2 : (W0.alloc (.cells #[.int .i64 0, .int .i64 0, .string ⟨#[]⟩, .string ⟨#[]⟩, .int .i64 0, .int .i64 0, .bool false, .slice none 0 0] 26)).heap[w.heap.size]? = some (.cells #[.int .i64 0, .int .i64 0, .string ⟨#[]⟩, .string ⟨#[]⟩, .int .i64 0, .int .i64 0, .bool false, .slice none 0 0] 26) := by rw [heap_alloc_old _ _ (by omega)]; exact r1
    go_upto_region 3 with fail
    generalize W0.alloc (.cells #[.int .i64 0, .int .i64 0, .string ⟨#[]⟩, .string ⟨#[]⟩, .int .i64 0, .int .i64 0, .bool false, .slice none 0 0] 26) = W1 at *
    have HB1 : Hid (Below w.heap.size w W1) := B1.trans (B2.mono B1.size)
    have HR1 : Hid (W1.heap[w.heap.size]? = some (.cells #[.int .i64 0, .int .i64 0, .string ⟨#[]⟩, .string ⟨#[]⟩, .int .i64 0, .int .i64 0, .bool false, .slice none 0 0] 26)) := r2
    have HZ1 : Hid (W1.heap.size = w.heap.size + 1 + 1) := z2
    have HX1 : Hid (Box8 (w.heap.size + 1) (.int .i64 0) (.int .i64 0) (.string ⟨#[]⟩) (.string ⟨#[]⟩) (.int .i64 0) (.int .i64 0) (.bool false) (.slice none 0 0) W1) := X2
    have HF1 : Hid (∀ i, W1.frozen? ⟨(w.heap.size + 1), i, none⟩ = false) := f2
    clear B1 z1 r1 B2 z2 X2 f2 r2
    go_wp2_with fail
    go_loopw [7, 9, 17] (fun vo ht iv wr => ∃ (j : Nat) (X : It) (kx : Value), j ≤ l.length ∧ iv = .int .i64 j ∧ ht = .bool ((nodesL (l.take j)).contains n) ∧ Hid (OwnR wr (w.heap.size + 1 + 1) (fun g => (P g ∧ g < w.heap.size) ∨ w.heap.size + 1 < g) vo (rmL n (l.take j))) ∧ Hid (Found wr (w.heap.size + 1) (fun g => (P g ∧ g < w.heap.size) ∨ w.heap.size + 1 < g) vo n (l.take j) X kx) ∧ Hid (Below w.heap.size w wr) ∧ Hid (wr.heap[w.heap.size]? = some (.cells #[.int .i64 0, .int .i64 0, .string ⟨#[]⟩, .string ⟨#[]⟩, .int .i64 0, .int .i64 0, .bool false, .slice none 0 0] 26)) ∧ Hid (w.heap.size + 1 + 1 ≤ wr.heap.size)) (fun _ _ iv _ => l.length - (intOf iv).toNat)
    case atStart =>
      refine ⟨0, item0, .slice none 0 0, Nat.zero_le _, rfl, rfl, (by show OwnR _ _ _ _ _; simpa [rmL] using OwnR.nil _ _ _), ⟨HX1.out, HF1.out, RdI.nil _ _, fun h => by simp [nodesL] at h, fun _ => rfl⟩, HB1.out, HR1.out, Nat.le_of_eq HZ1.out.symm⟩
    case round =>
      obtain ⟨j, X, kx, hj, rfl, rfl, HO, HFd, HBr, HR, HZ⟩ := hrel
      by_cases hlt : j < l.length
      · obtain ⟨b, o, kv, rfl, hb, hc, hk⟩ := T.out j hlt
        have kb : Keeps w wr := fun a v hv => keeps_below HBr.out (Nat.le_refl _) _ _ hv
        have c0 := kb _ _ hc.c0
        have c1 := kb _ _ hc.c1
        have c2 := kb _ _ hc.c2
        have c3 := kb _ _ hc.c3
        have c4 := kb _ _ hc.c4
        have c5 := kb _ _ hc.c5
        have c6 := kb _ _ hc.c6
        have c7 := kb _ _ hc.c7
        have hkr := hk.under HBr.out
        have HE1 : Hid (rmL n (l.take (j + 1)) = rmL n (l.take j) ++ rmL n [l[j]]) := rm_next n l j hlt
        have HE2 : Hid ((nodesL (l.take (j + 1))).contains n = ((nodesL (l.take j)).contains n || (nodes1 l[j]).contains n)) := contains_next n l j hlt
        have HE3 : Hid (n ∈ nodesL (l.take j) → n ∉ nodes1 l[j]) := apart_take HU.out hlt
        have HE4 : Hid (Unlike l[j].kids ∧ l[j].node ∉ nodesL l[j].kids) := unlike_kids HU.out hlt
        have HE5 : Hid (itemL (l.take (j + 1)) = itemL (l.take j) ++ item1 l[j]) := by show _ = _; rw [List.take_succ_eq_append_getElem hlt, itemL_app, show itemL [l[j]] = item1 l[j] from by rw [itemL, itemL, List.append_nil]]
        have HM := ZM.out j hlt
        have HLT : Hid (j < l.length) := hlt
        obtain ⟨pk, ck, rfl⟩ := hk.shape
        have hrl : (rmL n (l.take j)).length ≤ 1000000 := by
          have h1 := top_few (rmL n (l.take j))
          have h2 := ((rm_sub n).2 (l.take j)).length_le
          have h3 := nodesL_take_le l j
          have h4 := HSZ.out
          omega
        clear hc hk kb
        generalize l[j] = x at *
        have B2 : Below wr.heap.size wr (wr.alloc (.cells #[.int .i64 (x.node : Int), .int .i64 x.role, .string x.name, .string x.about, .int .i64 x.level, .int .i64 x.checked, .bool x.off, .slice pk x.kids.length ck] 26)) := (Below.refl _ _).alloc (Nat.le_refl _) _
        have BY := box8_new wr (.int .i64 (x.node : Int)) (.int .i64 x.role) (.string x.name) (.string x.about) (.int .i64 x.level) (.int .i64 x.checked) (.bool x.off) (.slice pk x.kids.length ck) 26
        have zy : (wr.alloc (.cells #[.int .i64 (x.node : Int), .int .i64 x.role, .string x.name, .string x.about, .int .i64 x.level, .int .i64 x.checked, .bool x.off, .slice pk x.kids.length ck] 26)).heap.size = wr.heap.size + 1 := by simp
        have fy : ∀ i, (wr.alloc (.cells #[.int .i64 (x.node : Int), .int .i64 x.role, .string x.name, .string x.about, .int .i64 x.level, .int .i64 x.checked, .bool x.off, .slice pk x.kids.length ck] 26)).frozen? ⟨wr.heap.size, i, none⟩ = false := fun i => World.frozen?_alloc_new _ _ _ _
        go_upto_region 7 with fail
        generalize wr.alloc (.cells #[.int .i64 (x.node : Int), .int .i64 x.role, .string x.name, .string x.about, .int .i64 x.level, .int .i64 x.checked, .bool x.off, .slice pk x.kids.length ck] 26) = W2 at *
        have HB2 : Hid (Below wr.heap.size wr W2) := B2
        have ZY : Hid (W2.heap.size = wr.heap.size + 1) := zy
        have HBY : Hid (Box8 wr.heap.size (.int .i64 (x.node : Int)) (.int .i64 x.role) (.string x.name) (.string x.about) (.int .i64 x.level) (.int .i64 x.checked) (.bool x.off) (.slice pk x.kids.length ck) W2) := BY
        have HFY : Hid (∀ i, W2.frozen? ⟨wr.heap.size, i, none⟩ = false) := fy
        have HKR : Hid (RdI wr (fun g => P g ∧ g < w.heap.size) (.slice pk x.kids.length ck) x.kids) := hkr
        clear c0 c1 c2 c3 c4 c5 c6 c7 B2 zy fy hkr
        obtain ⟨d0, d1, d2, d3, d4, d5, d6, d7⟩ := BY
        have HO2 : Hid (OwnR W2 (w.heap.size + 1 + 1) (fun g => (P g ∧ g < w.heap.size) ∨ w.heap.size + 1 < g) u7 (rmL n (l.take j))) := HO.out.below HB2.out
        have HFd2 : Hid (Found W2 (w.heap.size + 1) (fun g => (P g ∧ g < w.heap.size) ∨ w.heap.size + 1 < g) u7 n (l.take j) X kx) := HFd.out.frame (HB2.out.block _ (by have := HZ.out; omega)) (fun g _ h2 h3 => ⟨HB2.out.block g h3, h2⟩) HFd.out.yes HFd.out.no
        have HR2 : Hid (W2.heap[w.heap.size]? = some (.cells #[.int .i64 0, .int .i64 0, .string ⟨#[]⟩, .string ⟨#[]⟩, .int .i64 0, .int .i64 0, .bool false, .slice none 0 0] 26)) := (HB2.out.block _ (by have := HZ.out; omega)).trans HR.out
        have HBW2 : Hid (Below w.heap.size w W2) := HBr.out.trans (HB2.out.mono HBr.out.size)
        have HK2 : Hid (RdI W2 (fun g => P g ∧ g < w.heap.size) (.slice pk x.kids.length ck) x.kids) := HKR.out.under HB2.out
        have HLV : Hid (∀ g, u7.ownBlock = some g → w.heap.size + 1 + 1 ≤ g ∧ g < wr.heap.size) := HO.out.lt
        cases hth : (nodesL (l.take j)).contains n with
        | true =>
          have hin : n ∈ nodesL (l.take j) := by simpa using hth
          have hno := HE3.out hin
          have hxe : ((x.node : Int) == (n : Int)) = false := by
            rw [beq_eq_false_iff_ne]
            intro e
            exact hno (by rw [nodes1_eq]; exact List.mem_cons.mpr (Or.inl (by omega)))
          have EJ : Hid (rmL n (l.take (j + 1)) = rmL n (l.take j) ++ [x]) := by show _ = _; rw [HE1.out, rm_off hno]
          have EC : Hid ((nodesL (l.take (j + 1))).contains n = true) := by show _ = _; rw [HE2.out, hth]; rfl
          have HIN : Hid (n ∈ nodesL (l.take j)) := hin
          have KB : RdI W2 (fun g => ((P g ∧ g < w.heap.size) ∨ w.heap.size + 1 < g) ∧ some g ≠ u7.ownBlock) (.slice pk x.kids.length ck) x.kids := HK2.out.any (fun g hg _ => ⟨Or.inl hg, fun e => by have := HLV.out g e.symm; omega⟩)
          have hB2 : w.heap.size + 1 + 1 ≤ W2.heap.size := by have := HZ.out; have := ZY.out; omega
          have HO2' := HO2.out
          clear hth hin hno
          go_wp2_with (at_builtin; refine append_itR (wr := W2) (y := x) (kv := .slice pk x.kids.length ck) rfl _ _ rfl rfl rfl HO2' KB rfl hB2 hrl ?_; intro v8 w8 o8 g8 l8)
          go_roundw
          case rel =>
            refine ⟨j + 1, X, kx, by omega, by go_num, by rw [EC.out], (by show OwnR _ _ _ _ _; rw [EJ.out]; exact o8), ?_, ?_, ?_, ?_⟩
            · have h1 := HFd2.out.grown (by omega) (fun e => by have := HLV.out _ e; omega) g8 l8
              exact ⟨h1.box, h1.fz, h1.rd, fun _ => by
                obtain ⟨q1, q2⟩ := h1.yes HIN.out
                exact ⟨by rw [HE5.out]; exact List.mem_append.mpr (Or.inl q1), q2⟩, fun h2 => absurd (by have := EC.out; simpa using this) h2⟩
            · exact ⟨g8.os.trans HBW2.out.os, g8.tape.trans HBW2.out.tape, g8.output.trans HBW2.out.output, Nat.le_trans HBW2.out.size g8.size, fun k hk => (g8.block k (by have := HBW2.out.size; omega) (fun e => by have := HLV.out k e.symm; omega)).trans (HBW2.out.block k hk)⟩
            · show _ = _
              rw [g8.block _ (by omega) (fun e => by have := HLV.out _ e.symm; omega)]
              exact HR2.out
            · show _ ≤ _
              have := g8.size; omega
          case measure => simp [intOf]; omega
        | false =>
          by_cases hx : x.node = n
          · have hxe : ((x.node : Int) == (n : Int)) = true := by rw [beq_iff_eq]; omega
            have EJ : Hid (rmL n (l.take (j + 1)) = rmL n (l.take j)) := by show _ = _; rw [HE1.out, rm_yes hx, List.append_nil]
            have EC : Hid ((nodesL (l.take (j + 1))).contains n = true) := by show _ = _; rw [HE2.out, contains1, decide_eq_true hx]; simp
            have HX : Hid (x.node = n) := hx
            obtain ⟨a0, a1, a2, a3, a4, a5, a6, a7⟩ := HFd2.out.box
            have f0 := HFd2.out.fz 0
            have f1 := HFd2.out.fz 1
            have f2 := HFd2.out.fz 2
            have f3 := HFd2.out.fz 3
            have f4 := HFd2.out.fz 4
            have f5 := HFd2.out.fz 5
            have f6 := HFd2.out.fz 6
            have f7 := HFd2.out.fz 7
            clear hth hx hrl
            go_wp2_with fail
            obtain ⟨w6, hw6, HY6, fr6, z6, os6, tp6, ou6, fz6⟩ := set8 HFd2.out.box (.int .i64 (x.node : Int)) (.int .i64 x.role) (.string x.name) (.string x.about) (.int .i64 x.level) (.int .i64 x.checked) (.bool x.off) (.slice pk x.kids.length ck)
            rw [hw6]
            clear hw6 a0 a1 a2 a3 a4 a5 a6 a7 f0 f1 f2 f3 f4 f5 f6 f7
            go_roundw
            case rel =>
              have hz2 := HZ.out
              have hzy := ZY.out
              refine ⟨j + 1, x, .slice pk x.kids.length ck, by omega, by go_num, by rw [EC.out], ?_, ⟨HY6, fun i => by rw [fz6]; exact HFd2.out.fz i, ?_, fun _ => ⟨by rw [HE5.out]; exact List.mem_append.mpr (Or.inr (mem_item1.mpr (Or.inl rfl))), HX.out⟩, fun h2 => absurd (by have := EC.out; simpa using this) h2⟩, ?_, ?_, ?_⟩
              · show OwnR _ _ _ _ _
                rw [EJ.out]
                exact HO2.out.frame (fun b e => fr6 b (by have := HLV.out b e; omega)) (fun g hg hlt => ⟨fr6 g (by omega), hg⟩)
              · exact HK2.out.frame (fun g hg hlt => ⟨fr6 g (by omega), Or.inl hg, fun e => by have := HLV.out g e.symm; omega⟩)
              · exact ⟨os6.trans HBW2.out.os, tp6.trans HBW2.out.tape, ou6.trans HBW2.out.output, by rw [z6]; exact HBW2.out.size, fun k hk => (fr6 k (by omega)).trans (HBW2.out.block k hk)⟩
              · show _ = _
                rw [fr6 _ (by omega)]
                exact HR2.out
              · show _ ≤ _
                omega
            case measure => simp [intOf]; omega
          · have hxe : ((x.node : Int) == (n : Int)) = false := by rw [beq_eq_false_iff_ne]; omega
            have HX : Hid (x.node ≠ n) := hx
            have IC := ih (fun g => P g ∧ g < w.heap.size) (.slice pk x.kids.length ck) x.kids W2 HK2.out HE4.out.1 HM.1 HM.2
            unfold itA at IC
            have EQ : Hid ((nodes1 x).contains n = (nodesL x.kids).contains n) := by show _ = _; rw [contains1, decide_eq_false hx]; rfl
            have EJ : Hid (rmL n (l.take (j + 1)) = rmL n (l.take j) ++ [x.with (rmL n x.kids)]) := by show _ = _; rw [HE1.out, rm_no hx]
            have EC : Hid ((nodesL (l.take (j + 1))).contains n = (nodesL x.kids).contains n) := by show _ = _; rw [HE2.out, hth, EQ.out]; rfl
            clear hth hx
            cases hin : (nodesL x.kids).contains n with
            | false =>
              rw [hin] at IC
              have HIN : Hid (n ∉ nodesL x.kids) := (by simpa using hin : n ∉ nodesL x.kids)
              clear hin
              go_upto_region 11 with (go_at_call 29; refine IC.mono ?_; clear IC; rintro e w5 ⟨v5, X5, kx5, rfl, t1, t2, t3, t4, t5⟩; obtain ⟨p5, c5, rfl⟩ := t1.shape; obtain ⟨q5, b5, rfl⟩ := t2.shape; have HT1 := (show Hid _ from t1); have HT2 := (show Hid _ from t2); have HT3 := (show Hid _ from t3); have HT4 := (show Hid _ from t4); have HT5 : Hid (Below W2.heap.size W2 w5) := t5; clear t1 t2 t3 t4 t5)
              have B6 : Below w5.heap.size w5 (w5.alloc (.cells #[.int .i64 (X5.node : Int), .int .i64 X5.role, .string X5.name, .string X5.about, .int .i64 X5.level, .int .i64 X5.checked, .bool X5.off, .slice q5 X5.kids.length b5] 26)) := (Below.refl _ _).alloc (Nat.le_refl _) _
              have BZ := box8_new w5 (.int .i64 (X5.node : Int)) (.int .i64 X5.role) (.string X5.name) (.string X5.about) (.int .i64 X5.level) (.int .i64 X5.checked) (.bool X5.off) (.slice q5 X5.kids.length b5) 26
              have z6 : ((w5.alloc (.cells #[.int .i64 (X5.node : Int), .int .i64 X5.role, .string X5.name, .string X5.about, .int .i64 X5.level, .int .i64 X5.checked, .bool X5.off, .slice q5 X5.kids.length b5] 26))).heap.size = w5.heap.size + 1 := by simp
              generalize (w5.alloc (.cells #[.int .i64 (X5.node : Int), .int .i64 X5.role, .string X5.name, .string X5.about, .int .i64 X5.level, .int .i64 X5.checked, .bool X5.off, .slice q5 X5.kids.length b5] 26)) = w6 at *
              have hz5 := HT5.out.size
              have B26 : Below W2.heap.size W2 w6 := HT5.out.trans (B6.mono hz5)
              have HZ6 : Hid (W2.heap.size ≤ w6.heap.size) := B26.size
              have EX : Hid (x.with (rmL n x.kids) = x) := by show _ = _; rw [(rm_none n).2 _ HIN.out, with_self]
              have EJ2 : Hid (rmL n (l.take (j + 1)) = rmL n (l.take j) ++ [x]) := by show _ = _; rw [EJ.out, EX.out]
              have EC2 : Hid ((nodesL (l.take (j + 1))).contains n = false) := by show _ = _; rw [EC.out]; simpa using HIN.out
              have HOUT : Hid (n ∉ nodesL (l.take (j + 1))) := (by simpa using EC2.out : n ∉ nodesL (l.take (j + 1)))
              have HOUT0 : Hid (n ∉ nodesL (l.take j)) := fun hm => HOUT.out (by rw [List.take_succ_eq_append_getElem HLT.out, nodesL_app]; exact List.mem_append.mpr (Or.inl hm))
              have HO6 : Hid (OwnR w6 (w.heap.size + 1 + 1) (fun g => (P g ∧ g < w.heap.size) ∨ w.heap.size + 1 < g) u7 (rmL n (l.take j))) := HO2.out.below B26
              have HFd6 : Hid (Found w6 (w.heap.size + 1) (fun g => (P g ∧ g < w.heap.size) ∨ w.heap.size + 1 < g) u7 n (l.take (j + 1)) X kx) := HFd2.out.frame (B26.block _ (by have := HZ.out; have := ZY.out; omega)) (fun g _ h2 h3 => ⟨B26.block g h3, h2⟩) (fun h => absurd h HOUT.out) (fun _ => HFd2.out.no HOUT0.out)
              have HR6 : Hid (w6.heap[w.heap.size]? = some (.cells #[.int .i64 0, .int .i64 0, .string ⟨#[]⟩, .string ⟨#[]⟩, .int .i64 0, .int .i64 0, .bool false, .slice none 0 0] 26)) := (B26.block _ (by have := HZ.out; have := ZY.out; omega)).trans HR2.out
              have HBW6 : Hid (Below w.heap.size w w6) := HBW2.out.trans (B26.mono HBW2.out.size)
              have KB : RdI w6 (fun g => ((P g ∧ g < w.heap.size) ∨ w.heap.size + 1 < g) ∧ some g ≠ u7.ownBlock) (.slice pk x.kids.length ck) x.kids := (HK2.out.under B26).any (fun g hg _ => ⟨Or.inl hg, fun e => by have := HLV.out g e.symm; omega⟩)
              have BY6 := HBY.out.keeps (fun i v => keeps_below B26 (Nat.le_refl _) _ _)
              clear d0 d1 d2 d3 d4 d5 d6 d7 B6 B26 BZ z6 hz5
              obtain ⟨d0, d1, d2, d3, d4, d5, d6, d7⟩ := BY6
              have hB6 : w.heap.size + 1 + 1 ≤ w6.heap.size := by have := HZ6.out; have := HZ.out; have := ZY.out; omega
              have HO6' := HO6.out
              have HLV6 : Hid (∀ g, u7.ownBlock = some g → w.heap.size + 1 + 1 ≤ g ∧ g < wr.heap.size) := HLV.out
              go_wp2_with (at_builtin; refine append_itR (wr := w6) (y := x) (kv := .slice pk x.kids.length ck) rfl _ _ rfl rfl rfl HO6' KB rfl hB6 hrl ?_; intro v8 w8 o8 g8 l8)
              go_roundw
              case rel =>
                have hz6 := HZ6.out
                have hz := HZ.out
                have hzy := ZY.out
                refine ⟨j + 1, X, kx, by omega, by go_num, by rw [EC2.out], (by show OwnR _ _ _ _ _; rw [EJ2.out]; exact o8), ?_, ?_, ?_, ?_⟩
                · exact HFd6.out.grown (by omega) (fun e => by have := HLV6.out _ e; omega) g8 l8
                · exact ⟨g8.os.trans HBW6.out.os, g8.tape.trans HBW6.out.tape, g8.output.trans HBW6.out.output, Nat.le_trans HBW6.out.size g8.size, fun k hk => (g8.block k (by have := HBW6.out.size; omega) (fun e => by have := HLV6.out k e.symm; omega)).trans (HBW6.out.block k hk)⟩
                · show _ = _
                  rw [g8.block _ (by omega) (fun e => by have := HLV6.out _ e.symm; omega)]
                  exact HR6.out
                · show _ ≤ _
                  have := g8.size; omega
              case measure => simp [intOf]; omega
            | true =>
              rw [hin] at IC
              have HIN : Hid (n ∈ nodesL x.kids) := (by simpa using hin : n ∈ nodesL x.kids)
              have EC2 : Hid ((nodesL (l.take (j + 1))).contains n = true) := EC.out.trans hin
              clear hin
              go_upto_region 11 with (go_at_call 29; refine IC.mono ?_; clear IC; rintro e w5 ⟨v5, X5, kx5, rfl, t1, t2, t3, t4, t5⟩; obtain ⟨p5, c5, rfl⟩ := t1.shape; obtain ⟨q5, b5, rfl⟩ := t2.shape; have HT1 := (show Hid _ from t1); have HT2 := (show Hid _ from t2); have HT3 := (show Hid _ from t3); have HT5 : Hid (Below W2.heap.size W2 w5) := t5; clear t1 t2 t3 t4 t5)
              have B6 : Below w5.heap.size w5 (w5.alloc (.cells #[.int .i64 (X5.node : Int), .int .i64 X5.role, .string X5.name, .string X5.about, .int .i64 X5.level, .int .i64 X5.checked, .bool X5.off, .slice q5 X5.kids.length b5] 26)) := (Below.refl _ _).alloc (Nat.le_refl _) _
              have BZ := box8_new w5 (.int .i64 (X5.node : Int)) (.int .i64 X5.role) (.string X5.name) (.string X5.about) (.int .i64 X5.level) (.int .i64 X5.checked) (.bool X5.off) (.slice q5 X5.kids.length b5) 26
              have z6 : ((w5.alloc (.cells #[.int .i64 (X5.node : Int), .int .i64 X5.role, .string X5.name, .string X5.about, .int .i64 X5.level, .int .i64 X5.checked, .bool X5.off, .slice q5 X5.kids.length b5] 26))).heap.size = w5.heap.size + 1 := by simp
              generalize (w5.alloc (.cells #[.int .i64 (X5.node : Int), .int .i64 X5.role, .string X5.name, .string X5.about, .int .i64 X5.level, .int .i64 X5.checked, .bool X5.off, .slice q5 X5.kids.length b5] 26)) = w6 at *
              have hz5 := HT5.out.size
              have B26 : Below W2.heap.size W2 w6 := HT5.out.trans (B6.mono hz5)
              have HZ6 : Hid (W2.heap.size ≤ w6.heap.size) := B26.size
              have BY6 := HBY.out.keeps (fun i v => keeps_below B26 (Nat.le_refl _) _ _)
              have HFd6 := HFd2.out.frame (w' := w6) (vo' := u7) (B26.block _ (by have := HZ.out; have := ZY.out; omega)) (fun g _ h2 h3 => ⟨B26.block g h3, h2⟩) HFd2.out.yes HFd2.out.no
              have g7 : w6.frozen? ⟨wr.heap.size, 7, none⟩ = false := (B26.frozen (p := ⟨wr.heap.size, 7, none⟩) (by have := ZY.out; simp only; omega)).trans (HFY.out 7)
              clear d0 d1 d2 d3 d4 d5 d6 d7
              obtain ⟨d0, d1, d2, d3, d4, d5, d6, d7⟩ := BY6
              obtain ⟨a0, a1, a2, a3, a4, a5, a6, a7⟩ := HFd6.box
              obtain ⟨e0, e1, e2, e3, e4, e5, e6, e7⟩ := BZ
              have f0 := HFd6.fz 0
              have f1 := HFd6.fz 1
              have f2 := HFd6.fz 2
              have f3 := HFd6.fz 3
              have f4 := HFd6.fz 4
              have f5 := HFd6.fz 5
              have f6 := HFd6.fz 6
              have f7 := HFd6.fz 7
              have HB26 : Hid (Below W2.heap.size W2 w6) := B26
              have HFX6 := (show Hid _ from HFd6)
              have HB56 : Hid (Below w5.heap.size w5 w6) := B6
              have n1 : ¬ wr.heap.size = w5.heap.size := by have := ZY.out; omega
              have n2 : ¬ w5.heap.size = wr.heap.size := fun e => n1 e.symm
              have n3 : ¬ wr.heap.size = w.heap.size + 1 := by have := HZ.out; omega
              have n4 : ¬ w.heap.size + 1 = wr.heap.size := fun e => n3 e.symm
              have n5 : ¬ w5.heap.size = w.heap.size + 1 := by have := HZ.out; have := ZY.out; omega
              have n6 : ¬ w.heap.size + 1 = w5.heap.size := fun e => n5 e.symm
              clear B26 B6 HFd6 z6 hz5
              go_upto_region 12 with fail
              go_region
              obtain ⟨w9, hw9, HF9, fr9, z9, os9, tp9, ou9, fz9⟩ := set8 (w5 := w6.setCell ⟨wr.heap.size, 7, none⟩ (.slice p5 (rmL n x.kids).length c5)) (HFX6.out.box.keeps (fun i v hv => by rw [World.cell?_setCell_other _ _ _ _ (by intro e; first | exact n3 (congrArg Addr.block e) | exact n4 (congrArg Addr.block e))]; exact hv)) (.int .i64 (X5.node : Int)) (.int .i64 X5.role) (.string X5.name) (.string X5.about) (.int .i64 X5.level) (.int .i64 X5.checked) (.bool X5.off) (.slice q5 X5.kids.length b5)
              rw [hw9]
              have HY9 : Box8 wr.heap.size (.int .i64 (x.node : Int)) (.int .i64 x.role) (.string x.name) (.string x.about) (.int .i64 x.level) (.int .i64 x.checked) (.bool x.off) (.slice p5 (rmL n x.kids).length c5) w9 := by
                have h7 : Box8 wr.heap.size (.int .i64 (x.node : Int)) (.int .i64 x.role) (.string x.name) (.string x.about) (.int .i64 x.level) (.int .i64 x.checked) (.bool x.off) (.slice p5 (rmL n x.kids).length c5) (w6.setCell ⟨wr.heap.size, 7, none⟩ (.slice p5 (rmL n x.kids).length c5)) := Box8.put7 (a7 := .slice pk x.kids.length ck) ⟨d0, d1, d2, d3, d4, d5, d6, d7⟩ _
                exact h7.keeps (fun i v hv => by rw [← hv]; exact World.cell?_of_block (a := ⟨wr.heap.size, i, none⟩) (fr9 _ n3))
              have hb7 := (Below.refl 0 w6).setCell (p := ⟨wr.heap.size, 7, none⟩) (Nat.zero_le _) (.slice p5 (rmL n x.kids).length c5)
              have frA : ∀ g : Nat, g ≠ wr.heap.size → g ≠ w.heap.size + 1 → w9.heap[g]? = w6.heap[g]? := fun g h1 h2 => (fr9 g h2).trans (heap_setCell_other _ _ _ _ h1)
              have zA : w9.heap.size = w6.heap.size := by rw [z9]; simp
              have osA : w9.os = w6.os ∧ w9.tape = w6.tape ∧ w9.output = w6.output := ⟨os9.trans hb7.os, tp9.trans hb7.tape, ou9.trans hb7.output⟩
              have fzA : ∀ i, w9.frozen? ⟨w.heap.size + 1, i, none⟩ = false := fun i => by rw [fz9]; simpa using HFX6.out.fz i
              clear hw9 fr9 z9 os9 tp9 ou9 fz9 hb7 d0 d1 d2 d3 d4 d5 d6 d7 a0 a1 a2 a3 a4 a5 a6 a7 e0 e1 e2 e3 e4 e5 e6 e7 f0 f1 f2 f3 f4 f5 f6 f7 g7
              have hzz6 := HZ6.out
              have hzz := HZ.out
              have hzy := ZY.out
              have HTo : w9.drew.os = w9.os ∧ w9.drew.output = w9.output ∧ w9.drew.tape = w9.tape := ⟨rfl, rfl, rfl⟩
              have fr10 : ∀ g : Nat, w9.drew.heap[g]? = w9.heap[g]? := fun _ => rfl
              have z10 : w9.drew.heap.size = w9.heap.size := rfl
              have HY10 : Box8 wr.heap.size (.int .i64 (x.node : Int)) (.int .i64 x.role) (.string x.name) (.string x.about) (.int .i64 x.level) (.int .i64 x.checked) (.bool x.off) (.slice p5 (rmL n x.kids).length c5) w9.drew := HY9
              have HF10 : Box8 (w.heap.size + 1) (.int .i64 (X5.node : Int)) (.int .i64 X5.role) (.string X5.name) (.string X5.about) (.int .i64 X5.level) (.int .i64 X5.checked) (.bool X5.off) (.slice q5 X5.kids.length b5) w9.drew := HF9
              have fz10 : ∀ i, w9.drew.frozen? ⟨w.heap.size + 1, i, none⟩ = false := fzA
              clear HY9 HF9 fzA
              generalize w9.drew = w10 at *
              have frB : Hid (∀ g : Nat, g ≠ wr.heap.size → g ≠ w.heap.size + 1 → w10.heap[g]? = w6.heap[g]?) := fun g h1 h2 => (fr10 g).trans (frA g h1 h2)
              have HO6 : Hid (OwnR w10 (w.heap.size + 1 + 1) (fun g => (P g ∧ g < w.heap.size) ∨ w.heap.size + 1 < g) u7 (rmL n (l.take j))) := HO.out.frame (fun b e => by
                have hb := HLV.out b e
                rw [frB.out b (by omega) (by omega), HB26.out.block b (by omega)]
                exact HB2.out.block b hb.2) (fun g hg hlt => by
                have hne : g ≠ w.heap.size + 1 := fun e => by rcases hg with hg | hg <;> omega
                rw [frB.out g (by omega) hne, HB26.out.block g (by omega)]
                exact ⟨HB2.out.block g hlt, hg⟩)
              have hrd : ∀ g : Nat, ((P g ∧ g < w.heap.size) ∧ g < W2.heap.size ∨ W2.heap.size ≤ g) → g < w5.heap.size → w10.heap[g]? = w5.heap[g]? ∧ ((P g ∧ g < w.heap.size) ∨ w.heap.size + 1 < g) ∧ some g ≠ u7.ownBlock := fun g hg hlt => by
                have h1 : g ≠ wr.heap.size := fun e => by rcases hg with hg | hg <;> omega
                have h2 : g ≠ w.heap.size + 1 := fun e => by rcases hg with hg | hg <;> omega
                refine ⟨(frB.out g h1 h2).trans (HB56.out.block g hlt), ?_, fun e => ?_⟩
                · rcases hg with hg | hg
                  · exact Or.inl hg.1
                  · exact Or.inr (by omega)
                · have := HLV.out g e.symm
                  rcases hg with hg | hg <;> omega
              have HFd6 : Hid (Found w10 (w.heap.size + 1) (fun g => (P g ∧ g < w.heap.size) ∨ w.heap.size + 1 < g) u7 n (l.take (j + 1)) X5 (.slice q5 X5.kids.length b5)) :=
                ⟨HF10, fz10, HT2.out.frame (fun g hg hlt => ⟨(hrd g hg hlt).1, (hrd g hg hlt).2⟩), fun _ => ⟨by rw [HE5.out]; exact List.mem_append.mpr (Or.inr (mem_item1.mpr (Or.inr (HT3.out HIN.out).1))), (HT3.out HIN.out).2⟩, fun h2 => absurd (by have := EC2.out; simpa using this) h2⟩
              have KB : RdI w10 (fun g => ((P g ∧ g < w.heap.size) ∨ w.heap.size + 1 < g) ∧ some g ≠ u7.ownBlock) (.slice p5 (rmL n x.kids).length c5) (x.with (rmL n x.kids)).kids := by
                rw [with_kids]
                exact HT1.out.frame (fun g hg hlt => ⟨(hrd g hg hlt).1, (hrd g hg hlt).2⟩)
              have HR6 : Hid (w10.heap[w.heap.size]? = some (.cells #[.int .i64 0, .int .i64 0, .string ⟨#[]⟩, .string ⟨#[]⟩, .int .i64 0, .int .i64 0, .bool false, .slice none 0 0] 26)) := by
                show _ = _
                rw [frB.out _ (by omega) (by omega), HB26.out.block _ (by omega)]
                exact HR2.out
              have HBW6 : Hid (Below w.heap.size w w10) := by
                have hb := HBW2.out.trans (HB26.out.mono HBW2.out.size)
                exact ⟨by rw [HTo.1, osA.1]; exact hb.os, by rw [HTo.2.2, osA.2.1]; exact hb.tape, by rw [HTo.2.1, osA.2.2]; exact hb.output, by rw [z10, zA]; exact hb.size, fun k hk => by rw [frB.out k (by omega) (by omega)]; exact hb.block k hk⟩
              have HZ6 : Hid (W2.heap.size ≤ w10.heap.size) := by show _ ≤ _; rw [z10, zA]; exact hzz6
              clear HO2 frA zA osA HTo fr10 z10 HF10 fz10 hrd hzz6 hzz hzy n1 n2 n3 n4 n5 n6
              obtain ⟨d0, d1, d2, d3, d4, d5, d6, d7⟩ := HY10
              have hB6 : w.heap.size + 1 + 1 ≤ w10.heap.size := by have := HZ6.out; have := HZ.out; have := ZY.out; omega
              have HO6' := HO6.out
              have HLV6 : Hid (∀ g, u7.ownBlock = some g → w.heap.size + 1 + 1 ≤ g ∧ g < wr.heap.size) := HLV.out
              go_wp2_with (at_builtin; refine append_itR (wr := w10) (y := x.with (rmL n x.kids)) (kv := .slice p5 (rmL n x.kids).length c5) rfl _ _ rfl rfl rfl HO6' KB (by rw [itc_with]) hB6 hrl ?_; intro v8 w8 o8 g8 l8)
              go_roundw
              case rel =>
                have hz6 := HZ6.out
                have hz := HZ.out
                have hzy := ZY.out
                refine ⟨j + 1, X5, .slice q5 X5.kids.length b5, by omega, by go_num, by rw [EC2.out], (by show OwnR _ _ _ _ _; rw [EJ.out]; exact o8), ?_, ?_, ?_, ?_⟩
                · exact HFd6.out.grown (by omega) (fun e => by have := HLV6.out _ e; omega) g8 l8
                · exact ⟨g8.os.trans HBW6.out.os, g8.tape.trans HBW6.out.tape, g8.output.trans HBW6.out.output, Nat.le_trans HBW6.out.size g8.size, fun k hk => (g8.block k (by have := HBW6.out.size; omega) (fun e => by have := HLV6.out k e.symm; omega)).trans (HBW6.out.block k hk)⟩
                · show _ = _
                  rw [g8.block _ (by omega) (fun e => by have := HLV6.out _ e.symm; omega)]
                  exact HR6.out
                · show _ ≤ _
                  have := g8.size; omega
              case measure => simp [intOf]; omega
      · obtain rfl : j = l.length := by omega
        rw [List.take_length] at HO HFd
        have hR := HR.out
        have BN : Box8 w.heap.size (.int .i64 0) (.int .i64 0) (.string ⟨#[]⟩) (.string ⟨#[]⟩) (.int .i64 0) (.int .i64 0) (.bool false) (.slice none 0 0) wr := by
          refine ⟨?_, ?_, ?_, ?_, ?_, ?_, ?_, ?_⟩ <;> simp [World.cell?, hR]
        have FN : ∀ i, wr.frozen? ⟨w.heap.size, i, none⟩ = false := fun i => by simp [World.frozen?, hR]
        obtain ⟨a0, a1, a2, a3, a4, a5, a6, a7⟩ := HFd.out.box
        have HBN := (show Hid _ from BN)
        obtain ⟨e0, e1, e2, e3, e4, e5, e6, e7⟩ := BN
        have f0 := FN 0
        have f1 := FN 1
        have f2 := FN 2
        have f3 := FN 3
        have f4 := FN 4
        have f5 := FN 5
        have f6 := FN 6
        have f7 := FN 7
        obtain ⟨pv, cv, hvo⟩ := HO.out.shape
        subst hvo
        have HLR : Hid ((rmL n l).length = (rmL n l).length) := rfl
        obtain ⟨pk, ck, hkx⟩ := HFd.out.rd.shape
        subst hkx
        clear hR FN
        go_wp2_with fail
        go_region
        obtain ⟨w9, hw9, HF9, fr9, z9, os9, tp9, ou9, fz9⟩ := set8 HBN.out (.int .i64 (X.node : Int)) (.int .i64 X.role) (.string X.name) (.string X.about) (.int .i64 X.level) (.int .i64 X.checked) (.bool X.off) (.slice pk X.kids.length ck)
        rw [hw9]
        clear hw9 a0 a1 a2 a3 a4 a5 a6 a7 e0 e1 e2 e3 e4 e5 e6 e7 f0 f1 f2 f3 f4 f5 f6 f7
        have fr10 : ∀ g : Nat, g ≠ w.heap.size → w9.drew.heap[g]? = wr.heap[g]? := fr9
        have HF10 : Box8 w.heap.size (.int .i64 (X.node : Int)) (.int .i64 X.role) (.string X.name) (.string X.about) (.int .i64 X.level) (.int .i64 X.checked) (.bool X.off) (.slice pk X.kids.length ck) w9.drew := HF9
        have HBW : Below w.heap.size w w9.drew := ⟨os9.trans HBr.out.os, tp9.trans HBr.out.tape, ou9.trans HBr.out.output, by show _ ≤ w9.heap.size; rw [z9]; exact HBr.out.size, fun k hk => (fr9 k (by omega)).trans (HBr.out.block k hk)⟩
        clear fr9 HF9 z9 os9 tp9 ou9 fz9
        generalize w9.drew = w10 at *
        obtain ⟨h0, h1, h2, h3, h4, h5, h6, h7⟩ := HF10
        have hz := HZ.out
        have hOR : OwnR w10 (w.heap.size + 1 + 1) (fun g => (P g ∧ g < w.heap.size) ∨ w.heap.size + 1 < g) (.slice pv (rmL n l).length cv) (rmL n l) := HO.out.frame (fun b e => fr10 b (by have := HO.out.lt b e; omega)) (fun g hg _ => ⟨fr10 g (by rcases hg with hg | hg <;> omega), hg⟩)
        have hXR : RdI w10 (fun g => (P g ∧ g < w.heap.size) ∨ w.heap.size ≤ g) (.slice pk X.kids.length ck) X.kids := HFd.out.rd.frame (fun g hg _ => ⟨fr10 g (by rcases hg.1 with hg | hg <;> omega), by rcases hg.1 with hg | hg; exact Or.inl hg; exact Or.inr (by omega)⟩)
        have HOR := (show Hid _ from hOR)
        have HXR := (show Hid _ from hXR)
        have HBW10 : Hid (Below w.heap.size w w10) := HBW
        clear hOR hXR HBW fr10
        go_wp2_with fail
        refine bodyPost_ret (v := .tuple #[.slice pv (rmL n l).length cv, .agg #[.int .i64 (X.node : Int), .int .i64 X.role, .string X.name, .string X.about, .int .i64 X.level, .int .i64 X.checked, .bool X.off, .slice pk X.kids.length ck], .bool (decide (n ∈ nodesL l))]) (by simp [results, Try.results29, go_sem, h0, h1, h2, h3, h4, h5, h6, h7]) rfl ⟨_, X, .slice pk X.kids.length ck, by first | rfl | (rw [List.contains_eq_mem]; rfl), OwnR.rd HOR.out (fun g hg _ => by rcases hg with hg | hg; exact Or.inl hg; exact Or.inr (by omega)) (fun b hb => Or.inr (by omega)), HXR.out, HFd.out.yes, HFd.out.no, HBW10.out⟩
end Go.Proofs.Ytgpckmolcdafcae

/-
  THE WALK of the reference's Cut.
-/
namespace Go.Proofs.Ytgpckmolcdafcae
open Go.RowKit

set_option maxHeartbeats 3200000 in
set_option maxRecDepth 100000 in
theorem uCut_any (n : Nat) {P : Nat → Prop} {v : Value} {l : List It} {w : World} (hr : RdI w P v l) (hu : Unlike l) (hsz : (nodesL l).length ≤ 800000) :
    Calls Try.prog 20 #[v, .int .i64 (n : Int)] w fun e w' => ∃ v' X kx, e = .returned (.tuple #[v', itA X kx]) ∧ RdI w' (fun g => (P g ∧ g < w.heap.size) ∨ w.heap.size ≤ g) v' (rmL n l) ∧ RdI w' (fun g => (P g ∧ g < w.heap.size) ∨ w.heap.size ≤ g) kx X.kids ∧ (n ∈ nodesL l → X ∈ itemL l ∧ X.node = n) ∧ (n ∉ nodesL l → X = item0) ∧ Below w.heap.size w w' := by
  have B1 : Below w.heap.size w (w.alloc (.cells #[.int .i64 0, .int .i64 0, .string ⟨#[]⟩, .string ⟨#[]⟩, .int .i64 0, .int .i64 0, .bool false, .slice none 0 0] 26)) := (Below.refl _ _).alloc (Nat.le_refl _) _
  have r1 : (w.alloc (.cells #[.int .i64 0, .int .i64 0, .string ⟨#[]⟩, .string ⟨#[]⟩, .int .i64 0, .int .i64 0, .bool false, .slice none 0 0] 26)).heap[w.heap.size]? = some (.cells #[.int .i64 0, .int .i64 0, .string ⟨#[]⟩, .string ⟨#[]⟩, .int .i64 0, .int .i64 0, .bool false, .slice none 0 0] 26) := heap_alloc_new _ _
  have z1 : (w.alloc (.cells #[.int .i64 0, .int .i64 0, .string ⟨#[]⟩, .string ⟨#[]⟩, .int .i64 0, .int .i64 0, .bool false, .slice none 0 0] 26)).heap.size = w.heap.size + 1 := by simp
  have C := ucut_any n ((nodesL l).length + 1) (fun g => P g ∧ g < w.heap.size) v l _ ((hr.any (Q := fun g => P g ∧ g < w.heap.size) (fun g hg hlt => ⟨hg, hlt⟩)).under B1) hu (by omega) hsz
  unfold itA at C ⊢
  obtain ⟨p, c, rfl⟩ := hr.shape
  clear hr hu hsz
  go_enter Try.func20, Try.ntmps20
  go_upto_region 1 with fail
  generalize w.alloc (.cells #[.int .i64 0, .int .i64 0, .string ⟨#[]⟩, .string ⟨#[]⟩, .int .i64 0, .int .i64 0, .bool false, .slice none 0 0] 26) = W0 at *
  have HB1 : Hid (Below w.heap.size w W0) := B1
  have HR1 : Hid (W0.heap[w.heap.size]? = some (.cells #[.int .i64 0, .int .i64 0, .string ⟨#[]⟩, .string ⟨#[]⟩, .int .i64 0, .int .i64 0, .bool false, .slice none 0 0] 26)) := r1
  have HZ1 : Hid (W0.heap.size = w.heap.size + 1) := z1
  clear B1 r1 z1
  go_upto_region 2 with (go_at_call 29; refine C.mono ?_; clear C; rintro e w5 ⟨v5, X5, kx5, rfl, t1, t2, t3, t4, t5⟩; obtain ⟨p5, c5, rfl⟩ := t1.shape; obtain ⟨q5, b5, rfl⟩ := t2.shape; have HT1 := (show Hid _ from t1); have HT2 := (show Hid _ from t2); have HT3 := (show Hid _ from t3); have HT4 := (show Hid _ from t4); have HT5 : Hid (Below W0.heap.size W0 w5) := t5; clear t1 t2 t3 t4 t5)
  have B6 : Below w5.heap.size w5 (w5.alloc (.cells #[.int .i64 (X5.node : Int), .int .i64 X5.role, .string X5.name, .string X5.about, .int .i64 X5.level, .int .i64 X5.checked, .bool X5.off, .slice q5 X5.kids.length b5] 26)) := (Below.refl _ _).alloc (Nat.le_refl _) _
  have BZ := box8_new w5 (.int .i64 (X5.node : Int)) (.int .i64 X5.role) (.string X5.name) (.string X5.about) (.int .i64 X5.level) (.int .i64 X5.checked) (.bool X5.off) (.slice q5 X5.kids.length b5) 26
  generalize w5.alloc (.cells #[.int .i64 (X5.node : Int), .int .i64 X5.role, .string X5.name, .string X5.about, .int .i64 X5.level, .int .i64 X5.checked, .bool X5.off, .slice q5 X5.kids.length b5] 26) = w6 at *
  have hz5 := HT5.out.size
  have hz1 := HZ1.out
  have hR : w6.heap[w.heap.size]? = some (.cells #[.int .i64 0, .int .i64 0, .string ⟨#[]⟩, .string ⟨#[]⟩, .int .i64 0, .int .i64 0, .bool false, .slice none 0 0] 26) := by
    rw [B6.block _ (by omega), HT5.out.block _ (by omega)]
    exact HR1.out
  have BN : Box8 w.heap.size (.int .i64 0) (.int .i64 0) (.string ⟨#[]⟩) (.string ⟨#[]⟩) (.int .i64 0) (.int .i64 0) (.bool false) (.slice none 0 0) w6 := by
    refine ⟨?_, ?_, ?_, ?_, ?_, ?_, ?_, ?_⟩ <;> simp [World.cell?, hR]
  have FN : ∀ i, w6.frozen? ⟨w.heap.size, i, none⟩ = false := fun i => by simp [World.frozen?, hR]
  have HBN := (show Hid _ from BN)
  obtain ⟨a0, a1, a2, a3, a4, a5, a6, a7⟩ := BZ
  obtain ⟨e0, e1, e2, e3, e4, e5, e6, e7⟩ := BN
  have f0 := FN 0
  have f1 := FN 1
  have f2 := FN 2
  have f3 := FN 3
  have f4 := FN 4
  have f5 := FN 5
  have f6 := FN 6
  have f7 := FN 7
  have HB56 : Hid (Below w5.heap.size w5 w6) := B6
  have HZ5 : Hid (w.heap.size + 1 ≤ w5.heap.size) := by show _ ≤ _; omega
  have n1 : ¬ w.heap.size = w5.heap.size := by omega
  have n2 : ¬ w5.heap.size = w.heap.size := by omega
  clear hR FN B6 hz5 hz1
  go_region
  obtain ⟨w9, hw9, HF9, fr9, z9, os9, tp9, ou9, fz9⟩ := set8 HBN.out (.int .i64 (X5.node : Int)) (.int .i64 X5.role) (.string X5.name) (.string X5.about) (.int .i64 X5.level) (.int .i64 X5.checked) (.bool X5.off) (.slice q5 X5.kids.length b5)
  rw [hw9]
  clear hw9 a0 a1 a2 a3 a4 a5 a6 a7 e0 e1 e2 e3 e4 e5 e6 e7 f0 f1 f2 f3 f4 f5 f6 f7 n1 n2
  have fr10 : ∀ g : Nat, g ≠ w.heap.size → w9.drew.heap[g]? = w6.heap[g]? := fr9
  have HF10 : Box8 w.heap.size (.int .i64 (X5.node : Int)) (.int .i64 X5.role) (.string X5.name) (.string X5.about) (.int .i64 X5.level) (.int .i64 X5.checked) (.bool X5.off) (.slice q5 X5.kids.length b5) w9.drew := HF9
  have hb := HB1.out.trans ((HT5.out.trans (HB56.out.mono HT5.out.size)).mono HB1.out.size)
  have HBW : Hid (Below w.heap.size w w9.drew) := ⟨os9.trans hb.os, tp9.trans hb.tape, ou9.trans hb.output, by show _ ≤ w9.heap.size; rw [z9]; exact hb.size, fun k hk => (fr9 k (by omega)).trans (hb.block k hk)⟩
  clear fr9 HF9 z9 os9 tp9 ou9 fz9 hb
  generalize w9.drew = w10 at *
  obtain ⟨h0, h1, h2, h3, h4, h5, h6, h7⟩ := HF10
  have hrd : ∀ g : Nat, ((P g ∧ g < w.heap.size) ∧ g < W0.heap.size ∨ W0.heap.size ≤ g) → g < w5.heap.size → w10.heap[g]? = w5.heap[g]? ∧ ((P g ∧ g < w.heap.size) ∨ w.heap.size ≤ g) := fun g hg hlt => by
    have hz1 := HZ1.out
    have hne : g ≠ w.heap.size := fun e => by rcases hg with hg | hg <;> omega
    refine ⟨(fr10 g hne).trans (HB56.out.block g hlt), ?_⟩
    rcases hg with hg | hg
    · exact Or.inl hg.1
    · exact Or.inr (by omega)
  have HO1 : Hid (RdI w10 (fun g => (P g ∧ g < w.heap.size) ∨ w.heap.size ≤ g) (.slice p5 (rmL n l).length c5) (rmL n l)) := HT1.out.frame hrd
  have HO2 : Hid (RdI w10 (fun g => (P g ∧ g < w.heap.size) ∨ w.heap.size ≤ g) (.slice q5 X5.kids.length b5) X5.kids) := HT2.out.frame hrd
  clear hrd fr10
  go_wp2_with fail
  refine bodyPost_ret (v := .tuple #[.slice p5 (rmL n l).length c5, .agg #[.int .i64 (X5.node : Int), .int .i64 X5.role, .string X5.name, .string X5.about, .int .i64 X5.level, .int .i64 X5.checked, .bool X5.off, .slice q5 X5.kids.length b5]]) (by simp [results, Try.results20, go_sem, h0, h1, h2, h3, h4, h5, h6, h7]) rfl ⟨_, X5, .slice q5 X5.kids.length b5, rfl, HO1.out, HO2.out, HT3.out, HT4.out, HBW.out⟩
end Go.Proofs.Ytgpckmolcdafcae

/-
  THE WALK of the reference's Paste, among all. (Laid by mkxpt.py.)
-/
namespace Go.Proofs.Ytgpckmolcdafcae
open Go.RowKit

theorem below_grown {B : Nat} {w0 wr w1 : World} {v : Value} {n : Nat} {xs : List Value} (h : Below B w0 wr) (hown : wr.ownsRow B 26 8 v n xs) (hB : B ≤ wr.heap.size) (hg : wr.grownBy w1 v.ownBlock) : Below B w0 w1 := by
  refine ⟨hg.os.trans h.os, hg.tape.trans h.tape, hg.output.trans h.output, Nat.le_trans h.size hg.size, fun k hk => (hg.block k (by omega) (fun e => ?_)).trans (h.block k hk)⟩
  rcases hown.2 with ⟨rfl, rfl⟩ | ⟨g, cap, cur, rfl, hBg, _⟩
  · simp [Value.ownBlock] at e
  · simp [Value.ownBlock] at e
    omega
theorem own_shape {w : World} {B n : Nat} {v : Value} {xs : List Value} (h : w.ownsRow B 26 8 v n xs) : ∃ p c, v = .slice p n c := by
  rcases h.2 with ⟨rfl, h0⟩ | ⟨g, cap, cur, rfl, _⟩
  · exact ⟨none, 0, by rw [h0]⟩
  · exact ⟨_, _, rfl⟩
theorem le_alloc {B : Nat} {w : World} {o : Obj} (h : B ≤ w.heap.size) : B ≤ (w.alloc o).heap.size := by simp; omega
theorem own_emptyT {w : World} {B g : Nat} (h : w.heap[g]? = some (Obj.cells #[] 26)) (hB : B ≤ g) : w.ownsRow B 26 8 (.slice (some ⟨g, 0, none⟩) 0 0) 0 [] :=
  ⟨rfl, Or.inr ⟨g, 0, #[], rfl, hB, h, Nat.le_refl _, by decide, rfl, rfl⟩⟩
/-- cells that stand below B, at an address -/
def CellsR (w : World) (B : Nat) (p : Option Addr) (xs : List Value) : Prop := ∀ j u, xs[j]? = some u → ∃ b o, p = some ⟨b, o, none⟩ ∧ b < B ∧ w.cell? ⟨b, o + j, none⟩ = some u
theorem CellsR.under {w w' : World} {B : Nat} {p : Option Addr} {xs : List Value} (h : CellsR w B p xs) (hb : Below B w w') : ∀ j u, xs[j]? = some u → ∃ b o, p = some ⟨b, o, none⟩ ∧ w'.cell? ⟨b, o + j, none⟩ = some u := fun j u hu => by
  obtain ⟨b, o, e, hlt, hc⟩ := h j u hu
  exact ⟨b, o, e, by rw [← hc]; exact World.cell?_of_block (a := ⟨b, o + j, none⟩) (hb.block b hlt)⟩
theorem one_cells {w : World} {g : Nat} {x : It} {kx : Value} (h : w.heap[g]? = some (.cells (itc (x, kx)).toArray 26)) : ∀ j u, (itc (x, kx))[j]? = some u → ∃ b o, (some ⟨g, 0, none⟩ : Option Addr) = some ⟨b, o, none⟩ ∧ w.cell? ⟨b, o + j, none⟩ = some u := fun j u hu => ⟨g, 0, rfl, by
  simp [World.cell?, h]
  simpa using hu⟩
theorem oneX (x : It) (xp : Option Addr) (xn xc : Nat) : ∀ u ∈ itc (x, .slice xp xn xc), u.oneCell' = true := fun u hu => by
  simp only [itc, List.mem_cons, List.not_mem_nil, or_false] at hu
  rcases hu with rfl | rfl | rfl | rfl | rfl | rfl | rfl | rfl <;> rfl

/-- append of cells that stand somewhere, at a step of a region -/
theorem step_append_cells {w0 W : World} {ops : Array Oper} {o : Oper} {a : Act} {K : Act → World → Prop} {Q : Exit → Act → World → Prop} {E : Prop} (hgd : o.guard = none) (s x : Operand)
    (ho : o.op = Op.call { callee := Callee.builtin Builtin.append, args := #[s, x], argTypes := #[22, 22] }) {B n m c : Nat} {v : Value} {xs news : List Value} {p : Option Addr}
    (hs : a.eval s = v) (hown : W.ownsRow B 26 8 v n xs) (hx : a.eval x = .slice p m c) (hl : news.length = m * 8) (hnews : ∀ j u, news[j]? = some u → ∃ b o', p = some ⟨b, o', none⟩ ∧ W.cell? ⟨b, o' + j, none⟩ = some u) (h1 : ∀ u ∈ news, u.oneCell' = true) (hb : Below B w0 W) (hB : B ≤ W.heap.size) (hsz : n + m ≤ 2000000)
    (h : ∀ v' w', w'.ownsRow B 26 8 v' (n + m) (xs ++ news) → Below B w0 w' → B ≤ w'.heap.size → W.grownBy w' v.ownBlock → K (a.put o.dst v') w') :
    if Region.wanted o (yielded ops a.tmps) = true then Oper.wp Try.prog o a W K Q else E := by
  have hw : Region.wanted o (yielded ops a.tmps) = true := by simp [Region.wanted, hgd]
  rw [if_pos hw]
  obtain ⟨i0, hi, hz0, hz1, hz2⟩ := info_parts infoT
  cases p with
  | none =>
    have hm0 : news = [] := by
      cases news with
      | nil => rfl
      | cons y ys =>
        obtain ⟨b, o', e, _⟩ := hnews 0 y rfl
        cases e
    subst hm0
    have : m = 0 := by simp at hl; omega
    subst this
    have hrun := run_append_empty c o.type B n v xs hown
    have hk' := h v W (by simpa using hown) hb hB (grown_refl _ _)
    unfold Oper.wp
    simp [execOp, ho, resolve, invoke, builtin, hs, hx, hrun, Result.andThen]
    exact hk'
  | some ad =>
    refine wp_append_own _ s x 22 ho B 26 i0 _ 8 96 Try.underlying22 hi hz0 hz1 hz2 rfl (by decide) v n xs hs hown ad m c news hx hl (fun j y hy => by
        obtain ⟨b, o, e1, e2⟩ := hnews j y hy
        cases e1
        rw [add_at]
        exact e2) h1 (by unfold maxLen; omega) (by omega) hB ?_
    intro v' w1 k1 k2 _
    exact h v' w1 k1 (below_grown hb hown hB k2) (Nat.le_trans hB k2.size) k2

theorem cellsT_take (l : List It) (kvs : List Value) (k : Nat) : (cellsT (l.take k) (kvs.take k)) = (cellsT l kvs).take (k * 8) := by
  induction l generalizing kvs k with
  | nil => simp [cellsT]
  | cons x l ih =>
    cases kvs with
    | nil => simp [cellsT]
    | cons y kvs =>
      cases k with
      | zero => simp [cellsT]
      | succ k =>
        have e : ∀ (l : List It) (kvs : List Value), cellsT (x :: l) (y :: kvs) = itc (x, y) ++ cellsT l kvs := fun _ _ => by simp [cellsT]
        rw [List.take_succ_cons, List.take_succ_cons, e, e, ih, List.take_append, itc_len, show (k + 1) * 8 - 8 = k * 8 from by omega, List.take_of_length_le (l := itc (x, y)) (by rw [itc_len]; omega)]
theorem cellsT_drop (l : List It) (kvs : List Value) (k : Nat) : (cellsT (l.drop k) (kvs.drop k)) = (cellsT l kvs).drop (k * 8) := by
  induction l generalizing kvs k with
  | nil => simp [cellsT]
  | cons x l ih =>
    cases kvs with
    | nil => simp [cellsT]
    | cons y kvs =>
      cases k with
      | zero => simp
      | succ k =>
        have e : ∀ (l : List It) (kvs : List Value), cellsT (x :: l) (y :: kvs) = itc (x, y) ++ cellsT l kvs := fun _ _ => by simp [cellsT]
        rw [List.drop_succ_cons, List.drop_succ_cons, e, ih, List.drop_append, itc_len, show (k + 1) * 8 - 8 = k * 8 from by omega, List.drop_of_length_le (l := itc (x, y)) (by rw [itc_len]; omega), List.nil_append]

set_option maxHeartbeats 6400000 in
set_option maxRecDepth 100000 in
theorem upaste_in (x : It) (xp : Option Addr) (xn xc : Nat) (to : Int) (i : Nat) (hto : to < 0) {p : Option Addr} {c : Nat} {l : List It} {kvs : List Value} {w : World} (hi : i ≤ l.length) (hlc : l.length ≤ c) (_hcm : c ≤ 9223372036854775807) (hl : kvs.length = l.length) (hc : CellsR w w.heap.size p (cellsT l kvs)) (h1 : ∀ u ∈ cellsT l kvs, u.oneCell' = true) (hsz : l.length ≤ 800000) (Q : Ending → World → Prop) (hQ : Hid (∀ v' w', w'.ownsRow w.heap.size 26 8 v' (i + 1 + (l.length - i)) ((cellsT (l.take i) (kvs.take i) ++ itc (x, .slice xp xn xc)) ++ cellsT (l.drop i) (kvs.drop i)) → Below w.heap.size w w' → Q (.returned (.tuple #[v', .bool true])) w')) :
    Calls Try.prog 17 #[.slice p l.length c, .int .i64 to, .int .i64 i, .agg #[.int .i64 (x.node : Int), .int .i64 x.role, .string x.name, .string x.about, .int .i64 x.level, .int .i64 x.checked, .bool x.off, .slice xp xn xc]] w Q := by
  have B1 : Below w.heap.size w (w.alloc (.cells #[.int .i64 (x.node : Int), .int .i64 x.role, .string x.name, .string x.about, .int .i64 x.level, .int .i64 x.checked, .bool x.off, .slice xp xn xc] 26)) := (Below.refl _ _).alloc (Nat.le_refl _) _
  have BX := box8_new w (.int .i64 (x.node : Int)) (.int .i64 x.role) (.string x.name) (.string x.about) (.int .i64 x.level) (.int .i64 x.checked) (.bool x.off) (.slice xp xn xc) 26
  have ZZ : Hid ((w.alloc (.cells #[.int .i64 (x.node : Int), .int .i64 x.role, .string x.name, .string x.about, .int .i64 x.level, .int .i64 x.checked, .bool x.off, .slice xp xn xc] 26)).heap.size = w.heap.size + 1) := by show _ = _; simp
  have O1 : ∀ u ∈ cellsT (l.take i) (kvs.take i), u.oneCell' = true := fun u hu => h1 u (by rw [cellsT_take] at hu; exact List.mem_of_mem_take hu)
  have O3 : ∀ u ∈ cellsT (l.drop i) (kvs.drop i), u.oneCell' = true := fun u hu => h1 u (by rw [cellsT_drop] at hu; exact List.mem_of_mem_drop hu)
  have L3 : (cellsT (l.drop i) (kvs.drop i)).length = (l.length - i) * 8 := by rw [cellsT_len _ _ (by simp [hl]), List.length_drop]
  have L1 : (cellsT (l.take i) (kvs.take i)).length = i * 8 := by rw [cellsT_len _ _ (by simp [hl]), List.length_take, Nat.min_eq_left hi]
  have T1 : CellsR w w.heap.size p (cellsT (l.take i) (kvs.take i)) := fun j u hu => hc j u (by
    have hj := (List.getElem?_eq_some_iff.mp hu).1
    rw [cellsT_take, List.getElem?_take, if_pos (by rw [L1] at hj; exact hj)] at hu
    exact hu)
  have T3 : CellsR w w.heap.size (if c = i then p else p.map fun a => a.add (i * 8)) (cellsT (l.drop i) (kvs.drop i)) := fun j u hu => by
    have hj := (List.getElem?_eq_some_iff.mp hu).1
    rw [cellsT_drop, List.getElem?_drop] at hu
    obtain ⟨b, o, e, hb, hcell⟩ := hc _ u hu
    rw [L3] at hj
    refine ⟨b, o + i * 8, ?_, hb, by rw [Nat.add_assoc]; exact hcell⟩
    rw [if_neg (by omega), e, Option.map_some, add_at]
  have hpn : p = none → l = [] := fun e => by
    cases l with
    | nil => rfl
    | cons y l =>
      cases kvs with
      | nil => simp at hl
      | cons k kvs =>
        obtain ⟨b, o, e2, _⟩ := hc 0 (iv y.node) (by simp [cellsT, itc])
        rw [e] at e2
        cases e2
  clear hc h1
  have hic : i ≤ c := by omega
  go_enter Try.func17, Try.ntmps17
  go_upto_region 1 with fail
  generalize w.alloc (.cells #[.int .i64 (x.node : Int), .int .i64 x.role, .string x.name, .string x.about, .int .i64 x.level, .int .i64 x.checked, .bool x.off, .slice xp xn xc] 26) = wc at *
  have BXW : Hid (Box8 w.heap.size (.int .i64 (x.node : Int)) (.int .i64 x.role) (.string x.name) (.string x.about) (.int .i64 x.level) (.int .i64 x.checked) (.bool x.off) (.slice xp xn xc) wc) := BX
  obtain ⟨b0, b1, b2, b3, b4, b5, b6, b7⟩ := BX
  have ZL : w.heap.size ≤ wc.heap.size := by have := ZZ.out; omega
  go_upto_region 4 with fail
  have nz1 : ¬ w.heap.size = wc.heap.size := by have := ZZ.out; omega
  have nz2 : ¬ wc.heap.size = w.heap.size := by have := ZZ.out; omega
  have BXA := BXW.out.keeps (w' := wc.alloc (.cells #[] 26)) (fun i' v' hv => by rw [← hv]; exact World.cell?_of_block (a := ⟨w.heap.size, i', none⟩) (((Below.refl wc.heap.size wc).alloc (Nat.le_refl _) _).block w.heap.size (by have := ZZ.out; omega)))
  obtain ⟨g0, g1, g2, g3, g4, g5, g6, g7⟩ := BXA
  cases p with
  | none =>
    obtain rfl := hpn rfl
    obtain rfl : i = 0 := by simpa using hi
    obtain rfl : kvs = [] := List.length_eq_zero_iff.mp (by simpa using hl)
    replace T1 : CellsR w w.heap.size none (cellsT (List.take 0 []) (List.take 0 [])) := T1
    have T3 : CellsR w w.heap.size none (cellsT (List.drop 0 []) (List.drop 0 [])) := fun j u hu => by simp [cellsT] at hu
    generalize cellsT (List.drop 0 []) (List.drop 0 []) = e3 at *
    generalize cellsT (List.take 0 []) (List.take 0 []) = e1 at *
    go_region_law (first
              | (refine step_append_cells (w0 := w) (B := w.heap.size) (n := 1) (m := 0) (c := c) (p := none) (news := e3) (v := .slice p2 1 c2) rfl (.tmp 35) (.tmp 38) rfl (by simp [Act.eval]) o2 (by simp [Act.eval]) L3 (T3.under n2) O3 n2 s2 (by omega) ?_
                 intro v3 w4 o3 n3 s3 gr3
                 obtain ⟨p3, c3, rfl⟩ := own_shape o3)
              | (refine step_append_cells (w0 := w) (B := w.heap.size) (n := 0) (m := 1) (news := itc (x, .slice xp xn xc)) (v := .slice p1 0 c1) rfl (.tmp 32) (.tmp 34) rfl (by simp [Act.eval]) o1 (p := some ⟨wc.heap.size, 0, none⟩) (c := 1) (by simp [Act.eval]) rfl (one_cells (g := wc.heap.size) hO) (oneX x xp xn xc) n1 s1 (by omega) ?_
                 intro v2 w3 o2 n2 s2 gr2; rw [Nat.zero_add] at o2
                 obtain ⟨p2, c2, rfl⟩ := own_shape o2)
              | (refine step_append_cells (w0 := w) (B := w.heap.size) (n := 0) (m := 1) (news := itc (x, .slice xp xn xc)) (v := .slice p1 0 c1) rfl (.tmp 32) (.tmp 34) rfl (by simp [Act.eval]) o1 (p := some ⟨wc.heap.size + 1, 0, none⟩) (c := 1) (by simp [Act.eval]) rfl (one_cells (g := wc.heap.size + 1) hO) (oneX x xp xn xc) n1 s1 (by omega) ?_
                 intro v2 w3 o2 n2 s2 gr2; rw [Nat.zero_add] at o2
                 obtain ⟨p2, c2, rfl⟩ := own_shape o2)
              | (refine step_append_cells (w0 := w) (B := w.heap.size) (n := 0) (m := 1) (news := itc (x, .slice xp xn xc)) (v := .slice p1 0 c1) rfl (.tmp 32) (.tmp 34) rfl (by simp [Act.eval]) (World.ownsRow.alloc o1 _) (p := some ⟨w2.heap.size, 0, none⟩) (c := 1) (by simp [Act.eval]) rfl (one_cells (g := w2.heap.size) (heap_alloc_new _ _)) (oneX x xp xn xc) (n1.alloc s1 _) (le_alloc s1) (by omega) ?_
                 intro v2 w3 o2 n2 s2 gr2; rw [Nat.zero_add] at o2
                 obtain ⟨p2, c2, rfl⟩ := own_shape o2)
              | (refine step_append_cells (w0 := w) (B := w.heap.size) (n := 0) (m := 0) (c := c) (p := none) (news := e1) (xs := []) (v := .slice (some ⟨wc.heap.size + 1, 0, none⟩) 0 0) rfl (.tmp 28) (.tmp 31) rfl (by simp [Act.eval]) (own_emptyT (by exact heap_alloc2_new _ _ _) (by have := ZZ.out; omega)) (by simp [Act.eval]) L1 (T1.under (by first | exact (B1.alloc ZL _).drew | exact ((B1.alloc ZL _).alloc (by simp; omega) _).drew)) O1 (by first | exact (B1.alloc ZL _).drew | exact ((B1.alloc ZL _).alloc (by simp; omega) _).drew) (by have := ZZ.out; simp; omega) (by omega) ?_
                 intro v1 w2 o1 n1 s1 gr1
                 rw [List.nil_append, Nat.zero_add] at o1
                 obtain ⟨p1, c1, rfl⟩ := own_shape o1
                 have hO : w2.heap[wc.heap.size]? = some (Obj.cells #[.int .i64 (x.node : Int), .int .i64 x.role, .string x.name, .string x.about, .int .i64 x.level, .int .i64 x.checked, .bool x.off, .slice xp xn xc] 26) := by (rw [gr1.block _ (by simp; omega) (by simp [Value.ownBlock])]; exact heap_alloc2_old _ _ _)
                 have hbx := BXW.out.keeps (w' := w2) (fun i' v' hv => (by rw [← hv]; exact World.cell?_of_block (a := ⟨w.heap.size, i', none⟩) ((gr1.block w.heap.size (by have := ZZ.out; simp; omega) (by have := ZZ.out; simp [Value.ownBlock]; omega)).trans (by first | exact ((Below.refl wc.heap.size wc).alloc (Nat.le_refl _) _).drew.block w.heap.size (by have := ZZ.out; omega) | exact (((Below.refl wc.heap.size wc).alloc (Nat.le_refl _) _).alloc (by simp) _).drew.block w.heap.size (by have := ZZ.out; omega)))))
                 obtain ⟨d0, d1, d2, d3, d4, d5, d6, d7⟩ := hbx)
              | (refine step_append_cells (w0 := w) (B := w.heap.size) (n := 0) (m := 0) (c := c) (p := none) (news := e1) (xs := []) (v := .slice (some ⟨wc.heap.size, 0, none⟩) 0 0) rfl (.tmp 28) (.tmp 31) rfl (by simp [Act.eval]) (own_emptyT (by first | exact heap_alloc_new _ _ | exact heap_alloc2_old _ _ _) (by have := ZZ.out; omega)) (by simp [Act.eval]) L1 (T1.under (by first | exact (B1.alloc ZL _).drew | exact ((B1.alloc ZL _).alloc (by simp; omega) _).drew)) O1 (by first | exact (B1.alloc ZL _).drew | exact ((B1.alloc ZL _).alloc (by simp; omega) _).drew) (by have := ZZ.out; simp; omega) (by omega) ?_
                 intro v1 w2 o1 n1 s1 gr1
                 rw [List.nil_append, Nat.zero_add] at o1
                 obtain ⟨p1, c1, rfl⟩ := own_shape o1
                 try have hO : w2.heap[wc.heap.size + 1]? = some (Obj.cells #[.int .i64 (x.node : Int), .int .i64 x.role, .string x.name, .string x.about, .int .i64 x.level, .int .i64 x.checked, .bool x.off, .slice xp xn xc] 26) := by (rw [gr1.block _ (by simp) (by simp [Value.ownBlock])]; exact heap_alloc2_new _ _ _)
                 have hbx := BXW.out.keeps (w' := w2) (fun i' v' hv => (by rw [← hv]; exact World.cell?_of_block (a := ⟨w.heap.size, i', none⟩) ((gr1.block w.heap.size (by have := ZZ.out; simp; omega) (by have := ZZ.out; simp [Value.ownBlock]; omega)).trans (by first | exact ((Below.refl wc.heap.size wc).alloc (Nat.le_refl _) _).drew.block w.heap.size (by have := ZZ.out; omega) | exact (((Below.refl wc.heap.size wc).alloc (Nat.le_refl _) _).alloc (by simp) _).drew.block w.heap.size (by have := ZZ.out; omega)))))
                 obtain ⟨d0, d1, d2, d3, d4, d5, d6, d7⟩ := hbx))
    all_goals
      go_wp2_with fail
      exact hQ.out _ _ o3 n3
  | some ad =>
    simp only [Option.map_some] at T3
    generalize hX : (if c = i then some ad else some (ad.add (i * 8))) = X at *
    generalize cellsT (l.drop i) (kvs.drop i) = e3 at *
    generalize cellsT (l.take i) (kvs.take i) = e1 at *
    go_region_law (first
              | (refine step_append_cells (w0 := w) (B := w.heap.size) (n := i + 1) (m := l.length - i) (c := c - i) (p := X) (news := e3) (v := .slice p2 (i + 1) c2) rfl (.tmp 35) (.tmp 38) rfl (by simp [Act.eval]) o2 (by simp [Act.eval]) L3 (T3.under n2) O3 n2 s2 (by omega) ?_
                 intro v3 w4 o3 n3 s3 gr3
                 obtain ⟨p3, c3, rfl⟩ := own_shape o3)
              | (refine step_append_cells (w0 := w) (B := w.heap.size) (n := i) (m := 1) (news := itc (x, .slice xp xn xc)) (v := .slice p1 i c1) rfl (.tmp 32) (.tmp 34) rfl (by simp [Act.eval]) o1 (p := some ⟨wc.heap.size, 0, none⟩) (c := 1) (by simp [Act.eval]) rfl (one_cells (g := wc.heap.size) hO) (oneX x xp xn xc) n1 s1 (by omega) ?_
                 intro v2 w3 o2 n2 s2 gr2
                 obtain ⟨p2, c2, rfl⟩ := own_shape o2)
              | (refine step_append_cells (w0 := w) (B := w.heap.size) (n := i) (m := 1) (news := itc (x, .slice xp xn xc)) (v := .slice p1 i c1) rfl (.tmp 32) (.tmp 34) rfl (by simp [Act.eval]) o1 (p := some ⟨wc.heap.size + 1, 0, none⟩) (c := 1) (by simp [Act.eval]) rfl (one_cells (g := wc.heap.size + 1) hO) (oneX x xp xn xc) n1 s1 (by omega) ?_
                 intro v2 w3 o2 n2 s2 gr2
                 obtain ⟨p2, c2, rfl⟩ := own_shape o2)
              | (refine step_append_cells (w0 := w) (B := w.heap.size) (n := i) (m := 1) (news := itc (x, .slice xp xn xc)) (v := .slice p1 i c1) rfl (.tmp 32) (.tmp 34) rfl (by simp [Act.eval]) (World.ownsRow.alloc o1 _) (p := some ⟨w2.heap.size, 0, none⟩) (c := 1) (by simp [Act.eval]) rfl (one_cells (g := w2.heap.size) (heap_alloc_new _ _)) (oneX x xp xn xc) (n1.alloc s1 _) (le_alloc s1) (by omega) ?_
                 intro v2 w3 o2 n2 s2 gr2
                 obtain ⟨p2, c2, rfl⟩ := own_shape o2)
              | (refine step_append_cells (w0 := w) (B := w.heap.size) (n := 0) (m := i) (c := c) (p := some ad) (news := e1) (xs := []) (v := .slice (some ⟨wc.heap.size + 1, 0, none⟩) 0 0) rfl (.tmp 28) (.tmp 31) rfl (by simp [Act.eval]) (own_emptyT (by exact heap_alloc2_new _ _ _) (by have := ZZ.out; omega)) (by simp [Act.eval]) L1 (T1.under (by first | exact (B1.alloc ZL _).drew | exact ((B1.alloc ZL _).alloc (by simp; omega) _).drew)) O1 (by first | exact (B1.alloc ZL _).drew | exact ((B1.alloc ZL _).alloc (by simp; omega) _).drew) (by have := ZZ.out; simp; omega) (by omega) ?_
                 intro v1 w2 o1 n1 s1 gr1
                 rw [List.nil_append, Nat.zero_add] at o1
                 obtain ⟨p1, c1, rfl⟩ := own_shape o1
                 have hO : w2.heap[wc.heap.size]? = some (Obj.cells #[.int .i64 (x.node : Int), .int .i64 x.role, .string x.name, .string x.about, .int .i64 x.level, .int .i64 x.checked, .bool x.off, .slice xp xn xc] 26) := by (rw [gr1.block _ (by simp; omega) (by simp [Value.ownBlock])]; exact heap_alloc2_old _ _ _)
                 have hbx := BXW.out.keeps (w' := w2) (fun i' v' hv => (by rw [← hv]; exact World.cell?_of_block (a := ⟨w.heap.size, i', none⟩) ((gr1.block w.heap.size (by have := ZZ.out; simp; omega) (by have := ZZ.out; simp [Value.ownBlock]; omega)).trans (by first | exact ((Below.refl wc.heap.size wc).alloc (Nat.le_refl _) _).drew.block w.heap.size (by have := ZZ.out; omega) | exact (((Below.refl wc.heap.size wc).alloc (Nat.le_refl _) _).alloc (by simp) _).drew.block w.heap.size (by have := ZZ.out; omega)))))
                 obtain ⟨d0, d1, d2, d3, d4, d5, d6, d7⟩ := hbx)
              | (refine step_append_cells (w0 := w) (B := w.heap.size) (n := 0) (m := i) (c := c) (p := some ad) (news := e1) (xs := []) (v := .slice (some ⟨wc.heap.size, 0, none⟩) 0 0) rfl (.tmp 28) (.tmp 31) rfl (by simp [Act.eval]) (own_emptyT (by first | exact heap_alloc_new _ _ | exact heap_alloc2_old _ _ _) (by have := ZZ.out; omega)) (by simp [Act.eval]) L1 (T1.under (by first | exact (B1.alloc ZL _).drew | exact ((B1.alloc ZL _).alloc (by simp; omega) _).drew)) O1 (by first | exact (B1.alloc ZL _).drew | exact ((B1.alloc ZL _).alloc (by simp; omega) _).drew) (by have := ZZ.out; simp; omega) (by omega) ?_
                 intro v1 w2 o1 n1 s1 gr1
                 rw [List.nil_append, Nat.zero_add] at o1
                 obtain ⟨p1, c1, rfl⟩ := own_shape o1
                 try have hO : w2.heap[wc.heap.size + 1]? = some (Obj.cells #[.int .i64 (x.node : Int), .int .i64 x.role, .string x.name, .string x.about, .int .i64 x.level, .int .i64 x.checked, .bool x.off, .slice xp xn xc] 26) := by (rw [gr1.block _ (by simp) (by simp [Value.ownBlock])]; exact heap_alloc2_new _ _ _)
                 have hbx := BXW.out.keeps (w' := w2) (fun i' v' hv => (by rw [← hv]; exact World.cell?_of_block (a := ⟨w.heap.size, i', none⟩) ((gr1.block w.heap.size (by have := ZZ.out; simp; omega) (by have := ZZ.out; simp [Value.ownBlock]; omega)).trans (by first | exact ((Below.refl wc.heap.size wc).alloc (Nat.le_refl _) _).drew.block w.heap.size (by have := ZZ.out; omega) | exact (((Below.refl wc.heap.size wc).alloc (Nat.le_refl _) _).alloc (by simp) _).drew.block w.heap.size (by have := ZZ.out; omega)))))
                 obtain ⟨d0, d1, d2, d3, d4, d5, d6, d7⟩ := hbx))
    all_goals
      go_wp2_with fail
      go_ret2
      exact hQ.out _ _ o3 n3
theorem insert_take {α : Type} : ∀ (l : List α) (i : Nat) (a : α), i ≤ l.length → l.insertIdx i a = l.take i ++ [a] ++ l.drop i
  | _, 0, _, _ => rfl
  | [], i + 1, _, h => by simp at h
  | y :: l, i + 1, a, h => by
    rw [List.insertIdx_succ_cons, insert_take l i a (by simpa using h)]
    rfl
set_option maxHeartbeats 3200000 in
set_option maxRecDepth 100000 in
theorem upaste_off (x : It) (xp : Option Addr) (xn xc : Nat) (to at_ : Int) (hto : to < 0) {p : Option Addr} {c : Nat} {l : List It} {w : World} (hat : ¬ (0 ≤ at_ ∧ at_ ≤ (l.length : Int))) :
    Calls Try.prog 17 #[.slice p l.length c, .int .i64 to, .int .i64 at_, .agg #[.int .i64 (x.node : Int), .int .i64 x.role, .string x.name, .string x.about, .int .i64 x.level, .int .i64 x.checked, .bool x.off, .slice xp xn xc]] w fun e w' => e = .returned (.tuple #[.slice none 0 0, .bool false]) ∧ Below w.heap.size w w' := by
  have B1 : Below w.heap.size w (w.alloc (.cells #[.int .i64 (x.node : Int), .int .i64 x.role, .string x.name, .string x.about, .int .i64 x.level, .int .i64 x.checked, .bool x.off, .slice xp xn xc] 26)) := (Below.refl _ _).alloc (Nat.le_refl _) _
  have HB1 : Hid (Below w.heap.size w (w.alloc (.cells #[.int .i64 (x.node : Int), .int .i64 x.role, .string x.name, .string x.about, .int .i64 x.level, .int .i64 x.checked, .bool x.off, .slice xp xn xc] 26))) := B1
  clear B1
  by_cases h0 : at_ < 0
  · go_enter Try.func17, Try.ntmps17
    go_upto_region 1 with fail
    generalize w.alloc (.cells #[.int .i64 (x.node : Int), .int .i64 x.role, .string x.name, .string x.about, .int .i64 x.level, .int .i64 x.checked, .bool x.off, .slice xp xn xc] 26) = wc at *
    go_wp2_with fail
    go_ret2
    exact ⟨rfl, HB1.out⟩
  · have h1 : (l.length : Int) < at_ := by omega
    have h2 : ¬ at_ ≤ (l.length : Int) := by omega
    clear hat
    go_enter Try.func17, Try.ntmps17
    go_upto_region 1 with fail
    generalize w.alloc (.cells #[.int .i64 (x.node : Int), .int .i64 x.role, .string x.name, .string x.about, .int .i64 x.level, .int .i64 x.checked, .bool x.off, .slice xp xn xc] 26) = wc at *
    go_wp2_with fail
    go_ret2
    exact ⟨rfl, HB1.out⟩
/-- an item goes among all -/
theorem upaste_top (x : It) (kx : Value) (to at_ : Int) (hto : to < 0) {P : Nat → Prop} {v : Value} {l : List It} {w : World} (hr : RdI w P v l) (hx : RdI w P kx x.kids) (hsz : (nodesL l).length ≤ 800000) :
    Calls Try.prog 17 #[v, .int .i64 to, .int .i64 at_, itA x kx] w fun e w' => ∃ v', e = .returned (.tuple #[v', .bool (decide (0 ≤ at_ ∧ at_ ≤ (l.length : Int)))]) ∧ (0 ≤ at_ ∧ at_ ≤ (l.length : Int) → RdI w' (fun g => (P g ∧ g < w.heap.size) ∨ w.heap.size ≤ g) v' (l.insertIdx at_.toNat x)) ∧ Below w.heap.size w w' := by
  obtain ⟨xp, xc, rfl⟩ := hx.shape
  obtain ⟨p, c, kvs, rfl, y1, y2, hl, hc, hk⟩ := rd_cells (hr.any (Q := fun g => P g ∧ g < w.heap.size) (fun g hg hlt => ⟨hg, hlt⟩))
  by_cases hin : 0 ≤ at_ ∧ at_ ≤ (l.length : Int)
  · obtain ⟨i, rfl⟩ : ∃ i : Nat, at_ = (i : Int) := ⟨at_.toNat, by omega⟩
    have hil : i ≤ l.length := by omega
    have one : ∀ u ∈ cellsT l kvs, u.oneCell' = true := oneT l kvs (fun y hy => by
      obtain ⟨j, hj, e⟩ := List.mem_iff_getElem.mp hy
      rw [← e]
      obtain ⟨p', c', e'⟩ := (hk j (by omega) hj).shape
      rw [e']
      rfl)
    refine (upaste_in x xp x.kids.length xc to i hto hil y1 y2 hl (fun j u hu => by
      obtain ⟨b, o, e, h1, h2⟩ := hc j u hu
      exact ⟨b, o, e, h1.2, h2⟩) one (Nat.le_trans (top_few l) hsz) _ ?_)
    intro v' w' ho hb
    refine ⟨v', by rw [decide_eq_true hin], fun _ => ?_, hb⟩
    rw [Int.toNat_natCast, insert_take l i x hil]
    have hlen : (kvs.take i ++ [Value.slice xp x.kids.length xc] ++ kvs.drop i).length = (l.take i ++ [x] ++ l.drop i).length := by simp [hl]
    refine rd_row (kvs := kvs.take i ++ [.slice xp x.kids.length xc] ++ kvs.drop i) (B := w.heap.size) ?_ hlen (fun b hb2 => ?_) (fun j h h' => ?_)
    · rw [cellsT_app _ _ _ _ (by simp [hl]), cellsT_app _ _ _ _ (by simp [hl])]
      have e1 : cellsT [x] [Value.slice xp x.kids.length xc] = itc (x, .slice xp x.kids.length xc) := by simp [cellsT]
      have e2 : (l.take i ++ [x] ++ l.drop i).length = i + 1 + (l.length - i) := by
        simp [Nat.min_eq_left hil]
        omega
      rw [e1, e2]
      exact ho
    · rcases ho.2 with ⟨rfl, _⟩ | ⟨g, cap, cur, rfl, hBg, _⟩
      · simp [Value.ownBlock] at hb2
      · simp [Value.ownBlock] at hb2
        exact Or.inr (by omega)
    · have hall : ∀ (kv : Value) (y : It), (kv, y) ∈ (kvs.take i ++ [Value.slice xp x.kids.length xc] ++ kvs.drop i).zip (l.take i ++ [x] ++ l.drop i) → RdI w' (fun g => (P g ∧ g < w.heap.size) ∨ w.heap.size ≤ g) kv y.kids := fun kv y hm => by
        rw [List.zip_append (by simp [hl]), List.zip_append (by simp [hl]), List.mem_append, List.mem_append] at hm
        have old : ∀ j (h : j < l.length) (h' : j < kvs.length), RdI w' (fun g => (P g ∧ g < w.heap.size) ∨ w.heap.size ≤ g) kvs[j] l[j].kids := fun j h h' => ((hk j h h').under hb).any (fun g hg _ => Or.inl hg)
        rcases hm with (hm | hm) | hm
        · obtain ⟨j, hj, e⟩ := List.mem_iff_getElem.mp hm
          rw [List.length_zip, List.length_take, List.length_take] at hj
          rw [List.getElem_zip] at e
          injection e with e1 e2
          rw [← e1, ← e2, List.getElem_take, List.getElem_take]
          exact old j (by omega) (by omega)
        · simp at hm
          obtain ⟨rfl, rfl⟩ := hm
          exact (hx.under hb).frame (fun g hg hlt => ⟨rfl, by
            by_cases h : g < w.heap.size
            · exact Or.inl ⟨hg, h⟩
            · exact Or.inr (by omega)⟩)
        · obtain ⟨j, hj, e⟩ := List.mem_iff_getElem.mp hm
          rw [List.length_zip, List.length_drop, List.length_drop] at hj
          rw [List.getElem_zip] at e
          injection e with e1 e2
          rw [← e1, ← e2, List.getElem_drop, List.getElem_drop]
          exact old (i + j) (by omega) (by omega)
      exact hall _ _ (by
        refine List.mem_iff_getElem.mpr ⟨j, by rw [List.length_zip]; omega, ?_⟩
        rw [List.getElem_zip])
  · refine (upaste_off x xp x.kids.length xc to at_ hto hin).mono ?_
    rintro e w' ⟨rfl, hb⟩
    exact ⟨_, by rw [decide_eq_false hin], fun h => absurd h hin, hb⟩
end Go.Proofs.Ytgpckmolcdafcae

/-
  THE WALK of the reference's Paste, into a node's. (Laid by mkxpu.py.)
-/
namespace Go.Proofs.Ytgpckmolcdafcae
open Go.RowKit

/-- the forest where the item has gone in (if it goes), and one of its items -/
def G (q i : Nat) (x : It) (F : Bool) (l : List It) : List It := if F then insL q i x l else l
def G1 (q i : Nat) (x : It) (F : Bool) (y : It) : It := if F then ins1 q i x y else y
theorem G_next (q i : Nat) (x : It) (F : Bool) (l : List It) (j : Nat) (h : j < l.length) : G q i x F (l.take (j + 1)) = G q i x F (l.take j) ++ [G1 q i x F l[j]] := by
  unfold G G1
  rw [List.take_succ_eq_append_getElem h]
  cases F
  · rfl
  · simp only [if_true]
    rw [ins_map, ins_map, List.map_append]
    rfl
theorem G1_off {q i : Nat} {x : It} {F : Bool} {y : It} (h : F = true → q ∉ nodes1 y) : G1 q i x F y = y := by
  unfold G1
  cases F
  · rfl
  · exact (ins_none q i x).1 y (h rfl)
theorem G1_at {q i : Nat} {x y : It} (h : y.node = q) (hn : y.node ∉ nodesL y.kids) : G1 q i x true y = y.with (y.kids.insertIdx i x) := by
  show ins1 q i x y = _
  apply It.same (by rw [ins1_node, with_node]) (by rw [ins1_says, with_says])
  rw [ins1_kids, if_pos h, with_kids, (ins_none q i x).2 y.kids (h ▸ hn)]
theorem G1_in {q i : Nat} {x y : It} (h : y.node ≠ q) : G1 q i x true y = y.with (insL q i x y.kids) := by
  show ins1 q i x y = _
  apply It.same (by rw [ins1_node, with_node]) (by rw [ins1_says, with_says])
  rw [ins1_kids, if_neg h, with_kids]
theorem set7 {N : Nat} {a0 a1 a2 a3 a4 a5 a6 a7 : Value} {w5 : World} (h : Box8 N a0 a1 a2 a3 a4 a5 a6 a7 w5) (v : Value) : ∃ w6, w5.setCell ⟨N, 7, none⟩ v = w6 ∧ Box8 N a0 a1 a2 a3 a4 a5 a6 v w6 ∧ (∀ g, g ≠ N → w6.heap[g]? = w5.heap[g]?) ∧ w6.heap.size = w5.heap.size ∧ w6.os = w5.os ∧ w6.tape = w5.tape ∧ w6.output = w5.output := by
  refine ⟨_, rfl, h.put7 v, fun g hg => ?_, by simp, ?_⟩
  · simp only [heap_setCell_other _ _ _ _ (show g ≠ (⟨N, _, none⟩ : Addr).block from hg)]
  · have hb := (Below.refl 0 w5).setCell (p := ⟨N, 7, none⟩) (Nat.zero_le _) v
    exact ⟨hb.os, hb.tape, hb.output⟩
theorem nodes_of_item {l : List It} {y : It} (h : y ∈ itemL l) {n : Nat} (hn : n ∈ nodes1 y) : n ∈ nodesL l := by
  rw [nodes_items.1, List.mem_map] at hn
  obtain ⟨z, hz, e⟩ := hn
  rw [nodesL_items, List.mem_map]
  rcases mem_item1.mp hz with rfl | hz
  · exact ⟨_, h, e⟩
  · exact ⟨z, item_kids.2 l y h z hz, e⟩
theorem item_of {l : List It} {j : Nat} (h : j < l.length) : l[j] ∈ itemL l := top_item (List.getElem_mem h)
theorem ins_topl (q i : Nat) (x : It) (l : List It) : (insL q i x l).length = l.length := by rw [ins_map, List.length_map]

set_option maxHeartbeats 6400000 in
set_option maxRecDepth 100000 in
theorem upaste_any (q : Nat) (at_ : Int) (x : It) (xp : Option Addr) (xc : Nat) (F : Bool) (m : Nat) : ∀ (P : Nat → Prop) (v : Value) (l : List It) (w : World) (r : Bool), ((nodesL l).contains q && F) = r → RdI w P v l → RdI w P (.slice xp x.kids.length xc) x.kids → Unlike l → (nodesL l).length < m → (nodesL l).length ≤ 800000 → (∀ X ∈ itemL l, X.node = q → (F = true ↔ 0 ≤ at_ ∧ at_ ≤ (X.kids.length : Int))) →
    Calls Try.prog 17 #[v, .int .i64 (q : Int), .int .i64 at_, .agg #[.int .i64 (x.node : Int), .int .i64 x.role, .string x.name, .string x.about, .int .i64 x.level, .int .i64 x.checked, .bool x.off, .slice xp x.kids.length xc]] w fun e w' => ∃ v', e = .returned (.tuple #[v', .bool r]) ∧ (r = true → RdI w' (fun g => (P g ∧ g < w.heap.size) ∨ w.heap.size ≤ g) v' (insL q at_.toNat x l)) ∧ Below w.heap.size w w' := by
  induction m with
  | zero => intro P v l w r _ _ _ _ hm; omega
  | succ m ih =>
    intro P v l w r hrr hr hx hu hm hsz hF
    obtain ⟨p, c, rfl, y1, y2, hat⟩ := (hr.any (Q := fun g => P g ∧ g < w.heap.size) (fun g hg hlt => ⟨hg, hlt⟩)).at
    have HK0 : Hid (RdI w (fun g => P g ∧ g < w.heap.size) (.slice xp x.kids.length xc) x.kids) := hx.any (Q := fun g => P g ∧ g < w.heap.size) (fun g hg hlt => ⟨hg, hlt⟩)
    have T : Hid (∀ j (hj : j < l.length), ∃ b o kv, p = some ⟨b, o, none⟩ ∧ (P b ∧ b < w.heap.size) ∧ ItAt w b (o + j * 8) l[j] kv ∧ RdI w (fun g => P g ∧ g < w.heap.size) kv l[j].kids) := hat
    have ZM : Hid (∀ j (hj : j < l.length), (nodesL l[j].kids).length < m ∧ (nodesL l[j].kids).length ≤ 800000) := fun j hj => by have := nodesL_lt l j hj; omega
    have ZL : Hid (l.length ≤ 800000) := by show _ ≤ _; have := top_few l; omega
    have HU : Hid (Unlike l) := hu
    have HF : Hid (∀ X ∈ itemL l, X.node = q → (F = true ↔ 0 ≤ at_ ∧ at_ ≤ (X.kids.length : Int))) := hF
    have HRR : Hid (((nodesL l).contains q && F) = r) := hrr
    have B1 : Below w.heap.size w (w.alloc (.cells #[.int .i64 (x.node : Int), .int .i64 x.role, .string x.name, .string x.about, .int .i64 x.level, .int .i64 x.checked, .bool x.off, .slice xp x.kids.length xc] 26)) := (Below.refl _ _).alloc (Nat.le_refl _) _
    have BX := box8_new w (.int .i64 (x.node : Int)) (.int .i64 x.role) (.string x.name) (.string x.about) (.int .i64 x.level) (.int .i64 x.checked) (.bool x.off) (.slice xp x.kids.length xc) 26
    have z1 : (w.alloc (.cells #[.int .i64 (x.node : Int), .int .i64 x.role, .string x.name, .string x.about, .int .i64 x.level, .int .i64 x.checked, .bool x.off, .slice xp x.kids.length xc] 26)).heap.size = w.heap.size + 1 := by simp
    clear hr hx hat hm hsz hu hF hrr
    have hq0 : ¬ ((q : Int) < 0) := by omega
    go_enter Try.func17, Try.ntmps17
    go_upto_region 1 with fail
    generalize (w.alloc (.cells #[.int .i64 (x.node : Int), .int .i64 x.role, .string x.name, .string x.about, .int .i64 x.level, .int .i64 x.checked, .bool x.off, .slice xp x.kids.length xc] 26)) = W1 at *
    have HB1 : Hid (Below w.heap.size w W1) := B1
    have HX1 : Hid (Box8 w.heap.size (.int .i64 (x.node : Int)) (.int .i64 x.role) (.string x.name) (.string x.about) (.int .i64 x.level) (.int .i64 x.checked) (.bool x.off) (.slice xp x.kids.length xc) W1) := BX
    have HZ1 : Hid (W1.heap.size = w.heap.size + 1) := z1
    clear B1 BX z1
    go_wp2_with fail
    go_loopw [10, 11, 42] (fun vo ht iv wr => ∃ (j : Nat), j ≤ l.length ∧ iv = .int .i64 j ∧ ht = .bool ((nodesL (l.take j)).contains q && F) ∧ Hid (OwnR wr (w.heap.size + 1) (fun g => (P g ∧ g < w.heap.size) ∨ w.heap.size < g) vo (G q at_.toNat x F (l.take j))) ∧ Hid (Box8 w.heap.size (.int .i64 (x.node : Int)) (.int .i64 x.role) (.string x.name) (.string x.about) (.int .i64 x.level) (.int .i64 x.checked) (.bool x.off) (.slice xp x.kids.length xc) wr) ∧ Hid (Below w.heap.size w wr) ∧ Hid (w.heap.size + 1 ≤ wr.heap.size)) (fun _ _ iv _ => l.length - (intOf iv).toNat)
    case atStart =>
      refine ⟨0, Nat.zero_le _, rfl, by rw [List.take_zero, nodesL]; rfl, (by show OwnR _ _ _ _ _; cases F <;> simpa [G, insL] using OwnR.nil _ _ _), HX1.out, HB1.out, Nat.le_of_eq HZ1.out.symm⟩
    case round =>
      obtain ⟨j, hj, rfl, rfl, HO, HXr, HBr, HZ⟩ := hrel
      by_cases hlt : j < l.length
      · obtain ⟨b, o, kv, rfl, hb, hc, hk⟩ := T.out j hlt
        have kb : Keeps w wr := fun a v hv => keeps_below HBr.out (Nat.le_refl _) _ _ hv
        have c0 := kb _ _ hc.c0
        have c1 := kb _ _ hc.c1
        have c2 := kb _ _ hc.c2
        have c3 := kb _ _ hc.c3
        have c4 := kb _ _ hc.c4
        have c5 := kb _ _ hc.c5
        have c6 := kb _ _ hc.c6
        have c7 := kb _ _ hc.c7
        have hkr := hk.under HBr.out
        have HE1 : Hid (G q at_.toNat x F (l.take (j + 1)) = G q at_.toNat x F (l.take j) ++ [G1 q at_.toNat x F l[j]]) := G_next _ _ _ _ l j hlt
        have HE2 : Hid ((nodesL (l.take (j + 1))).contains q = ((nodesL (l.take j)).contains q || (nodes1 l[j]).contains q)) := contains_next q l j hlt
        have HE3 : Hid (q ∈ nodesL (l.take j) → q ∉ nodes1 l[j]) := apart_take HU.out hlt
        have HE4 : Hid (Unlike l[j].kids ∧ l[j].node ∉ nodesL l[j].kids) := unlike_kids HU.out hlt
        have HFJ : Hid (l[j].node = q → (F = true ↔ 0 ≤ at_ ∧ at_ ≤ (l[j].kids.length : Int))) := fun e => HF.out _ (item_of hlt) e
        have HFK : Hid (∀ X ∈ itemL l[j].kids, X.node = q → (F = true ↔ 0 ≤ at_ ∧ at_ ≤ (X.kids.length : Int))) := fun X hX e => HF.out X (item_kids.2 l _ (item_of hlt) X hX) e
        have HSUB : Hid ((nodes1 l[j]).contains q = true → (nodesL l).contains q = true) := fun h => by
          have := nodes_of_item (item_of hlt) (by simpa using h : q ∈ nodes1 l[j])
          simpa using this
        have HM := ZM.out j hlt
        obtain ⟨pk, ck, rfl⟩ := hk.shape
        have hrl : (G q at_.toNat x F (l.take j)).length ≤ 1000000 := by
          have h1 : (G q at_.toNat x F (l.take j)).length = (l.take j).length := by cases F; rfl; exact ins_topl _ _ _ _
          rw [h1, List.length_take]
          have := ZL.out
          omega
        clear hc hk kb
        generalize l[j] = y at *
        have B2 : Below wr.heap.size wr (wr.alloc (.cells #[.int .i64 (y.node : Int), .int .i64 y.role, .string y.name, .string y.about, .int .i64 y.level, .int .i64 y.checked, .bool y.off, .slice pk y.kids.length ck] 26)) := (Below.refl _ _).alloc (Nat.le_refl _) _
        have BY := box8_new wr (.int .i64 (y.node : Int)) (.int .i64 y.role) (.string y.name) (.string y.about) (.int .i64 y.level) (.int .i64 y.checked) (.bool y.off) (.slice pk y.kids.length ck) 26
        have zy : (wr.alloc (.cells #[.int .i64 (y.node : Int), .int .i64 y.role, .string y.name, .string y.about, .int .i64 y.level, .int .i64 y.checked, .bool y.off, .slice pk y.kids.length ck] 26)).heap.size = wr.heap.size + 1 := by simp
        have fy : ∀ i, (wr.alloc (.cells #[.int .i64 (y.node : Int), .int .i64 y.role, .string y.name, .string y.about, .int .i64 y.level, .int .i64 y.checked, .bool y.off, .slice pk y.kids.length ck] 26)).frozen? ⟨wr.heap.size, i, none⟩ = false := fun i => World.frozen?_alloc_new _ _ _ _
        go_upto_region 10 with fail
        generalize (wr.alloc (.cells #[.int .i64 (y.node : Int), .int .i64 y.role, .string y.name, .string y.about, .int .i64 y.level, .int .i64 y.checked, .bool y.off, .slice pk y.kids.length ck] 26)) = W2 at *
        have HB2 : Hid (Below wr.heap.size wr W2) := B2
        have ZY : Hid (W2.heap.size = wr.heap.size + 1) := zy
        have HBY : Hid (Box8 wr.heap.size (.int .i64 (y.node : Int)) (.int .i64 y.role) (.string y.name) (.string y.about) (.int .i64 y.level) (.int .i64 y.checked) (.bool y.off) (.slice pk y.kids.length ck) W2) := BY
        have HFY : Hid (∀ i, W2.frozen? ⟨wr.heap.size, i, none⟩ = false) := fy
        have HKR : Hid (RdI wr (fun g => P g ∧ g < w.heap.size) (.slice pk y.kids.length ck) y.kids) := hkr
        clear c0 c1 c2 c3 c4 c5 c6 c7 B2 zy fy hkr
        obtain ⟨d0, d1, d2, d3, d4, d5, d6, d7⟩ := BY
        have HO2 : Hid (OwnR W2 (w.heap.size + 1) (fun g => (P g ∧ g < w.heap.size) ∨ w.heap.size < g) u10 (G q at_.toNat x F (l.take j))) := HO.out.below HB2.out
        have HX2 : Hid (Box8 w.heap.size (.int .i64 (x.node : Int)) (.int .i64 x.role) (.string x.name) (.string x.about) (.int .i64 x.level) (.int .i64 x.checked) (.bool x.off) (.slice xp x.kids.length xc) W2) := HXr.out.keeps (fun i' v' hv => by rw [← hv]; exact World.cell?_of_block (a := ⟨w.heap.size, i', none⟩) (HB2.out.block w.heap.size (by have := HZ.out; omega)))
        have HBW2 : Hid (Below w.heap.size w W2) := HBr.out.trans (HB2.out.mono HBr.out.size)
        have HK2 : Hid (RdI W2 (fun g => P g ∧ g < w.heap.size) (.slice pk y.kids.length ck) y.kids) := HKR.out.under HB2.out
        have HKX2 : Hid (RdI W2 (fun g => P g ∧ g < w.heap.size) (.slice xp x.kids.length xc) x.kids) := HK0.out.under HBW2.out
        have HLV : Hid (∀ g, u10.ownBlock = some g → w.heap.size + 1 ≤ g ∧ g < wr.heap.size) := HO.out.lt
        cases hth : ((nodesL (l.take j)).contains q && F) with
        | true =>
          obtain ⟨hin0, hFt⟩ := Bool.and_eq_true_iff.mp hth
          have hin : q ∈ nodesL (l.take j) := by simpa using hin0
          have EJ : Hid (G q at_.toNat x F (l.take (j + 1)) = G q at_.toNat x F (l.take j) ++ [y]) := by show _ = _; rw [HE1.out, G1_off (fun _ => HE3.out hin)]
          have EC : Hid (((nodesL (l.take (j + 1))).contains q && F) = true) := by show _ = _; rw [HE2.out, hin0, hFt]; rfl
          have KB : RdI W2 (fun g => ((P g ∧ g < w.heap.size) ∨ w.heap.size < g) ∧ some g ≠ u10.ownBlock) (.slice pk y.kids.length ck) y.kids := HK2.out.any (fun g hg _ => ⟨Or.inl hg, fun e => by have := HLV.out g e.symm; omega⟩)
          have hBa : w.heap.size + 1 ≤ W2.heap.size := by have := HZ.out; have := ZY.out; omega
          have HZa : Hid (wr.heap.size + 1 ≤ W2.heap.size) := Nat.le_of_eq ZY.out.symm
          have HXa := HX2
          have HBa := HBW2
          have HOa' := HO2.out
          clear hth hin hin0 hFt
          go_wp2_with (at_builtin; refine append_itR (wr := W2) (y := y) (kv := .slice pk y.kids.length ck) rfl _ _ rfl rfl rfl HOa' KB rfl hBa hrl ?_; intro v8 w8 o8 g8 l8)
          go_roundw
          case rel =>
            have hza := HZa.out
            have hz := HZ.out
            refine ⟨j + 1, by omega, by go_num, by rw [EC.out], (by show OwnR _ _ _ _ _; rw [EJ.out]; exact o8), ?_, ?_, ?_⟩
            · exact HXa.out.keeps (fun i' v' hv => by rw [← hv]; exact World.cell?_of_block (a := ⟨w.heap.size, i', none⟩) (g8.block w.heap.size (by omega) (fun e => by have := HLV.out _ e.symm; omega)))
            · exact ⟨g8.os.trans HBa.out.os, g8.tape.trans HBa.out.tape, g8.output.trans HBa.out.output, Nat.le_trans HBa.out.size g8.size, fun k hk => (g8.block k (by omega) (fun e => by have := HLV.out k e.symm; omega)).trans (HBa.out.block k hk)⟩
            · show _ ≤ _
              have := g8.size; omega
          case measure => simp [intOf]; omega
        | false =>
          by_cases hy : y.node = q
          · have hye : ((y.node : Int) == (q : Int)) = true := by rw [beq_iff_eq]; omega
            have HY : Hid (y.node = q) := hy
            have IC := upaste_top x (.slice xp x.kids.length xc) (-1) at_ (by decide) HK2.out HKX2.out HM.2
            have hFd : decide (0 ≤ at_ ∧ at_ ≤ (y.kids.length : Int)) = F := by
              have := HFJ.out hy
              cases F
              · exact decide_eq_false (fun h => by have := this.mpr h; cases this)
              · exact decide_eq_true (this.mp rfl)
            have hFi : F = true → 0 ≤ at_ ∧ at_ ≤ (y.kids.length : Int) := (HFJ.out hy).mp
            rw [hFd] at IC
            unfold itA at IC
            obtain ⟨a0, a1, a2, a3, a4, a5, a6, a7⟩ := HX2.out
            have HFI : Hid (F = true → 0 ≤ at_ ∧ at_ ≤ (y.kids.length : Int)) := hFi
            have HC1 : Hid ((nodes1 y).contains q = true) := by show _ = _; rw [contains1, decide_eq_true hy]; rfl
            clear hth hy hFd hFi
            cases F with
            | false =>
              obtain rfl : r = false := by rw [← HRR.out, Bool.and_false]
              go_upto_region 12 with (go_at_call 17; refine IC.mono ?_; clear IC; rintro e w5 ⟨v5, rfl, t1, t2⟩; have HT5 : Hid (Below W2.heap.size W2 w5) := t2; clear t1 t2)
              go_wp2_with fail
              go_ret2
              exact ⟨_, rfl, (fun h => by cases h), HBW2.out.trans (HT5.out.mono HBW2.out.size)⟩
            | true =>
              have EJ : Hid (G q at_.toNat x true (l.take (j + 1)) = G q at_.toNat x true (l.take j) ++ [y.with (y.kids.insertIdx at_.toNat x)]) := by show _ = _; rw [HE1.out, G1_at HY.out HE4.out.2]
              have EC : Hid (((nodesL (l.take (j + 1))).contains q && true) = true) := by show _ = _; rw [HE2.out, HC1.out]; simp
              go_upto_region 12 with (go_at_call 17; refine IC.mono ?_; clear IC; rintro e w5 ⟨v5, rfl, t1, t2⟩; have t3 := t1 (HFI.out rfl); obtain ⟨p5, n5, c5, rfl⟩ : ∃ p n c, v5 = .slice p n c := (by obtain ⟨p, c, e⟩ := t3.shape; exact ⟨p, _, c, e⟩); have HT1 := (show Hid _ from t3); have HT5 : Hid (Below W2.heap.size W2 w5) := t2; clear t1 t2 t3)
              have HB5 : Hid (Below W2.heap.size W2 w5) := HT5
              have BY5 := HBY.out.keeps (fun i v => keeps_below HB5.out (Nat.le_refl _) _ _)
              have f7 : w5.frozen? ⟨wr.heap.size, 7, none⟩ = false := (HB5.out.frozen (p := ⟨wr.heap.size, 7, none⟩) (by have := ZY.out; simp only; omega)).trans (HFY.out 7)
              clear d0 d1 d2 d3 d4 d5 d6 d7
              have HBY5 := (show Hid _ from BY5)
              obtain ⟨d0, d1, d2, d3, d4, d5, d6, d7⟩ := BY5
              go_upto_region 19 with fail
              obtain ⟨w9, hw9, HY9, fr9, z9, os9, tp9, ou9⟩ := set7 HBY5.out (.slice p5 n5 c5)
              rw [hw9]
              clear hw9 d0 d1 d2 d3 d4 d5 d6 d7 f7
              obtain ⟨d0, d1, d2, d3, d4, d5, d6, d7⟩ := HY9
              have HZa : Hid (wr.heap.size + 1 ≤ w9.heap.size) := by show _ ≤ _; rw [z9]; have := HB5.out.size; have := ZY.out; omega
              have HBa : Hid (Below w.heap.size w w9) := by
                have hb := HBW2.out.trans (HB5.out.mono HBW2.out.size)
                have := HZ.out
                exact ⟨by rw [os9]; exact hb.os, by rw [tp9]; exact hb.tape, by rw [ou9]; exact hb.output, by rw [z9]; exact hb.size, fun k hk => by rw [fr9 k (by omega)]; exact hb.block k hk⟩
              have HXa : Hid (Box8 w.heap.size (.int .i64 (x.node : Int)) (.int .i64 x.role) (.string x.name) (.string x.about) (.int .i64 x.level) (.int .i64 x.checked) (.bool x.off) (.slice xp x.kids.length xc) w9) := HX2.out.keeps (fun i' v' hv => by
                have := HZ.out
                have := ZY.out
                rw [← hv]; exact World.cell?_of_block (a := ⟨w.heap.size, i', none⟩) ((fr9 w.heap.size (by omega)).trans (HB5.out.block w.heap.size (by omega))))
              have HOa : Hid (OwnR w9 (w.heap.size + 1) (fun g => (P g ∧ g < w.heap.size) ∨ w.heap.size < g) u10 (G q at_.toNat x true (l.take j))) := HO.out.frame (fun b e => by
                have hb := HLV.out b e
                have := ZY.out
                rw [fr9 b (by omega), HB5.out.block b (by omega)]
                exact HB2.out.block b hb.2) (fun g hg hlt => by
                have := ZY.out
                rw [fr9 g (by omega), HB5.out.block g (by omega)]
                exact ⟨HB2.out.block g hlt, hg⟩)
              have KB : RdI w9 (fun g => ((P g ∧ g < w.heap.size) ∨ w.heap.size < g) ∧ some g ≠ u10.ownBlock) (.slice p5 n5 c5) (y.with (y.kids.insertIdx at_.toNat x)).kids := by
                rw [with_kids]
                exact HT1.out.frame (fun g hg hlt => by
                  have := HZ.out
                  have := ZY.out
                  have hne : g ≠ wr.heap.size := fun e => by rcases hg with hg | hg <;> omega
                  refine ⟨fr9 g hne, ?_, fun e => ?_⟩
                  · rcases hg with hg | hg
                    · exact Or.inl hg.1
                    · exact Or.inr (by omega)
                  · have := HLV.out g e.symm
                    rcases hg with hg | hg <;> omega)
              have hBa : w.heap.size + 1 ≤ w9.heap.size := by have := HZa.out; have := HZ.out; omega
              have HOa' := HOa.out
              clear HBY5 fr9 z9 os9 tp9 ou9 HO2
              go_wp2_with (at_builtin; refine append_itR (wr := w9) (y := y.with (y.kids.insertIdx at_.toNat x)) (kv := .slice p5 n5 c5) rfl _ _ rfl rfl rfl HOa' KB (by rw [itc_with]) hBa hrl ?_; intro v8 w8 o8 g8 l8)
              go_roundw
              case rel =>
                have hza := HZa.out
                have hz := HZ.out
                refine ⟨j + 1, by omega, by go_num, by rw [EC.out], (by show OwnR _ _ _ _ _; rw [EJ.out]; exact o8), ?_, ?_, ?_⟩
                · exact HXa.out.keeps (fun i' v' hv => by rw [← hv]; exact World.cell?_of_block (a := ⟨w.heap.size, i', none⟩) (g8.block w.heap.size (by omega) (fun e => by have := HLV.out _ e.symm; omega)))
                · exact ⟨g8.os.trans HBa.out.os, g8.tape.trans HBa.out.tape, g8.output.trans HBa.out.output, Nat.le_trans HBa.out.size g8.size, fun k hk => (g8.block k (by omega) (fun e => by have := HLV.out k e.symm; omega)).trans (HBa.out.block k hk)⟩
                · show _ ≤ _
                  have := g8.size; omega
              case measure => simp [intOf]; omega
          · have hye : ((y.node : Int) == (q : Int)) = false := by rw [beq_eq_false_iff_ne]; omega
            have HY : Hid (y.node ≠ q) := hy
            cases hin : ((nodesL y.kids).contains q && F) with
            | false =>
              have IC := ih (fun g => P g ∧ g < w.heap.size) (.slice pk y.kids.length ck) y.kids W2 false hin HK2.out HKX2.out HE4.out.1 HM.1 HM.2 HFK.out
              obtain ⟨a0, a1, a2, a3, a4, a5, a6, a7⟩ := HX2.out
              have HOF : Hid (F = true → q ∉ nodes1 y) := fun hF h => by
                rw [nodes1_eq, List.mem_cons] at h
                rcases h with h | h
                · exact HY.out h.symm
                · rw [hF, Bool.and_true] at hin
                  have : (nodesL y.kids).contains q = true := by simpa using h
                  rw [this] at hin
                  cases hin
              have EJ : Hid (G q at_.toNat x F (l.take (j + 1)) = G q at_.toNat x F (l.take j) ++ [y]) := by show _ = _; rw [HE1.out, G1_off HOF.out]
              have EC : Hid (((nodesL (l.take (j + 1))).contains q && F) = false) := by
                show _ = _
                rw [HE2.out, contains1, decide_eq_false HY.out, Bool.false_or, Bool.and_or_distrib_right, hth, hin]
                rfl
              clear hth hin hy
              go_upto_region 17 with (go_at_call 17; refine IC.mono ?_; clear IC; rintro e w5 ⟨v5, rfl, t1, t2⟩; have HT5 : Hid (Below W2.heap.size W2 w5) := t2; clear t1 t2)
              have HB5 : Hid (Below W2.heap.size W2 w5) := HT5
              have BY5 := HBY.out.keeps (fun i v => keeps_below HB5.out (Nat.le_refl _) _ _)
              clear d0 d1 d2 d3 d4 d5 d6 d7
              obtain ⟨d0, d1, d2, d3, d4, d5, d6, d7⟩ := BY5
              have HZa : Hid (wr.heap.size + 1 ≤ w5.heap.size) := by show _ ≤ _; have := HB5.out.size; have := ZY.out; omega
              have HBa : Hid (Below w.heap.size w w5) := HBW2.out.trans (HB5.out.mono HBW2.out.size)
              have HXa : Hid (Box8 w.heap.size (.int .i64 (x.node : Int)) (.int .i64 x.role) (.string x.name) (.string x.about) (.int .i64 x.level) (.int .i64 x.checked) (.bool x.off) (.slice xp x.kids.length xc) w5) := HX2.out.keeps (fun i v => keeps_below HB5.out (Nat.le_refl _) _ _)
              have HOa' : OwnR w5 (w.heap.size + 1) (fun g => (P g ∧ g < w.heap.size) ∨ w.heap.size < g) u10 (G q at_.toNat x F (l.take j)) := HO2.out.below HB5.out
              have KB : RdI w5 (fun g => ((P g ∧ g < w.heap.size) ∨ w.heap.size < g) ∧ some g ≠ u10.ownBlock) (.slice pk y.kids.length ck) y.kids := (HK2.out.under HB5.out).any (fun g hg _ => ⟨Or.inl hg, fun e => by have := HLV.out g e.symm; omega⟩)
              have hBa : w.heap.size + 1 ≤ w5.heap.size := by have := HZa.out; have := HZ.out; omega
              go_wp2_with (at_builtin; refine append_itR (wr := w5) (y := y) (kv := .slice pk y.kids.length ck) rfl _ _ rfl rfl rfl HOa' KB rfl hBa hrl ?_; intro v8 w8 o8 g8 l8)
              go_roundw
              case rel =>
                have hza := HZa.out
                have hz := HZ.out
                refine ⟨j + 1, by omega, by go_num, by rw [EC.out], (by show OwnR _ _ _ _ _; rw [EJ.out]; exact o8), ?_, ?_, ?_⟩
                · exact HXa.out.keeps (fun i' v' hv => by rw [← hv]; exact World.cell?_of_block (a := ⟨w.heap.size, i', none⟩) (g8.block w.heap.size (by omega) (fun e => by have := HLV.out _ e.symm; omega)))
                · exact ⟨g8.os.trans HBa.out.os, g8.tape.trans HBa.out.tape, g8.output.trans HBa.out.output, Nat.le_trans HBa.out.size g8.size, fun k hk => (g8.block k (by omega) (fun e => by have := HLV.out k e.symm; omega)).trans (HBa.out.block k hk)⟩
                · show _ ≤ _
                  have := g8.size; omega
              case measure => simp [intOf]; omega
            | true =>
              have IC := ih (fun g => P g ∧ g < w.heap.size) (.slice pk y.kids.length ck) y.kids W2 true hin HK2.out HKX2.out HE4.out.1 HM.1 HM.2 HFK.out
              obtain ⟨a0, a1, a2, a3, a4, a5, a6, a7⟩ := HX2.out
              obtain ⟨hin0, rfl⟩ := Bool.and_eq_true_iff.mp hin
              have EJ : Hid (G q at_.toNat x true (l.take (j + 1)) = G q at_.toNat x true (l.take j) ++ [y.with (insL q at_.toNat x y.kids)]) := by show _ = _; rw [HE1.out, G1_in HY.out]
              have EC : Hid (((nodesL (l.take (j + 1))).contains q && true) = true) := by show _ = _; rw [HE2.out, contains1, hin0]; simp
              clear hth hin hin0 hy
              go_upto_region 17 with (go_at_call 17; refine IC.mono ?_; clear IC; rintro e w5 ⟨v5, rfl, t1, t2⟩; have t3 := t1 rfl; obtain ⟨p5, n5, c5, rfl⟩ : ∃ p n c, v5 = .slice p n c := (by obtain ⟨p, c, e⟩ := t3.shape; exact ⟨p, _, c, e⟩); have HT1 := (show Hid _ from t3); have HT5 : Hid (Below W2.heap.size W2 w5) := t2; clear t1 t2 t3)
              have HB5 : Hid (Below W2.heap.size W2 w5) := HT5
              have BY5 := HBY.out.keeps (fun i v => keeps_below HB5.out (Nat.le_refl _) _ _)
              have f7 : w5.frozen? ⟨wr.heap.size, 7, none⟩ = false := (HB5.out.frozen (p := ⟨wr.heap.size, 7, none⟩) (by have := ZY.out; simp only; omega)).trans (HFY.out 7)
              clear d0 d1 d2 d3 d4 d5 d6 d7
              have HBY5 := (show Hid _ from BY5)
              obtain ⟨d0, d1, d2, d3, d4, d5, d6, d7⟩ := BY5
              go_upto_region 19 with fail
              obtain ⟨w9, hw9, HY9, fr9, z9, os9, tp9, ou9⟩ := set7 HBY5.out (.slice p5 n5 c5)
              rw [hw9]
              clear hw9 d0 d1 d2 d3 d4 d5 d6 d7 f7
              obtain ⟨d0, d1, d2, d3, d4, d5, d6, d7⟩ := HY9
              have HZa : Hid (wr.heap.size + 1 ≤ w9.heap.size) := by show _ ≤ _; rw [z9]; have := HB5.out.size; have := ZY.out; omega
              have HBa : Hid (Below w.heap.size w w9) := by
                have hb := HBW2.out.trans (HB5.out.mono HBW2.out.size)
                have := HZ.out
                exact ⟨by rw [os9]; exact hb.os, by rw [tp9]; exact hb.tape, by rw [ou9]; exact hb.output, by rw [z9]; exact hb.size, fun k hk => by rw [fr9 k (by omega)]; exact hb.block k hk⟩
              have HXa : Hid (Box8 w.heap.size (.int .i64 (x.node : Int)) (.int .i64 x.role) (.string x.name) (.string x.about) (.int .i64 x.level) (.int .i64 x.checked) (.bool x.off) (.slice xp x.kids.length xc) w9) := HX2.out.keeps (fun i' v' hv => by
                have := HZ.out
                have := ZY.out
                rw [← hv]; exact World.cell?_of_block (a := ⟨w.heap.size, i', none⟩) ((fr9 w.heap.size (by omega)).trans (HB5.out.block w.heap.size (by omega))))
              have HOa : Hid (OwnR w9 (w.heap.size + 1) (fun g => (P g ∧ g < w.heap.size) ∨ w.heap.size < g) u10 (G q at_.toNat x true (l.take j))) := HO.out.frame (fun b e => by
                have hb := HLV.out b e
                have := ZY.out
                rw [fr9 b (by omega), HB5.out.block b (by omega)]
                exact HB2.out.block b hb.2) (fun g hg hlt => by
                have := ZY.out
                rw [fr9 g (by omega), HB5.out.block g (by omega)]
                exact ⟨HB2.out.block g hlt, hg⟩)
              have KB : RdI w9 (fun g => ((P g ∧ g < w.heap.size) ∨ w.heap.size < g) ∧ some g ≠ u10.ownBlock) (.slice p5 n5 c5) (y.with (insL q at_.toNat x y.kids)).kids := by
                rw [with_kids]
                exact HT1.out.frame (fun g hg hlt => by
                  have := HZ.out
                  have := ZY.out
                  have hne : g ≠ wr.heap.size := fun e => by rcases hg with hg | hg <;> omega
                  refine ⟨fr9 g hne, ?_, fun e => ?_⟩
                  · rcases hg with hg | hg
                    · exact Or.inl hg.1
                    · exact Or.inr (by omega)
                  · have := HLV.out g e.symm
                    rcases hg with hg | hg <;> omega)
              have hBa : w.heap.size + 1 ≤ w9.heap.size := by have := HZa.out; have := HZ.out; omega
              have HOa' := HOa.out
              clear HBY5 fr9 z9 os9 tp9 ou9 HO2
              go_wp2_with (at_builtin; refine append_itR (wr := w9) (y := y.with (insL q at_.toNat x y.kids)) (kv := .slice p5 n5 c5) rfl _ _ rfl rfl rfl HOa' KB (by rw [itc_with]) hBa hrl ?_; intro v8 w8 o8 g8 l8)
              go_roundw
              case rel =>
                have hza := HZa.out
                have hz := HZ.out
                refine ⟨j + 1, by omega, by go_num, by rw [EC.out], (by show OwnR _ _ _ _ _; rw [EJ.out]; exact o8), ?_, ?_, ?_⟩
                · exact HXa.out.keeps (fun i' v' hv => by rw [← hv]; exact World.cell?_of_block (a := ⟨w.heap.size, i', none⟩) (g8.block w.heap.size (by omega) (fun e => by have := HLV.out _ e.symm; omega)))
                · exact ⟨g8.os.trans HBa.out.os, g8.tape.trans HBa.out.tape, g8.output.trans HBa.out.output, Nat.le_trans HBa.out.size g8.size, fun k hk => (g8.block k (by omega) (fun e => by have := HLV.out k e.symm; omega)).trans (HBa.out.block k hk)⟩
                · show _ ≤ _
                  have := g8.size; omega
              case measure => simp [intOf]; omega
      · obtain rfl : j = l.length := by omega
        rw [List.take_length] at HO ⊢
        rw [HRR.out]
        go_wp2_with fail
        go_ret2
        exact ⟨_, rfl, fun h => by
          have hFt : F = true := by
            have := HRR.out
            rw [h] at this
            exact (Bool.and_eq_true_iff.mp this).2
          have := HO.out
          rw [hFt] at this
          exact OwnR.rd this (fun g hg _ => by rcases hg with hg | hg; exact Or.inl hg; exact Or.inr (by omega)) (fun b hb => Or.inr (by omega)), HBr.out⟩
end Go.Proofs.Ytgpckmolcdafcae

/-
  THE WALK of the reference's Under.
-/
namespace Go.Proofs.Ytgpckmolcdafcae
open Go.RowKit

theorem zof (l : List It) : nodesZ (ofIts l) = (nodesL l).map Int.ofNat := by rw [nodes_of.2]; rfl
theorem made_one (w : World) (q : Int) (B : Nat) (hB : B ≤ w.heap.size) : OwnZ (w.alloc (.cells #[.int .i64 q] 3)) B (.slice (some ⟨w.heap.size, 0, none⟩) 1 1) [q] :=
  ⟨rfl, Or.inr ⟨w.heap.size, 1, #[.int .i64 q], rfl, hB, heap_alloc_new _ _, Nat.le_refl _, by decide, rfl, rfl⟩⟩
set_option maxHeartbeats 3200000 in
set_option maxRecDepth 100000 in
theorem uunder_any (q : Nat) (m : Nat) : ∀ (P : Nat → Prop) (v : Value) (l : List It) (w : World), RdI w P v l → Unlike l → (nodesL l).length < m → (nodesL l).length ≤ 500000 →
    Calls Try.prog 19 #[v, .int .i64 (q : Int)] w fun e w' => ∃ v' L, e = .returned v' ∧ ZsAt w' v' L ∧ (∀ X ∈ itemL l, X.node = q → L = (nodes1 X).map Int.ofNat) ∧ (q ∉ nodesL l → L = []) ∧ Below w.heap.size w w' := by
  induction m with
  | zero => intro P v l w _ _ hm; omega
  | succ m ih =>
    intro P v l w hr hu hm hsz
    obtain ⟨p, c, rfl, y1, y2, hat⟩ := (hr.any (Q := fun g => P g ∧ g < w.heap.size) (fun g hg hlt => ⟨hg, hlt⟩)).at
    have T : Hid (∀ j (hj : j < l.length), ∃ b o kv, p = some ⟨b, o, none⟩ ∧ (P b ∧ b < w.heap.size) ∧ ItAt w b (o + j * 8) l[j] kv ∧ RdI w (fun g => P g ∧ g < w.heap.size) kv l[j].kids) := hat
    have ZM : Hid (∀ j (hj : j < l.length), (nodesL l[j].kids).length < m ∧ (nodesL l[j].kids).length ≤ 500000) := fun j hj => by have := nodesL_lt l j hj; omega
    have ZL : Hid (l.length ≤ 500000) := by show _ ≤ _; have := top_few l; omega
    have HU : Hid (Unlike l) := hu
    clear hr hat hm hsz hu
    go_enter Try.func19, Try.ntmps19
    go_wp2_with fail
    go_loopw [10] (fun iv wr => ∃ (j : Nat), j ≤ l.length ∧ iv = .int .i64 j ∧ Hid (q ∉ nodesL (l.take j)) ∧ Hid (Below w.heap.size w wr)) (fun iv _ => l.length - (intOf iv).toNat)
    case atStart => exact ⟨0, Nat.zero_le _, rfl, (by show _ ∉ _; simp [nodesL]), Below.refl _ _⟩
    case round =>
      obtain ⟨j, hj, rfl, HN, HBr⟩ := hrel
      by_cases hlt : j < l.length
      · obtain ⟨b, o, kv, rfl, hb, hc, hk⟩ := T.out j hlt
        have kb : Keeps w wr := fun a v hv => keeps_below HBr.out (Nat.le_refl _) _ _ hv
        have c0 := kb _ _ hc.c0
        have c1 := kb _ _ hc.c1
        have c2 := kb _ _ hc.c2
        have c3 := kb _ _ hc.c3
        have c4 := kb _ _ hc.c4
        have c5 := kb _ _ hc.c5
        have c6 := kb _ _ hc.c6
        have c7 := kb _ _ hc.c7
        have hkr := hk.under HBr.out
        have HE2 : Hid ((nodesL (l.take (j + 1))).contains q = ((nodesL (l.take j)).contains q || (nodes1 l[j]).contains q)) := contains_next q l j hlt
        have HE4 : Hid (Unlike l[j].kids ∧ l[j].node ∉ nodesL l[j].kids) := unlike_kids HU.out hlt
        have HI : Hid (l[j] ∈ itemL l) := item_of hlt
        have HM := ZM.out j hlt
        obtain ⟨pk, ck, rfl⟩ := hk.shape
        clear hc hk kb
        generalize l[j] = y at *
        have B2 : Below wr.heap.size wr (wr.alloc (.cells #[.int .i64 (y.node : Int), .int .i64 y.role, .string y.name, .string y.about, .int .i64 y.level, .int .i64 y.checked, .bool y.off, .slice pk y.kids.length ck] 26)) := (Below.refl _ _).alloc (Nat.le_refl _) _
        have BY := box8_new wr (.int .i64 (y.node : Int)) (.int .i64 y.role) (.string y.name) (.string y.about) (.int .i64 y.level) (.int .i64 y.checked) (.bool y.off) (.slice pk y.kids.length ck) 26
        have zy : (wr.alloc (.cells #[.int .i64 (y.node : Int), .int .i64 y.role, .string y.name, .string y.about, .int .i64 y.level, .int .i64 y.checked, .bool y.off, .slice pk y.kids.length ck] 26)).heap.size = wr.heap.size + 1 := by simp
        go_upto_region 4 with fail
        generalize (wr.alloc (.cells #[.int .i64 (y.node : Int), .int .i64 y.role, .string y.name, .string y.about, .int .i64 y.level, .int .i64 y.checked, .bool y.off, .slice pk y.kids.length ck] 26)) = W2 at *
        have HBW2 : Hid (Below w.heap.size w W2) := HBr.out.trans (B2.mono HBr.out.size)
        have hkr2 := hkr.under B2
        have nz1 : ¬ wr.heap.size = W2.heap.size := by omega
        have nz2 : ¬ W2.heap.size = wr.heap.size := by omega
        clear c0 c1 c2 c3 c4 c5 c6 c7 B2 hkr zy
        obtain ⟨d0, d1, d2, d3, d4, d5, d6, d7⟩ := BY
        by_cases hy : y.node = q
        · have hye : ((y.node : Int) == (q : Int)) = true := by rw [beq_iff_eq]; omega
          have BA : Below W2.heap.size W2 (W2.alloc (.cells #[.int .i64 (q : Int)] 3)) := (Below.refl _ _).alloc (Nat.le_refl _) _
          have C := unodes_any (nodesZ (ofIts y.kids)).length _ (ofIts y.kids) _ (hkr2.under BA) (Nat.le_refl _) (by rw [zof, List.length_map]; exact HM.2)
          have HOne := made_one W2 (q : Int) W2.heap.size (Nat.le_refl _)
          have zz : (W2.alloc (.cells #[.int .i64 (q : Int)] 3)).heap.size = W2.heap.size + 1 := by simp
          rw [zof] at C
          have HLE : Hid ((q : Int) :: (nodesL y.kids).map Int.ofNat = (nodes1 y).map Int.ofNat) := by show _ = _; rw [nodes1_eq, List.map_cons, hy]; rfl
          have HX : Hid (∀ X ∈ itemL l, X.node = q → X = y) := fun X hX e => unlike_one HU.out hX HI.out (by rw [e, hy])
          have HQ : Hid (q ∈ nodesL l) := by have := node_inL HI.out; rw [hy] at this; exact this
          have hkl : (nodesL y.kids).length ≤ 500000 := HM.2
          have g7 := keeps_below BA (Nat.le_refl _) _ _ d7
          clear hy
          go_upto_region 5 with fail
          have HBA : Hid (Below W2.heap.size W2 (W2.alloc (.cells #[.int .i64 (q : Int)] 3))) := BA
          have HZZ : Hid ((W2.alloc (.cells #[.int .i64 (q : Int)] 3)).heap.size = W2.heap.size + 1) := zz
          have HON := (show Hid _ from HOne)
          clear BA HOne zz
          go_wp2_with (first
            | (go_at_call 11; refine C.mono ?_; clear C; rintro e w5 ⟨v5, rfl, ho5, hb5⟩; have zs5 := zs_of_owns ho5; obtain ⟨p5, c5, e5, _⟩ := zs5.at; rw [List.length_map] at e5; subst e5; have ow5 := owns_below HON.out hb5; have hb5' := hb5; have z5 := hb5.size)
            | (at_builtin; refine append_zs (wr := w5) rfl _ _ rfl rfl rfl ow5 zs5 (by rw [HZZ.out] at z5; omega) (by simp; omega) ?_; intro v7 w7 hv7 n7))
          go_ret
          exact ⟨v7, _, rfl, zs_of_owns hv7, fun X hX e => by rw [HX.out X hX e, ← HLE.out]; rfl, fun h => absurd HQ.out h, HBW2.out.trans (((HBA.out.trans (hb5'.mono (by rw [HZZ.out]; omega))).trans n7).mono HBW2.out.size)⟩
        · have hye : ((y.node : Int) == (q : Int)) = false := by rw [beq_eq_false_iff_ne]; omega
          have IC := ih (fun g => P g ∧ g < w.heap.size) (.slice pk y.kids.length ck) y.kids W2 hkr2 HE4.out.1 HM.1 HM.2
          have HY : Hid (y.node ≠ q) := hy
          clear hy
          go_upto_region 7 with (go_at_call 19; refine IC.mono ?_; clear IC; rintro e w5 ⟨v5, L5, rfl, t1, t2, t3, t4⟩; obtain ⟨p5, c5, e5, _⟩ := t1.at; subst e5; have HT1 := (show Hid _ from t1); have HT2 := (show Hid _ from t2); have HT3 := (show Hid _ from t3); have HT4 : Hid (Below W2.heap.size W2 w5) := t4; clear t1 t2 t3 t4)
          have HB5 : Hid (Below w.heap.size w w5) := HBW2.out.trans (HT4.out.mono HBW2.out.size)
          by_cases hin : q ∈ nodesL y.kids
          · obtain ⟨Z, hZ, eZ⟩ := in_node hin
            have e5 := HT2.out Z hZ eZ
            have hpos : 0 < L5.length := by rw [e5, List.length_map, nodes1_eq]; simp
            have HE5 : Hid (L5 = (nodes1 Z).map Int.ofNat) := e5
            have HZ : Hid (∀ X ∈ itemL l, X.node = q → X = Z) := fun X hX e => unlike_one HU.out hX (item_kids.2 l y HI.out Z hZ) (by rw [e, eZ])
            have HQ : Hid (q ∈ nodesL l) := by have := node_inL (item_kids.2 l y HI.out Z hZ); rw [eZ] at this; exact this
            clear e5 hZ eZ hin
            go_wp2_with fail
            go_ret
            exact ⟨_, L5, rfl, HT1.out, fun X hX e => by rw [HZ.out X hX e]; exact HE5.out, fun h => absurd HQ.out h, HB5.out⟩
          · obtain rfl := HT3.out hin
            have HN2 : Hid (q ∉ nodesL (l.take (j + 1))) := fun h => by
              have h2 : (nodesL (l.take (j + 1))).contains q = true := by simpa using h
              rw [HE2.out, contains1, decide_eq_false HY.out, Bool.false_or, Bool.or_eq_true] at h2
              rcases h2 with h2 | h2
              · exact HN.out (by simpa using h2)
              · exact hin (by simpa using h2)
            clear hin
            go_wp2_with fail
            go_roundw
            case rel => exact ⟨j + 1, by omega, by go_num, HN2, HB5⟩
            case measure => simp [intOf]; omega
      · obtain rfl : j = l.length := by omega
        rw [List.take_length] at HN
        go_wp2_with fail
        go_ret
        exact ⟨_, [], rfl, zs_of_owns (OwnZ.nil wr 0), fun X hX e => absurd (e ▸ node_inL hX) HN.out, fun _ => rfl, HBr.out⟩
end Go.Proofs.Ytgpckmolcdafcae

/-
  THE REFERENCE's Paste whatever the place; what an event leaves unlike, and how many nodes; the WALK of the reference's 'bad'.
-/
namespace Go.Proofs.Ytgpckmolcdafcae
open Go.RowKit

theorem place_t {T : List It} {t : Int} (h : ¬ (0 ≤ t ∧ hasI T t = false)) : Place T (toP t) := by
  unfold toP
  by_cases h0 : t < 0
  · rw [if_pos h0]; exact Or.inl rfl
  · rw [if_neg h0]
    have h1 : hasI T t = true := by
      cases hh : hasI T t
      · exact absurd ⟨by omega, hh⟩ h
      · rfl
    unfold hasI at h1
    rw [Bool.and_eq_true, List.contains_iff_mem] at h1
    obtain ⟨X, hX, e⟩ := in_node h1.2
    exact Or.inr ⟨X, hX, by omega⟩
theorem rm_here {T : List It} {x : It} (hU : Unlike T) (hx : x ∈ itemL T) {t : Int} (h1 : hasI T t = true) (h2 : t.toNat ∉ nodes1 x) : hasI (rmL x.node T) t = true := by
  unfold hasI at h1 ⊢
  rw [Bool.and_eq_true, List.contains_iff_mem] at h1 ⊢
  exact ⟨h1.1, rm_nodes h1.2 (fun h => h2 ((und_item hU hx _).mp h))⟩
theorem unlike_mov {T : List It} {x : It} (hU : Unlike T) (hx : x ∈ itemL T) {p : Int} {i : Nat} (hp : Place (rmL x.node T) p) (hi : i ≤ (kidsAt (rmL x.node T) p).length) : Unlike (movP x p i T) :=
  ins_unlike ⟨rm_unlike hU, hp, hi, sub_nodup hU hx, fun k hk => rm_und hU ((und_item hU hx k).mpr hk)⟩
theorem apply_unlike {T T2 : List It} {m : EvM} (hU : Unlike T) (h5 : m.kind = 5 → Unlike [m.item]) (h : applyM T m = .ok T2) : Unlike T2 := by
  obtain ⟨kind, node, tgt, at_, y⟩ := m
  by_cases k5 : kind = 5
  · have h5' := h5 k5
    subst k5
    rw [app5] at h
    cases h
    exact h5'
  by_cases k2 : kind = 2
  · subst k2
    rw [app2] at h
    split at h; · cases h
    rename_i h1
    split at h; · cases h
    rename_i h2
    split at h; · cases h
    rename_i h3
    split at h; · cases h
    rename_i h4
    cases h
    have hk : y.kids = [] := by simpa using h3
    have hn : y.node ∉ nodesL T := by rw [hasI_nat] at h4; simpa using h4
    refine ins_unlike ⟨hU, place_t h1, by omega, by rw [nodes1_eq, hk]; simp [nodesL], fun k hk2 => ?_⟩
    rw [nodes1_eq, hk] at hk2
    rw [show k = y.node from by simpa [nodesL] using hk2]
    exact hn
  by_cases k3 : kind = 3
  · subst k3
    rw [app3] at h
    cases hf : findI T node with
    | none => rw [hf] at h; cases h
    | some x =>
      rw [hf] at h
      simp only at h
      split at h; · cases h
      rename_i h1
      split at h; · cases h
      rename_i h2
      split at h; · cases h
      rename_i h3
      cases h
      have hx := find_in hf
      refine unlike_mov hU hx ?_ (by omega)
      by_cases h0 : 0 ≤ tgt
      · refine place_t (fun h => ?_)
        have h1' : tgt.toNat ∉ nodes1 x := fun hh => h1 ⟨h0, by simpa using hh⟩
        have h2' : hasI T tgt = true := by
          cases hh : hasI T tgt
          · exact absurd ⟨h0, hh⟩ h2
          · rfl
        rw [rm_here hU hx h2' h1'] at h
        cases h.2
      · exact place_t (fun h => h0 h.1)
  by_cases k1 : kind = 1
  · subst k1
    rw [app1] at h
    split at h
    · cases h
      exact rm_unlike hU
    · cases h
  by_cases k4 : kind = 4
  · subst k4
    rw [app4] at h
    split at h; · cases h
    split at h; · cases h
    rename_i h2
    cases h
    have e : y.node = node.toNat := by
      have : (y.node : Int) = node := Classical.byContradiction fun q => h2 (Or.inl q)
      rw [← this]
      simp
    unfold Unlike
    rw [tel_nodes e]
    exact hU
  · exfalso
    unfold applyM at h
    rw [if_neg k5, if_neg k2, if_neg k3, if_neg k1, if_neg k4] at h
    cases h
theorem apply_few {T T2 : List It} {m : EvM} {N : Nat} (hU : Unlike T) (h5 : m.kind = 5 → Unlike [m.item]) (h : applyM T m = .ok T2) (hN : (nodesL T).length ≤ N) (hm : (nodes1 m.item).length ≤ N + 1) : (nodesL T2).length ≤ N + 1 := by
  have hU2 := apply_unlike hU h5 h
  by_cases k5 : m.kind = 5
  · obtain ⟨kind, node, tgt, at_, y⟩ := m
    simp only at k5
    subst k5
    rw [app5] at h
    cases h
    simpa [nodesL] using hm
  by_cases k2 : m.kind = 2
  · have hk := kids_none h k2
    have := nodup_sub _ (m.item.node :: nodesL T) hU2 (fun k hk2 => by
      rcases apply_sub h hk2 with h1 | ⟨_, h1⟩
      · exact List.mem_cons_of_mem _ h1
      · rw [nodes1_eq, hk] at h1
        rw [show k = m.item.node from by simpa [nodesL] using h1]
        exact List.mem_cons_self)
    rw [List.length_cons] at this
    omega
  · have := nodup_sub _ (nodesL T) hU2 (fun k hk2 => by
      rcases apply_sub h hk2 with h1 | ⟨h1, _⟩
      · exact h1
      · rcases h1 with h1 | h1
        · exact absurd h1 k2
        · exact absurd h1 k5)
    omega

set_option maxHeartbeats 800000 in
/-- the reference's Paste, wherever -/
theorem upasteP (x : It) (kx : Value) (t at_ : Int) (r : Bool) {P : Nat → Prop} {v : Value} {T : List It} {w : World} (hr : RdI w P v T) (hx : RdI w P kx x.kids) (hU : Unlike T) (hsz : (nodesL T).length ≤ 800000) (ht : ¬ (0 ≤ t ∧ hasI T t = false)) (hrr : decide (0 ≤ at_ ∧ at_ ≤ ((kidsAt T (toP t)).length : Int)) = r) :
    Calls Try.prog 17 #[v, .int .i64 t, .int .i64 at_, itA x kx] w fun e w' => ∃ v', e = .returned (.tuple #[v', .bool r]) ∧ (r = true → RdI w' (fun g => (P g ∧ g < w.heap.size) ∨ w.heap.size ≤ g) v' (insP (toP t) at_.toNat x T)) ∧ Below w.heap.size w w' := by
  by_cases h0 : t < 0
  · have e : toP t = -1 := by unfold toP; rw [if_pos h0]
    rw [e, kids_top, show (topN T).length = T.length from by unfold topN; rw [List.length_map]] at hrr
    refine (upaste_top x kx t at_ h0 hr hx hsz).mono ?_
    rintro e' w' ⟨v', rfl, h1, h2⟩
    refine ⟨v', by rw [hrr], fun hrt => ?_, h2⟩
    rw [e]
    unfold insP
    rw [if_pos (by decide)]
    exact h1 (by rw [hrt] at hrr; exact of_decide_eq_true hrr)
  · have e : toP t = t := by unfold toP; rw [if_neg h0]
    obtain ⟨q, rfl⟩ : ∃ q : Nat, t = (q : Int) := ⟨t.toNat, by omega⟩
    have hq : hasI T (q : Int) = true := by
      cases hh : hasI T (q : Int)
      · exact absurd ⟨by omega, hh⟩ ht
      · rfl
    rw [hasI_nat] at hq
    obtain ⟨X, hX, eX⟩ := in_node (by simpa using hq : q ∈ nodesL T)
    rw [e, ← eX, kids_item hU hX, show (topN X.kids).length = X.kids.length from by unfold topN; rw [List.length_map]] at hrr
    obtain ⟨xp, xc, rfl⟩ := hx.shape
    have C := upaste_any q at_ x xp xc r ((nodesL T).length + 1) P v T w r (by rw [hq, Bool.true_and]) hr hx hU (by omega) hsz (fun Y hY eY => by
      rw [unlike_one hU hY hX (by rw [eY, eX]), ← hrr, decide_eq_true_eq])
    unfold itA
    refine C.mono ?_
    rintro e' w' ⟨v', rfl, h1, h2⟩
    refine ⟨v', rfl, fun hrt => ?_, h2⟩
    rw [e]
    unfold insP
    rw [if_neg (by omega), Int.toNat_natCast]
    exact h1 hrt

set_option maxHeartbeats 800000 in
theorem ubad_any (k i : Int) (b : Nat) {w : World} (hc : w.cell? ⟨b, 0, none⟩ = some (.int .i64 i)) :
    Calls Try.prog 15 #[.int .i64 k, .pointer (some ⟨b, 0, none⟩)] w fun e w' => e = .returned (.tuple #[.slice none 0 0, .agg #[.int .i64 k, .int .i64 i]]) ∧ Below w.heap.size w w' := by
  have B0 : Below w.heap.size w (w.alloc (.cells #[.int .i64 0, .int .i64 0] 31)) := (Below.refl _ _).alloc (Nat.le_refl _) _
  have R0 : (w.alloc (.cells #[.int .i64 0, .int .i64 0] 31)).heap[w.heap.size]? = some (.cells #[.int .i64 0, .int .i64 0] 31) := heap_alloc_new _ _
  have hc2 := keeps_below B0 (Nat.le_refl _) _ _ hc
  have RC : ∀ w' : World, w'.heap[w.heap.size]? = some (.cells #[.int .i64 0, .int .i64 0] 31) → w'.cell? ⟨w.heap.size, 0, none⟩ = some (.int .i64 0) ∧ w'.cell? ⟨w.heap.size, 1, none⟩ = some (.int .i64 0) ∧ w'.frozen? ⟨w.heap.size, 0, none⟩ = false ∧ w'.frozen? ⟨w.heap.size, 1, none⟩ = false := fun w' h => ⟨by simp [World.cell?, h], by simp [World.cell?, h], by simp [World.frozen?, h], by simp [World.frozen?, h]⟩
  obtain ⟨q0, q1, f0, f1⟩ := RC _ R0
  clear hc R0 RC
  go_enter Try.func15, Try.ntmps15
  go_upto_region 1 with fail
  have HB : Hid (Below w.heap.size w (w.alloc (.cells #[.int .i64 0, .int .i64 0] 31))) := B0
  clear B0
  generalize w.alloc (.cells #[.int .i64 0, .int .i64 0] 31) = W at *
  go_region
  go_wp2_with fail
  refine bodyPost_ret (v := .tuple #[.slice none 0 0, .agg #[.int .i64 k, .int .i64 i]]) (by simp [results, Try.results15, go_sem, q0, q1]) rfl ⟨rfl, ?_⟩
  exact ((HB.out.setCell (p := ⟨w.heap.size, 0, none⟩) (Nat.le_refl _) _).setCell (p := ⟨w.heap.size, 1, none⟩) (Nat.le_refl _) _).drew
end Go.Proofs.Ytgpckmolcdafcae
