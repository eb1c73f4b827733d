/-
  OWN WORK: Hno, Hke, Hss, Hlo, Hia, Hte, Hbr, Hco.
-/
import Derived.Test.YtgpckmolcdafcaeP5
import Derived.Test.YtgpckmolcdafcaeP2
import Derived.Deep.AppendLies
import Derived.Test.YtgpckmolcdafcaeP3
import Derived.Test.YtgpckmolcdafcaeP4
/-
  THE WALK of tree.Nodes, of items that came in.
-/
namespace Go.Proofs.Ytgpckmolcdafcae
open Go.RowKit

theorem But.rd {B A : Nat} {w w' : World} (h : But B A w w') (hB : w.heap.size ≤ B) {v : Value} {l : List It} (hr : RdI w (fun g => g ≠ A) v l) : RdI w' (fun g => g ≠ A) v l :=
  hr.frame (fun g hg hlt => ⟨h.block g (by omega) hg, hg⟩)

set_option maxHeartbeats 3200000 in
set_option maxRecDepth 100000 in
theorem hnodes1_any {w0 : World} {A K B : Nat} (hB : w0.heap.size = B) (hKA : K ≠ A) (hKB : K < B) (hAB : A < B) (m : Nat) :
    ∀ (v : Value) (l : List It) (acc : List Nat) (va : Value) (w : World), RdI w0 (fun g => g ≠ A) v l → (nodesL l).length ≤ m → But B A w0 w → Vars2 w A K B acc va → (acc ++ nodesL l).length ≤ 900000 →
      Calls Try.prog 55 #[v, .pointer (some ⟨A, 0, none⟩), .pointer (some ⟨K, 0, none⟩)] w fun e w' =>
        e = .returned (.tuple #[]) ∧ But B A w0 w' ∧ ∃ va', Vars2 w' A K B (acc ++ nodesL l) va' := by
  have HB : Hid (w0.heap.size = B) := hB
  clear hB
  induction m with
  | zero =>
    intro v l acc va w hr hm hbut hv hsz
    have hl : l = [] := by
      have := top_few l
      exact List.length_eq_zero_iff.mp (by omega)
    subst hl
    obtain ⟨p, c, rfl⟩ := hr.shape
    clear hr
    go_enter Try.func55, Try.ntmps55
    go_wp2_with fail
    refine wp_loop_rounds 1 ?_
    rw [rounds_succ]
    go_wp2_with fail
    go_end0
    exact ⟨rfl, hbut, va, by simpa [nodesL] using hv⟩
  | succ m ih =>
    intro v l acc va w hr hm hbut hv hsz
    obtain ⟨p, c, rfl, y1, y2, hat⟩ := hr.at
    have T : Hid (∀ j (hj : j < l.length), ∃ b o kv, p = some ⟨b, o, none⟩ ∧ b ≠ A ∧ ItAt w0 b (o + j * 8) l[j] kv ∧ RdI w0 (fun g => g ≠ A) kv l[j].kids) := hat
    have Z : Hid ((acc ++ nodesL l).length ≤ 900000) := hsz
    have ZM : Hid (∀ j (hj : j < l.length), (nodesL l[j].kids).length ≤ m) := fun j hj => by have := nodesL_lt l j hj; omega
    clear hr hat hsz hm
    go_enter Try.func55, Try.ntmps55
    go_wp2_with fail
    go_loopw [8] (fun i wr => ∃ (j : Nat) (va : Value), j ≤ l.length ∧ i = .int .i64 j ∧ But B A w0 wr ∧ Vars2 wr A K B (acc ++ nodesL (l.take j)) va)
      (fun i _ => l.length - (intOf i).toNat)
    case atStart => exact ⟨0, va, Nat.zero_le _, rfl, hbut, by simpa [nodesL] using hv⟩
    case round =>
      clear hv hbut
      obtain ⟨j, va, hj, rfl, hbut, hv⟩ := hrel
      by_cases hlt : j < l.length
      · obtain ⟨b1, o1, kv, rfl, hb1, hc, hrow⟩ := T.out j hlt
        have c0 := hbut.cell hc.c0 (by rw [HB.out]; exact Nat.le_refl _) hb1
        have c1 := hbut.cell hc.c1 (by rw [HB.out]; exact Nat.le_refl _) hb1
        have c2 := hbut.cell hc.c2 (by rw [HB.out]; exact Nat.le_refl _) hb1
        have c3 := hbut.cell hc.c3 (by rw [HB.out]; exact Nat.le_refl _) hb1
        have c4 := hbut.cell hc.c4 (by rw [HB.out]; exact Nat.le_refl _) hb1
        have c5 := hbut.cell hc.c5 (by rw [HB.out]; exact Nat.le_refl _) hb1
        have c6 := hbut.cell hc.c6 (by rw [HB.out]; exact Nat.le_refl _) hb1
        have c7 := hbut.cell hc.c7 (by rw [HB.out]; exact Nat.le_refl _) hb1
        have F : Hid (acc ++ nodesL (l.take (j + 1)) = ((acc ++ nodesL (l.take j)) ++ [l[j].node]) ++ nodesL l[j].kids) := by
          show _ = _
          rw [nodesL_take l j hlt]
          simp
        have hZj : Hid ((((acc ++ nodesL (l.take j)) ++ [l[j].node]) ++ nodesL l[j].kids).length ≤ 900000) := by
          show _ ≤ _
          rw [← F.out]
          have h1 := Z.out
          have h2 := nodesL_take_le l (j + 1)
          rw [List.length_append] at h1 ⊢
          omega
        have hsf : (acc ++ nodesL (l.take j)).length ≤ 1000000 := by have h1 := hZj.out; rw [List.length_append, List.length_append] at h1; omega
        have RW : Hid (RdI w0 (fun g => g ≠ A) kv l[j].kids) := hrow
        have ZJ : Hid ((nodesL l[j].kids).length ≤ m) := ZM.out j hlt
        obtain ⟨pk, ck, rfl⟩ := hrow.shape
        clear hc hrow
        generalize acc ++ nodesL (l.take j) = sf at *
        generalize l[j].kids = ks at *
        generalize l[j].node = x at *
        generalize l[j].role = x1 at *
        generalize l[j].name = x2 at *
        generalize l[j].about = x3 at *
        generalize l[j].level = x4 at *
        generalize l[j].checked = x5 at *
        generalize l[j].off = x6 at *
        obtain ⟨vk, vaa, vf, vown⟩ := hv
        have hBw : B ≤ wr.heap.size := by have h1 := hbut.size; rw [HB.out] at h1; exact h1
        go_upto_region 3 with fail
        have hNW := boxv8 wr (.int .i64 (x : Int)) (.int .i64 x1) (.string x2) (.string x3) (.int .i64 x4) (.int .i64 x5) (.bool x6) (.slice pk ks.length ck) 26
        have BB : Below wr.heap.size wr (wr.alloc (.cells #[.int .i64 (x : Int), .int .i64 x1, .string x2, .string x3, .int .i64 x4, .int .i64 x5, .bool x6, .slice pk ks.length ck] 26)) := (Below.refl _ _).alloc (Nat.le_refl _) _
        have zB : (wr.alloc (.cells #[.int .i64 (x : Int), .int .i64 x1, .string x2, .string x3, .int .i64 x4, .int .i64 x5, .bool x6, .slice pk ks.length ck] 26)).heap.size = wr.heap.size + 1 := by simp
        have vk2 := keeps_below BB (Nat.le_refl _) _ _ vk
        have va2 := keeps_below BB (Nat.le_refl _) _ _ vaa
        have vf2 : (wr.alloc (.cells #[.int .i64 (x : Int), .int .i64 x1, .string x2, .string x3, .int .i64 x4, .int .i64 x5, .bool x6, .slice pk ks.length ck] 26)).frozen? ⟨A, 0, none⟩ = false := (BB.frozen (p := ⟨A, 0, none⟩) (by simp only; omega)).trans vf
        have vown2 : OwnI (wr.alloc (.cells #[.int .i64 (x : Int), .int .i64 x1, .string x2, .string x3, .int .i64 x4, .int .i64 x5, .bool x6, .slice pk ks.length ck] 26)) B va sf := World.ownsRow.alloc vown _
        have hvlt := World.ownsRow.lt vown
        have hbut2 : But B A w0 (wr.alloc (.cells #[.int .i64 (x : Int), .int .i64 x1, .string x2, .string x3, .int .i64 x4, .int .i64 x5, .bool x6, .slice pk ks.length ck] 26)) := hbut.trans (But.of (BB.mono hBw) (Nat.le_refl _))
        clear BB vk vaa vf vown hbut c0 c1 c2 c3 c4 c5 c6 c7
        generalize hG : wr.heap.size = G at *
        generalize wr.alloc (.cells #[.int .i64 (x : Int), .int .i64 x1, .string x2, .string x3, .int .i64 x4, .int .i64 x5, .bool x6, .slice pk ks.length ck] 26) = wb at *
        obtain ⟨g0, g7⟩ := hNW
        have HBW : Hid (B ≤ G) := hBw
        go_upto_region 4 with (at_builtin; refine append_int2 (w0 := wb) rfl _ _ rfl x rfl (by simp [Act.eval, zB]) vown2 (Below.refl B wb) (by have := HBW.out; omega) hsf ?_; intro v1 w1 o1' n1' gr1 bl1; obtain ⟨pv, cv, rfl⟩ := o1'.shape; have a1 : w1.cell? ⟨A, 0, none⟩ = some va := (n1'.cell (p := ⟨A, 0, none⟩) hAB).trans va2; have f1 : w1.frozen? ⟨A, 0, none⟩ = false := (n1'.frozen (p := ⟨A, 0, none⟩) hAB).trans vf2)
        simp only [List.length_append, List.length_singleton] at o1'
        have k1 : w1.cell? ⟨K, 0, none⟩ = some (.func (.func 55) #[] #[.pointer (some ⟨A, 0, none⟩), .pointer (some ⟨K, 0, none⟩)]) := (n1'.cell (p := ⟨K, 0, none⟩) hKB).trans vk2
        have hGv : some G ≠ va.ownBlock := fun e => by have := (hvlt G e.symm).2; omega
        have e7 : w1.cell? ⟨G, 7, none⟩ = some (.slice pk ks.length ck) := gr1.cell g7 (by exact hGv)
        have k2 : (w1.setCell ⟨A, 0, none⟩ (.slice pv (sf.length + 1) cv)).cell? ⟨K, 0, none⟩ = some (.func (.func 55) #[] #[.pointer (some ⟨A, 0, none⟩), .pointer (some ⟨K, 0, none⟩)]) := by
          rw [World.cell?_setCell_other _ _ _ _ (by intro e; cases e; exact hKA rfl)]
          exact k1
        have e8 : (w1.setCell ⟨A, 0, none⟩ (.slice pv (sf.length + 1) cv)).cell? ⟨G, 7, none⟩ = some (.slice pk ks.length ck) := by
          rw [World.cell?_setCell_other _ _ _ _ (by intro e; cases e)]
          exact e7
        have bt2 : But B A w0 (w1.setCell ⟨A, 0, none⟩ (.slice pv (sf.length + 1) cv)) := (hbut2.trans (But.of n1' (Nat.le_refl _))).set _
        have V2 : Vars2 (w1.setCell ⟨A, 0, none⟩ (.slice pv (sf.length + 1) cv)) A K B (sf ++ [x]) (.slice pv (sf.length + 1) cv) := ⟨k2, World.cell?_setCell_same _ _ _ a1, by simpa using f1, OwnI.set o1' hAB _⟩
        have CC := ih _ ks (sf ++ [x]) _ _ RW.out ZJ.out bt2 V2 hZj.out
        clear k1 hGv e7 gr1 bl1 a1 f1 o1' n1' vk2 va2 vf2 vown2 hvlt hbut2 g0 g7 V2 bt2
        go_wp2_with (go_at_call 55; refine CC.mono ?_; clear CC; rintro e w5 ⟨rfl, bt5, va5, V5⟩)
        go_roundw
        case rel => exact ⟨j + 1, va5, by omega, by go_num, bt5, by rw [F.out]; exact V5⟩
        case measure => simp [intOf]; omega
      · obtain rfl : j = l.length := by omega
        rw [List.take_length] at hv
        go_wp2_with fail
        go_end0
        exact ⟨rfl, hbut, va, hv⟩

set_option maxHeartbeats 800000 in
theorem htnodes_any {w : World} {P : Nat → Prop} {v : Value} {l : List It} (h : RdI w P v l) (hsz : (nodesL l).length ≤ 800000) :
    Calls Try.prog 47 #[v] w fun e w' => ∃ v', e = .returned v' ∧ OwnI w' w.heap.size v' (nodesL l) ∧ Below w.heap.size w w' := by
  have hst : ∀ (W : World) (a : Addr) (fn : Fn) (x y : Array Value), Sem.run Try.prog (store a (.func fn x y)) W = stored Try.prog W a (.func fn x y) .plain := fun W a fn x y => run_store Try.prog W a (.func fn x y) .plain rfl
  have hC : Calls Try.prog 55 #[v, .pointer (some ⟨w.heap.size, 0, none⟩), .pointer (some ⟨w.heap.size + 1, 0, none⟩)]
      ((w.alloc (.cells #[.slice none 0 0] 39)).alloc (.cells #[.func (.func 55) #[] #[.pointer (some ⟨w.heap.size, 0, none⟩), .pointer (some ⟨w.heap.size + 1, 0, none⟩)]] 94))
      fun e w' => e = .returned (.tuple #[]) ∧ Below w.heap.size w w' ∧ ∃ va', w'.cell? ⟨w.heap.size, 0, none⟩ = some va' ∧ OwnI w' w.heap.size va' (nodesL l) := by
    generalize hf67 : (Obj.cells #[.func (.func 55) #[] #[.pointer (some ⟨w.heap.size, 0, none⟩), .pointer (some ⟨w.heap.size + 1, 0, none⟩)]] 94) = o3
    have z1 : (w.alloc (.cells #[.slice none 0 0] 39)).heap.size = w.heap.size + 1 := by simp
    have b1 := heap_alloc_new w (.cells #[.slice none 0 0] 39)
    have B1 := (Below.refl w.heap.size w).alloc (Nat.le_refl _) (.cells #[.slice none 0 0] 39)
    generalize w.alloc (.cells #[.slice none 0 0] 39) = w1 at *
    have z2 : (w1.alloc o3).heap.size = w.heap.size + 2 := by simp [z1]
    have b2 := blk_new w1 o3 z1
    have b12 := blk_alloc b1 o3
    have B2 := B1.alloc (by omega) o3
    generalize w1.alloc o3 = w2 at *
    subst hf67
    have hr2 : RdI w2 (fun g => g ≠ w.heap.size) v l := h.frame (fun g _ hlt => ⟨B2.block g hlt, by omega⟩)
    refine (hnodes1_any (w0 := w2) (A := w.heap.size) (K := w.heap.size + 1) (B := w.heap.size + 2) z2 (by omega) (by omega) (by omega) (nodesL l).length v l [] (.slice none 0 0) w2 hr2 (Nat.le_refl _) (But.refl _ _ _) ?_ (by simp; omega)).mono ?_
    · exact ⟨by simp [World.cell?, b2], by simp [World.cell?, b12], by simp [World.frozen?, b12], OwnI.nil _ _⟩
    · rintro e w' ⟨rfl, hbut, va', V⟩
      refine ⟨rfl, B2.trans (hbut.below (by omega) (by omega)), va', V.a, ?_⟩
      have := V.own
      simp only [List.nil_append] at this
      obtain ⟨q1, q2⟩ := this
      refine ⟨q1, ?_⟩
      rcases q2 with q2 | ⟨g, cap, cur, e, q3, q4⟩
      · exact Or.inl q2
      · exact Or.inr ⟨g, cap, cur, e, by omega, q4⟩
  obtain ⟨p, c, rfl⟩ := h.shape
  clear h
  go_enter Try.func47, Try.ntmps47
  go_wp2_with (go_at_call 55; refine hC.mono ?_; rintro e w9 ⟨rfl, hb9, va9, hc9, ho9⟩)
  go_ret
  exact ⟨_, rfl, ho9, hb9⟩
end Go.Proofs.Ytgpckmolcdafcae

/-
  THE WALKS of diff.nodesOf, and of the function in steps that looks whether a node is wanted.
-/
namespace Go.Proofs.Ytgpckmolcdafcae
open Go.RowKit Go.Maps

/-- block b is a set that holds, of all nodes, just those of L -/
def KeepAt (w : World) (b c : Nat) (L : List Nat) : Prop :=
  ∃ D, w.ownsMap Try.prog 3 (unitElem (H := Unit)) b c D ∧ ∀ k : Nat, Maps.has D (.int .i64 (k : Int)) = L.contains k
theorem KeepAt.same {w w' : World} {b c : Nat} {L : List Nat} (h : KeepAt w b c L) (hb : w'.heap[b]? = w.heap[b]?) : KeepAt w' b c L := by
  obtain ⟨D, ⟨es, clock, h1, h2⟩, h4⟩ := h
  exact ⟨D, ⟨es, clock, by rw [hb]; exact h1, h2⟩, h4⟩
theorem KeepAt.lt {w : World} {b c : Nat} {L : List Nat} (h : KeepAt w b c L) : b < w.heap.size := by
  obtain ⟨D, h1, _⟩ := h
  exact h1.lt
theorem KeepAt.below {w w' : World} {b c : Nat} {L : List Nat} (h : KeepAt w b c L) (hb : Below w.heap.size w w') : KeepAt w' b c L := h.same (hb.block b h.lt)
theorem keep_made (w : World) : KeepAt (w.alloc (.map #[] 0)) w.heap.size 0 [] :=
  ⟨.map [], World.ownsMap_made w Try.prog 3 _, fun k => by simp [Maps.has]⟩
theorem KeepAt.look {w : World} {b c : Nat} {L : List Nat} (h : KeepAt w b c L) (n : Nat) (hn : n < 9223372036854775808) : (Instr.lookup 69 (.map (some b)) (.int .i64 (n : Int)) true).run Try.prog w = .ok (.tuple #[.agg #[], .bool (L.contains n)]) w := by
  obtain ⟨D, h1, h3⟩ := h
  obtain ⟨v, ps, hrun, hv⟩ := h1.look_ok (t := 69) keyU Try.underlying69 (Try.zeroValue72 w) (zd := .agg []) (zp := []) rfl (keyOf_int_mk Try.underlying3 (WalkArith.wf_i64 (n := (n : Int)) (by omega)))
  have e := unitElem_inv hv
  rw [hrun, e.1, h3 n]
theorem keep_put {w : World} {ops : Array Oper} {rest : List Oper} {o : Oper} {a : Act} {Q : Exit → Act → World → Prop}
    (hg : o.guard = none) (m x v : Operand) (hop : o.op = Op.mapUpdate 69 m x v) (b c : Nat) (L : List Nat) (k : Nat) (hk : k < 9223372036854775808) (ha : c ≤ 1000000000)
    (hm : a.eval m = .map (some b)) (h : KeepAt w b c L) (hx : a.eval x = .int .i64 (k : Int)) (hv : a.eval v = .agg #[])
    (hK : ∀ w', KeepAt w' b (c + 1) (L ++ [k]) → w.grownBy w' (some b) → wpList Try.prog ops Q rest (a.put o.dst undef) w') : wpList Try.prog ops Q (o :: rest) a w := by
  obtain ⟨D, h1, h2⟩ := h
  refine wpList_mapUpdate_own w hg m x v 69 hop 3 72 keyU Try.underlying69 (unitElem (H := Unit)) b c D hm h1 (by unfold maxLen; omega) _ _ (.int .i64 (k : Int)) hx hv (keyOf_int_mk Try.underlying3 (WalkArith.wf_i64 (by omega))) (.agg []) [] unitElem_mk ?_
  intro w' g1 g2
  refine hK w' ⟨_, g1, fun j => ?_⟩ g2
  rw [Bool.eq_iff_iff, has_put h1.isMap, h2]
  simp only [List.contains_eq_mem, decide_eq_true_eq, List.mem_append, List.mem_singleton]
  constructor
  · rintro (h | h)
    · exact Or.inl h
    · injection h with _ h
      exact Or.inr (by omega)
  · rintro (h | rfl)
    · exact Or.inl h
    · exact Or.inr rfl

set_option maxHeartbeats 1600000 in
theorem hnodesOf_any {w : World} {P : Nat → Prop} {v : Value} {l : List It} (h : RdI w P v l) (hsz : (nodesL l).length ≤ 800000) (hb : ∀ k ∈ nodesL l, k < 9223372036854775808) :
    Calls Try.prog 31 #[v] w fun e w' => ∃ M, e = .returned (.map (some M)) ∧ w.heap.size ≤ M ∧ KeepAt w' M (nodesL l).length (nodesL l) ∧ Below w.heap.size w w' := by
  have B1 : Below w.heap.size w (w.alloc (.map #[] 0)) := (Below.refl _ _).alloc (Nat.le_refl _) _
  have K1 := keep_made w
  have z1 : (w.alloc (.map #[] 0)).heap.size = w.heap.size + 1 := by simp
  have C := htnodes_any (h.under B1) hsz
  have HS : Hid ((nodesL l).length ≤ 800000) := hsz
  have HB : Hid (∀ k ∈ nodesL l, k < 9223372036854775808) := hb
  obtain ⟨p, c, rfl⟩ := h.shape
  clear h hsz hb
  generalize nodesL l = L at *
  generalize l.length = ll at *
  have hmk : ∀ W : World, (Instr.makeMap 69 none).run Try.prog W = .ok (.map (some W.heap.size)) (W.alloc (.map #[] 0)) := fun _ => rfl
  go_enter Try.func31, Try.ntmps31
  go_upto_region 2 with fail
  generalize hW : w.alloc (.map #[] 0) = W at *
  clear hW
  have Z1 : Hid (W.heap.size = w.heap.size + 1) := z1
  clear z1
  go_wp2_with (go_at_call 47; refine C.mono ?_; clear C; rintro e w5 ⟨v5, rfl, ho5, hb5⟩; obtain ⟨p5, c5, e5, i1, i2, i3⟩ := (ints_of_owns ho5).at; subst e5)
  have HB5 : Hid (Below w.heap.size w w5) := B1.trans (hb5.mono B1.size)
  have K5 : Hid (KeepAt w5 w.heap.size 0 []) := K1.below hb5
  have T5 : Hid (∀ j (hj : j < L.length), ∃ b o, p5 = some ⟨b, o, none⟩ ∧ w5.cell? ⟨b, o + j, none⟩ = some (.int .i64 (L[j] : Int)) ∧ b ≠ w.heap.size) := fun j hj => by
    obtain ⟨b, o, e1, e2⟩ := i3.2 j hj
    refine ⟨b, o, e1, e2, ?_⟩
    have hL := ho5.lt b (by rw [e1]; rfl)
    have := Z1.out
    omega
  clear i3 ho5 hb5 B1 K1
  go_loopw [10] (fun iv wr => ∃ j : Nat, j ≤ L.length ∧ iv = .int .i64 j ∧ Hid (KeepAt wr w.heap.size j (L.take j)) ∧ Hid (Below w.heap.size w wr) ∧ Hid (Bt [w.heap.size] w5 wr)) (fun iv _ => L.length - (intOf iv).toNat)
  case atStart => exact ⟨0, Nat.zero_le _, rfl, K5, HB5, Bt.refl _ _⟩
  case round =>
    obtain ⟨j, hj, rfl, HK, HBr, HT⟩ := hrel
    by_cases hlt : j < L.length
    · obtain ⟨b, o, rfl, cj0, hne⟩ := T5.out j hlt
      have cj := HT.out.cell cj0 (by simpa using hne)
      have hk := HB.out _ (List.getElem_mem hlt)
      have HE : Hid (L.take (j + 1) = L.take j ++ [L[j]]) := by show _ = _; rw [List.take_succ_eq_append_getElem hlt]
      generalize L[j] = k at *
      have hjc : j ≤ 1000000000 := by have := HS.out; omega
      have HK2 := HK.out
      clear cj0 hne
      go_wp2_with (at_mapUpdate; refine keep_put rfl _ _ _ rfl w.heap.size j (L.take j) k hk hjc rfl HK2 rfl rfl ?_; intro w8 k8 g8)
      go_roundw
      case rel => exact ⟨j + 1, by omega, by go_num, by rw [HE.out]; exact k8, HBr.out.trans ⟨g8.os, g8.tape, g8.output, g8.size, fun k hk => g8.block k (by have := HBr.out.size; omega) (fun e => by have := Option.some.inj e; omega)⟩, HT.out.grow g8 (by simp)⟩
      case measure => simp [intOf]; omega
    · obtain rfl : j = L.length := by omega
      rw [List.take_length] at HK
      go_wp2_with fail
      go_ret
      exact ⟨_, rfl, Nat.le_refl _, HK.out, HBr.out⟩

/-- the function in steps that looks whether a node is wanted -/
theorem hwanted_any {w : World} {G M c : Nat} {L : List Nat} (hG : w.cell? ⟨G, 0, none⟩ = some (.map (some M))) (hM : KeepAt w M c L) (n : Nat) (hn : n < 9223372036854775808) :
    Calls Try.prog 33 #[.int .i64 (n : Int), .pointer (some ⟨G, 0, none⟩)] w fun e w' => e = .returned (.bool (L.contains n)) ∧ Below w.heap.size w w' := by
  have hl := hM.look n hn
  clear hM
  generalize L.contains n = r at *
  go_enter Try.func33, Try.ntmps33
  go_wp2_with fail
  go_ret
  exact ⟨rfl, ((Below.refl _ _).alloc (Nat.le_refl _) _)⟩
end Go.Proofs.Ytgpckmolcdafcae

/-
  A STAND and the events that were told of it so far, in memory: what a step makes of them.
-/
namespace Go.Proofs.Ytgpckmolcdafcae
open Go.RowKit Go.Maps

theorem infoEv : (Try.prog.info? 28).map (fun i => (i.zero, i.size, i.bytes)) = some (some (.agg #[.int .i64 0, .int .i64 0, .int .i64 0, .int .i64 0, .int .i64 0, .int .i64 0, .string ⟨#[]⟩, .string ⟨#[]⟩, .int .i64 0, .int .i64 0, .bool false, .slice none 0 0]), 12, 128) := by kernel_rfl

/-- an event's cells, its item without kids -/
def evq (m : EvM) : List Value := evc m (m.item.node : Int) (.slice none 0 0)
theorem evq_len (m : EvM) : (evq m).length = 12 := rfl
def evsq (ms : List EvM) : List Value := ms.flatMap evq
theorem evsq_app (a : List EvM) (m : EvM) : evsq (a ++ [m]) = evsq a ++ evq m := by unfold evsq; simp
theorem evq_one (m : EvM) : ∀ u ∈ evq m, u.oneCell' = true := by
  intro u hu
  unfold evq evc at hu
  simp only [List.mem_cons, List.not_mem_nil, or_false] at hu
  rcases hu with rfl | rfl | rfl | rfl | rfl | rfl | rfl | rfl | rfl | rfl | rfl | rfl <;> rfl

structure Sx where
  x : Ax
  T : List It
  E : Nat
  ve : Value
  ms : List EvM
/-- the blocks that it takes -/
def Sx.foot (s : Sx) (b : Nat) : Prop := s.x.foot b ∨ b = s.E ∨ s.ve.ownBlock = some b
structure SdAt (w : World) (s : Sx) : Prop where
  st : StAt w s.x
  rp : Rp s.x.ar s.x.nm s.T
  nb : ∀ k ∈ nodesL s.T, k < 9223372036854775808
  cE : w.cell? ⟨s.E, 0, none⟩ = some s.ve
  fE : w.frozen? ⟨s.E, 0, none⟩ = false
  own : w.ownsRow 0 28 12 s.ve s.ms.length (evsq s.ms)
  nE : ¬ s.x.foot s.E
  nv : ∀ b, s.ve.ownBlock = some b → ¬ s.x.foot b ∧ b ≠ s.E
  la : s.x.ar.length ≤ 200001 + s.ms.length
theorem SdAt.lt {w : World} {s : Sx} (h : SdAt w s) : ∀ k, s.foot k → k < w.heap.size := fun k hk => by
  rcases hk with hk | rfl | e
  · exact h.st.lt k hk
  · exact lt_of_cell h.cE
  · exact (World.ownsRow.lt h.own k e).2

/-- all blocks that it doesn't take are as they were; what it takes it took, or wasn't there -/
structure Fz (s s' : Sx) (w w' : World) : Prop where
  S : s'.x.S = s.x.S
  E : s'.E = s.E
  os : w'.os = w.os
  tape : w'.tape = w.tape
  output : w'.output = w.output
  size : w.heap.size ≤ w'.heap.size
  block : ∀ k, k < w.heap.size → ¬ s.foot k → w'.heap[k]? = w.heap[k]?
  foot : ∀ k, s'.foot k → s.foot k ∨ w.heap.size ≤ k
theorem Fz.refl (s : Sx) (w : World) : Fz s s w w := ⟨rfl, rfl, rfl, rfl, rfl, Nat.le_refl _, fun _ _ _ => rfl, fun _ h => Or.inl h⟩
theorem Fz.trans {x y z : Sx} {a b c : World} (h : Fz x y a b) (k : Fz y z b c) : Fz x z a c :=
  ⟨k.S.trans h.S, k.E.trans h.E, k.os.trans h.os, k.tape.trans h.tape, k.output.trans h.output, Nat.le_trans h.size k.size,
    fun i hi hn => (k.block i (Nat.lt_of_lt_of_le hi h.size) (fun hf => by rcases h.foot i hf with h1 | h1; exact hn h1; omega)).trans (h.block i hi hn),
    fun i hi => by
      rcases k.foot i hi with h1 | h1
      · exact h.foot i h1
      · exact Or.inr (Nat.le_trans h.size h1)⟩
theorem Fz.below {s : Sx} {w w' : World} (h : Below w.heap.size w w') : Fz s s w w' := ⟨rfl, rfl, h.os, h.tape, h.output, h.size, fun k hk _ => h.block k hk, fun _ h => Or.inl h⟩
theorem Fz.cell {x x' : Sx} {w w' : World} (h : Fz x x' w w') {p : Addr} {v : Value} (hv : w.cell? p = some v) (hp : ¬ x.foot p.block) : w'.cell? p = some v := by
  rw [← hv]
  exact World.cell?_of_block (h.block p.block (lt_of_cell hv) hp)
theorem Fz.frozen {x x' : Sx} {w w' : World} (h : Fz x x' w w') {p : Addr} (hl : p.block < w.heap.size) (hp : ¬ x.foot p.block) : w'.frozen? p = w.frozen? p :=
  World.frozen?_of_block (h.block p.block hl hp)
theorem Fz.to_below {x x' : Sx} {w w' : World} (h : Fz x x' w w') {C : Nat} (hC : C ≤ w.heap.size) (hf : ∀ k, x.foot k → C ≤ k) : Below C w w' :=
  ⟨h.os, h.tape, h.output, h.size, fun k hk => h.block k (by omega) (fun hx => by have := hf k hx; omega)⟩
theorem Fz.rd {x x' : Sx} {w w' : World} (h : Fz x x' w w') {v : Value} {l : List It} (hr : RdI w (fun g => ¬ x.foot g) v l) : RdI w' (fun g => ¬ x'.foot g) v l :=
  hr.frame (fun g hg hlt => ⟨h.block g hlt hg, fun hf => by rcases h.foot g hf with h1 | h1; exact hg h1; omega⟩)
theorem owns_block {w w' : World} {C e k n : Nat} {v : Value} {xs : List Value} (ho : w.ownsRow C e k v n xs) (hb : ∀ b, v.ownBlock = some b → w'.heap[b]? = w.heap[b]?) : w'.ownsRow C e k v n xs := by
  obtain ⟨hl, hz⟩ := ho
  refine ⟨hl, ?_⟩
  rcases hz with h5 | ⟨g, cap, cur, rfl, h3, h6, h7⟩
  · exact Or.inl h5
  · refine Or.inr ⟨g, cap, cur, rfl, h3, ?_, h7⟩
    rw [hb g rfl]
    exact h6
theorem SdAt.same {w w' : World} {s : Sx} (h : SdAt w s) (hb : ∀ k, s.foot k → w'.heap[k]? = w.heap[k]?) : SdAt w' s := by
  have fE := hb s.E (Or.inr (Or.inl rfl))
  refine ⟨h.st.same (fun k hk => hb k (Or.inl hk)), h.rp, h.nb, ?_, ?_, owns_block h.own (fun b e => hb b (Or.inr (Or.inr e))), h.nE, h.nv, h.la⟩
  · rw [← h.cE]; exact World.cell?_of_block fE
  · rw [← h.fE]; exact World.frozen?_of_block fE
theorem SdAt.below {w w' : World} {s : Sx} (h : SdAt w s) (hb : Below w.heap.size w w') : SdAt w' s := h.same (fun k hk => hb.block k (h.lt k hk))
theorem SdAt.drew {w : World} {s : Sx} (h : SdAt w s) : SdAt w.drew s := h.same (fun _ _ => rfl)
theorem row_shape {w : World} {base : Nat} {e : TypeId} {size : Nat} {v : Value} {n : Nat} {xs : List Value} (h : w.ownsRow base e size v n xs) : ∃ a c, v = .slice a n c ∧ n ≤ c ∧ c ≤ 9223372036854775807 := by
  rcases h.2 with ⟨rfl, rfl⟩ | ⟨g', cap, cur, rfl, h3, h6, h7, h8, _⟩
  · exact ⟨_, _, rfl, Nat.le_refl _, by omega⟩
  · exact ⟨_, _, rfl, h7, by unfold maxLen at h8; omega⟩
end Go.Proofs.Ytgpckmolcdafcae

/-
  THE WALK of the function in diff's needless that calls itself.
-/
namespace Go.Proofs.Ytgpckmolcdafcae
open Go.RowKit Go.Maps

/-- not wanted, nor anything in it -/
def badL (L : List Nat) (x : It) : Bool := !(nodes1 x).any (fun n => L.contains n)
theorem any_nodes (f : Nat → Bool) : ∀ l : List It, (nodesL l).any f = l.any (fun z => (nodes1 z).any f)
  | [] => rfl
  | x :: l => by rw [nodesL, List.any_append, List.any_cons, any_nodes f l]
theorem badL_eq (L : List Nat) (x : It) : (L.contains x.node || x.kids.any (fun z => !badL L z)) = !badL L x := by
  unfold badL
  rw [nodes1_eq, List.any_cons, any_nodes]
  simp only [Bool.not_not]
theorem max_take (bad : It → Bool) : ∀ (l : List It) (j : Nat) (h : j < l.length), maxL bad (l.take (j + 1)) = maxL bad (l.take j) ++ max1 bad l[j]
  | [], _, h => by simp at h
  | x :: l, 0, _ => by simp [maxL]
  | x :: l, j + 1, h => by
    rw [List.take_succ_cons, List.take_succ_cons, maxL, maxL, max_take bad l j (by simpa using h), List.getElem_cons_succ, List.append_assoc]
theorem max_len (bad : It → Bool) : (∀ x, (max1 bad x).length ≤ (nodes1 x).length) ∧ ∀ l, (maxL bad l).length ≤ (nodesL l).length := by
  refine It.ind (fun x h => ?_) (by simp [maxL, nodesL]) (fun x xs h1 h2 => ?_)
  · rw [max1_eq, nodes1_eq, List.length_cons]
    split
    · simp
    · omega
  · rw [maxL, nodesL, List.length_append, List.length_append]
    omega
/-- what the function has: a stand, itself, who tells whether one is wanted -/
structure LookCx (w : World) (x : Ax) (A SB WB LB G M c : Nat) (L : List Nat) : Prop where
  st : StAt w x
  cS : w.cell? ⟨SB, 0, none⟩ = some (.pointer (some ⟨x.S, 0, none⟩))
  cW : w.cell? ⟨WB, 0, none⟩ = some (.func (.func 33) #[] #[.pointer (some ⟨G, 0, none⟩)])
  cL : w.cell? ⟨LB, 0, none⟩ = some (.func (.func 56) #[] #[.pointer (some ⟨A, 0, none⟩), .pointer (some ⟨SB, 0, none⟩), .pointer (some ⟨WB, 0, none⟩), .pointer (some ⟨LB, 0, none⟩)])
  cG : w.cell? ⟨G, 0, none⟩ = some (.map (some M))
  kM : KeepAt w M c L
  nA : ¬ x.foot A
  nS : SB ≠ A
  nW : WB ≠ A
  nL : LB ≠ A
  nG : G ≠ A
  nM : M ≠ A
theorem LookCx.but {w w' : World} {x : Ax} {A SB WB LB G M c B : Nat} {L : List Nat} (h : LookCx w x A SB WB LB G M c L) (hb : But B A w w') (hB : w.heap.size ≤ B) : LookCx w' x A SB WB LB G M c L :=
  ⟨h.st.same (fun k hk => hb.block k (by have := h.st.lt k hk; omega) (fun e => h.nA (e ▸ hk))), hb.cell h.cS hB h.nS, hb.cell h.cW hB h.nW, hb.cell h.cL hB h.nL, hb.cell h.cG hB h.nG, h.kM.same (hb.block M (by have := h.kM.lt; omega) h.nM), h.nA, h.nS, h.nW, h.nL, h.nG, h.nM⟩

/-- the row of nodes that was found so far -/
structure Acc (w : World) (A B : Nat) (acc : List Nat) (va : Value) : Prop where
  a : w.cell? ⟨A, 0, none⟩ = some va
  f : w.frozen? ⟨A, 0, none⟩ = false
  own : OwnI w B va acc
theorem Acc.below {w w' : World} {A B : Nat} {acc : List Nat} {va : Value} (h : Acc w A B acc va) (hb : Below w.heap.size w w') : Acc w' A B acc va :=
  ⟨keeps_below hb (Nat.le_refl _) _ _ h.a, (hb.frozen (p := ⟨A, 0, none⟩) (lt_of_cell h.a)).trans h.f, owns_block h.own (fun b e => hb.block b (World.ownsRow.lt h.own b e).2)⟩
theorem ownI_pre {w : World} {B : Nat} {p : Option Addr} {n c : Nat} {l : List Nat} (h : OwnI w B (.slice p n c) l) (k : Nat) (hk : k ≤ l.length) : OwnI w B (.slice p k c) (l.take k) := by
  obtain ⟨h1, h2⟩ := h
  refine ⟨by simp, ?_⟩
  rcases h2 with ⟨e, h3⟩ | ⟨g, cap, cur, e, h3, h4, h5, h6, h7, h8⟩
  · injection e with e1 e2 e3
    subst e1
    have hk0 : k = 0 := by omega
    subst hk0
    rw [e3]
    exact Or.inl ⟨rfl, by simp⟩
  · injection e with e1 e2 e3
    subst e1
    refine Or.inr ⟨g, cap, cur, ?_, h3, h4, ?_, h6, h7, ?_⟩
    · rw [List.length_take, Nat.min_eq_left hk, e3]
    · rw [List.length_take]; omega
    · rw [List.length_take, Nat.min_eq_left hk, List.map_take, ← h8, List.take_take]
      congr 1
      omega

set_option maxHeartbeats 3200000 in
set_option maxRecDepth 100000 in
theorem hlook_any {w0 : World} {x : Ax} {A SB WB LB G M c B : Nat} {L : List Nat} (hB : w0.heap.size = B) (hAB : A < B) (hcx : LookCx w0 x A SB WB LB G M c L) (ix : Nat → Nat) (m : Nat) :
    ∀ (y : It) (acc : List Nat) (va : Value) (w : World), Subs x.ar ix y → (nodes1 y).length ≤ m → (∀ n ∈ nodes1 y, n < 9223372036854775808) → But B A w0 w → Acc w A B acc va → (acc ++ nodes1 y).length ≤ 900000 →
      Calls Try.prog 56 #[.int .i64 (ix y.node : Nat), .pointer (some ⟨A, 0, none⟩), .pointer (some ⟨SB, 0, none⟩), .pointer (some ⟨WB, 0, none⟩), .pointer (some ⟨LB, 0, none⟩)] w fun e w' =>
        e = .returned (.bool (!badL L y)) ∧ But B A w0 w' ∧ ∃ va', Acc w' A B (acc ++ max1 (badL L) y) va' := by
  have HB : Hid (w0.heap.size = B) := hB
  have HCX : Hid (∀ w, But B A w0 w → LookCx w x A SB WB LB G M c L) := fun w hb => hcx.but hb (by omega)
  have HAB : Hid (A < B) := hAB
  clear hB hcx hAB
  induction m with
  | zero => intro y acc va w hs hm; have := nodes_pos y; omega
  | succ m ih =>
    intro y acc va w hs hm hb hbut hacc hsz
    have hcx := HCX.out w hbut
    obtain ⟨up, hsp⟩ := hs.head
    obtain ⟨p, c2, LI⟩ := hcx.st.spot hsp
    have s0 := hcx.st.s0
    have hcap := hcx.st.cap.1
    have hcap2 := hcx.st.cap.2
    have c0 := LI.at_.c0
    simp only [with_node] at c0
    have cS := hcx.cS
    have cA := hacc.a
    obtain ⟨pa, ca, eva, ha1, ha2⟩ := row_shape hacc.own
    rw [eva] at cA
    have hlt := LI.lt
    have hlen : ((topN y.kids).map ix).length = y.kids.length := by simp [topN]
    have HKV : Hid (x.kvs[ix y.node]? = some (.slice p ((topN y.kids).map ix).length c2)) := LI.kv
    have HSP : Hid (x.ar[ix y.node]? = some ⟨y.with [], up, (topN y.kids).map ix⟩) := hsp
    have T : Hid (∀ wr, But B A w0 wr → wr.cell? ⟨x.S, 0, none⟩ = some (.slice (some ⟨x.g, 0, none⟩) x.ar.length x.cap) ∧ wr.cell? ⟨SB, 0, none⟩ = some (.pointer (some ⟨x.S, 0, none⟩)) ∧ wr.cell? ⟨x.g, ix y.node * 10 + 9, none⟩ = some (.slice p y.kids.length c2) ∧ ∀ j (hj : j < y.kids.length), ∃ b o, p = some ⟨b, o, none⟩ ∧ wr.cell? ⟨b, o + j, none⟩ = some (.int .i64 (ix (y.kids[j]).node : Nat))) := by
      intro wr hg
      have hx := HCX.out wr hg
      have L2 := hx.st.again (s := ⟨y.with [], up, (topN y.kids).map ix⟩) HSP.out HKV.out
      have c9 := L2.at_.c9
      rw [hlen] at c9
      refine ⟨hx.st.s0, hx.cS, c9, fun j hj => ?_⟩
      obtain ⟨b, o, e1, e2⟩ := L2.ints j (by simp only [hlen]; exact hj)
      refine ⟨b, o, e1, ?_⟩
      rw [e2]
      simp [topN]
    have hkc : y.kids.length ≤ c2 := by have := LI.le; simp only [hlen] at this; exact this
    have hkm : c2 ≤ 9223372036854775807 := LI.max
    have ey : nodes1 y = y.node :: nodesL y.kids := nodes1_eq y
    have hyb : y.node < 9223372036854775808 := hb _ (by rw [ey]; simp)
    have HNB : Hid (∀ z ∈ y.kids, ∀ n ∈ nodes1 z, n < 9223372036854775808) := fun z hz n hn => hb n (by rw [ey]; exact List.mem_cons_of_mem _ (mem_nodes1L hz hn))
    have HS : Hid (Subs x.ar ix y) := hs
    have HM : Hid ((nodesL y.kids).length ≤ m) := by show _ ≤ _; rw [ey, List.length_cons] at hm; omega
    have HZ : Hid (acc.length + (nodesL y.kids).length + 1 ≤ 900000) := by show _ ≤ _; rw [List.length_append, ey, List.length_cons] at hsz; omega
    have HBUT : Hid (But B A w0 w) := hbut
    have HACC : Hid (Acc w A B acc va) := hacc
    have HBAD : Hid ((L.contains y.node || y.kids.any (fun z => !badL L z)) = !badL L y) := badL_eq L y
    have HMAX : Hid (max1 (badL L) y = if badL L y then [y.node] else maxL (badL L) y.kids) := max1_eq _ y
    have WN : Hid (∀ W, But B A w0 W → W.cell? ⟨WB, 0, none⟩ = some (.func (.func 33) #[] #[.pointer (some ⟨G, 0, none⟩)]) ∧ Calls Try.prog 33 #[.int .i64 (y.node : Int), .pointer (some ⟨G, 0, none⟩)] W fun e w' => e = .returned (.bool (L.contains y.node)) ∧ Below W.heap.size W w') := fun W hW => ⟨(HCX.out W hW).cW, hwanted_any (HCX.out W hW).cG (HCX.out W hW).kM y.node hyb⟩
    clear LI hs hsp hm hb hsz ey hlen hcx hbut hacc
    generalize L.contains y.node = kp at *
    go_enter Try.func56, Try.ntmps56
    go_upto_region 1 with fail
    go_quiet (fail)
    have HBUT2 : Hid (But B A w0 (w.drewN nq)) := HBUT.out.trans (But.of (bel_drewN B w nq) (Nat.le_refl _))
    have HACC2 : Hid (Acc (w.drewN nq) A B acc va) := HACC.out.below (bel_drewN _ _ _)
    clear HACC HBUT s0 c0 cS cA
    generalize w.drewN nq = W at *
    obtain ⟨cW, CW⟩ := WN.out W HBUT2.out
    go_upto_region 3 with (go_at_call 33; refine CW.mono ?_; clear CW; rintro e w5 ⟨rfl, hb5⟩; have HBUT5 : Hid (But B A w0 w5) := HBUT2.out.trans (But.of (hb5.mono (by have := HBUT2.out.size; rw [HB.out] at this; exact this)) (Nat.le_refl _)); have HACC5 : Hid (Acc w5 A B acc va) := HACC2.out.below hb5; clear hb5)
    obtain ⟨s0, cS, c9, _⟩ := T.out w5 HBUT5.out
    clear cW
    go_wp2_with fail
    go_loopw [9, 35] (fun isv iv wr => ∃ (j : Nat) (ib : Bool) (va' : Value), j ≤ y.kids.length ∧ iv = .int .i64 j ∧ isv = .bool ib ∧ Hid (ib = (kp || (y.kids.take j).any (fun z => !badL L z))) ∧ Hid (But B A w0 wr) ∧ Hid (Acc wr A B (acc ++ maxL (badL L) (y.kids.take j)) va')) (fun _ iv _ => y.kids.length - (intOf iv).toNat)
    case atStart => exact ⟨0, kp, va, Nat.zero_le _, rfl, rfl, (by show _ = _; simp), HBUT5, (by show Acc _ _ _ _ _; simpa [maxL] using HACC5.out)⟩
    case round =>
      obtain ⟨j, ib, va', hj, rfl, rfl, HIB, HBr, HAr⟩ := hrel
      by_cases hlt2 : j < y.kids.length
      · obtain ⟨_, _, _, hT⟩ := T.out wr HBr.out
        obtain ⟨b, o, rfl, cj⟩ := hT j hlt2
        have hmem : y.kids[j] ∈ y.kids := List.getElem_mem hlt2
        have cLr := (HCX.out wr HBr.out).cL
        have hlen1 : ((acc ++ maxL (badL L) (y.kids.take j)) ++ nodes1 y.kids[j]).length ≤ 900000 := by
          have h1 := (max_len (badL L)).2 (y.kids.take j)
          have h2 : (nodesL (y.kids.take (j + 1))).length ≤ (nodesL y.kids).length := nodesL_take_le _ _
          rw [List.take_succ_eq_append_getElem hlt2, nodesL_app, List.length_append, nodesL_len1] at h2
          have h3 := HZ.out
          rw [List.length_append, List.length_append]
          omega
        have IC := ih y.kids[j] (acc ++ maxL (badL L) (y.kids.take j)) va' wr (HS.out.kid hmem) (Nat.le_trans (len_mem1 hmem) HM.out) (HNB.out _ hmem) HBr.out HAr.out hlen1
        have E1 : Hid ((kp || (y.kids.take (j + 1)).any (fun z => !badL L z)) = (ib || !badL L y.kids[j])) := by
          show _ = _
          rw [HIB.out, List.take_succ_eq_append_getElem hlt2, List.any_append, Bool.or_assoc]
          simp
        have E2 : Hid (acc ++ maxL (badL L) (y.kids.take (j + 1)) = (acc ++ maxL (badL L) (y.kids.take j)) ++ max1 (badL L) y.kids[j]) := by
          show _ = _
          rw [max_take _ _ _ hlt2, List.append_assoc]
        clear hT hmem hlen1 s0 cS c9
        generalize badL L y.kids[j] = bk at *
        generalize max1 (badL L) y.kids[j] = mk at *
        generalize ix (y.kids[j]).node = kk at *
        cases bk with
        | true =>
          go_wp2_with (go_at_call 56; refine IC.mono ?_; clear IC; rintro e w6 ⟨rfl, t1, va6, t2⟩; have HB6 : Hid (But B A w0 w6) := t1; have HA6 : Hid (Acc w6 A B ((acc ++ maxL (badL L) (y.kids.take j)) ++ mk) va6) := t2; clear t1 t2)
          go_roundw
          case rel => exact ⟨j + 1, ib, va6, by omega, by go_num, rfl, (by show _ = _; rw [E1.out]; simp), HB6, (by show Acc _ _ _ _ _; rw [E2.out]; exact HA6.out)⟩
          case measure => simp [intOf]; omega
        | false =>
          go_wp2_with (go_at_call 56; refine IC.mono ?_; clear IC; rintro e w6 ⟨rfl, t1, va6, t2⟩; have HB6 : Hid (But B A w0 w6) := t1; have HA6 : Hid (Acc w6 A B ((acc ++ maxL (badL L) (y.kids.take j)) ++ mk) va6) := t2; clear t1 t2)
          go_roundw
          case rel => exact ⟨j + 1, true, va6, by omega, by go_num, rfl, (by show _ = _; rw [E1.out]; simp), HB6, (by show Acc _ _ _ _ _; rw [E2.out]; exact HA6.out)⟩
          case measure => simp [intOf]; omega
      · obtain rfl : j = y.kids.length := by omega
        rw [List.take_length] at HIB HAr
        have HR : Hid (ib = !badL L y) := HIB.out.trans HBAD.out
        clear c9 s0 cS
        cases ib with
        | true =>
          have hbf : badL L y = false := by have := HR.out; cases h : badL L y with | false => rfl | true => rw [h] at this; cases this
          have E3 : Hid (max1 (badL L) y = maxL (badL L) y.kids) := by show _ = _; rw [HMAX.out, hbf]; rfl
          clear hbf
          go_wp2_with fail
          go_ret
          exact ⟨by rw [← HR.out]; rfl, HBr.out, va', by rw [E3.out]; exact HAr.out⟩
        | false =>
          have hbf : badL L y = true := by have := HR.out; cases h : badL L y with | true => rfl | false => rw [h] at this; cases this
          have E3 : Hid (max1 (badL L) y = [y.node]) := by show _ = _; rw [HMAX.out, hbf]; rfl
          have hA := HAr.out
          obtain ⟨q, cq, eq, _, _⟩ := row_shape hA.own
          subst eq
          have hca := hA.a
          have hfa := hA.f
          have hO := ownI_pre hA.own acc.length (by rw [List.length_append]; omega)
          rw [List.take_append_of_le_length (Nat.le_refl _), List.take_length] at hO
          have HO : Hid (OwnI wr B (.slice q acc.length cq) acc) := hO
          have hcq : acc.length ≤ cq := by
            obtain ⟨_, c', e, h1, _⟩ := row_shape hO
            injection e with e1 e2 e3
            omega
          have hbw : B ≤ wr.heap.size := by have := HBr.out.size; rw [HB.out] at this; exact this
          have hzz : acc.length ≤ 1000000 := by have := HZ.out; omega
          clear hbf hA hO
          have hAB := HAB.out
          generalize (acc ++ maxL (badL L) y.kids).length = nn at *
          have hnn : acc.length ≤ cq := hcq
          go_wp2_with (at_builtin; refine append_int2 (w0 := wr) rfl _ _ rfl y.node rfl (by simp [Act.eval]) HO.out (Below.refl B wr) hbw hzz ?_; intro v1 w1 o1' n1' gr1 bl1; obtain ⟨pv, cv, rfl⟩ := o1'.shape; have a1 : w1.cell? ⟨A, 0, none⟩ = some (.slice q nn cq) := (n1'.cell (p := ⟨A, 0, none⟩) hAB).trans hca; have f1 : w1.frozen? ⟨A, 0, none⟩ = false := (n1'.frozen (p := ⟨A, 0, none⟩) hAB).trans hfa)
          go_ret
          refine ⟨by rw [← HR.out]; rfl, (HBr.out.trans (But.of n1' (Nat.le_refl _))).set _, _, ⟨World.cell?_setCell_same _ _ _ a1, by simpa using f1, ?_⟩⟩
          rw [E3.out]
          simp only [List.length_append, List.length_singleton] at o1'
          exact OwnI.set o1' hAB _
end Go.Proofs.Ytgpckmolcdafcae

/-
  THE WALKS of diff's stand: isAt; of alike.
-/
namespace Go.Proofs.Ytgpckmolcdafcae
open Go.RowKit Go.Maps

set_option maxHeartbeats 1600000 in
theorem hisAt_any {w : World} {x : Ax} {T : List It} (h : StAt w x) (hT : Rp x.ar x.nm T) {p : Int} (hp : Place T p) (hpl : p < 9223372036854775808) (n i : Nat) :
    Calls Try.prog 50 #[.pointer (some ⟨x.S, 0, none⟩), .int .i64 (n : Int), .int .i64 p, .int .i64 (i : Int)] w fun e w' => e = .returned (.bool (decide ((kidsAt T p)[i]? = some n))) ∧ Below w.heap.size w w' := by
  have C := hplace_any h p hpl
  have hpt : (decide (p < 0) || (x.nm p.toNat).isSome) = true := by
    rcases hp with rfl | ⟨y, hy, rfl⟩
    · rfl
    · have := (hT.inn y.node (node_inL hy)).1
      rw [Int.toNat_natCast, this]
      simp
  rw [hpt] at C
  obtain ⟨sp, hs1, hs2, _⟩ := hT.place hp
  obtain ⟨q, c, L⟩ := h.spot hs1
  have s0 := h.s0
  have hcap := h.cap.1
  have hcap2 := h.cap.2
  have hlt := L.lt
  have c9 := L.at_.c9
  have hlen : sp.kids.length = (kidsAt T p).length := by rw [hs2]; simp
  rw [hlen] at c9
  have hle := L.le
  have hmx := L.max
  rw [hlen] at hle
  have TT : Hid (∀ j (hj : j < (kidsAt T p).length), ∃ b o, q = some ⟨b, o, none⟩ ∧ w.cell? ⟨b, o + j, none⟩ = some (.int .i64 (ixOf x.nm ((kidsAt T p)[j]) : Nat)) ∧ ixOf x.nm ((kidsAt T p)[j]) < x.ar.length ∧ w.cell? ⟨x.g, ixOf x.nm ((kidsAt T p)[j]) * 10, none⟩ = some (.int .i64 ((kidsAt T p)[j] : Int))) := by
    intro j hj
    obtain ⟨b, o, e1, e2⟩ := L.ints j (by rw [hlen]; exact hj)
    have hk := List.getElem_mem hj
    have hin := kids_in hk
    obtain ⟨y, hy, ey⟩ := in_node hin
    have hsp := hT.spot y hy p hp (by rw [ey]; exact hk)
    rw [ey] at hsp
    obtain ⟨p2, c2, L2⟩ := h.spot hsp
    have c0 := L2.at_.c0
    simp only [with_node, ey] at c0
    refine ⟨b, o, e1, ?_, L2.lt, c0⟩
    rw [e2]
    simp [hs2]
  clear L hs1 hs2 hT h hlen hpt hp
  generalize ixP x.nm p = k at *
  generalize kidsAt T p = l at *
  by_cases hlt2 : i < l.length
  · obtain ⟨b, o, rfl, e1, e2, e3⟩ := TT.out i hlt2
    have E : Hid (l[i]? = some l[i]) := List.getElem?_eq_getElem hlt2
    have E2 : Hid (decide (l[i]? = some n) = ((l[i] : Int) == (n : Int))) := by
      show _ = _
      rw [E.out, Bool.eq_iff_iff, beq_iff_eq, decide_eq_true_eq]
      constructor
      · intro h; injection h with h; rw [h]
      · intro h; rw [show l[i] = n by omega]
    rw [E2.out]
    generalize ixOf x.nm (l[i]) = kk at *
    generalize l[i] = a at *
    clear E E2 TT
    go_enter Try.func50, Try.ntmps50
    go_wp2_with (go_at_call 41; refine C.mono ?_; clear C; rintro e w2 ⟨rfl, rfl⟩)
    go_quiet (fail)
    go_wp2_with fail
    go_ret
    exact ⟨rfl, bel_drewN _ _ _⟩
  · have E : Hid (l[i]? = none) := List.getElem?_eq_none (by omega)
    rw [E.out]
    clear TT E
    go_enter Try.func50, Try.ntmps50
    go_wp2_with (go_at_call 41; refine C.mono ?_; clear C; rintro e w2 ⟨rfl, rfl⟩)
    go_ret
    exact ⟨rfl, Below.refl _ _⟩
theorem bytes_same (a b : ByteArray) : (a.toList == b.toList) = decide (a = b) := by
  rw [Bool.eq_iff_iff, beq_iff_eq, ByteArray.toList_eq, ByteArray.toList_eq, decide_eq_true_eq]
  constructor
  · intro h
    exact ByteArray.ext (Array.ext' h)
  · intro h
    rw [h]
/-- two items are told alike, but for what is in them -/
def sameSays (a b : It) : Bool := decide (a.node = b.node) && decide (a.says = b.says)

set_option maxHeartbeats 3200000 in
set_option maxRecDepth 100000 in
theorem halike_any (w : World) (a b : It) (u v : Value) :
    Calls Try.prog 51 #[.agg #[.int .i64 (a.node : Int), .int .i64 a.role, .string a.name, .string a.about, .int .i64 a.level, .int .i64 a.checked, .bool a.off, u], .agg #[.int .i64 (b.node : Int), .int .i64 b.role, .string b.name, .string b.about, .int .i64 b.level, .int .i64 b.checked, .bool b.off, v]] w fun e w' => e = .returned (.bool (sameSays a b)) ∧ Below w.heap.size w w' := by
  have hE : Hid (sameSays a b = (((a.node : Int) == (b.node : Int)) && (a.role == b.role) && (a.name.toList == b.name.toList) && (a.about.toList == b.about.toList) && (a.level == b.level) && (a.checked == b.checked) && (a.off == b.off))) := by
    show _ = _
    have q1 : decide (a.node = b.node) = ((a.node : Int) == (b.node : Int)) := by rw [Bool.eq_iff_iff, decide_eq_true_eq, beq_iff_eq, Int.ofNat_inj]
    have q2 : decide (a.says = b.says) = ((a.role == b.role) && (a.name.toList == b.name.toList) && (a.about.toList == b.about.toList) && (a.level == b.level) && (a.checked == b.checked) && (a.off == b.off)) := by
      rw [bytes_same, bytes_same, Bool.eq_iff_iff, decide_eq_true_eq]
      unfold It.says
      simp only [Prod.mk.injEq, Bool.and_eq_true, decide_eq_true_eq, beq_iff_eq, and_assoc]
    unfold sameSays
    rw [q1, q2]
    simp only [Bool.and_assoc]
  generalize sameSays a b = res at *
  generalize (a.node : Int) = a0 at *
  generalize a.role = a1 at *
  generalize a.name = a2 at *
  generalize a.about = a3 at *
  generalize a.level = a4 at *
  generalize a.checked = a5 at *
  generalize a.off = a6 at *
  generalize (b.node : Int) = b0 at *
  generalize b.role = b1 at *
  generalize b.name = b2 at *
  generalize b.about = b3 at *
  generalize b.level = b4 at *
  generalize b.checked = b5 at *
  generalize b.off = b6 at *
  have BA := box8_new w (.int .i64 a0) (.int .i64 a1) (.string a2) (.string a3) (.int .i64 a4) (.int .i64 a5) (.bool a6) (u) 26
  have W1 : Below w.heap.size w (w.alloc (.cells #[.int .i64 a0, .int .i64 a1, .string a2, .string a3, .int .i64 a4, .int .i64 a5, .bool a6, u] 26)) := (Below.refl _ _).alloc (Nat.le_refl _) _
  have z1 : (w.alloc (.cells #[.int .i64 a0, .int .i64 a1, .string a2, .string a3, .int .i64 a4, .int .i64 a5, .bool a6, u] 26)).heap.size = w.heap.size + 1 := by simp
  go_enter Try.func51, Try.ntmps51
  go_upto_region 1 with fail
  generalize w.alloc (.cells #[.int .i64 a0, .int .i64 a1, .string a2, .string a3, .int .i64 a4, .int .i64 a5, .bool a6, u] 26) = wa at *
  have BB := box8_new wa (.int .i64 b0) (.int .i64 b1) (.string b2) (.string b3) (.int .i64 b4) (.int .i64 b5) (.bool b6) (v) 26
  have B2 : Below wa.heap.size wa (wa.alloc (.cells #[.int .i64 b0, .int .i64 b1, .string b2, .string b3, .int .i64 b4, .int .i64 b5, .bool b6, v] 26)) := (Below.refl _ _).alloc (Nat.le_refl _) _
  have BA2 := BA.keeps (fun i v => keeps_below B2 (Nat.le_refl _) _ _)
  have W2 : Hid (Below w.heap.size w (wa.alloc (.cells #[.int .i64 b0, .int .i64 b1, .string b2, .string b3, .int .i64 b4, .int .i64 b5, .bool b6, v] 26))) := W1.trans (B2.mono W1.size)
  rw [z1] at BB
  clear BA W1 B2
  generalize wa.alloc (.cells #[.int .i64 b0, .int .i64 b1, .string b2, .string b3, .int .i64 b4, .int .i64 b5, .bool b6, v] 26) = W at *
  obtain ⟨x0, x1, x2, x3, x4, x5, x6, x7⟩ := BA2
  obtain ⟨y0, y1, y2, y3, y4, y5, y6, y7⟩ := BB
  generalize w.heap.size + 1 = N1 at *
  clear z1
  cases h0 : (a0 == b0) with
  | false =>
    go_wp2_with fail
    go_ret
    exact ⟨by rw [hE.out, h0]; simp, W2.out⟩
  | true =>
    cases h1 : (a1 == b1) with
    | false =>
      go_wp2_with fail
      go_ret
      exact ⟨by rw [hE.out, h0, h1]; simp, W2.out⟩
    | true =>
      cases h2 : (a2.toList == b2.toList) with
      | false =>
        go_wp2_with fail
        go_ret
        exact ⟨by rw [hE.out, h0, h1, h2]; simp, W2.out⟩
      | true =>
        cases h3 : (a3.toList == b3.toList) with
        | false =>
          go_wp2_with fail
          go_ret
          exact ⟨by rw [hE.out, h0, h1, h2, h3]; simp, W2.out⟩
        | true =>
          cases h4 : (a4 == b4) with
          | false =>
            go_wp2_with fail
            go_ret
            exact ⟨by rw [hE.out, h0, h1, h2, h3, h4]; simp, W2.out⟩
          | true =>
            cases h5 : (a5 == b5) with
            | false =>
              go_wp2_with fail
              go_ret
              exact ⟨by rw [hE.out, h0, h1, h2, h3, h4, h5]; simp, W2.out⟩
            | true =>
              cases h6 : (a6 == b6) with
              | false =>
                go_wp2_with fail
                go_ret
                exact ⟨by rw [hE.out, h0, h1, h2, h3, h4, h5, h6]; simp, W2.out⟩
              | true =>
                go_wp2_with fail
                go_ret
                exact ⟨by rw [hE.out, h0, h1, h2, h3, h4, h5, h6]; rfl, W2.out⟩
end Go.Proofs.Ytgpckmolcdafcae

/-
  THE WALK of the function in diff.steps that tells an event, if it goes.
-/
namespace Go.Proofs.Ytgpckmolcdafcae
open Go.RowKit Go.Maps

/-- what there is when an event has gone -/
theorem SdAt.pushed {w w1 w2 : World} {s : Sx} (h : SdAt w s) {x' : Ax} {T2 : List It} {m : EvM} (h1 : StAt w1 x') (hF : Fw s.x x' w w1) (hT : Rp x'.ar x'.nm T2) (hb : ∀ k ∈ nodesL T2, k < 9223372036854775808) (hl : x'.ar.length ≤ s.x.ar.length + 1)
    {wa : World} (hB : Below w1.heap.size w1 wa) {g cap : Nat} (k1 : w2.ownsRow 0 28 12 (.slice (some ⟨g, 0, none⟩) (s.ms.length + 1) cap) (s.ms.length + 1) (evsq s.ms ++ evq m)) (k2 : wa.grownBy w2 s.ve.ownBlock) (k3 : s.ve.ownBlock = some g ∨ g = wa.heap.size) :
    SdAt (w2.setCell ⟨s.E, 0, none⟩ (.slice (some ⟨g, 0, none⟩) (s.ms.length + 1) cap)) ⟨x', T2, s.E, .slice (some ⟨g, 0, none⟩) (s.ms.length + 1) cap, s.ms ++ [m]⟩ ∧
    Fz s ⟨x', T2, s.E, .slice (some ⟨g, 0, none⟩) (s.ms.length + 1) cap, s.ms ++ [m]⟩ w (w2.setCell ⟨s.E, 0, none⟩ (.slice (some ⟨g, 0, none⟩) (s.ms.length + 1) cap)) := by
  have hlt := h.lt
  have fE : s.E < w.heap.size := hlt _ (Or.inr (Or.inl rfl))
  have nE1 : ¬ x'.foot s.E := fun hf => by rcases hF.foot _ hf with e | e; exact h.nE e; omega
  have zF := hF.size
  have zB := hB.size
  have zG := k2.size
  have gq : g < wa.heap.size ∨ g = wa.heap.size := by
    rcases k3 with e | e
    · exact Or.inl (by have := hlt g (Or.inr (Or.inr e)); omega)
    · exact Or.inr e
  have nvE : s.ve.ownBlock ≠ some s.E := fun e => (h.nv _ e).2 rfl
  have gE : g ≠ s.E := fun e => by
    rcases k3 with e2 | e2
    · exact nvE (by rw [e2, e])
    · omega
  have gx : ¬ x'.foot g := fun hf => by
    rcases k3 with e2 | e2
    · rcases hF.foot _ hf with e | e
      · exact (h.nv g e2).1 e
      · have := hlt g (Or.inr (Or.inr e2)); omega
    · have := h1.lt g hf; omega
  -- a block of x' is untouched since w1
  have xb : ∀ k, x'.foot k → (w2.setCell ⟨s.E, 0, none⟩ (.slice (some ⟨g, 0, none⟩) (s.ms.length + 1) cap)).heap[k]? = w1.heap[k]? := fun k hk => by
    have hkl := h1.lt k hk
    rw [heap_setCell_other _ _ _ _ (fun e => nE1 (by have e : k = s.E := e; rw [← e]; exact hk)), k2.block k (by omega) (fun e => ?_), hB.block k hkl]
    rcases hF.foot _ hk with e2 | e2
    · exact (h.nv k e.symm).1 e2
    · have := hlt k (Or.inr (Or.inr e.symm)); omega
  have cE1 : w1.cell? ⟨s.E, 0, none⟩ = some s.ve := hF.cell h.cE h.nE
  have cE2 : w2.cell? ⟨s.E, 0, none⟩ = some s.ve := by
    refine k2.cell ?_ (fun e => nvE e.symm)
    exact keeps_below hB (Nat.le_refl _) _ _ cE1
  have bE : w2.heap[s.E]? = w.heap[s.E]? := by
    rw [k2.block s.E (by omega) (fun e => nvE e.symm), hB.block s.E (by omega), hF.block s.E fE h.nE]
  refine ⟨⟨h1.same xb, hT, hb, World.cell?_setCell_same _ _ _ cE2, ?_, ?_, nE1, fun b e => ?_, ?_⟩, ⟨hF.S, rfl, ?_, ?_, ?_, ?_, fun k hk hn => ?_, fun k hk => ?_⟩⟩
  · have := h.fE
    rw [← this]
    simp only [World.frozen?_setCell]
    exact World.frozen?_of_block bE
  · simp only [List.length_append, List.length_singleton, evsq_app]
    exact owns_aside k1 _ _ (fun e => gE (by simpa [Value.ownBlock] using e))
  · have e : g = b := by simpa [Value.ownBlock] using e
    exact e ▸ ⟨gx, gE⟩
  · have := h.la
    simp only [List.length_append, List.length_singleton]
    omega
  · exact (k2.os.trans hB.os).trans hF.os
  · exact (k2.tape.trans hB.tape).trans hF.tape
  · exact (k2.output.trans hB.output).trans hF.output
  · have : w.heap.size ≤ w2.heap.size := by omega
    simpa using this
  · rw [heap_setCell_other _ _ _ _ (fun e => hn (Or.inr (Or.inl e))), k2.block k (by omega) (fun e => hn (Or.inr (Or.inr e.symm))), hB.block k (by omega)]
    exact hF.block k hk (fun hf => hn (Or.inl hf))
  · rcases hk with hk | hk | hk
    · rcases hF.foot _ hk with e | e
      · exact Or.inl (Or.inl e)
      · exact Or.inr e
    · exact Or.inl (Or.inr (Or.inl hk))
    · have e : g = k := by simpa [Value.ownBlock] using hk
      subst e
      rcases k3 with e | e
      · exact Or.inl (Or.inr (Or.inr e))
      · exact Or.inr (by omega)

set_option maxHeartbeats 3200000 in
set_option maxRecDepth 100000 in
theorem htell_any {w : World} {s : Sx} (h : SdAt w s) (hms : s.ms.length ≤ 290000) {m : EvM} {T2 : List It} {n : Nat} (hn : m.node = (n : Int)) (hnl : n < 9223372036854775808) (ht : m.tgt < 9223372036854775808) (hk : m.item.kids = []) (hin : m.item.node < 9223372036854775808) (h5 : m.kind ≠ 5) (hok : applyM s.T m = .ok T2) :
    Calls Try.prog 32 #[.agg #[.int .i64 m.kind, .int .i64 (n : Int), .int .i64 m.tgt, .int .i64 m.at_, .int .i64 (m.item.node : Int), .int .i64 m.item.role, .string m.item.name, .string m.item.about, .int .i64 m.item.level, .int .i64 m.item.checked, .bool m.item.off, .slice none 0 0], .pointer (some ⟨s.x.S, 0, none⟩), .pointer (some ⟨s.E, 0, none⟩)] w fun e w' => e = .returned (.tuple #[]) ∧ ∃ s', SdAt w' s' ∧ Fz s s' w w' ∧ s'.T = T2 ∧ s'.ms = s.ms ++ [m] := by
  have hnz : (nodesL s.T).length ≤ 500000 := by have := h.rp.few; have := h.la; omega
  have haz : s.x.ar.length ≤ 500000 := by have := h.la; omega
  have hn1 : (nodes1 m.item).length = 1 := by rw [nodes1_eq, hk]; simp [nodesL]
  have B1 : Below w.heap.size w (w.alloc (.cells #[.int .i64 m.kind, .int .i64 (n : Int), .int .i64 m.tgt, .int .i64 m.at_, .int .i64 (m.item.node : Int), .int .i64 m.item.role, .string m.item.name, .string m.item.about, .int .i64 m.item.level, .int .i64 m.item.checked, .bool m.item.off, .slice none 0 0] 28)) := (Below.refl _ _).alloc (Nat.le_refl _) _
  have BX := box12_new w (.int .i64 m.kind) (.int .i64 (n : Int)) (.int .i64 m.tgt) (.int .i64 m.at_) (.int .i64 (m.item.node : Int)) (.int .i64 m.item.role) (.string m.item.name) (.string m.item.about) (.int .i64 m.item.level) (.int .i64 m.item.checked) (.bool m.item.off) (.slice none 0 0) 28
  have z1 : (w.alloc (.cells #[.int .i64 m.kind, .int .i64 (n : Int), .int .i64 m.tgt, .int .i64 m.at_, .int .i64 (m.item.node : Int), .int .i64 m.item.role, .string m.item.name, .string m.item.about, .int .i64 m.item.level, .int .i64 m.item.checked, .bool m.item.off, .slice none 0 0] 28)).heap.size = w.heap.size + 1 := by simp
  have ok : EvOk (w.alloc (.cells #[.int .i64 m.kind, .int .i64 (n : Int), .int .i64 m.tgt, .int .i64 m.at_, .int .i64 (m.item.node : Int), .int .i64 m.item.role, .string m.item.name, .string m.item.about, .int .i64 m.item.level, .int .i64 m.item.checked, .bool m.item.off, .slice none 0 0] 28)) (fun g => ¬ s.x.foot g) m n (m.item.node : Int) (.slice none 0 0) :=
    ⟨hn, hnl, ht, fun _ => rfl, fun _ => by omega, ⟨none, 0, by rw [hk]; rfl⟩, fun e => absurd e h5, by omega, fun _ => hin⟩
  have HD1 := h.below B1
  have TK : Calls Try.prog 13 #[.pointer (some ⟨s.x.S, 0, none⟩), .agg #[.int .i64 m.kind, .int .i64 m.node, .int .i64 m.tgt, .int .i64 m.at_, .int .i64 (m.item.node : Int), .int .i64 m.item.role, .string m.item.name, .string m.item.about, .int .i64 m.item.level, .int .i64 m.item.checked, .bool m.item.off, .slice none 0 0]] _ _ := htake_any HD1.st h.rp h.nb hnz haz m n (m.item.node : Int) (.slice none 0 0) ok
  rw [hn] at TK
  have HEQ : Hid (evq m = [.int .i64 m.kind, .int .i64 (n : Int), .int .i64 m.tgt, .int .i64 m.at_, .int .i64 (m.item.node : Int), .int .i64 m.item.role, .string m.item.name, .string m.item.about, .int .i64 m.item.level, .int .i64 m.item.checked, .bool m.item.off, .slice none 0 0]) := by
    show _ = _
    unfold evq evc
    rw [hn]
  have HNB : Hid (∀ k ∈ nodesL T2, k < 9223372036854775808) := fun k hk2 => by
    rcases apply_sub hok hk2 with h3 | ⟨h3, h4⟩
    · exact h.nb k h3
    · rw [nodes1_eq, hk] at h4
      rw [show k = m.item.node from by simpa [nodesL] using h4]
      exact hin
  rw [hok] at TK
  obtain ⟨i0', hi0, hz0, hz1, hz2⟩ := info_parts infoEv
  have HD : Hid (SdAt _ s) := HD1
  have HF1 : Hid (Fz s s w _) := Fz.below B1
  have HLT : Hid (∀ k, s.foot k → k < w.heap.size) := h.lt
  have HMS : Hid (s.ms.length ≤ 290000) := hms
  have EQ1 : Hid (∀ u ∈ evq m, u.oneCell' = true) := evq_one m
  have EQL : Hid ((evq m).length = 12) := evq_len m
  have hfE := HD1.fE
  have hcE := HD1.cE
  obtain ⟨pv, cv, hve, hv1, hv2⟩ := row_shape HD1.own
  have HVE : Hid (s.ve = .slice pv s.ms.length cv) := hve
  rw [hve] at hcE
  have HN1 : Hid ((nodes1 m.item).length = 1) := hn1
  have HAR : Hid (0 < s.x.ar.length) := (List.getElem?_eq_some_iff.mp h.rp.root).1
  clear ok h hok hnz haz hk hin h5 ht hnl HD1 B1 hms hve hn1 hn
  generalize m.kind = m0 at *
  generalize m.tgt = m2 at *
  generalize m.at_ = m3 at *
  generalize m.item.node = m4 at *
  generalize m.item.role = m5 at *
  generalize m.item.name = m6 at *
  generalize m.item.about = m7 at *
  generalize m.item.level = m8 at *
  generalize m.item.checked = m9 at *
  generalize m.item.off = m10 at *
  generalize (nodes1 m.item).length = m11 at *
  obtain ⟨b0, b1, b2, b3, b4, b5, b6, b7, b8, b9, b10, b11⟩ := BX
  go_enter Try.func32, Try.ntmps32
  go_upto_region 1 with fail
  generalize w.alloc (.cells #[.int .i64 m0, .int .i64 (n : Int), .int .i64 m2, .int .i64 m3, .int .i64 (m4 : Int), .int .i64 m5, .string m6, .string m7, .int .i64 m8, .int .i64 m9, .bool m10, .slice none 0 0] 28) = W at *
  have Z1 : Hid (W.heap.size = w.heap.size + 1) := z1
  have NF : Hid (¬ s.x.foot w.heap.size) := fun hf => by have := HLT.out _ (Or.inl hf); omega
  clear z1
  go_upto_region 2 with (go_at_call 13; refine TK.mono ?_; clear TK; rintro e w5 ⟨x5, g1, g2, g3, g4⟩; obtain ⟨rfl, g5⟩ := g4; have d0 := g2.cell b0 NF.out; have d1 := g2.cell b1 NF.out; have d2 := g2.cell b2 NF.out; have d3 := g2.cell b3 NF.out; have d4 := g2.cell b4 NF.out; have d5 := g2.cell b5 NF.out; have d6 := g2.cell b6 NF.out; have d7 := g2.cell b7 NF.out; have d8 := g2.cell b8 NF.out; have d9 := g2.cell b9 NF.out; have d10 := g2.cell b10 NF.out; have d11 := g2.cell b11 NF.out; have eE := g2.cell hcE HD.out.nE; have G1 : Hid (StAt w5 x5) := g1; have G2 : Hid (Fw s.x x5 W w5) := g2; have G3 : Hid (x5.ar.length ≤ max (s.x.ar.length + 1) (m11 + 1)) := g3; have G5 : Hid (Rp x5.ar x5.nm T2) := g5; clear b0 b1 b2 b3 b4 b5 b6 b7 b8 b9 b10 b11 hcE g1 g2 g3 g5)
  have OW : Hid (∀ o, (w5.alloc o).ownsRow 0 28 12 (.slice pv s.ms.length cv) s.ms.length (evsq s.ms)) := fun o => by
    have h1 := HD.out.own
    rw [HVE.out] at h1
    exact World.ownsRow.alloc (owns_block h1 (fun b e => G2.out.block b (HD.out.lt b (Or.inr (Or.inr (by rw [HVE.out]; exact e)))) (HD.out.nv b (by rw [HVE.out]; exact e)).1)) o
  have HNW : Hid (∀ (j : Nat) (u : Value), (evq m)[j]? = some u → (w5.alloc (.cells #[.int .i64 m0, .int .i64 (n : Int), .int .i64 m2, .int .i64 m3, .int .i64 (m4 : Int), .int .i64 m5, .string m6, .string m7, .int .i64 m8, .int .i64 m9, .bool m10, .slice none 0 0] 28)).cell? ((⟨w5.heap.size, 0, none⟩ : Addr).add j) = some u) := by
    intro j u hj
    rw [add_at, Nat.zero_add, World.cell?_alloc_new]
    rw [HEQ.out] at hj
    simpa using hj
  have fE5 : w5.frozen? ⟨s.E, 0, none⟩ = false := (World.frozen?_of_block (G2.out.block s.E (HD.out.lt _ (Or.inr (Or.inl rfl))) HD.out.nE)).trans hfE
  have CE : Hid (∀ o w9, (w5.alloc o).grownBy w9 (Value.slice pv s.ms.length cv).ownBlock → w9.cell? ⟨s.E, 0, none⟩ = some (.slice pv s.ms.length cv) ∧ w9.frozen? ⟨s.E, 0, none⟩ = false) := fun o w9 hg => by
    have hn : (Value.slice pv s.ms.length cv).ownBlock ≠ some s.E := fun e => (HD.out.nv s.E (by rw [HVE.out]; exact e)).2 rfl
    have h1 : (w5.alloc o).cell? ⟨s.E, 0, none⟩ = some (.slice pv s.ms.length cv) := keeps_below ((Below.refl _ _).alloc (Nat.le_refl _) _) (Nat.le_refl _) _ _ eE
    refine ⟨hg.cell h1 (fun e => hn e.symm), ?_⟩
    have hl : s.E < w5.heap.size := lt_of_cell eE
    have hb : w9.heap[s.E]? = w5.heap[s.E]? := by rw [hg.block s.E (by simp; omega) (fun e => hn e.symm), heap_alloc_old _ _ hl]
    exact (World.frozen?_of_block (a := ⟨s.E, 0, none⟩) hb).trans fE5
  have B5 : Hid (∀ o, Below w5.heap.size w5 (w5.alloc o)) := fun o => (Below.refl _ _).alloc (Nat.le_refl _) _
  clear hfE fE5
  go_wp2_with (at_builtin; go_must (refine wpList_append_lies _ rfl _ _ 23 rfl 0 28 i0' _ 12 128 Try.underlying23 hi0 hz0 hz1 hz2 rfl (by decide) (.slice pv s.ms.length cv) s.ms.length (evsq s.ms) rfl (OW.out _) ⟨w5.heap.size, 0, none⟩ 1 1 (evq m) rfl (by rw [EQL.out]) HNW.out EQ1.out (by decide) (by have := HMS.out; unfold maxLen; omega) (by have := HMS.out; omega) (Nat.zero_le _) _ rfl ?_); intro g9 cap9 w9 k1 k2 k3 k4; obtain ⟨c9, f9⟩ := CE.out _ w9 k2; have K1 := (show Hid _ from k1); have K2 := (show Hid _ from k2); have K3 := (show Hid _ from k3); clear k1 k2 k3 k4)
  go_end0
  have hpush := HD.out.pushed G1.out G2.out G5.out HNB.out (by have h1 := G3.out; rw [HN1.out] at h1; have := HAR.out; omega) (m := m) (B5.out _) K1.out (by rw [HVE.out]; exact K2.out) (by rw [HVE.out]; exact K3.out)
  exact ⟨rfl, _, hpush.1, HF1.out.trans hpush.2, rfl, rfl⟩
end Go.Proofs.Ytgpckmolcdafcae

/-
  THE WALKS of diff.bring, and of the function in steps that calls it.
-/
namespace Go.Proofs.Ytgpckmolcdafcae
open Go.RowKit Go.Maps

/-- the function that tells an event -/
def tellF (s : Sx) : Value := .func (.func 32) #[] #[.pointer (some ⟨s.x.S, 0, none⟩), .pointer (some ⟨s.E, 0, none⟩)]

theorem run_one {T T2 : List It} {m : EvM} (h : runM 0 T [m] = .ok T2) : applyM T m = .ok T2 := by
  rw [runM] at h
  cases e : applyM T m with
  | error c => rw [e] at h; cases h
  | ok T3 =>
    rw [e] at h
    have h2 : runM (0 + 1) T3 [] = .ok T2 := h
    rw [runM] at h2
    injection h2 with h2
    rw [h2]

set_option maxHeartbeats 3200000 in
set_option maxRecDepth 100000 in
theorem hbring_any {w : World} {s : Sx} (h : SdAt w s) (hms : s.ms.length ≤ 289000) {y : It} {p : Int} {i : Nat} (hp : Place s.T p) (hpl : p < 9223372036854775808) (hyn : y.node < 9223372036854775808) (hok : runM 0 s.T (evBring s.T y p i) = .ok (bring s.T y p i)) (pk : Option Addr) (n c : Nat) :
    Calls Try.prog 37 #[.pointer (some ⟨s.x.S, 0, none⟩), .agg #[.int .i64 (y.node : Int), .int .i64 y.role, .string y.name, .string y.about, .int .i64 y.level, .int .i64 y.checked, .bool y.off, .slice pk n c], .int .i64 p, .int .i64 (i : Int), tellF s] w fun e w' => e = .returned (.tuple #[]) ∧ ∃ s', SdAt w' s' ∧ Fz s s' w w' ∧ s'.T = bring s.T y p i ∧ s'.ms = s.ms ++ evBring s.T y p i := by
  have B1 : Below w.heap.size w (w.alloc (.cells #[.int .i64 (y.node : Int), .int .i64 y.role, .string y.name, .string y.about, .int .i64 y.level, .int .i64 y.checked, .bool y.off, .slice pk n c] 26)) := (Below.refl _ _).alloc (Nat.le_refl _) _
  have BX := box8_new w (.int .i64 (y.node : Int)) (.int .i64 y.role) (.string y.name) (.string y.about) (.int .i64 y.level) (.int .i64 y.checked) (.bool y.off) (.slice pk n c) 26
  have HD := h.below B1
  have s1 := HD.st.s1
  have hnl := HD.drew.st.map.look y.node hyn
  have hth := HD.rp.there y.node
  have hlp : Hid (p < 9223372036854775808) := hpl
  have hly : Hid (y.node < 9223372036854775808) := hyn
  have HF : Hid (Fz s s w _) := Fz.below B1
  have HMS : Hid (s.ms.length ≤ 290000) := Nat.le_trans hms (by omega)
  have HH : Hid (SdAt _ s) := HD
  have HP : Hid (Place s.T p) := hp
  have HLT : Hid (∀ k, s.foot k → k < w.heap.size) := h.lt
  rw [hth] at hnl
  unfold tellF
  rcases find_item (T := s.T) (n := y.node) with ⟨x, hf, hx, e⟩ | ⟨hf, hno⟩
  · have hin : (nodesL s.T).contains y.node = true := by rw [← e]; simpa using node_inL hx
    rw [hin] at hnl
    have IA := fun W (hW : SdAt W s) => hisAt_any hW.st hW.rp hp hpl y.node i
    by_cases hat : (kidsAt s.T p)[i]? = some y.node
    · have E1 : Hid (evBring s.T y p i = []) := by show _ = _; unfold evBring; rw [hf]; simp only; rw [if_pos hat]
      have E2 : Hid (bring s.T y p i = s.T) := by
        show _ = _
        unfold bring
        rw [hf]
        simp only
        rw [if_pos hat]
      rw [E1.out, E2.out]
      have IB : Hid (∀ W, SdAt W s → Calls Try.prog 50 #[.pointer (some ⟨s.x.S, 0, none⟩), .int .i64 (y.node : Int), .int .i64 p, .int .i64 (i : Int)] W fun e w' => e = .returned (.bool true) ∧ Below W.heap.size W w') := fun W hW => by
        have := IA W hW
        rw [decide_eq_true hat] at this
        exact this
      clear HD h hok hf hin hms hp hpl hyn E1 hth IA hat E2 hx e
      generalize y.role = y1 at *
      generalize y.name = y2 at *
      generalize y.about = y3 at *
      generalize y.level = y4 at *
      generalize y.checked = y5 at *
      generalize y.off = y6 at *
      generalize y.node = y0 at *
      go_enter Try.func37, Try.ntmps37
      go_upto_region 1 with fail
      generalize w.alloc (.cells #[.int .i64 (y0 : Int), .int .i64 y1, .string y2, .string y3, .int .i64 y4, .int .i64 y5, .bool y6, .slice pk n c] 26) = W at *
      obtain ⟨b0, b1, b2, b3, b4, b5, b6, b7⟩ := BX
      have SS : ∀ w'', Keeps W w'' → (fun w'' : World => w''.cell? ⟨s.x.S, 1, none⟩ = some (.map (some s.x.M)) ∧ w''.cell? ⟨w.heap.size, 0, none⟩ = some (.int .i64 y0)) w'' := fun w'' hk => ⟨hk _ _ s1, hk _ _ b0⟩
      go_region_held3 (fun w'' : World => w''.cell? ⟨s.x.S, 1, none⟩ = some (.map (some s.x.M)) ∧ w''.cell? ⟨w.heap.size, 0, none⟩ = some (.int .i64 y0))
        ((first | assumption | (apply SS; repeat (first | exact Keeps.refl _ | apply keeps_drew | apply keeps_alloc'))))
        (fail)
      have HD2 : Hid (SdAt W.drew s) := HH.out.drew
      have HF2 : Hid (Fz s s w W.drew) := HF.out.trans (Fz.below (bel_drewN _ W 1))
      go_wp2_with (go_at_call 50; refine (IB.out _ HD2.out).mono ?_; rintro e w6 ⟨rfl, hb6⟩; have HD6 : Hid (SdAt w6 s) := HD2.out.below hb6; have HF6 : Hid (Fz s s w w6) := HF2.out.trans (Fz.below hb6); clear hb6)
      go_end0
      exact ⟨rfl, s, HD6.out, HF6.out, rfl, by simp⟩
    · have E1 : Hid (evBring s.T y p i = [evMove y p i]) := by show _ = _; unfold evBring; rw [hf]; simp only; rw [if_neg hat]
      have IB : Hid (∀ W, SdAt W s → Calls Try.prog 50 #[.pointer (some ⟨s.x.S, 0, none⟩), .int .i64 (y.node : Int), .int .i64 p, .int .i64 (i : Int)] W fun e w' => e = .returned (.bool false) ∧ Below W.heap.size W w') := fun W hW => by
        have := IA W hW
        rw [decide_eq_false hat] at this
        exact this
      have TL : Hid (∀ W', SdAt W' s → Calls Try.prog 32 #[.agg #[.int .i64 3, .int .i64 (y.node : Int), .int .i64 p, .int .i64 (i : Int), .int .i64 0, .int .i64 0, .string ⟨#[]⟩, .string ⟨#[]⟩, .int .i64 0, .int .i64 0, .bool false, .slice none 0 0], .pointer (some ⟨s.x.S, 0, none⟩), .pointer (some ⟨s.E, 0, none⟩)] W' fun e w' => e = .returned (.tuple #[]) ∧ ∃ s', SdAt w' s' ∧ Fz s s' W' w' ∧ s'.T = bring s.T y p i ∧ s'.ms = s.ms ++ [evMove y p i]) := fun W' hW' =>
        htell_any hW' HMS.out (m := evMove y p i) (T2 := bring s.T y p i) (n := y.node) rfl hyn hpl rfl (by show (0 : Nat) < _; omega) (by show (3 : Int) ≠ 5; decide) (run_one (by rw [E1.out] at hok; exact hok))
      rw [E1.out]
      clear HD h hok hf hin hms hp hpl hyn E1 hth IA hat hx e
      generalize evMove y p i = mE at *
      generalize bring s.T y p i = T2 at *
      generalize y.role = y1 at *
      generalize y.name = y2 at *
      generalize y.about = y3 at *
      generalize y.level = y4 at *
      generalize y.checked = y5 at *
      generalize y.off = y6 at *
      generalize y.node = y0 at *
      go_enter Try.func37, Try.ntmps37
      go_upto_region 1 with fail
      generalize w.alloc (.cells #[.int .i64 (y0 : Int), .int .i64 y1, .string y2, .string y3, .int .i64 y4, .int .i64 y5, .bool y6, .slice pk n c] 26) = W at *
      obtain ⟨b0, b1, b2, b3, b4, b5, b6, b7⟩ := BX
      have SS : ∀ w'', Keeps W w'' → (fun w'' : World => w''.cell? ⟨s.x.S, 1, none⟩ = some (.map (some s.x.M)) ∧ w''.cell? ⟨w.heap.size, 0, none⟩ = some (.int .i64 y0)) w'' := fun w'' hk => ⟨hk _ _ s1, hk _ _ b0⟩
      go_region_held3 (fun w'' : World => w''.cell? ⟨s.x.S, 1, none⟩ = some (.map (some s.x.M)) ∧ w''.cell? ⟨w.heap.size, 0, none⟩ = some (.int .i64 y0))
        ((first | assumption | (apply SS; repeat (first | exact Keeps.refl _ | apply keeps_drew | apply keeps_alloc'))))
        (fail)
      have HD2 : Hid (SdAt W.drew s) := HH.out.drew
      have HF2 : Hid (Fz s s w W.drew) := HF.out.trans (Fz.below (bel_drewN _ W 1))
      go_wp2_with (first
        | (go_at_call 50; refine (IB.out _ HD2.out).mono ?_; rintro e w6 ⟨rfl, hb6⟩; have HD6 : Hid (SdAt w6 s) := HD2.out.below hb6; have HF6 : Hid (Fz s s w w6) := HF2.out.trans (Fz.below hb6); have d0 : w6.cell? ⟨w.heap.size, 0, none⟩ = some (.int .i64 (y0 : Int)) := keeps_below hb6 (Nat.le_refl _) _ _ b0; clear hb6)
        | (go_at_call 32; refine (TL.out _ HD6.out).mono ?_; rintro e w7 ⟨rfl, s7, t1, t2, t3, t4⟩; have R7 : Hid (∃ s', SdAt w7 s' ∧ Fz s s' w w7 ∧ s'.T = T2 ∧ s'.ms = s.ms ++ [mE]) := ⟨s7, t1, HF6.out.trans t2, t3, t4⟩; clear t1 t2 t3 t4))
      go_end0
      exact ⟨rfl, R7.out⟩
  · have hin : (nodesL s.T).contains y.node = false := by simpa using hno
    rw [hin] at hnl
    have E1 : Hid (evBring s.T y p i = [evAdd y p i]) := by show _ = _; unfold evBring; rw [hf]
    have TL : Hid (∀ W', SdAt W' s → Calls Try.prog 32 #[.agg #[.int .i64 2, .int .i64 0, .int .i64 p, .int .i64 (i : Int), .int .i64 (y.node : Int), .int .i64 y.role, .string y.name, .string y.about, .int .i64 y.level, .int .i64 y.checked, .bool y.off, .slice none 0 0], .pointer (some ⟨s.x.S, 0, none⟩), .pointer (some ⟨s.E, 0, none⟩)] W' fun e w' => e = .returned (.tuple #[]) ∧ ∃ s', SdAt w' s' ∧ Fz s s' W' w' ∧ s'.T = bring s.T y p i ∧ s'.ms = s.ms ++ [evAdd y p i]) := fun W' hW' => by
      have := htell_any hW' HMS.out (m := evAdd y p i) (T2 := bring s.T y p i) (n := 0) rfl (by omega) hpl (with_kids _ _) (by show (y.with []).node < _; rw [with_node]; exact hyn) (by show (2 : Int) ≠ 5; decide) (run_one (by rw [E1.out] at hok; exact hok))
      simp only [evAdd, with_node, with_role, with_name, with_about, with_level, with_checked, with_off] at this
      exact this
    rw [E1.out]
    clear HD h hok hf hno hin hms hp hpl hyn E1 hth
    generalize bring s.T y p i = T2 at *
    generalize evAdd y p i = mE at *
    generalize y.role = y1 at *
    generalize y.name = y2 at *
    generalize y.about = y3 at *
    generalize y.level = y4 at *
    generalize y.checked = y5 at *
    generalize y.off = y6 at *
    generalize y.node = y0 at *
    go_enter Try.func37, Try.ntmps37
    go_upto_region 1 with fail
    generalize w.alloc (.cells #[.int .i64 (y0 : Int), .int .i64 y1, .string y2, .string y3, .int .i64 y4, .int .i64 y5, .bool y6, .slice pk n c] 26) = W at *
    obtain ⟨b0, b1, b2, b3, b4, b5, b6, b7⟩ := BX
    have SS : ∀ w'', Keeps W w'' → (fun w'' : World => w''.cell? ⟨s.x.S, 1, none⟩ = some (.map (some s.x.M)) ∧ w''.cell? ⟨w.heap.size, 0, none⟩ = some (.int .i64 y0)) w'' := fun w'' hk => ⟨hk _ _ s1, hk _ _ b0⟩
    go_region_held3 (fun w'' : World => w''.cell? ⟨s.x.S, 1, none⟩ = some (.map (some s.x.M)) ∧ w''.cell? ⟨w.heap.size, 0, none⟩ = some (.int .i64 y0))
      ((first | assumption | (apply SS; repeat (first | exact Keeps.refl _ | apply keeps_drew | apply keeps_alloc'))))
      (fail)
    have HD2 : Hid (SdAt W.drew s) := HH.out.drew
    have HF2 : Hid (Fz s s w W.drew) := HF.out.trans (Fz.below (bel_drewN _ W 1))
    go_wp2_with (first
      | (go_at_call 46; refine (halone_any _ (y0 : Int) y1 y4 y5 y2 y3 y6 pk n c).mono ?_; rintro e w6 ⟨rfl, hb6⟩; have HD6 : Hid (SdAt w6 s) := HD2.out.below hb6; have HF6 : Hid (Fz s s w w6) := HF2.out.trans (Fz.below hb6); clear hb6)
      | (go_at_call 32; refine (TL.out _ HD6.out).mono ?_; rintro e w7 ⟨rfl, s7, t1, t2, t3, t4⟩; have R7 : Hid (∃ s', SdAt w7 s' ∧ Fz s s' w w7 ∧ s'.T = T2 ∧ s'.ms = s.ms ++ [mE]) := ⟨s7, t1, HF6.out.trans t2, t3, t4⟩; clear t1 t2 t3 t4))
    go_end0
    exact ⟨rfl, R7.out⟩
end Go.Proofs.Ytgpckmolcdafcae

/-
  THE WALK of diff.correct. (Laid by mkhco.py.)
-/
namespace Go.Proofs.Ytgpckmolcdafcae
open Go.RowKit Go.Maps

/-- the event that tells one otherwise, if there is need; what comes of it -/
def tellEv (T : List It) (y : It) : List EvM := if saysAt T y.node ≠ some y.says then [evTell y] else []
def tellT (T : List It) (y : It) : List It := if saysAt T y.node ≠ some y.says then telL y.node (y.with []) T else T

set_option maxHeartbeats 3200000 in
set_option maxRecDepth 100000 in
theorem hcorrect_any {w : World} {s : Sx} (h : SdAt w s) (hms : s.ms.length ≤ 289000) {y : It} (hyn : y.node < 9223372036854775808) (hin : y.node ∈ nodesL s.T) (pk : Option Addr) (n c : Nat) :
    Calls Try.prog 39 #[.pointer (some ⟨s.x.S, 0, none⟩), .agg #[.int .i64 (y.node : Int), .int .i64 y.role, .string y.name, .string y.about, .int .i64 y.level, .int .i64 y.checked, .bool y.off, .slice pk n c], tellF s] w fun e w' => e = .returned (.tuple #[]) ∧ ∃ s', SdAt w' s' ∧ Fz s s' w w' ∧ s'.T = tellT s.T y ∧ s'.ms = s.ms ++ tellEv s.T y := by
  have B1 : Below w.heap.size w (w.alloc (.cells #[.int .i64 (y.node : Int), .int .i64 y.role, .string y.name, .string y.about, .int .i64 y.level, .int .i64 y.checked, .bool y.off, .slice pk n c] 26)) := (Below.refl _ _).alloc (Nat.le_refl _) _
  have BX := box8_new w (.int .i64 (y.node : Int)) (.int .i64 y.role) (.string y.name) (.string y.about) (.int .i64 y.level) (.int .i64 y.checked) (.bool y.off) (.slice pk n c) 26
  have HD := h.below B1
  have s1 := HD.st.s1
  have hnl := HD.drew.st.map.look y.node hyn
  have hth := HD.rp.there y.node
  have HF : Hid (Fz s s w _) := Fz.below B1
  have HMS : Hid (s.ms.length ≤ 290000) := Nat.le_trans hms (by omega)
  have HH : Hid (SdAt _ s) := HD
  have HLT : Hid (∀ k, s.foot k → k < w.heap.size) := h.lt
  rw [hth, show (nodesL s.T).contains y.node = true by simpa using hin] at hnl
  obtain ⟨x, hx, e⟩ := in_node hin
  obtain ⟨q, hq, hk⟩ := in_place HD.rp.un (node_inL hx)
  have hsp := HD.rp.spot x hx q hq hk
  rw [e] at hsp
  have hsa := says_at HD.rp.un hx
  rw [e] at hsa
  obtain ⟨p2, c2, L⟩ := HD.st.spot hsp
  have hlt := L.lt
  have l0 := L.at_.c0
  have l1 := L.at_.c1
  have l2 := L.at_.c2
  have l3 := L.at_.c3
  have l4 := L.at_.c4
  have l5 := L.at_.c5
  have l6 := L.at_.c6
  have l7 := L.at_.c7
  simp only [with_node, with_role, with_name, with_about, with_level, with_checked, with_off] at l0 l1 l2 l3 l4 l5 l6
  have s0 := HD.st.s0
  have hcap := HD.st.cap.1
  have hcap2 := HD.st.cap.2
  have hss : sameSays x y = decide (x.says = y.says) := by unfold sameSays; rw [e]; simp
  have AL : Hid (∀ W, Calls Try.prog 51 #[.agg #[.int .i64 (x.node : Int), .int .i64 x.role, .string x.name, .string x.about, .int .i64 x.level, .int .i64 x.checked, .bool x.off, .slice none 0 0], .agg #[.int .i64 (y.node : Int), .int .i64 y.role, .string y.name, .string y.about, .int .i64 y.level, .int .i64 y.checked, .bool y.off, .slice pk n c]] W fun e w' => e = .returned (.bool (sameSays x y)) ∧ Below W.heap.size W w') := fun W => halike_any W x y _ _
  have TL : Hid (∀ W', SdAt W' s → Calls Try.prog 32 #[.agg #[.int .i64 4, .int .i64 (y.node : Int), .int .i64 0, .int .i64 0, .int .i64 (y.node : Int), .int .i64 y.role, .string y.name, .string y.about, .int .i64 y.level, .int .i64 y.checked, .bool y.off, .slice none 0 0], .pointer (some ⟨s.x.S, 0, none⟩), .pointer (some ⟨s.E, 0, none⟩)] W' fun e w' => e = .returned (.tuple #[]) ∧ ∃ s', SdAt w' s' ∧ Fz s s' W' w' ∧ s'.T = telL y.node (y.with []) s.T ∧ s'.ms = s.ms ++ [evTell y]) := fun W' hW' => by
    have := htell_any hW' HMS.out (m := evTell y) (T2 := telL y.node (y.with []) s.T) (n := y.node) rfl hyn (by show (0 : Int) < _; omega) (with_kids _ _) (by show (y.with []).node < _; rw [with_node]; exact hyn) (by show (4 : Int) ≠ 5; decide) (apply_tell hin)
    simp only [evTell, with_node, with_role, with_name, with_about, with_level, with_checked, with_off] at this
    exact this
  have HSS : Hid (sameSays x y = true → tellT s.T y = s.T ∧ tellEv s.T y = []) := fun h1 => by
    rw [hss, decide_eq_true_eq] at h1
    unfold tellT tellEv
    rw [hsa, h1, if_neg (by simp), if_neg (by simp)]
    exact ⟨rfl, rfl⟩
  have HSN : Hid (sameSays x y = false → tellT s.T y = telL y.node (y.with []) s.T ∧ tellEv s.T y = [evTell y]) := fun h1 => by
    rw [hss, decide_eq_false_iff_not] at h1
    unfold tellT tellEv
    rw [hsa, if_pos (by simpa using h1), if_pos (by simpa using h1)]
    exact ⟨rfl, rfl⟩
  unfold tellF
  clear HD h hin hms hyn hth L hsp hsa hss hk hq hx e
  generalize tellT s.T y = T3 at *
  generalize tellEv s.T y = ms3 at *
  generalize telL y.node (y.with []) s.T = T2 at *
  generalize evTell y = mE at *
  generalize sameSays x y = sm at *
  generalize x.role = x1 at *
  generalize x.name = x2 at *
  generalize x.about = x3 at *
  generalize x.level = x4 at *
  generalize x.checked = x5 at *
  generalize x.off = x6 at *
  generalize x.node = x0 at *
  generalize ixOf s.x.nm y.node = k at *
  generalize y.role = y1 at *
  generalize y.name = y2 at *
  generalize y.about = y3 at *
  generalize y.level = y4 at *
  generalize y.checked = y5 at *
  generalize y.off = y6 at *
  generalize y.node = y0 at *
  go_enter Try.func39, Try.ntmps39
  go_upto_region 1 with fail
  generalize w.alloc (.cells #[.int .i64 (y0 : Int), .int .i64 y1, .string y2, .string y3, .int .i64 y4, .int .i64 y5, .bool y6, .slice pk n c] 26) = W at *
  have NF : Hid (¬ s.foot w.heap.size) := fun hf => by have := HLT.out _ hf; omega
  generalize w.heap.size = N at *
  have SS : ∀ w'', Keeps W w'' → (fun w'' : World => w''.cell? ⟨s.x.S, 1, none⟩ = some (.map (some s.x.M)) ∧ w''.cell? ⟨N, 0, none⟩ = some (.int .i64 (y0 : Int))) w'' := fun w'' hk => ⟨hk _ _ s1, hk _ _ BX.1⟩
  go_region_held3 (fun w'' : World => w''.cell? ⟨s.x.S, 1, none⟩ = some (.map (some s.x.M)) ∧ w''.cell? ⟨N, 0, none⟩ = some (.int .i64 (y0 : Int)))
    ((first | assumption | (apply SS; repeat (first | exact Keeps.refl _ | apply keeps_drew | apply keeps_alloc'))))
    (fail)
  have HD2 : Hid (SdAt W.drew s) := HH.out.drew
  have HF2 : Hid (Fz s s w W.drew) := HF.out.trans (Fz.below (bel_drewN _ W 1))
  clear SS hnl
  have SS : ∀ w'', Keeps W w'' → (fun w'' : World => w''.cell? ⟨s.x.S, 0, none⟩ = some (.slice (some ⟨s.x.g, 0, none⟩) s.x.ar.length s.x.cap) ∧ w''.cell? ⟨s.x.g, k * 10, none⟩ = some (.int .i64 (x0 : Int)) ∧ w''.cell? ⟨s.x.g, k * 10 + 1, none⟩ = some (.int .i64 x1) ∧ w''.cell? ⟨s.x.g, k * 10 + 2, none⟩ = some (.string x2) ∧ w''.cell? ⟨s.x.g, k * 10 + 3, none⟩ = some (.string x3) ∧ w''.cell? ⟨s.x.g, k * 10 + 4, none⟩ = some (.int .i64 x4) ∧ w''.cell? ⟨s.x.g, k * 10 + 5, none⟩ = some (.int .i64 x5) ∧ w''.cell? ⟨s.x.g, k * 10 + 6, none⟩ = some (.bool x6) ∧ w''.cell? ⟨s.x.g, k * 10 + 7, none⟩ = some (.slice none 0 0) ∧ w''.cell? ⟨N, 0, none⟩ = some (.int .i64 (y0 : Int)) ∧ w''.cell? ⟨N, 1, none⟩ = some (.int .i64 y1) ∧ w''.cell? ⟨N, 2, none⟩ = some (.string y2) ∧ w''.cell? ⟨N, 3, none⟩ = some (.string y3) ∧ w''.cell? ⟨N, 4, none⟩ = some (.int .i64 y4) ∧ w''.cell? ⟨N, 5, none⟩ = some (.int .i64 y5) ∧ w''.cell? ⟨N, 6, none⟩ = some (.bool y6) ∧ w''.cell? ⟨N, 7, none⟩ = some (.slice pk n c)) w'' := fun w'' hk => ⟨hk _ _ s0, hk _ _ l0, hk _ _ l1, hk _ _ l2, hk _ _ l3, hk _ _ l4, hk _ _ l5, hk _ _ l6, hk _ _ l7, Box8.keeps BX (fun i v hv => hk _ _ hv)⟩
  go_upto_region 2 with fail
  go_region_held3 (fun w'' : World => w''.cell? ⟨s.x.S, 0, none⟩ = some (.slice (some ⟨s.x.g, 0, none⟩) s.x.ar.length s.x.cap) ∧ w''.cell? ⟨s.x.g, k * 10, none⟩ = some (.int .i64 (x0 : Int)) ∧ w''.cell? ⟨s.x.g, k * 10 + 1, none⟩ = some (.int .i64 x1) ∧ w''.cell? ⟨s.x.g, k * 10 + 2, none⟩ = some (.string x2) ∧ w''.cell? ⟨s.x.g, k * 10 + 3, none⟩ = some (.string x3) ∧ w''.cell? ⟨s.x.g, k * 10 + 4, none⟩ = some (.int .i64 x4) ∧ w''.cell? ⟨s.x.g, k * 10 + 5, none⟩ = some (.int .i64 x5) ∧ w''.cell? ⟨s.x.g, k * 10 + 6, none⟩ = some (.bool x6) ∧ w''.cell? ⟨s.x.g, k * 10 + 7, none⟩ = some (.slice none 0 0) ∧ w''.cell? ⟨N, 0, none⟩ = some (.int .i64 (y0 : Int)) ∧ w''.cell? ⟨N, 1, none⟩ = some (.int .i64 y1) ∧ w''.cell? ⟨N, 2, none⟩ = some (.string y2) ∧ w''.cell? ⟨N, 3, none⟩ = some (.string y3) ∧ w''.cell? ⟨N, 4, none⟩ = some (.int .i64 y4) ∧ w''.cell? ⟨N, 5, none⟩ = some (.int .i64 y5) ∧ w''.cell? ⟨N, 6, none⟩ = some (.bool y6) ∧ w''.cell? ⟨N, 7, none⟩ = some (.slice pk n c))
    ((first | assumption | (apply SS; repeat (first | exact Keeps.refl _ | apply keeps_drew | apply keeps_alloc'))))
    (first | (go_at_call 51; refine (AL.out _).mono ?_; rintro e w6 ⟨rfl, hb6⟩; have K6 : Keeps W w6 := (fun a v hv => keeps_below hb6 (Nat.le_refl _) _ _ (keeps_drew (keeps_drew (Keeps.refl _)) _ _ hv)); have A6 := SS w6 K6; have HD6 : Hid (SdAt w6 s) := HD2.out.drew.below hb6; have HF6 : Hid (Fz s s w w6) := (HF2.out.trans (Fz.below (bel_drewN _ W.drew 1))).trans (Fz.below hb6); clear hb6))
  clear SS BX s0 s1 l0 l1 l2 l3 l4 l5 l6 l7 K6
  obtain ⟨_, _, _, _, _, _, _, _, _, B6⟩ := A6
  have HB6 : Hid (Box8 N (.int .i64 (y0 : Int)) (.int .i64 y1) (.string y2) (.string y3) (.int .i64 y4) (.int .i64 y5) (.bool y6) (.slice pk n c) w6) := B6
  clear B6
  cases sm with
  | true =>
    have R1 : Hid (T3 = s.T ∧ ms3 = []) := HSS.out rfl
    clear HSN TL AL HSS
    go_wp2_with fail
    go_end0
    exact ⟨rfl, s, HD6.out, HF6.out, R1.out.1.symm, by rw [R1.out.2]; simp⟩
  | false =>
    have R1 : Hid (T3 = T2 ∧ ms3 = [mE]) := HSN.out rfl
    clear HSS HSN AL
    have SS : ∀ w'', Keeps w6 w'' → (fun w'' : World => w''.cell? ⟨N, 0, none⟩ = some (.int .i64 (y0 : Int)) ∧ w''.cell? ⟨N, 1, none⟩ = some (.int .i64 y1) ∧ w''.cell? ⟨N, 2, none⟩ = some (.string y2) ∧ w''.cell? ⟨N, 3, none⟩ = some (.string y3) ∧ w''.cell? ⟨N, 4, none⟩ = some (.int .i64 y4) ∧ w''.cell? ⟨N, 5, none⟩ = some (.int .i64 y5) ∧ w''.cell? ⟨N, 6, none⟩ = some (.bool y6) ∧ w''.cell? ⟨N, 7, none⟩ = some (.slice pk n c)) w'' := fun w'' hk => Box8.keeps HB6.out (fun i v hv => hk _ _ hv)
    go_upto_region 3 with fail
    go_region_held3 (fun w'' : World => w''.cell? ⟨N, 0, none⟩ = some (.int .i64 (y0 : Int)) ∧ w''.cell? ⟨N, 1, none⟩ = some (.int .i64 y1) ∧ w''.cell? ⟨N, 2, none⟩ = some (.string y2) ∧ w''.cell? ⟨N, 3, none⟩ = some (.string y3) ∧ w''.cell? ⟨N, 4, none⟩ = some (.int .i64 y4) ∧ w''.cell? ⟨N, 5, none⟩ = some (.int .i64 y5) ∧ w''.cell? ⟨N, 6, none⟩ = some (.bool y6) ∧ w''.cell? ⟨N, 7, none⟩ = some (.slice pk n c))
      ((first | assumption | (apply SS; repeat (first | exact Keeps.refl _ | apply keeps_drew | apply keeps_alloc'))))
      (first
        | (go_at_call 46; refine (halone_any _ (y0 : Int) y1 y4 y5 y2 y3 y6 pk n c).mono ?_; rintro e w8 ⟨rfl, hb8⟩; have K8 : Keeps w6 w8 := (fun a v hv => keeps_below hb8 (Nat.le_refl _) _ _ (keeps_drew (Keeps.refl _) _ _ hv)); have A8 := SS w8 K8; have HD8 : Hid (SdAt w8 s) := HD6.out.drew.below hb8; have HF8 : Hid (Fz s s w w8) := (HF6.out.trans (Fz.below (bel_drewN _ w6 1))).trans (Fz.below hb8); clear hb8)
        | (go_at_call 32; refine (TL.out _ HD8.out).mono ?_; rintro e w9 ⟨rfl, s7, t1, t2, t3, t4⟩; have A9 : (fun w'' : World => w''.cell? ⟨N, 0, none⟩ = some (.int .i64 (y0 : Int)) ∧ w''.cell? ⟨N, 1, none⟩ = some (.int .i64 y1) ∧ w''.cell? ⟨N, 2, none⟩ = some (.string y2) ∧ w''.cell? ⟨N, 3, none⟩ = some (.string y3) ∧ w''.cell? ⟨N, 4, none⟩ = some (.int .i64 y4) ∧ w''.cell? ⟨N, 5, none⟩ = some (.int .i64 y5) ∧ w''.cell? ⟨N, 6, none⟩ = some (.bool y6) ∧ w''.cell? ⟨N, 7, none⟩ = some (.slice pk n c)) w9 := Box8.keeps (w := w8) (a0 := .int .i64 (y0 : Int)) (a1 := .int .i64 y1) (a2 := .string y2) (a3 := .string y3) (a4 := .int .i64 y4) (a5 := .int .i64 y5) (a6 := .bool y6) (a7 := .slice pk n c) A8 (fun i v hv => t2.cell hv NF.out); have R9 : Hid (∃ s', SdAt w9 s' ∧ Fz s s' w w9 ∧ s'.T = T3 ∧ s'.ms = s.ms ++ ms3) := ⟨s7, t1, HF8.out.trans t2, t3.trans R1.out.1.symm, by rw [t4, R1.out.2]⟩; clear t1 t2 t3 t4))
    all_goals (go_wp2_with fail; go_end0; exact ⟨rfl, R9.out⟩)
end Go.Proofs.Ytgpckmolcdafcae
