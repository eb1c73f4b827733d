/-
  OWN WORK: Tno, Tow, Vcl, Vck, Vcm, Nlv, Tal8, Tbr, Tlb, Ton, Tll.
-/
import Derived.Test.YtbinbojicmhdlaeGreatDoorP11
import Derived.Test.YtbinbojicmhdlaeGreatDoorP4
import Derived.Test.YtbinbojicmhdlaeGreatDoorP6
import Derived.Test.YtbinbojicmhdlaeGreatDoorP12
import Derived.Test.YtbinbojicmhdlaeGreatDoorP15
import Derived.Test.YtbinbojicmhdlaeGreatDoorP14
import Derived.Test.YtbinbojicmhdlaeGreatDoorP9
import Derived.Test.YtbinbojicmhdlaeGreatDoorP7
import Derived.Deep.CutRange
/-
  THE WALK of tree.Nodes, and of the function in it that calls itself.
-/
namespace Go.Proofs.YtbinbojicmhdlaeGreatDoor
open Go.RowKit

theorem nodesL_lt : ∀ (l : List It) (j : Nat) (h : j < l.length), (nodesL l[j].kids).length < (nodesL l).length
  | [], _, h => by simp at h
  | x :: l, 0, _ => by
    rw [nodesL, List.length_append, List.getElem_cons_zero, nodes1_eq, List.length_cons]
    omega
  | x :: l, j + 1, h => by
    have := nodesL_lt l j (by simpa using h)
    rw [nodesL, List.length_append, List.getElem_cons_succ]
    omega
theorem nodesL_take : ∀ (l : List It) (j : Nat) (h : j < l.length), nodesL (l.take (j + 1)) = nodesL (l.take j) ++ (l[j].node :: nodesL l[j].kids)
  | [], _, h => by simp at h
  | x :: l, 0, _ => by simp [nodesL, nodes1_eq]
  | x :: l, j + 1, h => by
    rw [List.take_succ_cons, List.take_succ_cons, nodesL, nodesL, nodesL_take l j (by simpa using h), List.getElem_cons_succ, List.append_assoc]
theorem nodesL_take_le (l : List It) (j : Nat) : (nodesL (l.take j)).length ≤ (nodesL l).length := by
  have e : l = l.take j ++ l.drop j := (List.take_append_drop j l).symm
  have h : (nodesL l).length = (nodesL (l.take j)).length + (nodesL (l.drop j)).length := by
    conv => lhs; rw [e, nodesL_app, List.length_append]
  omega

/-- the two variables of the function in Nodes: what there is so far, itself -/
structure Vars2 (w : World) (A K B : Nat) (acc : List Nat) (va : Value) : Prop where
  k : w.cell? ⟨K, 0, none⟩ = some (.func (.func 39) #[] #[.pointer (some ⟨A, 0, none⟩), .pointer (some ⟨K, 0, none⟩)])
  a : w.cell? ⟨A, 0, none⟩ = some va
  f : w.frozen? ⟨A, 0, none⟩ = false
  own : OwnI w B va acc

theorem But.row {B A : Nat} {w w' : World} (h : But B A w w') (hB : w.heap.size ≤ B) {v : Value} {l : List It} (hr : ItsAt w (fun g => g ≠ A) v l) : ItsAt w' (fun g => g ≠ A) v l :=
  hr.frame (fun g hg hlt => ⟨h.block g (by omega) hg, hg⟩)

set_option maxHeartbeats 3200000 in
set_option maxRecDepth 100000 in
theorem nodes1_any {w0 : World} {A K B : Nat} (hB : w0.heap.size = B) (hKA : K ≠ A) (hKB : K < B) (hAB : A < B) (m : Nat) :
    ∀ (v : Value) (l : List It) (acc : List Nat) (va : Value) (w : World), ItsAt w0 (fun g => g ≠ A) v l → (nodesL l).length ≤ m → But B A w0 w → Vars2 w A K B acc va → (acc ++ nodesL l).length ≤ 10000 →
      Calls Tryz.prog 39 #[v, .pointer (some ⟨A, 0, none⟩), .pointer (some ⟨K, 0, none⟩)] w fun e w' =>
        e = .returned (.tuple #[]) ∧ But B A w0 w' ∧ ∃ va', Vars2 w' A K B (acc ++ nodesL l) va' := by
  have HB : Hid (w0.heap.size = B) := hB
  clear hB
  induction m with
  | zero =>
    intro v l acc va w hr hm hbut hv hsz
    have hl : l = [] := by
      have := top_few l
      exact List.length_eq_zero_iff.mp (by omega)
    subst hl
    obtain ⟨p, c, rfl⟩ := hr.shape
    clear hr
    go_enter Tryz.func39, Tryz.ntmps39
    go_wp2_with fail
    refine wp_loop_rounds 1 ?_
    rw [rounds_succ]
    go_wp2_with fail
    go_end0
    exact ⟨rfl, hbut, va, by simpa [nodesL] using hv⟩
  | succ m ih =>
    intro v l acc va w hr hm hbut hv hsz
    obtain ⟨p, c, rfl, y1, y2, hat⟩ := hr.at
    have T : Hid (∀ j (hj : j < l.length), ∃ b o kv, p = some ⟨b, o, none⟩ ∧ b ≠ A ∧ ItAt w0 b (o + j * 8) l[j] kv ∧ ItsAt w0 (fun g => g ≠ A) kv l[j].kids) := hat
    have Z : Hid ((acc ++ nodesL l).length ≤ 10000) := hsz
    have ZM : Hid (∀ j (hj : j < l.length), (nodesL l[j].kids).length ≤ m) := fun j hj => by have := nodesL_lt l j hj; omega
    clear hr hat hsz hm
    go_enter Tryz.func39, Tryz.ntmps39
    go_wp2_with fail
    go_loopw [8] (fun i wr => ∃ (j : Nat) (va : Value), j ≤ l.length ∧ i = .int .i64 j ∧ But B A w0 wr ∧ Vars2 wr A K B (acc ++ nodesL (l.take j)) va)
      (fun i _ => l.length - (intOf i).toNat)
    case atStart => exact ⟨0, va, Nat.zero_le _, rfl, hbut, by simpa [nodesL] using hv⟩
    case round =>
      clear hv hbut
      obtain ⟨j, va, hj, rfl, hbut, hv⟩ := hrel
      by_cases hlt : j < l.length
      · obtain ⟨b1, o1, kv, rfl, hb1, hc, hrow⟩ := T.out j hlt
        have c0 := hbut.cell hc.c0 (by rw [HB.out]; exact Nat.le_refl _) hb1
        have c1 := hbut.cell hc.c1 (by rw [HB.out]; exact Nat.le_refl _) hb1
        have c2 := hbut.cell hc.c2 (by rw [HB.out]; exact Nat.le_refl _) hb1
        have c3 := hbut.cell hc.c3 (by rw [HB.out]; exact Nat.le_refl _) hb1
        have c4 := hbut.cell hc.c4 (by rw [HB.out]; exact Nat.le_refl _) hb1
        have c5 := hbut.cell hc.c5 (by rw [HB.out]; exact Nat.le_refl _) hb1
        have c6 := hbut.cell hc.c6 (by rw [HB.out]; exact Nat.le_refl _) hb1
        have c7 := hbut.cell hc.c7 (by rw [HB.out]; exact Nat.le_refl _) hb1
        have F : Hid (acc ++ nodesL (l.take (j + 1)) = ((acc ++ nodesL (l.take j)) ++ [l[j].node]) ++ nodesL l[j].kids) := by
          show _ = _
          rw [nodesL_take l j hlt]
          simp
        have hZj : Hid ((((acc ++ nodesL (l.take j)) ++ [l[j].node]) ++ nodesL l[j].kids).length ≤ 10000) := by
          show _ ≤ _
          rw [← F.out]
          have h1 := Z.out
          have h2 := nodesL_take_le l (j + 1)
          rw [List.length_append] at h1 ⊢
          omega
        have hsf : (acc ++ nodesL (l.take j)).length ≤ 1000000 := by have h1 := hZj.out; rw [List.length_append, List.length_append] at h1; omega
        have RW : Hid (ItsAt w0 (fun g => g ≠ A) kv l[j].kids) := hrow
        have ZJ : Hid ((nodesL l[j].kids).length ≤ m) := ZM.out j hlt
        obtain ⟨pk, ck, rfl⟩ := hrow.shape
        clear hc hrow
        generalize acc ++ nodesL (l.take j) = sf at *
        generalize l[j].kids = ks at *
        generalize l[j].node = x at *
        generalize l[j].role = x1 at *
        generalize l[j].name = x2 at *
        generalize l[j].about = x3 at *
        generalize l[j].level = x4 at *
        generalize l[j].checked = x5 at *
        generalize l[j].off = x6 at *
        obtain ⟨vk, vaa, vf, vown⟩ := hv
        have hBw : B ≤ wr.heap.size := by have h1 := hbut.size; rw [HB.out] at h1; exact h1
        go_upto_region 3 with fail
        have hNW := boxv8 wr (.int .i64 (x : Int)) (.int .i64 x1) (.string x2) (.string x3) (.int .i64 x4) (.int .i64 x5) (.bool x6) (.slice pk ks.length ck) 72
        have BB : Below wr.heap.size wr (wr.alloc (.cells #[.int .i64 (x : Int), .int .i64 x1, .string x2, .string x3, .int .i64 x4, .int .i64 x5, .bool x6, .slice pk ks.length ck] 72)) := (Below.refl _ _).alloc (Nat.le_refl _) _
        have zB : (wr.alloc (.cells #[.int .i64 (x : Int), .int .i64 x1, .string x2, .string x3, .int .i64 x4, .int .i64 x5, .bool x6, .slice pk ks.length ck] 72)).heap.size = wr.heap.size + 1 := by simp
        have vk2 := keeps_below BB (Nat.le_refl _) _ _ vk
        have va2 := keeps_below BB (Nat.le_refl _) _ _ vaa
        have vf2 : (wr.alloc (.cells #[.int .i64 (x : Int), .int .i64 x1, .string x2, .string x3, .int .i64 x4, .int .i64 x5, .bool x6, .slice pk ks.length ck] 72)).frozen? ⟨A, 0, none⟩ = false := (BB.frozen (p := ⟨A, 0, none⟩) (by simp only; omega)).trans vf
        have vown2 : OwnI (wr.alloc (.cells #[.int .i64 (x : Int), .int .i64 x1, .string x2, .string x3, .int .i64 x4, .int .i64 x5, .bool x6, .slice pk ks.length ck] 72)) B va sf := World.ownsRow.alloc vown _
        have hvlt := World.ownsRow.lt vown
        have hbut2 : But B A w0 (wr.alloc (.cells #[.int .i64 (x : Int), .int .i64 x1, .string x2, .string x3, .int .i64 x4, .int .i64 x5, .bool x6, .slice pk ks.length ck] 72)) := hbut.trans (But.of (BB.mono hBw) (Nat.le_refl _))
        clear BB vk vaa vf vown hbut c0 c1 c2 c3 c4 c5 c6 c7
        generalize hG : wr.heap.size = G at *
        generalize wr.alloc (.cells #[.int .i64 (x : Int), .int .i64 x1, .string x2, .string x3, .int .i64 x4, .int .i64 x5, .bool x6, .slice pk ks.length ck] 72) = wb at *
        obtain ⟨g0, g7⟩ := hNW
        have HBW : Hid (B ≤ G) := hBw
        go_upto_region 4 with (at_builtin; refine append_int2 (w0 := wb) rfl _ _ rfl x rfl (by simp [Act.eval, zB]) vown2 (Below.refl B wb) (by have := HBW.out; omega) hsf ?_; intro v1 w1 o1' n1' gr1 bl1; obtain ⟨pv, cv, rfl⟩ := o1'.shape; have a1 : w1.cell? ⟨A, 0, none⟩ = some va := (n1'.cell (p := ⟨A, 0, none⟩) hAB).trans va2; have f1 : w1.frozen? ⟨A, 0, none⟩ = false := (n1'.frozen (p := ⟨A, 0, none⟩) hAB).trans vf2)
        simp only [List.length_append, List.length_singleton] at o1'
        have k1 : w1.cell? ⟨K, 0, none⟩ = some (.func (.func 39) #[] #[.pointer (some ⟨A, 0, none⟩), .pointer (some ⟨K, 0, none⟩)]) := (n1'.cell (p := ⟨K, 0, none⟩) hKB).trans vk2
        have hGv : some G ≠ va.ownBlock := fun e => by have := (hvlt G e.symm).2; omega
        have e7 : w1.cell? ⟨G, 7, none⟩ = some (.slice pk ks.length ck) := gr1.cell g7 (by exact hGv)
        have k2 : (w1.setCell ⟨A, 0, none⟩ (.slice pv (sf.length + 1) cv)).cell? ⟨K, 0, none⟩ = some (.func (.func 39) #[] #[.pointer (some ⟨A, 0, none⟩), .pointer (some ⟨K, 0, none⟩)]) := by
          rw [World.cell?_setCell_other _ _ _ _ (by intro e; cases e; exact hKA rfl)]
          exact k1
        have e8 : (w1.setCell ⟨A, 0, none⟩ (.slice pv (sf.length + 1) cv)).cell? ⟨G, 7, none⟩ = some (.slice pk ks.length ck) := by
          rw [World.cell?_setCell_other _ _ _ _ (by intro e; cases e)]
          exact e7
        have bt2 : But B A w0 (w1.setCell ⟨A, 0, none⟩ (.slice pv (sf.length + 1) cv)) := (hbut2.trans (But.of n1' (Nat.le_refl _))).set _
        have V2 : Vars2 (w1.setCell ⟨A, 0, none⟩ (.slice pv (sf.length + 1) cv)) A K B (sf ++ [x]) (.slice pv (sf.length + 1) cv) := ⟨k2, World.cell?_setCell_same _ _ _ a1, by simpa using f1, OwnI.set o1' hAB _⟩
        have CC := ih _ ks (sf ++ [x]) _ _ RW.out ZJ.out bt2 V2 hZj.out
        clear k1 hGv e7 gr1 bl1 a1 f1 o1' n1' vk2 va2 vf2 vown2 hvlt hbut2 g0 g7 V2 bt2
        go_wp2_with (go_at_call 39; refine CC.mono ?_; clear CC; rintro e w5 ⟨rfl, bt5, va5, V5⟩)
        go_roundw
        case rel => exact ⟨j + 1, va5, by omega, by go_num, bt5, by rw [F.out]; exact V5⟩
        case measure => simp [intOf]; omega
      · obtain rfl : j = l.length := by omega
        rw [List.take_length] at hv
        go_wp2_with fail
        go_end0
        exact ⟨rfl, hbut, va, hv⟩

set_option maxHeartbeats 800000 in
theorem tnodes_any {w : World} {P : Nat → Prop} {v : Value} {l : List It} (h : ItsAt w P v l) (hsz : (nodesL l).length ≤ 1000) :
    Calls Tryz.prog 14 #[v] w fun e w' => ∃ v', e = .returned v' ∧ OwnI w' w.heap.size v' (nodesL l) ∧ Below w.heap.size w w' := by
  have hst : ∀ (W : World) (a : Addr) (fn : Fn) (x y : Array Value), Sem.run Tryz.prog (store a (.func fn x y)) W = stored Tryz.prog W a (.func fn x y) .plain := fun W a fn x y => run_store Tryz.prog W a (.func fn x y) .plain rfl
  have hC : Calls Tryz.prog 39 #[v, .pointer (some ⟨w.heap.size, 0, none⟩), .pointer (some ⟨w.heap.size + 1, 0, none⟩)]
      ((w.alloc (.cells #[.slice none 0 0] 33)).alloc (.cells #[.func (.func 39) #[] #[.pointer (some ⟨w.heap.size, 0, none⟩), .pointer (some ⟨w.heap.size + 1, 0, none⟩)]] 73))
      fun e w' => e = .returned (.tuple #[]) ∧ Below w.heap.size w w' ∧ ∃ va', w'.cell? ⟨w.heap.size, 0, none⟩ = some va' ∧ OwnI w' w.heap.size va' (nodesL l) := by
    generalize hf67 : (Obj.cells #[.func (.func 39) #[] #[.pointer (some ⟨w.heap.size, 0, none⟩), .pointer (some ⟨w.heap.size + 1, 0, none⟩)]] 73) = o3
    have z1 : (w.alloc (.cells #[.slice none 0 0] 33)).heap.size = w.heap.size + 1 := by simp
    have b1 := heap_alloc_new w (.cells #[.slice none 0 0] 33)
    have B1 := (Below.refl w.heap.size w).alloc (Nat.le_refl _) (.cells #[.slice none 0 0] 33)
    generalize w.alloc (.cells #[.slice none 0 0] 33) = w1 at *
    have z2 : (w1.alloc o3).heap.size = w.heap.size + 2 := by simp [z1]
    have b2 := blk_new w1 o3 z1
    have b12 := blk_alloc b1 o3
    have B2 := B1.alloc (by omega) o3
    generalize w1.alloc o3 = w2 at *
    subst hf67
    have hr2 : ItsAt w2 (fun g => g ≠ w.heap.size) v l := h.frame (fun g _ hlt => ⟨B2.block g hlt, by omega⟩)
    refine (nodes1_any (w0 := w2) (A := w.heap.size) (K := w.heap.size + 1) (B := w.heap.size + 2) z2 (by omega) (by omega) (by omega) (nodesL l).length v l [] (.slice none 0 0) w2 hr2 (Nat.le_refl _) (But.refl _ _ _) ?_ (by simp; omega)).mono ?_
    · exact ⟨by simp [World.cell?, b2], by simp [World.cell?, b12], by simp [World.frozen?, b12], OwnI.nil _ _⟩
    · rintro e w' ⟨rfl, hbut, va', V⟩
      refine ⟨rfl, B2.trans (hbut.below (by omega) (by omega)), va', V.a, ?_⟩
      have := V.own
      simp only [List.nil_append] at this
      obtain ⟨q1, q2⟩ := this
      refine ⟨q1, ?_⟩
      rcases q2 with q2 | ⟨g, cap, cur, e, q3, q4⟩
      · exact Or.inl q2
      · exact Or.inr ⟨g, cap, cur, e, by omega, q4⟩
  obtain ⟨p, c, rfl⟩ := h.shape
  clear h
  go_enter Tryz.func14, Tryz.ntmps14
  go_wp2_with (go_at_call 39; refine hC.mono ?_; rintro e w9 ⟨rfl, hb9, va9, hc9, ho9⟩)
  go_ret
  exact ⟨_, rfl, ho9, hb9⟩
end Go.Proofs.YtbinbojicmhdlaeGreatDoor

/-
  THE WALK of tree.Own: how long what it hands back is.
-/
namespace Go.Proofs.YtbinbojicmhdlaeGreatDoor
open Go.RowKit

theorem cellsT_cons (x : It) (l : List It) (k : Value) (ks : List Value) : cellsT (x :: l) (k :: ks) = itc (x, k) ++ cellsT l ks := rfl
theorem cellsT_set : ∀ (l : List It) (kvs : List Value) (j : Nat) (v : Value), kvs.length = l.length → j < l.length → cellsT l (kvs.set j v) = (cellsT l kvs).set (j * 8 + 7) v
  | [], _, _, _, _, h => by simp at h
  | x :: l, [], _, _, h, _ => by simp at h
  | x :: l, k :: ks, 0, v, _, _ => by
    rw [List.set_cons_zero, cellsT_cons, cellsT_cons, List.set_append_left _ _ (by rw [itc_len]; omega)]
    rfl
  | x :: l, k :: ks, j + 1, v, h, hj => by
    rw [List.set_cons_succ, cellsT_cons, cellsT_cons, cellsT_set l ks j v (by simpa using h) (by simpa using hj), List.set_append_right _ _ (by rw [itc_len]; omega), itc_len]
    congr 2
    omega

theorem append_copy {wr : World} {ops : Array Oper} {rest : List Oper} {o : Oper} {a : Act} {Q : Exit → Act → World → Prop} (hgd : o.guard = none)
    (s x : Operand) (ho : o.op = Op.call { callee := Callee.builtin Builtin.append, args := #[s, x], argTypes := #[28, 28] }) {P : Nat → Prop} {u : Value} {m : List It}
    (hs : a.eval s = .slice none 0 0) (hx : a.eval x = u) (hm : ItsAt wr P u m) (hsz : m.length ≤ 1000000)
    (h : ∀ v' w1 kvs, kvs.length = m.length → w1.ownsRow wr.heap.size 72 8 v' m.length (cellsT m kvs) → (∀ j (h : j < m.length) (h' : j < kvs.length), ItsAt wr P kvs[j] m[j].kids) → Below wr.heap.size wr w1 → wpList Tryz.prog ops Q rest (a.put o.dst v') w1) :
    wpList Tryz.prog ops Q (o :: rest) a wr := by
  refine wpList_plain hgd fun K hK => ?_
  obtain ⟨i0, hi, hz0, hz1, hz2⟩ := info_parts infoT
  cases hm with
  | mk p c xs kvs hl hc hP hk =>
    obtain ⟨p', c', e, h1, h2, h3, h4⟩ := hc
    cases e
    have hnil := World.ownsRow_nil wr wr.heap.size 72 8
    rcases h3 with ⟨rfl, rfl⟩ | ⟨b, off, rfl⟩
    · have hm0 : m = [] := List.length_eq_zero_iff.mp (by omega)
      subst hm0
      have hrun := run_append_owned_none (P := Tryz.prog) (w := wr) wr.heap.size 28 o.type 72 i0 8 Tryz.underlying28 hi (.slice none 0 0) 0 [] hnil
      have hk0 : kvs = [] := List.length_eq_zero_iff.mp hl
      subst hk0
      have hk' := hK _ _ (h (.slice none 0 0) wr [] rfl hnil (fun j h => by simp at h) (Below.refl _ _))
      unfold Oper.wp
      simp [execOp, ho, resolve, invoke, builtin, hs, hx, hrun, Result.andThen]
      exact hk'
    · refine wp_append_own _ s x 28 ho wr.heap.size 72 i0 _ 8 96 Tryz.underlying28 hi hz0 hz1 hz2 rfl (by decide) (.slice none 0 0) 0 [] hs hnil ⟨b, off, none⟩ m.length c (cellsT m kvs) hx (cellsT_len _ _ hl) (fun j y hy => by
          obtain ⟨b', o', e1, e2⟩ := h4 j y hy
          cases e1
          rw [add_at]
          exact e2)
        (oneT m kvs (fun y hy => by
          obtain ⟨j, hj, e⟩ := List.mem_iff_getElem.mp hy
          rw [← e]
          exact (hk j (by omega) hj).one)) (by unfold maxLen; omega) (by omega) (Nat.le_refl _) ?_
      intro v' w1 k1 k2 _
      refine hK _ _ (h v' w1 kvs hl ?_ hk ((Below.refl _ wr).grown k2 (Nat.le_refl _) (fun j hj => by cases hj)))
      simpa using k1

set_option maxHeartbeats 3200000 in
set_option maxRecDepth 100000 in
theorem town_any {P : Nat → Prop} (m : Nat) : ∀ (v : Value) (l : List It) (w : World), ItsAt w P v l → (nodesL l).length ≤ m → (nodesL l).length ≤ 1000 →
    Calls Tryz.prog 12 #[v] w fun e w' => (∃ p c, e = .returned (.slice p l.length c)) ∧ Below w.heap.size w w' := by
  induction m with
  | zero =>
    intro v l w hr hm hsz
    have hl : l = [] := by
      have := top_few l
      exact List.length_eq_zero_iff.mp (by omega)
    subst hl
    have HR : Hid (ItsAt w P v []) := hr
    obtain ⟨p, c, rfl⟩ := hr.shape
    clear hr
    go_enter Tryz.func12, Tryz.ntmps12
    go_upto_region 2 with (at_builtin; refine append_copy rfl _ _ rfl rfl rfl HR.out (by simp) ?_; intro v' w1 kvs h1 h2 h3 h4; obtain ⟨pv, cv, rfl⟩ := owns_shape h2)
    go_wp2_with fail
    refine wp_loop_rounds 1 ?_
    rw [rounds_succ]
    go_wp2_with fail
    go_ret
    exact ⟨⟨_, _, rfl⟩, h4⟩
  | succ m ih =>
    intro v l w hr hm hsz
    have HR : Hid (ItsAt w P v l) := hr
    have htf := top_few l
    have ZM : Hid (∀ j (hj : j < l.length), (nodesL l[j].kids).length ≤ m ∧ (nodesL l[j].kids).length ≤ 1000) := fun j hj => by have := nodesL_lt l j hj; omega
    have hl6 : l.length ≤ 1000000 := by omega
    obtain ⟨p, c, rfl⟩ := hr.shape
    clear hr hm hsz htf
    go_enter Tryz.func12, Tryz.ntmps12
    go_upto_region 2 with (at_builtin; refine append_copy rfl _ _ rfl rfl rfl HR.out hl6 ?_; intro v' w1 kvs h1 h2 h3 h4; obtain ⟨pv, cv, rfl⟩ := owns_shape h2)
    have H2 : Hid (w1.ownsRow w.heap.size 72 8 (.slice pv l.length cv) l.length (cellsT l kvs)) := h2
    have H3 : Hid (∀ j (h : j < l.length) (h' : j < kvs.length), ItsAt w P kvs[j] l[j].kids) := h3
    have H1 : Hid (kvs.length = l.length) := h1
    clear h1 h2 h3
    have hcv : l.length ≤ cv ∧ cv ≤ 9223372036854775807 := by
      obtain ⟨p', c', e, e1, e2, _⟩ := cells_of_owns H2.out
      cases e
      exact ⟨e1, by unfold maxLen at e2; omega⟩
    obtain ⟨hc1, hc2⟩ := hcv
    go_wp2_with fail
    go_loopw [4, 9] (fun _ iv wr => ∃ (j : Nat) (ks : List Value), j ≤ l.length ∧ iv = .int .i64 j ∧ Hid (ks.length = l.length ∧ wr.ownsRow w.heap.size 72 8 (.slice pv l.length cv) l.length (cellsT l ks) ∧ ∀ i, j ≤ i → ks[i]? = kvs[i]?) ∧ Below w.heap.size w wr) (fun _ iv _ => l.length - (intOf iv).toNat)
    case atStart => exact ⟨0, kvs, Nat.zero_le _, rfl, ⟨H1.out, H2.out, fun _ _ => rfl⟩, h4⟩
    case round =>
      obtain ⟨j, ks, hj, rfl, HK, hbr⟩ := hrel
      by_cases hlt : j < l.length
      · have hjk : j < ks.length := by rw [HK.out.1]; exact hlt
        have hjv : j < kvs.length := by rw [H1.out]; exact hlt
        have ekv : ks[j] = kvs[j] := by
          have := HK.out.2.2 j (Nat.le_refl _)
          rw [List.getElem?_eq_getElem hjk, List.getElem?_eq_getElem hjv] at this
          exact Option.some.inj this
        have hrow := H3.out j hlt hjv
        obtain ⟨gb, cap, e0, hgB, hgl⟩ := HK.out.2.1.form (by omega)
        cases e0
        have hcell := World.ownsRow.cells HK.out.2.1 (g := gb) rfl (j * 8 + 7) ks[j] (by rw [cellsT_at l ks HK.out.1 j 7 hlt (by decide)]; rfl)
        rw [add_at, Nat.zero_add, ekv] at hcell
        have hfz : wr.frozen? ⟨gb, j * 8 + 7, none⟩ = false := World.ownsRow.frozenAt HK.out.2.1 _
        obtain ⟨pk, ck, ek⟩ := hrow.shape
        rw [ek] at hcell hrow
        have OW := ih _ _ wr (hrow.under hbr) (ZM.out j hlt).1 (ZM.out j hlt).2
        have HGB : Hid (w.heap.size ≤ gb ∧ gb < wr.heap.size) := ⟨hgB, hgl⟩
        clear hrow ekv ek hgB hgl
        generalize l[j].kids = kk at *
        go_wp2_with (go_at_call 12; refine OW.mono ?_; clear OW; rintro e w5 ⟨⟨p5, c5, rfl⟩, hb5⟩; have c7 := keeps_below hb5 (Nat.le_refl _) _ _ hcell; have f7 : w5.frozen? ⟨gb, j * 8 + 7, none⟩ = false := (hb5.frozen (p := ⟨gb, j * 8 + 7, none⟩) HGB.out.2).trans hfz)
        go_roundw
        case rel =>
          have h5 := owns_below HK.out.2.1 hb5
          have h6 := owns_set h5 (j * 8 + 7) (.slice p5 kk.length c5)
          rw [← cellsT_set l ks j _ HK.out.1 hlt] at h6
          refine ⟨j + 1, ks.set j (.slice p5 kk.length c5), by omega, by go_num, ⟨by rw [List.length_set]; exact HK.out.1, h6, fun i hi => ?_⟩, (hbr.trans (hb5.mono hbr.size)).setCell (p := ⟨gb, j * 8 + 7, none⟩) HGB.out.1 _⟩
          rw [List.getElem?_set_ne (by omega)]
          exact HK.out.2.2 i (by omega)
        case measure => simp [intOf]; omega
      · obtain rfl : j = l.length := by omega
        go_wp2_with fail
        go_ret
        exact ⟨⟨_, _, rfl⟩, hbr⟩
end Go.Proofs.YtbinbojicmhdlaeGreatDoor

/-
  THE WALK of the reference's Inside.
-/
namespace Go.Proofs.YtbinbojicmhdlaeGreatDoor
open Go.RowKit

end Go.Proofs.YtbinbojicmhdlaeGreatDoor

/-
  THE WALK of the reference's Has.
-/
namespace Go.Proofs.YtbinbojicmhdlaeGreatDoor
open Go.RowKit

theorem has_yes {l : List Nat} {k j : Nat} (hj : j < l.length) (he : l[j] = k) : l.contains k = true := by
  rw [List.contains_iff_mem, ← he]
  exact List.getElem_mem hj
theorem has_no {l : List Nat} {k : Nat} (hn : ∀ x ∈ l, x ≠ k) : l.contains k = false := by
  cases h : l.contains k with
  | false => rfl
  | true =>
    rw [List.contains_iff_mem] at h
    exact absurd rfl (hn k h)

set_option maxHeartbeats 1600000 in
theorem qhas_any {w : World} {vl : Value} {l : List Nat} (hl : IntsAt w vl l) (k : Nat) :
    Calls Tryz.prog 23 #[vl, .int .i64 (k : Int)] w fun e w' => e = .returned (.bool (l.contains k)) ∧ w' = w := by
  obtain ⟨q, cc, rfl, h1, h2, _, hat⟩ := hl.at
  have T : Hid (∀ j (hj : j < l.length), ∃ b o, q = some ⟨b, o, none⟩ ∧ w.cell? ⟨b, o + j, none⟩ = some (.int .i64 (l[j] : Int))) := hat
  clear hat hl
  go_enter Tryz.func23, Tryz.ntmps23
  go_wp2_with fail
  go_loopw [9] (fun i wr => ∃ j : Nat, j ≤ l.length ∧ i = .int .i64 j ∧ Hid (∀ x ∈ l.take j, x ≠ k) ∧ wr = w) (fun i _ => l.length - (intOf i).toNat)
  case atStart => exact ⟨0, Nat.zero_le _, rfl, fun k hk => by simp at hk, rfl⟩
  case round =>
    obtain ⟨j, hj, rfl, NO, hww⟩ := hrel
    subst hww
    by_cases hlt : j < l.length
    · obtain ⟨e1, o1, rfl, k1⟩ := T.out j hlt
      by_cases hh : l[j] = k
      · have E : Hid (l.contains k = true) := has_yes hlt hh
        rw [hh] at k1
        clear hh
        go_wp2_with fail
        go_ret
        exact ⟨by rw [E.out]; rfl, rfl⟩
      · have N2 : Hid (∀ x ∈ l.take (j + 1), x ≠ k) := by
          intro x hx
          rw [List.take_succ_eq_append_getElem hlt, List.mem_append, List.mem_singleton] at hx
          rcases hx with hx | rfl
          · exact NO.out x hx
          · exact hh
        have hq : ((l[j] : Int) == (k : Int)) = false := beq_eq_false_iff_ne.2 (by omega)
        clear hh
        generalize l[j] = x at *
        go_wp2_with fail
        go_roundw
        case rel => exact ⟨j + 1, by omega, by go_num, N2, by first | rfl | trivial⟩
        case measure => simp [intOf]; omega
    · obtain rfl : j = l.length := by omega
      have E : Hid (l.contains k = false) := has_no (fun x hx => NO.out x (by rw [List.take_length]; exact hx))
      go_wp2_with fail
      go_ret
      exact ⟨by rw [E.out]; rfl, rfl⟩
end Go.Proofs.YtbinbojicmhdlaeGreatDoor

/-
  THE WALK of the reference's Claims.
-/
namespace Go.Proofs.YtbinbojicmhdlaeGreatDoor
open Go.RowKit

theorem takes_split (d : Tn.Dc) (l : List Cl) (n : Nat) (k : Int) : takes d l n k = (freeD (shD d) l k && !(wayD d l (n : Int)).contains k.toNat) := rfl
theorem free_one {sh : List Nat} {l : List Cl} {k : Int} (h : k < 1) : freeD sh l k = false := by
  unfold freeD
  rw [decide_eq_false (by omega), Bool.false_and, Bool.false_and]
theorem free_two {sh : List Nat} {l : List Cl} {m : Nat} (h : sh.contains m = false) : freeD sh l (m : Int) = false := by
  unfold freeD
  rw [Int.toNat_natCast, h, Bool.and_false, Bool.false_and]
theorem free_three {sh : List Nat} {l : List Cl} {k : Int} (h : ¬ ownerD l k < 0) : freeD sh l k = false := by
  unfold freeD
  rw [decide_eq_false h, Bool.and_false]
theorem free_yes {sh : List Nat} {l : List Cl} {m : Nat} (h1 : 1 ≤ m) (h2 : sh.contains m = true) (h3 : ownerD l (m : Int) < 0) : freeD sh l (m : Int) = true := by
  unfold freeD
  rw [Int.toNat_natCast, h2, decide_eq_true h3, decide_eq_true (by omega)]
  rfl

set_option maxHeartbeats 12800000 in
set_option maxRecDepth 100000 in
theorem qclaims_any {w : World} {b o c : Nat} {rs : List Raw} {d : Tn.Dc} (h : Dx w b o c rs d) :
    Calls Tryz.prog 8 #[.slice (some ⟨b, o, none⟩) rs.length c] w fun e w' => ∃ v, e = .returned v ∧ OwnC w' w.heap.size v (claimsD d) ∧ Below w.heap.size w w' := by
  have HX : Hid (∀ W, Below w.heap.size w W → Dx W b o c rs d) := fun W hb => h.below hb
  have hF := h.fine
  have hsf := (sh_few hF).1
  have VN : Hid (∀ j, Vn (Tn.nd d j)) := h.vn
  have hS : Calls Tryz.prog 21 #[.slice (some ⟨b, o, none⟩) rs.length c, .int .i64 0] w fun e w' => ∃ v, e = .returned v ∧ OwnI w' w.heap.size v (shD d) ∧ Below w.heap.size w w' :=
    qshown_any hF Tn.fuel 0 w h.doc (fine_end hF) (by have : (shownF Tn.fuel d 0).length ≤ 60 := hsf; omega)
  have OF : Hid (∀ (j : Nat) (hj : j < (shD d).length) q, (outD d j (shD d)[j] q).length ≤ 60) := fun j hj q => out_few hF hj q
  have FO : Hid (∀ (j : Nat) (hj : j < (shD d).length) q, Forest d (outD d j (shD d)[j] q)) := fun j hj q => forest_out hF hj q
  have EF : Hid (accD d (shD d).length = claimsD d) := acc_full d
  have HF : Hid (Fine d) := hF
  clear h hF
  go_enter Tryz.func8, Tryz.ntmps8
  go_upto_region 4 with (go_at_call 21; refine hS.mono ?_; rintro e w2 ⟨v2, rfl, ho2, hb2⟩; have ho2s := ho2; obtain ⟨ps, cs, rfl⟩ := ho2s.shape)
  obtain ⟨_, _, he, k1, k2, _, _⟩ := (ints_of_owns ho2).at
  cases he
  have I2 : Hid (IntsAt w2 (.slice ps (shD d).length cs) (shD d)) := ints_of_owns ho2
  clear hS ho2 ho2s
  go_loopw [3, 18] (fun v i wr => ∃ j : Nat, j ≤ (shD d).length ∧ i = .int .i64 j ∧ OwnC wr w2.heap.size v (accD d j) ∧ Below w2.heap.size w2 wr) (fun _ i _ => (shD d).length - (intOf i).toNat)
  case atStart => exact ⟨0, Nat.zero_le _, rfl, OwnC.nil _ _, Below.refl _ _⟩
  case round =>
    obtain ⟨j, hj, rfl, hown, hnx⟩ := hrel
    have BW := hb2.trans (hnx.mono hb2.size)
    have hbz := hnx.size
    by_cases hlt : j < (shD d).length
    · obtain ⟨_, _, he, _, _, _, hat⟩ := I2.out.at
      cases he
      obtain ⟨b1, o1, e1, hc0⟩ := hat j hlt
      have hc1 := keeps_below hnx (Nat.le_refl _) _ _ hc0
      have hmem : (shD d)[j] ∈ shD d := List.getElem_mem hlt
      have AS : Hid (accD d (j + 1) = claimN d (accD d j) (shD d)[j]) := acc_succ hlt
      have OFn : Hid (∀ q, (outD d j (shD d)[j] q).length ≤ 60) := fun q => OF.out j hlt q
      have FOn : Hid (∀ q, Forest d (outD d j (shD d)[j] q)) := fun q => FO.out j hlt q
      clear hat hc0
      generalize (shD d)[j] = n at *
      have hAt := rattr_all (HX.out wr BW).doc (n : Int) ⟨#[97, 114, 105, 97, 45, 111, 119, 110, 115]⟩
      have hz := val_size VN.out (n : Int) ⟨#[97, 114, 105, 97, 45, 111, 119, 110, 115]⟩
      have hTk : Hid (∀ W, Calls Tryz.prog 31 #[.string (valN d (n : Int) ⟨#[97, 114, 105, 97, 45, 111, 119, 110, 115]⟩)] W fun e w' => ∃ v, e = .returned v ∧ w'.ownsRow W.heap.size 9 1 v (Wd.toksOf (valN d (n : Int) ⟨#[97, 114, 105, 97, 45, 111, 119, 110, 115]⟩)).length ((Wd.toksOf (valN d (n : Int) ⟨#[97, 114, 105, 97, 45, 111, 119, 110, 115]⟩)).map Wd.tv) ∧ Below W.heap.size W w') := fun W => (Wd.rtokens_own _ W hz).mono (by
        rintro e w' ⟨v, h1, h2, h3, _⟩
        exact ⟨v, h1, h2, h3⟩)
      have HFi : Hid (∀ W tt, Below w.heap.size w W → Calls Tryz.prog 32 #[.slice (some ⟨b, o, none⟩) rs.length c, .int .i64 (n : Int), .string (Tx.bs tt)] W fun e w' => e = .returned (.int .i64 (askT d n tt)) ∧ Below W.heap.size W w') := fun W tt hb => rfind_any (HX.out W hb).doc HF.out (n : Int) (Tx.bs tt)
      have OS : Hid (∀ q (hq : q < (Wd.toksOf (valN d (n : Int) ⟨#[97, 114, 105, 97, 45, 111, 119, 110, 115]⟩)).length), outD d j n (q + 1) = claim1 d n (outD d j n q) (askT d n (Wd.toksOf (valN d (n : Int) ⟨#[97, 114, 105, 97, 45, 111, 119, 110, 115]⟩))[q])) := fun q hq => out_succ hq
      have OU : Hid (outD d j n (Wd.toksOf (valN d (n : Int) ⟨#[97, 114, 105, 97, 45, 111, 119, 110, 115]⟩)).length = claimN d (accD d j) n) := out_full d j n
      clear hz
      generalize Wd.toksOf (valN d (n : Int) ⟨#[97, 114, 105, 97, 45, 111, 119, 110, 115]⟩) = ts at *
      generalize valN d (n : Int) ⟨#[97, 114, 105, 97, 45, 111, 119, 110, 115]⟩ = sv at *
      generalize (attrN d (n : Int) ⟨#[97, 114, 105, 97, 45, 111, 119, 110, 115]⟩).isSome = sb at *
      subst e1
      have SN : Hid (n ∈ shD d) := hmem
      clear hmem
      go_upto_region 8 with (first
        | (go_at_call 30; refine hAt.mono ?_; rintro e w3 ⟨rfl, hb3⟩)
        | (go_at_call 31; refine (hTk.out _).mono ?_; rintro e w4 ⟨v4, rfl, ho4, hb4⟩; have ho4s := toks_at ho4; obtain ⟨pt, ct, rfl, t1, t2, _⟩ := ho4s))
      have B3 := hnx.trans (hb3.mono hnx.size)
      have B4 := B3.trans (hb4.mono B3.size)
      have O4 : OwnC w4 w2.heap.size u3 (outD d j n 0) := (hown.below hb3 (Nat.le_refl _)).below hb4 (Nat.le_refl _)
      have hr0 : ∀ q, u3.ownBlock = some q → q < w3.heap.size := fun q e => Nat.lt_of_lt_of_le (World.ownsRow.lt hown q e).2 hb3.size
      have TT : Hid (∀ W vq, Mv w4.heap.size u3.ownBlock (Value.ownBlock vq) w4 W → W.ownsRow w3.heap.size 9 1 (.slice pt ts.length ct) ts.length (ts.map Wd.tv)) := fun W vq hm => hm.owns2 ho4 (Nat.le_refl _) hr0
      clear hAt hTk ho4 hb3 hb4 hown B3 hnx hbz hr0 BW hc1
      generalize hr0e : u3.ownBlock = r0 at *
      go_loopw [3, 31] (fun v i wq => ∃ q : Nat, q ≤ ts.length ∧ i = .int .i64 q ∧ OwnC wq w2.heap.size v (outD d j n q) ∧ Below w2.heap.size w2 wq ∧ Mv w4.heap.size r0 v.ownBlock w4 wq) (fun _ i _ => ts.length - (intOf i).toNat)
      case atStart => exact ⟨0, Nat.zero_le _, rfl, O4, B4, by rw [hr0e]; exact Mv.refl _ _ _⟩
      case round =>
        obtain ⟨q, hq, rfl, ownq, hnq, MQ⟩ := hrel
        have hbq := hnq.size
        have BWq := hb2.trans (hnq.mono hb2.size)
        by_cases hql : q < ts.length
        · obtain ⟨_, _, he, _, _, hat⟩ := toks_at (TT.out wr u3 MQ)
          cases he
          obtain ⟨b3, o3, e3, hc3⟩ := hat q hql
          have hFi := HFi.out wr ts[q] BWq
          have O1 : Hid (outD d j n (q + 1) = claim1 d n (outD d j n q) (askT d n ts[q])) := OS.out q hql
          have LZ := OFn.out q
          have FQ : Hid (Forest d (outD d j n q)) := FOn.out q
          clear hat
          generalize askT d n ts[q] = k at *
          generalize Tx.bs ts[q] = tb at *
          subst e3
          have QO : Hid (∀ W (x : Int), Below wr.heap.size wr W → Calls Tryz.prog 33 #[u3, .int .i64 x] W fun e w' => e = .returned (.int .i64 (ownerD (outD d j n q) x)) ∧ Below W.heap.size W w') := fun W x hb => qowner_any (cls_of_owns (ownq.below hb (Nat.le_refl _))) x
          have QH : Hid (∀ W (m : Nat), Below wr.heap.size wr W → Calls Tryz.prog 23 #[.slice (some ⟨b1, o1, none⟩) (shD d).length cs, .int .i64 (m : Int)] W fun e w' => e = .returned (.bool ((shD d).contains m)) ∧ w' = W) := fun W m hb => qhas_any (I2.out.keeps (keeps_below (hnq.trans (hb.mono hbq)) (Nat.le_refl _))) m
          have QI : Hid (∀ W (x : Int), Below wr.heap.size wr W → Calls Tryz.prog 25 #[.slice (some ⟨b, o, none⟩) rs.length c, u3, .int .i64 x] W fun e w' => e = .returned (.int .i64 (inD d (outD d j n q) x)) ∧ Below W.heap.size W w') := fun W x hb => qin_any (HX.out W (BWq.trans (hb.mono BWq.size))).doc HF.out (cls_of_owns (ownq.below hb (Nat.le_refl _))) x
          by_cases hk1 : k < 1
          · have E : Hid (outD d j n (q + 1) = outD d j n q) := by show _ = _; rw [O1.out]; exact claim_no (by rw [takes_split, free_one hk1]; rfl)
            clear O1 FQ QO QH QI
            go_wp2_with (go_at_call 32; refine hFi.mono ?_; rintro e w9 ⟨rfl, hb9⟩)
            go_roundw
            case rel => exact ⟨q + 1, by omega, by go_num, by rw [E.out]; exact ownq.below hb9 (Nat.le_refl _), hnq.trans (hb9.mono hbq), MQ.below hb9⟩
            case measure => simp [intOf]; omega
          · obtain ⟨m, rfl⟩ : ∃ m : Nat, k = (m : Int) := ⟨k.toNat, by omega⟩
            have hm1 : 1 ≤ m := by omega
            have hm2 : ¬ m < 1 := by omega
            have QHm := fun W hb => QH.out W m hb
            cases hsc : (shD d).contains m with
            | false =>
              have E : Hid (outD d j n (q + 1) = outD d j n q) := by show _ = _; rw [O1.out]; exact claim_no (by rw [takes_split, free_two hsc]; rfl)
              rw [hsc] at QHm
              clear O1 FQ QO QH QI hsc
              go_wp2_with (first
                | (go_at_call 32; refine hFi.mono ?_; rintro e w9 ⟨rfl, hb9⟩; have hHk := QHm w9 hb9)
                | (go_at_call 23; refine hHk.mono ?_; rintro e w10 ⟨rfl, hw10⟩; subst hw10))
              go_roundw
              case rel => exact ⟨q + 1, by omega, by go_num, by rw [E.out]; exact ownq.below hb9 (Nat.le_refl _), hnq.trans (hb9.mono hbq), MQ.below hb9⟩
              case measure => simp [intOf]; omega
            | true =>
              rw [hsc] at QHm
              have QOm := fun W hb => QO.out W (m : Int) hb
              by_cases how : ownerD (outD d j n q) (m : Int) < 0
              · have FY := free_yes hm1 hsc how
                clear hsc QO QH
                have TK : Hid (outD d j n (q + 1) = if (wayD d (outD d j n q) (n : Int)).contains m then outD d j n q else outD d j n q ++ [(n, m)]) := by
                  show _ = _
                  rw [O1.out]
                  cases hcn : (wayD d (outD d j n q) (n : Int)).contains m with
                  | true => rw [claim_no (by rw [takes_split, FY, Int.toNat_natCast, hcn]; rfl)]; rfl
                  | false => rw [claim_yes (by rw [takes_split, FY, Int.toNat_natCast, hcn]; rfl)]; rfl
                have WC : Hid (∀ x ∈ shD d, wayD d (outD d j n q) (x : Int) = x :: wayD d (outD d j n q) (inD d (outD d j n q) (x : Int)) ∧ (inD d (outD d j n q) (x : Int) = -1 ∨ ∃ y ∈ shD d, inD d (outD d j n q) (x : Int) = (y : Int))) := fun x hx => ⟨way_cons HF.out FQ.out hx, in_cases HF.out FQ.out hx⟩
                have W0 : Hid (wayD d (outD d j n q) (-1) = []) := way_no d _ (by omega)
                clear O1 FQ FY
                generalize outD d j n q = l1 at *
                generalize ownerD l1 (m : Int) = ow at *
                go_upto_region 14 with (first
                  | (go_at_call 32; refine hFi.mono ?_; rintro e w9 ⟨rfl, hb9⟩; have hHk := QHm w9 hb9)
                  | (go_at_call 23; refine hHk.mono ?_; rintro e w10 ⟨rfl, hw10⟩; subst hw10; have hOk := QOm w10 hb9)
                  | (go_at_call 33; refine hOk.mono ?_; rintro e w11 ⟨rfl, hb11⟩))
                have BR : Below wr.heap.size wr w11 := hb9.trans (hb11.mono hb9.size)
                have QIr : Hid (∀ W (x : Int), Below w11.heap.size w11 W → Calls Tryz.prog 25 #[.slice (some ⟨b, o, none⟩) rs.length c, u3, .int .i64 x] W fun e w' => e = .returned (.int .i64 (inD d l1 x)) ∧ Below W.heap.size W w') := fun W x hb => QI.out W x (BR.trans (hb.mono BR.size))
                have OW11 := ownq.below BR (Nat.le_refl _)
                have N11 := hnq.trans (BR.mono hbq)
                have M11 := MQ.below BR
                clear hHk hOk QHm QOm QI hFi hc3 ownq hnq MQ hb9 hb11 how BWq
                generalize hv3 : u3 = v3 at *
                clear hv3
                go_loopw [12, 13] (fun lv av wq => ∃ (a : Int) (bb : Bool), lv = .bool bb ∧ av = .int .i64 a ∧ Hid ((wayD d l1 (n : Int)).contains m = (bb || (wayD d l1 a).contains m)) ∧ Hid (a = -1 ∨ ∃ y ∈ shD d, a = (y : Int)) ∧ Below w11.heap.size w11 wq) (fun _ av _ => (wayD d l1 (intOf av)).length)
                case atStart => exact ⟨(n : Int), false, rfl, rfl, by show _ = _; rw [Bool.false_or], Or.inr ⟨n, SN.out, rfl⟩, Below.refl _ _⟩
                case round =>
                  obtain ⟨a, bb, rfl, rfl, R, X, hb4⟩ := hrel
                  rcases X.out with rfl | ⟨y, hy, rfl⟩
                  · have hbb : Hid ((wayD d l1 (n : Int)).contains m = bb) := by show _ = _; rw [R.out, W0.out]; simp
                    have ow4 := OW11.below hb4 (Nat.le_refl _)
                    have nn4 := N11.trans (hb4.mono N11.size)
                    have mm4 := M11.below hb4
                    have zz4 := nn4.size
                    clear R X
                    cases bb with
                    | true =>
                      have E : Hid (outD d j n (q + 1) = l1) := by show _ = _; rw [TK.out, hbb.out]; rfl
                      clear TK hbb
                      go_wp2_with fail
                      go_roundw
                      case rel => exact ⟨q + 1, by omega, by go_num, by rw [E.out]; exact ow4, nn4, mm4⟩
                      case measure => simp [intOf]; omega
                    | false =>
                      have E : Hid (outD d j n (q + 1) = l1 ++ [(n, m)]) := by show _ = _; rw [TK.out, hbb.out]; rfl
                      clear TK hbb
                      go_wp2_with (at_builtin; refine append_claim2 (w0 := w2) (v := v3) rfl _ _ rfl n m rfl (by simp [Act.eval]) ow4 nn4 zz4 (by omega) ?_; intro v6 w6 o6 n6 g6 b6)
                      go_roundw
                      case rel => exact ⟨q + 1, by omega, by go_num, by rw [E.out]; exact o6, n6, mm4.trans ⟨g6.os, g6.tape, g6.output, g6.size, fun i hi _ hr => g6.block i hi (fun e => hr e), b6⟩⟩
                      case measure => simp [intOf]; omega
                  · obtain ⟨e1, e2⟩ := WC.out y hy
                    have R2 : Hid ((wayD d l1 (n : Int)).contains m = (bb || ((m == y) || (wayD d l1 (inD d l1 (y : Int))).contains m))) := by show _ = _; rw [R.out, e1, List.contains_cons]
                    have X2 : Hid (inD d l1 (y : Int) = -1 ∨ ∃ z ∈ shD d, inD d l1 (y : Int) = (z : Int)) := e2
                    have M : Hid ((wayD d l1 (inD d l1 (y : Int))).length < (wayD d l1 (y : Int)).length) := by show _ < _; rw [e1]; simp
                    have hI := QIr.out wr (y : Int) hb4
                    clear R X e1 e2 hy
                    generalize inD d l1 (y : Int) = z at *
                    cases bb with
                    | true =>
                      have R3 : Hid ((wayD d l1 (n : Int)).contains m = (true || (wayD d l1 z).contains m)) := by show _ = _; rw [R2.out]; rfl
                      clear R2
                      go_wp2_with (go_at_call 25; refine hI.mono ?_; rintro e w12 ⟨rfl, hb12⟩)
                      go_roundw
                      case rel => exact ⟨z, true, rfl, rfl, R3, X2, hb4.trans (hb12.mono hb4.size)⟩
                      case measure => simpa [intOf] using M.out
                    | false =>
                      by_cases e : y = m
                      · have R3 : Hid ((wayD d l1 (n : Int)).contains m = (true || (wayD d l1 z).contains m)) := by show _ = _; rw [R2.out, e]; simp
                        have hq7 : ((y : Int) == (m : Int)) = true := by simp [e]
                        clear R2 e
                        go_wp2_with (go_at_call 25; refine hI.mono ?_; rintro e w12 ⟨rfl, hb12⟩)
                        go_roundw
                        case rel => exact ⟨z, true, rfl, rfl, R3, X2, hb4.trans (hb12.mono hb4.size)⟩
                        case measure => simpa [intOf] using M.out
                      · have R3 : Hid ((wayD d l1 (n : Int)).contains m = (false || (wayD d l1 z).contains m)) := by show _ = _; rw [R2.out, beq_eq_false_iff_ne.2 (Ne.symm e)]; rfl
                        have hq7 : ((y : Int) == (m : Int)) = false := beq_eq_false_iff_ne.2 (by omega)
                        clear R2 e
                        go_wp2_with (go_at_call 25; refine hI.mono ?_; rintro e w12 ⟨rfl, hb12⟩)
                        go_roundw
                        case rel => exact ⟨z, false, rfl, rfl, R3, X2, hb4.trans (hb12.mono hb4.size)⟩
                        case measure => simpa [intOf] using M.out
              · have E : Hid (outD d j n (q + 1) = outD d j n q) := by show _ = _; rw [O1.out]; exact claim_no (by rw [takes_split, free_three how]; rfl)
                clear O1 FQ QO QH QI hsc
                generalize ownerD (outD d j n q) (m : Int) = ow at *
                go_wp2_with (first
                  | (go_at_call 32; refine hFi.mono ?_; rintro e w9 ⟨rfl, hb9⟩; have hHk := QHm w9 hb9)
                  | (go_at_call 23; refine hHk.mono ?_; rintro e w10 ⟨rfl, hw10⟩; subst hw10; have hOk := QOm w10 hb9)
                  | (go_at_call 33; refine hOk.mono ?_; rintro e w11 ⟨rfl, hb11⟩))
                go_roundw
                case rel => exact ⟨q + 1, by omega, by go_num, by rw [E.out]; exact (ownq.below hb9 (Nat.le_refl _)).below hb11 (Nat.le_refl _), (hnq.trans (hb9.mono hbq)).trans (hb11.mono (Nat.le_trans hbq hb9.size)), (MQ.below hb9).below hb11⟩
                case measure => simp [intOf]; omega
        · obtain rfl : q = ts.length := by omega
          have E : Hid (accD d (j + 1) = outD d j n ts.length) := by show _ = _; rw [AS.out, OU.out]
          go_wp2_with fail
          go_roundw
          case rel => exact ⟨j + 1, by omega, by go_num, by rw [E.out]; exact ownq, hnq⟩
          case measure => simp [intOf]; omega
    · obtain rfl : j = (shD d).length := by omega
      go_wp2_with fail
      go_ret
      exact ⟨_, rfl, by rw [← EF.out]; exact hown.mono hb2.size, BW⟩
end Go.Proofs.YtbinbojicmhdlaeGreatDoor

/-
  THE WALKS of tnlaw7.alive, and of the reference's SameMemo at two that are the same.
-/
namespace Go.Proofs.YtbinbojicmhdlaeGreatDoor
open Go.RowKit

end Go.Proofs.YtbinbojicmhdlaeGreatDoor

/-
  THE WALK of tnlaw8.alive.
-/
namespace Go.Proofs.YtbinbojicmhdlaeGreatDoor
open Go.RowKit

def al8L : List Tn.Chg := [⟨1, 0, 0, -1, ⟨#[100, 105, 118]⟩, ⟨#[]⟩⟩, ⟨1, 1, 0, -1, ⟨#[104, 49]⟩, ⟨#[]⟩⟩, ⟨2, 2, 0, -1, ⟨#[]⟩, ⟨#[72, 105]⟩⟩]
def shape8 : List It → Bool
  | [.mk _ r _ _ _ _ _ [.mk _ _ nm _ lv _ _ _]] => decide (r = 2) && decide (lv = 1) && decide (nm.data.toList = [72, 105])
  | _ => false
theorem al8_1 : shape8 (treeD (Tn.build al8L)) = true := by decide +kernel
theorem al8_2 : (nodesL (treeD (Tn.build al8L))).length = 3 := by decide +kernel
theorem al8_sz : ∀ x ∈ al8L, x.value.size ≤ 4194304 ∧ x.name.size ≤ 4194304 := by decide
theorem shape8_parts {l : List It} (h : shape8 l = true) : ∃ x y, l = [x] ∧ x.kids = [y] ∧ x.role = 2 ∧ y.level = 1 ∧ y.name = ⟨#[72, 105]⟩ := by
  unfold shape8 at h
  split at h
  · rename_i n r a b c e f m s nm t lv g i js
    simp only [Bool.and_eq_true, decide_eq_true_eq] at h
    obtain ⟨⟨h1, h2⟩, h3⟩ := h
    refine ⟨_, _, rfl, rfl, h1, h2, ?_⟩
    show nm = _
    rcases nm with ⟨⟨d⟩⟩
    simp at h3
    rw [h3]
  · cases h

set_option maxHeartbeats 1600000 in
set_option maxRecDepth 100000 in
theorem l8alive_any {w : World} (T : Kn.TabAt w) : Calls Tryz.prog 20 #[] w fun e w' => e = .returned (.bool true) ∧ Below w.heap.size w w' := by
  have hC := rbuild_good (chgs_new w al8L (by decide)) al8_sz
  have e : (al8L.flatMap chc).toArray = #[.int .i64 1, .int .i64 0, .int .i64 0, .int .i64 (-1), .string ⟨#[100, 105, 118]⟩, .string ⟨#[]⟩, .int .i64 1, .int .i64 1, .int .i64 0, .int .i64 (-1), .string ⟨#[104, 49]⟩, .string ⟨#[]⟩, .int .i64 2, .int .i64 2, .int .i64 0, .int .i64 (-1), .string ⟨#[]⟩, .string ⟨#[72, 105]⟩] := rfl
  have e4 : al8L.length = 3 := rfl
  rw [e, e4] at hC
  have B1 := (Below.refl w.heap.size w).alloc (Nat.le_refl _) (.cells #[.int .i64 1, .int .i64 0, .int .i64 0, .int .i64 (-1), .string ⟨#[100, 105, 118]⟩, .string ⟨#[]⟩, .int .i64 1, .int .i64 1, .int .i64 0, .int .i64 (-1), .string ⟨#[104, 49]⟩, .string ⟨#[]⟩, .int .i64 2, .int .i64 2, .int .i64 0, .int .i64 (-1), .string ⟨#[]⟩, .string ⟨#[72, 105]⟩] 53)
  have S1 : Hid (∀ W g c rs, DocAt W g 0 c rs (Tn.build al8L) → Below w.heap.size w W → Calls Tryz.prog 9 #[.slice (some ⟨g, 0, none⟩) rs.length c] W fun e w' => ∃ v, e = .returned v ∧ OwnT w' W.heap.size v (treeD (Tn.build al8L)) ∧ Below W.heap.size W w') := fun W g c rs h hb => tbuild_any h (T.below hb) al8_sz
  obtain ⟨x, y, s1, s2, s3, s4, s5⟩ := shape8_parts al8_1
  have s6 := al8_2
  generalize treeD (Tn.build al8L) = R at *
  subst s1
  clear e e4
  generalize Tn.build al8L = d at *
  go_enter Tryz.func20, Tryz.ntmps20
  go_upto_region 2 with (first
    | (go_at_call 7; refine hC.mono ?_; rintro e w1 ⟨g, c, rs, rfl, hd1, hb0⟩; have hb1 := B1.trans (hb0.mono B1.size); have J1 := S1.out _ _ _ _ hd1 hb1; clear hd1)
    | (go_at_call 9; refine J1.mono ?_; clear J1; rintro e w2 ⟨v2, rfl, ho2, hb2⟩; have HO2 := ho2.row))
  have HR : Hid (ItsAt w2 (fun g => w1.heap.size ≤ g) v2 [x]) := HO2
  have B2 : Hid (Below w.heap.size w w2) := hb1.trans (hb2.mono hb1.size)
  obtain ⟨p1, c1, rfl, y1, y2, hat⟩ := HO2.at
  obtain ⟨b1, o1, kv, rfl, _, hi1, hk1⟩ := hat 0 (by simp)
  rw [List.getElem_cons_zero] at hi1 hk1
  rw [s2] at hk1
  have ND := tnodes_any HR.out (by rw [s6]; decide)
  have OWN : Hid (∀ W, Below w2.heap.size w2 W → Calls Tryz.prog 12 #[.slice (some ⟨b1, o1, none⟩) 1 c1] W fun e w' => (∃ p c, e = .returned (.slice p 1 c)) ∧ Below W.heap.size W w') := fun W hW => town_any _ _ _ W (HR.out.under hW) (Nat.le_refl _) (by rw [s6]; decide)
  obtain ⟨p3, c3, rfl, y3, y4, hat3⟩ := hk1.at
  obtain ⟨b3, o3, kv3, rfl, _, hi3, _⟩ := hat3 0 (by simp)
  rw [List.getElem_cons_zero] at hi3
  have a1 := hi1.c1
  have a7 := hi1.c7
  have d2 := hi3.c2
  have d4 := hi3.c4
  rw [s3] at a1
  rw [s4] at d4
  rw [s5] at d2
  simp only [Nat.zero_mul, Nat.add_zero, List.length_singleton] at a1 a7 d2 d4 y1 y2 y3 y4
  have ND2 : Calls Tryz.prog 14 #[.slice (some ⟨b1, o1, none⟩) 1 c1] w2 (fun e w' => (∃ p c, e = .returned (.slice p 3 c)) ∧ Below w2.heap.size w2 w') := ND.mono (fun e w' (h : ∃ v', e = .returned v' ∧ OwnI w' w2.heap.size v' (nodesL [x]) ∧ Below w2.heap.size w2 w') => (show (∃ p c, e = .returned (.slice p 3 c)) ∧ Below w2.heap.size w2 w' from by
    obtain ⟨v', rfl, h1, h2⟩ := h
    obtain ⟨p, c, rfl⟩ := h1.shape
    rw [s6]
    exact ⟨⟨p, c, rfl⟩, h2⟩))
  clear ND hat hat3 hi1 hi3 hk1 HR ho2 S1 hC s2 s3 s4 s5 s6 hb1 hb2 hb0 B1 T HO2
  go_wp2_with (first
    | (go_at_call 14; refine ND2.mono ?_; clear ND2; rintro e w3 ⟨⟨p5, c5, rfl⟩, hb3⟩; have OW3 := OWN.out w3 hb3)
    | (go_at_call 12; refine OW3.mono ?_; clear OW3; rintro e w4 ⟨⟨p6, c6, rfl⟩, hb4⟩))
  go_ret
  exact ⟨rfl, B2.out.trans ((hb3.trans (hb4.mono hb3.size)).mono B2.out.size)⟩
end Go.Proofs.YtbinbojicmhdlaeGreatDoor

/-
  THE WALK of tnlaw8's bare, at items none of which is bare.
-/
namespace Go.Proofs.YtbinbojicmhdlaeGreatDoor
open Go.RowKit

theorem bareL_at : ∀ (l : List It) (j : Nat) (h : j < l.length), bareL l = true → bare1 l[j] = true
  | [], _, h, _ => by simp at h
  | x :: l, 0, _, h => by
    rw [bareL, Bool.and_eq_true] at h
    exact h.1
  | x :: l, j + 1, h, hb => by
    rw [bareL, Bool.and_eq_true] at hb
    rw [List.getElem_cons_succ]
    exact bareL_at l j (by simpa using h) hb.2
theorem bare1_parts {x : It} (h : bare1 x = true) : (Kn.ofD x.role).name.isEmpty = false ∧ x.role ≠ 18 ∧ (leafI x.role = false ∨ x.kids = []) ∧ bareL x.kids = true := by
  cases x with
  | mk n r a b c e f ks =>
    rw [bare1] at h
    simp only [Bool.and_eq_true, Bool.or_eq_true, Bool.not_eq_true', decide_eq_true_eq] at h
    obtain ⟨⟨⟨h1, h2⟩, h3⟩, h4⟩ := h
    refine ⟨h1, h2, ?_, h4⟩
    rcases h3 with h3 | h3
    · exact Or.inl h3
    · right
      cases ks with
      | nil => rfl
      | cons y ys => simp at h3

theorem nodesL_lt2 : ∀ (l : List It) (j : Nat) (h : j < l.length), (nodesL l[j].kids).length < (nodesL l).length
  | [], _, h => by simp at h
  | x :: l, 0, _ => by
    rw [nodesL, List.length_append, List.getElem_cons_zero, nodes1_eq, List.length_cons]
    omega
  | x :: l, j + 1, h => by
    have := nodesL_lt2 l j (by simpa using h)
    rw [nodesL, List.length_append, List.getElem_cons_succ]
    omega

theorem boxv8b (w : World) (x0 x1 x2 x3 x4 x5 x6 x7 : Value) (t : Nat) : (w.alloc (.cells #[x0, x1, x2, x3, x4, x5, x6, x7] t)).cell? ⟨w.heap.size, 1, none⟩ = some x1 ∧ (w.alloc (.cells #[x0, x1, x2, x3, x4, x5, x6, x7] t)).cell? ⟨w.heap.size, 7, none⟩ = some x7 := by
  constructor <;> rw [World.cell?_alloc_new] <;> simp
theorem box7t (w : World) (x0 x1 x2 x3 x4 x5 x6 : Value) (t : Nat) : (w.alloc (.cells #[x0, x1, x2, x3, x4, x5, x6] t)).cell? ⟨w.heap.size, 0, none⟩ = some x0 ∧ (w.alloc (.cells #[x0, x1, x2, x3, x4, x5, x6] t)).cell? ⟨w.heap.size, 2, none⟩ = some x2 := by
  constructor <;> rw [World.cell?_alloc_new] <;> simp

set_option maxHeartbeats 3200000 in
set_option maxRecDepth 100000 in
theorem l8bare_any {P : Nat → Prop} (m : Nat) : ∀ (v : Value) (l : List It) (w : World), ItsAt w P v l → (nodesL l).length ≤ m → bareL l = true →
    Calls Tryz.prog 28 #[v] w fun e w' => e = .returned (.bool true) ∧ Below w.heap.size w w' := by
  induction m with
  | zero =>
    intro v l w hr hm hb
    have hl : l = [] := by
      have := top_few l
      exact List.length_eq_zero_iff.mp (by omega)
    subst hl
    obtain ⟨p, c, rfl⟩ := hr.shape
    clear hr
    go_enter Tryz.func28, Tryz.ntmps28
    go_wp2_with fail
    refine wp_loop_rounds 1 ?_
    rw [rounds_succ]
    go_wp2_with fail
    go_ret
    exact ⟨rfl, Below.refl _ _⟩
  | succ m ih =>
    intro v l w hr hm hb
    have HR : Hid (ItsAt w P v l) := hr
    obtain ⟨p, c, rfl, y1, y2, hat⟩ := hr.at
    have T : Hid (∀ j (hj : j < l.length), ∃ b o kv, p = some ⟨b, o, none⟩ ∧ P b ∧ ItAt w b (o + j * 8) l[j] kv ∧ ItsAt w P kv l[j].kids) := hat
    have ZM : Hid (∀ j (hj : j < l.length), (nodesL l[j].kids).length ≤ m) := fun j hj => by have := nodesL_lt2 l j hj; omega
    have BB : Hid (bareL l = true) := hb
    clear hr hat hm hb HR
    go_enter Tryz.func28, Tryz.ntmps28
    go_wp2_with fail
    go_loopw [8] (fun i wr => ∃ j : Nat, j ≤ l.length ∧ i = .int .i64 j ∧ Below w.heap.size w wr) (fun i _ => l.length - (intOf i).toNat)
    case atStart => exact ⟨0, Nat.zero_le _, rfl, Below.refl _ _⟩
    case round =>
      obtain ⟨j, hj, rfl, hbr⟩ := hrel
      by_cases hlt : j < l.length
      · obtain ⟨b1, o1, kv, rfl, _, hc, hrow⟩ := T.out j hlt
        have K := keeps_below hbr (Nat.le_refl _)
        have c0 := K _ _ hc.c0
        have c1 := K _ _ hc.c1
        have c2 := K _ _ hc.c2
        have c3 := K _ _ hc.c3
        have c4 := K _ _ hc.c4
        have c5 := K _ _ hc.c5
        have c6 := K _ _ hc.c6
        have c7 := K _ _ hc.c7
        obtain ⟨pk, ck, rfl⟩ := hrow.shape
        have RW : Hid (ItsAt wr P (.slice pk l[j].kids.length ck) l[j].kids) := hrow.under hbr
        have ZJ : Hid ((nodesL l[j].kids).length ≤ m) := ZM.out j hlt
        obtain ⟨n1, n2, n3, n4⟩ := bare1_parts (bareL_at l j hlt BB.out)
        have N4 : Hid (bareL l[j].kids = true) := n4
        have KD : Hid (∀ W, Calls Tryz.prog 26 #[.int .i64 l[j].role] W fun e w' => (∃ (a0 : ByteArray) (a1 a3 a4 a5 : Bool) (z : Int), e = .returned (.agg #[.string a0, .bool a1, .bool (leafI l[j].role), .bool a3, .bool a4, .bool a5, .int .i64 z]) ∧ a0.toList.isEmpty = false) ∧ Below W.heap.size W w') := fun W => (Kn.qkind_any (w := W) l[j].role).mono (by
          rintro e w' ⟨rfl, hb⟩
          exact ⟨⟨Tx.bs (Kn.ofD l[j].role).name, _, _, _, _, _, rfl, by rw [Wd.bs_toList]; exact n1⟩, hb⟩)
        clear hc hrow K n1 n4
        generalize l[j].kids = ks at *
        generalize l[j].node = x at *
        generalize l[j].role = x1 at *
        generalize l[j].name = x2 at *
        generalize l[j].about = x3 at *
        generalize l[j].level = x4 at *
        generalize l[j].checked = x5 at *
        generalize l[j].off = x6 at *
        have hG := boxv8b wr (.int .i64 (x : Int)) (.int .i64 x1) (.string x2) (.string x3) (.int .i64 x4) (.int .i64 x5) (.bool x6) (.slice pk ks.length ck) 72
        have BB1 : Below wr.heap.size wr (wr.alloc (.cells #[.int .i64 (x : Int), .int .i64 x1, .string x2, .string x3, .int .i64 x4, .int .i64 x5, .bool x6, .slice pk ks.length ck] 72)) := (Below.refl _ _).alloc (Nat.le_refl _) _
        have CC : Hid (∀ W, Below wr.heap.size wr W → Calls Tryz.prog 28 #[.slice pk ks.length ck] W fun e w' => e = .returned (.bool true) ∧ Below W.heap.size W w') := fun W hW => ih _ ks W (RW.out.under hW) ZJ.out N4.out
        clear ih
        go_upto_region 4 with fail
        have HB1 : Hid (Below wr.heap.size wr (wr.alloc (.cells #[.int .i64 (x : Int), .int .i64 x1, .string x2, .string x3, .int .i64 x4, .int .i64 x5, .bool x6, .slice pk ks.length ck] 72))) := BB1
        clear BB1 c0 c1 c2 c3 c4 c5 c6 c7
        generalize hGG : wr.heap.size = G at *
        generalize wr.alloc (.cells #[.int .i64 (x : Int), .int .i64 x1, .string x2, .string x3, .int .i64 x4, .int .i64 x5, .bool x6, .slice pk ks.length ck] 72) = wb at *
        obtain ⟨g1, g7⟩ := hG
        go_upto_region 5 with (go_at_call 26; refine (KD.out _).mono ?_; rintro e w6 ⟨⟨a0, a1, a3, a4, a5, z, rfl, he⟩, hb6⟩; have K6 := keeps_below hb6 (Nat.le_refl _); have e1 := K6 _ _ g1; have e7 := K6 _ _ g7)
        have hk := box7t w6 (.string a0) (.bool a1) (.bool (leafI x1)) (.bool a3) (.bool a4) (.bool a5) (.int .i64 z) 49
        have B7 : Below w6.heap.size w6 (w6.alloc (.cells #[.string a0, .bool a1, .bool (leafI x1), .bool a3, .bool a4, .bool a5, .int .i64 z] 49)) := (Below.refl _ _).alloc (Nat.le_refl _) _
        have K7 := keeps_below B7 (Nat.le_refl _)
        have i1 := K7 _ _ e1
        have i7 := K7 _ _ e7
        have BX : Hid (Below G wr (w6.alloc (.cells #[.string a0, .bool a1, .bool (leafI x1), .bool a3, .bool a4, .bool a5, .int .i64 z] 49))) := (HB1.out.trans (hb6.mono (by have := HB1.out.size; omega))).trans (B7.mono (by have := HB1.out.size; have := hb6.size; omega))
        have C7 := CC.out _ BX.out
        obtain ⟨k0, k2⟩ := hk
        clear K6 K7 e1 e7 g1 g7 hb6 B7
        generalize hKK : w6.heap.size = Q at *
        generalize w6.alloc (.cells #[.string a0, .bool a1, .bool (leafI x1), .bool a3, .bool a4, .bool a5, .int .i64 z] 49) = w8 at *
        have h18 : (x1 == 18) = false := by simpa using n2
        have HN3 : Hid (leafI x1 = false ∨ ks = []) := n3
        clear n2 n3
        cases hlf : leafI x1 with
        | false =>
          rw [hlf] at k2
          clear hlf HN3
          go_wp2_with (go_at_call 28; refine C7.mono ?_; clear C7; rintro e w7 ⟨rfl, hb7⟩)
          go_roundw
          case rel => exact ⟨j + 1, by omega, by go_num, hbr.trans ((BX.out.trans (hb7.mono (by have := BX.out.size; omega))).mono (by have := hbr.size; omega))⟩
          case measure => simp [intOf]; omega
        | true =>
          have hks : ks.length = 0 := by
            rcases HN3.out with h | h
            · rw [hlf] at h; cases h
            · rw [h]; rfl
          rw [hlf] at k2
          rw [hks] at i7 C7
          clear hlf HN3
          go_wp2_with (go_at_call 28; refine C7.mono ?_; clear C7; rintro e w7 ⟨rfl, hb7⟩)
          go_roundw
          case rel => exact ⟨j + 1, by omega, by go_num, hbr.trans ((BX.out.trans (hb7.mono (by have := BX.out.size; omega))).mono (by have := hbr.size; omega))⟩
          case measure => simp [intOf]; omega
      · obtain rfl : j = l.length := by omega
        go_wp2_with fail
        go_ret
        exact ⟨rfl, hbr⟩
end Go.Proofs.YtbinbojicmhdlaeGreatDoor

/-
  THE WALK of tnlaw8's TreeBare.
-/
namespace Go.Proofs.YtbinbojicmhdlaeGreatDoor
open Go.RowKit

theorem tree_plain (d : Tn.Dc) : bareL (treeD d) = true := items_plain _ d _ _ _
theorem tree_few {d : Tn.Dc} (h : Fine d) : (nodesL (treeD d)).length ≤ 60 := by
  unfold treeD
  rw [told_nodes]
  exact told_few h (forest_claims h) _ 0 (root_shown h)

set_option maxHeartbeats 1600000 in
set_option maxRecDepth 100000 in
theorem tbare_walk {w : World} (T : Kn.TabAt w) {vl : Value} {l : List Tn.Chg} (hl : ChgsAt w vl l) (hsz : ∀ x ∈ l, x.value.size ≤ 4194304 ∧ x.name.size ≤ 4194304) :
    Calls Tryz.prog 6 #[vl] w fun e w' => e = .returned (.bool true) ∧ Below w.heap.size w w' := by
  have hA := l8alive_any T
  have QB : Hid (∀ W, Below w.heap.size w W → Calls Tryz.prog 7 #[vl] W fun e w' => ∃ g c rs, e = .returned (.slice (some ⟨g, 0, none⟩) rs.length c) ∧ DocAt w' g 0 c rs (Tn.build l) ∧ Below W.heap.size W w') := fun W hW => rbuild_good (hl.keeps (keeps_below hW (Nat.le_refl _))) hsz
  have BD : Hid (∀ W g c rs, DocAt W g 0 c rs (Tn.build l) → Below w.heap.size w W → Calls Tryz.prog 9 #[.slice (some ⟨g, 0, none⟩) rs.length c] W fun e w' => ∃ v, e = .returned v ∧ OwnT w' W.heap.size v (treeD (Tn.build l)) ∧ Below W.heap.size W w') := fun W g c rs h hb => tbuild_any h (T.below hb) hsz
  have BR : Hid (∀ W B v, OwnT W B v (treeD (Tn.build l)) → Calls Tryz.prog 28 #[v] W fun e w' => e = .returned (.bool true) ∧ Below W.heap.size W w') := fun W B v h => l8bare_any _ v _ W h.row (Nat.le_refl _) (tree_plain _)
  obtain ⟨p, cp, rfl, _, _, _⟩ := hl.at
  clear hl hsz T
  generalize treeD (Tn.build l) = R at *
  generalize Tn.build l = d at *
  go_enter Tryz.func6, Tryz.ntmps6
  go_wp2_with (first
    | (go_at_call 20; refine hA.mono ?_; rintro e w1 ⟨rfl, hb1⟩)
    | (go_at_call 7; refine (QB.out _ hb1).mono ?_; rintro e w2 ⟨g, c, rs, rfl, hd2, hb2⟩; have B2 := hb1.trans (hb2.mono hb1.size); have J2 := BD.out _ _ _ _ hd2 B2; clear hd2)
    | (go_at_call 9; refine J2.mono ?_; clear J2; rintro e w3 ⟨v3, rfl, ho3, hb3⟩; have B3 := B2.trans (hb3.mono B2.size); have J3 := BR.out _ _ _ ho3)
    | (go_at_call 28; refine J3.mono ?_; clear J3; rintro e w4 ⟨rfl, hb4⟩))
  go_ret
  exact ⟨rfl, B3.trans (hb4.mono B3.size)⟩
end Go.Proofs.YtbinbojicmhdlaeGreatDoor

/-
  THE WALK of tnlaw8's TreeOnce.
-/
namespace Go.Proofs.YtbinbojicmhdlaeGreatDoor
open Go.RowKit Go.Maps

theorem take_new {l : List Nat} (hn : l.Nodup) {j : Nat} (hj : j < l.length) : (l.take j).contains l[j] = false := by
  cases hc : (l.take j).contains l[j] with
  | false => rfl
  | true =>
    have hm : l[j] ∈ l.take j := by simpa using hc
    obtain ⟨i, hi, e⟩ := List.mem_take_iff_getElem.mp hm
    exact absurd e (List.pairwise_iff_getElem.mp hn i j (by omega) hj (by omega))
theorem tree_told (d : Tn.Dc) : nodesL (treeD d) = toldF 64 d (claimsD d) 0 := by
  unfold treeD
  rw [told_nodes]


set_option maxHeartbeats 6400000 in
set_option maxRecDepth 100000 in
theorem tonce_walk {w : World} (T : Kn.TabAt w) {vl : Value} {l : List Tn.Chg} (hl : ChgsAt w vl l) (hsz : ∀ x ∈ l, x.value.size ≤ 4194304 ∧ x.name.size ≤ 4194304) :
    Calls Tryz.prog 4 #[vl] w fun e w' => e = .returned (.bool true) ∧ Below w.heap.size w w' := by
  have hA := l8alive_any T
  have QB : Hid (∀ W, Below w.heap.size w W → Calls Tryz.prog 7 #[vl] W fun e w' => ∃ g c rs, e = .returned (.slice (some ⟨g, 0, none⟩) rs.length c) ∧ DocAt w' g 0 c rs (Tn.build l) ∧ Below W.heap.size W w') := fun W hW => rbuild_good (hl.keeps (keeps_below hW (Nat.le_refl _))) hsz
  have C : Hid (∀ w1 g c rs, DocAt w1 g 0 c rs (Tn.build l) → Below w.heap.size w w1 → Cx w1 g 0 c rs (Tn.build l)) := fun w1 g c rs h hb => cx_build h (T.below hb) hsz
  have BD : Hid (∀ W g c rs, DocAt W g 0 c rs (Tn.build l) → Below w.heap.size w W → Calls Tryz.prog 9 #[.slice (some ⟨g, 0, none⟩) rs.length c] W fun e w' => ∃ v, e = .returned v ∧ OwnT w' W.heap.size v (treeD (Tn.build l)) ∧ Below W.heap.size W w') := fun W g c rs h hb => tbuild_any h (T.below hb) hsz
  have hF := build_fine l
  have hFo := forest_claims hF
  have h0 := root_shown hF
  have hfew := tree_few hF
  have ND : Hid (nodesL (treeD (Tn.build l))).Nodup := by show List.Nodup _; rw [tree_told]; exact told_nodup hF hFo 64 0 h0
  have WY : Hid (∀ x ∈ nodesL (treeD (Tn.build l)), x ∈ shD (Tn.build l) ∧ hidD (Tn.build l) (x : Int) = false ∧ x ≤ 1000) := fun x hx => by
    rw [tree_told] at hx
    obtain ⟨h1, h2, _⟩ := told_way hF hFo 64 0 x h0 hx
    have h3 := Tn.lv_lt (sh_lv hF h1)
    have h4 := hF.good.len.2
    exact ⟨h1, h2, by omega⟩
  have NOD : Hid (∀ W B v, OwnT W B v (treeD (Tn.build l)) → Calls Tryz.prog 14 #[v] W fun e w' => ∃ v', e = .returned v' ∧ OwnI w' W.heap.size v' (nodesL (treeD (Tn.build l))) ∧ Below W.heap.size W w') := fun W B v h => tnodes_any h.row (by omega)
  have hsf := (sh_few hF).1
  have SS : Hid (∀ W g c rs, Cx W g 0 c rs (Tn.build l) → Calls Tryz.prog 21 #[.slice (some ⟨g, 0, none⟩) rs.length c, .int .i64 0] W fun e w' => ∃ v, e = .returned v ∧ OwnI w' W.heap.size v (shD (Tn.build l)) ∧ Below W.heap.size W w') := fun W g c rs h => qshown_any hF Tn.fuel 0 W h.doc (fine_end hF) (by have : (shownF Tn.fuel (Tn.build l) 0).length ≤ 60 := hsf; omega)
  obtain ⟨p, cp, rfl, _, _, _⟩ := hl.at
  clear hl hsz T h0 hFo hF
  generalize nodesL (treeD (Tn.build l)) = L at *
  generalize treeD (Tn.build l) = R at *
  generalize Tn.build l = d at *
  generalize shD d = sh at *
  go_enter Tryz.func4, Tryz.ntmps4
  have hmm := @run_makeMap Tryz.prog
  go_upto_region 4 with (first
    | (go_at_call 20; refine hA.mono ?_; rintro e w1 ⟨rfl, hb1⟩)
    | (go_at_call 7; refine (QB.out _ hb1).mono ?_; rintro e w2 ⟨g, c, rs, rfl, hd2, hb2⟩))
  have B2 := hb1.trans (hb2.mono hb1.size)
  have C2 : Hid (Cx w2 g 0 c rs d) := C.out _ _ _ _ hd2 B2
  have H2 := had_made w2
  have A3 := (Below.refl w2.heap.size w2).alloc (Nat.le_refl _) (.map #[] 0)
  have z3 : (w2.alloc (.map #[] 0)).heap.size = w2.heap.size + 1 := by simp
  have J3 := SS.out _ _ _ _ (C2.out.below A3)
  have B3 : Hid (Below w.heap.size w w2) := B2
  clear hd2
  go_upto_region 5 with fail
  generalize w2.alloc (.map #[] 0) = w3 at *
  generalize hM : w2.heap.size = M at *
  have HMB : Hid (w.heap.size ≤ M) := by have := B2.size; show _ ≤ _; omega
  go_upto_region 6 with (go_at_call 21; refine J3.mono ?_; clear J3; rintro e w4 ⟨v4, rfl, o4, hb4⟩; have o4s := o4; obtain ⟨ps, cs, rfl⟩ := o4s.shape)
  have A4 : Below M w2 w4 := A3.trans (hb4.mono (by omega))
  have C4 := C2.out.below (by rw [hM]; exact A4)
  have J4 := BD.out w4 g c rs C4.doc (B3.out.trans (A4.mono HMB.out))
  have hH4 := H2.below hb4
  have zM : Hid (M + 1 ≤ w4.heap.size) := by have := hb4.size; show _ ≤ _; omega
  have HA4 : Hid (Below M w2 w4) := A4
  clear A3 C4 A4 H2 B2 hb1 hb2
  go_upto_region 7 with (first
    | (go_at_call 9; refine J4.mono ?_; clear J4; rintro e w5 ⟨v5, rfl, o5, hb5⟩; have J5 := NOD.out _ _ _ o5)
    | (go_at_call 14; refine J5.mono ?_; clear J5; rintro e w6 ⟨v6, rfl, o6, hb6⟩; have o6s := o6; obtain ⟨pn, cn, rfl⟩ := o6s.shape))
  have H6 := (hH4.below hb5).below hb6
  have O4 : Hid (OwnI w6 (M + 1) (.slice ps sh.length cs) sh) := by
    have h1 : OwnI w4 (M + 1) (.slice ps sh.length cs) sh := by rw [z3] at o4; exact o4
    exact owns_below (owns_below h1 hb5) hb6
  have O6 : Hid (OwnI w6 (M + 1) (.slice pn L.length cn) L) := by
    have h1 : M + 1 ≤ w5.heap.size := by have := zM.out; have := hb5.size; omega
    obtain ⟨q1, q2⟩ := o6
    refine ⟨q1, ?_⟩
    rcases q2 with q2 | ⟨g, cap, cur, e, q3, q4⟩
    · exact Or.inl q2
    · exact Or.inr ⟨g, cap, cur, e, by omega, q4⟩
  have A6 : Hid (Below M w2 w6) := (HA4.out.trans (hb5.mono (by have := zM.out; omega))).trans (hb6.mono (by have := zM.out; have := hb5.size; omega))
  have ST : Hid (∀ W, But w6.heap.size M w6 W → Cx W g 0 c rs d ∧ OwnI W (M + 1) (.slice ps sh.length cs) sh ∧ OwnI W (M + 1) (.slice pn L.length cn) L ∧ Below w.heap.size w W) := fun W hbt => by
    have h1 : Below M w2 W := A6.out.trans (hbt.below (by have := zM.out; have := hb5.size; have := hb6.size; omega) (Nat.le_refl _))
    exact ⟨C2.out.below (by rw [hM]; exact h1), hbt.owns (Nat.le_refl _) O4.out (by omega), hbt.owns (Nat.le_refl _) O6.out (by omega), B3.out.trans (h1.mono HMB.out)⟩
  have kn : L.length ≤ cn ∧ cn ≤ 9223372036854775807 := by
    obtain ⟨_, _, he, h1, h2, _, _⟩ := (ints_of_owns O6.out).at
    cases he
    exact ⟨h1, h2⟩
  obtain ⟨kn1, kn2⟩ := kn
  have LF : Hid (L.length ≤ 60) := hfew
  have Z6 : Hid (M + 1 ≤ w6.heap.size) := by have := zM.out; have := hb5.size; have := hb6.size; show _ ≤ _; omega
  clear o4 o4s o5 o6 o6s hb4 hb5 hb6 hH4 HA4 A6 zM O4 O6 C2 B3 HMB z3 NOD SS BD C QB hA hfew hsf hmm
  go_loopw [19] (fun i wr => ∃ j : Nat, j ≤ L.length ∧ i = .int .i64 j ∧ HadAt wr M (L.take j) ∧ But w6.heap.size M w6 wr) (fun i _ => L.length - (intOf i).toNat)
  case atStart => exact ⟨0, Nat.zero_le _, rfl, by simpa using H6, But.refl _ _ _⟩
  case round =>
    obtain ⟨j, hj, rfl, HR, hbt⟩ := hrel
    obtain ⟨CR, OS, OL, BR⟩ := ST.out wr hbt
    by_cases hlt : j < L.length
    · obtain ⟨_, _, he, _, _, _, hat⟩ := (ints_of_owns OL).at
      cases he
      obtain ⟨b1, o1, rfl, hc1⟩ := hat j hlt
      have hmem := List.getElem_mem hlt
      obtain ⟨m1, m2, m3⟩ := WY.out _ hmem
      have hno := take_new ND.out hlt
      have F : Hid (L.take (j + 1) = L.take j ++ [L[j]]) := List.take_succ_eq_append_getElem hlt
      have htl : (L.take j).length ≤ 1000 := by have := LF.out; rw [List.length_take]; omega
      have hlk := HR.look L[j] m3
      rw [hno] at hlk
      have QH := qhid_all CR (L[j] : Int)
      rw [m2] at QH
      have QS : Hid (∀ W, Below wr.heap.size wr W → Calls Tryz.prog 23 #[.slice ps sh.length cs, .int .i64 (L[j] : Int)] W fun e w' => e = .returned (.bool true) ∧ w' = W) := fun W hb => by
        have h1 := qhas_any (ints_of_owns (owns_below OS hb)) L[j]
        have h2 : sh.contains L[j] = true := by simpa using m1
        rw [h2] at h1
        exact h1
      have hMw : M < wr.heap.size := HR.lt
      have HBT : Hid (But w6.heap.size M w6 wr) := hbt
      have HHR : Hid (HadAt wr M (L.take j)) := HR
      have HM3 : Hid (L[j] ≤ 1000) := m3
      clear hat OL OS CR hmem m1 m2 hno BR HR hbt m3
      generalize L[j] = n at *
      generalize hacc : L.take j = acc at *
      clear hacc
      go_wp2_with (first
        | (go_at_call 22; refine QH.mono ?_; clear QH; rintro e w7 ⟨rfl, hb7⟩; have Q7 := QS.out w7 hb7)
        | (go_at_call 23; refine Q7.mono ?_; clear Q7; rintro e w8 ⟨rfl, hww⟩; subst hww)
        | (at_mapUpdate; refine had_put rfl _ _ _ rfl M acc n HM3.out htl rfl (HHR.out.below hb7) rfl rfl ?_; intro w9 H9 g9))
      go_roundw
      case rel =>
        refine ⟨j + 1, by omega, by go_num, by rw [F.out]; exact H9, ?_⟩
        have hz := HBT.out.size
        exact (HBT.out.trans (But.of hb7 hz)).trans ⟨g9.os, g9.tape, g9.output, g9.size, fun i hi hn => g9.block i (by have := hb7.size; omega) (fun e => hn (by injection e))⟩
      case measure => simp [intOf]; omega
    · obtain rfl : j = L.length := by omega
      go_wp2_with fail
      go_ret
      exact ⟨rfl, BR⟩
end Go.Proofs.YtbinbojicmhdlaeGreatDoor

/-
  THE WALK of tnlaw8's TreeAll.
-/
namespace Go.Proofs.YtbinbojicmhdlaeGreatDoor
open Go.RowKit Go.Maps

theorem role_text {d : Tn.Dc} (h : Fine d) {x : Nat} (hx : Tn.lvD d x = true) (ht : Tn.has (Tn.nd d x).tag = false) : roleD d (x : Int) = 10 := by
  have hi : Tn.isN d (x : Int) false = true := by rw [Tn.isN_iff]; exact hx
  rw [(role_cons h hi).1, alone_text (by rw [isN_el hi]; exact ht), fit_zero need_text]

/-- all that is on the way up from a lets x be told of -/
def upOpen (d : Tn.Dc) (cl : List Cl) (x : Nat) (a : Int) : Bool := (wayD d cl a).all (openB d x)
theorem up_open {d : Tn.Dc} (h : Fine d) {cl : List Cl} (hl : Forest d cl) (x : Nat) {a : Nat} (ha : a ∈ shD d) : upOpen d cl x (a : Int) = (openB d x a && upOpen d cl x (inD d cl (a : Int))) := by
  unfold upOpen
  rw [way_cons h hl ha, List.all_cons]
theorem up_end (d : Tn.Dc) (cl : List Cl) (x : Nat) : upOpen d cl x (-1) = true := by
  unfold upOpen
  rw [way_no d cl (by omega)]
  rfl
def wayM (d : Tn.Dc) (cl : List Cl) (v : Value) : Nat := (wayD d cl (intOf v)).length
theorem told_open {d : Tn.Dc} (h : Fine d) {x : Nat} (hx : x ∈ shD d) (ht : Tn.has (Tn.nd d x).tag = false) (hs : (textD d x).toList.isEmpty = false) : (nodesL (treeD d)).contains x = upOpen d (claimsD d) x (x : Int) := by
  rw [tree_told, Bool.eq_iff_iff, List.contains_eq_mem, decide_eq_true_eq, told_root h (forest_claims h) hx (role_text h (sh_lv h hx) ht) hs]
  unfold upOpen
  rw [List.all_eq_true]

set_option maxHeartbeats 6400000 in
set_option maxRecDepth 100000 in
theorem tall_walk {w : World} (T : Kn.TabAt w) {vl : Value} {l : List Tn.Chg} (hl : ChgsAt w vl l) (hsz : ∀ x ∈ l, x.value.size ≤ 4194304 ∧ x.name.size ≤ 4194304) :
    Calls Tryz.prog 5 #[vl] w fun e w' => e = .returned (.bool true) ∧ Below w.heap.size w w' := by
  have hA := l8alive_any T
  have QB : Hid (∀ W, Below w.heap.size w W → Calls Tryz.prog 7 #[vl] W fun e w' => ∃ g c rs, e = .returned (.slice (some ⟨g, 0, none⟩) rs.length c) ∧ DocAt w' g 0 c rs (Tn.build l) ∧ Below W.heap.size W w') := fun W hW => rbuild_good (hl.keeps (keeps_below hW (Nat.le_refl _))) hsz
  have C : Hid (∀ w1 g c rs, DocAt w1 g 0 c rs (Tn.build l) → Below w.heap.size w w1 → Cx w1 g 0 c rs (Tn.build l)) := fun w1 g c rs h hb => cx_build h (T.below hb) hsz
  have BD : Hid (∀ W g c rs, DocAt W g 0 c rs (Tn.build l) → Below w.heap.size w W → Calls Tryz.prog 9 #[.slice (some ⟨g, 0, none⟩) rs.length c] W fun e w' => ∃ v, e = .returned v ∧ OwnT w' W.heap.size v (treeD (Tn.build l)) ∧ Below W.heap.size W w') := fun W g c rs h hb => tbuild_any h (T.below hb) hsz
  have CL : Hid (∀ W g c rs, DocAt W g 0 c rs (Tn.build l) → Calls Tryz.prog 8 #[.slice (some ⟨g, 0, none⟩) rs.length c] W fun e w' => ∃ v, e = .returned v ∧ OwnC w' W.heap.size v (claimsD (Tn.build l)) ∧ Below W.heap.size W w') := fun W g c rs h => qclaims_any (dx_build h hsz)
  have hF := build_fine l
  have hFo := forest_claims hF
  have hfew := tree_few hF
  have NOD : Hid (∀ W B v, OwnT W B v (treeD (Tn.build l)) → Calls Tryz.prog 14 #[v] W fun e w' => ∃ v', e = .returned v' ∧ OwnI w' W.heap.size v' (nodesL (treeD (Tn.build l))) ∧ Below W.heap.size W w') := fun W B v h => tnodes_any h.row (by omega)
  have hsf := (sh_few hF).1
  have SS : Hid (∀ W g c rs, Cx W g 0 c rs (Tn.build l) → Calls Tryz.prog 21 #[.slice (some ⟨g, 0, none⟩) rs.length c, .int .i64 0] W fun e w' => ∃ v, e = .returned v ∧ OwnI w' W.heap.size v (shD (Tn.build l)) ∧ Below W.heap.size W w') := fun W g c rs h => qshown_any hF Tn.fuel 0 W h.doc (fine_end hF) (by have : (shownF Tn.fuel (Tn.build l) 0).length ≤ 60 := hsf; omega)
  have TO : Hid (∀ x ∈ shD (Tn.build l), Tn.has (Tn.nd (Tn.build l) x).tag = false → (textD (Tn.build l) x).toList.isEmpty = false → (nodesL (treeD (Tn.build l))).contains x = upOpen (Tn.build l) (claimsD (Tn.build l)) x (x : Int)) := fun x h1 h2 h3 => told_open hF h1 h2 h3
  have UO : Hid (∀ x a : Nat, a ∈ shD (Tn.build l) → upOpen (Tn.build l) (claimsD (Tn.build l)) x (a : Int) = (openB (Tn.build l) x a && upOpen (Tn.build l) (claimsD (Tn.build l)) x (inD (Tn.build l) (claimsD (Tn.build l)) (a : Int)))) := fun x a h => up_open hF hFo x h
  have UM : Hid (∀ a : Nat, a ∈ shD (Tn.build l) → (inD (Tn.build l) (claimsD (Tn.build l)) (a : Int) = -1 ∨ ∃ y ∈ shD (Tn.build l), inD (Tn.build l) (claimsD (Tn.build l)) (a : Int) = (y : Int)) ∧ wayM (Tn.build l) (claimsD (Tn.build l)) (.int .i64 (inD (Tn.build l) (claimsD (Tn.build l)) (a : Int))) < wayM (Tn.build l) (claimsD (Tn.build l)) (.int .i64 (a : Int))) := fun a h => ⟨in_cases hF hFo h, by
    unfold wayM
    show (wayD _ _ (inD _ _ _)).length < (wayD _ _ (a : Int)).length
    rw [way_cons hF hFo h, List.length_cons]
    omega⟩
  have LV : Hid (∀ x ∈ shD (Tn.build l), Tn.lvD (Tn.build l) x = true) := fun x hx => sh_lv hF hx
  have VT : Hid (∀ j, Vt (Tn.nd (Tn.build l) j)) := fun j => build_vt hsz j
  have hdl := hF.good.len.2
  have FI : Hid (Fine (Tn.build l)) := hF
  obtain ⟨p, cp, rfl, _, _, _⟩ := hl.at
  clear hl hsz T hF hFo hfew
  generalize nodesL (treeD (Tn.build l)) = L at *
  generalize treeD (Tn.build l) = R at *
  generalize Tn.build l = d at *
  generalize claimsD d = cl at *
  generalize shD d = sh at *
  go_enter Tryz.func5, Tryz.ntmps5
  go_upto_region 7 with (first
    | (go_at_call 20; refine hA.mono ?_; rintro e w1 ⟨rfl, hb1⟩)
    | (go_at_call 7; refine (QB.out _ hb1).mono ?_; rintro e w2 ⟨g, c, rs, rfl, hd2, hb2⟩; have B2 := hb1.trans (hb2.mono hb1.size); have J2 := CL.out _ _ _ _ hd2)
    | (go_at_call 8; refine J2.mono ?_; clear J2; rintro e w3 ⟨v3, rfl, o3, hb3⟩; have B3 := B2.trans (hb3.mono B2.size); have d3 := hd2.keeps (keeps_below hb3 (Nat.le_refl _)); have J3 := BD.out _ _ _ _ d3 B3)
    | (go_at_call 9; refine J3.mono ?_; clear J3; rintro e w4 ⟨v4, rfl, o4, hb4⟩; have J4 := NOD.out _ _ _ o4)
    | (go_at_call 14; refine J4.mono ?_; clear J4; rintro e w5 ⟨v5, rfl, o5, hb5⟩; have B5 := (B3.trans (hb4.mono B3.size)).trans (hb5.mono (B3.trans (hb4.mono B3.size)).size); have d5 := (d3.keeps (keeps_below hb4 (Nat.le_refl _))).keeps (keeps_below hb5 (Nat.le_refl _)); have J5 := SS.out _ _ _ _ (C.out _ _ _ _ d5 B5))
    | (go_at_call 21; refine J5.mono ?_; clear J5; rintro e w6 ⟨v6, rfl, o6, hb6⟩; have o6s := o6; obtain ⟨ps, cs, rfl⟩ := o6s.shape))
  have B6 : Hid (Below w.heap.size w w6) := B5.trans (hb6.mono B5.size)
  have C6 : Hid (Cx w6 g 0 c rs d) := C.out _ _ _ _ (d5.keeps (keeps_below hb6 (Nat.le_refl _))) B6.out
  have L6 : Hid (ClsAt w6 v3 cl) := (cls_of_owns o3).keeps (keeps_below ((hb4.trans (hb5.mono hb4.size)).trans (hb6.mono (hb4.trans (hb5.mono hb4.size)).size)) (Nat.le_refl _))
  have I5 : Hid (IntsAt w6 v5 L) := (ints_of_owns o5).keeps (keeps_below hb6 (Nat.le_refl _))
  have hcl := (ints_of_owns o6).at
  obtain ⟨_, _, he, ks1, ks2, _, hat⟩ := hcl
  cases he
  have TS : Hid (∀ j (hj : j < sh.length), ∃ b o, ps = some ⟨b, o, none⟩ ∧ w6.cell? ⟨b, o + j, none⟩ = some (.int .i64 (sh[j] : Int))) := hat
  have hrl : rs.length ≤ 1000 := by rw [C6.out.doc.len]; omega
  have hcm := C6.out.doc.capM
  have QHD : Hid (∀ W (n : Int), Below w6.heap.size w6 W → Calls Tryz.prog 22 #[.slice (some ⟨g, 0, none⟩) rs.length c, .int .i64 n] W fun e w' => e = .returned (.bool (hidD d n)) ∧ Below w6.heap.size w6 w') := fun W n h => (qhid_all (C6.out.below h) n).mono (by
    rintro e w' ⟨rfl, hb⟩
    exact ⟨rfl, h.trans (hb.mono h.size)⟩)
  have QRO : Hid (∀ W (n : Int), Below w6.heap.size w6 W → Calls Tryz.prog 27 #[.slice (some ⟨g, 0, none⟩) rs.length c, .int .i64 n] W fun e w' => e = .returned (.int .i64 (roleD d n)) ∧ Below w6.heap.size w6 w') := fun W n h => (qrole_all (C6.out.below h) n).mono (by
    rintro e w' ⟨rfl, hb⟩
    exact ⟨rfl, h.trans (hb.mono h.size)⟩)
  have QKI : Hid (∀ W (r : Int), Below w6.heap.size w6 W → Calls Tryz.prog 26 #[.int .i64 r] W fun e w' => (∃ a0 a1 a3 a4 a5 a6, e = .returned (.agg #[a0, a1, .bool (leafI r), a3, a4, a5, a6])) ∧ Below w6.heap.size w6 w') := fun W r h => (Kn.qkind_any (w := W) r).mono (by
    rintro e w' ⟨rfl, hb⟩
    exact ⟨⟨_, _, _, _, _, _, rfl⟩, h.trans (hb.mono h.size)⟩)
  have QIN : Hid (∀ W (n : Int), Below w6.heap.size w6 W → Calls Tryz.prog 25 #[.slice (some ⟨g, 0, none⟩) rs.length c, v3, .int .i64 n] W fun e w' => e = .returned (.int .i64 (inD d cl n)) ∧ Below w6.heap.size w6 w') := fun W n h => (qin_any (C6.out.below h).doc FI.out (L6.out.keeps (keeps_below h (Nat.le_refl _))) n).mono (by
    rintro e w' ⟨rfl, hb⟩
    exact ⟨rfl, h.trans (hb.mono h.size)⟩)
  have QHS : Hid (∀ W (n : Nat), Below w6.heap.size w6 W → Calls Tryz.prog 23 #[v5, .int .i64 (n : Int)] W fun e w' => e = .returned (.bool (L.contains n)) ∧ w' = W) := fun W n h => qhas_any (I5.out.keeps (keeps_below h (Nat.le_refl _))) n
  have QSQ : Hid (∀ W (n : Nat), Below w6.heap.size w6 W → Calls Tryz.prog 24 #[.string (Tn.nd d n).text] W fun e w' => e = .returned (.string (textD d n)) ∧ Below w6.heap.size w6 w') := fun W n h => (Wd.rsqueeze_any _ W (VT.out n)).mono (by
    rintro e w' ⟨rfl, hb⟩
    exact ⟨rfl, h.trans (hb.mono h.size)⟩)
  have TG : Hid (∀ W (n : Nat), Below w6.heap.size w6 W → Tn.lvD d n = true → W.cell? ⟨g, 0 + n * 9 + 1, none⟩ = some (.string (Tn.nd d n).tag) ∧ W.cell? ⟨g, 0 + n * 9 + 2, none⟩ = some (.string (Tn.nd d n).text) ∧ n < rs.length) := fun W n h hn => tag_cell (C6.out.below h).doc hn
  obtain ⟨pl, cv, rfl⟩ := o5.shape
  obtain ⟨pc, cc, rfl⟩ := o3.shape
  clear hat o3 o4 o5 o6 o6s hb1 hb2 hb3 hb4 hb5 hb6 B2 B3 B5 hd2 d3 d5 C6 L6 I5 QB C BD CL NOD SS hA VT FI hsf hdl
  have FL := field_leaf
  go_loopw [22] (fun i wr => ∃ j : Nat, j ≤ sh.length ∧ i = .int .i64 j ∧ Below w6.heap.size w6 wr) (fun i _ => sh.length - (intOf i).toNat)
  case atStart => exact ⟨0, Nat.zero_le _, rfl, Below.refl _ _⟩
  case round =>
    obtain ⟨j, hj, rfl, BR⟩ := hrel
    by_cases hlt : j < sh.length
    · obtain ⟨b1, o1, rfl, hc⟩ := TS.out j hlt
      have hcr := keeps_below BR (Nat.le_refl _) _ _ hc
      have hmem := List.getElem_mem hlt
      have hlv := LV.out _ hmem
      have tg := TG.out wr sh[j] BR hlv
      obtain ⟨t1, t2, hnr⟩ := tg
      rw [Nat.zero_add] at t1 t2
      have HT := TO.out _ hmem
      have HME : Hid (sh[j] ∈ sh) := hmem
      have SQ := QSQ.out wr sh[j] BR
      clear hc hmem hlv
      generalize sh[j] = n at *
      generalize textD d n = tx at *
      generalize (Tn.nd d n).tag = tag at *
      generalize (Tn.nd d n).text = txt at *
      cases htag : Tn.has tag with
      | true =>
        have h2 : tag.toList.isEmpty = false := by unfold Tn.has at htag; simpa using htag
        clear HT htag SQ
        go_wp2_with fail
        go_roundw
        case rel => exact ⟨j + 1, by omega, by go_num, BR⟩
        case measure => simp [intOf]; omega
      | false =>
        have h2 : tag.toList.isEmpty = true := by unfold Tn.has at htag; simpa using htag
        have HT2 := HT htag
        clear HT htag
        cases htx : tx.toList.isEmpty with
        | true =>
          clear HT2
          go_wp2_with (go_at_call 24; refine SQ.mono ?_; clear SQ; rintro e w7 ⟨rfl, hb7⟩)
          go_roundw
          case rel => exact ⟨j + 1, by omega, by go_num, hb7⟩
          case measure => simp [intOf]; omega
        | false =>
          have HT3 : Hid (L.contains n = upOpen d cl n (n : Int)) := HT2 htx
          clear HT2
          go_upto_region 12 with (go_at_call 24; refine SQ.mono ?_; clear SQ; rintro e w7 ⟨rfl, hb7⟩)
          have IN1 := fun W x hb => QIN.out W x hb
          clear QSQ TG t1 t2 hcr h2
          go_loopw [8, 9] (fun ov av wq => ∃ (ob : Bool) (a : Int), ov = .bool ob ∧ av = .int .i64 a ∧ (a = -1 ∨ ∃ x : Nat, a = (x : Int) ∧ x ∈ sh) ∧ Hid (upOpen d cl n (n : Int) = (ob && upOpen d cl n a)) ∧ Below w6.heap.size w6 wq) (fun _ av _ => wayM d cl av)
          case atStart => exact ⟨true, (n : Int), rfl, rfl, Or.inr ⟨n, rfl, HME.out⟩, rfl, hb7⟩
          case round =>
            obtain ⟨ob, a, rfl, rfl, ha, HU, BQ⟩ := hrel
            rcases ha with rfl | ⟨x, rfl, hx⟩
            · have e : Hid (L.contains n = ob) := by show _ = _; rw [HT3.out, HU.out, up_end, Bool.and_true]
              have QH := QHS.out wr n BQ
              rw [e.out] at QH
              clear HU e
              cases ob with
              | true =>
                go_wp2_with (go_at_call 23; refine QH.mono ?_; clear QH; rintro e w8 ⟨rfl, hww⟩; subst hww)
                go_roundw
                case rel => exact ⟨j + 1, by omega, by go_num, BQ⟩
                case measure => simp [intOf]; omega
              | false =>
                go_wp2_with (go_at_call 23; refine QH.mono ?_; clear QH; rintro e w8 ⟨rfl, hww⟩; subst hww)
                go_roundw
                case rel => exact ⟨j + 1, by omega, by go_num, BQ⟩
                case measure => simp [intOf]; omega
            · have UX := UO.out n x hx
              obtain ⟨u1, u2'⟩ := UM.out x hx
              have MS : Hid (wayM d cl (.int .i64 (inD d cl (x : Int))) < wayM d cl (.int .i64 (x : Int))) := u2'
              have HN : Hid (inD d cl (x : Int) = -1 ∨ ∃ y : Nat, inD d cl (x : Int) = (y : Int) ∧ y ∈ sh) := by
                rcases u1 with h | ⟨y, h1, h2⟩
                · exact Or.inl h
                · exact Or.inr ⟨y, h2, h1⟩
              have NX : Hid (∀ ob2 : Bool, (ob && openB d n x) = ob2 → upOpen d cl n (n : Int) = (ob2 && upOpen d cl n (inD d cl (x : Int)))) := fun ob2 h => by rw [HU.out, UX, ← h, Bool.and_assoc]
              have OB : Hid (openB d n x = (!hidD d (x : Int) && (decide (x = n) || !leafI (roleD d (x : Int))))) := rfl
              have INx := fun W hb => IN1 W (x : Int) hb
              have HH := QHD.out wr (x : Int) BQ
              have HRO := fun W hb => QRO.out W (x : Int) hb
              clear UX u1 u2' HU hx IN1
              generalize inD d cl (x : Int) = a2 at *
              generalize openB d n x = ox at *
              cases ob with
              | false =>
                go_wp2_with (go_at_call 25; refine (INx _ BQ).mono ?_; rintro e w8 ⟨rfl, hb8⟩)
                go_roundw
                case rel => exact ⟨false, a2, rfl, rfl, HN.out, NX.out false rfl, hb8⟩
                case measure => exact MS.out
              | true =>
                generalize hidD d (x : Int) = hdx at *
                cases hdx with
                | true =>
                  have e : Hid (ox = false) := by show _ = _; rw [OB.out]; rfl
                  go_wp2_with (first
                    | (go_at_call 22; refine HH.mono ?_; clear HH; rintro e w8 ⟨rfl, hb8⟩)
                    | (go_at_call 25; refine (INx _ hb8).mono ?_; rintro e w9 ⟨rfl, hb9⟩))
                  go_roundw
                  case rel => exact ⟨false, a2, rfl, rfl, HN.out, NX.out false (by rw [e.out]; rfl), hb9⟩
                  case measure => exact MS.out
                | false =>
                  by_cases hxn : x = n
                  · have e : Hid (ox = true) := by show _ = _; rw [OB.out, hxn]; simp
                    have hq : ((x : Int) == (n : Int)) = true := by rw [hxn]; simp
                    clear hxn OB
                    go_wp2_with (first
                      | (go_at_call 22; refine HH.mono ?_; clear HH; rintro e w8 ⟨rfl, hb8⟩)
                      | (go_at_call 25; refine (INx _ hb8).mono ?_; rintro e w9 ⟨rfl, hb9⟩))
                    go_roundw
                    case rel => exact ⟨true, a2, rfl, rfl, HN.out, NX.out true (by rw [e.out]; rfl), hb9⟩
                    case measure => exact MS.out
                  · have e : Hid (ox = !leafI (roleD d (x : Int))) := by show _ = _; rw [OB.out]; simp [hxn]
                    have hq : ((x : Int) == (n : Int)) = false := by simp; omega
                    clear hxn OB
                    generalize roleD d (x : Int) = rx at *
                    cases hlf : leafI rx with
                    | true =>
                      have QK := fun W hb => QKI.out W rx hb
                      rw [hlf] at QK
                      go_wp2_with (first
                        | (go_at_call 22; refine HH.mono ?_; clear HH; rintro e w8 ⟨rfl, hb8⟩)
                        | (go_at_call 27; refine (HRO _ hb8).mono ?_; clear HRO; rintro e w9 ⟨rfl, hb9⟩)
                        | (go_at_call 26; refine (QK _ hb9).mono ?_; clear QK; rintro e w10 ⟨⟨a0, a1, a3, a4, a5, a6, rfl⟩, hb10⟩)
                        | (go_at_call 25; refine (INx _ hb10).mono ?_; rintro e w11 ⟨rfl, hb11⟩))
                      go_roundw
                      case rel => exact ⟨false, a2, rfl, rfl, HN.out, NX.out false (by rw [e.out, hlf]; rfl), hb11⟩
                      case measure => exact MS.out
                    | false =>
                      have QK := fun W hb => QKI.out W rx hb
                      rw [hlf] at QK
                      go_wp2_with (first
                        | (go_at_call 22; refine HH.mono ?_; clear HH; rintro e w8 ⟨rfl, hb8⟩)
                        | (go_at_call 27; refine (HRO _ hb8).mono ?_; clear HRO; rintro e w9 ⟨rfl, hb9⟩)
                        | (go_at_call 26; refine (QK _ hb9).mono ?_; clear QK; rintro e w10 ⟨⟨a0, a1, a3, a4, a5, a6, rfl⟩, hb10⟩)
                        | (go_at_call 25; refine (INx _ hb10).mono ?_; rintro e w11 ⟨rfl, hb11⟩))
                      go_roundw
                      case rel => exact ⟨true, a2, rfl, rfl, HN.out, NX.out true (by rw [e.out, hlf]; rfl), hb11⟩
                      case measure => exact MS.out
    · obtain rfl : j = sh.length := by omega
      go_wp2_with fail
      go_ret
      exact ⟨rfl, B6.out.trans (BR.mono B6.out.size)⟩
end Go.Proofs.YtbinbojicmhdlaeGreatDoor
