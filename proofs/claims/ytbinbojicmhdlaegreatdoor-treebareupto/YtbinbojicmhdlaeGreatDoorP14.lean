/-
  OWN WORK: Tno, Tow, Vcl, Vck, Vcm, Nlv, Tal8, Tbr, Tlb.
-/
import Derived.Test.YtbinbojicmhdlaeGreatDoorP9
import Derived.Test.YtbinbojicmhdlaeGreatDoorP4
import Derived.Test.YtbinbojicmhdlaeGreatDoorP6
import Derived.Test.YtbinbojicmhdlaeGreatDoorP10
import Derived.Test.YtbinbojicmhdlaeGreatDoorP13
import Derived.Test.YtbinbojicmhdlaeGreatDoorP12
import Derived.Test.YtbinbojicmhdlaeGreatDoorP8
import Derived.Test.YtbinbojicmhdlaeGreatDoorP7
/-
  THE WALK of tree.Nodes, and of the function in it that calls itself.
-/
namespace Go.Proofs.YtbinbojicmhdlaeGreatDoor
open Go.RowKit

theorem nodesL_lt : ∀ (l : List It) (j : Nat) (h : j < l.length), (nodesL l[j].kids).length < (nodesL l).length
  | [], _, h => by simp at h
  | x :: l, 0, _ => by
    rw [nodesL, List.length_append, List.getElem_cons_zero, nodes1_eq, List.length_cons]
    omega
  | x :: l, j + 1, h => by
    have := nodesL_lt l j (by simpa using h)
    rw [nodesL, List.length_append, List.getElem_cons_succ]
    omega
theorem nodesL_take : ∀ (l : List It) (j : Nat) (h : j < l.length), nodesL (l.take (j + 1)) = nodesL (l.take j) ++ (l[j].node :: nodesL l[j].kids)
  | [], _, h => by simp at h
  | x :: l, 0, _ => by simp [nodesL, nodes1_eq]
  | x :: l, j + 1, h => by
    rw [List.take_succ_cons, List.take_succ_cons, nodesL, nodesL, nodesL_take l j (by simpa using h), List.getElem_cons_succ, List.append_assoc]
theorem nodesL_take_le (l : List It) (j : Nat) : (nodesL (l.take j)).length ≤ (nodesL l).length := by
  have e : l = l.take j ++ l.drop j := (List.take_append_drop j l).symm
  have h : (nodesL l).length = (nodesL (l.take j)).length + (nodesL (l.drop j)).length := by
    conv => lhs; rw [e, nodesL_app, List.length_append]
  omega

/-- the two variables of the function in Nodes: what there is so far, itself -/
structure Vars2 (w : World) (A K B : Nat) (acc : List Nat) (va : Value) : Prop where
  k : w.cell? ⟨K, 0, none⟩ = some (.func (.func 39) #[] #[.pointer (some ⟨A, 0, none⟩), .pointer (some ⟨K, 0, none⟩)])
  a : w.cell? ⟨A, 0, none⟩ = some va
  f : w.frozen? ⟨A, 0, none⟩ = false
  own : OwnI w B va acc

theorem But.row {B A : Nat} {w w' : World} (h : But B A w w') (hB : w.heap.size ≤ B) {v : Value} {l : List It} (hr : ItsAt w (fun g => g ≠ A) v l) : ItsAt w' (fun g => g ≠ A) v l :=
  hr.frame (fun g hg hlt => ⟨h.block g (by omega) hg, hg⟩)

set_option maxHeartbeats 3200000 in
set_option maxRecDepth 100000 in
theorem nodes1_any {w0 : World} {A K B : Nat} (hB : w0.heap.size = B) (hKA : K ≠ A) (hKB : K < B) (hAB : A < B) (m : Nat) :
    ∀ (v : Value) (l : List It) (acc : List Nat) (va : Value) (w : World), ItsAt w0 (fun g => g ≠ A) v l → (nodesL l).length ≤ m → But B A w0 w → Vars2 w A K B acc va → (acc ++ nodesL l).length ≤ 10000 →
      Calls Tryz.prog 39 #[v, .pointer (some ⟨A, 0, none⟩), .pointer (some ⟨K, 0, none⟩)] w fun e w' =>
        e = .returned (.tuple #[]) ∧ But B A w0 w' ∧ ∃ va', Vars2 w' A K B (acc ++ nodesL l) va' := by
  have HB : Hid (w0.heap.size = B) := hB
  clear hB
  induction m with
  | zero =>
    intro v l acc va w hr hm hbut hv hsz
    have hl : l = [] := by
      have := top_few l
      exact List.length_eq_zero_iff.mp (by omega)
    subst hl
    obtain ⟨p, c, rfl⟩ := hr.shape
    clear hr
    go_enter Tryz.func39, Tryz.ntmps39
    go_wp2_with fail
    refine wp_loop_rounds 1 ?_
    rw [rounds_succ]
    go_wp2_with fail
    go_end0
    exact ⟨rfl, hbut, va, by simpa [nodesL] using hv⟩
  | succ m ih =>
    intro v l acc va w hr hm hbut hv hsz
    obtain ⟨p, c, rfl, y1, y2, hat⟩ := hr.at
    have T : Hid (∀ j (hj : j < l.length), ∃ b o kv, p = some ⟨b, o, none⟩ ∧ b ≠ A ∧ ItAt w0 b (o + j * 8) l[j] kv ∧ ItsAt w0 (fun g => g ≠ A) kv l[j].kids) := hat
    have Z : Hid ((acc ++ nodesL l).length ≤ 10000) := hsz
    have ZM : Hid (∀ j (hj : j < l.length), (nodesL l[j].kids).length ≤ m) := fun j hj => by have := nodesL_lt l j hj; omega
    clear hr hat hsz hm
    go_enter Tryz.func39, Tryz.ntmps39
    go_wp2_with fail
    go_loopw [8] (fun i wr => ∃ (j : Nat) (va : Value), j ≤ l.length ∧ i = .int .i64 j ∧ But B A w0 wr ∧ Vars2 wr A K B (acc ++ nodesL (l.take j)) va)
      (fun i _ => l.length - (intOf i).toNat)
    case atStart => exact ⟨0, va, Nat.zero_le _, rfl, hbut, by simpa [nodesL] using hv⟩
    case round =>
      clear hv hbut
      obtain ⟨j, va, hj, rfl, hbut, hv⟩ := hrel
      by_cases hlt : j < l.length
      · obtain ⟨b1, o1, kv, rfl, hb1, hc, hrow⟩ := T.out j hlt
        have c0 := hbut.cell hc.c0 (by rw [HB.out]; exact Nat.le_refl _) hb1
        have c1 := hbut.cell hc.c1 (by rw [HB.out]; exact Nat.le_refl _) hb1
        have c2 := hbut.cell hc.c2 (by rw [HB.out]; exact Nat.le_refl _) hb1
        have c3 := hbut.cell hc.c3 (by rw [HB.out]; exact Nat.le_refl _) hb1
        have c4 := hbut.cell hc.c4 (by rw [HB.out]; exact Nat.le_refl _) hb1
        have c5 := hbut.cell hc.c5 (by rw [HB.out]; exact Nat.le_refl _) hb1
        have c6 := hbut.cell hc.c6 (by rw [HB.out]; exact Nat.le_refl _) hb1
        have c7 := hbut.cell hc.c7 (by rw [HB.out]; exact Nat.le_refl _) hb1
        have F : Hid (acc ++ nodesL (l.take (j + 1)) = ((acc ++ nodesL (l.take j)) ++ [l[j].node]) ++ nodesL l[j].kids) := by
          show _ = _
          rw [nodesL_take l j hlt]
          simp
        have hZj : Hid ((((acc ++ nodesL (l.take j)) ++ [l[j].node]) ++ nodesL l[j].kids).length ≤ 10000) := by
          show _ ≤ _
          rw [← F.out]
          have h1 := Z.out
          have h2 := nodesL_take_le l (j + 1)
          rw [List.length_append] at h1 ⊢
          omega
        have hsf : (acc ++ nodesL (l.take j)).length ≤ 1000000 := by have h1 := hZj.out; rw [List.length_append, List.length_append] at h1; omega
        have RW : Hid (ItsAt w0 (fun g => g ≠ A) kv l[j].kids) := hrow
        have ZJ : Hid ((nodesL l[j].kids).length ≤ m) := ZM.out j hlt
        obtain ⟨pk, ck, rfl⟩ := hrow.shape
        clear hc hrow
        generalize acc ++ nodesL (l.take j) = sf at *
        generalize l[j].kids = ks at *
        generalize l[j].node = x at *
        generalize l[j].role = x1 at *
        generalize l[j].name = x2 at *
        generalize l[j].about = x3 at *
        generalize l[j].level = x4 at *
        generalize l[j].checked = x5 at *
        generalize l[j].off = x6 at *
        obtain ⟨vk, vaa, vf, vown⟩ := hv
        have hBw : B ≤ wr.heap.size := by have h1 := hbut.size; rw [HB.out] at h1; exact h1
        go_upto_region 3 with fail
        have hNW := boxv8 wr (.int .i64 (x : Int)) (.int .i64 x1) (.string x2) (.string x3) (.int .i64 x4) (.int .i64 x5) (.bool x6) (.slice pk ks.length ck) 72
        have BB : Below wr.heap.size wr (wr.alloc (.cells #[.int .i64 (x : Int), .int .i64 x1, .string x2, .string x3, .int .i64 x4, .int .i64 x5, .bool x6, .slice pk ks.length ck] 72)) := (Below.refl _ _).alloc (Nat.le_refl _) _
        have zB : (wr.alloc (.cells #[.int .i64 (x : Int), .int .i64 x1, .string x2, .string x3, .int .i64 x4, .int .i64 x5, .bool x6, .slice pk ks.length ck] 72)).heap.size = wr.heap.size + 1 := by simp
        have vk2 := keeps_below BB (Nat.le_refl _) _ _ vk
        have va2 := keeps_below BB (Nat.le_refl _) _ _ vaa
        have vf2 : (wr.alloc (.cells #[.int .i64 (x : Int), .int .i64 x1, .string x2, .string x3, .int .i64 x4, .int .i64 x5, .bool x6, .slice pk ks.length ck] 72)).frozen? ⟨A, 0, none⟩ = false := (BB.frozen (p := ⟨A, 0, none⟩) (by simp only; omega)).trans vf
        have vown2 : OwnI (wr.alloc (.cells #[.int .i64 (x : Int), .int .i64 x1, .string x2, .string x3, .int .i64 x4, .int .i64 x5, .bool x6, .slice pk ks.length ck] 72)) B va sf := World.ownsRow.alloc vown _
        have hvlt := World.ownsRow.lt vown
        have hbut2 : But B A w0 (wr.alloc (.cells #[.int .i64 (x : Int), .int .i64 x1, .string x2, .string x3, .int .i64 x4, .int .i64 x5, .bool x6, .slice pk ks.length ck] 72)) := hbut.trans (But.of (BB.mono hBw) (Nat.le_refl _))
        clear BB vk vaa vf vown hbut c0 c1 c2 c3 c4 c5 c6 c7
        generalize hG : wr.heap.size = G at *
        generalize wr.alloc (.cells #[.int .i64 (x : Int), .int .i64 x1, .string x2, .string x3, .int .i64 x4, .int .i64 x5, .bool x6, .slice pk ks.length ck] 72) = wb at *
        obtain ⟨g0, g7⟩ := hNW
        have HBW : Hid (B ≤ G) := hBw
        go_upto_region 4 with (at_builtin; refine append_int2 (w0 := wb) rfl _ _ rfl x rfl (by simp [Act.eval, zB]) vown2 (Below.refl B wb) (by have := HBW.out; omega) hsf ?_; intro v1 w1 o1' n1' gr1 bl1; obtain ⟨pv, cv, rfl⟩ := o1'.shape; have a1 : w1.cell? ⟨A, 0, none⟩ = some va := (n1'.cell (p := ⟨A, 0, none⟩) hAB).trans va2; have f1 : w1.frozen? ⟨A, 0, none⟩ = false := (n1'.frozen (p := ⟨A, 0, none⟩) hAB).trans vf2)
        simp only [List.length_append, List.length_singleton] at o1'
        have k1 : w1.cell? ⟨K, 0, none⟩ = some (.func (.func 39) #[] #[.pointer (some ⟨A, 0, none⟩), .pointer (some ⟨K, 0, none⟩)]) := (n1'.cell (p := ⟨K, 0, none⟩) hKB).trans vk2
        have hGv : some G ≠ va.ownBlock := fun e => by have := (hvlt G e.symm).2; omega
        have e7 : w1.cell? ⟨G, 7, none⟩ = some (.slice pk ks.length ck) := gr1.cell g7 (by exact hGv)
        have k2 : (w1.setCell ⟨A, 0, none⟩ (.slice pv (sf.length + 1) cv)).cell? ⟨K, 0, none⟩ = some (.func (.func 39) #[] #[.pointer (some ⟨A, 0, none⟩), .pointer (some ⟨K, 0, none⟩)]) := by
          rw [World.cell?_setCell_other _ _ _ _ (by intro e; cases e; exact hKA rfl)]
          exact k1
        have e8 : (w1.setCell ⟨A, 0, none⟩ (.slice pv (sf.length + 1) cv)).cell? ⟨G, 7, none⟩ = some (.slice pk ks.length ck) := by
          rw [World.cell?_setCell_other _ _ _ _ (by intro e; cases e)]
          exact e7
        have bt2 : But B A w0 (w1.setCell ⟨A, 0, none⟩ (.slice pv (sf.length + 1) cv)) := (hbut2.trans (But.of n1' (Nat.le_refl _))).set _
        have V2 : Vars2 (w1.setCell ⟨A, 0, none⟩ (.slice pv (sf.length + 1) cv)) A K B (sf ++ [x]) (.slice pv (sf.length + 1) cv) := ⟨k2, World.cell?_setCell_same _ _ _ a1, by simpa using f1, OwnI.set o1' hAB _⟩
        have CC := ih _ ks (sf ++ [x]) _ _ RW.out ZJ.out bt2 V2 hZj.out
        clear k1 hGv e7 gr1 bl1 a1 f1 o1' n1' vk2 va2 vf2 vown2 hvlt hbut2 g0 g7 V2 bt2
        go_wp2_with (go_at_call 39; refine CC.mono ?_; clear CC; rintro e w5 ⟨rfl, bt5, va5, V5⟩)
        go_roundw
        case rel => exact ⟨j + 1, va5, by omega, by go_num, bt5, by rw [F.out]; exact V5⟩
        case measure => simp [intOf]; omega
      · obtain rfl : j = l.length := by omega
        rw [List.take_length] at hv
        go_wp2_with fail
        go_end0
        exact ⟨rfl, hbut, va, hv⟩

set_option maxHeartbeats 800000 in
theorem tnodes_any {w : World} {P : Nat → Prop} {v : Value} {l : List It} (h : ItsAt w P v l) (hsz : (nodesL l).length ≤ 1000) :
    Calls Tryz.prog 14 #[v] w fun e w' => ∃ v', e = .returned v' ∧ OwnI w' w.heap.size v' (nodesL l) ∧ Below w.heap.size w w' := by
  have hst : ∀ (W : World) (a : Addr) (fn : Fn) (x y : Array Value), Sem.run Tryz.prog (store a (.func fn x y)) W = stored Tryz.prog W a (.func fn x y) .plain := fun W a fn x y => run_store Tryz.prog W a (.func fn x y) .plain rfl
  have hC : Calls Tryz.prog 39 #[v, .pointer (some ⟨w.heap.size, 0, none⟩), .pointer (some ⟨w.heap.size + 1, 0, none⟩)]
      ((w.alloc (.cells #[.slice none 0 0] 33)).alloc (.cells #[.func (.func 39) #[] #[.pointer (some ⟨w.heap.size, 0, none⟩), .pointer (some ⟨w.heap.size + 1, 0, none⟩)]] 73))
      fun e w' => e = .returned (.tuple #[]) ∧ Below w.heap.size w w' ∧ ∃ va', w'.cell? ⟨w.heap.size, 0, none⟩ = some va' ∧ OwnI w' w.heap.size va' (nodesL l) := by
    generalize hf67 : (Obj.cells #[.func (.func 39) #[] #[.pointer (some ⟨w.heap.size, 0, none⟩), .pointer (some ⟨w.heap.size + 1, 0, none⟩)]] 73) = o3
    have z1 : (w.alloc (.cells #[.slice none 0 0] 33)).heap.size = w.heap.size + 1 := by simp
    have b1 := heap_alloc_new w (.cells #[.slice none 0 0] 33)
    have B1 := (Below.refl w.heap.size w).alloc (Nat.le_refl _) (.cells #[.slice none 0 0] 33)
    generalize w.alloc (.cells #[.slice none 0 0] 33) = w1 at *
    have z2 : (w1.alloc o3).heap.size = w.heap.size + 2 := by simp [z1]
    have b2 := blk_new w1 o3 z1
    have b12 := blk_alloc b1 o3
    have B2 := B1.alloc (by omega) o3
    generalize w1.alloc o3 = w2 at *
    subst hf67
    have hr2 : ItsAt w2 (fun g => g ≠ w.heap.size) v l := h.frame (fun g _ hlt => ⟨B2.block g hlt, by omega⟩)
    refine (nodes1_any (w0 := w2) (A := w.heap.size) (K := w.heap.size + 1) (B := w.heap.size + 2) z2 (by omega) (by omega) (by omega) (nodesL l).length v l [] (.slice none 0 0) w2 hr2 (Nat.le_refl _) (But.refl _ _ _) ?_ (by simp; omega)).mono ?_
    · exact ⟨by simp [World.cell?, b2], by simp [World.cell?, b12], by simp [World.frozen?, b12], OwnI.nil _ _⟩
    · rintro e w' ⟨rfl, hbut, va', V⟩
      refine ⟨rfl, B2.trans (hbut.below (by omega) (by omega)), va', V.a, ?_⟩
      have := V.own
      simp only [List.nil_append] at this
      obtain ⟨q1, q2⟩ := this
      refine ⟨q1, ?_⟩
      rcases q2 with q2 | ⟨g, cap, cur, e, q3, q4⟩
      · exact Or.inl q2
      · exact Or.inr ⟨g, cap, cur, e, by omega, q4⟩
  obtain ⟨p, c, rfl⟩ := h.shape
  clear h
  go_enter Tryz.func14, Tryz.ntmps14
  go_wp2_with (go_at_call 39; refine hC.mono ?_; rintro e w9 ⟨rfl, hb9, va9, hc9, ho9⟩)
  go_ret
  exact ⟨_, rfl, ho9, hb9⟩
end Go.Proofs.YtbinbojicmhdlaeGreatDoor

/-
  THE WALK of tree.Own: how long what it hands back is.
-/
namespace Go.Proofs.YtbinbojicmhdlaeGreatDoor
open Go.RowKit

theorem cellsT_cons (x : It) (l : List It) (k : Value) (ks : List Value) : cellsT (x :: l) (k :: ks) = itc (x, k) ++ cellsT l ks := rfl
theorem cellsT_set : ∀ (l : List It) (kvs : List Value) (j : Nat) (v : Value), kvs.length = l.length → j < l.length → cellsT l (kvs.set j v) = (cellsT l kvs).set (j * 8 + 7) v
  | [], _, _, _, _, h => by simp at h
  | x :: l, [], _, _, h, _ => by simp at h
  | x :: l, k :: ks, 0, v, _, _ => by
    rw [List.set_cons_zero, cellsT_cons, cellsT_cons, List.set_append_left _ _ (by rw [itc_len]; omega)]
    rfl
  | x :: l, k :: ks, j + 1, v, h, hj => by
    rw [List.set_cons_succ, cellsT_cons, cellsT_cons, cellsT_set l ks j v (by simpa using h) (by simpa using hj), List.set_append_right _ _ (by rw [itc_len]; omega), itc_len]
    congr 2
    omega

theorem append_copy {wr : World} {ops : Array Oper} {rest : List Oper} {o : Oper} {a : Act} {Q : Exit → Act → World → Prop} (hgd : o.guard = none)
    (s x : Operand) (ho : o.op = Op.call { callee := Callee.builtin Builtin.append, args := #[s, x], argTypes := #[28, 28] }) {P : Nat → Prop} {u : Value} {m : List It}
    (hs : a.eval s = .slice none 0 0) (hx : a.eval x = u) (hm : ItsAt wr P u m) (hsz : m.length ≤ 1000000)
    (h : ∀ v' w1 kvs, kvs.length = m.length → w1.ownsRow wr.heap.size 72 8 v' m.length (cellsT m kvs) → (∀ j (h : j < m.length) (h' : j < kvs.length), ItsAt wr P kvs[j] m[j].kids) → Below wr.heap.size wr w1 → wpList Tryz.prog ops Q rest (a.put o.dst v') w1) :
    wpList Tryz.prog ops Q (o :: rest) a wr := by
  refine wpList_plain hgd fun K hK => ?_
  obtain ⟨i0, hi, hz0, hz1, hz2⟩ := info_parts infoT
  cases hm with
  | mk p c xs kvs hl hc hP hk =>
    obtain ⟨p', c', e, h1, h2, h3, h4⟩ := hc
    cases e
    have hnil := World.ownsRow_nil wr wr.heap.size 72 8
    rcases h3 with ⟨rfl, rfl⟩ | ⟨b, off, rfl⟩
    · have hm0 : m = [] := List.length_eq_zero_iff.mp (by omega)
      subst hm0
      have hrun := run_append_owned_none (P := Tryz.prog) (w := wr) wr.heap.size 28 o.type 72 i0 8 Tryz.underlying28 hi (.slice none 0 0) 0 [] hnil
      have hk0 : kvs = [] := List.length_eq_zero_iff.mp hl
      subst hk0
      have hk' := hK _ _ (h (.slice none 0 0) wr [] rfl hnil (fun j h => by simp at h) (Below.refl _ _))
      unfold Oper.wp
      simp [execOp, ho, resolve, invoke, builtin, hs, hx, hrun, Result.andThen]
      exact hk'
    · refine wp_append_own _ s x 28 ho wr.heap.size 72 i0 _ 8 96 Tryz.underlying28 hi hz0 hz1 hz2 rfl (by decide) (.slice none 0 0) 0 [] hs hnil ⟨b, off, none⟩ m.length c (cellsT m kvs) hx (cellsT_len _ _ hl) (fun j y hy => by
          obtain ⟨b', o', e1, e2⟩ := h4 j y hy
          cases e1
          rw [add_at]
          exact e2)
        (oneT m kvs (fun y hy => by
          obtain ⟨j, hj, e⟩ := List.mem_iff_getElem.mp hy
          rw [← e]
          exact (hk j (by omega) hj).one)) (by unfold maxLen; omega) (by omega) (Nat.le_refl _) ?_
      intro v' w1 k1 k2 _
      refine hK _ _ (h v' w1 kvs hl ?_ hk ((Below.refl _ wr).grown k2 (Nat.le_refl _) (fun j hj => by cases hj)))
      simpa using k1

set_option maxHeartbeats 3200000 in
set_option maxRecDepth 100000 in
theorem town_any {P : Nat → Prop} (m : Nat) : ∀ (v : Value) (l : List It) (w : World), ItsAt w P v l → (nodesL l).length ≤ m → (nodesL l).length ≤ 1000 →
    Calls Tryz.prog 12 #[v] w fun e w' => (∃ p c, e = .returned (.slice p l.length c)) ∧ Below w.heap.size w w' := by
  induction m with
  | zero =>
    intro v l w hr hm hsz
    have hl : l = [] := by
      have := top_few l
      exact List.length_eq_zero_iff.mp (by omega)
    subst hl
    have HR : Hid (ItsAt w P v []) := hr
    obtain ⟨p, c, rfl⟩ := hr.shape
    clear hr
    go_enter Tryz.func12, Tryz.ntmps12
    go_upto_region 2 with (at_builtin; refine append_copy rfl _ _ rfl rfl rfl HR.out (by simp) ?_; intro v' w1 kvs h1 h2 h3 h4; obtain ⟨pv, cv, rfl⟩ := owns_shape h2)
    go_wp2_with fail
    refine wp_loop_rounds 1 ?_
    rw [rounds_succ]
    go_wp2_with fail
    go_ret
    exact ⟨⟨_, _, rfl⟩, h4⟩
  | succ m ih =>
    intro v l w hr hm hsz
    have HR : Hid (ItsAt w P v l) := hr
    have htf := top_few l
    have ZM : Hid (∀ j (hj : j < l.length), (nodesL l[j].kids).length ≤ m ∧ (nodesL l[j].kids).length ≤ 1000) := fun j hj => by have := nodesL_lt l j hj; omega
    have hl6 : l.length ≤ 1000000 := by omega
    obtain ⟨p, c, rfl⟩ := hr.shape
    clear hr hm hsz htf
    go_enter Tryz.func12, Tryz.ntmps12
    go_upto_region 2 with (at_builtin; refine append_copy rfl _ _ rfl rfl rfl HR.out hl6 ?_; intro v' w1 kvs h1 h2 h3 h4; obtain ⟨pv, cv, rfl⟩ := owns_shape h2)
    have H2 : Hid (w1.ownsRow w.heap.size 72 8 (.slice pv l.length cv) l.length (cellsT l kvs)) := h2
    have H3 : Hid (∀ j (h : j < l.length) (h' : j < kvs.length), ItsAt w P kvs[j] l[j].kids) := h3
    have H1 : Hid (kvs.length = l.length) := h1
    clear h1 h2 h3
    have hcv : l.length ≤ cv ∧ cv ≤ 9223372036854775807 := by
      obtain ⟨p', c', e, e1, e2, _⟩ := cells_of_owns H2.out
      cases e
      exact ⟨e1, by unfold maxLen at e2; omega⟩
    obtain ⟨hc1, hc2⟩ := hcv
    go_wp2_with fail
    go_loopw [4, 9] (fun _ iv wr => ∃ (j : Nat) (ks : List Value), j ≤ l.length ∧ iv = .int .i64 j ∧ Hid (ks.length = l.length ∧ wr.ownsRow w.heap.size 72 8 (.slice pv l.length cv) l.length (cellsT l ks) ∧ ∀ i, j ≤ i → ks[i]? = kvs[i]?) ∧ Below w.heap.size w wr) (fun _ iv _ => l.length - (intOf iv).toNat)
    case atStart => exact ⟨0, kvs, Nat.zero_le _, rfl, ⟨H1.out, H2.out, fun _ _ => rfl⟩, h4⟩
    case round =>
      obtain ⟨j, ks, hj, rfl, HK, hbr⟩ := hrel
      by_cases hlt : j < l.length
      · have hjk : j < ks.length := by rw [HK.out.1]; exact hlt
        have hjv : j < kvs.length := by rw [H1.out]; exact hlt
        have ekv : ks[j] = kvs[j] := by
          have := HK.out.2.2 j (Nat.le_refl _)
          rw [List.getElem?_eq_getElem hjk, List.getElem?_eq_getElem hjv] at this
          exact Option.some.inj this
        have hrow := H3.out j hlt hjv
        obtain ⟨gb, cap, e0, hgB, hgl⟩ := HK.out.2.1.form (by omega)
        cases e0
        have hcell := World.ownsRow.cells HK.out.2.1 (g := gb) rfl (j * 8 + 7) ks[j] (by rw [cellsT_at l ks HK.out.1 j 7 hlt (by decide)]; rfl)
        rw [add_at, Nat.zero_add, ekv] at hcell
        have hfz : wr.frozen? ⟨gb, j * 8 + 7, none⟩ = false := World.ownsRow.frozenAt HK.out.2.1 _
        obtain ⟨pk, ck, ek⟩ := hrow.shape
        rw [ek] at hcell hrow
        have OW := ih _ _ wr (hrow.under hbr) (ZM.out j hlt).1 (ZM.out j hlt).2
        have HGB : Hid (w.heap.size ≤ gb ∧ gb < wr.heap.size) := ⟨hgB, hgl⟩
        clear hrow ekv ek hgB hgl
        generalize l[j].kids = kk at *
        go_wp2_with (go_at_call 12; refine OW.mono ?_; clear OW; rintro e w5 ⟨⟨p5, c5, rfl⟩, hb5⟩; have c7 := keeps_below hb5 (Nat.le_refl _) _ _ hcell; have f7 : w5.frozen? ⟨gb, j * 8 + 7, none⟩ = false := (hb5.frozen (p := ⟨gb, j * 8 + 7, none⟩) HGB.out.2).trans hfz)
        go_roundw
        case rel =>
          have h5 := owns_below HK.out.2.1 hb5
          have h6 := owns_set h5 (j * 8 + 7) (.slice p5 kk.length c5)
          rw [← cellsT_set l ks j _ HK.out.1 hlt] at h6
          refine ⟨j + 1, ks.set j (.slice p5 kk.length c5), by omega, by go_num, ⟨by rw [List.length_set]; exact HK.out.1, h6, fun i hi => ?_⟩, (hbr.trans (hb5.mono hbr.size)).setCell (p := ⟨gb, j * 8 + 7, none⟩) HGB.out.1 _⟩
          rw [List.getElem?_set_ne (by omega)]
          exact HK.out.2.2 i (by omega)
        case measure => simp [intOf]; omega
      · obtain rfl : j = l.length := by omega
        go_wp2_with fail
        go_ret
        exact ⟨⟨_, _, rfl⟩, hbr⟩
end Go.Proofs.YtbinbojicmhdlaeGreatDoor

/-
  THE WALK of the reference's Inside.
-/
namespace Go.Proofs.YtbinbojicmhdlaeGreatDoor
open Go.RowKit

end Go.Proofs.YtbinbojicmhdlaeGreatDoor

/-
  THE WALK of the reference's Has.
-/
namespace Go.Proofs.YtbinbojicmhdlaeGreatDoor
open Go.RowKit

end Go.Proofs.YtbinbojicmhdlaeGreatDoor

/-
  THE WALK of the reference's Claims.
-/
namespace Go.Proofs.YtbinbojicmhdlaeGreatDoor
open Go.RowKit

end Go.Proofs.YtbinbojicmhdlaeGreatDoor

/-
  THE WALKS of tnlaw7.alive, and of the reference's SameMemo at two that are the same.
-/
namespace Go.Proofs.YtbinbojicmhdlaeGreatDoor
open Go.RowKit

end Go.Proofs.YtbinbojicmhdlaeGreatDoor

/-
  THE WALK of tnlaw8.alive.
-/
namespace Go.Proofs.YtbinbojicmhdlaeGreatDoor
open Go.RowKit

def al8L : List Tn.Chg := [⟨1, 0, 0, -1, ⟨#[100, 105, 118]⟩, ⟨#[]⟩⟩, ⟨1, 1, 0, -1, ⟨#[104, 49]⟩, ⟨#[]⟩⟩, ⟨2, 2, 0, -1, ⟨#[]⟩, ⟨#[72, 105]⟩⟩]
def shape8 : List It → Bool
  | [.mk _ r _ _ _ _ _ [.mk _ _ nm _ lv _ _ _]] => decide (r = 2) && decide (lv = 1) && decide (nm.data.toList = [72, 105])
  | _ => false
theorem al8_1 : shape8 (treeD (Tn.build al8L)) = true := by decide +kernel
theorem al8_2 : (nodesL (treeD (Tn.build al8L))).length = 3 := by decide +kernel
theorem al8_sz : ∀ x ∈ al8L, x.value.size ≤ 4194304 ∧ x.name.size ≤ 4194304 := by decide
theorem shape8_parts {l : List It} (h : shape8 l = true) : ∃ x y, l = [x] ∧ x.kids = [y] ∧ x.role = 2 ∧ y.level = 1 ∧ y.name = ⟨#[72, 105]⟩ := by
  unfold shape8 at h
  split at h
  · rename_i n r a b c e f m s nm t lv g i js
    simp only [Bool.and_eq_true, decide_eq_true_eq] at h
    obtain ⟨⟨h1, h2⟩, h3⟩ := h
    refine ⟨_, _, rfl, rfl, h1, h2, ?_⟩
    show nm = _
    rcases nm with ⟨⟨d⟩⟩
    simp at h3
    rw [h3]
  · cases h

set_option maxHeartbeats 1600000 in
set_option maxRecDepth 100000 in
theorem l8alive_any {w : World} (T : Kn.TabAt w) : Calls Tryz.prog 20 #[] w fun e w' => e = .returned (.bool true) ∧ Below w.heap.size w w' := by
  have hC := rbuild_good (chgs_new w al8L (by decide)) al8_sz
  have e : (al8L.flatMap chc).toArray = #[.int .i64 1, .int .i64 0, .int .i64 0, .int .i64 (-1), .string ⟨#[100, 105, 118]⟩, .string ⟨#[]⟩, .int .i64 1, .int .i64 1, .int .i64 0, .int .i64 (-1), .string ⟨#[104, 49]⟩, .string ⟨#[]⟩, .int .i64 2, .int .i64 2, .int .i64 0, .int .i64 (-1), .string ⟨#[]⟩, .string ⟨#[72, 105]⟩] := rfl
  have e4 : al8L.length = 3 := rfl
  rw [e, e4] at hC
  have B1 := (Below.refl w.heap.size w).alloc (Nat.le_refl _) (.cells #[.int .i64 1, .int .i64 0, .int .i64 0, .int .i64 (-1), .string ⟨#[100, 105, 118]⟩, .string ⟨#[]⟩, .int .i64 1, .int .i64 1, .int .i64 0, .int .i64 (-1), .string ⟨#[104, 49]⟩, .string ⟨#[]⟩, .int .i64 2, .int .i64 2, .int .i64 0, .int .i64 (-1), .string ⟨#[]⟩, .string ⟨#[72, 105]⟩] 53)
  have S1 : Hid (∀ W g c rs, DocAt W g 0 c rs (Tn.build al8L) → Below w.heap.size w W → Calls Tryz.prog 9 #[.slice (some ⟨g, 0, none⟩) rs.length c] W fun e w' => ∃ v, e = .returned v ∧ OwnT w' W.heap.size v (treeD (Tn.build al8L)) ∧ Below W.heap.size W w') := fun W g c rs h hb => tbuild_any h (T.below hb) al8_sz
  obtain ⟨x, y, s1, s2, s3, s4, s5⟩ := shape8_parts al8_1
  have s6 := al8_2
  generalize treeD (Tn.build al8L) = R at *
  subst s1
  clear e e4
  generalize Tn.build al8L = d at *
  go_enter Tryz.func20, Tryz.ntmps20
  go_upto_region 2 with (first
    | (go_at_call 7; refine hC.mono ?_; rintro e w1 ⟨g, c, rs, rfl, hd1, hb0⟩; have hb1 := B1.trans (hb0.mono B1.size); have J1 := S1.out _ _ _ _ hd1 hb1; clear hd1)
    | (go_at_call 9; refine J1.mono ?_; clear J1; rintro e w2 ⟨v2, rfl, ho2, hb2⟩; have HO2 := ho2.row))
  have HR : Hid (ItsAt w2 (fun g => w1.heap.size ≤ g) v2 [x]) := HO2
  have B2 : Hid (Below w.heap.size w w2) := hb1.trans (hb2.mono hb1.size)
  obtain ⟨p1, c1, rfl, y1, y2, hat⟩ := HO2.at
  obtain ⟨b1, o1, kv, rfl, _, hi1, hk1⟩ := hat 0 (by simp)
  rw [List.getElem_cons_zero] at hi1 hk1
  rw [s2] at hk1
  have ND := tnodes_any HR.out (by rw [s6]; decide)
  have OWN : Hid (∀ W, Below w2.heap.size w2 W → Calls Tryz.prog 12 #[.slice (some ⟨b1, o1, none⟩) 1 c1] W fun e w' => (∃ p c, e = .returned (.slice p 1 c)) ∧ Below W.heap.size W w') := fun W hW => town_any _ _ _ W (HR.out.under hW) (Nat.le_refl _) (by rw [s6]; decide)
  obtain ⟨p3, c3, rfl, y3, y4, hat3⟩ := hk1.at
  obtain ⟨b3, o3, kv3, rfl, _, hi3, _⟩ := hat3 0 (by simp)
  rw [List.getElem_cons_zero] at hi3
  have a1 := hi1.c1
  have a7 := hi1.c7
  have d2 := hi3.c2
  have d4 := hi3.c4
  rw [s3] at a1
  rw [s4] at d4
  rw [s5] at d2
  simp only [Nat.zero_mul, Nat.add_zero, List.length_singleton] at a1 a7 d2 d4 y1 y2 y3 y4
  have ND2 : Calls Tryz.prog 14 #[.slice (some ⟨b1, o1, none⟩) 1 c1] w2 (fun e w' => (∃ p c, e = .returned (.slice p 3 c)) ∧ Below w2.heap.size w2 w') := ND.mono (fun e w' (h : ∃ v', e = .returned v' ∧ OwnI w' w2.heap.size v' (nodesL [x]) ∧ Below w2.heap.size w2 w') => (show (∃ p c, e = .returned (.slice p 3 c)) ∧ Below w2.heap.size w2 w' from by
    obtain ⟨v', rfl, h1, h2⟩ := h
    obtain ⟨p, c, rfl⟩ := h1.shape
    rw [s6]
    exact ⟨⟨p, c, rfl⟩, h2⟩))
  clear ND hat hat3 hi1 hi3 hk1 HR ho2 S1 hC s2 s3 s4 s5 s6 hb1 hb2 hb0 B1 T HO2
  go_wp2_with (first
    | (go_at_call 14; refine ND2.mono ?_; clear ND2; rintro e w3 ⟨⟨p5, c5, rfl⟩, hb3⟩; have OW3 := OWN.out w3 hb3)
    | (go_at_call 12; refine OW3.mono ?_; clear OW3; rintro e w4 ⟨⟨p6, c6, rfl⟩, hb4⟩))
  go_ret
  exact ⟨rfl, B2.out.trans ((hb3.trans (hb4.mono hb3.size)).mono B2.out.size)⟩
end Go.Proofs.YtbinbojicmhdlaeGreatDoor

/-
  THE WALK of tnlaw8's bare, at items none of which is bare.
-/
namespace Go.Proofs.YtbinbojicmhdlaeGreatDoor
open Go.RowKit

theorem bareL_at : ∀ (l : List It) (j : Nat) (h : j < l.length), bareL l = true → bare1 l[j] = true
  | [], _, h, _ => by simp at h
  | x :: l, 0, _, h => by
    rw [bareL, Bool.and_eq_true] at h
    exact h.1
  | x :: l, j + 1, h, hb => by
    rw [bareL, Bool.and_eq_true] at hb
    rw [List.getElem_cons_succ]
    exact bareL_at l j (by simpa using h) hb.2
theorem bare1_parts {x : It} (h : bare1 x = true) : (Kn.ofD x.role).name.isEmpty = false ∧ x.role ≠ 18 ∧ (leafI x.role = false ∨ x.kids = []) ∧ bareL x.kids = true := by
  cases x with
  | mk n r a b c e f ks =>
    rw [bare1] at h
    simp only [Bool.and_eq_true, Bool.or_eq_true, Bool.not_eq_true', decide_eq_true_eq] at h
    obtain ⟨⟨⟨h1, h2⟩, h3⟩, h4⟩ := h
    refine ⟨h1, h2, ?_, h4⟩
    rcases h3 with h3 | h3
    · exact Or.inl h3
    · right
      cases ks with
      | nil => rfl
      | cons y ys => simp at h3

theorem nodesL_lt2 : ∀ (l : List It) (j : Nat) (h : j < l.length), (nodesL l[j].kids).length < (nodesL l).length
  | [], _, h => by simp at h
  | x :: l, 0, _ => by
    rw [nodesL, List.length_append, List.getElem_cons_zero, nodes1_eq, List.length_cons]
    omega
  | x :: l, j + 1, h => by
    have := nodesL_lt2 l j (by simpa using h)
    rw [nodesL, List.length_append, List.getElem_cons_succ]
    omega

theorem boxv8b (w : World) (x0 x1 x2 x3 x4 x5 x6 x7 : Value) (t : Nat) : (w.alloc (.cells #[x0, x1, x2, x3, x4, x5, x6, x7] t)).cell? ⟨w.heap.size, 1, none⟩ = some x1 ∧ (w.alloc (.cells #[x0, x1, x2, x3, x4, x5, x6, x7] t)).cell? ⟨w.heap.size, 7, none⟩ = some x7 := by
  constructor <;> rw [World.cell?_alloc_new] <;> simp
theorem box7t (w : World) (x0 x1 x2 x3 x4 x5 x6 : Value) (t : Nat) : (w.alloc (.cells #[x0, x1, x2, x3, x4, x5, x6] t)).cell? ⟨w.heap.size, 0, none⟩ = some x0 ∧ (w.alloc (.cells #[x0, x1, x2, x3, x4, x5, x6] t)).cell? ⟨w.heap.size, 2, none⟩ = some x2 := by
  constructor <;> rw [World.cell?_alloc_new] <;> simp

set_option maxHeartbeats 3200000 in
set_option maxRecDepth 100000 in
theorem l8bare_any {P : Nat → Prop} (m : Nat) : ∀ (v : Value) (l : List It) (w : World), ItsAt w P v l → (nodesL l).length ≤ m → bareL l = true →
    Calls Tryz.prog 28 #[v] w fun e w' => e = .returned (.bool true) ∧ Below w.heap.size w w' := by
  induction m with
  | zero =>
    intro v l w hr hm hb
    have hl : l = [] := by
      have := top_few l
      exact List.length_eq_zero_iff.mp (by omega)
    subst hl
    obtain ⟨p, c, rfl⟩ := hr.shape
    clear hr
    go_enter Tryz.func28, Tryz.ntmps28
    go_wp2_with fail
    refine wp_loop_rounds 1 ?_
    rw [rounds_succ]
    go_wp2_with fail
    go_ret
    exact ⟨rfl, Below.refl _ _⟩
  | succ m ih =>
    intro v l w hr hm hb
    have HR : Hid (ItsAt w P v l) := hr
    obtain ⟨p, c, rfl, y1, y2, hat⟩ := hr.at
    have T : Hid (∀ j (hj : j < l.length), ∃ b o kv, p = some ⟨b, o, none⟩ ∧ P b ∧ ItAt w b (o + j * 8) l[j] kv ∧ ItsAt w P kv l[j].kids) := hat
    have ZM : Hid (∀ j (hj : j < l.length), (nodesL l[j].kids).length ≤ m) := fun j hj => by have := nodesL_lt2 l j hj; omega
    have BB : Hid (bareL l = true) := hb
    clear hr hat hm hb HR
    go_enter Tryz.func28, Tryz.ntmps28
    go_wp2_with fail
    go_loopw [8] (fun i wr => ∃ j : Nat, j ≤ l.length ∧ i = .int .i64 j ∧ Below w.heap.size w wr) (fun i _ => l.length - (intOf i).toNat)
    case atStart => exact ⟨0, Nat.zero_le _, rfl, Below.refl _ _⟩
    case round =>
      obtain ⟨j, hj, rfl, hbr⟩ := hrel
      by_cases hlt : j < l.length
      · obtain ⟨b1, o1, kv, rfl, _, hc, hrow⟩ := T.out j hlt
        have K := keeps_below hbr (Nat.le_refl _)
        have c0 := K _ _ hc.c0
        have c1 := K _ _ hc.c1
        have c2 := K _ _ hc.c2
        have c3 := K _ _ hc.c3
        have c4 := K _ _ hc.c4
        have c5 := K _ _ hc.c5
        have c6 := K _ _ hc.c6
        have c7 := K _ _ hc.c7
        obtain ⟨pk, ck, rfl⟩ := hrow.shape
        have RW : Hid (ItsAt wr P (.slice pk l[j].kids.length ck) l[j].kids) := hrow.under hbr
        have ZJ : Hid ((nodesL l[j].kids).length ≤ m) := ZM.out j hlt
        obtain ⟨n1, n2, n3, n4⟩ := bare1_parts (bareL_at l j hlt BB.out)
        have N4 : Hid (bareL l[j].kids = true) := n4
        have KD : Hid (∀ W, Calls Tryz.prog 26 #[.int .i64 l[j].role] W fun e w' => (∃ (a0 : ByteArray) (a1 a3 a4 a5 : Bool) (z : Int), e = .returned (.agg #[.string a0, .bool a1, .bool (leafI l[j].role), .bool a3, .bool a4, .bool a5, .int .i64 z]) ∧ a0.toList.isEmpty = false) ∧ Below W.heap.size W w') := fun W => (Kn.qkind_any (w := W) l[j].role).mono (by
          rintro e w' ⟨rfl, hb⟩
          exact ⟨⟨Tx.bs (Kn.ofD l[j].role).name, _, _, _, _, _, rfl, by rw [Wd.bs_toList]; exact n1⟩, hb⟩)
        clear hc hrow K n1 n4
        generalize l[j].kids = ks at *
        generalize l[j].node = x at *
        generalize l[j].role = x1 at *
        generalize l[j].name = x2 at *
        generalize l[j].about = x3 at *
        generalize l[j].level = x4 at *
        generalize l[j].checked = x5 at *
        generalize l[j].off = x6 at *
        have hG := boxv8b wr (.int .i64 (x : Int)) (.int .i64 x1) (.string x2) (.string x3) (.int .i64 x4) (.int .i64 x5) (.bool x6) (.slice pk ks.length ck) 72
        have BB1 : Below wr.heap.size wr (wr.alloc (.cells #[.int .i64 (x : Int), .int .i64 x1, .string x2, .string x3, .int .i64 x4, .int .i64 x5, .bool x6, .slice pk ks.length ck] 72)) := (Below.refl _ _).alloc (Nat.le_refl _) _
        have CC : Hid (∀ W, Below wr.heap.size wr W → Calls Tryz.prog 28 #[.slice pk ks.length ck] W fun e w' => e = .returned (.bool true) ∧ Below W.heap.size W w') := fun W hW => ih _ ks W (RW.out.under hW) ZJ.out N4.out
        clear ih
        go_upto_region 4 with fail
        have HB1 : Hid (Below wr.heap.size wr (wr.alloc (.cells #[.int .i64 (x : Int), .int .i64 x1, .string x2, .string x3, .int .i64 x4, .int .i64 x5, .bool x6, .slice pk ks.length ck] 72))) := BB1
        clear BB1 c0 c1 c2 c3 c4 c5 c6 c7
        generalize hGG : wr.heap.size = G at *
        generalize wr.alloc (.cells #[.int .i64 (x : Int), .int .i64 x1, .string x2, .string x3, .int .i64 x4, .int .i64 x5, .bool x6, .slice pk ks.length ck] 72) = wb at *
        obtain ⟨g1, g7⟩ := hG
        go_upto_region 5 with (go_at_call 26; refine (KD.out _).mono ?_; rintro e w6 ⟨⟨a0, a1, a3, a4, a5, z, rfl, he⟩, hb6⟩; have K6 := keeps_below hb6 (Nat.le_refl _); have e1 := K6 _ _ g1; have e7 := K6 _ _ g7)
        have hk := box7t w6 (.string a0) (.bool a1) (.bool (leafI x1)) (.bool a3) (.bool a4) (.bool a5) (.int .i64 z) 49
        have B7 : Below w6.heap.size w6 (w6.alloc (.cells #[.string a0, .bool a1, .bool (leafI x1), .bool a3, .bool a4, .bool a5, .int .i64 z] 49)) := (Below.refl _ _).alloc (Nat.le_refl _) _
        have K7 := keeps_below B7 (Nat.le_refl _)
        have i1 := K7 _ _ e1
        have i7 := K7 _ _ e7
        have BX : Hid (Below G wr (w6.alloc (.cells #[.string a0, .bool a1, .bool (leafI x1), .bool a3, .bool a4, .bool a5, .int .i64 z] 49))) := (HB1.out.trans (hb6.mono (by have := HB1.out.size; omega))).trans (B7.mono (by have := HB1.out.size; have := hb6.size; omega))
        have C7 := CC.out _ BX.out
        obtain ⟨k0, k2⟩ := hk
        clear K6 K7 e1 e7 g1 g7 hb6 B7
        generalize hKK : w6.heap.size = Q at *
        generalize w6.alloc (.cells #[.string a0, .bool a1, .bool (leafI x1), .bool a3, .bool a4, .bool a5, .int .i64 z] 49) = w8 at *
        have h18 : (x1 == 18) = false := by simpa using n2
        have HN3 : Hid (leafI x1 = false ∨ ks = []) := n3
        clear n2 n3
        cases hlf : leafI x1 with
        | false =>
          rw [hlf] at k2
          clear hlf HN3
          go_wp2_with (go_at_call 28; refine C7.mono ?_; clear C7; rintro e w7 ⟨rfl, hb7⟩)
          go_roundw
          case rel => exact ⟨j + 1, by omega, by go_num, hbr.trans ((BX.out.trans (hb7.mono (by have := BX.out.size; omega))).mono (by have := hbr.size; omega))⟩
          case measure => simp [intOf]; omega
        | true =>
          have hks : ks.length = 0 := by
            rcases HN3.out with h | h
            · rw [hlf] at h; cases h
            · rw [h]; rfl
          rw [hlf] at k2
          rw [hks] at i7 C7
          clear hlf HN3
          go_wp2_with (go_at_call 28; refine C7.mono ?_; clear C7; rintro e w7 ⟨rfl, hb7⟩)
          go_roundw
          case rel => exact ⟨j + 1, by omega, by go_num, hbr.trans ((BX.out.trans (hb7.mono (by have := BX.out.size; omega))).mono (by have := hbr.size; omega))⟩
          case measure => simp [intOf]; omega
      · obtain rfl : j = l.length := by omega
        go_wp2_with fail
        go_ret
        exact ⟨rfl, hbr⟩
end Go.Proofs.YtbinbojicmhdlaeGreatDoor

/-
  THE WALK of tnlaw8's TreeBare.
-/
namespace Go.Proofs.YtbinbojicmhdlaeGreatDoor
open Go.RowKit

theorem tree_plain (d : Tn.Dc) : bareL (treeD d) = true := items_plain _ d _ _ _
set_option maxHeartbeats 1600000 in
set_option maxRecDepth 100000 in
theorem tbare_walk {w : World} (T : Kn.TabAt w) {vl : Value} {l : List Tn.Chg} (hl : ChgsAt w vl l) (hsz : ∀ x ∈ l, x.value.size ≤ 4194304 ∧ x.name.size ≤ 4194304) :
    Calls Tryz.prog 6 #[vl] w fun e w' => e = .returned (.bool true) ∧ Below w.heap.size w w' := by
  have hA := l8alive_any T
  have QB : Hid (∀ W, Below w.heap.size w W → Calls Tryz.prog 7 #[vl] W fun e w' => ∃ g c rs, e = .returned (.slice (some ⟨g, 0, none⟩) rs.length c) ∧ DocAt w' g 0 c rs (Tn.build l) ∧ Below W.heap.size W w') := fun W hW => rbuild_good (hl.keeps (keeps_below hW (Nat.le_refl _))) hsz
  have BD : Hid (∀ W g c rs, DocAt W g 0 c rs (Tn.build l) → Below w.heap.size w W → Calls Tryz.prog 9 #[.slice (some ⟨g, 0, none⟩) rs.length c] W fun e w' => ∃ v, e = .returned v ∧ OwnT w' W.heap.size v (treeD (Tn.build l)) ∧ Below W.heap.size W w') := fun W g c rs h hb => tbuild_any h (T.below hb) hsz
  have BR : Hid (∀ W B v, OwnT W B v (treeD (Tn.build l)) → Calls Tryz.prog 28 #[v] W fun e w' => e = .returned (.bool true) ∧ Below W.heap.size W w') := fun W B v h => l8bare_any _ v _ W h.row (Nat.le_refl _) (tree_plain _)
  obtain ⟨p, cp, rfl, _, _, _⟩ := hl.at
  clear hl hsz T
  generalize treeD (Tn.build l) = R at *
  generalize Tn.build l = d at *
  go_enter Tryz.func6, Tryz.ntmps6
  go_wp2_with (first
    | (go_at_call 20; refine hA.mono ?_; rintro e w1 ⟨rfl, hb1⟩)
    | (go_at_call 7; refine (QB.out _ hb1).mono ?_; rintro e w2 ⟨g, c, rs, rfl, hd2, hb2⟩; have B2 := hb1.trans (hb2.mono hb1.size); have J2 := BD.out _ _ _ _ hd2 B2; clear hd2)
    | (go_at_call 9; refine J2.mono ?_; clear J2; rintro e w3 ⟨v3, rfl, ho3, hb3⟩; have B3 := B2.trans (hb3.mono B2.size); have J3 := BR.out _ _ _ ho3)
    | (go_at_call 28; refine J3.mono ?_; clear J3; rintro e w4 ⟨rfl, hb4⟩))
  go_ret
  exact ⟨rfl, B3.trans (hb4.mono B3.size)⟩
end Go.Proofs.YtbinbojicmhdlaeGreatDoor
