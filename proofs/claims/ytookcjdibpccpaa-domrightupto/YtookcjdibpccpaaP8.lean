/-
  OWN WORK: Dta, Dp1, Dpa, Dpb, Dpc, Dpd.
-/
import Derived.Test.YtookcjdibpccpaaP7
import Derived.Test.YtookcjdibpccpaaP5
import Derived.Test.YtookcjdibpccpaaP6
/-
  THE WALK of dom.takeOut, in a document of the call's own.
-/
namespace Go.Proofs.Ytookcjdibpccpaa
open Go.RowKit

theorem below_drewN (C : Nat) (w : World) (n : Nat) : Below C w (w.drewN n) := ⟨rfl, rfl, rfl, Nat.le_refl _, fun _ _ => rfl⟩

theorem take1_enters : ∀ args w, (callFunc 95 args).run Try.prog w = .ok (.enter 95 args) w := enters_of Try.func95 (by kernel_rfl) rfl

set_option maxHeartbeats 800000 in
theorem take1_any {w : World} {K n : Nat} (hK : w.cell? ⟨K, 0, none⟩ = some (.int .i64 (n : Int))) (k : Nat) :
    Calls Try.prog 95 #[.int .i64 (k : Int), .pointer (some ⟨K, 0, none⟩)] w fun e w' => e = .returned (.bool (k == n)) ∧ w' = w := by
  have e : ((k : Int) == (n : Int)) = (k == n) := by rw [Bool.eq_iff_iff]; simp; omega
  go_enter Try.func95, Try.ntmps95
  go_wp2_with fail
  go_ret
  exact ⟨by rw [← e]; rfl, rfl⟩

theorem take1_tests {w : World} {K n : Nat} (hK : w.cell? ⟨K, 0, none⟩ = some (.int .i64 (n : Int))) : Tests 95 #[.pointer (some ⟨K, 0, none⟩)] (fun k => k == n) w := by
  intro k
  have e : (#[.int .i64 (k : Int)] ++ #[.pointer (some ⟨K, 0, none⟩)] : Array Value) = #[.int .i64 (k : Int), .pointer (some ⟨K, 0, none⟩)] := by simp
  rw [e]
  refine (take1_any hK k).mono ?_
  rintro e w' ⟨rfl, rfl⟩
  exact ⟨rfl, Below.refl _ _⟩

theorem rowN_at {w : World} {B g c : Nat} {rs : List Raw} (h : OwnN w B (.slice (some ⟨g, 0, none⟩) rs.length c) rs) (k : Nat) (hk : k < rs.length) :
    w.cell? ⟨g, k * 9 + 3, none⟩ = some (.slice rs[k].a.p rs[k].a.n rs[k].a.c) ∧ w.cell? ⟨g, k * 9 + 5, none⟩ = some (.slice rs[k].k.p rs[k].k.n rs[k].k.c) ∧ w.cell? ⟨g, k * 9 + 7, none⟩ = some (.slice rs[k].s.p rs[k].s.n rs[k].s.c) ∧ ∀ j, w.frozen? ⟨g, j, none⟩ = false := by
  obtain ⟨g', c', e, _, _, _, _, h4, h6⟩ := own_at h (by omega)
  cases e
  have c3 := h4.c3 k hk
  have c5 := h4.c5 k hk
  have c7 := h4.c7 k hk
  rw [Nat.zero_add] at c3 c5 c7
  exact ⟨c3, c5, c7, h6⟩
theorem Owned.rowGrown {w w1 : World} {B g c : Nat} {rs : List Raw} {d : Tn.Dc} (h : Owned w B g c rs d) {k : Nat} (hk : k < rs.length) (t : Fin 3) (hgr : w.grownBy w1 (blk rs[k] t)) : OwnN w1 B (.slice (some ⟨g, 0, none⟩) rs.length c) rs :=
  owns_grown (s := ⟨some ⟨g, 0, none⟩, rs.length, c⟩) h.row hgr (fun x hx e => by
    have hx' : g = x := by simpa [sblk] using hx
    rw [← hx'] at e
    exact h.sep.row k hk t e)

/-- a document without k in u's list -/
def takeS (d : Tn.Dc) (u : Nat) (s : Bool) (n : Nat) : Tn.Dc := d.set u (Tn.setList (Tn.nd d u) s ((Tn.listOf (Tn.nd d u) s).filter fun k => !(k == n)))

set_option maxHeartbeats 3200000 in
theorem dtake_any {w : World} {B g c : Nat} {rs : List Raw} {d : Tn.Dc} (h : Owned w B g c rs d) (hB : B ≤ w.heap.size) {n u : Nat} (hn : n < rs.length) (hu : u < rs.length) (hup : (Tn.nd d n).up = (u : Int)) (hls : ∀ s, (Tn.liD d u s).length ≤ 1000) :
    Calls Try.prog 83 #[.slice (some ⟨g, 0, none⟩) rs.length c, .int .i64 (n : Int)] w fun e w' => e = .returned (.tuple #[]) ∧ (∃ rs', rs'.length = rs.length ∧ Owned w' B g c rs' (takeS d u (Tn.nd d n).inS n) ∧ Fr g rs w g rs' w') ∧ Below B w w' := by
  have h0 : 0 < rs.length := by omega
  obtain ⟨hBg, hgl, hfz⟩ := h.at h0
  have hnd : n < d.length := by rw [← h.len]; exact hn
  have hud : u < d.length := by rw [← h.len]; exact hu
  have hD := h.doc h0
  have W1 : Below w.heap.size w (w.alloc (.cells #[.int .i64 (n : Int)] 3)) := (Below.refl _ _).alloc (Nat.le_refl _) _
  have D1 : Hid (DocAt (w.alloc (.cells #[.int .i64 (n : Int)] 3)) g 0 c rs d) := hD.keeps (keeps_below W1 (Nat.le_refl _))
  have O1 : Hid (Owned (w.alloc (.cells #[.int .i64 (n : Int)] 3)) B g c rs d) := h.below W1 (Nat.le_refl _)
  have h4 := D1.out.row.c4 n hn
  have h8 := D1.out.row.c8 n hn
  have hk0 := cell_box w (.int .i64 (n : Int)) (t := 3)
  have e4 : rs[n].up = (u : Int) := by rw [(hD.nds n hn hnd).up, ← nd_at hnd, hup]
  have e8 : rs[n].inS = (Tn.nd d n).inS := by rw [(hD.nds n hn hnd).inS, ← nd_at hnd]
  rw [e4, Nat.zero_add] at h4
  rw [e8, Nat.zero_add] at h8
  have BA : Below B w (w.alloc (.cells #[.int .i64 (n : Int)] 3)) := (Below.refl B w).alloc hB _
  have hgA : g < (w.alloc (.cells #[.int .i64 (n : Int)] 3)).heap.size := by simp; omega
  have hBA : B ≤ (w.alloc (.cells #[.int .i64 (n : Int)] 3)).heap.size := by simp; omega
  have hKA : w.heap.size < (w.alloc (.cells #[.int .i64 (n : Int)] 3)).heap.size := by simp
  have FA : Fr g rs w g rs (w.alloc (.cells #[.int .i64 (n : Int)] 3)) := (Fr.refl g rs w).below W1
  have hlowK : ∀ k (hk : k < rs.length) t, blk rs[k] t ≠ some w.heap.size := fun k hk t e => by have := h.low k hk t _ e; omega
  clear e4 e8 hD hfz W1 h
  generalize (Tn.nd d n).inS = s at *
  cases s with
  | false =>
    have hl := hls false
    have hlist : OwnI (w.alloc (.cells #[.int .i64 (n : Int)] 3)) B (.slice rs[u].k.p rs[u].k.n rs[u].k.c) (Tn.nd d u).kids := by rw [nd_at hud]; exact (O1.out.nds u hu hud).kids
    have hL := D1.out.row.c5 u hu
    rw [Nat.zero_add] at hL
    go_enter Try.func83, Try.ntmps83
    go_upto_region 1 with fail
    generalize w.alloc (.cells #[.int .i64 (n : Int)] 3) = w1 at *
    generalize hKs : w.heap.size = K at *
    go_quiet ((go_at_call 93; exact Calls.quiet_of_same (dlistOf_any (D1.out.keeps (keeps_drewN _ _)) u hu false)))
    have OQ : Hid (Owned (w1.drewN nq) B g c rs d) := O1.out.below (below_drewN w1.heap.size w1 nq) (Nat.le_refl _)
    have hlq : OwnI (w1.drewN nq) B (.slice rs[u].k.p rs[u].k.n rs[u].k.c) (Tn.nd d u).kids := hlist.below (below_drewN w1.heap.size w1 nq) (Nat.le_refl _)
    have hLq : (w1.drewN nq).cell? ⟨g, u * 9 + 5, none⟩ = some (.slice rs[u].k.p rs[u].k.n rs[u].k.c) := hL
    have hkq : (w1.drewN nq).cell? ⟨K, 0, none⟩ = some (.int .i64 (n : Int)) := hk0
    have hdel := del_any take1_enters hlq hl (fun W hgr => take1_tests (K := K) (n := n) (World.grownBy.cell hgr hkq (by
      rw [sblk_own]
      exact fun e => hlowK u hu 1 e.symm)))
    have hof : 0 + u * 9 + lof false = u * 9 + 5 := by simp [lof]
    rw [hof]
    have BQ : Below B w (w1.drewN nq) := BA.trans (below_drewN B w1 nq)
    have FQ : Fr g rs w g rs (w1.drewN nq) := FA.below (below_drewN _ w1 nq)
    have hgQ : g < (w1.drewN nq).heap.size := hgA
    generalize w1.drewN nq = W at *
    have hob : (Value.slice rs[u].k.p rs[u].k.n rs[u].k.c).ownBlock = blk rs[u] 1 := sblk_own _
    rw [hob] at hdel
    clear hL hlist hk0 hkq
    go_wp2_with (go_at_call 94; refine hdel.mono ?_; rintro e w9 ⟨v9, rfl, ho9, hob9, hg9⟩; have ho9' := ho9; obtain ⟨p9, c9, rfl⟩ := ho9'.shape; have R9 := rowN_at (OQ.out.rowGrown hu 1 hg9) u hu; have L9 := R9.2.1; have F9 := R9.2.2.2 (u * 9 + 5))
    go_end0
    have hoth : ∀ t', t' ≠ (1 : Fin 3) → lst { rs[u] with k := ⟨p9, ((Tn.nd d u).kids.filter fun k => !(k == n)).length, c9⟩ } t' = lst rs[u] t' := by
      intro t' ht'
      match t' with
      | 0 => rfl
      | 2 => rfl
      | 1 => exact absurd rfl ht'
    have hsame : blk { rs[u] with k := ⟨p9, ((Tn.nd d u).kids.filter fun k => !(k == n)).length, c9⟩ } 1 = blk rs[u] 1 := by
      rw [← hob9, sblk_own ⟨p9, _, c9⟩]
      rfl
    refine ⟨rfl, ⟨_, ?_, OQ.out.list hu 1 (r' := { rs[u] with k := ⟨p9, ((Tn.nd d u).kids.filter fun k => !(k == n)).length, c9⟩ }) (n' := Tn.setList (Tn.nd d u) false ((Tn.listOf (Tn.nd d u) false).filter fun k => !(k == n))) hg9 hoth (Or.inl hsame) ?_ 5 (by decide) _ rfl, FQ.trans (Fr.list hu 1 hg9 hoth (Or.inl hsame) _ _)⟩, ?_⟩
    · simp
    · have hN := OQ.out.nds u hu hud
      rw [← nd_at hud] at hN
      have hne : ∀ t', t' ≠ 1 → ∀ x, blk rs[u] t' = some x → blk rs[u] 1 ≠ some x := fun t' ht' x h1 h2 => ht' (OQ.out.sep.one u hu t' u hu 1 x h1 h2).2
      exact ⟨hN.live, hN.tag, hN.text, hN.up, hN.hasS, hN.inS, owns_grown hN.attrs hg9 (hne 0 (by decide)), ho9, owns_grown hN.shadow hg9 (hne 2 (by decide))⟩
    · have hB9 : Below B w w9 := BQ.grown hg9 (by have := BQ.size; omega) (fun k hk => ?_)
      · exact hB9.setCell (p := ⟨g, u * 9 + 5, none⟩) hBg _
      · have := (World.ownsRow.lt hlq k (by rw [hob]; exact hk)).1
        exact this
  | true =>
    have hl := hls true
    have hlist : OwnI (w.alloc (.cells #[.int .i64 (n : Int)] 3)) B (.slice rs[u].s.p rs[u].s.n rs[u].s.c) (Tn.nd d u).shadow := by rw [nd_at hud]; exact (O1.out.nds u hu hud).shadow
    have hL := D1.out.row.c7 u hu
    rw [Nat.zero_add] at hL
    go_enter Try.func83, Try.ntmps83
    go_upto_region 1 with fail
    generalize w.alloc (.cells #[.int .i64 (n : Int)] 3) = w1 at *
    generalize hKs : w.heap.size = K at *
    go_quiet ((go_at_call 93; exact Calls.quiet_of_same (dlistOf_any (D1.out.keeps (keeps_drewN _ _)) u hu true)))
    have OQ : Hid (Owned (w1.drewN nq) B g c rs d) := O1.out.below (below_drewN w1.heap.size w1 nq) (Nat.le_refl _)
    have hlq : OwnI (w1.drewN nq) B (.slice rs[u].s.p rs[u].s.n rs[u].s.c) (Tn.nd d u).shadow := hlist.below (below_drewN w1.heap.size w1 nq) (Nat.le_refl _)
    have hLq : (w1.drewN nq).cell? ⟨g, u * 9 + 7, none⟩ = some (.slice rs[u].s.p rs[u].s.n rs[u].s.c) := hL
    have hkq : (w1.drewN nq).cell? ⟨K, 0, none⟩ = some (.int .i64 (n : Int)) := hk0
    have hdel := del_any take1_enters hlq hl (fun W hgr => take1_tests (K := K) (n := n) (World.grownBy.cell hgr hkq (by
      rw [sblk_own]
      exact fun e => hlowK u hu 2 e.symm)))
    have hof : 0 + u * 9 + lof true = u * 9 + 7 := by simp [lof]
    rw [hof]
    have BQ : Below B w (w1.drewN nq) := BA.trans (below_drewN B w1 nq)
    have FQ : Fr g rs w g rs (w1.drewN nq) := FA.below (below_drewN _ w1 nq)
    have hgQ : g < (w1.drewN nq).heap.size := hgA
    generalize w1.drewN nq = W at *
    have hob : (Value.slice rs[u].s.p rs[u].s.n rs[u].s.c).ownBlock = blk rs[u] 2 := sblk_own _
    rw [hob] at hdel
    clear hL hlist hk0 hkq
    go_wp2_with (go_at_call 94; refine hdel.mono ?_; rintro e w9 ⟨v9, rfl, ho9, hob9, hg9⟩; have ho9' := ho9; obtain ⟨p9, c9, rfl⟩ := ho9'.shape; have R9 := rowN_at (OQ.out.rowGrown hu 2 hg9) u hu; have L9 := R9.2.2.1; have F9 := R9.2.2.2 (u * 9 + 7))
    go_end0
    have hoth : ∀ t', t' ≠ (2 : Fin 3) → lst { rs[u] with s := ⟨p9, ((Tn.nd d u).shadow.filter fun k => !(k == n)).length, c9⟩ } t' = lst rs[u] t' := by
      intro t' ht'
      match t' with
      | 0 => rfl
      | 1 => rfl
      | 2 => exact absurd rfl ht'
    have hsame : blk { rs[u] with s := ⟨p9, ((Tn.nd d u).shadow.filter fun k => !(k == n)).length, c9⟩ } 2 = blk rs[u] 2 := by
      rw [← hob9, sblk_own ⟨p9, _, c9⟩]
      rfl
    refine ⟨rfl, ⟨_, ?_, OQ.out.list hu 2 (r' := { rs[u] with s := ⟨p9, ((Tn.nd d u).shadow.filter fun k => !(k == n)).length, c9⟩ }) (n' := Tn.setList (Tn.nd d u) true ((Tn.listOf (Tn.nd d u) true).filter fun k => !(k == n))) hg9 hoth (Or.inl hsame) ?_ 7 (by decide) _ rfl, FQ.trans (Fr.list hu 2 hg9 hoth (Or.inl hsame) _ _)⟩, ?_⟩
    · simp
    · have hN := OQ.out.nds u hu hud
      rw [← nd_at hud] at hN
      have hne : ∀ t', t' ≠ 2 → ∀ x, blk rs[u] t' = some x → blk rs[u] 2 ≠ some x := fun t' ht' x h1 h2 => ht' (OQ.out.sep.one u hu t' u hu 2 x h1 h2).2
      exact ⟨hN.live, hN.tag, hN.text, hN.up, hN.hasS, hN.inS, owns_grown hN.attrs hg9 (hne 0 (by decide)), owns_grown hN.kids hg9 (hne 1 (by decide)), ho9⟩
    · have hB9 : Below B w w9 := BQ.grown hg9 (by have := BQ.size; omega) (fun k hk => ?_)
      · exact hB9.setCell (p := ⟨g, u * 9 + 7, none⟩) hBg _
      · have := (World.ownsRow.lt hlq k (by rw [hob]; exact hk)).1
        exact this
end Go.Proofs.Ytookcjdibpccpaa

/-
  THE WALKS of slices.ContainsFunc at ints, and of the function in dom.put.
-/
namespace Go.Proofs.Ytookcjdibpccpaa
open Go.RowKit

set_option maxHeartbeats 800000 in
theorem contF_any {g : Nat} {lb : Array Value} {p : Nat → Bool} (eg : ∀ args w, (callFunc g args).run Try.prog w = .ok (.enter g args) w) {w : World} {vl : Value} {l : List Nat} (hl : IntsAt w vl l) (hF : ∀ W, Below w.heap.size w W → Tests g lb p W) :
    Calls Try.prog 98 #[vl, .func (.func g) #[] lb] w fun e w' => e = .returned (.bool (l.any p)) ∧ Below w.heap.size w w' := by
  have hI := idxF_any eg hl hF
  clear hl hF
  rcases idx_cases2 p l with ⟨e1, e2⟩ | ⟨j, hj, e1, e2, _⟩
  · have E : Hid (l.any p = false) := by show _ = _; rw [List.any_eq_false]; intro x hx; simp [e2 x hx]
    rw [e1] at hI
    clear e1 e2
    go_enter Try.func98, Try.ntmps98
    go_wp2_with (go_at_call 51; refine hI.mono ?_; rintro e w9 ⟨rfl, hb9⟩)
    go_ret
    exact ⟨by rw [E.out]; rfl, hb9⟩
  · have E : Hid (l.any p = true) := by show _ = _; exact List.any_eq_true.mpr ⟨l[j], List.getElem_mem hj, e2⟩
    rw [e1] at hI
    clear e1 e2
    go_enter Try.func98, Try.ntmps98
    go_wp2_with (go_at_call 51; refine hI.mono ?_; rintro e w9 ⟨rfl, hb9⟩)
    go_ret
    exact ⟨by rw [E.out]; simp, hb9⟩

/-- is a node too deep? -/
def tooDeep (d : Tn.Dc) (k : Nat) : Bool := decide ((16 : Int) < (((Tn.pathOf d (k : Int)).length - 1 : Nat) : Int))

theorem put1_enters : ∀ args w, (callFunc 99 args).run Try.prog w = .ok (.enter 99 args) w := enters_of Try.func99 (by kernel_rfl) rfl

set_option maxHeartbeats 800000 in
theorem put1_any {w : World} {b o c K : Nat} {rs : List Raw} {d : Tn.Dc} (hd : DocAt w b o c rs d) (hg : Tame d) (hK : w.cell? ⟨K, 0, none⟩ = some (.slice (some ⟨b, o, none⟩) rs.length c)) (k : Nat) :
    Calls Try.prog 99 #[.int .i64 (k : Int), .pointer (some ⟨K, 0, none⟩)] w fun e w' => e = .returned (.bool (tooDeep d k)) ∧ Below w.heap.size w w' := by
  have hC := ddeep_any hd hg (k : Int)
  have E : Hid (tooDeep d k = decide ((16 : Int) < (((Tn.pathOf d (k : Int)).length - 1 : Nat) : Int))) := rfl
  clear hd
  generalize (Tn.pathOf d (k : Int)).length - 1 = x at *
  go_enter Try.func99, Try.ntmps99
  go_wp2_with (go_at_call 39; refine hC.mono ?_; rintro e w9 ⟨rfl, hb9⟩)
  go_ret
  exact ⟨by rw [E.out]; rfl, hb9⟩

theorem put1_tests {w : World} {b o c K : Nat} {rs : List Raw} {d : Tn.Dc} (hd : DocAt w b o c rs d) (hg : Tame d) (hK : w.cell? ⟨K, 0, none⟩ = some (.slice (some ⟨b, o, none⟩) rs.length c)) : Tests 99 #[.pointer (some ⟨K, 0, none⟩)] (tooDeep d) w := by
  intro k
  have e : (#[.int .i64 (k : Int)] ++ #[.pointer (some ⟨K, 0, none⟩)] : Array Value) = #[.int .i64 (k : Int), .pointer (some ⟨K, 0, none⟩)] := by simp
  rw [e]
  exact put1_any hd hg hK k

theorem Owned.up {w : World} {B g c : Nat} {rs : List Raw} {d : Tn.Dc} (h : Owned w B g c rs d) {k : Nat} (hk : k < rs.length) (hd : k < d.length) (m : Int) : Owned (w.setCell ⟨g, k * 9 + 4, none⟩ (.int .i64 m)) B g c (rs.set k { rs[k] with up := m }) (d.set k { d[k] with up := m }) := by
  have hN := h.nds k hk hd
  exact h.scal hk (r' := { rs[k] with up := m }) (n' := { d[k] with up := m }) (fun t => by match t with | 0 => rfl | 1 => rfl | 2 => rfl) ⟨hN.live, hN.tag, hN.text, rfl, hN.hasS, hN.inS, hN.attrs, hN.kids, hN.shadow⟩ 4 (by decide) _ rfl
theorem Owned.ins {w : World} {B g c : Nat} {rs : List Raw} {d : Tn.Dc} (h : Owned w B g c rs d) {k : Nat} (hk : k < rs.length) (hd : k < d.length) (s : Bool) : Owned (w.setCell ⟨g, k * 9 + 8, none⟩ (.bool s)) B g c (rs.set k { rs[k] with inS := s }) (d.set k { d[k] with inS := s }) := by
  have hN := h.nds k hk hd
  exact h.scal hk (r' := { rs[k] with inS := s }) (n' := { d[k] with inS := s }) (fun t => by match t with | 0 => rfl | 1 => rfl | 2 => rfl) ⟨hN.live, hN.tag, hN.text, hN.up, hN.hasS, rfl, hN.attrs, hN.kids, hN.shadow⟩ 8 (by decide) _ rfl
theorem Owned.upIns {w : World} {B g c : Nat} {rs : List Raw} {d : Tn.Dc} (h : Owned w B g c rs d) {k : Nat} (hk : k < rs.length) (m : Int) (s : Bool) :
    (∃ rs', rs'.length = rs.length ∧ Owned ((w.setCell ⟨g, k * 9 + 4, none⟩ (.int .i64 m)).setCell ⟨g, k * 9 + 8, none⟩ (.bool s)) B g c rs' (d.set k { Tn.nd d k with up := m, inS := s }) ∧ Fr g rs w g rs' ((w.setCell ⟨g, k * 9 + 4, none⟩ (.int .i64 m)).setCell ⟨g, k * 9 + 8, none⟩ (.bool s))) ∧
    (∃ rs', rs'.length = rs.length ∧ Owned ((w.setCell ⟨g, k * 9 + 8, none⟩ (.bool s)).setCell ⟨g, k * 9 + 4, none⟩ (.int .i64 m)) B g c rs' (d.set k { Tn.nd d k with up := m, inS := s })) := by
  have hd : k < d.length := by rw [← h.len]; exact hk
  rw [nd_at hd]
  constructor
  · have h1 := (h.up hk hd m).ins (k := k) (by simpa using hk) (by simpa using hd) s
    simp only [List.getElem_set_self, List.set_set] at h1
    have f1 : Fr g rs w g (rs.set k { rs[k] with up := m }) (w.setCell ⟨g, k * 9 + 4, none⟩ (.int .i64 m)) := Fr.scal hk (fun t => by match t with | 0 => rfl | 1 => rfl | 2 => rfl) _ _
    have f2 := Fr.scal (w := w.setCell ⟨g, k * 9 + 4, none⟩ (.int .i64 m)) (g := g) (rs := rs.set k { rs[k] with up := m }) (k := k) (by simpa using hk) (r' := { (rs.set k { rs[k] with up := m })[k]'(by simpa using hk) with inS := s }) (fun t => by match t with | 0 => rfl | 1 => rfl | 2 => rfl) (k * 9 + 8) (.bool s)
    have f3 := f1.trans f2
    simp only [List.getElem_set_self, List.set_set] at f3
    exact ⟨_, by simp, h1, f3⟩
  · have h1 := (h.ins hk hd s).up (k := k) (by simpa using hk) (by simpa using hd) m
    simp only [List.getElem_set_self, List.set_set] at h1
    exact ⟨_, by simp, h1⟩

/-- where it is put -/
def putAt (l : List Nat) (before : Int) : Int := if 0 ≤ before then idxI (fun k => (k : Int) == before) l else (l.length : Int)
/-- the document behind put -/
def putIn (d : Tn.Dc) (n m : Nat) (before : Int) (s : Bool) : Tn.Dc := d.set m (Tn.setList (Tn.nd d m) s (Tn.insertAt (Tn.listOf (Tn.nd d m) s) (putAt (Tn.listOf (Tn.nd d m) s) before).toNat n))
def putDoc (d : Tn.Dc) (n m : Nat) (before : Int) (s : Bool) : Tn.Dc := (putIn d n m before s).set n { Tn.nd (putIn d n m before s) n with up := (m : Int), inS := s }
def putCode (d : Tn.Dc) (n m : Nat) (before : Int) (s : Bool) : Int :=
  if putAt (Tn.listOf (Tn.nd d m) s) before < 0 then 8
  else if 12 ≤ (Tn.listOf (Tn.nd d m) s).length then 5
  else if (Tn.all Tn.fuel (putDoc d n m before s) n).any (tooDeep (putDoc d n m before s)) then 3 else 0

theorem putAt_cases (l : List Nat) (before : Int) : putAt l before = -1 ∨ ∃ i : Nat, i ≤ l.length ∧ putAt l before = (i : Int) := by
  unfold putAt
  split
  · rcases idx_cases2 (fun k => (k : Int) == before) l with ⟨e, _⟩ | ⟨j, hj, e, _⟩
    · exact Or.inl e
    · exact Or.inr ⟨j, by omega, e⟩
  · exact Or.inr ⟨l.length, Nat.le_refl _, rfl⟩
theorem putAt_nat (l : List Nat) (x : Nat) : putAt l (x : Int) = idxI (fun k => k == x) l := by
  unfold putAt
  rw [if_pos (by omega)]
  congr 1
  funext k
  rw [Bool.eq_iff_iff]
  simp
  omega
theorem putAt_end (l : List Nat) (b : Int) (h : b < 0) : putAt l b = (l.length : Int) := by
  unfold putAt
  rw [if_neg (by omega)]
end Go.Proofs.Ytookcjdibpccpaa

/-
  THE WALK of dom.put, in a document of the call's own.
-/
namespace Go.Proofs.Ytookcjdibpccpaa
open Go.RowKit

set_option maxHeartbeats 6400000 in
set_option maxRecDepth 100000 in
theorem dput_AtfalseK {w : World} {B g c : Nat} {rs : List Raw} {d : Tn.Dc} (h : Owned w B g c rs d) (hB : B ≤ w.heap.size) {n m : Nat} (hn : n < rs.length) (hm : m < rs.length) (hls : ∀ s, (Tn.liD d m s).length ≤ 1000) (x : Nat)
    (hT : 0 ≤ putAt (Tn.listOf (Tn.nd d m) false) (x : Int) → (Tn.listOf (Tn.nd d m) false).length < 12 → Tame (putDoc d n m (x : Int) false) ∧ (∀ j s, (Tn.liD (putDoc d n m (x : Int) false) j s).length ≤ 1000) ∧ Tn.lvD (putDoc d n m (x : Int) false) n = true) :
    Calls Try.prog 84 #[.slice (some ⟨g, 0, none⟩) rs.length c, .int .i64 (n : Int), .int .i64 (m : Int), .int .i64 (x : Int), .bool false] w fun e w' => e = .returned (.int .i64 (putCode d n m (x : Int) false)) ∧ Below B w w' ∧ (putCode d n m (x : Int) false = 0 → ∃ rs', rs'.length = rs.length ∧ Owned w' B g c rs' (putDoc d n m (x : Int) false) ∧ Fr g rs w g rs' w') ∧ Kpt g rs w w' := by
  have h0 : 0 < rs.length := by omega
  obtain ⟨hBg, hgl, hfz⟩ := h.at h0
  have hnd : n < d.length := by rw [← h.len]; exact hn
  have hmd : m < d.length := by rw [← h.len]; exact hm
  have W1 : Below w.heap.size w (w.alloc (.cells #[.slice (some ⟨g, 0, none⟩) rs.length c] 34)) := (Below.refl _ _).alloc (Nat.le_refl _) _
  have O1 : Hid (Owned (w.alloc (.cells #[.slice (some ⟨g, 0, none⟩) rs.length c] 34)) B g c rs d) := h.below W1 (Nat.le_refl _)
  have D1 : Hid (DocAt (w.alloc (.cells #[.slice (some ⟨g, 0, none⟩) rs.length c] 34)) g 0 c rs d) := O1.out.doc h0
  have FA : Fr g rs w g rs (w.alloc (.cells #[.slice (some ⟨g, 0, none⟩) rs.length c] 34)) := (Fr.refl g rs w).below W1
  have BA : Below B w (w.alloc (.cells #[.slice (some ⟨g, 0, none⟩) rs.length c] 34)) := (Below.refl B w).alloc hB _
  have hk0 := cell_box w (.slice (some ⟨g, 0, none⟩) rs.length c) (t := 34)
  have hlowK : ∀ k (hk : k < rs.length) t, blk rs[k] t ≠ some w.heap.size := fun k hk t e => by have := h.low k hk t _ e; omega
  have hKA : w.heap.size < (w.alloc (.cells #[.slice (some ⟨g, 0, none⟩) rs.length c] 34)).heap.size := by simp
  have hlist : OwnI (w.alloc (.cells #[.slice (some ⟨g, 0, none⟩) rs.length c] 34)) B (.slice rs[m].k.p rs[m].k.n rs[m].k.c) (Tn.nd d m).kids := by rw [nd_at hmd]; exact (O1.out.nds m hm hmd).kids
  have hL := (rowN_at O1.out.row m hm).2.1
  have hl : (Tn.nd d m).kids.length ≤ 1000 := hls false
  have hKn : rs[m].k.n = (Tn.nd d m).kids.length := hl_of (ints_of_owns hlist)
  have PC : Hid (putCode d n m (x : Int) false = if putAt (Tn.nd d m).kids (x : Int) < 0 then 8 else if 12 ≤ (Tn.nd d m).kids.length then 5 else if (Tn.all Tn.fuel (putDoc d n m (x : Int) false) n).any (tooDeep (putDoc d n m (x : Int) false)) then 3 else 0) := rfl
  have PI : Hid (putIn d n m (x : Int) false = d.set m (Tn.setList (Tn.nd d m) false (Tn.insertAt (Tn.nd d m).kids (putAt (Tn.nd d m).kids (x : Int)).toNat n))) := rfl
  have PD : Hid (putDoc d n m (x : Int) false = (putIn d n m (x : Int) false).set n { Tn.nd (putIn d n m (x : Int) false) n with up := (m : Int), inS := false }) := rfl
  have HT : Hid (0 ≤ putAt (Tn.nd d m).kids (x : Int) → (Tn.nd d m).kids.length < 12 → Tame (putDoc d n m (x : Int) false) ∧ (∀ j s, (Tn.liD (putDoc d n m (x : Int) false) j s).length ≤ 1000) ∧ Tn.lvD (putDoc d n m (x : Int) false) n = true) := hT
  have hIX : ∀ vl, IntsAt (w.alloc (.cells #[.slice (some ⟨g, 0, none⟩) rs.length c] 34)) vl (Tn.nd d m).kids → Calls Try.prog 96 #[vl, .int .i64 (x : Int)] (w.alloc (.cells #[.slice (some ⟨g, 0, none⟩) rs.length c] 34)) fun e w' => e = .returned (.int .i64 (putAt (Tn.nd d m).kids (x : Int))) ∧ w' = (w.alloc (.cells #[.slice (some ⟨g, 0, none⟩) rs.length c] 34)) := fun vl hv => by rw [putAt_nat]; exact index_any hv x
  rw [hKn] at hL hlist
  clear hT hls hfz W1 h hKn
  have QL : Hid _ := hlist
  clear hlist
  have hof : 0 + m * 9 + lof false = m * 9 + 5 := by simp [lof]
  have hLO := dlistOf_any D1.out m hm false
  rw [hof] at hLO
  rcases putAt_cases (Tn.nd d m).kids (x : Int) with hat | ⟨i, hil, hat⟩
  · have E : Hid (putCode d n m (x : Int) false = 8) := by show _ = _; rw [PC.out, hat]; rfl
    have hI := hIX _ (ints_of_owns QL.out)
    rw [hat] at hI
    clear hIX HT PC PI PD
    go_enter Try.func84, Try.ntmps84
    go_wp2_with (first
      | (go_at_call 93; refine hLO.mono ?_; rintro e w' ⟨rfl, hww⟩; subst hww)
      | (go_at_call 96; refine hI.mono ?_; rintro e w' ⟨rfl, hww⟩; subst hww))
    go_ret
    exact ⟨by rw [E.out]; rfl, BA, (fun hc => by rw [E.out] at hc; cases hc), FA.block⟩
  · by_cases h12 : 12 ≤ (Tn.nd d m).kids.length
    · have E : Hid (putCode d n m (x : Int) false = 5) := by show _ = _; rw [PC.out, if_neg (by omega), if_pos h12]
      have hI := hIX _ (ints_of_owns QL.out)
      rw [hat] at hI
      clear hIX
      go_enter Try.func84, Try.ntmps84
      go_wp2_with (first
        | (go_at_call 93; refine hLO.mono ?_; rintro e w' ⟨rfl, hww⟩; subst hww)
        | (go_at_call 96; refine hI.mono ?_; rintro e w' ⟨rfl, hww⟩; subst hww))
      go_ret
      exact ⟨by rw [E.out]; rfl, BA, (fun hc => by rw [E.out] at hc; cases hc), FA.block⟩
    · obtain ⟨t1, t2, t3⟩ := HT.out (by omega) (by omega)
      have hI := hIX _ (ints_of_owns QL.out)
      rw [hat] at hI
      clear hIX
      go_enter Try.func84, Try.ntmps84
      go_upto_region 9 with (first
        | (go_at_call 93; refine hLO.mono ?_; rintro e w' ⟨rfl, hww⟩; subst hww)
        | (go_at_call 96; refine hI.mono ?_; rintro e w' ⟨rfl, hww⟩; subst hww))
      generalize hWA : w.alloc (.cells #[.slice (some ⟨g, 0, none⟩) rs.length c] 34) = wA at *
      have hob : (Value.slice rs[m].k.p (Tn.nd d m).kids.length rs[m].k.c).ownBlock = blk rs[m] 1 := by
        unfold blk sblk lst
        cases rs[m].k.p <;> rfl
      have BB : Below wA.heap.size wA (wA.alloc (.cells #[.int .i64 (n : Int)] 3)) := (Below.refl _ _).alloc (Nat.le_refl _) _
      have OB : Hid (Owned (wA.alloc (.cells #[.int .i64 (n : Int)] 3)) B g c rs d) := O1.out.below BB (Nat.le_refl _)
      have hBA : B ≤ wA.heap.size := Nat.le_trans hB BA.size
      have hIns := insI_any (vb := wA.heap.size) (x := n) (OwnI.below QL.out BB (Nat.le_refl _)) (by simp; omega) hl i hil (heap_alloc_new wA _) (by
        rw [hob]
        intro e
        have := O1.out.low m hm 1 _ e
        omega)
      rw [hob] at hIns
      have hLB := keeps_below BB (Nat.le_refl _) _ _ hL
      have hkB := keeps_below BB (Nat.le_refl _) _ _ hk0
      have hBw : Below B w (wA.alloc (.cells #[.int .i64 (n : Int)] 3)) := BA.alloc (by omega) _
      have hBz : B ≤ (wA.alloc (.cells #[.int .i64 (n : Int)] 3)).heap.size := by simp; omega
      go_upto_region 10 with (go_at_call 97; refine hIns.mono ?_; rintro e w9 ⟨v9, rfl, ho9, hg9, hb9⟩; have ho9' := ho9; obtain ⟨p9, c9, rfl⟩ := ho9'.shape; have R9 := rowN_at (OB.out.rowGrown hm 1 hg9) m hm; have L9 := R9.2.1; have F9 := R9.2.2.2 (m * 9 + 5))
      have hblk9 : sblk ⟨p9, (Tn.insertAt (Tn.nd d m).kids i n).length, c9⟩ = blk rs[m] 1 ∨ ∃ x, (wA.alloc (.cells #[.int .i64 (n : Int)] 3)).heap.size ≤ x ∧ x < w9.heap.size ∧ sblk ⟨p9, (Tn.insertAt (Tn.nd d m).kids i n).length, c9⟩ = some x := by
        rw [sblk_own ⟨p9, _, c9⟩] at hb9
        rcases hb9 with e | ⟨y, hy, e⟩
        · exact Or.inl e
        · exact Or.inr ⟨y, hy, (World.ownsRow.lt ho9 y (by rw [sblk_own ⟨p9, _, c9⟩]; exact e)).2, e⟩
      have hN := OB.out.nds m hm hmd
      rw [← nd_at hmd] at hN
      have hne : ∀ t', t' ≠ 1 → ∀ y, blk rs[m] t' = some y → blk rs[m] 1 ≠ some y := fun t' ht' y h1 h2 => ht' (OB.out.sep.one m hm t' m hm 1 y h1 h2).2
      have F2 : Fr g rs w g (rs.set m { rs[m] with k := ⟨p9, (Tn.insertAt (Tn.nd d m).kids i n).length, c9⟩ }) (w9.setCell ⟨g, m * 9 + 5, none⟩ (.slice p9 (Tn.insertAt (Tn.nd d m).kids i n).length c9)) :=
        (FA.below BB).trans (Fr.list hm 1 (r' := { rs[m] with k := ⟨p9, (Tn.insertAt (Tn.nd d m).kids i n).length, c9⟩ }) hg9 (fun t' ht' => by match t' with | 0 => rfl | 2 => rfl | 1 => exact absurd rfl ht') hblk9 _ _)
      have O2 := OB.out.list hm 1 (r' := { rs[m] with k := ⟨p9, (Tn.insertAt (Tn.nd d m).kids i n).length, c9⟩ }) (n' := Tn.setList (Tn.nd d m) false (Tn.insertAt (Tn.nd d m).kids i n)) hg9
        (fun t' ht' => by match t' with | 0 => rfl | 2 => rfl | 1 => exact absurd rfl ht') hblk9
        ⟨hN.live, hN.tag, hN.text, hN.up, hN.hasS, hN.inS, owns_grown hN.attrs hg9 (hne 0 (by decide)), ho9, owns_grown hN.shadow hg9 (hne 2 (by decide))⟩ 5 (by decide) (.slice p9 (Tn.insertAt (Tn.nd d m).kids i n).length c9) rfl
      have PI2 := PI.out
      rw [hat, Int.toNat_natCast] at PI2
      rw [← PI2] at O2
      have hkw : (w9.setCell ⟨g, m * 9 + 5, none⟩ (.slice p9 (Tn.insertAt (Tn.nd d m).kids i n).length c9)).cell? ⟨w.heap.size, 0, none⟩ = some (.slice (some ⟨g, 0, none⟩) rs.length c) := by
        rw [World.cell?_setCell_other _ _ _ _ (by intro e; injection e with e; omega)]
        exact World.grownBy.cell hg9 hkB (fun e => hlowK m hm 1 e.symm)
      have B9 : Below B w w9 := hBw.grown hg9 hBz (fun k hk => (World.ownsRow.lt QL.out k (by rw [hob]; exact hk)).1)
      have B2 : Below B w (w9.setCell ⟨g, m * 9 + 5, none⟩ (.slice p9 (Tn.insertAt (Tn.nd d m).kids i n).length c9)) := B9.setCell (p := ⟨g, m * 9 + 5, none⟩) hBg _
      generalize w9.setCell ⟨g, m * 9 + 5, none⟩ (.slice p9 (Tn.insertAt (Tn.nd d m).kids i n).length c9) = W2 at *
      have hr2 : (rs.set m { rs[m] with k := ⟨p9, (Tn.insertAt (Tn.nd d m).kids i n).length, c9⟩ }).length = rs.length := by simp
      generalize rs.set m { rs[m] with k := ⟨p9, (Tn.insertAt (Tn.nd d m).kids i n).length, c9⟩ } = rs2 at *
      have hn2 : n < rs2.length := by omega
      obtain ⟨U1, U2⟩ := O2.upIns hn2 (m : Int) false
      rw [← PD.out] at U1 U2
      obtain ⟨_, _, hf2⟩ := O2.at (by omega)
      have Dw2 := O2.doc (by omega)
      have q4 := Dw2.row.c4 n hn2
      have q8 := Dw2.row.c8 n hn2
      rw [Nat.zero_add] at q4 q8
      have f4 := hf2 (n * 9 + 4)
      have f8 := hf2 (n * 9 + 8)
      have QU1 : Hid _ := U1
      have QU2 : Hid _ := U2
      have hgK : g ≠ w.heap.size := by omega
      have hn2' : (n : Int) < (rs.length : Int) := by omega
      clear U1 U2 hf2 Dw2 O2 PI2 hne hN hblk9 hb9 hg9 ho9 ho9' R9 L9 F9 hIns hLB hkB OB O1 D1 BA BB hI hLO hL hk0 QL HT
      obtain ⟨d3, hd3⟩ : ∃ d3, d3 = putDoc d n m (x : Int) false := ⟨_, rfl⟩
      rw [← hd3] at QU1 t1 t2 t3 PC
      have QD : Hid (d3 = putDoc d n m (x : Int) false) := hd3
      clear hd3 PD
      generalize rs2[n].up = uu at *
      generalize rs2[n].inS = ii at *
      go_region
      obtain ⟨rs3, hr3, O3, F3⟩ := QU1.out
      have F4 := (F2.trans F3).below (Below.drew (Below.refl _ _))
      have hr : rs3.length = rs.length := by omega
      have B3 : Below B w ((W2.setCell ⟨g, n * 9 + 4, none⟩ (.int .i64 (m : Int))).setCell ⟨g, n * 9 + 8, none⟩ (.bool false)).drew := ((B2.setCell (p := ⟨g, n * 9 + 4, none⟩) hBg _).setCell (p := ⟨g, n * 9 + 8, none⟩) hBg _).drew
      have O4 : Owned ((W2.setCell ⟨g, n * 9 + 4, none⟩ (.int .i64 (m : Int))).setCell ⟨g, n * 9 + 8, none⟩ (.bool false)).drew B g c rs3 d3 := O3.below (Below.drew (Below.refl _ _)) (Nat.le_refl _)
      have hkw3 : ((W2.setCell ⟨g, n * 9 + 4, none⟩ (.int .i64 (m : Int))).setCell ⟨g, n * 9 + 8, none⟩ (.bool false)).drew.cell? ⟨w.heap.size, 0, none⟩ = some (.slice (some ⟨g, 0, none⟩) rs.length c) := by
        rw [World.cell?_drew, World.cell?_setCell_other _ _ _ _ (by intro e; injection e with e; omega), World.cell?_setCell_other _ _ _ _ (by intro e; injection e with e; omega)]
        exact hkw
      have D4 : Hid (DocAt ((W2.setCell ⟨g, n * 9 + 4, none⟩ (.int .i64 (m : Int))).setCell ⟨g, n * 9 + 8, none⟩ (.bool false)).drew g 0 c rs3 d3) := O4.doc (by omega)
      generalize ((W2.setCell ⟨g, n * 9 + 4, none⟩ (.int .i64 (m : Int))).setCell ⟨g, n * 9 + 8, none⟩ (.bool false)).drew = W3 at *
      have hAll := dall_any D4.out t1 t2 n t3
      rw [hr] at hAll
      have HCF : Hid (∀ (W : World) (v : Value), Below W3.heap.size W3 W → OwnI W W3.heap.size v (Tn.all Tn.fuel d3 n) → Calls Try.prog 98 #[v, .func (.func 99) #[] #[.pointer (some ⟨w.heap.size, 0, none⟩)]] W fun e w' => e = .returned (.bool ((Tn.all Tn.fuel d3 n).any (tooDeep d3))) ∧ Below W.heap.size W w') := by
        intro W v hW ho
        refine contF_any put1_enters (ints_of_owns ho) (fun V hV => ?_)
        have hK := (keeps_below hW (Nat.le_refl _)).trans (keeps_below hV (Nat.le_refl _))
        have hc := hK _ _ hkw3
        rw [← hr] at hc
        exact put1_tests (D4.out.keeps hK) t1 hc
      have O5 : Hid _ := O4
      clear QU1 QU2 O3 O4 hkw q4 q8 f4 f8 D4 F2 F3
      cases hany : (Tn.all Tn.fuel d3 n).any (tooDeep d3) with
      | true =>
        have E : Hid (putCode d n m (x : Int) false = 3) := by show _ = _; rw [PC.out, if_neg (by omega), if_neg h12, hany]; rfl
        rw [hany] at HCF
        clear PC PI
        go_wp2_with (first
          | (go_at_call 35; refine hAll.mono ?_; rintro e w5 ⟨v5, rfl, ho5, hb5⟩)
          | (go_at_call 98; refine (HCF.out _ _ hb5 ho5).mono ?_; rintro e w6 ⟨rfl, hb6⟩))
        go_ret
        exact ⟨by rw [E.out]; rfl, (B3.trans (hb5.mono (Nat.le_trans hB B3.size))).trans (hb6.mono (Nat.le_trans (Nat.le_trans hB B3.size) hb5.size)), (fun hc => by rw [E.out] at hc; cases hc), ((F4.below hb5).below hb6).block⟩
      | false =>
        have E : Hid (putCode d n m (x : Int) false = 0) := by show _ = _; rw [PC.out, if_neg (by omega), if_neg h12, hany]; rfl
        rw [hany] at HCF
        clear PC PI
        go_wp2_with (first
          | (go_at_call 35; refine hAll.mono ?_; rintro e w5 ⟨v5, rfl, ho5, hb5⟩)
          | (go_at_call 98; refine (HCF.out _ _ hb5 ho5).mono ?_; rintro e w6 ⟨rfl, hb6⟩))
        go_ret
        exact ⟨by rw [E.out]; rfl, (B3.trans (hb5.mono (Nat.le_trans hB B3.size))).trans (hb6.mono (Nat.le_trans (Nat.le_trans hB B3.size) hb5.size)), fun _ => ⟨rs3, hr, by rw [← QD.out]; exact (O5.out.below hb5 (Nat.le_refl _)).below hb6 (Nat.le_refl _), (F4.below hb5).below hb6⟩, ((F4.below hb5).below hb6).block⟩

theorem dput_Atfalse {w : World} {B g c : Nat} {rs : List Raw} {d : Tn.Dc} (h : Owned w B g c rs d) (hB : B ≤ w.heap.size) {n m : Nat} (hn : n < rs.length) (hm : m < rs.length) (hls : ∀ s, (Tn.liD d m s).length ≤ 1000) (x : Nat)
    (hT : 0 ≤ putAt (Tn.listOf (Tn.nd d m) false) (x : Int) → (Tn.listOf (Tn.nd d m) false).length < 12 → Tame (putDoc d n m (x : Int) false) ∧ (∀ j s, (Tn.liD (putDoc d n m (x : Int) false) j s).length ≤ 1000) ∧ Tn.lvD (putDoc d n m (x : Int) false) n = true) :
    Calls Try.prog 84 #[.slice (some ⟨g, 0, none⟩) rs.length c, .int .i64 (n : Int), .int .i64 (m : Int), .int .i64 (x : Int), .bool false] w fun e w' => e = .returned (.int .i64 (putCode d n m (x : Int) false)) ∧ Below B w w' ∧ (putCode d n m (x : Int) false = 0 → ∃ rs', rs'.length = rs.length ∧ Owned w' B g c rs' (putDoc d n m (x : Int) false) ∧ Fr g rs w g rs' w') :=
  (dput_AtfalseK h hB hn hm hls x hT).mono fun _ _ h => ⟨h.1, h.2.1, h.2.2.1⟩
end Go.Proofs.Ytookcjdibpccpaa

/-
  THE WALK of dom.put, in a document of the call's own.
-/
namespace Go.Proofs.Ytookcjdibpccpaa
open Go.RowKit

set_option maxHeartbeats 6400000 in
set_option maxRecDepth 100000 in
theorem dput_AttrueK {w : World} {B g c : Nat} {rs : List Raw} {d : Tn.Dc} (h : Owned w B g c rs d) (hB : B ≤ w.heap.size) {n m : Nat} (hn : n < rs.length) (hm : m < rs.length) (hls : ∀ s, (Tn.liD d m s).length ≤ 1000) (x : Nat)
    (hT : 0 ≤ putAt (Tn.listOf (Tn.nd d m) true) (x : Int) → (Tn.listOf (Tn.nd d m) true).length < 12 → Tame (putDoc d n m (x : Int) true) ∧ (∀ j s, (Tn.liD (putDoc d n m (x : Int) true) j s).length ≤ 1000) ∧ Tn.lvD (putDoc d n m (x : Int) true) n = true) :
    Calls Try.prog 84 #[.slice (some ⟨g, 0, none⟩) rs.length c, .int .i64 (n : Int), .int .i64 (m : Int), .int .i64 (x : Int), .bool true] w fun e w' => e = .returned (.int .i64 (putCode d n m (x : Int) true)) ∧ Below B w w' ∧ (putCode d n m (x : Int) true = 0 → ∃ rs', rs'.length = rs.length ∧ Owned w' B g c rs' (putDoc d n m (x : Int) true) ∧ Fr g rs w g rs' w') ∧ Kpt g rs w w' := by
  have h0 : 0 < rs.length := by omega
  obtain ⟨hBg, hgl, hfz⟩ := h.at h0
  have hnd : n < d.length := by rw [← h.len]; exact hn
  have hmd : m < d.length := by rw [← h.len]; exact hm
  have W1 : Below w.heap.size w (w.alloc (.cells #[.slice (some ⟨g, 0, none⟩) rs.length c] 34)) := (Below.refl _ _).alloc (Nat.le_refl _) _
  have O1 : Hid (Owned (w.alloc (.cells #[.slice (some ⟨g, 0, none⟩) rs.length c] 34)) B g c rs d) := h.below W1 (Nat.le_refl _)
  have D1 : Hid (DocAt (w.alloc (.cells #[.slice (some ⟨g, 0, none⟩) rs.length c] 34)) g 0 c rs d) := O1.out.doc h0
  have FA : Fr g rs w g rs (w.alloc (.cells #[.slice (some ⟨g, 0, none⟩) rs.length c] 34)) := (Fr.refl g rs w).below W1
  have BA : Below B w (w.alloc (.cells #[.slice (some ⟨g, 0, none⟩) rs.length c] 34)) := (Below.refl B w).alloc hB _
  have hk0 := cell_box w (.slice (some ⟨g, 0, none⟩) rs.length c) (t := 34)
  have hlowK : ∀ k (hk : k < rs.length) t, blk rs[k] t ≠ some w.heap.size := fun k hk t e => by have := h.low k hk t _ e; omega
  have hKA : w.heap.size < (w.alloc (.cells #[.slice (some ⟨g, 0, none⟩) rs.length c] 34)).heap.size := by simp
  have hlist : OwnI (w.alloc (.cells #[.slice (some ⟨g, 0, none⟩) rs.length c] 34)) B (.slice rs[m].s.p rs[m].s.n rs[m].s.c) (Tn.nd d m).shadow := by rw [nd_at hmd]; exact (O1.out.nds m hm hmd).shadow
  have hL := (rowN_at O1.out.row m hm).2.2.1
  have hl : (Tn.nd d m).shadow.length ≤ 1000 := hls true
  have hKn : rs[m].s.n = (Tn.nd d m).shadow.length := hl_of (ints_of_owns hlist)
  have PC : Hid (putCode d n m (x : Int) true = if putAt (Tn.nd d m).shadow (x : Int) < 0 then 8 else if 12 ≤ (Tn.nd d m).shadow.length then 5 else if (Tn.all Tn.fuel (putDoc d n m (x : Int) true) n).any (tooDeep (putDoc d n m (x : Int) true)) then 3 else 0) := rfl
  have PI : Hid (putIn d n m (x : Int) true = d.set m (Tn.setList (Tn.nd d m) true (Tn.insertAt (Tn.nd d m).shadow (putAt (Tn.nd d m).shadow (x : Int)).toNat n))) := rfl
  have PD : Hid (putDoc d n m (x : Int) true = (putIn d n m (x : Int) true).set n { Tn.nd (putIn d n m (x : Int) true) n with up := (m : Int), inS := true }) := rfl
  have HT : Hid (0 ≤ putAt (Tn.nd d m).shadow (x : Int) → (Tn.nd d m).shadow.length < 12 → Tame (putDoc d n m (x : Int) true) ∧ (∀ j s, (Tn.liD (putDoc d n m (x : Int) true) j s).length ≤ 1000) ∧ Tn.lvD (putDoc d n m (x : Int) true) n = true) := hT
  have hIX : ∀ vl, IntsAt (w.alloc (.cells #[.slice (some ⟨g, 0, none⟩) rs.length c] 34)) vl (Tn.nd d m).shadow → Calls Try.prog 96 #[vl, .int .i64 (x : Int)] (w.alloc (.cells #[.slice (some ⟨g, 0, none⟩) rs.length c] 34)) fun e w' => e = .returned (.int .i64 (putAt (Tn.nd d m).shadow (x : Int))) ∧ w' = (w.alloc (.cells #[.slice (some ⟨g, 0, none⟩) rs.length c] 34)) := fun vl hv => by rw [putAt_nat]; exact index_any hv x
  rw [hKn] at hL hlist
  clear hT hls hfz W1 h hKn
  have QL : Hid _ := hlist
  clear hlist
  have hof : 0 + m * 9 + lof true = m * 9 + 7 := by simp [lof]
  have hLO := dlistOf_any D1.out m hm true
  rw [hof] at hLO
  rcases putAt_cases (Tn.nd d m).shadow (x : Int) with hat | ⟨i, hil, hat⟩
  · have E : Hid (putCode d n m (x : Int) true = 8) := by show _ = _; rw [PC.out, hat]; rfl
    have hI := hIX _ (ints_of_owns QL.out)
    rw [hat] at hI
    clear hIX HT PC PI PD
    go_enter Try.func84, Try.ntmps84
    go_wp2_with (first
      | (go_at_call 93; refine hLO.mono ?_; rintro e w' ⟨rfl, hww⟩; subst hww)
      | (go_at_call 96; refine hI.mono ?_; rintro e w' ⟨rfl, hww⟩; subst hww))
    go_ret
    exact ⟨by rw [E.out]; rfl, BA, (fun hc => by rw [E.out] at hc; cases hc), FA.block⟩
  · by_cases h12 : 12 ≤ (Tn.nd d m).shadow.length
    · have E : Hid (putCode d n m (x : Int) true = 5) := by show _ = _; rw [PC.out, if_neg (by omega), if_pos h12]
      have hI := hIX _ (ints_of_owns QL.out)
      rw [hat] at hI
      clear hIX
      go_enter Try.func84, Try.ntmps84
      go_wp2_with (first
        | (go_at_call 93; refine hLO.mono ?_; rintro e w' ⟨rfl, hww⟩; subst hww)
        | (go_at_call 96; refine hI.mono ?_; rintro e w' ⟨rfl, hww⟩; subst hww))
      go_ret
      exact ⟨by rw [E.out]; rfl, BA, (fun hc => by rw [E.out] at hc; cases hc), FA.block⟩
    · obtain ⟨t1, t2, t3⟩ := HT.out (by omega) (by omega)
      have hI := hIX _ (ints_of_owns QL.out)
      rw [hat] at hI
      clear hIX
      go_enter Try.func84, Try.ntmps84
      go_upto_region 9 with (first
        | (go_at_call 93; refine hLO.mono ?_; rintro e w' ⟨rfl, hww⟩; subst hww)
        | (go_at_call 96; refine hI.mono ?_; rintro e w' ⟨rfl, hww⟩; subst hww))
      generalize hWA : w.alloc (.cells #[.slice (some ⟨g, 0, none⟩) rs.length c] 34) = wA at *
      have hob : (Value.slice rs[m].s.p (Tn.nd d m).shadow.length rs[m].s.c).ownBlock = blk rs[m] 2 := by
        unfold blk sblk lst
        cases rs[m].s.p <;> rfl
      have BB : Below wA.heap.size wA (wA.alloc (.cells #[.int .i64 (n : Int)] 3)) := (Below.refl _ _).alloc (Nat.le_refl _) _
      have OB : Hid (Owned (wA.alloc (.cells #[.int .i64 (n : Int)] 3)) B g c rs d) := O1.out.below BB (Nat.le_refl _)
      have hBA : B ≤ wA.heap.size := Nat.le_trans hB BA.size
      have hIns := insI_any (vb := wA.heap.size) (x := n) (OwnI.below QL.out BB (Nat.le_refl _)) (by simp; omega) hl i hil (heap_alloc_new wA _) (by
        rw [hob]
        intro e
        have := O1.out.low m hm 2 _ e
        omega)
      rw [hob] at hIns
      have hLB := keeps_below BB (Nat.le_refl _) _ _ hL
      have hkB := keeps_below BB (Nat.le_refl _) _ _ hk0
      have hBw : Below B w (wA.alloc (.cells #[.int .i64 (n : Int)] 3)) := BA.alloc (by omega) _
      have hBz : B ≤ (wA.alloc (.cells #[.int .i64 (n : Int)] 3)).heap.size := by simp; omega
      go_upto_region 10 with (go_at_call 97; refine hIns.mono ?_; rintro e w9 ⟨v9, rfl, ho9, hg9, hb9⟩; have ho9' := ho9; obtain ⟨p9, c9, rfl⟩ := ho9'.shape; have R9 := rowN_at (OB.out.rowGrown hm 2 hg9) m hm; have L9 := R9.2.2.1; have F9 := R9.2.2.2 (m * 9 + 7))
      have hblk9 : sblk ⟨p9, (Tn.insertAt (Tn.nd d m).shadow i n).length, c9⟩ = blk rs[m] 2 ∨ ∃ x, (wA.alloc (.cells #[.int .i64 (n : Int)] 3)).heap.size ≤ x ∧ x < w9.heap.size ∧ sblk ⟨p9, (Tn.insertAt (Tn.nd d m).shadow i n).length, c9⟩ = some x := by
        rw [sblk_own ⟨p9, _, c9⟩] at hb9
        rcases hb9 with e | ⟨y, hy, e⟩
        · exact Or.inl e
        · exact Or.inr ⟨y, hy, (World.ownsRow.lt ho9 y (by rw [sblk_own ⟨p9, _, c9⟩]; exact e)).2, e⟩
      have hN := OB.out.nds m hm hmd
      rw [← nd_at hmd] at hN
      have hne : ∀ t', t' ≠ 2 → ∀ y, blk rs[m] t' = some y → blk rs[m] 2 ≠ some y := fun t' ht' y h1 h2 => ht' (OB.out.sep.one m hm t' m hm 2 y h1 h2).2
      have F2 : Fr g rs w g (rs.set m { rs[m] with s := ⟨p9, (Tn.insertAt (Tn.nd d m).shadow i n).length, c9⟩ }) (w9.setCell ⟨g, m * 9 + 7, none⟩ (.slice p9 (Tn.insertAt (Tn.nd d m).shadow i n).length c9)) :=
        (FA.below BB).trans (Fr.list hm 2 (r' := { rs[m] with s := ⟨p9, (Tn.insertAt (Tn.nd d m).shadow i n).length, c9⟩ }) hg9 (fun t' ht' => by match t' with | 0 => rfl | 1 => rfl | 2 => exact absurd rfl ht') hblk9 _ _)
      have O2 := OB.out.list hm 2 (r' := { rs[m] with s := ⟨p9, (Tn.insertAt (Tn.nd d m).shadow i n).length, c9⟩ }) (n' := Tn.setList (Tn.nd d m) true (Tn.insertAt (Tn.nd d m).shadow i n)) hg9
        (fun t' ht' => by match t' with | 0 => rfl | 1 => rfl | 2 => exact absurd rfl ht') hblk9
        ⟨hN.live, hN.tag, hN.text, hN.up, hN.hasS, hN.inS, owns_grown hN.attrs hg9 (hne 0 (by decide)), owns_grown hN.kids hg9 (hne 1 (by decide)), ho9⟩ 7 (by decide) (.slice p9 (Tn.insertAt (Tn.nd d m).shadow i n).length c9) rfl
      have PI2 := PI.out
      rw [hat, Int.toNat_natCast] at PI2
      rw [← PI2] at O2
      have hkw : (w9.setCell ⟨g, m * 9 + 7, none⟩ (.slice p9 (Tn.insertAt (Tn.nd d m).shadow i n).length c9)).cell? ⟨w.heap.size, 0, none⟩ = some (.slice (some ⟨g, 0, none⟩) rs.length c) := by
        rw [World.cell?_setCell_other _ _ _ _ (by intro e; injection e with e; omega)]
        exact World.grownBy.cell hg9 hkB (fun e => hlowK m hm 2 e.symm)
      have B9 : Below B w w9 := hBw.grown hg9 hBz (fun k hk => (World.ownsRow.lt QL.out k (by rw [hob]; exact hk)).1)
      have B2 : Below B w (w9.setCell ⟨g, m * 9 + 7, none⟩ (.slice p9 (Tn.insertAt (Tn.nd d m).shadow i n).length c9)) := B9.setCell (p := ⟨g, m * 9 + 7, none⟩) hBg _
      generalize w9.setCell ⟨g, m * 9 + 7, none⟩ (.slice p9 (Tn.insertAt (Tn.nd d m).shadow i n).length c9) = W2 at *
      have hr2 : (rs.set m { rs[m] with s := ⟨p9, (Tn.insertAt (Tn.nd d m).shadow i n).length, c9⟩ }).length = rs.length := by simp
      generalize rs.set m { rs[m] with s := ⟨p9, (Tn.insertAt (Tn.nd d m).shadow i n).length, c9⟩ } = rs2 at *
      have hn2 : n < rs2.length := by omega
      obtain ⟨U1, U2⟩ := O2.upIns hn2 (m : Int) true
      rw [← PD.out] at U1 U2
      obtain ⟨_, _, hf2⟩ := O2.at (by omega)
      have Dw2 := O2.doc (by omega)
      have q4 := Dw2.row.c4 n hn2
      have q8 := Dw2.row.c8 n hn2
      rw [Nat.zero_add] at q4 q8
      have f4 := hf2 (n * 9 + 4)
      have f8 := hf2 (n * 9 + 8)
      have QU1 : Hid _ := U1
      have QU2 : Hid _ := U2
      have hgK : g ≠ w.heap.size := by omega
      have hn2' : (n : Int) < (rs.length : Int) := by omega
      clear U1 U2 hf2 Dw2 O2 PI2 hne hN hblk9 hb9 hg9 ho9 ho9' R9 L9 F9 hIns hLB hkB OB O1 D1 BA BB hI hLO hL hk0 QL HT
      obtain ⟨d3, hd3⟩ : ∃ d3, d3 = putDoc d n m (x : Int) true := ⟨_, rfl⟩
      rw [← hd3] at QU1 t1 t2 t3 PC
      have QD : Hid (d3 = putDoc d n m (x : Int) true) := hd3
      clear hd3 PD
      generalize rs2[n].up = uu at *
      generalize rs2[n].inS = ii at *
      go_region
      obtain ⟨rs3, hr3, O3, F3⟩ := QU1.out
      have F4 := (F2.trans F3).below (Below.drew (Below.refl _ _))
      have hr : rs3.length = rs.length := by omega
      have B3 : Below B w ((W2.setCell ⟨g, n * 9 + 4, none⟩ (.int .i64 (m : Int))).setCell ⟨g, n * 9 + 8, none⟩ (.bool true)).drew := ((B2.setCell (p := ⟨g, n * 9 + 4, none⟩) hBg _).setCell (p := ⟨g, n * 9 + 8, none⟩) hBg _).drew
      have O4 : Owned ((W2.setCell ⟨g, n * 9 + 4, none⟩ (.int .i64 (m : Int))).setCell ⟨g, n * 9 + 8, none⟩ (.bool true)).drew B g c rs3 d3 := O3.below (Below.drew (Below.refl _ _)) (Nat.le_refl _)
      have hkw3 : ((W2.setCell ⟨g, n * 9 + 4, none⟩ (.int .i64 (m : Int))).setCell ⟨g, n * 9 + 8, none⟩ (.bool true)).drew.cell? ⟨w.heap.size, 0, none⟩ = some (.slice (some ⟨g, 0, none⟩) rs.length c) := by
        rw [World.cell?_drew, World.cell?_setCell_other _ _ _ _ (by intro e; injection e with e; omega), World.cell?_setCell_other _ _ _ _ (by intro e; injection e with e; omega)]
        exact hkw
      have D4 : Hid (DocAt ((W2.setCell ⟨g, n * 9 + 4, none⟩ (.int .i64 (m : Int))).setCell ⟨g, n * 9 + 8, none⟩ (.bool true)).drew g 0 c rs3 d3) := O4.doc (by omega)
      generalize ((W2.setCell ⟨g, n * 9 + 4, none⟩ (.int .i64 (m : Int))).setCell ⟨g, n * 9 + 8, none⟩ (.bool true)).drew = W3 at *
      have hAll := dall_any D4.out t1 t2 n t3
      rw [hr] at hAll
      have HCF : Hid (∀ (W : World) (v : Value), Below W3.heap.size W3 W → OwnI W W3.heap.size v (Tn.all Tn.fuel d3 n) → Calls Try.prog 98 #[v, .func (.func 99) #[] #[.pointer (some ⟨w.heap.size, 0, none⟩)]] W fun e w' => e = .returned (.bool ((Tn.all Tn.fuel d3 n).any (tooDeep d3))) ∧ Below W.heap.size W w') := by
        intro W v hW ho
        refine contF_any put1_enters (ints_of_owns ho) (fun V hV => ?_)
        have hK := (keeps_below hW (Nat.le_refl _)).trans (keeps_below hV (Nat.le_refl _))
        have hc := hK _ _ hkw3
        rw [← hr] at hc
        exact put1_tests (D4.out.keeps hK) t1 hc
      have O5 : Hid _ := O4
      clear QU1 QU2 O3 O4 hkw q4 q8 f4 f8 D4 F2 F3
      cases hany : (Tn.all Tn.fuel d3 n).any (tooDeep d3) with
      | true =>
        have E : Hid (putCode d n m (x : Int) true = 3) := by show _ = _; rw [PC.out, if_neg (by omega), if_neg h12, hany]; rfl
        rw [hany] at HCF
        clear PC PI
        go_wp2_with (first
          | (go_at_call 35; refine hAll.mono ?_; rintro e w5 ⟨v5, rfl, ho5, hb5⟩)
          | (go_at_call 98; refine (HCF.out _ _ hb5 ho5).mono ?_; rintro e w6 ⟨rfl, hb6⟩))
        go_ret
        exact ⟨by rw [E.out]; rfl, (B3.trans (hb5.mono (Nat.le_trans hB B3.size))).trans (hb6.mono (Nat.le_trans (Nat.le_trans hB B3.size) hb5.size)), (fun hc => by rw [E.out] at hc; cases hc), ((F4.below hb5).below hb6).block⟩
      | false =>
        have E : Hid (putCode d n m (x : Int) true = 0) := by show _ = _; rw [PC.out, if_neg (by omega), if_neg h12, hany]; rfl
        rw [hany] at HCF
        clear PC PI
        go_wp2_with (first
          | (go_at_call 35; refine hAll.mono ?_; rintro e w5 ⟨v5, rfl, ho5, hb5⟩)
          | (go_at_call 98; refine (HCF.out _ _ hb5 ho5).mono ?_; rintro e w6 ⟨rfl, hb6⟩))
        go_ret
        exact ⟨by rw [E.out]; rfl, (B3.trans (hb5.mono (Nat.le_trans hB B3.size))).trans (hb6.mono (Nat.le_trans (Nat.le_trans hB B3.size) hb5.size)), fun _ => ⟨rs3, hr, by rw [← QD.out]; exact (O5.out.below hb5 (Nat.le_refl _)).below hb6 (Nat.le_refl _), (F4.below hb5).below hb6⟩, ((F4.below hb5).below hb6).block⟩

theorem dput_Attrue {w : World} {B g c : Nat} {rs : List Raw} {d : Tn.Dc} (h : Owned w B g c rs d) (hB : B ≤ w.heap.size) {n m : Nat} (hn : n < rs.length) (hm : m < rs.length) (hls : ∀ s, (Tn.liD d m s).length ≤ 1000) (x : Nat)
    (hT : 0 ≤ putAt (Tn.listOf (Tn.nd d m) true) (x : Int) → (Tn.listOf (Tn.nd d m) true).length < 12 → Tame (putDoc d n m (x : Int) true) ∧ (∀ j s, (Tn.liD (putDoc d n m (x : Int) true) j s).length ≤ 1000) ∧ Tn.lvD (putDoc d n m (x : Int) true) n = true) :
    Calls Try.prog 84 #[.slice (some ⟨g, 0, none⟩) rs.length c, .int .i64 (n : Int), .int .i64 (m : Int), .int .i64 (x : Int), .bool true] w fun e w' => e = .returned (.int .i64 (putCode d n m (x : Int) true)) ∧ Below B w w' ∧ (putCode d n m (x : Int) true = 0 → ∃ rs', rs'.length = rs.length ∧ Owned w' B g c rs' (putDoc d n m (x : Int) true) ∧ Fr g rs w g rs' w') :=
  (dput_AttrueK h hB hn hm hls x hT).mono fun _ _ h => ⟨h.1, h.2.1, h.2.2.1⟩
end Go.Proofs.Ytookcjdibpccpaa

/-
  THE WALK of dom.put, in a document of the call's own.
-/
namespace Go.Proofs.Ytookcjdibpccpaa
open Go.RowKit

set_option maxHeartbeats 6400000 in
set_option maxRecDepth 100000 in
theorem dput_EndfalseK {w : World} {B g c : Nat} {rs : List Raw} {d : Tn.Dc} (h : Owned w B g c rs d) (hB : B ≤ w.heap.size) {n m : Nat} (hn : n < rs.length) (hm : m < rs.length) (hls : ∀ s, (Tn.liD d m s).length ≤ 1000) (x : Int) (hx : x < 0)
    (hT : 0 ≤ putAt (Tn.listOf (Tn.nd d m) false) x → (Tn.listOf (Tn.nd d m) false).length < 12 → Tame (putDoc d n m x false) ∧ (∀ j s, (Tn.liD (putDoc d n m x false) j s).length ≤ 1000) ∧ Tn.lvD (putDoc d n m x false) n = true) :
    Calls Try.prog 84 #[.slice (some ⟨g, 0, none⟩) rs.length c, .int .i64 (n : Int), .int .i64 (m : Int), .int .i64 x, .bool false] w fun e w' => e = .returned (.int .i64 (putCode d n m x false)) ∧ Below B w w' ∧ (putCode d n m x false = 0 → ∃ rs', rs'.length = rs.length ∧ Owned w' B g c rs' (putDoc d n m x false) ∧ Fr g rs w g rs' w') ∧ Kpt g rs w w' := by
  have h0 : 0 < rs.length := by omega
  obtain ⟨hBg, hgl, hfz⟩ := h.at h0
  have hnd : n < d.length := by rw [← h.len]; exact hn
  have hmd : m < d.length := by rw [← h.len]; exact hm
  have W1 : Below w.heap.size w (w.alloc (.cells #[.slice (some ⟨g, 0, none⟩) rs.length c] 34)) := (Below.refl _ _).alloc (Nat.le_refl _) _
  have O1 : Hid (Owned (w.alloc (.cells #[.slice (some ⟨g, 0, none⟩) rs.length c] 34)) B g c rs d) := h.below W1 (Nat.le_refl _)
  have D1 : Hid (DocAt (w.alloc (.cells #[.slice (some ⟨g, 0, none⟩) rs.length c] 34)) g 0 c rs d) := O1.out.doc h0
  have FA : Fr g rs w g rs (w.alloc (.cells #[.slice (some ⟨g, 0, none⟩) rs.length c] 34)) := (Fr.refl g rs w).below W1
  have BA : Below B w (w.alloc (.cells #[.slice (some ⟨g, 0, none⟩) rs.length c] 34)) := (Below.refl B w).alloc hB _
  have hk0 := cell_box w (.slice (some ⟨g, 0, none⟩) rs.length c) (t := 34)
  have hlowK : ∀ k (hk : k < rs.length) t, blk rs[k] t ≠ some w.heap.size := fun k hk t e => by have := h.low k hk t _ e; omega
  have hKA : w.heap.size < (w.alloc (.cells #[.slice (some ⟨g, 0, none⟩) rs.length c] 34)).heap.size := by simp
  have hlist : OwnI (w.alloc (.cells #[.slice (some ⟨g, 0, none⟩) rs.length c] 34)) B (.slice rs[m].k.p rs[m].k.n rs[m].k.c) (Tn.nd d m).kids := by rw [nd_at hmd]; exact (O1.out.nds m hm hmd).kids
  have hL := (rowN_at O1.out.row m hm).2.1
  have hl : (Tn.nd d m).kids.length ≤ 1000 := hls false
  have hKn : rs[m].k.n = (Tn.nd d m).kids.length := hl_of (ints_of_owns hlist)
  have PC : Hid (putCode d n m x false = if putAt (Tn.nd d m).kids x < 0 then 8 else if 12 ≤ (Tn.nd d m).kids.length then 5 else if (Tn.all Tn.fuel (putDoc d n m x false) n).any (tooDeep (putDoc d n m x false)) then 3 else 0) := rfl
  have PI : Hid (putIn d n m x false = d.set m (Tn.setList (Tn.nd d m) false (Tn.insertAt (Tn.nd d m).kids (putAt (Tn.nd d m).kids x).toNat n))) := rfl
  have PD : Hid (putDoc d n m x false = (putIn d n m x false).set n { Tn.nd (putIn d n m x false) n with up := (m : Int), inS := false }) := rfl
  have HT : Hid (0 ≤ putAt (Tn.nd d m).kids x → (Tn.nd d m).kids.length < 12 → Tame (putDoc d n m x false) ∧ (∀ j s, (Tn.liD (putDoc d n m x false) j s).length ≤ 1000) ∧ Tn.lvD (putDoc d n m x false) n = true) := hT
  have hAE := putAt_end (Tn.nd d m).kids x hx
  rw [hKn] at hL hlist
  clear hT hls hfz W1 h hKn
  have QL : Hid _ := hlist
  clear hlist
  have hof : 0 + m * 9 + lof false = m * 9 + 5 := by simp [lof]
  have hLO := dlistOf_any D1.out m hm false
  rw [hof] at hLO
  rcases putAt_cases (Tn.nd d m).kids x with hat | ⟨i, hil, hat⟩
  · have E : Hid (putCode d n m x false = 8) := by show _ = _; rw [PC.out, hat]; rfl
    omega
  · by_cases h12 : 12 ≤ (Tn.nd d m).kids.length
    · have E : Hid (putCode d n m x false = 5) := by show _ = _; rw [PC.out, if_neg (by omega), if_pos h12]
      have hil2 : i = (Tn.nd d m).kids.length := by omega
      subst hil2
      go_enter Try.func84, Try.ntmps84
      go_wp2_with (first
        | (go_at_call 93; refine hLO.mono ?_; rintro e w' ⟨rfl, hww⟩; subst hww))
      go_ret
      exact ⟨by rw [E.out]; rfl, BA, (fun hc => by rw [E.out] at hc; cases hc), FA.block⟩
    · obtain ⟨t1, t2, t3⟩ := HT.out (by omega) (by omega)
      have hil2 : i = (Tn.nd d m).kids.length := by omega
      subst hil2
      go_enter Try.func84, Try.ntmps84
      go_upto_region 9 with (first
        | (go_at_call 93; refine hLO.mono ?_; rintro e w' ⟨rfl, hww⟩; subst hww))
      generalize hWA : w.alloc (.cells #[.slice (some ⟨g, 0, none⟩) rs.length c] 34) = wA at *
      have hob : (Value.slice rs[m].k.p (Tn.nd d m).kids.length rs[m].k.c).ownBlock = blk rs[m] 1 := by
        unfold blk sblk lst
        cases rs[m].k.p <;> rfl
      have BB : Below wA.heap.size wA (wA.alloc (.cells #[.int .i64 (n : Int)] 3)) := (Below.refl _ _).alloc (Nat.le_refl _) _
      have OB : Hid (Owned (wA.alloc (.cells #[.int .i64 (n : Int)] 3)) B g c rs d) := O1.out.below BB (Nat.le_refl _)
      have hBA : B ≤ wA.heap.size := Nat.le_trans hB BA.size
      have hIns := insI_any (vb := wA.heap.size) (x := n) (OwnI.below QL.out BB (Nat.le_refl _)) (by simp; omega) hl (Tn.nd d m).kids.length hil (heap_alloc_new wA _) (by
        rw [hob]
        intro e
        have := O1.out.low m hm 1 _ e
        omega)
      rw [hob] at hIns
      have hLB := keeps_below BB (Nat.le_refl _) _ _ hL
      have hkB := keeps_below BB (Nat.le_refl _) _ _ hk0
      have hBw : Below B w (wA.alloc (.cells #[.int .i64 (n : Int)] 3)) := BA.alloc (by omega) _
      have hBz : B ≤ (wA.alloc (.cells #[.int .i64 (n : Int)] 3)).heap.size := by simp; omega
      go_upto_region 10 with (go_at_call 97; refine hIns.mono ?_; rintro e w9 ⟨v9, rfl, ho9, hg9, hb9⟩; have ho9' := ho9; obtain ⟨p9, c9, rfl⟩ := ho9'.shape; have R9 := rowN_at (OB.out.rowGrown hm 1 hg9) m hm; have L9 := R9.2.1; have F9 := R9.2.2.2 (m * 9 + 5))
      have hblk9 : sblk ⟨p9, (Tn.insertAt (Tn.nd d m).kids (Tn.nd d m).kids.length n).length, c9⟩ = blk rs[m] 1 ∨ ∃ x, (wA.alloc (.cells #[.int .i64 (n : Int)] 3)).heap.size ≤ x ∧ x < w9.heap.size ∧ sblk ⟨p9, (Tn.insertAt (Tn.nd d m).kids (Tn.nd d m).kids.length n).length, c9⟩ = some x := by
        rw [sblk_own ⟨p9, _, c9⟩] at hb9
        rcases hb9 with e | ⟨y, hy, e⟩
        · exact Or.inl e
        · exact Or.inr ⟨y, hy, (World.ownsRow.lt ho9 y (by rw [sblk_own ⟨p9, _, c9⟩]; exact e)).2, e⟩
      have hN := OB.out.nds m hm hmd
      rw [← nd_at hmd] at hN
      have hne : ∀ t', t' ≠ 1 → ∀ y, blk rs[m] t' = some y → blk rs[m] 1 ≠ some y := fun t' ht' y h1 h2 => ht' (OB.out.sep.one m hm t' m hm 1 y h1 h2).2
      have F2 : Fr g rs w g (rs.set m { rs[m] with k := ⟨p9, (Tn.insertAt (Tn.nd d m).kids (Tn.nd d m).kids.length n).length, c9⟩ }) (w9.setCell ⟨g, m * 9 + 5, none⟩ (.slice p9 (Tn.insertAt (Tn.nd d m).kids (Tn.nd d m).kids.length n).length c9)) :=
        (FA.below BB).trans (Fr.list hm 1 (r' := { rs[m] with k := ⟨p9, (Tn.insertAt (Tn.nd d m).kids (Tn.nd d m).kids.length n).length, c9⟩ }) hg9 (fun t' ht' => by match t' with | 0 => rfl | 2 => rfl | 1 => exact absurd rfl ht') hblk9 _ _)
      have O2 := OB.out.list hm 1 (r' := { rs[m] with k := ⟨p9, (Tn.insertAt (Tn.nd d m).kids (Tn.nd d m).kids.length n).length, c9⟩ }) (n' := Tn.setList (Tn.nd d m) false (Tn.insertAt (Tn.nd d m).kids (Tn.nd d m).kids.length n)) hg9
        (fun t' ht' => by match t' with | 0 => rfl | 2 => rfl | 1 => exact absurd rfl ht') hblk9
        ⟨hN.live, hN.tag, hN.text, hN.up, hN.hasS, hN.inS, owns_grown hN.attrs hg9 (hne 0 (by decide)), ho9, owns_grown hN.shadow hg9 (hne 2 (by decide))⟩ 5 (by decide) (.slice p9 (Tn.insertAt (Tn.nd d m).kids (Tn.nd d m).kids.length n).length c9) rfl
      have PI2 := PI.out
      rw [hat, Int.toNat_natCast] at PI2
      rw [← PI2] at O2
      have hkw : (w9.setCell ⟨g, m * 9 + 5, none⟩ (.slice p9 (Tn.insertAt (Tn.nd d m).kids (Tn.nd d m).kids.length n).length c9)).cell? ⟨w.heap.size, 0, none⟩ = some (.slice (some ⟨g, 0, none⟩) rs.length c) := by
        rw [World.cell?_setCell_other _ _ _ _ (by intro e; injection e with e; omega)]
        exact World.grownBy.cell hg9 hkB (fun e => hlowK m hm 1 e.symm)
      have B9 : Below B w w9 := hBw.grown hg9 hBz (fun k hk => (World.ownsRow.lt QL.out k (by rw [hob]; exact hk)).1)
      have B2 : Below B w (w9.setCell ⟨g, m * 9 + 5, none⟩ (.slice p9 (Tn.insertAt (Tn.nd d m).kids (Tn.nd d m).kids.length n).length c9)) := B9.setCell (p := ⟨g, m * 9 + 5, none⟩) hBg _
      generalize w9.setCell ⟨g, m * 9 + 5, none⟩ (.slice p9 (Tn.insertAt (Tn.nd d m).kids (Tn.nd d m).kids.length n).length c9) = W2 at *
      have hr2 : (rs.set m { rs[m] with k := ⟨p9, (Tn.insertAt (Tn.nd d m).kids (Tn.nd d m).kids.length n).length, c9⟩ }).length = rs.length := by simp
      generalize rs.set m { rs[m] with k := ⟨p9, (Tn.insertAt (Tn.nd d m).kids (Tn.nd d m).kids.length n).length, c9⟩ } = rs2 at *
      have hn2 : n < rs2.length := by omega
      obtain ⟨U1, U2⟩ := O2.upIns hn2 (m : Int) false
      rw [← PD.out] at U1 U2
      obtain ⟨_, _, hf2⟩ := O2.at (by omega)
      have Dw2 := O2.doc (by omega)
      have q4 := Dw2.row.c4 n hn2
      have q8 := Dw2.row.c8 n hn2
      rw [Nat.zero_add] at q4 q8
      have f4 := hf2 (n * 9 + 4)
      have f8 := hf2 (n * 9 + 8)
      have QU1 : Hid _ := U1
      have QU2 : Hid _ := U2
      have hgK : g ≠ w.heap.size := by omega
      have hn2' : (n : Int) < (rs.length : Int) := by omega
      clear U1 U2 hf2 Dw2 O2 PI2 hne hN hblk9 hb9 hg9 ho9 ho9' R9 L9 F9 hIns hLB hkB OB O1 D1 BA BB hLO hL hk0 QL HT
      obtain ⟨d3, hd3⟩ : ∃ d3, d3 = putDoc d n m x false := ⟨_, rfl⟩
      rw [← hd3] at QU1 t1 t2 t3 PC
      have QD : Hid (d3 = putDoc d n m x false) := hd3
      clear hd3 PD
      generalize rs2[n].up = uu at *
      generalize rs2[n].inS = ii at *
      go_region
      obtain ⟨rs3, hr3, O3, F3⟩ := QU1.out
      have F4 := (F2.trans F3).below (Below.drew (Below.refl _ _))
      have hr : rs3.length = rs.length := by omega
      have B3 : Below B w ((W2.setCell ⟨g, n * 9 + 4, none⟩ (.int .i64 (m : Int))).setCell ⟨g, n * 9 + 8, none⟩ (.bool false)).drew := ((B2.setCell (p := ⟨g, n * 9 + 4, none⟩) hBg _).setCell (p := ⟨g, n * 9 + 8, none⟩) hBg _).drew
      have O4 : Owned ((W2.setCell ⟨g, n * 9 + 4, none⟩ (.int .i64 (m : Int))).setCell ⟨g, n * 9 + 8, none⟩ (.bool false)).drew B g c rs3 d3 := O3.below (Below.drew (Below.refl _ _)) (Nat.le_refl _)
      have hkw3 : ((W2.setCell ⟨g, n * 9 + 4, none⟩ (.int .i64 (m : Int))).setCell ⟨g, n * 9 + 8, none⟩ (.bool false)).drew.cell? ⟨w.heap.size, 0, none⟩ = some (.slice (some ⟨g, 0, none⟩) rs.length c) := by
        rw [World.cell?_drew, World.cell?_setCell_other _ _ _ _ (by intro e; injection e with e; omega), World.cell?_setCell_other _ _ _ _ (by intro e; injection e with e; omega)]
        exact hkw
      have D4 : Hid (DocAt ((W2.setCell ⟨g, n * 9 + 4, none⟩ (.int .i64 (m : Int))).setCell ⟨g, n * 9 + 8, none⟩ (.bool false)).drew g 0 c rs3 d3) := O4.doc (by omega)
      generalize ((W2.setCell ⟨g, n * 9 + 4, none⟩ (.int .i64 (m : Int))).setCell ⟨g, n * 9 + 8, none⟩ (.bool false)).drew = W3 at *
      have hAll := dall_any D4.out t1 t2 n t3
      rw [hr] at hAll
      have HCF : Hid (∀ (W : World) (v : Value), Below W3.heap.size W3 W → OwnI W W3.heap.size v (Tn.all Tn.fuel d3 n) → Calls Try.prog 98 #[v, .func (.func 99) #[] #[.pointer (some ⟨w.heap.size, 0, none⟩)]] W fun e w' => e = .returned (.bool ((Tn.all Tn.fuel d3 n).any (tooDeep d3))) ∧ Below W.heap.size W w') := by
        intro W v hW ho
        refine contF_any put1_enters (ints_of_owns ho) (fun V hV => ?_)
        have hK := (keeps_below hW (Nat.le_refl _)).trans (keeps_below hV (Nat.le_refl _))
        have hc := hK _ _ hkw3
        rw [← hr] at hc
        exact put1_tests (D4.out.keeps hK) t1 hc
      have O5 : Hid _ := O4
      clear QU1 QU2 O3 O4 hkw q4 q8 f4 f8 D4 F2 F3
      cases hany : (Tn.all Tn.fuel d3 n).any (tooDeep d3) with
      | true =>
        have E : Hid (putCode d n m x false = 3) := by show _ = _; rw [PC.out, if_neg (by omega), if_neg h12, hany]; rfl
        rw [hany] at HCF
        clear PC PI
        go_wp2_with (first
          | (go_at_call 35; refine hAll.mono ?_; rintro e w5 ⟨v5, rfl, ho5, hb5⟩)
          | (go_at_call 98; refine (HCF.out _ _ hb5 ho5).mono ?_; rintro e w6 ⟨rfl, hb6⟩))
        go_ret
        exact ⟨by rw [E.out]; rfl, (B3.trans (hb5.mono (Nat.le_trans hB B3.size))).trans (hb6.mono (Nat.le_trans (Nat.le_trans hB B3.size) hb5.size)), (fun hc => by rw [E.out] at hc; cases hc), ((F4.below hb5).below hb6).block⟩
      | false =>
        have E : Hid (putCode d n m x false = 0) := by show _ = _; rw [PC.out, if_neg (by omega), if_neg h12, hany]; rfl
        rw [hany] at HCF
        clear PC PI
        go_wp2_with (first
          | (go_at_call 35; refine hAll.mono ?_; rintro e w5 ⟨v5, rfl, ho5, hb5⟩)
          | (go_at_call 98; refine (HCF.out _ _ hb5 ho5).mono ?_; rintro e w6 ⟨rfl, hb6⟩))
        go_ret
        exact ⟨by rw [E.out]; rfl, (B3.trans (hb5.mono (Nat.le_trans hB B3.size))).trans (hb6.mono (Nat.le_trans (Nat.le_trans hB B3.size) hb5.size)), fun _ => ⟨rs3, hr, by rw [← QD.out]; exact (O5.out.below hb5 (Nat.le_refl _)).below hb6 (Nat.le_refl _), (F4.below hb5).below hb6⟩, ((F4.below hb5).below hb6).block⟩

theorem dput_Endfalse {w : World} {B g c : Nat} {rs : List Raw} {d : Tn.Dc} (h : Owned w B g c rs d) (hB : B ≤ w.heap.size) {n m : Nat} (hn : n < rs.length) (hm : m < rs.length) (hls : ∀ s, (Tn.liD d m s).length ≤ 1000) (x : Int) (hx : x < 0)
    (hT : 0 ≤ putAt (Tn.listOf (Tn.nd d m) false) x → (Tn.listOf (Tn.nd d m) false).length < 12 → Tame (putDoc d n m x false) ∧ (∀ j s, (Tn.liD (putDoc d n m x false) j s).length ≤ 1000) ∧ Tn.lvD (putDoc d n m x false) n = true) :
    Calls Try.prog 84 #[.slice (some ⟨g, 0, none⟩) rs.length c, .int .i64 (n : Int), .int .i64 (m : Int), .int .i64 x, .bool false] w fun e w' => e = .returned (.int .i64 (putCode d n m x false)) ∧ Below B w w' ∧ (putCode d n m x false = 0 → ∃ rs', rs'.length = rs.length ∧ Owned w' B g c rs' (putDoc d n m x false) ∧ Fr g rs w g rs' w') :=
  (dput_EndfalseK h hB hn hm hls x hx hT).mono fun _ _ h => ⟨h.1, h.2.1, h.2.2.1⟩
end Go.Proofs.Ytookcjdibpccpaa

/-
  THE WALK of dom.put, in a document of the call's own.
-/
namespace Go.Proofs.Ytookcjdibpccpaa
open Go.RowKit

set_option maxHeartbeats 6400000 in
set_option maxRecDepth 100000 in
theorem dput_EndtrueK {w : World} {B g c : Nat} {rs : List Raw} {d : Tn.Dc} (h : Owned w B g c rs d) (hB : B ≤ w.heap.size) {n m : Nat} (hn : n < rs.length) (hm : m < rs.length) (hls : ∀ s, (Tn.liD d m s).length ≤ 1000) (x : Int) (hx : x < 0)
    (hT : 0 ≤ putAt (Tn.listOf (Tn.nd d m) true) x → (Tn.listOf (Tn.nd d m) true).length < 12 → Tame (putDoc d n m x true) ∧ (∀ j s, (Tn.liD (putDoc d n m x true) j s).length ≤ 1000) ∧ Tn.lvD (putDoc d n m x true) n = true) :
    Calls Try.prog 84 #[.slice (some ⟨g, 0, none⟩) rs.length c, .int .i64 (n : Int), .int .i64 (m : Int), .int .i64 x, .bool true] w fun e w' => e = .returned (.int .i64 (putCode d n m x true)) ∧ Below B w w' ∧ (putCode d n m x true = 0 → ∃ rs', rs'.length = rs.length ∧ Owned w' B g c rs' (putDoc d n m x true) ∧ Fr g rs w g rs' w') ∧ Kpt g rs w w' := by
  have h0 : 0 < rs.length := by omega
  obtain ⟨hBg, hgl, hfz⟩ := h.at h0
  have hnd : n < d.length := by rw [← h.len]; exact hn
  have hmd : m < d.length := by rw [← h.len]; exact hm
  have W1 : Below w.heap.size w (w.alloc (.cells #[.slice (some ⟨g, 0, none⟩) rs.length c] 34)) := (Below.refl _ _).alloc (Nat.le_refl _) _
  have O1 : Hid (Owned (w.alloc (.cells #[.slice (some ⟨g, 0, none⟩) rs.length c] 34)) B g c rs d) := h.below W1 (Nat.le_refl _)
  have D1 : Hid (DocAt (w.alloc (.cells #[.slice (some ⟨g, 0, none⟩) rs.length c] 34)) g 0 c rs d) := O1.out.doc h0
  have FA : Fr g rs w g rs (w.alloc (.cells #[.slice (some ⟨g, 0, none⟩) rs.length c] 34)) := (Fr.refl g rs w).below W1
  have BA : Below B w (w.alloc (.cells #[.slice (some ⟨g, 0, none⟩) rs.length c] 34)) := (Below.refl B w).alloc hB _
  have hk0 := cell_box w (.slice (some ⟨g, 0, none⟩) rs.length c) (t := 34)
  have hlowK : ∀ k (hk : k < rs.length) t, blk rs[k] t ≠ some w.heap.size := fun k hk t e => by have := h.low k hk t _ e; omega
  have hKA : w.heap.size < (w.alloc (.cells #[.slice (some ⟨g, 0, none⟩) rs.length c] 34)).heap.size := by simp
  have hlist : OwnI (w.alloc (.cells #[.slice (some ⟨g, 0, none⟩) rs.length c] 34)) B (.slice rs[m].s.p rs[m].s.n rs[m].s.c) (Tn.nd d m).shadow := by rw [nd_at hmd]; exact (O1.out.nds m hm hmd).shadow
  have hL := (rowN_at O1.out.row m hm).2.2.1
  have hl : (Tn.nd d m).shadow.length ≤ 1000 := hls true
  have hKn : rs[m].s.n = (Tn.nd d m).shadow.length := hl_of (ints_of_owns hlist)
  have PC : Hid (putCode d n m x true = if putAt (Tn.nd d m).shadow x < 0 then 8 else if 12 ≤ (Tn.nd d m).shadow.length then 5 else if (Tn.all Tn.fuel (putDoc d n m x true) n).any (tooDeep (putDoc d n m x true)) then 3 else 0) := rfl
  have PI : Hid (putIn d n m x true = d.set m (Tn.setList (Tn.nd d m) true (Tn.insertAt (Tn.nd d m).shadow (putAt (Tn.nd d m).shadow x).toNat n))) := rfl
  have PD : Hid (putDoc d n m x true = (putIn d n m x true).set n { Tn.nd (putIn d n m x true) n with up := (m : Int), inS := true }) := rfl
  have HT : Hid (0 ≤ putAt (Tn.nd d m).shadow x → (Tn.nd d m).shadow.length < 12 → Tame (putDoc d n m x true) ∧ (∀ j s, (Tn.liD (putDoc d n m x true) j s).length ≤ 1000) ∧ Tn.lvD (putDoc d n m x true) n = true) := hT
  have hAE := putAt_end (Tn.nd d m).shadow x hx
  rw [hKn] at hL hlist
  clear hT hls hfz W1 h hKn
  have QL : Hid _ := hlist
  clear hlist
  have hof : 0 + m * 9 + lof true = m * 9 + 7 := by simp [lof]
  have hLO := dlistOf_any D1.out m hm true
  rw [hof] at hLO
  rcases putAt_cases (Tn.nd d m).shadow x with hat | ⟨i, hil, hat⟩
  · have E : Hid (putCode d n m x true = 8) := by show _ = _; rw [PC.out, hat]; rfl
    omega
  · by_cases h12 : 12 ≤ (Tn.nd d m).shadow.length
    · have E : Hid (putCode d n m x true = 5) := by show _ = _; rw [PC.out, if_neg (by omega), if_pos h12]
      have hil2 : i = (Tn.nd d m).shadow.length := by omega
      subst hil2
      go_enter Try.func84, Try.ntmps84
      go_wp2_with (first
        | (go_at_call 93; refine hLO.mono ?_; rintro e w' ⟨rfl, hww⟩; subst hww))
      go_ret
      exact ⟨by rw [E.out]; rfl, BA, (fun hc => by rw [E.out] at hc; cases hc), FA.block⟩
    · obtain ⟨t1, t2, t3⟩ := HT.out (by omega) (by omega)
      have hil2 : i = (Tn.nd d m).shadow.length := by omega
      subst hil2
      go_enter Try.func84, Try.ntmps84
      go_upto_region 9 with (first
        | (go_at_call 93; refine hLO.mono ?_; rintro e w' ⟨rfl, hww⟩; subst hww))
      generalize hWA : w.alloc (.cells #[.slice (some ⟨g, 0, none⟩) rs.length c] 34) = wA at *
      have hob : (Value.slice rs[m].s.p (Tn.nd d m).shadow.length rs[m].s.c).ownBlock = blk rs[m] 2 := by
        unfold blk sblk lst
        cases rs[m].s.p <;> rfl
      have BB : Below wA.heap.size wA (wA.alloc (.cells #[.int .i64 (n : Int)] 3)) := (Below.refl _ _).alloc (Nat.le_refl _) _
      have OB : Hid (Owned (wA.alloc (.cells #[.int .i64 (n : Int)] 3)) B g c rs d) := O1.out.below BB (Nat.le_refl _)
      have hBA : B ≤ wA.heap.size := Nat.le_trans hB BA.size
      have hIns := insI_any (vb := wA.heap.size) (x := n) (OwnI.below QL.out BB (Nat.le_refl _)) (by simp; omega) hl (Tn.nd d m).shadow.length hil (heap_alloc_new wA _) (by
        rw [hob]
        intro e
        have := O1.out.low m hm 2 _ e
        omega)
      rw [hob] at hIns
      have hLB := keeps_below BB (Nat.le_refl _) _ _ hL
      have hkB := keeps_below BB (Nat.le_refl _) _ _ hk0
      have hBw : Below B w (wA.alloc (.cells #[.int .i64 (n : Int)] 3)) := BA.alloc (by omega) _
      have hBz : B ≤ (wA.alloc (.cells #[.int .i64 (n : Int)] 3)).heap.size := by simp; omega
      go_upto_region 10 with (go_at_call 97; refine hIns.mono ?_; rintro e w9 ⟨v9, rfl, ho9, hg9, hb9⟩; have ho9' := ho9; obtain ⟨p9, c9, rfl⟩ := ho9'.shape; have R9 := rowN_at (OB.out.rowGrown hm 2 hg9) m hm; have L9 := R9.2.2.1; have F9 := R9.2.2.2 (m * 9 + 7))
      have hblk9 : sblk ⟨p9, (Tn.insertAt (Tn.nd d m).shadow (Tn.nd d m).shadow.length n).length, c9⟩ = blk rs[m] 2 ∨ ∃ x, (wA.alloc (.cells #[.int .i64 (n : Int)] 3)).heap.size ≤ x ∧ x < w9.heap.size ∧ sblk ⟨p9, (Tn.insertAt (Tn.nd d m).shadow (Tn.nd d m).shadow.length n).length, c9⟩ = some x := by
        rw [sblk_own ⟨p9, _, c9⟩] at hb9
        rcases hb9 with e | ⟨y, hy, e⟩
        · exact Or.inl e
        · exact Or.inr ⟨y, hy, (World.ownsRow.lt ho9 y (by rw [sblk_own ⟨p9, _, c9⟩]; exact e)).2, e⟩
      have hN := OB.out.nds m hm hmd
      rw [← nd_at hmd] at hN
      have hne : ∀ t', t' ≠ 2 → ∀ y, blk rs[m] t' = some y → blk rs[m] 2 ≠ some y := fun t' ht' y h1 h2 => ht' (OB.out.sep.one m hm t' m hm 2 y h1 h2).2
      have F2 : Fr g rs w g (rs.set m { rs[m] with s := ⟨p9, (Tn.insertAt (Tn.nd d m).shadow (Tn.nd d m).shadow.length n).length, c9⟩ }) (w9.setCell ⟨g, m * 9 + 7, none⟩ (.slice p9 (Tn.insertAt (Tn.nd d m).shadow (Tn.nd d m).shadow.length n).length c9)) :=
        (FA.below BB).trans (Fr.list hm 2 (r' := { rs[m] with s := ⟨p9, (Tn.insertAt (Tn.nd d m).shadow (Tn.nd d m).shadow.length n).length, c9⟩ }) hg9 (fun t' ht' => by match t' with | 0 => rfl | 1 => rfl | 2 => exact absurd rfl ht') hblk9 _ _)
      have O2 := OB.out.list hm 2 (r' := { rs[m] with s := ⟨p9, (Tn.insertAt (Tn.nd d m).shadow (Tn.nd d m).shadow.length n).length, c9⟩ }) (n' := Tn.setList (Tn.nd d m) true (Tn.insertAt (Tn.nd d m).shadow (Tn.nd d m).shadow.length n)) hg9
        (fun t' ht' => by match t' with | 0 => rfl | 1 => rfl | 2 => exact absurd rfl ht') hblk9
        ⟨hN.live, hN.tag, hN.text, hN.up, hN.hasS, hN.inS, owns_grown hN.attrs hg9 (hne 0 (by decide)), owns_grown hN.kids hg9 (hne 1 (by decide)), ho9⟩ 7 (by decide) (.slice p9 (Tn.insertAt (Tn.nd d m).shadow (Tn.nd d m).shadow.length n).length c9) rfl
      have PI2 := PI.out
      rw [hat, Int.toNat_natCast] at PI2
      rw [← PI2] at O2
      have hkw : (w9.setCell ⟨g, m * 9 + 7, none⟩ (.slice p9 (Tn.insertAt (Tn.nd d m).shadow (Tn.nd d m).shadow.length n).length c9)).cell? ⟨w.heap.size, 0, none⟩ = some (.slice (some ⟨g, 0, none⟩) rs.length c) := by
        rw [World.cell?_setCell_other _ _ _ _ (by intro e; injection e with e; omega)]
        exact World.grownBy.cell hg9 hkB (fun e => hlowK m hm 2 e.symm)
      have B9 : Below B w w9 := hBw.grown hg9 hBz (fun k hk => (World.ownsRow.lt QL.out k (by rw [hob]; exact hk)).1)
      have B2 : Below B w (w9.setCell ⟨g, m * 9 + 7, none⟩ (.slice p9 (Tn.insertAt (Tn.nd d m).shadow (Tn.nd d m).shadow.length n).length c9)) := B9.setCell (p := ⟨g, m * 9 + 7, none⟩) hBg _
      generalize w9.setCell ⟨g, m * 9 + 7, none⟩ (.slice p9 (Tn.insertAt (Tn.nd d m).shadow (Tn.nd d m).shadow.length n).length c9) = W2 at *
      have hr2 : (rs.set m { rs[m] with s := ⟨p9, (Tn.insertAt (Tn.nd d m).shadow (Tn.nd d m).shadow.length n).length, c9⟩ }).length = rs.length := by simp
      generalize rs.set m { rs[m] with s := ⟨p9, (Tn.insertAt (Tn.nd d m).shadow (Tn.nd d m).shadow.length n).length, c9⟩ } = rs2 at *
      have hn2 : n < rs2.length := by omega
      obtain ⟨U1, U2⟩ := O2.upIns hn2 (m : Int) true
      rw [← PD.out] at U1 U2
      obtain ⟨_, _, hf2⟩ := O2.at (by omega)
      have Dw2 := O2.doc (by omega)
      have q4 := Dw2.row.c4 n hn2
      have q8 := Dw2.row.c8 n hn2
      rw [Nat.zero_add] at q4 q8
      have f4 := hf2 (n * 9 + 4)
      have f8 := hf2 (n * 9 + 8)
      have QU1 : Hid _ := U1
      have QU2 : Hid _ := U2
      have hgK : g ≠ w.heap.size := by omega
      have hn2' : (n : Int) < (rs.length : Int) := by omega
      clear U1 U2 hf2 Dw2 O2 PI2 hne hN hblk9 hb9 hg9 ho9 ho9' R9 L9 F9 hIns hLB hkB OB O1 D1 BA BB hLO hL hk0 QL HT
      obtain ⟨d3, hd3⟩ : ∃ d3, d3 = putDoc d n m x true := ⟨_, rfl⟩
      rw [← hd3] at QU1 t1 t2 t3 PC
      have QD : Hid (d3 = putDoc d n m x true) := hd3
      clear hd3 PD
      generalize rs2[n].up = uu at *
      generalize rs2[n].inS = ii at *
      go_region
      obtain ⟨rs3, hr3, O3, F3⟩ := QU1.out
      have F4 := (F2.trans F3).below (Below.drew (Below.refl _ _))
      have hr : rs3.length = rs.length := by omega
      have B3 : Below B w ((W2.setCell ⟨g, n * 9 + 4, none⟩ (.int .i64 (m : Int))).setCell ⟨g, n * 9 + 8, none⟩ (.bool true)).drew := ((B2.setCell (p := ⟨g, n * 9 + 4, none⟩) hBg _).setCell (p := ⟨g, n * 9 + 8, none⟩) hBg _).drew
      have O4 : Owned ((W2.setCell ⟨g, n * 9 + 4, none⟩ (.int .i64 (m : Int))).setCell ⟨g, n * 9 + 8, none⟩ (.bool true)).drew B g c rs3 d3 := O3.below (Below.drew (Below.refl _ _)) (Nat.le_refl _)
      have hkw3 : ((W2.setCell ⟨g, n * 9 + 4, none⟩ (.int .i64 (m : Int))).setCell ⟨g, n * 9 + 8, none⟩ (.bool true)).drew.cell? ⟨w.heap.size, 0, none⟩ = some (.slice (some ⟨g, 0, none⟩) rs.length c) := by
        rw [World.cell?_drew, World.cell?_setCell_other _ _ _ _ (by intro e; injection e with e; omega), World.cell?_setCell_other _ _ _ _ (by intro e; injection e with e; omega)]
        exact hkw
      have D4 : Hid (DocAt ((W2.setCell ⟨g, n * 9 + 4, none⟩ (.int .i64 (m : Int))).setCell ⟨g, n * 9 + 8, none⟩ (.bool true)).drew g 0 c rs3 d3) := O4.doc (by omega)
      generalize ((W2.setCell ⟨g, n * 9 + 4, none⟩ (.int .i64 (m : Int))).setCell ⟨g, n * 9 + 8, none⟩ (.bool true)).drew = W3 at *
      have hAll := dall_any D4.out t1 t2 n t3
      rw [hr] at hAll
      have HCF : Hid (∀ (W : World) (v : Value), Below W3.heap.size W3 W → OwnI W W3.heap.size v (Tn.all Tn.fuel d3 n) → Calls Try.prog 98 #[v, .func (.func 99) #[] #[.pointer (some ⟨w.heap.size, 0, none⟩)]] W fun e w' => e = .returned (.bool ((Tn.all Tn.fuel d3 n).any (tooDeep d3))) ∧ Below W.heap.size W w') := by
        intro W v hW ho
        refine contF_any put1_enters (ints_of_owns ho) (fun V hV => ?_)
        have hK := (keeps_below hW (Nat.le_refl _)).trans (keeps_below hV (Nat.le_refl _))
        have hc := hK _ _ hkw3
        rw [← hr] at hc
        exact put1_tests (D4.out.keeps hK) t1 hc
      have O5 : Hid _ := O4
      clear QU1 QU2 O3 O4 hkw q4 q8 f4 f8 D4 F2 F3
      cases hany : (Tn.all Tn.fuel d3 n).any (tooDeep d3) with
      | true =>
        have E : Hid (putCode d n m x true = 3) := by show _ = _; rw [PC.out, if_neg (by omega), if_neg h12, hany]; rfl
        rw [hany] at HCF
        clear PC PI
        go_wp2_with (first
          | (go_at_call 35; refine hAll.mono ?_; rintro e w5 ⟨v5, rfl, ho5, hb5⟩)
          | (go_at_call 98; refine (HCF.out _ _ hb5 ho5).mono ?_; rintro e w6 ⟨rfl, hb6⟩))
        go_ret
        exact ⟨by rw [E.out]; rfl, (B3.trans (hb5.mono (Nat.le_trans hB B3.size))).trans (hb6.mono (Nat.le_trans (Nat.le_trans hB B3.size) hb5.size)), (fun hc => by rw [E.out] at hc; cases hc), ((F4.below hb5).below hb6).block⟩
      | false =>
        have E : Hid (putCode d n m x true = 0) := by show _ = _; rw [PC.out, if_neg (by omega), if_neg h12, hany]; rfl
        rw [hany] at HCF
        clear PC PI
        go_wp2_with (first
          | (go_at_call 35; refine hAll.mono ?_; rintro e w5 ⟨v5, rfl, ho5, hb5⟩)
          | (go_at_call 98; refine (HCF.out _ _ hb5 ho5).mono ?_; rintro e w6 ⟨rfl, hb6⟩))
        go_ret
        exact ⟨by rw [E.out]; rfl, (B3.trans (hb5.mono (Nat.le_trans hB B3.size))).trans (hb6.mono (Nat.le_trans (Nat.le_trans hB B3.size) hb5.size)), fun _ => ⟨rs3, hr, by rw [← QD.out]; exact (O5.out.below hb5 (Nat.le_refl _)).below hb6 (Nat.le_refl _), (F4.below hb5).below hb6⟩, ((F4.below hb5).below hb6).block⟩

theorem dput_Endtrue {w : World} {B g c : Nat} {rs : List Raw} {d : Tn.Dc} (h : Owned w B g c rs d) (hB : B ≤ w.heap.size) {n m : Nat} (hn : n < rs.length) (hm : m < rs.length) (hls : ∀ s, (Tn.liD d m s).length ≤ 1000) (x : Int) (hx : x < 0)
    (hT : 0 ≤ putAt (Tn.listOf (Tn.nd d m) true) x → (Tn.listOf (Tn.nd d m) true).length < 12 → Tame (putDoc d n m x true) ∧ (∀ j s, (Tn.liD (putDoc d n m x true) j s).length ≤ 1000) ∧ Tn.lvD (putDoc d n m x true) n = true) :
    Calls Try.prog 84 #[.slice (some ⟨g, 0, none⟩) rs.length c, .int .i64 (n : Int), .int .i64 (m : Int), .int .i64 x, .bool true] w fun e w' => e = .returned (.int .i64 (putCode d n m x true)) ∧ Below B w w' ∧ (putCode d n m x true = 0 → ∃ rs', rs'.length = rs.length ∧ Owned w' B g c rs' (putDoc d n m x true) ∧ Fr g rs w g rs' w') :=
  (dput_EndtrueK h hB hn hm hls x hx hT).mono fun _ _ h => ⟨h.1, h.2.1, h.2.2.1⟩
end Go.Proofs.Ytookcjdibpccpaa
