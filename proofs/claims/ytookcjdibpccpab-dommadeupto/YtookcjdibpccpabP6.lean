/-
  OWN WORK: Sdl, Fsl, Fs2, Fgi, Ind, Fki, Fup, Fsh, Fs1, Fs3, Fok, Fma.
-/
import Derived.Test.YtookcjdibpccpabP5
import Derived.Shelf.RegionOpenPlain
import Derived.Lib.SliceRun
/-
  THE WALKS of slices.IndexFunc and slices.DeleteFunc at ints, whatever the function.
-/
namespace Go.Proofs.Ytookcjdibpccpab
open Go.RowKit

theorem grow_below {a w w' : World} {row : Option Nat} (h : a.grownBy w row) (hb : Below w.heap.size w w') : a.grownBy w' row :=
  ⟨hb.os.trans h.os, hb.tape.trans h.tape, hb.output.trans h.output, Nat.le_trans h.size hb.size, fun k hk hr => (hb.block k (Nat.lt_of_lt_of_le hk h.size)).trans (h.block k hk hr)⟩
theorem grow_set {a w : World} {g : Nat} (h : a.grownBy w (some g)) (i : Nat) (u : Value) : a.grownBy (w.setCell ⟨g, i, none⟩ u) (some g) := by
  have hb : Below 0 w (w.setCell ⟨g, i, none⟩ u) := (Below.refl 0 w).setCell (Nat.zero_le _) u
  refine ⟨hb.os.trans h.os, hb.tape.trans h.tape, hb.output.trans h.output, Nat.le_trans h.size hb.size, fun k hk hr => ?_⟩
  have hk' : Below g w (w.setCell ⟨g, i, none⟩ u) := (Below.refl g w).setCell (Nat.le_refl _) u
  rw [← h.block k hk hr]
  exact heap_setCell_other _ _ _ _ (fun e => hr (by rw [e]))

/-- a function value of one int, that answers p, and lays only what is its own -/
def Tests (g : Nat) (lb : Array Value) (p : Nat → Bool) (W : World) : Prop :=
  ∀ k : Nat, Calls Try.prog g (#[.int .i64 (k : Int)] ++ lb) W fun e w' => e = .returned (.bool (p k)) ∧ Below W.heap.size W w'

set_option maxHeartbeats 1600000 in
theorem idxF_any {g : Nat} {lb : Array Value} {p : Nat → Bool} (eg : ∀ args w, (callFunc g args).run Try.prog w = .ok (.enter g args) w) {w : World} {vl : Value} {l : List Nat} (hl : IntsAt w vl l) (hF : ∀ W, Below w.heap.size w W → Tests g lb p W) :
    Calls Try.prog 41 #[vl, .func (.func g) #[] lb] w fun e w' => e = .returned (.int .i64 (idxI p l)) ∧ Below w.heap.size w w' := by
  obtain ⟨q, cc, rfl, h1, h2, _, hat⟩ := hl.at
  have T : Hid (∀ j (hj : j < l.length), ∃ b o, q = some ⟨b, o, none⟩ ∧ w.cell? ⟨b, o + j, none⟩ = some (.int .i64 (l[j] : Int))) := hat
  have HA : Hid (∀ W, Below w.heap.size w W → Tests g lb p W) := hF
  clear hat hl hF
  go_enter Try.func41, Try.ntmps41
  go_wp2_with fail
  go_loopw [8] (fun i wr => ∃ j : Nat, j ≤ l.length ∧ i = .int .i64 j ∧ Hid (∀ k ∈ l.take j, p k = false) ∧ Below w.heap.size w wr) (fun i _ => l.length - (intOf i).toNat)
  case atStart => exact ⟨0, Nat.zero_le _, rfl, fun k hk => by simp at hk, Below.refl _ _⟩
  case round =>
    obtain ⟨j, hj, rfl, NO, hnx⟩ := hrel
    by_cases hlt : j < l.length
    · obtain ⟨e1, o1, rfl, k1⟩ := T.out j hlt
      have y1 := keeps_below hnx (Nat.le_refl _) _ _ k1
      clear k1
      have hF := HA.out wr hnx l[j]
      cases hh : p l[j] with
      | true =>
        have E : Hid (idxI p l = (j : Int)) := idxI_some hlt hh NO.out
        rw [hh] at hF
        clear hh
        generalize l[j] = x at *
        go_wp2_with (go_at_fn g; refine hF.mono ?_; rintro e w9 ⟨rfl, hb9⟩)
        go_ret
        exact ⟨by rw [E.out]; rfl, hnx.trans (hb9.mono hnx.size)⟩
      | false =>
        have N2 : Hid (∀ k ∈ l.take (j + 1), p k = false) := by
          intro k hk
          rw [List.take_succ_eq_append_getElem hlt, List.mem_append, List.mem_singleton] at hk
          rcases hk with hk | rfl
          · exact NO.out k hk
          · exact hh
        rw [hh] at hF
        clear hh
        generalize l[j] = x at *
        go_wp2_with (go_at_fn g; refine hF.mono ?_; rintro e w9 ⟨rfl, hb9⟩)
        go_roundw
        case rel => exact ⟨j + 1, by omega, by go_num, N2, hnx.trans (hb9.mono hnx.size)⟩
        case measure => simp [intOf]; omega
    · obtain rfl : j = l.length := by omega
      have E : Hid (idxI p l = -1) := idxI_none (fun k hk => NO.out k (by rw [List.take_length]; exact hk))
      go_wp2_with fail
      go_ret
      exact ⟨by rw [E.out]; rfl, hnx⟩

theorem take_filter_succ (p : Nat → Bool) (l : List Nat) (j : Nat) (h : j < l.length) : (l.take (j + 1)).filter (fun k => !p k) = (l.take j).filter (fun k => !p k) ++ (if p l[j] then [] else [l[j]]) := by
  rw [List.take_succ_eq_append_getElem h, List.filter_append]
  congr 1
  cases hp : p l[j] <;> simp [hp]

theorem filter_first {p : Nat → Bool} {l : List Nat} {j : Nat} (h : j < l.length) (hp : p l[j] = true) (hn : ∀ k ∈ l.take j, p k = false) : (l.take (j + 1)).filter (fun k => !p k) = l.take j := by
  rw [take_filter_succ p l j h, hp]
  simp only [if_true, List.append_nil]
  rw [List.filter_eq_self]
  intro a ha
  simp [hn a ha]

/-- the row as it stands while it is rewritten -/
structure Kept1 (p : Nat → Bool) (l m : List Nat) (i j : Nat) : Prop where
  len : m.length = l.length
  lt : i < j
  le : j ≤ l.length
  done : m.take i = (l.take j).filter fun k => !p k
  cnt : ((l.take j).filter fun k => !p k).length = i
  rest : ∀ q (h : q < l.length) (h' : q < m.length), j ≤ q → m[q] = l[q]

theorem Kept1.keep {p : Nat → Bool} {l m : List Nat} {i j : Nat} (h : Kept1 p l m i j) (hj : j < l.length) (hp : p l[j] = false) : Kept1 p l (m.set i l[j]) (i + 1) (j + 1) := by
  have e := take_filter_succ p l j hj
  rw [hp] at e
  simp only [Bool.false_eq_true, if_false] at e
  have hl := h.len
  have hlt := h.lt
  refine ⟨by simpa using hl, by omega, by omega, ?_, by rw [e, List.length_append, h.cnt]; rfl, fun q hq hq' hjq => ?_⟩
  · rw [e, ← h.done]
    rw [List.take_succ_eq_append_getElem (by simp; omega)]
    simp
    rw [List.take_set_of_le (Nat.le_refl _)]
  · rw [List.getElem_set_ne (by omega)]
    exact h.rest q hq (by simpa using hq') (by omega)
theorem Kept1.skip {p : Nat → Bool} {l m : List Nat} {i j : Nat} (h : Kept1 p l m i j) (hj : j < l.length) (hp : p l[j] = true) : Kept1 p l m i (j + 1) := by
  have e := take_filter_succ p l j hj
  rw [hp] at e
  simp only [if_true, List.append_nil] at e
  have hlt := h.lt
  exact ⟨h.len, by omega, by omega, by rw [e]; exact h.done, by rw [e]; exact h.cnt, fun q hq hq' hjq => h.rest q hq hq' (by omega)⟩

theorem owns_cut {w : World} {B g c n i : Nat} {l : List Nat} (h : OwnI w B (.slice (some ⟨g, 0, none⟩) n c) l) (hn : n = l.length) (hi : i ≤ l.length) : OwnI w B (.slice (some ⟨g, 0, none⟩) i c) (l.take i) := by
  subst hn
  obtain ⟨hl, hz⟩ := h
  rcases hz with ⟨h5, _⟩ | ⟨g', cap, cur, e, h3, h6, h7, h8, h9, h10⟩
  · cases h5
  · cases e
    refine ⟨by simp, Or.inr ⟨g, c, cur, by simp [Nat.min_eq_left hi], h3, h6, by simp; omega, h8, h9, ?_⟩⟩
    rw [List.map_take, ← h10, List.take_take]
    simp [Nat.min_eq_left hi]

theorem owns_behind {B g c i : Nat} {l : List Nat} (hn : i = l.length) : ∀ (vs : List Value) (w : World) (s : Nat), l.length ≤ s → OwnI w B (.slice (some ⟨g, 0, none⟩) i c) l → OwnI (w.setCells g s vs) B (.slice (some ⟨g, 0, none⟩) i c) l
  | [], _, _, _, h => h
  | x :: vs, w, s, hs, h => by
    subst hn
    refine owns_behind rfl vs (w.setCell ⟨g, s, none⟩ x) (s + 1) (by omega) ?_
    have := owns_set h s x
    unfold OwnI
    rw [List.set_eq_of_length_le (by simpa using hs)] at this
    exact this

theorem grown_setCells {g : Nat} {a : World} : ∀ (vs : List Value) (w : World) (s : Nat), a.grownBy w (some g) → a.grownBy (w.setCells g s vs) (some g)
  | [], _, _, h => h
  | _ :: vs, _, s, h => grown_setCells vs _ (s + 1) (grow_set h s _)

theorem idx_cases2 (p : Nat → Bool) (l : List Nat) : (idxI p l = -1 ∧ ∀ k ∈ l, p k = false) ∨ ∃ j, ∃ hj : j < l.length, idxI p l = (j : Int) ∧ p l[j] = true ∧ ∀ k ∈ l.take j, p k = false := by
  cases h : l.findIdx? p with
  | none => exact Or.inl ⟨by unfold idxI; rw [h], fun k hk => List.findIdx?_eq_none_iff.mp h k hk⟩
  | some j =>
    right
    obtain ⟨hj, hp, hn⟩ := List.findIdx?_eq_some_iff_getElem.mp h
    refine ⟨j, hj, by unfold idxI; rw [h], hp, fun k hk => ?_⟩
    obtain ⟨q, hq, rfl⟩ := List.mem_take_iff_getElem.mp hk
    have := hn q (by omega)
    simpa using this

theorem own_cell {w : World} {B G n c : Nat} {l : List Nat} (h : OwnI w B (.slice (some ⟨G, 0, none⟩) n c) l) (j : Nat) (hj : j < l.length) : w.cell? ⟨G, j, none⟩ = some (.int .i64 (l[j] : Int)) ∧ w.frozen? ⟨G, j, none⟩ = false := by
  have hc := World.ownsRow.cells h (g := G) rfl j (.int .i64 (l[j] : Int)) (by simp [List.getElem?_eq_getElem hj, iv])
  rw [add_at, Nat.zero_add] at hc
  refine ⟨hc, ?_⟩
  obtain ⟨hl, hz⟩ := h
  rcases hz with ⟨h5, _⟩ | ⟨g', cap, cur, e, h3, h6, h7, h8, h9, h10⟩
  · cases h5
  · cases e
    simp [World.frozen?, h6]

theorem own_shape2 {w : World} {B : Nat} {v : Value} {l : List Nat} (h : OwnI w B v l) (hl : 0 < l.length) : ∃ G c, v = .slice (some ⟨G, 0, none⟩) l.length c ∧ B ≤ G ∧ G < w.heap.size ∧ l.length ≤ c ∧ c ≤ 9223372036854775807 := by
  obtain ⟨hl, hz⟩ := h
  rcases hz with ⟨_, h5⟩ | ⟨g', cap, cur, e, h3, h6, h7, h8, h9, h10⟩
  · omega
  · exact ⟨g', cap, e, h3, by rw [Array.getElem?_eq_some_iff] at h6; exact h6.1, h7, by unfold maxLen at h8; omega⟩

set_option maxHeartbeats 1600000 in
theorem del_any {g : Nat} {lb : Array Value} {p : Nat → Bool} (eg : ∀ args w, (callFunc g args).run Try.prog w = .ok (.enter g args) w) {w : World} {B : Nat} {v : Value} {l : List Nat} (hown : OwnI w B v l) (hl : l.length ≤ 1000) (hF : ∀ W, w.grownBy W v.ownBlock → Tests g lb p W) :
    Calls Try.prog 47 #[v, .func (.func g) #[] lb] w fun e w' => ∃ v', e = .returned v' ∧ OwnI w' B v' (l.filter fun k => !p k) ∧ v'.ownBlock = v.ownBlock ∧ w.grownBy w' v.ownBlock := by
  have hI := idxF_any eg (ints_of_owns hown) (fun W hb => hF W (grow_below (grown_refl _ _) hb))
  rcases idx_cases2 p l with ⟨e1, e2⟩ | ⟨j0, hj0, e1, e2, e3⟩
  · have hfil : (l.filter fun k => !p k) = l := by
      rw [List.filter_eq_self]
      intro a ha
      simp [e2 a ha]
    rw [hfil]
    rw [e1] at hI
    obtain ⟨pp, cc, rfl⟩ := hown.shape
    have O : Hid (OwnI w B (.slice pp l.length cc) l) := hown
    clear hown hF e1 e2 hfil
    go_enter Try.func47, Try.ntmps47
    go_wp2_with (go_at_call 41; refine hI.mono ?_; rintro e w9 ⟨rfl, hb9⟩)
    go_ret
    exact ⟨_, rfl, O.out.below hb9 (Nat.le_refl _), rfl, grow_below (grown_refl _ _) hb9⟩
  · rw [e1] at hI
    have hlp : 0 < l.length := by omega
    obtain ⟨G, cap, rfl, hBG, hGs, hlc, hcm⟩ := own_shape2 hown hlp
    have hob : (Value.slice (some ⟨G, 0, none⟩) l.length cap).ownBlock = some G := rfl
    rw [hob] at hF ⊢
    have HA : Hid (∀ W, w.grownBy W (some G) → Tests g lb p W) := hF
    have O : Hid (OwnI w B (.slice (some ⟨G, 0, none⟩) l.length cap) l) := hown
    have K0 : Hid (Kept1 p l l j0 (j0 + 1)) := by
      have hf := filter_first hj0 e2 e3
      exact ⟨rfl, by omega, by omega, hf.symm, by rw [hf]; simp; omega, fun q hq hq' _ => rfl⟩
    clear hown hF e1 e2 e3 hob
    have hne1 : ((j0 : Int) == -1) = false := beq_eq_false_iff_ne.2 (by omega)
    go_enter Try.func47, Try.ntmps47
    go_wp2_with (go_at_call 41; refine hI.mono ?_; rintro e w9 ⟨rfl, hb9⟩)
    go_loopw [5, 6, 7] (fun iv jv _ wr => ∃ (i j : Nat) (m : List Nat), iv = .int .i64 i ∧ jv = .int .i64 j ∧ Hid (Kept1 p l m i j) ∧ Hid (OwnI wr B (.slice (some ⟨G, 0, none⟩) l.length cap) m) ∧ w.grownBy wr (some G)) (fun _ jv _ _ => l.length - (intOf jv).toNat)
    case atStart => exact ⟨j0, j0 + 1, l, rfl, by go_num, K0, (O.out.below hb9 (Nat.le_refl _)), grow_below (grown_refl _ _) hb9⟩
    case round =>
      obtain ⟨i, j, m, rfl, rfl, KP, OW, hgr⟩ := hrel
      have hij := KP.out.lt
      have hjl := KP.out.le
      have hml : m.length = l.length := KP.out.len
      by_cases hlt : j < l.length
      · have hltz : (j : Int) < (l.length : Int) := by omega
        obtain ⟨cj, _⟩ := own_cell OW.out j (by omega)
        rw [KP.out.rest j hlt (by omega) (Nat.le_refl _)] at cj
        obtain ⟨ci, fi⟩ := own_cell OW.out i (by omega)
        have hC := HA.out wr hgr l[j]
        generalize (m[i]'(by omega) : Nat) = old at ci
        cases hh : p l[j] with
        | true =>
          have K2 : Hid (Kept1 p l m i (j + 1)) := KP.out.skip hlt hh
          rw [hh] at hC
          clear hh
          generalize l[j] = x at *
          go_wp2_with (go_at_fn g; refine hC.mono ?_; rintro e wa ⟨rfl, hba⟩)
          go_roundw
          case rel => exact ⟨i, j + 1, m, rfl, by go_num, K2, OW.out.below hba (Nat.le_refl _), grow_below hgr hba⟩
          case measure => simp [intOf]; omega
        | false =>
          have K2 : Hid (Kept1 p l (m.set i l[j]) (i + 1) (j + 1)) := KP.out.keep hlt hh
          rw [hh] at hC
          clear hh
          generalize l[j] = x at *
          go_wp2_with (go_at_fn g; refine hC.mono ?_; rintro e wa ⟨rfl, hba⟩; have c9 := keeps_below hba (Nat.le_refl _) _ _ ci; have f9 := (hba.frozen (p := ⟨G, i, none⟩) (lt_of_cell ci)).trans fi)
          go_roundw
          case rel =>
            refine ⟨i + 1, j + 1, m.set i x, by go_num, by go_num, K2, ?_, grow_set (grow_below hgr hba) _ _⟩
            have h1 : OwnI wa B (.slice (some ⟨G, 0, none⟩) m.length cap) m := by rw [hml]; exact OW.out.below hba (Nat.le_refl _)
            have h2 := owns_set h1 i (iv x)
            show OwnI _ _ _ _
            unfold OwnI
            rw [List.map_set, List.length_set, ← hml]
            exact h2
          case measure => simp [intOf]; omega
      · obtain rfl : j = l.length := by omega
        have hcl : ∀ ty, (Builtin.clear_ #[38] ty #[.slice (some ⟨G, i, none⟩) (l.length - i) (cap - i)]).run Try.prog wr = .ok (.tuple #[]) (wr.setCells G i (List.replicate (l.length - i) (.int .i64 0))) :=
          fun ty => Lib.run_clear_slice wr _ _ ty _ Try.underlying38 Try.zeroValue3 rfl rfl G i _ _ (by omega) (fun t ht => by rw [(own_cell OW.out (i + t) (by omega)).1]; rfl) (fun t ht => (own_cell OW.out (i + t) (by omega)).2)
        have R : Hid (OwnI (wr.setCells G i (List.replicate (l.length - i) (.int .i64 0))) B (.slice (some ⟨G, 0, none⟩) i cap) (l.filter fun k => !p k)) := by
          have h1 := owns_cut (i := i) OW.out (by omega) (by omega)
          rw [KP.out.done, List.take_length] at h1
          exact owns_behind (by have := KP.out.cnt; rw [List.take_length] at this; omega) _ _ _ (by have := KP.out.cnt; rw [List.take_length] at this; omega) h1
        have hgr2 := grown_setCells (List.replicate (l.length - i) (.int .i64 0)) wr i hgr
        go_wp2_with fail
        go_ret
        exact ⟨_, rfl, R.out, rfl, hgr2⟩
end Go.Proofs.Ytookcjdibpccpab

/-
  THE WALKS of flat.Slot.
-/
namespace Go.Proofs.Ytookcjdibpccpab
open Go.RowKit

set_option maxHeartbeats 1600000 in
theorem slot1_any {w : World} {b o c D X G : Nat} {rs : List Raw} {d : Tn.Dc} {want : ByteArray} {host : Int} (hd : DocAt w b o c rs d) (hg : Okd d) (hD : w.cell? ⟨D, 0, none⟩ = some (.slice (some ⟨b, o, none⟩) rs.length c)) (hX : w.cell? ⟨X, 0, none⟩ = some (.string want)) (hG : w.cell? ⟨G, 0, none⟩ = some (.int .i64 host)) (k : Nat) :
    Calls Try.prog 42 #[.int .i64 (k : Int), .pointer (some ⟨D, 0, none⟩), .pointer (some ⟨X, 0, none⟩), .pointer (some ⟨G, 0, none⟩)] w fun e w' => e = .returned (.bool (fitsD d want host k)) ∧ Below w.heap.size w w' := by
  have H : Hid (DocAt w b o c rs d) := hd
  have hA := dattr_all hd hg (k : Int) nameB
  have hname : nameB = ⟨#[110, 97, 109, 101]⟩ := rfl
  have HD : Hid (fitsD d want host k = (isSlotD d (k : Int) && ((valN d (k : Int) nameB).toList == want.toList) && (scopeD d (k : Int) == host))) := rfl
  have hS : ∀ W, DocAt W b o c rs d → Calls Try.prog 32 #[.slice (some ⟨b, o, none⟩) rs.length c, .int .i64 (k : Int)] W fun e w' => e = .returned (.int .i64 (scopeD d (k : Int))) ∧ Below W.heap.size W w' := fun W h => dscope_any h hg.tame k
  have hL : ∀ W, DocAt W b o c rs d → Calls Try.prog 43 #[.slice (some ⟨b, o, none⟩) rs.length c, .int .i64 (k : Int)] W fun e w' => e = .returned (.bool (isSlotD d (k : Int))) ∧ w' = W := fun W h => fisSlot_any h k
  clear hd
  generalize fitsD d want host k = res at *
  generalize scopeD d (k : Int) = sk at *
  generalize valN d (k : Int) nameB = vv at *
  generalize (attrN d (k : Int) nameB).isSome = vs at *
  rw [hname] at hA
  cases hx : isSlotD d (k : Int) with
  | false =>
    have E : Hid (res = false) := by show _ = _; rw [HD.out, hx]; rfl
    rw [hx] at hL
    clear hx HD
    go_enter Try.func42, Try.ntmps42
    go_wp2_with (go_at_call 29; refine hA.mono ?_; rintro e w9 ⟨rfl, hb9⟩)
    have J9 := keeps_below hb9 (Nat.le_refl _)
    have d9 := J9 _ _ hD
    have x9 := J9 _ _ hX
    have g9 := J9 _ _ hG
    have D9 : Hid (DocAt w9 b o c rs d) := H.out.keeps J9
    go_quiet ((go_at_call 43; exact Calls.quiet_of_same (hL _ (D9.out.keeps (keeps_drewN _ _)))))
    go_wp2_with fail
    go_ret
    exact ⟨by rw [E.out]; rfl, hb9.trans ⟨rfl, rfl, rfl, Nat.le_refl _, fun _ _ => rfl⟩⟩
  | true =>
    rw [hx] at hL HD
    clear hx
    cases hq : (vv.toList == want.toList) with
    | false =>
      have E : Hid (res = false) := by show _ = _; rw [HD.out, hq]; rfl
      clear HD
      go_enter Try.func42, Try.ntmps42
      go_wp2_with (go_at_call 29; refine hA.mono ?_; rintro e w9 ⟨rfl, hb9⟩)
      have J9 := keeps_below hb9 (Nat.le_refl _)
      have d9 := J9 _ _ hD
      have x9 := J9 _ _ hX
      have g9 := J9 _ _ hG
      have D9 : Hid (DocAt w9 b o c rs d) := H.out.keeps J9
      go_quiet ((go_at_call 43; exact Calls.quiet_of_same (hL _ (D9.out.keeps (keeps_drewN _ _)))))
      go_wp2_with fail
      go_ret
      exact ⟨by rw [E.out]; rfl, hb9.trans ⟨rfl, rfl, rfl, Nat.le_refl _, fun _ _ => rfl⟩⟩
    | true =>
      have E : Hid (res = (sk == host)) := by show _ = _; rw [HD.out, hq]; rfl
      clear HD
      go_enter Try.func42, Try.ntmps42
      go_wp2_with (go_at_call 29; refine hA.mono ?_; rintro e w9 ⟨rfl, hb9⟩)
      have J9 := keeps_below hb9 (Nat.le_refl _)
      have d9 := J9 _ _ hD
      have x9 := J9 _ _ hX
      have g9 := J9 _ _ hG
      have D9 : Hid (DocAt w9 b o c rs d) := H.out.keeps J9
      have SS : ∀ w'', Keeps w9 w'' → (fun w'' => w''.cell? ⟨D, 0, none⟩ = some (.slice (some ⟨b, o, none⟩) rs.length c) ∧ w''.cell? ⟨X, 0, none⟩ = some (.string want) ∧ w''.cell? ⟨G, 0, none⟩ = some (.int .i64 host)) w'' := fun w'' hk => ⟨hk _ _ d9, hk _ _ x9, hk _ _ g9⟩
      go_region_held3 (fun w'' => w''.cell? ⟨D, 0, none⟩ = some (.slice (some ⟨b, o, none⟩) rs.length c) ∧ w''.cell? ⟨X, 0, none⟩ = some (.string want) ∧ w''.cell? ⟨G, 0, none⟩ = some (.int .i64 host))
        ((apply SS; first | exact Keeps.refl _ | assumption | exact keeps_drew (Keeps.refl _)))
        (first
          | (go_at_call 43; refine (hL _ (D9.out.keeps (keeps_drew (Keeps.refl _)))).mono ?_; rintro e wb ⟨rfl, hwb⟩; subst hwb)
          | (go_at_call 32; refine (hS _ (D9.out.keeps (keeps_drew (Keeps.refl _)))).mono ?_; rintro e wa ⟨rfl, hba⟩; have Ja : Keeps w9 wa := (keeps_drew (Keeps.refl w9)).trans (keeps_below hba (Nat.le_refl _))))
      all_goals
        go_wp2_with fail
        go_ret
        exact ⟨by rw [E.out]; rfl, hb9.trans ((Below.refl _ w9).drew.trans (hba.mono hb9.size))⟩
end Go.Proofs.Ytookcjdibpccpab

/-
  THE WALK of flat.Slot.
-/
namespace Go.Proofs.Ytookcjdibpccpab
open Go.RowKit

theorem slot1_enters : ∀ args w, (callFunc 42 args).run Try.prog w = .ok (.enter 42 args) w := enters_of Try.func42 (by kernel_rfl) rfl

theorem slot1_tests {w : World} {b o c D X G : Nat} {rs : List Raw} {d : Tn.Dc} {want : ByteArray} {host : Int} (hd : DocAt w b o c rs d) (hg : Okd d) (hD : w.cell? ⟨D, 0, none⟩ = some (.slice (some ⟨b, o, none⟩) rs.length c)) (hX : w.cell? ⟨X, 0, none⟩ = some (.string want)) (hG : w.cell? ⟨G, 0, none⟩ = some (.int .i64 host)) :
    Tests 42 #[.pointer (some ⟨D, 0, none⟩), .pointer (some ⟨X, 0, none⟩), .pointer (some ⟨G, 0, none⟩)] (fitsD d want host) w := by
  intro k
  have e : (#[.int .i64 (k : Int)] ++ #[.pointer (some ⟨D, 0, none⟩), .pointer (some ⟨X, 0, none⟩), .pointer (some ⟨G, 0, none⟩)] : Array Value) = #[.int .i64 (k : Int), .pointer (some ⟨D, 0, none⟩), .pointer (some ⟨X, 0, none⟩), .pointer (some ⟨G, 0, none⟩)] := by simp
  rw [e]
  exact slot1_any hd hg hD hX hG k

set_option maxHeartbeats 1600000 in
theorem fslot_any {w : World} {b o c : Nat} {rs : List Raw} {d : Tn.Dc} (hd : DocAt w b o c rs d) (hg : Okd d) (n : Int) :
    Calls Try.prog 14 #[.slice (some ⟨b, o, none⟩) rs.length c, .int .i64 n] w fun e w' => e = .returned (.int .i64 (slotD d n)) ∧ Below w.heap.size w w' := by
  have H : Hid (DocAt w b o c rs d) := hd
  have K1 : Keeps w (w.alloc (.cells #[.slice (some ⟨b, o, none⟩) rs.length c] 25)) := keeps_alloc _ _
  have B1 : Below w.heap.size w (w.alloc (.cells #[.slice (some ⟨b, o, none⟩) rs.length c] 25)) := (Below.refl w.heap.size w).alloc (Nat.le_refl _) _
  clear hd
  cases hsl : slottedD d n with
  | false =>
    have E : Hid (slotD d n = -1) := by show _ = _; unfold slotD; rw [if_neg (by simp [hsl])]
    go_enter Try.func14, Try.ntmps14
    go_wp2_with (go_at_call 40; refine (fslotted_any (H.out.keeps K1) _).mono ?_; rintro e w' ⟨rfl, hww⟩; subst hww; rw [hsl])
    go_ret
    exact ⟨by rw [E.out]; rfl, B1⟩
  | true =>
    have hsl' := hsl
    unfold slottedD at hsl'
    simp only [Bool.and_eq_true] at hsl'
    obtain ⟨⟨⟨his, _⟩, hiu⟩, _⟩ := hsl'
    obtain ⟨k, rfl, hk, hlv⟩ := isN_nat his
    rw [Int.toNat_natCast] at hiu
    obtain ⟨u, hu, hul, hulv⟩ := isN_nat (isN_true hiu)
    have hk' : k < rs.length := by rw [H.out.len]; exact hk
    have h4 := K1 _ _ (H.out.row.c4 k hk')
    have hup : rs[k].up = (u : Int) := by rw [(H.out.nds k hk' hk).up, ← nd_at hk, hu]
    rw [hup] at h4
    have E : Hid (slotD d (k : Int) = orI ((Tn.all Tn.fuel d u).find? (fitsD d (valN d (k : Int) slotB) (u : Int)))) := by show _ = _; unfold slotD; rw [if_pos hsl, Int.toNat_natCast, hu, Int.toNat_natCast]
    have UL : Tn.lvD d u = true := hulv
    clear hlv hup hu hiu his hulv
    have q0 := cell_box w (.slice (some ⟨b, o, none⟩) rs.length c) (t := 25)
    go_enter Try.func14, Try.ntmps14
    go_upto_region 3 with (go_at_call 40; refine (fslotted_any (H.out.keeps K1) _).mono ?_; rintro e w' ⟨rfl, hww⟩; subst hww; rw [hsl])
    have K2 : Keeps w ((w.alloc (.cells #[.slice (some ⟨b, o, none⟩) rs.length c] 25)).alloc (.cells #[.int .i64 (u : Int)] 3)) := keeps_alloc' _ K1
    have hA := dattr_all (H.out.keeps K2) hg (k : Int) slotB
    have hslot : slotB = ⟨#[115, 108, 111, 116]⟩ := rfl
    generalize valN d (k : Int) slotB = want at *
    generalize (attrN d (k : Int) slotB).isSome = ws at *
    rw [hslot] at hA
    generalize hW1 : w.alloc (.cells #[.slice (some ⟨b, o, none⟩) rs.length c] 25) = w1 at *
    have q1 := cell_box w1 (.int .i64 (u : Int)) (t := 3)
    have q0' := keeps_alloc w1 (.cells #[.int .i64 (u : Int)] 3) _ _ q0
    have B2 : Below w.heap.size w (w1.alloc (.cells #[.int .i64 (u : Int)] 3)) := B1.alloc (by rw [← hW1]; simp) _
    clear hW1
    go_upto_region 4 with fail
    generalize w1.alloc (.cells #[.int .i64 (u : Int)] 3) = w2 at *
    go_upto_region 5 with (go_at_call 29; refine hA.mono ?_; rintro e w3 ⟨rfl, hb3⟩; have q03 := keeps_below hb3 (Nat.le_refl _) _ _ q0'; have q13 := keeps_below hb3 (Nat.le_refl _) _ _ q1)
    have K4 : Keeps w (w3.alloc (.cells #[.string want] 9)) := keeps_alloc' _ (K2.trans (keeps_below hb3 (Nat.le_refl _)))
    have B4 : Below w.heap.size w (w3.alloc (.cells #[.string want] 9)) := (B2.trans (hb3.mono B2.size)).alloc (Nat.le_trans B2.size hb3.size) _
    have q2 := cell_box w3 (.string want) (t := 9)
    have q04 := keeps_alloc w3 (.cells #[.string want] 9) _ _ q03
    have q14 := keeps_alloc w3 (.cells #[.string want] 9) _ _ q13
    clear q03 q13 q0' q1 q0 h4 K1 K2 B1 B2 hA hb3 hsl hslot
    generalize hW4 : w3.alloc (.cells #[.string want] 9) = w4 at *
    clear hW4
    have hAl := dall_any (H.out.keeps K4) hg.tame hg.small u UL
    go_upto_region 6 with (go_at_call 31; refine hAl.mono ?_; rintro e w5 ⟨v, rfl, hov, hb5⟩; have K45 := keeps_below hb5 (Nat.le_refl _); have q05 := K45 _ _ q04)
    have K5 : Keeps w w5 := K4.trans (keeps_below hb5 (Nat.le_refl _))
    have J5 := keeps_below hb5 (Nat.le_refl _)
    have B5 : Below w.heap.size w w5 := B4.trans (hb5.mono B4.size)
    have hF := idxF_any slot1_enters (ints_of_owns hov) (fun W hbW => slot1_tests (H.out.keeps (K5.trans (keeps_below hbW (Nat.le_refl _)))) hg (keeps_below hbW (Nat.le_refl _) _ _ (J5 _ _ q04)) (keeps_below hbW (Nat.le_refl _) _ _ (J5 _ _ q2)) (keeps_below hbW (Nat.le_refl _) _ _ (J5 _ _ q14)))
    obtain ⟨p, cc, rfl, i1, i2, _, hat⟩ := (ints_of_owns hov).at
    rcases idx_cases (fitsD d want (u : Int)) (Tn.all Tn.fuel d u) with ⟨x1, x2⟩ | ⟨j, hj, x1, x2⟩
    · rw [x1] at hF
      have E2 : Hid (slotD d (k : Int) = -1) := by show _ = _; rw [E.out, x2]; rfl
      clear x1 x2 E hat hAl
      go_wp2_with (go_at_call 41; refine hF.mono ?_; rintro e w9 ⟨rfl, hb9⟩)
      go_ret
      exact ⟨by rw [E2.out]; rfl, B5.trans (hb9.mono B5.size)⟩
    · rw [x1] at hF
      have E2 : Hid (slotD d (k : Int) = ((Tn.all Tn.fuel d u)[j] : Nat)) := by show _ = _; rw [E.out, x2]; rfl
      obtain ⟨e1, o1, rfl, k1⟩ := hat j hj
      clear x1 x2 E hat hAl
      generalize (Tn.all Tn.fuel d u)[j] = y at *
      go_wp2_with (go_at_call 41; refine hF.mono ?_; rintro e w9 ⟨rfl, hb9⟩; have k9 := keeps_below hb9 (Nat.le_refl _) _ _ k1)
      go_ret
      exact ⟨by rw [E2.out]; rfl, B5.trans (hb9.mono B5.size)⟩
end Go.Proofs.Ytookcjdibpccpab

/-
  THE WALKS of flat.copyOf, Given, Kids.
-/
namespace Go.Proofs.Ytookcjdibpccpab
open Go.RowKit

theorem OwnI.mono {w : World} {B C : Nat} {v : Value} {l : List Nat} (h : OwnI w B v l) (hc : C ≤ B) : OwnI w C v l := by
  obtain ⟨hl, hz⟩ := h
  refine ⟨hl, ?_⟩
  rcases hz with h5 | ⟨g, cap, cur, e, h3, h6⟩
  · exact Or.inl h5
  · exact Or.inr ⟨g, cap, cur, e, by omega, h6⟩

set_option maxHeartbeats 800000 in
theorem fcopy_any {w : World} {v : Value} {l : List Nat} (hl : IntsAt w v l) (hs : l.length ≤ 1000) :
    Calls Try.prog 46 #[v] w fun e w' => ∃ v', e = .returned v' ∧ OwnI w' w.heap.size v' l ∧ Below w.heap.size w w' := by
  have H : Hid (IntsAt w v l) := hl
  obtain ⟨p, c, rfl, _⟩ := hl
  go_enter Try.func46, Try.ntmps46
  go_wp2_with (at_builtin; refine append_ints (w0 := w) rfl _ _ rfl (B := w.heap.size) (l := []) rfl rfl (OwnI.nil _ _) H.out (Below.refl _ _) (Nat.le_refl _) (by simp; omega) ?_; intro v1 w1 o1 n1 s1 _)
  go_ret
  exact ⟨_, rfl, o1, n1⟩

set_option maxHeartbeats 1600000 in
theorem given1_any {w : World} {b o c D S : Nat} {rs : List Raw} {d : Tn.Dc} {n : Int} (hd : DocAt w b o c rs d) (hg : Okd d) (hD : w.cell? ⟨D, 0, none⟩ = some (.slice (some ⟨b, o, none⟩) rs.length c)) (hS : w.cell? ⟨S, 0, none⟩ = some (.int .i64 n)) (k : Nat) :
    Calls Try.prog 48 #[.int .i64 (k : Int), .pointer (some ⟨D, 0, none⟩), .pointer (some ⟨S, 0, none⟩)] w fun e w' => e = .returned (.bool (!(slotD d (k : Int) == n))) ∧ Below w.heap.size w w' := by
  have hL : ∀ W, Keeps w W → Calls Try.prog 14 #[.slice (some ⟨b, o, none⟩) rs.length c, .int .i64 (k : Int)] W fun e w' => e = .returned (.int .i64 (slotD d (k : Int))) ∧ Below W.heap.size W w' := fun W h => fslot_any (hd.keeps h) hg k
  clear hd
  generalize slotD d (k : Int) = sk at *
  go_enter Try.func48, Try.ntmps48
  go_upto_region 1 with fail
  have SS : ∀ w'', Keeps w w'' → (fun w'' => w''.cell? ⟨D, 0, none⟩ = some (.slice (some ⟨b, o, none⟩) rs.length c) ∧ w''.cell? ⟨S, 0, none⟩ = some (.int .i64 n)) w'' := fun w'' hk => ⟨hk _ _ hD, hk _ _ hS⟩
  go_region_held3 (fun w'' => w''.cell? ⟨D, 0, none⟩ = some (.slice (some ⟨b, o, none⟩) rs.length c) ∧ w''.cell? ⟨S, 0, none⟩ = some (.int .i64 n))
    ((apply SS; first | exact Keeps.refl _ | assumption | exact keeps_drew (Keeps.refl _)))
    (first
      | (go_at_call 14; refine (hL _ (keeps_drew (Keeps.refl _))).mono ?_; rintro e wa ⟨rfl, hba⟩; have Ja : Keeps w wa := (keeps_drew (Keeps.refl w)).trans (keeps_below hba (Nat.le_refl _))))
  all_goals
    go_wp2_with fail
    go_ret
    exact ⟨rfl, (Below.refl _ w).drew.trans hba⟩

theorem given1_enters : ∀ args w, (callFunc 48 args).run Try.prog w = .ok (.enter 48 args) w := enters_of Try.func48 (by kernel_rfl) rfl

theorem given1_tests {w : World} {b o c D S : Nat} {rs : List Raw} {d : Tn.Dc} {n : Int} (hd : DocAt w b o c rs d) (hg : Okd d) (hD : w.cell? ⟨D, 0, none⟩ = some (.slice (some ⟨b, o, none⟩) rs.length c)) (hS : w.cell? ⟨S, 0, none⟩ = some (.int .i64 n)) :
    Tests 48 #[.pointer (some ⟨D, 0, none⟩), .pointer (some ⟨S, 0, none⟩)] (fun k => !(slotD d (k : Int) == n)) w := by
  intro k
  have e : (#[.int .i64 (k : Int)] ++ #[.pointer (some ⟨D, 0, none⟩), .pointer (some ⟨S, 0, none⟩)] : Array Value) = #[.int .i64 (k : Int), .pointer (some ⟨D, 0, none⟩), .pointer (some ⟨S, 0, none⟩)] := by simp
  rw [e]
  exact given1_any hd hg hD hS k

set_option maxHeartbeats 1600000 in
theorem fgiven_any {w : World} {b o c : Nat} {rs : List Raw} {d : Tn.Dc} (hd : DocAt w b o c rs d) (hg : Okd d) (n : Int) :
    Calls Try.prog 17 #[.slice (some ⟨b, o, none⟩) rs.length c, .int .i64 n] w fun e w' => ∃ v, e = .returned v ∧ OwnI w' w.heap.size v (givenD d n) ∧ Below w.heap.size w w' := by
  have H : Hid (DocAt w b o c rs d) := hd
  have K2 : Keeps w ((w.alloc (.cells #[.slice (some ⟨b, o, none⟩) rs.length c] 25)).alloc (.cells #[.int .i64 n] 3)) := keeps_alloc' _ (keeps_alloc _ _)
  have B2 : Below w.heap.size w ((w.alloc (.cells #[.slice (some ⟨b, o, none⟩) rs.length c] 25)).alloc (.cells #[.int .i64 n] 3)) := ((Below.refl w.heap.size w).alloc (Nat.le_refl _) _).alloc (by simp) _
  clear hd
  cases hsl : isSlotD d n with
  | false =>
    have E : Hid (givenD d n = []) := by show _ = _; unfold givenD; rw [if_neg (by simp [hsl])]
    go_enter Try.func17, Try.ntmps17
    go_wp2_with (go_at_call 43; refine (fisSlot_any (H.out.keeps K2) _).mono ?_; rintro e w' ⟨rfl, hww⟩; subst hww; rw [hsl])
    go_ret
    exact ⟨_, rfl, by rw [E.out]; exact OwnI.nil _ _, B2⟩
  | true =>
    have his : Tn.isN d n false = true := by
      have h1 := hsl
      unfold isSlotD at h1
      simp only [Bool.and_eq_true] at h1
      exact isN_true h1.1
    obtain ⟨k, rfl, hk, hlv⟩ := isN_nat his
    obtain ⟨s, hsc, hsv⟩ := hg.scope k hlv
    have hsd := Tn.lv_lt hsv
    have hsr : s < rs.length := by rw [H.out.len]; exact hsd
    have E : Hid (givenD d (k : Int) = (Tn.nd d s).kids.filter fun j : Nat => !(!(slotD d (j : Int) == (k : Int)))) := by
      show _ = _
      unfold givenD
      rw [if_pos hsl, hsc, Int.toNat_natCast]
      simp
    have q0 : ((w.alloc (.cells #[.slice (some ⟨b, o, none⟩) rs.length c] 25)).alloc (.cells #[.int .i64 (k : Int)] 3)).cell? ⟨w.heap.size, 0, none⟩ = some (.slice (some ⟨b, o, none⟩) rs.length c) := by rw [World.cell?_alloc2_first]; rfl
    have q1 : ((w.alloc (.cells #[.slice (some ⟨b, o, none⟩) rs.length c] 25)).alloc (.cells #[.int .i64 (k : Int)] 3)).cell? ⟨w.heap.size + 1, 0, none⟩ = some (.int .i64 (k : Int)) := by rw [World.cell?_alloc2_new]; rfl
    have hkl : (Tn.nd d s).kids.length ≤ 1000 := hg.small s false
    have hki : IntsAt w (.slice rs[s].k.p rs[s].k.n rs[s].k.c) (Tn.nd d s).kids := by rw [nd_at hsd]; exact (H.out.nds s hsr hsd).kids
    have h5 := H.out.row.c5 s hsr
    clear hlv his
    go_enter Try.func17, Try.ntmps17
    go_upto_region 3 with (go_at_call 43; refine (fisSlot_any (H.out.keeps K2) _).mono ?_; rintro e w' ⟨rfl, hww⟩; subst hww; rw [hsl])
    have hS : ∀ W, Keeps w W → Calls Try.prog 32 #[.slice (some ⟨b, o, none⟩) rs.length c, .int .i64 (k : Int)] W fun e w' => e = .returned (.int .i64 (s : Int)) ∧ Below W.heap.size W w' := fun W h => by rw [← hsc]; exact dscope_any (H.out.keeps h) hg.tame k
    have hC : ∀ W, Keeps w W → Calls Try.prog 46 #[.slice rs[s].k.p rs[s].k.n rs[s].k.c] W fun e w' => ∃ v', e = .returned v' ∧ OwnI w' W.heap.size v' (Tn.nd d s).kids ∧ Below W.heap.size W w' := fun W h => fcopy_any (hki.keeps h) hkl
    clear hsc hki hsl hsv
    have HC : Hid (∀ W, Keeps w W → Calls Try.prog 46 #[.slice rs[s].k.p rs[s].k.n rs[s].k.c] W fun e w' => ∃ v', e = .returned v' ∧ OwnI w' W.heap.size v' (Tn.nd d s).kids ∧ Below W.heap.size W w') := hC
    clear hC
    generalize rs[s].k = ks at *
    obtain ⟨kp, kn, kc⟩ := ks
    simp only at h5 HC
    generalize hW2 : (w.alloc (.cells #[.slice (some ⟨b, o, none⟩) rs.length c] 25)).alloc (.cells #[.int .i64 (k : Int)] 3) = w2 at *
    clear hW2
    have SS : ∀ w'', Keeps w2 w'' → (fun w'' => w''.cell? ⟨w.heap.size, 0, none⟩ = some (.slice (some ⟨b, o, none⟩) rs.length c) ∧ w''.cell? ⟨w.heap.size + 1, 0, none⟩ = some (.int .i64 (k : Int)) ∧ w''.cell? ⟨b, o + s * 9 + 5, none⟩ = some (.slice kp kn kc)) w'' := fun w'' hk => ⟨hk _ _ q0, hk _ _ q1, hk _ _ (K2 _ _ h5)⟩
    go_region_held3 (fun w'' => w''.cell? ⟨w.heap.size, 0, none⟩ = some (.slice (some ⟨b, o, none⟩) rs.length c) ∧ w''.cell? ⟨w.heap.size + 1, 0, none⟩ = some (.int .i64 (k : Int)) ∧ w''.cell? ⟨b, o + s * 9 + 5, none⟩ = some (.slice kp kn kc))
      ((apply SS; first | exact Keeps.refl _ | assumption | exact keeps_drew (Keeps.refl _)))
      (first
        | (go_at_call 32; refine (hS _ (K2.trans (keeps_drew (Keeps.refl _)))).mono ?_; rintro e wa ⟨rfl, hba⟩; have Ja : Keeps w2 wa := (keeps_drew (Keeps.refl w2)).trans (keeps_below hba (Nat.le_refl _)))
        | (go_at_call 46; refine (HC.out _ (K2.trans Ja)).mono ?_; rintro e wb ⟨v, rfl, hov, hbb⟩; have Jb : Keeps w2 wb := Ja.trans (keeps_below hbb (Nat.le_refl _))))
    all_goals
      have BA : Below w.heap.size w wa := B2.trans (((Below.refl _ w2).drew.trans hba).mono B2.size)
      have BB : Below w.heap.size w wb := BA.trans (hbb.mono BA.size)
      have hdel := del_any given1_enters hov hkl (fun W hgr => by
        have hW := (Below.refl wa.heap.size wa).trans hbb
        have hW2 := hW.grown hgr (by have := hbb.size; omega) (fun j hj => (World.ownsRow.lt hov j hj).1)
        have JW : Keeps w2 W := Ja.trans (keeps_below hW2 (Nat.le_refl _))
        exact given1_tests (H.out.keeps (K2.trans JW)) hg (JW _ _ q0) (JW _ _ q1))
      go_wp2_with (go_at_call 47; refine hdel.mono ?_; rintro e w9 ⟨v9, rfl, ho9, _, hg9⟩)
      go_ret
      exact ⟨_, rfl, by rw [E.out]; exact ho9.mono BA.size, BB.grown hg9 BB.size (fun j hj => Nat.le_trans BA.size (World.ownsRow.lt hov j hj).1)⟩
end Go.Proofs.Ytookcjdibpccpab

/-
  THE WALK of slices.Index at []int.
-/
namespace Go.Proofs.Ytookcjdibpccpab
open Go.RowKit

set_option maxHeartbeats 1600000 in
theorem index_any {w : World} {vl : Value} {l : List Nat} (hl : IntsAt w vl l) (x : Nat) :
    Calls Try.prog 65 #[vl, .int .i64 (x : Int)] w fun e w' => e = .returned (.int .i64 (idxI (fun k => k == x) l)) ∧ w' = w := by
  obtain ⟨p, cc, rfl, h1, h2, _, hat⟩ := hl.at
  have T : Hid (∀ j (hj : j < l.length), ∃ b o, p = some ⟨b, o, none⟩ ∧ w.cell? ⟨b, o + j, none⟩ = some (.int .i64 (l[j] : Int))) := hat
  clear hat hl
  go_enter Try.func65, Try.ntmps65
  go_wp2_with fail
  go_loop [8] (fun i => ∃ j : Nat, j ≤ l.length ∧ i = .int .i64 j ∧ Hid (∀ k ∈ l.take j, (k == x) = false)) (fun i => l.length - (intOf i).toNat)
  case atStart => exact ⟨0, Nat.zero_le _, rfl, fun k hk => by simp at hk⟩
  case round =>
    obtain ⟨j, hj, rfl, NO⟩ := hrel
    by_cases hlt : j < l.length
    · obtain ⟨e1, o1, rfl, y1⟩ := T.out j hlt
      cases hh : (l[j] == x) with
      | true =>
        have E : Hid (idxI (fun k => k == x) l = (j : Int)) := idxI_some hlt hh NO.out
        have hx : l[j] = x := by simpa using hh
        rw [hx] at y1
        clear hh hx
        go_wp2_with fail
        go_ret
        exact ⟨by rw [E.out]; rfl, rfl⟩
      | false =>
        have N2 : Hid (∀ k ∈ l.take (j + 1), (k == x) = false) := by
          intro k hk
          rw [List.take_succ_eq_append_getElem hlt, List.mem_append, List.mem_singleton] at hk
          rcases hk with hk | rfl
          · exact NO.out k hk
          · exact hh
        have hx : ((x : Int) == (l[j] : Int)) = false := by
          have : l[j] ≠ x := by simpa using hh
          simp; omega
        clear hh
        generalize l[j] = y at *
        go_wp2_with fail
        exact ⟨⟨j + 1, by omega, by go_num, N2⟩, by simp [intOf]; omega⟩
    · obtain rfl : j = l.length := by omega
      have E : Hid (idxI (fun k => k == x) l = -1) := idxI_none (fun k hk => NO.out k (by rw [List.take_length]; exact hk))
      go_wp2_with fail
      go_ret
      exact ⟨by rw [E.out]; rfl, rfl⟩

end Go.Proofs.Ytookcjdibpccpab

/-
  THE WALKS of flat.Kids and flat.Up.
-/
namespace Go.Proofs.Ytookcjdibpccpab
open Go.RowKit

set_option maxHeartbeats 1600000 in
theorem fkids_any {w : World} {b o c : Nat} {rs : List Raw} {d : Tn.Dc} (hd : DocAt w b o c rs d) (hg : Okd d) (n : Int) :
    Calls Try.prog 19 #[.slice (some ⟨b, o, none⟩) rs.length c, .int .i64 n] w fun e w' => ∃ v, e = .returned v ∧ OwnI w' w.heap.size v (kidsD d n) ∧ Below w.heap.size w w' := by
  have H : Hid (DocAt w b o c rs d) := hd
  clear hd
  cases his : Tn.isN d n false with
  | false =>
    have E : Hid (kidsD d n = []) := by show _ = _; unfold kidsD; rw [if_neg (by simp [his])]
    go_enter Try.func19, Try.ntmps19
    go_wp2_with (go_at_call 10; refine (dis_any H.out _ _).mono ?_; rintro e w' ⟨rfl, hww⟩; subst hww; rw [his])
    go_ret
    exact ⟨_, rfl, by rw [E.out]; exact OwnI.nil _ _, Below.refl _ _⟩
  | true =>
    obtain ⟨k, rfl, hk, hlv⟩ := isN_nat his
    have hk' : k < rs.length := by rw [H.out.len]; exact hk
    have h5 := H.out.row.c5 k hk'
    have h6 := H.out.row.c6 k hk'
    have h7 := H.out.row.c7 k hk'
    have E : Hid (kidsD d (k : Int) = if rs[k].hasS then (Tn.nd d k).shadow else if (givenD d (k : Int)).isEmpty then (Tn.nd d k).kids else givenD d (k : Int)) := by
      show _ = _
      unfold kidsD
      rw [if_pos his, Int.toNat_natCast, (H.out.nds k hk' hk).hasS, ← nd_at hk]
    have hKl : (Tn.nd d k).kids.length ≤ 1000 := hg.small k false
    have hSl : (Tn.nd d k).shadow.length ≤ 1000 := hg.small k true
    have hki : Hid (IntsAt w (.slice rs[k].k.p rs[k].k.n rs[k].k.c) (Tn.nd d k).kids) := by rw [nd_at hk]; exact (H.out.nds k hk' hk).kids
    have hsi : Hid (IntsAt w (.slice rs[k].s.p rs[k].s.n rs[k].s.c) (Tn.nd d k).shadow) := by rw [nd_at hk]; exact (H.out.nds k hk' hk).shadow
    have hG := fgiven_any H.out hg (k : Int)
    generalize kidsD d (k : Int) = res at *
    generalize givenD d (k : Int) = gv at *
    generalize (Tn.nd d k).kids = kd at *
    generalize (Tn.nd d k).shadow = sd at *
    generalize rs[k].hasS = hs at *
    generalize rs[k].k = ks at *
    generalize rs[k].s = ss at *
    obtain ⟨kp, kn, kc⟩ := ks
    obtain ⟨sp, sn, sc⟩ := ss
    simp only at h5 h7 hki hsi
    clear hlv
    cases hs with
    | true =>
      have E2 : Hid (res = sd) := by show _ = _; rw [E.out]; rfl
      clear E
      go_enter Try.func19, Try.ntmps19
      go_wp2_with (first
        | (go_at_call 10; refine (dis_any H.out _ _).mono ?_; rintro e w' ⟨rfl, hww⟩; subst hww; rw [his])
        | (go_at_call 46; refine (fcopy_any hsi.out hSl).mono ?_; rintro e w9 ⟨v9, rfl, ho9, hb9⟩))
      go_ret
      exact ⟨_, rfl, by rw [E2.out]; exact ho9, hb9⟩
    | false =>
      cases hgv : gv.isEmpty with
      | true =>
        have E2 : Hid (res = kd) := by show _ = _; rw [E.out, hgv]; rfl
        have hgl : gv.length = 0 := by simpa using hgv
        clear E hgv
        go_enter Try.func19, Try.ntmps19
        go_wp2_with (first
          | (go_at_call 10; refine (dis_any H.out _ _).mono ?_; rintro e w' ⟨rfl, hww⟩; subst hww; rw [his])
          | (go_at_call 17; refine hG.mono ?_; rintro e w8 ⟨v8, rfl, ho8, hb8⟩; have o8 := ho8; obtain ⟨p8, c8, rfl⟩ := o8.shape; have h58 := keeps_below hb8 (Nat.le_refl _) _ _ h5)
          | (go_at_call 46; refine (fcopy_any (hki.out.keeps (keeps_below hb8 (Nat.le_refl _))) hKl).mono ?_; rintro e w9 ⟨v9, rfl, ho9, hb9⟩))
        go_ret
        exact ⟨_, rfl, by rw [E2.out]; exact ho9.mono hb8.size, hb8.trans (hb9.mono hb8.size)⟩
      | false =>
        have E2 : Hid (res = gv) := by show _ = _; rw [E.out, hgv]; rfl
        have hgl : (0 : Int) < (gv.length : Int) := by
          cases gv with
          | nil => simp at hgv
          | cons a t => simp
        clear E hgv
        go_enter Try.func19, Try.ntmps19
        go_wp2_with (first
          | (go_at_call 10; refine (dis_any H.out _ _).mono ?_; rintro e w' ⟨rfl, hww⟩; subst hww; rw [his])
          | (go_at_call 17; refine hG.mono ?_; rintro e w8 ⟨v8, rfl, ho8, hb8⟩; have o8 := ho8; obtain ⟨p8, c8, rfl⟩ := o8.shape; have h58 := keeps_below hb8 (Nat.le_refl _) _ _ h5))
        go_ret
        exact ⟨_, rfl, by rw [E2.out]; exact ho8, hb8⟩
end Go.Proofs.Ytookcjdibpccpab

/-
  THE WALKS of slices.Contains at ints, and of flat.Up.
-/
namespace Go.Proofs.Ytookcjdibpccpab
open Go.RowKit

set_option maxHeartbeats 800000 in
theorem contains_any {w : World} {vl : Value} {l : List Nat} (hl : IntsAt w vl l) (x : Nat) :
    Calls Try.prog 49 #[vl, .int .i64 (x : Int)] w fun e w' => e = .returned (.bool (l.contains x)) ∧ w' = w := by
  have hI := index_any hl x
  clear hl
  rcases idx_cases2 (fun k => k == x) l with ⟨e1, e2⟩ | ⟨j, hj, e1, e2, _⟩
  · have E : Hid (l.contains x = false) := by
      show _ = _
      cases h : l.contains x with
      | false => rfl
      | true =>
        have := e2 x (by simpa using h)
        simp at this
    rw [e1] at hI
    clear e1 e2
    go_enter Try.func49, Try.ntmps49
    go_wp2_with (go_at_call 65; refine hI.mono ?_; rintro e w9 ⟨rfl, hw9⟩; subst hw9)
    go_ret
    exact ⟨by rw [E.out]; rfl, rfl⟩
  · have E : Hid (l.contains x = true) := by
      show _ = _
      have : l[j] = x := by simpa using e2
      rw [← this]
      simp
    rw [e1] at hI
    clear e1 e2
    go_enter Try.func49, Try.ntmps49
    go_wp2_with (go_at_call 65; refine hI.mono ?_; rintro e w9 ⟨rfl, hw9⟩; subst hw9)
    go_ret
    exact ⟨by rw [E.out]; simp, rfl⟩

set_option maxHeartbeats 1600000 in
theorem fup_any {w : World} {b o c : Nat} {rs : List Raw} {d : Tn.Dc} (hd : DocAt w b o c rs d) (hg : Okd d) (n : Int) :
    Calls Try.prog 21 #[.slice (some ⟨b, o, none⟩) rs.length c, .int .i64 n] w fun e w' => e = .returned (.int .i64 (upF d n)) ∧ Below w.heap.size w w' := by
  have H : Hid (DocAt w b o c rs d) := hd
  clear hd
  cases his : Tn.isN d n false with
  | false =>
    have E : Hid (upF d n = -1) := by show _ = _; unfold upF; rw [if_neg (by simp [his])]
    go_enter Try.func21, Try.ntmps21
    go_wp2_with (go_at_call 10; refine (dis_any H.out _ _).mono ?_; rintro e w' ⟨rfl, hww⟩; subst hww; rw [his])
    go_ret
    exact ⟨by rw [E.out]; rfl, Below.refl _ _⟩
  | true =>
    obtain ⟨k, rfl, hk, hlv⟩ := isN_nat his
    have hk' : k < rs.length := by rw [H.out.len]; exact hk
    have h4 := H.out.row.c4 k hk'
    have E : Hid (upF d (k : Int) = if (kidsD d rs[k].up).contains k then rs[k].up else if (kidsD d (slotD d (k : Int))).contains k then slotD d (k : Int) else -1) := by
      show _ = _
      unfold upF
      rw [if_pos his, Int.toNat_natCast, (H.out.nds k hk' hk).up, ← nd_at hk]
    have hL : ∀ W, Keeps w W → Calls Try.prog 14 #[.slice (some ⟨b, o, none⟩) rs.length c, .int .i64 (k : Int)] W fun e w' => e = .returned (.int .i64 (slotD d (k : Int))) ∧ Below W.heap.size W w' := fun W h => fslot_any (H.out.keeps h) hg k
    have HK : Hid (∀ W x, Keeps w W → Calls Try.prog 19 #[.slice (some ⟨b, o, none⟩) rs.length c, .int .i64 x] W fun e w' => ∃ v, e = .returned v ∧ OwnI w' W.heap.size v (kidsD d x) ∧ Below W.heap.size W w') := fun W x h => fkids_any (H.out.keeps h) hg x
    generalize upF d (k : Int) = res at *
    generalize slotD d (k : Int) = sl at *
    generalize rs[k].up = up at *
    clear hlv
    go_enter Try.func21, Try.ntmps21
    go_upto_region 3 with (go_at_call 10; refine (dis_any H.out _ _).mono ?_; rintro e w' ⟨rfl, hww⟩; subst hww; rw [his])
    have SS : ∀ w'', Keeps w' w'' → (fun w'' => w''.cell? ⟨b, o + k * 9 + 4, none⟩ = some (.int .i64 up)) w'' := fun w'' hk => hk _ _ h4
    go_region_held3 (fun w'' => w''.cell? ⟨b, o + k * 9 + 4, none⟩ = some (.int .i64 up))
      ((apply SS; first | exact Keeps.refl _ | assumption | exact keeps_drew (Keeps.refl _) | (apply keeps_alloc'; assumption)))
      (first
        | (go_at_call 14; refine (hL _ (keeps_drew (Keeps.refl _))).mono ?_; rintro e wa ⟨rfl, hba⟩; have Ja : Keeps w' wa := (keeps_drew (Keeps.refl w')).trans (keeps_below hba (Nat.le_refl _))))
    all_goals
      have g0 : (wa.alloc (.cells #[.int .i64 up, .int .i64 sl] 3)).cell? ⟨wa.heap.size, 0, none⟩ = some (.int .i64 up) := by rw [World.cell?_alloc_new]; rfl
      have g1 : (wa.alloc (.cells #[.int .i64 up, .int .i64 sl] 3)).cell? ⟨wa.heap.size, 1, none⟩ = some (.int .i64 sl) := by rw [World.cell?_alloc_new]; rfl
      have BA : Below w'.heap.size w' wa := (Below.refl _ w').drew.trans hba
      have B0 : Below w'.heap.size w' (wa.alloc (.cells #[.int .i64 up, .int .i64 sl] 3)) := BA.alloc BA.size _
      generalize hG : wa.heap.size = G at *
      generalize wa.alloc (.cells #[.int .i64 up, .int .i64 sl] 3) = w3 at *
      clear Ja hL SS hba h4 BA hG
      have J3 := keeps_below B0 (Nat.le_refl _)
      go_wp2_with fail
      go_loopw [6, 21] (fun _ iv wr => ∃ j : Nat, iv = .int .i64 j ∧ Below w3.heap.size w3 wr ∧ (j = 0 ∨ (j = 1 ∧ Hid ((kidsD d up).contains k = false)) ∨ (j = 2 ∧ Hid ((kidsD d up).contains k = false) ∧ Hid ((kidsD d sl).contains k = false)))) (fun _ iv _ => 2 - (intOf iv).toNat)
      case atStart => exact ⟨0, rfl, Below.refl _ _, Or.inl rfl⟩
      case round =>
        obtain ⟨j, rfl, hnx, hj⟩ := hrel
        have JR := keeps_below hnx (Nat.le_refl _)
        have r0 := JR _ _ g0
        have r1 := JR _ _ g1
        have BR : Below w'.heap.size w' wr := B0.trans (hnx.mono B0.size)
        rcases hj with rfl | ⟨rfl, F1⟩ | ⟨rfl, F1, F2⟩
        · have hKK := HK.out wr up (J3.trans JR)
          cases hc : (kidsD d up).contains k with
          | true =>
            have E2 : Hid (res = up) := by show _ = _; rw [E.out, hc]; rfl
            go_wp2_with (first
              | (go_at_call 19; refine hKK.mono ?_; rintro e w8 ⟨v8, rfl, ho8, hb8⟩)
              | (go_at_call 49; refine (contains_any (ints_of_owns ho8) k).mono ?_; rintro e w9 ⟨rfl, hw9⟩; subst hw9; rw [hc]))
            go_ret
            exact ⟨by rw [E2.out]; rfl, BR.trans (hb8.mono BR.size)⟩
          | false =>
            go_wp2_with (first
              | (go_at_call 19; refine hKK.mono ?_; rintro e w8 ⟨v8, rfl, ho8, hb8⟩)
              | (go_at_call 49; refine (contains_any (ints_of_owns ho8) k).mono ?_; rintro e w9 ⟨rfl, hw9⟩; subst hw9; rw [hc]))
            go_roundw
            case rel => exact ⟨1, rfl, hnx.trans (hb8.mono hnx.size), Or.inr (Or.inl ⟨rfl, by first | exact hc | exact True.intro⟩)⟩
            case measure => simp [intOf]
        · have hKK := HK.out wr sl (J3.trans JR)
          cases hc : (kidsD d sl).contains k with
          | true =>
            have E2 : Hid (res = sl) := by show _ = _; rw [E.out, F1.out, hc]; rfl
            go_wp2_with (first
              | (go_at_call 19; refine hKK.mono ?_; rintro e w8 ⟨v8, rfl, ho8, hb8⟩)
              | (go_at_call 49; refine (contains_any (ints_of_owns ho8) k).mono ?_; rintro e w9 ⟨rfl, hw9⟩; subst hw9; rw [hc]))
            go_ret
            exact ⟨by rw [E2.out]; rfl, BR.trans (hb8.mono BR.size)⟩
          | false =>
            go_wp2_with (first
              | (go_at_call 19; refine hKK.mono ?_; rintro e w8 ⟨v8, rfl, ho8, hb8⟩)
              | (go_at_call 49; refine (contains_any (ints_of_owns ho8) k).mono ?_; rintro e w9 ⟨rfl, hw9⟩; subst hw9; rw [hc]))
            go_roundw
            case rel => exact ⟨2, rfl, hnx.trans (hb8.mono hnx.size), Or.inr (Or.inr ⟨rfl, F1, by first | exact hc | exact True.intro⟩)⟩
            case measure => simp [intOf]
        · have E2 : Hid (res = -1) := by show _ = _; rw [E.out, F1.out, F2.out]; rfl
          go_wp2_with fail
          go_ret
          exact ⟨by rw [E2.out]; rfl, BR⟩
end Go.Proofs.Ytookcjdibpccpab

/-
  THE WALK of the function in flat.Shown that calls itself.
-/
namespace Go.Proofs.Ytookcjdibpccpab
open Go.RowKit

/-- append, and where what comes of it lies -/
theorem append_int2 {w0 wr : World} {ops : Array Oper} {rest : List Oper} {o : Oper} {a : Act} {Q : Exit → Act → World → Prop} (hgd : o.guard = none)
    (s x : Operand) (ho : o.op = Op.call { callee := Callee.builtin Builtin.append, args := #[s, x], argTypes := #[38, 38] }) {B : Nat} {v : Value} {l : List Nat} (k : Nat)
    (hs : a.eval s = v) (hx : a.eval x = .slice (some ⟨wr.heap.size, 0, none⟩) 1 1) (hown : OwnI wr B v l) (hnx : Below B w0 wr) (hB : B ≤ wr.heap.size) (hsz : l.length ≤ 1000000)
    (h : ∀ v' w1, OwnI w1 B v' (l ++ [k]) → Below B w0 w1 → wr.grownBy w1 v.ownBlock → (v'.ownBlock = v.ownBlock ∨ ∃ g, wr.heap.size ≤ g ∧ v'.ownBlock = some g) → wpList Try.prog ops Q rest (a.put o.dst v') w1) :
    wpList Try.prog ops Q (o :: rest) a (wr.alloc (.cells #[.int .i64 (k : Int)] 3)) := by
  obtain ⟨i0, hi, hz0, hz1, hz2⟩ := info_parts infoI
  unfold OwnI at hown h
  have hown' := hown.alloc (.cells #[.int .i64 (k : Int)] 3)
  have hnews : ∀ (j : Nat) (u : Value), ([iv k] : List Value)[j]? = some u → (wr.alloc (.cells #[.int .i64 (k : Int)] 3)).cell? ((⟨wr.heap.size, 0, none⟩ : Addr).add j) = some u := cell_one_new _ _ _
  have h1 : ∀ u ∈ ([iv k] : List Value), u.oneCell' = true := by intro u hu; simp at hu; subst hu; rfl
  refine wpList_plain hgd fun K hK => ?_
  obtain ⟨v', w', hr, h2, h3, _⟩ := run_append_own (P := Try.prog) (wr.alloc (.cells #[.int .i64 (k : Int)] 3)) B 38 o.type 3 i0 (.int .i64 0) 1 8 Try.underlying38 hi hz0 hz1 hz2 rfl (by decide) v _ _ hown' ⟨_, 0, none⟩ 1 1 [iv k] rfl hnews h1 (by unfold maxLen; omega) (by omega) (by simp; omega)
  have hn := (hnx.alloc hB (.cells #[.int .i64 (k : Int)] 3)).grown h3 (by simp; omega) (fun j hj => (hown.lt j hj).1)
  have hg2 : wr.grownBy w' v.ownBlock := by
    have h4 := World.grownBy_alloc wr (.cells #[.int .i64 (k : Int)] 3) v.ownBlock
    exact ⟨h3.os.trans h4.os, h3.tape.trans h4.tape, h3.output.trans h4.output, Nat.le_trans h4.size h3.size, fun q hq hr' => (h3.block q (Nat.lt_of_lt_of_le hq h4.size) hr').trans (h4.block q hq hr')⟩
  have hblk : v'.ownBlock = v.ownBlock ∨ ∃ g, wr.heap.size ≤ g ∧ v'.ownBlock = some g := by
    have hzs : (i0.size : Nat) = 1 := hz1
    rcases hown'.2 with ⟨rfl, hn0⟩ | ⟨g, cap, cur, rfl, hbg, hg, hnc, hcm, hcs, htake⟩
    · have hr2 := run_append_nil (P := Try.prog) (wr.alloc (.cells #[.int .i64 (k : Int)] 3)) 38 o.type 3 i0 (.int .i64 0) Try.underlying38 hi hz0 ⟨wr.heap.size, 0, none⟩ 1 1 [iv k] (by rw [hzs]; rfl) hnews (by decide) (by decide) (by rw [hz2]; decide)
      rw [hr2] at hr
      injection hr with e1 e2
      right
      refine ⟨wr.heap.size + 1, by omega, ?_⟩
      rw [← e1]
      simp [Value.ownBlock]
    · by_cases hroom : l.length + 1 ≤ cap
      · have hr2 := run_append_room (P := Try.prog) (wr.alloc (.cells #[.int .i64 (k : Int)] 3)) 38 o.type 3 i0 Try.underlying38 hi g l.length cap cur hg ⟨wr.heap.size, 0, none⟩ 1 1 [iv k] (by rw [hzs]; rfl) hnews h1 hroom (by rw [hzs, hcs]; simp; omega)
        rw [hr2] at hr
        injection hr with e1 e2
        left
        rw [← e1]
        rfl
      · have hr2 := run_append_grow (P := Try.prog) (wr.alloc (.cells #[.int .i64 (k : Int)] 3)) 38 o.type 3 i0 (.int .i64 0) Try.underlying38 hi hz0 ⟨g, 0, none⟩ l.length cap _ (by rw [hzs]; exact hown'.1) (World.ownsRow.cells hown' (g := g) rfl) ⟨wr.heap.size, 0, none⟩ 1 1 [iv k] (by rw [hzs]; rfl) hnews (by omega) (by omega) (growslice_fits (by omega) (by rw [hz2]; omega))
        rw [hr2] at hr
        injection hr with e1 e2
        right
        refine ⟨wr.heap.size + 1, by omega, ?_⟩
        rw [← e1]
        simp [Value.ownBlock]
  unfold Oper.wp execOp
  simp only [ho, resolve, invoke, builtin, Sem.run_bind, Sem.run_pure, Result.andThen_ok, List.map_toArray, List.map_cons, List.map_nil, hs, hx, hr]
  exact hK _ _ (h v' w' (by simpa using h2) hn hg2 hblk)
end Go.Proofs.Ytookcjdibpccpab

/-
  THE WALK of the function in flat.Shown that calls itself.
-/
namespace Go.Proofs.Ytookcjdibpccpab
open Go.RowKit

/-- all blocks that there were are as they were, but for A and r; the row lies in r still, or in a block that was not there -/
structure Mv (A : Nat) (r r' : Option Nat) (w w' : World) : Prop where
  os : w'.os = w.os
  tape : w'.tape = w.tape
  output : w'.output = w.output
  size : w.heap.size ≤ w'.heap.size
  block : ∀ k, k < w.heap.size → k ≠ A → some k ≠ r → w'.heap[k]? = w.heap[k]?
  own : r' = r ∨ ∃ g, w.heap.size ≤ g ∧ r' = some g

theorem Mv.refl (A : Nat) (r : Option Nat) (w : World) : Mv A r r w w := ⟨rfl, rfl, rfl, Nat.le_refl _, fun _ _ _ _ => rfl, Or.inl rfl⟩
theorem Mv.trans {A : Nat} {r r' r'' : Option Nat} {a b c : World} (h : Mv A r r' a b) (k : Mv A r' r'' b c) : Mv A r r'' a c := by
  refine ⟨k.os.trans h.os, k.tape.trans h.tape, k.output.trans h.output, Nat.le_trans h.size k.size, fun i hi hA hr => ?_, ?_⟩
  · rw [k.block i (Nat.lt_of_lt_of_le hi h.size) hA ?_, h.block i hi hA hr]
    rcases h.own with e | ⟨g, hg, e⟩
    · rw [e]; exact hr
    · rw [e]
      intro x
      cases x
      omega
  · rcases k.own with e | ⟨g, hg, e⟩
    · rw [e]
      exact h.own
    · exact Or.inr ⟨g, Nat.le_trans h.size hg, e⟩
theorem Mv.below {A : Nat} {r r' : Option Nat} {a b c : World} (h : Mv A r r' a b) (k : Below b.heap.size b c) : Mv A r r' a c :=
  ⟨k.os.trans h.os, k.tape.trans h.tape, k.output.trans h.output, Nat.le_trans h.size k.size, fun i hi hA hr => (k.block i (Nat.lt_of_lt_of_le hi h.size)).trans (h.block i hi hA hr), h.own⟩
theorem Mv.drew {A : Nat} {r r' : Option Nat} {a b : World} (h : Mv A r r' a b) : Mv A r r' a b.drew := ⟨h.os, h.tape, h.output, h.size, h.block, h.own⟩
theorem Mv.set {A : Nat} {r r' : Option Nat} {a b : World} (h : Mv A r r' a b) (u : Value) : Mv A r r' a (b.setCell ⟨A, 0, none⟩ u) := by
  have hb := (Below.refl 0 b).setCell (p := ⟨A, 0, none⟩) (Nat.zero_le _) u
  exact ⟨hb.os.trans h.os, hb.tape.trans h.tape, hb.output.trans h.output, Nat.le_trans h.size hb.size, fun i hi hn hr => by rw [heap_setCell_other _ _ _ _ hn]; exact h.block i hi hn hr, h.own⟩
theorem Mv.cell {A : Nat} {r r' : Option Nat} {w w' : World} (h : Mv A r r' w w') {p : Addr} {v : Value} (hv : w.cell? p = some v) (hp : p.block ≠ A) (hr : some p.block ≠ r) : w'.cell? p = some v := by
  have hl := lt_of_cell hv
  rw [← hv]
  exact World.cell?_of_block (h.block p.block hl hp hr)
theorem Mv.but {A : Nat} {r r' : Option Nat} {w w' : World} (h : Mv A r r' w w') {B : Nat} (hB : B ≤ w.heap.size) (hr : ∀ k, r = some k → B ≤ k) : But B A w w' :=
  ⟨h.os, h.tape, h.output, h.size, fun i hi hA => h.block i (by omega) hA (fun e => by have := hr i e.symm; omega)⟩

/-- the three variables of the function in Shown: what is shown so far, the document, itself -/
structure VarS (w : World) (A D K B : Nat) (dv : Value) (acc : List Nat) (va : Value) : Prop where
  d : w.cell? ⟨D, 0, none⟩ = some dv
  k : w.cell? ⟨K, 0, none⟩ = some (.func (.func 50) #[] #[.pointer (some ⟨A, 0, none⟩), .pointer (some ⟨D, 0, none⟩), .pointer (some ⟨K, 0, none⟩)])
  a : w.cell? ⟨A, 0, none⟩ = some va
  f : w.frozen? ⟨A, 0, none⟩ = false
  own : OwnI w B va acc

theorem VarS.below {w w' : World} {A D K B : Nat} {dv va : Value} {acc : List Nat} (h : VarS w A D K B dv acc va) (hb : Below w.heap.size w w') : VarS w' A D K B dv acc va :=
  ⟨keeps_below hb (Nat.le_refl _) _ _ h.d, keeps_below hb (Nat.le_refl _) _ _ h.k, keeps_below hb (Nat.le_refl _) _ _ h.a, by rw [hb.frozen (p := ⟨A, 0, none⟩) (lt_of_cell h.a)]; exact h.f, h.own.below hb (Nat.le_refl _)⟩

/-- what is shown below n ends within f calls -/
def EndF : Nat → Tn.Dc → Nat → Prop
  | 0, _, _ => False
  | f + 1, d, n => ∀ k ∈ kidsD d (n : Int), EndF f d k

set_option maxHeartbeats 1600000 in
theorem shown1_any {w0 : World} {b o c : Nat} {rs : List Raw} {d : Tn.Dc} {A D K B : Nat} (hB0 : w0.heap.size = B) (hd : DocAt w0 b o c rs d) (hoff : DocOff A b rs) (hDB : D < B) (hAB : A < B) (hKB : K < B) (hDA : D ≠ A) (hKA : K ≠ A) (hg : Okd d) (f : Nat) :
    ∀ (n : Nat) (acc : List Nat) (va : Value) (w : World), EndF f d n → But B A w0 w → VarS w A D K B (.slice (some ⟨b, o, none⟩) rs.length c) acc va → (acc ++ shownF f d n).length ≤ 10000 →
      Calls Try.prog 50 #[.int .i64 (n : Int), .pointer (some ⟨A, 0, none⟩), .pointer (some ⟨D, 0, none⟩), .pointer (some ⟨K, 0, none⟩)] w fun e w' =>
        e = .returned (.tuple #[]) ∧ ∃ va', VarS w' A D K B (.slice (some ⟨b, o, none⟩) rs.length c) (acc ++ shownF f d n) va' ∧ Mv A va.ownBlock va'.ownBlock w w' := by
  have H : Hid (DocAt w0 b o c rs d) := hd
  have HB : Hid (w0.heap.size = B) := hB0
  clear hd hB0
  induction f with
  | zero => intro n acc va w hE; exact absurd hE (by simp [EndF])
  | succ f ih =>
    intro n acc va w hE hbut hv hsz
    have Z : Hid ((acc ++ shownF (f + 1) d n).length ≤ 10000) := hsz
    have hE' : ∀ k ∈ kidsD d (n : Int), EndF f d k := hE
    have EE : Hid (∀ k ∈ kidsD d (n : Int), EndF f d k) := hE'
    have SF : Hid (shownF (f + 1) d n = n :: (kidsD d (n : Int)).flatMap (shownF f d)) := rfl
    have hBw : B ≤ w.heap.size := by have h1 := hbut.size; rw [HB.out] at h1; exact h1
    have hzs : acc.length ≤ 1000000 := by have h1 := Z.out; rw [List.length_append] at h1; omega
    clear hsz hE hE'
    obtain ⟨vd, vk, vaa, vf, vown⟩ := hv
    have hlow : ∀ k, va.ownBlock = some k → B ≤ k := fun k hk => (World.ownsRow.lt vown k hk).1
    go_enter Try.func50, Try.ntmps50
    go_upto_region 1 with (at_builtin; refine append_int2 (w0 := w) rfl _ _ rfl n rfl rfl vown (Below.refl B w) hBw hzs ?_; intro v1 w1 o1' n1' g1' b1'; obtain ⟨pv, cv, rfl⟩ := o1'.shape; have a1 : w1.cell? ⟨A, 0, none⟩ = some va := (n1'.cell (p := ⟨A, 0, none⟩) hAB).trans vaa; have f1 : w1.frozen? ⟨A, 0, none⟩ = false := (n1'.frozen (p := ⟨A, 0, none⟩) hAB).trans vf)
    simp only [List.length_append, List.length_singleton] at o1' b1'
    generalize hv1 : Value.slice pv (acc.length + 1) cv = v1 at *
    have d2 : (w1.setCell ⟨A, 0, none⟩ v1).cell? ⟨D, 0, none⟩ = some (.slice (some ⟨b, o, none⟩) rs.length c) := by
      rw [World.cell?_setCell_other _ _ _ _ (by intro e; cases e; exact hDA rfl), n1'.cell (p := ⟨D, 0, none⟩) hDB]
      exact vd
    have k2 : (w1.setCell ⟨A, 0, none⟩ v1).cell? ⟨K, 0, none⟩ = some (.func (.func 50) #[] #[.pointer (some ⟨A, 0, none⟩), .pointer (some ⟨D, 0, none⟩), .pointer (some ⟨K, 0, none⟩)]) := by
      rw [World.cell?_setCell_other _ _ _ _ (by intro e; cases e; exact hKA rfl), n1'.cell (p := ⟨K, 0, none⟩) hKB]
      exact vk
    have V2 : VarS (w1.setCell ⟨A, 0, none⟩ v1) A D K B (.slice (some ⟨b, o, none⟩) rs.length c) (acc ++ [n]) v1 := ⟨d2, k2, World.cell?_setCell_same _ _ _ a1, by simpa using f1, o1'.set hAB _⟩
    have M2 : Mv A va.ownBlock v1.ownBlock w (w1.setCell ⟨A, 0, none⟩ v1) := (⟨g1'.os, g1'.tape, g1'.output, g1'.size, fun i hi _ hr => g1'.block i hi (fun e => hr e), b1'⟩ : Mv A va.ownBlock v1.ownBlock w w1).set _
    have bt2 : But B A w0 (w1.setCell ⟨A, 0, none⟩ v1) := hbut.trans (M2.but hBw hlow)
    generalize hW2 : w1.setCell ⟨A, 0, none⟩ v1 = W2 at *
    clear hW2 hv1 a1 f1 o1' n1' g1' b1' vd vk vaa vf vown hbut hBw
    have hB0 : w0.heap.size ≤ B := by rw [HB.out]; exact Nat.le_refl _
    have D2 : Hid (DocAt W2 b o c rs d) := bt2.doc hB0 H.out hoff
    have hKC := fkids_any D2.out hg (n : Int)
    have hkz : (kidsD d (n : Int)).length ≤ 100000 := by
      have h1 := Z.out
      rw [SF.out] at h1
      have h2 : (kidsD d (n : Int)).length ≤ ((kidsD d (n : Int)).flatMap (shownF f d)).length := by
        have : ∀ l : List Nat, (∀ k ∈ l, EndF f d k) → l.length ≤ (l.flatMap (shownF f d)).length := by
          intro l
          induction l with
          | nil => simp
          | cons a l ihl =>
            intro hl
            have ha := hl a (by simp)
            have := ihl (fun k hk => hl k (by simp [hk]))
            cases f with
            | zero => exact absurd ha (by simp [EndF])
            | succ f => simp [shownF] at this ⊢; omega
        exact this _ EE.out
      simp at h1
      simp at h2
      omega
    generalize kidsD d (n : Int) = l at *
    have hV1 : ∀ g, v1.ownBlock = some g → g < W2.heap.size := fun g hg => (World.ownsRow.lt V2.own g hg).2
    go_upto_region 2 with (go_at_call 19; refine hKC.mono ?_; rintro e w3 ⟨vk, rfl, hok, hb3⟩; have okk := hok; obtain ⟨pk, ck, rfl⟩ := okk.shape)
    have T : Hid (∀ j (hj : j < l.length), ∃ b1 o1, pk = some ⟨b1, o1, none⟩ ∧ W2.heap.size ≤ b1 ∧ w3.cell? ⟨b1, o1 + j, none⟩ = some (.int .i64 (l[j] : Int))) := by
      intro j hj
      obtain ⟨_, _, he, _, _, _, hat⟩ := (ints_of_owns hok).at
      cases he
      obtain ⟨b1, o1, e1, e2⟩ := hat j hj
      exact ⟨b1, o1, e1, OwnI.off hok _ e1, e2⟩
    have hcl := (ints_of_owns hok).at
    obtain ⟨_, _, he, hlc, hcm, _, _⟩ := hcl
    cases he
    have bt3 : But B A w0 w3 := bt2.trans (But.of hb3 (by have h1 := bt2.size; rw [HB.out] at h1; exact h1))
    have hB3 : B ≤ w3.heap.size := by have h1 := bt3.size; rw [HB.out] at h1; exact h1
    have hB2 : B ≤ W2.heap.size := by have h1 := bt2.size; rw [HB.out] at h1; exact h1
    have V3 := V2.below hb3
    have M3 := M2.below hb3
    have hlow1 : ∀ k, v1.ownBlock = some k → B ≤ k := fun k hk => (World.ownsRow.lt V2.own k hk).1
    clear hok okk hKC d2 k2 V2 M2 hb3 D2 bt2 hlow hzs
    go_loopw [6, 15] (fun _ i wr => ∃ (j : Nat) (vr : Value), j ≤ l.length ∧ i = .int .i64 j ∧ Mv A v1.ownBlock vr.ownBlock w3 wr ∧ VarS wr A D K B (.slice (some ⟨b, o, none⟩) rs.length c) ((acc ++ [n]) ++ (l.take j).flatMap (shownF f d)) vr) (fun _ i _ => l.length - (intOf i).toNat)
    case atStart => exact ⟨0, v1, Nat.zero_le _, rfl, Mv.refl _ _ _, by simpa using V3⟩
    case round =>
      obtain ⟨j, vr, hj, rfl, MR, VR⟩ := hrel
      by_cases hlt : j < l.length
      · obtain ⟨b1, o1, rfl, hb1, hc⟩ := T.out j hlt
        have hcr := MR.cell hc (by show b1 ≠ A; omega) (by intro e; have := hV1 b1 e.symm; omega)
        have F : Hid (((acc ++ [n]) ++ (l.take (j + 1)).flatMap (shownF f d)) = ((acc ++ [n]) ++ (l.take j).flatMap (shownF f d)) ++ shownF f d l[j]) := by
          show _ = _
          rw [List.take_succ_eq_append_getElem hlt, List.flatMap_append]
          simp
        have hz : ((((acc ++ [n]) ++ (l.take j).flatMap (shownF f d)) ++ shownF f d l[j]).length ≤ 10000) := by
          rw [← F.out]
          have h1 := Z.out
          have h2 := take_flat_len l (shownF f d) (j + 1)
          rw [SF.out] at h1
          simp only [List.length_append, List.length_cons, List.length_nil] at h1 ⊢
          omega
        have btr : But B A w0 wr := bt3.trans (MR.but hB3 hlow1)
        have hC := ih l[j] _ vr wr (EE.out _ (List.getElem_mem hlt)) btr VR hz
        have hk := VR.k
        clear hc hz VR
        generalize l[j] = x at *
        go_wp2_with (go_at_call 50; refine hC.mono ?_; rintro e w5 ⟨rfl, v5, V5, M5⟩)
        go_roundw
        case rel => exact ⟨j + 1, v5, by omega, by go_num, MR.trans M5, by rw [F.out]; exact V5⟩
        case measure => simp [intOf]; omega
      · obtain rfl : j = l.length := by omega
        rw [List.take_length] at VR
        go_wp2_with fail
        go_end0
        refine ⟨rfl, vr, ?_, M3.trans MR⟩
        have e : acc ++ shownF (f + 1) d n = (acc ++ [n]) ++ l.flatMap (shownF f d) := by rw [SF.out]; simp
        rw [e]
        exact VR
end Go.Proofs.Ytookcjdibpccpab

/-
  THE WALK of flat.Shown.
-/
namespace Go.Proofs.Ytookcjdibpccpab
open Go.RowKit

set_option maxHeartbeats 1600000 in
theorem fshown_any {w : World} {b o c : Nat} {rs : List Raw} {d : Tn.Dc} (hd : DocAt w b o c rs d) (hg : Okd d) (hE : EndF Tn.fuel d 0) (hfew : (shownF Tn.fuel d 0).length ≤ 10000) :
    Calls Try.prog 23 #[.slice (some ⟨b, o, none⟩) rs.length c] w fun e w' => ∃ v, e = .returned v ∧ OwnI w' w.heap.size v (shownF Tn.fuel d 0) ∧ Below w.heap.size w w' := by
  have h0 : 0 < rs.length := by rw [hd.len]; exact hg.tame.len.1
  have hoff : DocOff (w.heap.size + 1) b rs := doc_old hd h0 (by omega)
  have hst : ∀ (W : World) (a : Addr) (fn : Fn) (x y : Array Value), Sem.run Try.prog (store a (.func fn x y)) W = stored Try.prog W a (.func fn x y) .plain := fun W a fn x y => run_store Try.prog W a (.func fn x y) .plain rfl
  have his : Tn.isN d (0 : Int) false = true := by have := Tn.isN_iff (d := d) (k := 0); rw [hg.root] at this; exact this
  have hall : Calls Try.prog 10 #[.slice (some ⟨b, o, none⟩) rs.length c, .int .i64 0, .bool false]
      (((w.alloc (.cells #[.slice (some ⟨b, o, none⟩) rs.length c] 25)).alloc (.cells #[.slice none 0 0] 38)).alloc (.cells #[.func (.func 50) #[] #[.pointer (some ⟨w.heap.size + 1, 0, none⟩), .pointer (some ⟨w.heap.size, 0, none⟩), .pointer (some ⟨w.heap.size + 1 + 1, 0, none⟩)]] 61))
      fun e w' => e = .returned (.bool true) ∧ w' = (((w.alloc (.cells #[.slice (some ⟨b, o, none⟩) rs.length c] 25)).alloc (.cells #[.slice none 0 0] 38)).alloc (.cells #[.func (.func 50) #[] #[.pointer (some ⟨w.heap.size + 1, 0, none⟩), .pointer (some ⟨w.heap.size, 0, none⟩), .pointer (some ⟨w.heap.size + 1 + 1, 0, none⟩)]] 61)) := by
    have := dis_any (hd.keeps (keeps_alloc' (.cells #[.func (.func 50) #[] #[.pointer (some ⟨w.heap.size + 1, 0, none⟩), .pointer (some ⟨w.heap.size, 0, none⟩), .pointer (some ⟨w.heap.size + 1 + 1, 0, none⟩)]] 61) (keeps_alloc' (.cells #[.slice none 0 0] 38) (keeps_alloc w (.cells #[.slice (some ⟨b, o, none⟩) rs.length c] 25))))) 0 false
    rw [his] at this
    exact this
  have hC : Calls Try.prog 50 #[.int .i64 0, .pointer (some ⟨w.heap.size + 1, 0, none⟩), .pointer (some ⟨w.heap.size, 0, none⟩), .pointer (some ⟨w.heap.size + 1 + 1, 0, none⟩)]
      (((w.alloc (.cells #[.slice (some ⟨b, o, none⟩) rs.length c] 25)).alloc (.cells #[.slice none 0 0] 38)).alloc (.cells #[.func (.func 50) #[] #[.pointer (some ⟨w.heap.size + 1, 0, none⟩), .pointer (some ⟨w.heap.size, 0, none⟩), .pointer (some ⟨w.heap.size + 1 + 1, 0, none⟩)]] 61))
      fun e w' => e = .returned (.tuple #[]) ∧ Below w.heap.size w w' ∧ ∃ va', w'.cell? ⟨w.heap.size + 1, 0, none⟩ = some va' ∧ OwnI w' w.heap.size va' (shownF Tn.fuel d 0) := by
    generalize hf67 : (Obj.cells #[.func (.func 50) #[] #[.pointer (some ⟨w.heap.size + 1, 0, none⟩), .pointer (some ⟨w.heap.size, 0, none⟩), .pointer (some ⟨w.heap.size + 1 + 1, 0, none⟩)]] 61) = o3
    have z1 : (w.alloc (.cells #[.slice (some ⟨b, o, none⟩) rs.length c] 25)).heap.size = w.heap.size + 1 := by simp
    have b1 := heap_alloc_new w (.cells #[.slice (some ⟨b, o, none⟩) rs.length c] 25)
    have B1 := (Below.refl w.heap.size w).alloc (Nat.le_refl _) (.cells #[.slice (some ⟨b, o, none⟩) rs.length c] 25)
    generalize w.alloc (.cells #[.slice (some ⟨b, o, none⟩) rs.length c] 25) = w1 at *
    have z2 : (w1.alloc (.cells #[.slice none 0 0] 38)).heap.size = w.heap.size + 2 := by simp [z1]
    have b2 := blk_new w1 (.cells #[.slice none 0 0] 38) z1
    have b12 := blk_alloc b1 (.cells #[.slice none 0 0] 38)
    have B2 := B1.alloc (by omega) (.cells #[.slice none 0 0] 38)
    generalize w1.alloc (.cells #[.slice none 0 0] 38) = w2 at *
    have z3 : (w2.alloc o3).heap.size = w.heap.size + 3 := by simp [z2]
    have b3 := blk_new w2 o3 z2
    have b23 := blk_alloc b2 o3
    have b13 := blk_alloc b12 o3
    have B3 := B2.alloc (by omega) o3
    generalize w2.alloc o3 = w3 at *
    subst hf67
    have hd3 := hd.keeps (keeps_below B3 (Nat.le_refl _))
    refine (shown1_any (w0 := w3) (D := w.heap.size) (A := w.heap.size + 1) (K := w.heap.size + 1 + 1) (B := w.heap.size + 3) z3 hd3 hoff (by omega) (by omega) (by omega) (by omega) (by omega) hg Tn.fuel 0 [] (.slice none 0 0) w3 hE (But.refl _ _ _) ?_ (by simpa using hfew)).mono ?_
    · exact ⟨by simp [World.cell?, b13], by simp [World.cell?, b3], by simp [World.cell?, b23], by simp [World.frozen?, b23], OwnI.nil _ _⟩
    · rintro e w' ⟨rfl, va', V, M⟩
      have hbut := M.but (B := w.heap.size + 3) (by omega) (fun k hk => by simp [Value.ownBlock] at hk)
      refine ⟨rfl, B3.trans (hbut.below (by omega) (by omega)), va', V.a, ?_⟩
      have := V.own
      simp only [List.nil_append] at this
      exact this.mono (by omega)
  clear hd hoff hfew hE
  go_enter Try.func23, Try.ntmps23
  go_wp2_with (first
    | (go_at_call 10; refine hall.mono ?_; rintro e w8 ⟨rfl, hw8⟩; subst hw8)
    | (go_at_call 50; refine hC.mono ?_; rintro e w9 ⟨rfl, hb9, va9, hc9, ho9⟩))
  go_ret
  exact ⟨_, rfl, ho9, hb9⟩
end Go.Proofs.Ytookcjdibpccpab

/-
  PLAIN MATHEMATICS: what the walks ask of a document holds of each that was built; documents without shadow trees.
-/
namespace Go.Proofs.Ytookcjdibpccpab
open Tn

theorem path_live (d : Dc) : ∀ (f : Nat) (n : Int), ∀ k ∈ path f d n, lvD d k = true
  | 0, _, k, h => by simp [path] at h
  | f + 1, n, k, h => by
    rw [path] at h
    split at h
    · rename_i hn
      obtain ⟨m, rfl, _, hl⟩ := isN_nat hn
      rcases List.mem_cons.mp h with h | h
      · rw [h, Int.toNat_natCast]
        exact hl
      · exact path_live d f _ k h
    · simp at h

theorem scopeL_live {d : Dc} (h : Tn.Good d) (hf : ∀ j, Fit j (nd d j)) : ∀ l : List Nat, (∀ k ∈ l, lvD d k = true) → ∃ s : Nat, scopeL d l = (s : Int) ∧ lvD d s = true
  | [], _ => by
    obtain ⟨r, hr, _⟩ := h.tr
    exact ⟨0, rfl, hr.1.root⟩
  | k :: l, hl => by
    obtain ⟨r, hr, _⟩ := h.tr
    rw [scopeL]
    split
    · rename_i hi
      have hk := hl k (by simp)
      have h0 : 0 < k := by
        apply Classical.byContradiction
        intro hn
        have hk0 : k = 0 := by omega
        have := ((hf k).root hk0).2.2
        rw [hi] at this
        cases this
      have h1 := hr.2 k h0 hk
      exact ⟨(nd d k).up.toNat, by omega, hr.1.upLive h0 hk⟩
    · exact scopeL_live h hf l (fun x hx => hl x (by simp [hx]))

theorem okd_of {d : Dc} (h : Tn.Good d) (hf : ∀ j, Fit j (nd d j)) : Okd d := by
  obtain ⟨r, hr, _⟩ := h.tr
  exact ⟨tame_good h, fun j s => Nat.le_trans (h.small j s) (by decide), fun k => (hf k).rise, fun k => Nat.le_trans (h.attrs k) (by decide), hr.1.root, fun k _ => scopeL_live h hf _ (path_live d _ _)⟩

theorem build_okd (l : List Chg) : Okd (Tn.build l) := okd_of (build_good l) (build_fit l)

def endB : Nat → Dc → Nat → Bool
  | 0, _, _ => false
  | f + 1, d, n => (kidsD d (n : Int)).all (endB f d)
theorem endB_end (d : Dc) : ∀ (f n : Nat), endB f d n = true → EndF f d n
  | 0, _, h => by simp [endB] at h
  | f + 1, n, h => fun k hk => endB_end d f k (List.all_eq_true.mp h k hk)

/-- without shadow trees: no node goes to a slot, each shows what it has -/
theorem plain_slot {d : Dc} (hs : ∀ j, (nd d j).hasS = false) (n : Int) : slotD d n = -1 := by
  unfold slotD
  rw [if_neg]
  unfold slottedD
  simp [hs]
theorem plain_given {d : Dc} (hs : ∀ j, (nd d j).hasS = false) (n : Nat) : givenD d (n : Int) = [] := by
  unfold givenD
  split
  · rw [List.filter_eq_nil_iff]
    intro a _
    rw [plain_slot hs]
    simp
  · rfl
theorem plain_kids {d : Dc} (hs : ∀ j, (nd d j).hasS = false) {n : Nat} (hn : isN d (n : Int) false = true) : kidsD d (n : Int) = (nd d n).kids := by
  unfold kidsD
  rw [if_pos hn, Int.toNat_natCast, hs n, plain_given hs]
  rfl
theorem plain_shown {d : Dc} (hs : ∀ j, (nd d j).hasS = false) (hz : ∀ j, (nd d j).shadow = []) {r : Nat → Nat} (hr : TrD d r) : ∀ (f n : Nat), lvD d n = true → shownF f d n = all f d n
  | 0, _, _ => rfl
  | f + 1, n, hn => by
    have hi : isN d (n : Int) false = true := by rw [isN_iff]; exact hn
    rw [shownF, all, if_pos hi, plain_kids hs hi, hz n]
    simp only [List.flatMap_nil, List.nil_append]
    congr 1
    rw [List.flatMap_def, List.flatMap_def]
    congr 1
    refine List.map_congr_left fun k hk => plain_shown hs hz hr f k ?_
    exact (hr.1.mem n false k hk).2.1
theorem plain_end {d : Dc} (hs : ∀ j, (nd d j).hasS = false) {r : Nat → Nat} (hr : TrD d r) : ∀ (f n : Nat), lvD d n = true → Tn.Ends f d n → EndF f d n
  | 0, _, _, h => h
  | f + 1, n, hn, h => by
    have hi : isN d (n : Int) false = true := by rw [isN_iff]; exact hn
    intro k hk
    rw [plain_kids hs hi] at hk
    exact plain_end hs hr f k (hr.1.mem n false k hk).2.1 (h.2.2 k hk)
end Go.Proofs.Ytookcjdibpccpab

/-
  PLAIN MATHEMATICS: what is shown is shown once; each node in one other, that stands ahead of it.
-/
namespace Go.Proofs.Ytookcjdibpccpab
open Tn

/-- more steps tell no more -/
theorem all_more (d : Dc) : ∀ (f n g : Nat), Tn.Ends f d n → f ≤ g → all g d n = all f d n
  | 0, _, _, h, _ => absurd h (by simp [Tn.Ends])
  | f + 1, n, 0, _, hg => by omega
  | f + 1, n, g + 1, h, hg => by
    rw [all, all]
    split
    · congr 1
      have e : ∀ l : List Nat, (∀ k ∈ l, Tn.Ends f d k) → l.flatMap (all g d) = l.flatMap (all f d) := by
        intro l hl
        rw [List.flatMap_def, List.flatMap_def]
        congr 1
        exact List.map_congr_left fun k hk => all_more d f k g (hl k hk) (by omega)
      rw [e _ h.2.1, e _ h.2.2]
    · rfl

/-- a document as it is built -/
structure Fine (d : Dc) : Prop where
  good : Tn.Good d
  fit : ∀ j, Fit j (nd d j)

theorem build_fine (l : List Chg) : Fine (Tn.build l) := ⟨build_good l, build_fit l⟩
theorem Fine.okd {d : Dc} (h : Fine d) : Okd d := okd_of h.good h.fit

/-- all that is in n -/
def allD (d : Dc) (n : Nat) : List Nat := all fuel d n

theorem all_step {d : Dc} {g n : Nat} (hi : isN d (n : Int) false = true) (hE : ∀ s, ∀ k ∈ liD d n s, Tn.Ends g d k) : all (g + 1) d n = n :: ((nd d n).shadow.flatMap (all (g + 1) d) ++ (nd d n).kids.flatMap (all (g + 1) d)) := by
  have e : ∀ l : List Nat, (∀ k ∈ l, Tn.Ends g d k) → l.flatMap (all (g + 1) d) = l.flatMap (all g d) := by
    intro l hl
    rw [List.flatMap_def, List.flatMap_def]
    congr 1
    exact List.map_congr_left fun k hk => all_more d g k (g + 1) (hl k hk) (by omega)
  rw [e (nd d n).shadow (hE true), e (nd d n).kids (hE false), all, if_pos hi]

theorem allD_eq {d : Dc} (h : Fine d) {n : Nat} (hn : lvD d n = true) : allD d n = n :: ((nd d n).shadow.flatMap (allD d) ++ (nd d n).kids.flatMap (allD d)) := by
  obtain ⟨r, hr, hR⟩ := h.good.tr
  have hi : isN d (n : Int) false = true := by rw [isN_iff]; exact hn
  exact all_step (g := 63) hi (fun s k hk => ends_of hr hR 63 k (hr.1.mem n s k hk).2.1 (by omega))

theorem sub_flat {g : Nat → List Nat} : ∀ {l : List Nat} {k : Nat}, k ∈ l → (g k).Sublist (l.flatMap g)
  | a :: l, k, h => by
    rw [List.flatMap_cons]
    rcases List.mem_cons.mp h with rfl | h
    · exact List.sublist_append_left _ _
    · exact (sub_flat h).trans (List.sublist_append_right _ _)

theorem allD_self {d : Dc} (h : Fine d) {n : Nat} (hn : lvD d n = true) : n ∈ allD d n := by rw [allD_eq h hn]; simp

/-- what is in n's list s is in n, behind n -/
theorem sub_child {d : Dc} (h : Fine d) {n k : Nat} {s : Bool} (hk : k ∈ liD d n s) : (n :: allD d k).Sublist (allD d n) := by
  obtain ⟨r, hr, _⟩ := h.good.tr
  obtain ⟨hn, hkl, _⟩ := hr.1.mem n s k hk
  rw [allD_eq h hn]
  refine List.Sublist.cons_cons _ ?_
  cases s with
  | true => exact (sub_flat (l := (nd d n).shadow) hk).trans (List.sublist_append_left _ _)
  | false => exact (sub_flat (l := (nd d n).kids) hk).trans (List.sublist_append_right _ _)

theorem sub_root {d : Dc} (h : Fine d) {r : Nat → Nat} (hr : TrD d r) : ∀ (i n : Nat), r n = i → lvD d n = true → (allD d n).Sublist (allD d 0) := by
  intro i
  induction i with
  | zero =>
    intro n hi hn
    have h0 : n = 0 := by
      apply Classical.byContradiction
      intro hne
      have := hr.1.rank n (by omega) hn
      omega
    rw [h0]
    exact List.Sublist.refl _
  | succ i ih =>
    intro n hi hn
    have h0 : 0 < n := hr.1.pos (by omega)
    have h1 := hr.1.rank n h0 hn
    have hu := hr.1.upLive h0 hn
    exact ((List.sublist_cons_self _ _).trans (sub_child h (hr.1.par n h0 hn))).trans (ih _ (by omega) hu)

theorem allD_nodup {d : Dc} (h : Fine d) {n : Nat} (hn : lvD d n = true) : (allD d n).Nodup := by
  obtain ⟨r, hr, _⟩ := h.good.tr
  exact all_nodup hr fuel n hn

/-- the first node on the way up that is in a shadow tree -/
theorem scope_cases {d : Dc} {r : Nat → Nat} (hr : TrD d r) : ∀ l : List Nat, scopeL d l = 0 ∨ ∃ x ∈ l, (nd d x).inS = true ∧ scopeL d l = (nd d x).up
  | [] => Or.inl rfl
  | k :: l => by
    rw [scopeL]
    split
    · rename_i hi
      exact Or.inr ⟨k, by simp, hi, rfl⟩
    · rcases scope_cases hr l with e | ⟨x, hx, h1, h2⟩
      · exact Or.inl e
      · exact Or.inr ⟨x, by simp [hx], h1, h2⟩

/-- of what is in the element host, but not in its shadow tree, nothing is of its scope -/
theorem scope_out {d : Dc} (h : Fine d) {host p : Nat} (hh : lvD d host = true) (hs : (nd d host).hasS = true) (hp : lvD d p = true) (hsc : scopeD d (p : Int) = (host : Int)) : p ∉ host :: (nd d host).kids.flatMap (allD d) := by
  obtain ⟨r, hr, hR⟩ := h.good.tr
  have h0 : host ≠ 0 := by
    rintro rfl
    have := ((h.fit 0).root rfl).1
    rw [hs] at this
    cases this
  unfold scopeD pathOf at hsc
  rw [path_anc hr (d.length + 1) p hp (by have := rank_lt hr hp; omega) h.good.rootUp] at hsc
  rcases scope_cases hr ((List.range (r p + 1)).map fun i => anc (upD d) i p) with e | ⟨x, hx, hin, e⟩
  · rw [e] at hsc
    omega
  · rw [e] at hsc
    obtain ⟨i, hi, rfl⟩ := List.mem_map.mp hx
    have hi' : i ≤ r p := by have := List.mem_range.mp hi; omega
    obtain ⟨hxl, hxr⟩ := hr.1.anc i p hp hi'
    have hx0 : 0 < anc (upD d) i p := by
      apply Classical.byContradiction
      intro hn
      have := ((h.fit (anc (upD d) i p)).root (by omega)).2.2
      rw [hin] at this
      cases this
    have hup : upD d (anc (upD d) i p) = host := by
      show (nd d (anc (upD d) i p)).up.toNat = host
      rw [hsc]
      simp
    have hrx := hr.1.rank _ hx0 hxl
    rw [hup] at hrx
    intro hm
    rcases List.mem_cons.mp hm with rfl | hm
    · omega
    · obtain ⟨c, hc, hpc⟩ := List.mem_flatMap.mp hm
      obtain ⟨_, hcl, hc0, hcu, hci⟩ := hr.1.mem host false c hc
      have hrc := hr.1.rank c hc0 hcl
      rw [hcu] at hrc
      obtain ⟨_, hde⟩ := all_desc hr fuel c p hpc hcl
      obtain ⟨h1, h2⟩ := hde
      have : r p - r c = i := by omega
      rw [this] at h2
      rw [h2] at hin
      have : insD d c = (nd d c).inS := rfl
      rw [hci] at this
      rw [← this] at hin
      cases hin

theorem find_skip {p : Nat → Bool} {a b : List Nat} (h : ∀ x ∈ a, p x = false) : (a ++ b).find? p = b.find? p := by
  rw [List.find?_append]
  have : a.find? p = none := List.find?_eq_none.mpr (fun x hx => by simp [h x hx])
  rw [this]
  rfl
theorem find_drop {p : Nat → Bool} {a b : List Nat} (h : ∀ x ∈ b, p x = false) : (a ++ b).find? p = a.find? p := by
  rw [List.find?_append]
  have : b.find? p = none := List.find?_eq_none.mpr (fun x hx => by simp [h x hx])
  rw [this]
  cases a.find? p <;> rfl

theorem allD_live {d : Dc} (h : Fine d) {n x : Nat} (hn : lvD d n = true) (hx : x ∈ allD d n) : lvD d x = true := by
  obtain ⟨r, hr, _⟩ := h.good.tr
  exact (all_desc hr fuel n x hx hn).1

/-- the slot is looked for in the shadow tree alone -/
theorem slot_shadow {d : Dc} (h : Fine d) {host : Nat} (hh : lvD d host = true) (hs : (nd d host).hasS = true) (want : ByteArray) :
    (allD d host).find? (fitsD d want (host : Int)) = ((nd d host).shadow.flatMap (allD d)).find? (fitsD d want (host : Int)) := by
  obtain ⟨r, hr, _⟩ := h.good.tr
  have hno : ∀ x, lvD d x = true → x ∈ host :: (nd d host).kids.flatMap (allD d) → fitsD d want (host : Int) x = false := by
    intro x hx hm
    cases hf : fitsD d want (host : Int) x with
    | false => rfl
    | true =>
      unfold fitsD at hf
      simp only [Bool.and_eq_true] at hf
      have : scopeD d (x : Int) = (host : Int) := by simpa using hf.2
      exact absurd hm (scope_out h hh hs hx this)
  rw [allD_eq h hh, ← List.singleton_append, find_skip, find_drop]
  · intro x hx
    obtain ⟨c, hc, hxc⟩ := List.mem_flatMap.mp hx
    exact hno x (allD_live h (hr.1.mem host false c hc).2.1 hxc) (by simp [hx])
  · intro x hx
    rw [List.mem_singleton.mp hx]
    exact hno host hh (by simp)
end Go.Proofs.Ytookcjdibpccpab
