/-
  OWN WORK: Goo2, Goo3, Kep, Dis, Dwi, Dat, Dat2, Sta.
-/
import Derived.Test.YtookcjdibpccpaaP3
import Derived.Test.YtookcjdibpccpaaP2
import Derived.Deep.LoopGhost
import Derived.Test.YtookcjdibpccpaaP1
/-
  PLAIN MATHEMATICS: moved, removed, made.
-/
namespace Go.Proofs.Ytookcjdibpccpaa
namespace Tn

theorem put1_nd (d : Dc) (k m : Nat) (b : Int) (s : Bool) (hm : m < d.length) (j : Nat) :
    nd (put1 d k m b s) j = if j = m then setList (nd d m) s (insertAt (listOf (nd d m) s) (place (listOf (nd d m) s) b).toNat k) else nd d j := by
  unfold put1
  rw [nd_withd _ _ _ (Nat.le_of_lt hm)]

theorem put1_len (d : Dc) (k m : Nat) (b : Int) (s : Bool) (hm : m < d.length) : (put1 d k m b s).length = d.length := by
  unfold put1 withd
  rw [if_neg (by omega)]
  simp

structure PutF (d : Dc) (k m : Nat) (b : Int) (s : Bool) : Prop where
  lv : lvD (put1 d k m b s) = lvD d
  up : ∀ j, (nd (put1 d k m b s) j).up = (nd d j).up
  ins : insD (put1 d k m b s) = insD d
  attrs : ∀ j, (nd (put1 d k m b s) j).attrs = (nd d j).attrs
  li : ∀ j t, liD (put1 d k m b s) j t = if j = m ∧ t = s then insertAt (liD d m s) (place (liD d m s) b).toNat k else liD d j t
  other : ∀ j, j ≠ m → nd (put1 d k m b s) j = nd d j

theorem putF (d : Dc) (k m : Nat) (b : Int) (s : Bool) (hm : m < d.length) : PutF d k m b s := by
  have h := put1_nd d k m b s hm
  have g1 : ∀ (n : Nd) l, (setList n s l).live = n.live ∧ (setList n s l).up = n.up ∧ (setList n s l).inS = n.inS ∧ (setList n s l).attrs = n.attrs := by
    intro n l
    cases s <;> exact ⟨rfl, rfl, rfl, rfl⟩
  refine ⟨?_, ?_, ?_, ?_, ?_, ?_⟩
  · funext j
    unfold lvD
    rw [h]
    by_cases e : j = m
    · rw [if_pos e, (g1 _ _).1, e]
    · rw [if_neg e]
  · intro j
    rw [h]
    by_cases e : j = m
    · rw [if_pos e, (g1 _ _).2.1, e]
    · rw [if_neg e]
  · funext j
    unfold insD
    rw [h]
    by_cases e : j = m
    · rw [if_pos e, (g1 _ _).2.2.1, e]
    · rw [if_neg e]
  · intro j
    rw [h]
    by_cases e : j = m
    · rw [if_pos e, (g1 _ _).2.2.2, e]
    · rw [if_neg e]
  · intro j t
    unfold liD
    rw [h]
    by_cases e : j = m
    · subst e
      rw [if_pos rfl]
      by_cases e2 : t = s
      · subst e2
        rw [if_pos ⟨rfl, rfl⟩]
        unfold setList listOf
        cases t <;> rfl
      · rw [if_neg (fun x => e2 x.2)]
        unfold setList listOf
        cases t <;> cases s <;> first | rfl | exact absurd rfl e2
    · rw [if_neg e, if_neg (fun x => e x.1)]
  · intro j e
    rw [h, if_neg e]

/-- a document whose node k has been taken out, and is told to be elsewhere -/
structure Off (d d2 : Dc) (k t : Nat) (s0 : Bool) : Prop where
  len : d2.length = d.length
  lv : lvD d2 = lvD d
  up : ∀ j, j ≠ k → (nd d2 j).up = (nd d j).up
  upk : (nd d2 k).up = (t : Int)
  ins : ∀ j, j ≠ k → insD d2 j = insD d j
  insk : insD d2 k = s0
  attrs : ∀ j, (nd d2 j).attrs = (nd d j).attrs
  mem : ∀ j s x, x ∈ liD d2 j s ↔ x ∈ liD d j s ∧ x ≠ k
  nodup : ∀ j s, (liD d2 j s).Nodup
  le : ∀ j s, (liD d2 j s).length ≤ (liD d j s).length
  dead : ∀ j, lvD d2 j = false → nd d2 j = zero

theorem off_move {d : Dc} (h : Good d) {k t : Nat} (hk0 : 0 < k) (hk : lvD d k = true) : Off d (withd (takeD d k) k { nd d k with up := (t : Int), inS := false }) k t false := by
  obtain ⟨r, hr, hR⟩ := h.tr
  have hkl := lv_lt hk
  have hu := hr.1.upLive hk0 hk
  have hul := lv_lt hu
  have hup : (nd d k).up.toNat = upD d k := rfl
  have hne : upD d k ≠ k := by
    intro e
    have := hr.1.rank k hk0 hk
    rw [e] at this
    omega
  have tl : (takeD d k).length = d.length := by
    unfold takeD withd
    rw [hup, if_neg (by omega)]
    simp
  have n1 : ∀ j, nd (takeD d k) j = if j = upD d k then { nd d (upD d k) with kids := without (nd d (upD d k)).kids k, shadow := without (nd d (upD d k)).shadow k } else nd d j := by
    intro j
    unfold takeD
    rw [nd_withd _ _ _ (by rw [hup]; omega), hup]
  have n2 : ∀ j, nd (withd (takeD d k) k { nd d k with up := (t : Int), inS := false }) j = if j = k then { nd d k with up := (t : Int), inS := false } else nd (takeD d k) j := by
    intro j
    rw [nd_withd _ _ _ (by rw [tl]; omega)]
  have knot : ∀ j s, j ≠ upD d k → k ∉ liD d j s := by
    intro j s hj hm
    exact hj (hr.1.mem j s k hm).2.2.2.1.symm
  have l2 : ∀ j s, liD (withd (takeD d k) k { nd d k with up := (t : Int), inS := false }) j s = if j = upD d k then without (liD d j s) k else liD d j s := by
    intro j s
    unfold liD
    rw [n2]
    by_cases e : j = k
    · subst e
      rw [if_pos rfl, if_neg (Ne.symm hne)]
      unfold listOf
      cases s <;> rfl
    · rw [if_neg e, n1]
      by_cases e2 : j = upD d k
      · rw [if_pos e2, if_pos e2, e2]
        unfold listOf
        cases s <;> rfl
      · rw [if_neg e2, if_neg e2]
  refine ⟨?_, ?_, ?_, ?_, ?_, ?_, ?_, ?_, ?_, ?_, ?_⟩
  · unfold withd
    rw [if_neg (by omega)]
    simp [tl]
  · funext j
    unfold lvD
    rw [n2]
    by_cases e : j = k
    · rw [if_pos e, e]
    · rw [if_neg e, n1]
      by_cases e2 : j = upD d k
      · rw [if_pos e2, e2]
      · rw [if_neg e2]
  · intro j e
    rw [n2, if_neg e, n1]
    by_cases e2 : j = upD d k
    · rw [if_pos e2, e2]
    · rw [if_neg e2]
  · rw [n2, if_pos rfl]
  · intro j e
    unfold insD
    rw [n2, if_neg e, n1]
    by_cases e2 : j = upD d k
    · rw [if_pos e2, e2]
    · rw [if_neg e2]
  · unfold insD
    rw [n2, if_pos rfl]
  · intro j
    rw [n2]
    by_cases e : j = k
    · rw [if_pos e, e]
    · rw [if_neg e, n1]
      by_cases e2 : j = upD d k
      · rw [if_pos e2, e2]
      · rw [if_neg e2]
  · intro j s x
    rw [l2]
    by_cases e : j = upD d k
    · rw [if_pos e, mem_without]
    · rw [if_neg e]
      exact ⟨fun hx => ⟨hx, fun ex => knot j s e (by rw [← ex]; exact hx)⟩, fun hx => hx.1⟩
  · intro j s
    rw [l2]
    by_cases e : j = upD d k
    · rw [if_pos e]
      exact (hr.1.nodup j s).filter _
    · rw [if_neg e]
      exact hr.1.nodup j s
  · intro j s
    rw [l2]
    by_cases e : j = upD d k
    · rw [if_pos e]
      exact without_len
    · rw [if_neg e]
      exact Nat.le_refl _
  · intro j hj
    have hlj : lvD d j = false := by
      unfold lvD at hj ⊢
      rw [n2] at hj
      by_cases e : j = k
      · rw [if_pos e] at hj
        rw [e]
        exact hj
      · rw [if_neg e, n1] at hj
        by_cases e2 : j = upD d k
        · rw [if_pos e2] at hj
          rw [e2]
          exact hj
        · rw [if_neg e2] at hj
          exact hj
    have e : j ≠ k := fun e => by rw [e, hk] at hlj; cases hlj
    have e2 : j ≠ upD d k := fun e => by rw [e, hu] at hlj; cases hlj
    rw [n2, if_neg e, n1, if_neg e2]
    exact h.dead j hlj

theorem li_dead {d : Dc} (h : Good d) {j : Nat} (hj : lvD d j = false) (s : Bool) : liD d j s = [] := by
  unfold liD
  rw [h.dead j hj]
  exact li_zero s

open Classical in
/-- moved: a tree, whatever the place -/
theorem move_tr {d d2 : Dc} {r : Nat → Nat} (hr : TrD d r) {k t : Nat} {s0 : Bool} (hk0 : 0 < k) (hk : lvD d k = true) (ht : lvD d t = true) (hnd : ¬ desc (upD d) r k t) (o : Off d d2 k t s0) (b : Int) :
    TrD (put1 d2 k t b s0) (fun j => if desc (upD d) r k j then r j - r k + r t + 1 else r j) := by
  have htl : t < d2.length := by rw [o.len]; exact lv_lt ht
  have p := putF d2 k t b s0 htl
  have hkt : t ≠ k := fun e => hnd (by rw [e]; exact desc_refl _)
  have hknot : ∀ j s, k ∉ liD d2 j s := fun j s hm => ((o.mem j s k).mp hm).2 rfl
  refine ⟨hr.1.move hk0 hk ht hnd (s0 := s0) _ ?_ ?_ ?_ ?_ ?_ ?_ ?_ ?_ ?_, ?_⟩
  · intro j
    rw [p.lv, o.lv]
  · intro j e
    unfold upD
    rw [p.up, o.up j e]
  · unfold upD
    rw [p.up, o.upk]
    simp
  · intro j e
    rw [p.ins, o.ins j e]
  · rw [p.ins, o.insk]
  · intro j s x
    rw [p.li]
    by_cases e : j = t ∧ s = s0
    · rw [if_pos e, mem_insertAt, o.mem, ← e.1, ← e.2]
      constructor
      · rintro (h1 | h1)
        · exact Or.inr ⟨rfl, rfl, h1⟩
        · exact Or.inl h1
      · rintro (h1 | ⟨_, _, h1⟩)
        · exact Or.inr h1
        · exact Or.inl h1
    · rw [if_neg e, o.mem]
      exact ⟨Or.inl, fun h1 => h1.elim id (fun h2 => absurd ⟨h2.1, h2.2.1⟩ e)⟩
  · intro j s
    rw [p.li]
    by_cases e : j = t ∧ s = s0
    · rw [if_pos e]
      exact nodup_insertAt (o.nodup _ _) (hknot _ _)
    · rw [if_neg e]
      exact o.nodup j s
  · intro j hj
    show (if _ then _ else _) = _
    rw [if_pos hj]
  · intro j hj
    show (if _ then _ else _) = _
    rw [if_neg hj]
  · intro j h0 hj
    rw [p.lv, o.lv] at hj
    rw [p.up]
    by_cases e : j = k
    · rw [e, o.upk]
      omega
    · rw [o.up j e]
      exact hr.2 j h0 hj

end Tn
end Go.Proofs.Ytookcjdibpccpaa

/-
  PLAIN MATHEMATICS: what goes, goes well.
-/
namespace Go.Proofs.Ytookcjdibpccpaa
namespace Tn

theorem anc_same {lv : Nat → Bool} {up up' : Nat → Nat} {ins : Nat → Bool} {li : Nat → Bool → List Nat} {r : Nat → Nat} (h : Tr lv up ins li r) {k : Nat} (he : ∀ j, j ≠ k → up' j = up j) :
    ∀ (i j : Nat), lv j = true → r j = r k + i → anc up i j = k → anc up' i j = k
  | 0, _, _, _, ha => ha
  | i + 1, j, hj, hr, ha => by
    have hjk : j ≠ k := fun e => by rw [e] at hr; omega
    have h0 : 0 < j := h.pos (by omega)
    have hr2 := h.rank j h0 hj
    show anc up' i (up' j) = k
    rw [he j hjk]
    exact anc_same h he i (up j) (h.upLive h0 hj) (by omega) ha

theorem putE_zero {d : Dc} {k m : Nat} {b : Int} {s : Bool} (h : putE d k m b s = 0) : 0 ≤ place (liD d m s) b ∧ (liD d m s).length < 12 ∧
    ((pathOf (put1 d k m b s) k).length : Int) - 1 + (deepest fuel (put1 d k m b s) k : Int) ≤ 16 := by
  unfold putE at h
  split at h
  · cases h
  · split at h
    · cases h
    · split at h
      · cases h
      · rename_i h1 h2 h3
        exact ⟨by unfold liD; omega, by unfold liD; omega, by omega⟩

open Classical in
theorem move_mid {d d2 : Dc} (h : Good d) {k t : Nat} {s0 : Bool} (hk0 : 0 < k) (hk : lvD d k = true) (ht : lvD d t = true) (hw : within d (t : Int) (k : Int) = false) (o : Off d d2 k t s0) (b : Int) (hp : putE d2 k t b s0 = 0) : Mid (put1 d2 k t b s0) := by
  obtain ⟨r, hr, hR⟩ := h.tr
  have hnd := (within_desc hr ht h.rootUp k).mp hw
  have htl : t < d2.length := by rw [o.len]; exact lv_lt ht
  have p := putF d2 k t b s0 htl
  have hT := move_tr hr hk0 hk ht hnd o b
  obtain ⟨_, hp2, hp3⟩ := putE_zero hp
  have hup0 : (nd (put1 d2 k t b s0) 0).up = -1 := by rw [p.up, o.up 0 (by omega)]; exact h.rootUp
  have hlk : lvD (put1 d2 k t b s0) k = true := by rw [p.lv, o.lv]; exact hk
  have hpl := pathOf_len hT hlk hup0
  rw [hpl] at hp3
  have hrk : (if desc (upD d) r k k then r k - r k + r t + 1 else r k) = r t + 1 := by
    rw [if_pos (desc_refl _)]
    omega
  rw [hrk] at hp3
  refine ⟨by rw [put1_len _ _ _ _ _ htl, o.len]; exact h.len, ⟨_, hT, ?_⟩, hup0, ?_, ?_, ?_⟩
  · intro j hj
    show (if _ then _ else _) ≤ 16
    have hlj : lvD d j = true := by rw [p.lv, o.lv] at hj; exact hj
    by_cases hd : desc (upD d) r k j
    · rw [if_pos hd]
      have ha : anc (upD (put1 d2 k t b s0)) (r j - r k) j = k := by
        refine anc_same hr.1 (fun x hx => ?_) (r j - r k) j hlj (by have := hd.1; omega) hd.2
        unfold upD
        rw [p.up, o.up x hx]
      have hj16 := hR j hlj
      have ht16 := hR t ht
      have := deepest_ge hT (r j - r k) fuel k j (by show (if _ then _ else _) = (if _ then _ else _) + _; rw [hrk, if_pos hd]; omega) (by unfold fuel; omega) hj ha
      omega
    · rw [if_neg hd]
      exact hR j hlj
  · intro j hj
    rw [p.lv] at hj
    have hjt : j ≠ t := fun e => by rw [e, o.lv, ht] at hj; cases hj
    rw [p.other j hjt]
    exact o.dead j hj
  · intro j s
    rw [p.li]
    split
    · rw [len_insertAt]
      omega
    · exact Nat.le_trans (o.le j s) (h.small j s)
  · intro j
    rw [p.attrs, o.attrs]
    exact h.attrs j

theorem nd_gone : ∀ (l : List Nat) (d : Dc), (∀ x ∈ l, x < d.length) → ∀ j, nd (l.foldl (fun d k => withd d k zero) d) j = if j ∈ l then zero else nd d j
  | [], d, _, j => by simp
  | a :: l, d, h, j => by
    have ha := h a (by simp)
    have hl : (withd d a zero).length = d.length := by unfold withd; rw [if_neg (by omega)]; simp
    rw [List.foldl_cons, nd_gone l _ (fun x hx => by rw [hl]; exact h x (by simp [hx])), nd_withd _ _ _ (Nat.le_of_lt ha)]
    by_cases h1 : j ∈ l
    · rw [if_pos h1, if_pos (by simp [h1])]
    · rw [if_neg h1]
      by_cases h2 : j = a
      · rw [if_pos h2, if_pos (by simp [h2])]
      · rw [if_neg h2, if_neg (by simp [h1, h2])]
theorem len_gone : ∀ (l : List Nat) (d : Dc), (∀ x ∈ l, x < d.length) → (l.foldl (fun d k => withd d k zero) d).length = d.length
  | [], _, _ => rfl
  | a :: l, d, h => by
    have ha := h a (by simp)
    have hl : (withd d a zero).length = d.length := by unfold withd; rw [if_neg (by omega)]; simp
    rw [List.foldl_cons, len_gone l _ (fun x hx => by rw [hl]; exact h x (by simp [hx])), hl]

theorem all_lt' {d : Dc} {r : Nat → Nat} (hr : TrD d r) {f n j : Nat} (hn : lvD d n = true) (h : j ∈ all f d n) : j < d.length := lv_lt (all_desc hr f n j h hn).1

theorem remove_mid {d : Dc} (h : Good d) {k : Nat} (hk0 : 0 < k) (hk : lvD d k = true) : Mid ((all fuel d k).foldl (fun d k => withd d k zero) (takeD d k)) := by
  obtain ⟨r, hr, hR⟩ := h.tr
  have o := off_move h (t := 0) hk0 hk
  have hkl := lv_lt hk
  have tl : (takeD d k).length = d.length := by
    have h1 := o.len
    unfold withd at h1
    split at h1
    · rename_i e
      have := hr.1.upLive hk0 hk
      have hu := lv_lt this
      unfold takeD withd at e
      rw [if_neg (by have : (nd d k).up.toNat = upD d k := rfl
                     omega)] at e
      simp at e
      omega
    · simpa using h1
  have hmem : ∀ j, j ∈ all fuel d k ↔ lvD d j = true ∧ desc (upD d) r k j := by
    intro j
    constructor
    · intro hj
      exact all_desc hr fuel k j hj hk
    · rintro ⟨h1, h2, h3⟩
      have := hR j h1
      exact desc_all hr (r j - r k) fuel k j (by omega) (by unfold fuel; omega) hk h1 h3
  have hlt : ∀ x ∈ all fuel d k, x < (takeD d k).length := fun x hx => by rw [tl]; exact all_lt' hr hk hx
  have hkm : k ∈ all fuel d k := (hmem k).mpr ⟨hk, desc_refl _⟩
  have hn : ∀ j, nd ((all fuel d k).foldl (fun d k => withd d k zero) (takeD d k)) j = if j ∈ all fuel d k then zero else nd (withd (takeD d k) k { nd d k with up := ((0 : Nat) : Int), inS := false }) j := by
    intro j
    rw [nd_gone _ _ hlt]
    by_cases e : j ∈ all fuel d k
    · rw [if_pos e, if_pos e]
    · rw [if_neg e, if_neg e, nd_withd _ _ _ (by rw [tl]; omega), if_neg (fun x => e (by rw [x]; exact hkm))]
  have hl := len_gone _ _ hlt
  generalize hD : (all fuel d k).foldl (fun d k => withd d k zero) (takeD d k) = D at *
  generalize hd2 : withd (takeD d k) k { nd d k with up := ((0 : Nat) : Int), inS := false } = d2 at *
  have hlv : ∀ j, lvD D j = true ↔ lvD d j = true ∧ ¬ desc (upD d) r k j := by
    intro j
    unfold lvD
    rw [hn]
    by_cases e : j ∈ all fuel d k
    · rw [if_pos e]
      have := (hmem j).mp e
      exact ⟨fun x => by simp [zero] at x, fun x => absurd this.2 x.2⟩
    · rw [if_neg e]
      have : (nd d2 j).live = lvD d j := by show lvD d2 j = _; rw [o.lv]
      rw [this]
      exact ⟨fun x => ⟨x, fun y => e ((hmem j).mpr ⟨x, y⟩)⟩, fun x => x.1⟩
  have hin : ∀ j, lvD D j = true → j ∉ all fuel d k := fun j hj hm => ((hlv j).mp hj).2 ((hmem j).mp hm).2
  have hjk : ∀ j, j ∉ all fuel d k → j ≠ k := fun j hj e => hj (by rw [e]; exact hkm)
  have hli : ∀ u s, liD D u s = if u ∈ all fuel d k then [] else liD d2 u s := by
    intro u s
    unfold liD
    rw [hn]
    split
    · exact li_zero s
    · rfl
  have h0n : 0 ∉ all fuel d k := fun hm => by
    have := hr.1.descRoot ((hmem 0).mp hm).2
    omega
  refine ⟨by rw [hl, tl]; exact h.len, ⟨r, ⟨hr.1.remove hk0 hlv ?_ ?_ ?_ ?_, ?_⟩, ?_⟩, ?_, ?_, ?_, ?_⟩
  · intro j hj
    unfold upD
    rw [hn, if_neg (hin j hj), o.up j (hjk j (hin j hj))]
  · intro j hj
    unfold insD
    rw [hn, if_neg (hin j hj)]
    exact o.ins j (hjk j (hin j hj))
  · intro u s x
    rw [hli]
    by_cases e : u ∈ all fuel d k
    · rw [if_pos e]
      exact ⟨fun hx => by simp at hx, fun hx => absurd e (hin u hx.1)⟩
    · rw [if_neg e, o.mem]
      constructor
      · intro hx
        refine ⟨(hlv u).mpr ⟨(hr.1.mem u s x hx.1).1, fun hd => e ((hmem u).mpr ⟨(hr.1.mem u s x hx.1).1, hd⟩)⟩, hx⟩
      · exact fun hx => hx.2
  · intro u s
    rw [hli]
    split
    · simp
    · exact o.nodup u s
  · intro j h0 hj
    rw [hn, if_neg (hin j hj), o.up j (hjk j (hin j hj))]
    exact hr.2 j h0 ((hlv j).mp hj).1
  · intro j hj
    exact hR j ((hlv j).mp hj).1
  · rw [hn, if_neg h0n, o.up 0 (by omega)]
    exact h.rootUp
  · intro j hj
    rw [hn]
    split
    · rfl
    · rename_i e
      apply o.dead
      unfold lvD at hj
      rw [hn, if_neg e] at hj
      exact hj
  · intro j s
    rw [hli]
    split
    · simp
    · exact Nat.le_trans (o.le j s) (h.small j s)
  · intro j
    rw [hn]
    split
    · simp [zero]
    · rw [o.attrs]
      exact h.attrs j

/-- a new node -/
structure New (n : Nd) : Prop where
  kids : n.kids = []
  shadow : n.shadow = []
  attrs : n.attrs = []

theorem make_tr {d : Dc} (h : Good d) {r : Nat → Nat} (hr : TrD d r) {n : Nd} (hn : New n) {m : Nat} (hm : lvD d m = true) (b : Int) (s : Bool) :
    TrD (put1 (withd d (free d) (made n m s)) (free d) m b s) (fun j => if j = free d then r m + 1 else r j) := by
  obtain ⟨hf1, hf2⟩ := free_spec d
  have hml := lv_lt hm
  have hmk : m ≠ free d := fun e => by rw [e, hf2] at hm; cases hm
  have hnd := nd_withd d (free d) (made n m s) hf1
  have hml2 : m < (withd d (free d) (made n m s)).length := by unfold withd; split <;> simp <;> omega
  have p := putF (withd d (free d) (made n m s)) (free d) m b s hml2
  have hli : ∀ j t, liD (withd d (free d) (made n m s)) j t = liD d j t := by
    intro j t
    unfold liD
    rw [hnd]
    by_cases e : j = free d
    · rw [if_pos e, e, h.dead _ hf2, li_zero]
      unfold made listOf
      rw [hn.kids, hn.shadow]
      cases t <;> rfl
    · rw [if_neg e]
  have hknot : ∀ j t, free d ∉ liD d j t := fun j t hx => by
    have := (hr.1.mem j t _ hx).2.1
    rw [hf2] at this
    cases this
  refine ⟨hr.1.make hf2 hm (s0 := s) _ ?_ ?_ ?_ ?_ ?_ ?_ ?_ ?_ ?_ ?_, ?_⟩
  · intro j e
    rw [p.lv]
    unfold lvD
    rw [hnd, if_neg e]
  · rw [p.lv]
    unfold lvD
    rw [hnd, if_pos rfl]
    rfl
  · intro j e
    unfold upD
    rw [p.up, hnd, if_neg e]
  · unfold upD
    rw [p.up, hnd, if_pos rfl]
    simp [made]
  · intro j e
    rw [p.ins]
    unfold insD
    rw [hnd, if_neg e]
  · rw [p.ins]
    unfold insD
    rw [hnd, if_pos rfl]
    rfl
  · intro j t x
    rw [p.li]
    by_cases e : j = m ∧ t = s
    · rw [if_pos e, mem_insertAt, hli, ← e.1, ← e.2]
      constructor
      · rintro (h1 | h1)
        · exact Or.inr ⟨rfl, rfl, h1⟩
        · exact Or.inl h1
      · rintro (h1 | ⟨_, _, h1⟩)
        · exact Or.inr h1
        · exact Or.inl h1
    · rw [if_neg e, hli]
      exact ⟨Or.inl, fun h1 => h1.elim id (fun h2 => absurd ⟨h2.1, h2.2.1⟩ e)⟩
  · intro j t
    rw [p.li]
    by_cases e : j = m ∧ t = s
    · rw [if_pos e, hli]
      exact nodup_insertAt (hr.1.nodup _ _) (hknot _ _)
    · rw [if_neg e, hli]
      exact hr.1.nodup j t
  · show (if _ then _ else _) = _
    rw [if_pos rfl]
  · intro j e
    show (if _ then _ else _) = _
    rw [if_neg e]
  · intro j h0 hj
    rw [p.up, hnd]
    by_cases e : j = free d
    · rw [if_pos e]
      simp [made]
    · rw [if_neg e]
      rw [p.lv] at hj
      unfold lvD at hj
      rw [hnd, if_neg e] at hj
      exact hr.2 j h0 hj

theorem make_mid {d : Dc} (h : Good d) {n : Nd} (hn : New n) {m : Nat} (hm : lvD d m = true) (b : Int) (s : Bool) (hf : free d < 60) (hp : putE (withd d (free d) (made n m s)) (free d) m b s = 0) : Mid (put1 (withd d (free d) (made n m s)) (free d) m b s) := by
  obtain ⟨r, hr, hR⟩ := h.tr
  have hT := make_tr h hr hn hm b s
  obtain ⟨hf1, hf2⟩ := free_spec d
  have hml := lv_lt hm
  have hnd := nd_withd d (free d) (made n m s) hf1
  have hml2 : m < (withd d (free d) (made n m s)).length := by unfold withd; split <;> simp <;> omega
  have p := putF (withd d (free d) (made n m s)) (free d) m b s hml2
  have hf0 : free d ≠ 0 := fun e => by rw [e, hr.1.root] at hf2; cases hf2
  obtain ⟨_, hp2, hp3⟩ := putE_zero hp
  have hup0 : (nd (put1 (withd d (free d) (made n m s)) (free d) m b s) 0).up = -1 := by rw [p.up, hnd, if_neg (Ne.symm hf0)]; exact h.rootUp
  have hlk : lvD (put1 (withd d (free d) (made n m s)) (free d) m b s) (free d) = true := by
    rw [p.lv]
    unfold lvD
    rw [hnd, if_pos rfl]
    rfl
  have hpl := pathOf_len hT hlk hup0
  rw [hpl] at hp3
  have hrk : (if free d = free d then r m + 1 else r (free d)) = r m + 1 := by
    rw [if_pos rfl]
  rw [hrk] at hp3
  have hli : ∀ j t, liD (withd d (free d) (made n m s)) j t = liD d j t := by
    intro j t
    unfold liD
    rw [hnd]
    by_cases e : j = free d
    · rw [if_pos e, e, h.dead _ hf2, li_zero]
      unfold made listOf
      rw [hn.kids, hn.shadow]
      cases t <;> rfl
    · rw [if_neg e]
  refine ⟨?_, ⟨_, hT, ?_⟩, hup0, ?_, ?_, ?_⟩
  · rw [put1_len _ _ _ _ _ hml2]
    have := h.len
    unfold withd
    split <;> simp <;> omega
  · intro j hj
    show (if _ then _ else _) ≤ 16
    by_cases e : j = free d
    · rw [if_pos e]
      omega
    · rw [if_neg e]
      rw [p.lv] at hj
      unfold lvD at hj
      rw [hnd, if_neg e] at hj
      exact hR j hj
  · intro j hj
    rw [p.lv] at hj
    unfold lvD at hj
    have hjm : j ≠ m := fun e => by
      rw [hnd, e, if_neg (fun x => by rw [← x, hm] at hf2; cases hf2)] at hj
      have : (nd d m).live = true := hm
      rw [this] at hj
      cases hj
    rw [p.other j hjm, hnd]
    rw [hnd] at hj
    by_cases e : j = free d
    · rw [if_pos e] at hj
      cases hj
    · rw [if_neg e] at hj ⊢
      exact h.dead j hj
  · intro j t
    rw [p.li]
    split
    · rw [len_insertAt]
      omega
    · rw [hli]
      exact h.small j t
  · intro j
    rw [p.attrs, hnd]
    split
    · show n.attrs.length ≤ 8
      rw [hn.attrs]
      simp
    · exact h.attrs j

end Tn
end Go.Proofs.Ytookcjdibpccpaa

/-
  DOCUMENTS STAY AS THEY ARE, whatever the changes: the reference's Build, whole.
-/
namespace Go.Proofs.Ytookcjdibpccpaa
open Tn

theorem newN_new (x : Chg) : New (newN x) := by
  unfold newN
  split <;> exact ⟨rfl, rfl, rfl⟩

theorem off_le (l : List At) (nm : ByteArray) : (attrsOff l nm).length ≤ l.length := List.length_filter_le _ _

theorem good_root : Tn.Good [root] := by
  have h0 : nd [root] 0 = root := rfl
  have h1 : ∀ j, 0 < j → nd [root] j = zero := by
    intro j hj
    exact nd_far (by simp; omega)
  have hli : ∀ j s, liD [root] j s = [] := by
    intro j s
    unfold liD
    cases j with
    | zero => rw [h0]; cases s <;> rfl
    | succ j => rw [h1 _ (by omega)]; exact li_zero s
  have hlv : ∀ j, 0 < j → lvD [root] j = false := by
    intro j hj
    unfold lvD
    rw [h1 j hj]
    rfl
  refine ⟨by simp, ⟨fun _ => 0, ⟨⟨rfl, ?_, ?_, ?_, ?_, rfl⟩, ?_⟩, fun _ _ => Nat.zero_le _⟩, rfl, ?_, ?_, ?_, rfl⟩
  · intro u s k hk
    rw [hli] at hk
    simp at hk
  · intro k h0 hk
    rw [hlv k h0] at hk
    cases hk
  · intro u s
    rw [hli]
    simp
  · intro k h0 hk
    rw [hlv k h0] at hk
    cases hk
  · intro k h0 hk
    rw [hlv k h0] at hk
    cases hk
  · intro k hk
    cases k with
    | zero => cases hk
    | succ k => exact h1 _ (by omega)
  · intro k s
    rw [hli]
    simp
  · intro k
    cases k with
    | zero => rw [h0]; simp [root]
    | succ k => rw [h1 _ (by omega)]; simp [zero]

theorem chg_mid {d : Dc} (h : Tn.Good d) (x : Chg) (hi : isN d x.node false = true) (he : chgE d x = 0) : Tn.Mid (chgD d x) := by
  obtain ⟨k, hkn, hkl, hlv⟩ := isN_nat hi
  have hk : lvD d k = true := hlv
  have hkt : x.node.toNat = k := by omega
  unfold chgE at he
  unfold chgD
  by_cases e3 : x.kind = 3
  · rw [if_pos e3] at he ⊢
    unfold moveE at he
    split at he
    · cases he
    · rename_i g1
      have g2 : ¬ x.node = 0 ∧ isN d x.to true = true := by
        constructor
        · exact fun e => g1 (Or.inl e)
        · cases hb : isN d x.to true with
          | true => rfl
          | false => exact absurd (Or.inr hb) g1
      obtain ⟨t, htn, htl, htlv⟩ := isN_nat g2.2
      have htt : x.to.toNat = t := by omega
      split at he
      · cases he
      · rename_i g3
        split at he
        · cases he
        · unfold moveD
          rw [hkt, htt, htn] at he ⊢
          rw [htn, hkn] at g3
          exact move_mid h (by omega) hk htlv (by simpa using g3) (off_move h (by omega) hk) _ he
  · rw [if_neg e3] at he ⊢
    by_cases e4 : x.kind = 4
    · rw [if_pos e4] at he ⊢
      split at he
      · cases he
      · unfold removeD
        rw [hkt]
        exact remove_mid h (by omega) hk
    · rw [if_neg e4] at he ⊢
      by_cases e7 : x.kind = 7
      · rw [if_pos e7]
        unfold sayD
        rw [hkt]
        exact (good_same h hkl (n := { nd d k with text := x.value }) rfl rfl rfl rfl rfl hk (h.attrs k)).mid
      · rw [if_neg e7] at he ⊢
        split at he
        · cases he
        · by_cases e5 : x.kind = 5
          · rw [if_pos e5] at he ⊢
            unfold attrE at he
            split at he
            · cases he
            · split at he
              · cases he
              · split at he
                · cases he
                · rename_i g
                  unfold attrD
                  rw [hkt] at g ⊢
                  exact (good_same h hkl (n := { nd d k with attrs := attrsD (nd d k).attrs x.name x.value }) rfl rfl rfl rfl rfl hk (by simpa using g)).mid
          · rw [if_neg e5] at he ⊢
            by_cases e6 : x.kind = 6
            · rw [if_pos e6]
              unfold clearD
              rw [hkt]
              exact (good_same h hkl (n := { nd d k with attrs := attrsOff (nd d k).attrs x.name }) rfl rfl rfl rfl rfl hk (Nat.le_trans (off_le _ _) (h.attrs k))).mid
            · rw [if_neg e6] at he ⊢
              by_cases e8 : x.kind = 8
              · rw [if_pos e8]
                unfold shadD
                rw [hkt]
                exact (good_same h hkl (n := { nd d k with hasS := true }) rfl rfl rfl rfl rfl hk (h.attrs k)).mid
              · rw [if_neg e8] at he ⊢
                unfold makeE at he
                split at he
                · cases he
                · split at he
                  · cases he
                  · split at he
                    · cases he
                    · split at he
                      · cases he
                      · rename_i g
                        unfold makeD mk1
                        unfold mk1 at he
                        rw [hkt] at he ⊢
                        exact make_mid h (newN_new x) hk _ _ (by omega) he

theorem good_step {d : Dc} (h : Tn.Good d) (x : Chg) : Tn.Good (Tn.step d x) := by
  unfold Tn.step
  split
  · rename_i he
    unfold applyE at he
    split at he
    · cases he
    · split at he
      · cases he
      · rename_i g
        exact good_trim (chg_mid h x (by simpa using g) he)
  · exact h

theorem few_of {d : Dc} (h : Tn.Good d) (f n : Nat) : (all f d n).length ≤ 1000 := by
  obtain ⟨r, hr, hR⟩ := h.tr
  cases hn : lvD d n with
  | true =>
    have h1 := nodup_le d.length _ (all_nodup hr f n hn) (fun x hx => all_lt' hr hn hx)
    have := h.len
    omega
  | false =>
    cases f with
    | zero => simp [all]
    | succ f => rw [all, if_neg (by rw [isN_iff, hn]; simp)]; simp

open Classical in
theorem good_ok {d : Dc} (h : Tn.Good d) (x : Chg) (k : Nat) (hkn : x.node = (k : Int)) (hi : isN d (k : Int) false = true) : ChOK d x k := by
  obtain ⟨r, hr, hR⟩ := h.tr
  have hk : lvD d k = true := by rw [← isN_iff]; exact hi
  have hkt : x.node.toNat = k := by omega
  obtain ⟨hf1, hf2⟩ := free_spec d
  refine ⟨?_, ?_, ?_, few_of h, ?_, ?_, ?_, ?_⟩
  · intro h0
    have := hr.2 k (by omega) hk
    exact ⟨upD d k, by unfold upD; omega, lv_lt (hr.1.upLive (by omega) hk)⟩
  · intro j
    have h1 := h.small j false
    have h2 := h.small j true
    unfold liD listOf at h1 h2
    simp at h1 h2
    omega
  · have := h.attrs k
    omega
  · exact ends_of hr hR fuel k hk (by unfold fuel; omega)
  · intro _ h0 hto hw
    obtain ⟨t, htn, htl, htlv⟩ := isN_nat hto
    have htt : x.to.toNat = t := by omega
    have ht : lvD d t = true := htlv
    rw [htn, hkn] at hw
    have hnd := (within_desc hr ht h.rootUp k).mp hw
    unfold moveD
    rw [hkt, htt, htn]
    have o := off_move h (t := t) (by omega) hk
    have hT := move_tr hr (by omega) hk ht hnd o x.before
    have htl2 : t < (withd (takeD d k) k { nd d k with up := (t : Int), inS := false }).length := by rw [o.len]; exact htl
    have p := putF _ k t x.before false htl2
    refine ends_of hT (R := 40) ?_ fuel k (by rw [p.lv, o.lv]; exact hk) (by unfold fuel; omega)
    intro j hj
    rw [p.lv, o.lv] at hj
    have h1 := hR j hj
    have h2 := hR t ht
    have g1 : r j - r k + r t + 1 ≤ 40 := by omega
    have g2 : r j ≤ 40 := by omega
    show (if _ then _ else _) ≤ 40
    split
    · exact g1
    · exact g2
  · intro j
    unfold mk1
    rw [nd_withd _ _ _ hf1]
    split
    · have hn := newN_new x
      unfold made
      simp only [hn.kids, hn.shadow]
      simp
    · have h1 := h.small j false
      have h2 := h.small j true
      unfold liD listOf at h1 h2
      simp at h1 h2
      omega
  · unfold makeD mk1
    rw [hkt]
    have hT := make_tr h hr (newN_new x) hk (bef x) (isSh x)
    have hml2 : k < (withd d (free d) (made (newN x) k (isSh x))).length := by have := lv_lt hk; unfold withd; split <;> simp <;> omega
    have p := putF (withd d (free d) (made (newN x) k (isSh x))) (free d) k (bef x) (isSh x) hml2
    have hnd := nd_withd d (free d) (made (newN x) k (isSh x)) hf1
    refine ends_of hT (R := 40) ?_ fuel (free d) ?_ (by unfold fuel; omega)
    · intro j hj
      show (if _ then _ else _) ≤ 40
      have h2 := hR k hk
      have g1 : r k + 1 ≤ 40 := by omega
      split
      · exact g1
      · rename_i e
        rw [p.lv] at hj
        unfold lvD at hj
        rw [hnd, if_neg e] at hj
        have g2 := hR j hj
        exact Nat.le_trans g2 (by decide)
    · rw [p.lv]
      unfold lvD
      rw [hnd, if_pos rfl]
      rfl

theorem kept_good : Kept Tn.Good :=
  ⟨good_root, fun _ x h => good_step h x, fun _ h => ⟨h.len.1, by have := h.len.2; omega⟩, fun _ x k h hk hi => good_ok h x k hk hi, fun _ x h hi he => (chg_mid h x hi he).len.1⟩

/-- the reference's Build tells the document of its changes, and it is good -/
theorem rbuild_good {w : World} {vl : Value} {l : List Chg} (hl : ChgsAt w vl l) (hsz : ∀ x ∈ l, x.value.size ≤ 4194304 ∧ x.name.size ≤ 4194304) :
    Calls Try.prog 22 #[vl] w fun e w' => ∃ g c rs, e = .returned (.slice (some ⟨g, 0, none⟩) rs.length c) ∧ DocAt w' g 0 c rs (Tn.build l) ∧ Go.RowKit.Below w.heap.size w w' := rbuild_any kept_good hl hsz
theorem build_good (l : List Chg) : Tn.Good (Tn.build l) := kept_good.build l

end Go.Proofs.Ytookcjdibpccpaa

/-
  THE WALKS of dom.Is, Within, Deep, Scope.
-/
namespace Go.Proofs.Ytookcjdibpccpaa
open Go.RowKit

set_option maxHeartbeats 800000 in
theorem dis_any {w : World} {b o c : Nat} {rs : List Raw} {d : Tn.Dc} (hd : DocAt w b o c rs d) (n : Int) (el : Bool) :
    Calls Try.prog 26 #[.slice (some ⟨b, o, none⟩) rs.length c, .int .i64 n, .bool el] w fun e w' => e = .returned (.bool (Tn.isN d n el)) ∧ w' = w := by
  have H : Hid (DocAt w b o c rs d) := hd
  clear hd
  by_cases hn : 0 ≤ n
  · obtain ⟨k, rfl⟩ := Int.eq_ofNat_of_zero_le hn
    by_cases hk : k < rs.length
    · have h0 := H.out.row.c0 k hk
      have h1 := H.out.row.c1 k hk
      have hk' : k < d.length := by rw [← H.out.len]; exact hk
      have E : Hid (Tn.isN d (k : Int) el = (rs[k].live && (!el || !rs[k].tag.toList.isEmpty))) := by
        unfold Tn.isN
        rw [Int.toNat_natCast, nd_at hk', (H.out.nds k hk hk').live, (H.out.nds k hk hk').tag]
        simp [hk', Tn.has, Hid]
      generalize rs[k].live = lv at *
      generalize rs[k].tag = tg at *
      go_enter Try.func26, Try.ntmps26
      cases lv <;> cases el <;> go_wp2 <;> go_ret <;> exact ⟨by rw [E.out]; simp, rfl⟩
    · have E : Hid (Tn.isN d (k : Int) el = false) := by
        unfold Tn.isN
        have := H.out.len
        simp [Hid]
        omega
      go_enter Try.func26, Try.ntmps26
      go_wp2
      go_ret
      exact ⟨by rw [E.out]; rfl, rfl⟩
  · have E : Hid (Tn.isN d n el = false) := by
      unfold Tn.isN
      simp [hn, Hid]
    go_enter Try.func26, Try.ntmps26
    go_wp2
    go_ret
    exact ⟨by rw [E.out]; rfl, rfl⟩

set_option maxHeartbeats 800000 in
theorem within1_any {w : World} {G F : Nat} {m : Int} {x : Bool} (hG : w.cell? ⟨G, 0, none⟩ = some (.int .i64 m)) (hF : w.cell? ⟨F, 0, none⟩ = some (.bool x)) (hf : w.frozen? ⟨F, 0, none⟩ = false) (j : Int) :
    Calls Try.prog 50 #[.int .i64 j, .pointer (some ⟨G, 0, none⟩), .pointer (some ⟨F, 0, none⟩)] w fun e w' => e = .returned (.bool (!(j == m))) ∧ w' = w.setCell ⟨F, 0, none⟩ (.bool (j == m)) := by
  have hs : (w.setCell ⟨F, 0, none⟩ (.bool (j == m))).cell? ⟨F, 0, none⟩ = some (.bool (j == m)) := World.cell?_setCell_same _ _ _ hF
  go_enter Try.func50, Try.ntmps50
  go_wp2_with fail
  go_ret
  exact ⟨rfl, rfl⟩

set_option maxHeartbeats 800000 in
theorem climb_within {w : World} {b o c : Nat} {rs : List Raw} {d : Tn.Dc} {G F : Nat} {n m : Int} (hd : DocAt w b o c rs d) (hoff : DocOff F b rs) (hGF : G ≠ F) (hG : w.cell? ⟨G, 0, none⟩ = some (.int .i64 m)) (hF : w.cell? ⟨F, 0, none⟩ = some (.bool false))
    (hf : w.frozen? ⟨F, 0, none⟩ = false) (hp : (Tn.pathOf d n).length ≤ d.length) :
    Calls Try.prog 49 #[.slice (some ⟨b, o, none⟩) rs.length c, .int .i64 n, .func (.func 50) #[] #[.pointer (some ⟨G, 0, none⟩), .pointer (some ⟨F, 0, none⟩)]] w fun e w' =>
      e = .returned (.tuple #[]) ∧ w'.cell? ⟨F, 0, none⟩ = some (.bool (Tn.within d n m)) ∧ Below F w w' := by
  have L : Hid (rs.length = d.length) := hd.len
  go_enter Try.func49, Try.ntmps49
  go_wp2_with fail
  go_loopg [1] (d.length + 1) (fun f nv wr => ∃ (q : Int) (l : List Nat), nv = .int .i64 q ∧ l.length + f = d.length + 1 ∧ Hid (Tn.pathOf d n = l ++ Tn.path f d q) ∧ Hid (l.any (fun k => decide ((k : Int) = m)) = false) ∧
      DocAt wr b o c rs d ∧ wr.cell? ⟨G, 0, none⟩ = some (.int .i64 m) ∧ wr.cell? ⟨F, 0, none⟩ = some (.bool false) ∧ wr.frozen? ⟨F, 0, none⟩ = false ∧ Below F w wr)
  case atStart => exact ⟨n, [], rfl, by simp, by show _ = _; rfl, by show _ = _; rfl, hd, hG, hF, hf, Below.refl _ _⟩
  case round =>
    clear hd hG hF hf
    obtain ⟨q, l, rfl, hl, P, A, hd, hG, hF, hf, hnx⟩ := hrel
    have D : Hid (DocAt wr b o c rs d) := hd
    clear hd
    cases his : Tn.isN d q false with
    | false =>
      have E : Hid (Tn.within d n m = false) := by
        show _ = _
        unfold Tn.within
        rw [P.out]
        cases gk with
        | zero => rw [Tn.path, List.append_nil]; exact A.out
        | succ f => rw [path_succ_no _ _ _ his, List.append_nil]; exact A.out
      go_wp2_with (go_at_call 26; refine (dis_any D.out _ _).mono ?_; rintro e w' ⟨rfl, hww⟩; subst hww; rw [his])
      go_end0
      exact ⟨rfl, by rw [E.out]; exact hF, hnx⟩
    | true =>
      obtain ⟨k, rfl, hk, hlv⟩ := isN_nat his
      have hk' : k < rs.length := by have := L.out; omega
      obtain ⟨g, rfl⟩ : ∃ g, gk = g + 1 := by
        cases gk with
        | zero =>
          have h1 := P.out
          rw [Tn.path, List.append_nil] at h1
          rw [h1] at hp
          omega
        | succ g => exact ⟨g, rfl⟩
      have hup : (Tn.nd d k).up = rs[k].up := by rw [nd_at hk]; exact (D.out.nds k hk' hk).up.symm
      have P2 : Hid (Tn.pathOf d n = (l ++ [k]) ++ Tn.path g d rs[k].up) := by
        show _ = _
        rw [P.out, path_succ_yes _ _ _ his, hup]
        simp
      clear hup hlv
      by_cases hkm : (k : Int) = m
      · have hq : ((k : Int) == m) = true := by simp [hkm]
        have E : Hid (Tn.within d n m = true) := by
          show _ = _
          unfold Tn.within
          rw [P2.out]
          simp [hkm]
        have hC := within1_any hG hF hf (k : Int)
        rw [hq] at hC
        have hs : (wr.setCell ⟨F, 0, none⟩ (.bool true)).cell? ⟨F, 0, none⟩ = some (.bool true) := World.cell?_setCell_same _ _ _ hF
        clear hkm hq
        go_wp2_with (first
          | (go_at_call 26; refine (dis_any D.out _ _).mono ?_; rintro e w' ⟨rfl, hww⟩; subst hww; rw [his])
          | (go_at_call 50; refine hC.mono ?_; rintro e w2 ⟨rfl, hw2⟩; subst hw2))
        go_end0
        exact ⟨rfl, by rw [E.out]; exact hs, hnx.setCell (Nat.le_refl _) _⟩
      · have hq : ((k : Int) == m) = false := by simp [hkm]
        have A2 : Hid ((l ++ [k]).any (fun k => decide ((k : Int) = m)) = false) := by
          show _ = _
          rw [List.any_append, A.out]
          simp [hkm]
        have hC := within1_any hG hF hf (k : Int)
        rw [hq] at hC
        have hs : (wr.setCell ⟨F, 0, none⟩ (.bool false)).cell? ⟨F, 0, none⟩ = some (.bool false) := World.cell?_setCell_same _ _ _ hF
        have hsG : (wr.setCell ⟨F, 0, none⟩ (.bool false)).cell? ⟨G, 0, none⟩ = some (.int .i64 m) := by
          rw [World.cell?_setCell_other _ _ _ _ (by intro e; cases e; exact hGF rfl)]
          exact hG
        have hsf : (wr.setCell ⟨F, 0, none⟩ (.bool false)).frozen? ⟨F, 0, none⟩ = false := by simpa using hf
        have D2 : Hid (DocAt (wr.setCell ⟨F, 0, none⟩ (.bool false)) b o c rs d) := doc_off D.out hoff
        have h4 := D2.out.row.c4 k hk'
        have B2 := hnx.setCell (p := ⟨F, 0, none⟩) (Nat.le_refl _) (.bool false)
        clear hkm hq
        go_wp2_with (first
          | (go_at_call 26; refine (dis_any D.out _ _).mono ?_; rintro e w' ⟨rfl, hww⟩; subst hww; rw [his])
          | (go_at_call 50; refine hC.mono ?_; rintro e w2 ⟨rfl, hw2⟩; subst hw2))
        go_roundg g
        case rel => exact ⟨_, l ++ [k], rfl, by simp; omega, P2, A2, D2.out, hsG, hs, hsf, B2⟩
        case measure => omega
end Go.Proofs.Ytookcjdibpccpaa

/-
  THE WALKS of dom.Within, Deep and Scope.
-/
namespace Go.Proofs.Ytookcjdibpccpaa
open Go.RowKit

/-- documents in which all roads end -/
structure Tame (d : Tn.Dc) : Prop where
  len : 0 < d.length ∧ d.length ≤ 100
  path : ∀ n : Int, (Tn.pathOf d n).length ≤ d.length
  few : ∀ f n, (Tn.all f d n).length ≤ d.length
  ends : ∀ k, Tn.lvD d k = true → Tn.Ends Tn.fuel d k

theorem tame_of {d : Tn.Dc} {r : Nat → Nat} (hr : Tn.TrD d r) (hR : ∀ k, Tn.lvD d k = true → r k ≤ 50) (h0 : (Tn.nd d 0).up = -1) (hl : 0 < d.length ∧ d.length ≤ 100) : Tame d := by
  refine ⟨hl, ?_, ?_, ?_⟩
  · intro n
    cases hn : Tn.isN d n false with
    | false =>
      unfold Tn.pathOf
      rw [path_succ_no _ _ _ hn]
      simp
    | true =>
      obtain ⟨k, rfl, hk, hlv⟩ := isN_nat hn
      rw [Tn.pathOf_len hr hlv h0]
      exact Tn.rank_lt hr hlv
  · intro f n
    cases hn : Tn.lvD d n with
    | true => exact Tn.nodup_le d.length _ (Tn.all_nodup hr f n hn) (fun x hx => Tn.all_lt' hr hn hx)
    | false =>
      cases f with
      | zero => simp [Tn.all]
      | succ f => rw [Tn.all, if_neg (by rw [Tn.isN_iff, hn]; simp)]; simp
  · intro k hk
    exact Tn.ends_of hr hR Tn.fuel k hk (by unfold Tn.fuel; omega)
theorem tame_good {d : Tn.Dc} (h : Tn.Good d) : Tame d := by
  obtain ⟨r, hr, hR⟩ := h.tr
  exact tame_of hr (fun k hk => Nat.le_trans (hR k hk) (by decide)) h.rootUp ⟨h.len.1, by have := h.len.2; omega⟩

set_option maxHeartbeats 800000 in
theorem dwithin_any {w : World} {b o c : Nat} {rs : List Raw} {d : Tn.Dc} (hd : DocAt w b o c rs d) (hg : Tame d) (n m : Int) :
    Calls Try.prog 28 #[.slice (some ⟨b, o, none⟩) rs.length c, .int .i64 n, .int .i64 m] w fun e w' => e = .returned (.bool (Tn.within d n m)) ∧ Below w.heap.size w w' := by
  have h0 : 0 < rs.length := by rw [hd.len]; exact hg.len.1
  have hoff : DocOff (w.heap.size + 1) b rs := doc_old hd h0 (by omega)
  have hd2 := hd.keeps (keeps_alloc' (.cells #[.bool false] 4) (keeps_alloc w (.cells #[.int .i64 m] 3)))
  have hC := climb_within (n := n) (m := m) (G := w.heap.size) (F := w.heap.size + 1) hd2 hoff (by omega) (by rw [World.cell?_alloc2_first]; rfl) (by rw [World.cell?_alloc2_new]; rfl)
    (by have := box_frozen (w.alloc (.cells #[.int .i64 m] 3)) #[.bool false] 4 0
        rw [show (w.alloc (.cells #[.int .i64 m] 3)).heap.size = w.heap.size + 1 by simp] at this
        exact this) (hg.path n)
  have B0 : Below w.heap.size w ((w.alloc (.cells #[.int .i64 m] 3)).alloc (.cells #[.bool false] 4)) := ((Below.refl w.heap.size w).alloc (Nat.le_refl _) _).alloc (by simp) _
  clear hd hd2 hoff
  go_enter Try.func28, Try.ntmps28
  go_wp2_with (go_at_call 49; refine hC.mono ?_; rintro e w9 ⟨rfl, hF9, hb9⟩)
  go_ret
  exact ⟨rfl, B0.trans (hb9.mono (by omega))⟩

set_option maxHeartbeats 800000 in
theorem deep1_any {w : World} {F : Nat} {x : Int} (hF : w.cell? ⟨F, 0, none⟩ = some (.int .i64 x)) (hf : w.frozen? ⟨F, 0, none⟩ = false) (hx1 : -1 ≤ x) (hx2 : x ≤ 1000000) (j : Int) :
    Calls Try.prog 56 #[.int .i64 j, .pointer (some ⟨F, 0, none⟩)] w fun e w' => e = .returned (.bool true) ∧ w' = w.setCell ⟨F, 0, none⟩ (.int .i64 (x + 1)) := by
  go_enter Try.func56, Try.ntmps56
  go_wp2_with fail
  go_ret
  exact ⟨rfl, rfl⟩

set_option maxHeartbeats 800000 in
theorem climb_deep {w : World} {b o c : Nat} {rs : List Raw} {d : Tn.Dc} {F : Nat} {n : Int} (hd : DocAt w b o c rs d) (hoff : DocOff F b rs) (hF : w.cell? ⟨F, 0, none⟩ = some (.int .i64 (-1)))
    (hf : w.frozen? ⟨F, 0, none⟩ = false) (hp : (Tn.pathOf d n).length ≤ d.length) (hdl : d.length ≤ 1000) :
    Calls Try.prog 49 #[.slice (some ⟨b, o, none⟩) rs.length c, .int .i64 n, .func (.func 56) #[] #[.pointer (some ⟨F, 0, none⟩)]] w fun e w' =>
      e = .returned (.tuple #[]) ∧ w'.cell? ⟨F, 0, none⟩ = some (.int .i64 (((Tn.pathOf d n).length : Int) - 1)) ∧ Below F w w' := by
  have L : Hid (rs.length = d.length) := hd.len
  go_enter Try.func49, Try.ntmps49
  go_wp2_with fail
  go_loopg [1] (d.length + 1) (fun f nv wr => ∃ (q : Int) (l : List Nat), nv = .int .i64 q ∧ l.length + f = d.length + 1 ∧ Hid (Tn.pathOf d n = l ++ Tn.path f d q) ∧
      DocAt wr b o c rs d ∧ wr.cell? ⟨F, 0, none⟩ = some (.int .i64 ((l.length : Int) - 1)) ∧ wr.frozen? ⟨F, 0, none⟩ = false ∧ Below F w wr)
  case atStart => exact ⟨n, [], rfl, by simp, by show _ = _; rfl, hd, hF, hf, Below.refl _ _⟩
  case round =>
    clear hd hF hf
    obtain ⟨q, l, rfl, hl, P, hd, hF, hf, hnx⟩ := hrel
    have D : Hid (DocAt wr b o c rs d) := hd
    clear hd
    cases his : Tn.isN d q false with
    | false =>
      have E : Hid (Tn.pathOf d n = l) := by
        show _ = _
        rw [P.out]
        cases gk with
        | zero => rw [Tn.path, List.append_nil]
        | succ f => rw [path_succ_no _ _ _ his, List.append_nil]
      go_wp2_with (go_at_call 26; refine (dis_any D.out _ _).mono ?_; rintro e w' ⟨rfl, hww⟩; subst hww; rw [his])
      go_end0
      exact ⟨rfl, by rw [E.out]; exact hF, hnx⟩
    | true =>
      obtain ⟨k, rfl, hk, hlv⟩ := isN_nat his
      have hk' : k < rs.length := by have := L.out; omega
      obtain ⟨g, rfl⟩ : ∃ g, gk = g + 1 := by
        cases gk with
        | zero =>
          have h1 := P.out
          rw [Tn.path, List.append_nil] at h1
          rw [h1] at hp
          omega
        | succ g => exact ⟨g, rfl⟩
      have hup : (Tn.nd d k).up = rs[k].up := by rw [nd_at hk]; exact (D.out.nds k hk' hk).up.symm
      have P2 : Hid (Tn.pathOf d n = (l ++ [k]) ++ Tn.path g d rs[k].up) := by
        show _ = _
        rw [P.out, path_succ_yes _ _ _ his, hup]
        simp
      clear hup hlv
      have hC := deep1_any hF hf (by omega) (by omega) (k : Int)
      have hs : (wr.setCell ⟨F, 0, none⟩ (.int .i64 ((l.length : Int) - 1 + 1))).cell? ⟨F, 0, none⟩ = some (.int .i64 (((l ++ [k]).length : Int) - 1)) := by
        rw [World.cell?_setCell_same _ _ _ hF]
        congr 2
        simp
      have hsf : (wr.setCell ⟨F, 0, none⟩ (.int .i64 ((l.length : Int) - 1 + 1))).frozen? ⟨F, 0, none⟩ = false := by simpa using hf
      have D2 : Hid (DocAt (wr.setCell ⟨F, 0, none⟩ (.int .i64 ((l.length : Int) - 1 + 1))) b o c rs d) := doc_off D.out hoff
      have h4 := D2.out.row.c4 k hk'
      have B2 := hnx.setCell (p := ⟨F, 0, none⟩) (Nat.le_refl _) (.int .i64 ((l.length : Int) - 1 + 1))
      have HS : Hid ((wr.setCell ⟨F, 0, none⟩ (.int .i64 ((l.length : Int) - 1 + 1))).cell? ⟨F, 0, none⟩ = some (.int .i64 (((l ++ [k]).length : Int) - 1))) := hs
      clear hs
      generalize hWe : wr.setCell ⟨F, 0, none⟩ (.int .i64 ((l.length : Int) - 1 + 1)) = W2 at *
      clear hWe
      go_wp2_with (first
        | (go_at_call 26; refine (dis_any D.out _ _).mono ?_; rintro e w' ⟨rfl, hww⟩; subst hww; rw [his])
        | (go_at_call 56; refine hC.mono ?_; rintro e w2 ⟨rfl, hw2⟩; subst hw2))
      go_roundg g
      case rel => exact ⟨_, l ++ [k], rfl, by simp; omega, P2, D2.out, HS.out, hsf, B2⟩
      case measure => omega

set_option maxHeartbeats 800000 in
theorem ddeep_any {w : World} {b o c : Nat} {rs : List Raw} {d : Tn.Dc} (hd : DocAt w b o c rs d) (hg : Tame d) (n : Int) :
    Calls Try.prog 39 #[.slice (some ⟨b, o, none⟩) rs.length c, .int .i64 n] w fun e w' => e = .returned (.int .i64 (((Tn.pathOf d n).length - 1 : Nat) : Int)) ∧ Below w.heap.size w w' := by
  have h0 : 0 < rs.length := by rw [hd.len]; exact hg.len.1
  have hoff : DocOff w.heap.size b rs := doc_old hd h0 (Nat.le_refl _)
  have hd2 := hd.keeps (keeps_alloc w (.cells #[.int .i64 (-1)] 3))
  have hC := climb_deep (n := n) (F := w.heap.size) hd2 hoff (by rw [World.cell?_alloc_new]; rfl) (box_frozen w #[.int .i64 (-1)] 3 0) (hg.path n) (by have := hg.len.2; omega)
  have B0 : Below w.heap.size w (w.alloc (.cells #[.int .i64 (-1)] 3)) := (Below.refl w.heap.size w).alloc (Nat.le_refl _) _
  have hpl := hg.path n
  have hgl := hg.len.2
  clear hd hd2 hoff
  generalize (Tn.pathOf d n).length = pl at *
  go_enter Try.func39, Try.ntmps39
  go_wp2_with (go_at_call 49; refine hC.mono ?_; rintro e w9 ⟨rfl, hF9, hb9⟩)
  all_goals
    go_ret
    exact ⟨ret_int (by omega), B0.trans hb9⟩

/-- what Scope tells: of a path, the first one's Up that is InS; else 0 -/
def scopeL (d : Tn.Dc) : List Nat → Int
  | [] => 0
  | k :: l => if (Tn.nd d k).inS then (Tn.nd d k).up else scopeL d l
def scopeD (d : Tn.Dc) (n : Int) : Int := scopeL d (Tn.pathOf d n)
theorem scopeL_app (d : Tn.Dc) : ∀ (l m : List Nat), (∀ k ∈ l, (Tn.nd d k).inS = false) → scopeL d (l ++ m) = scopeL d m
  | [], _, _ => rfl
  | k :: l, m, h => by
    rw [List.cons_append, scopeL, if_neg (by simp [h k (by simp)])]
    exact scopeL_app d l m (fun x hx => h x (by simp [hx]))

set_option maxHeartbeats 800000 in
theorem scope1_yes {w : World} {b o c G F : Nat} {rs : List Raw} {d : Tn.Dc} (hd : DocAt w b o c rs d) (hG : w.cell? ⟨G, 0, none⟩ = some (.slice (some ⟨b, o, none⟩) rs.length c)) (hF : w.cell? ⟨F, 0, none⟩ = some (.int .i64 0)) (hf : w.frozen? ⟨F, 0, none⟩ = false)
    (hGF : G ≠ F) (hoff : DocOff F b rs) (k : Nat) (hk : k < rs.length) (hi : rs[k].inS = true) :
    Calls Try.prog 53 #[.int .i64 (k : Int), .pointer (some ⟨G, 0, none⟩), .pointer (some ⟨F, 0, none⟩)] w fun e w' => e = .returned (.bool false) ∧ w' = w.setCell ⟨F, 0, none⟩ (.int .i64 rs[k].up) := by
  have h8 := hd.row.c8 k hk
  have h4 := hd.row.c4 k hk
  rw [hi] at h8
  have h8' := (doc_off (j := 0) (u := .int .i64 rs[k].up) hd hoff).row.c8 k hk
  rw [hi] at h8'
  have hG' : (w.setCell ⟨F, 0, none⟩ (.int .i64 rs[k].up)).cell? ⟨G, 0, none⟩ = some (.slice (some ⟨b, o, none⟩) rs.length c) := by
    rw [World.cell?_setCell_other _ _ _ _ (by intro e; cases e; exact hGF rfl)]
    exact hG
  generalize rs[k].up = upv at *
  clear hd hoff hi
  go_enter Try.func53, Try.ntmps53
  go_wp2_with fail
  go_ret
  exact ⟨rfl, rfl⟩

set_option maxHeartbeats 800000 in
theorem scope1_no {w : World} {b o c G F : Nat} {rs : List Raw} {d : Tn.Dc} (hd : DocAt w b o c rs d) (hG : w.cell? ⟨G, 0, none⟩ = some (.slice (some ⟨b, o, none⟩) rs.length c)) (k : Nat) (hk : k < rs.length) (hi : rs[k].inS = false) :
    Calls Try.prog 53 #[.int .i64 (k : Int), .pointer (some ⟨G, 0, none⟩), .pointer (some ⟨F, 0, none⟩)] w fun e w' => e = .returned (.bool true) ∧ w' = w := by
  have h8 := hd.row.c8 k hk
  rw [hi] at h8
  clear hd hi
  go_enter Try.func53, Try.ntmps53
  go_wp2_with fail
  go_ret
  exact ⟨rfl, rfl⟩

set_option maxHeartbeats 800000 in
theorem climb_scope {w : World} {b o c : Nat} {rs : List Raw} {d : Tn.Dc} {G F : Nat} {n : Int} (hd : DocAt w b o c rs d) (hoff : DocOff F b rs) (hGF : G ≠ F) (hG : w.cell? ⟨G, 0, none⟩ = some (.slice (some ⟨b, o, none⟩) rs.length c)) (hF : w.cell? ⟨F, 0, none⟩ = some (.int .i64 0))
    (hf : w.frozen? ⟨F, 0, none⟩ = false) (hp : (Tn.pathOf d n).length ≤ d.length) :
    Calls Try.prog 49 #[.slice (some ⟨b, o, none⟩) rs.length c, .int .i64 n, .func (.func 53) #[] #[.pointer (some ⟨G, 0, none⟩), .pointer (some ⟨F, 0, none⟩)]] w fun e w' =>
      e = .returned (.tuple #[]) ∧ w'.cell? ⟨F, 0, none⟩ = some (.int .i64 (scopeD d n)) ∧ Below F w w' := by
  have L : Hid (rs.length = d.length) := hd.len
  have D : Hid (DocAt w b o c rs d) := hd
  clear hd
  have SD : Hid (scopeD d n = scopeL d (Tn.pathOf d n)) := rfl
  generalize scopeD d n = res at *
  go_enter Try.func49, Try.ntmps49
  go_wp2_with fail
  go_loopg [1] (d.length + 1) (fun f nv wr => ∃ (q : Int) (l : List Nat), nv = .int .i64 q ∧ l.length + f = d.length + 1 ∧ Hid (Tn.pathOf d n = l ++ Tn.path f d q) ∧ Hid (∀ k ∈ l, (Tn.nd d k).inS = false) ∧ wr = w)
  case atStart => exact ⟨n, [], rfl, by simp, by show _ = _; rfl, by intro k hk; simp at hk, rfl⟩
  case round =>
    obtain ⟨q, l, rfl, hl, P, A, rfl⟩ := hrel
    cases his : Tn.isN d q false with
    | false =>
      have E : Hid (res = 0) := by
        show _ = _
        rw [SD.out, P.out, scopeL_app _ _ _ A.out]
        cases gk with
        | zero => rw [Tn.path]; rfl
        | succ f => rw [path_succ_no _ _ _ his]; rfl
      go_wp2_with (go_at_call 26; refine (dis_any D.out _ _).mono ?_; rintro e w' ⟨rfl, hww⟩; subst hww; rw [his])
      go_end0
      exact ⟨rfl, by rw [E.out]; exact hF, Below.refl _ _⟩
    | true =>
      obtain ⟨k, rfl, hk, hlv⟩ := isN_nat his
      have hk' : k < rs.length := by have := L.out; omega
      obtain ⟨g, rfl⟩ : ∃ g, gk = g + 1 := by
        cases gk with
        | zero =>
          have h1 := P.out
          rw [Tn.path, List.append_nil] at h1
          rw [h1] at hp
          omega
        | succ g => exact ⟨g, rfl⟩
      have hup : Hid ((Tn.nd d k).up = rs[k].up) := by show _ = _; rw [nd_at hk]; exact (D.out.nds k hk' hk).up.symm
      have hin : Hid ((Tn.nd d k).inS = rs[k].inS) := by show _ = _; rw [nd_at hk]; exact (D.out.nds k hk' hk).inS.symm
      have P2 : Hid (Tn.pathOf d n = (l ++ [k]) ++ Tn.path g d rs[k].up) := by
        show _ = _
        rw [P.out, path_succ_yes _ _ _ his, hup.out]
        simp
      clear hlv
      cases hi : rs[k].inS with
      | true =>
        have E : Hid (res = rs[k].up) := by
          show _ = _
          rw [SD.out, P2.out, List.append_assoc, scopeL_app _ _ _ A.out]
          show scopeL d (k :: _) = _
          rw [scopeL, hin.out, hi, if_pos rfl, hup.out]
        have hC := scope1_yes D.out hG hF hf hGF hoff k hk' hi
        have hs : (wr.setCell ⟨F, 0, none⟩ (.int .i64 rs[k].up)).cell? ⟨F, 0, none⟩ = some (.int .i64 rs[k].up) := World.cell?_setCell_same _ _ _ hF
        clear hi
        go_wp2_with (first
          | (go_at_call 26; refine (dis_any D.out _ _).mono ?_; rintro e w' ⟨rfl, hww⟩; subst hww; rw [his])
          | (go_at_call 53; refine hC.mono ?_; rintro e w2 ⟨rfl, hw2⟩; subst hw2))
        go_end0
        exact ⟨rfl, by rw [E.out]; exact hs, (Below.refl F _).setCell (p := ⟨F, 0, none⟩) (Nat.le_refl _) _⟩
      | false =>
        have A2 : Hid (∀ j ∈ l ++ [k], (Tn.nd d j).inS = false) := by
          intro j hj
          rw [List.mem_append, List.mem_singleton] at hj
          rcases hj with hj | rfl
          · exact A.out j hj
          · rw [hin.out, hi]
        have hC := scope1_no (F := F) D.out hG k hk' hi
        have h4 := D.out.row.c4 k hk'
        clear hi
        go_wp2_with (first
          | (go_at_call 26; refine (dis_any D.out _ _).mono ?_; rintro e w' ⟨rfl, hww⟩; subst hww; rw [his])
          | (go_at_call 53; refine hC.mono ?_; rintro e w2 ⟨rfl, hw2⟩; subst hw2))
        go_roundg g
        case rel => exact ⟨_, l ++ [k], rfl, by simp; omega, P2, A2, rfl⟩
        case measure => omega

set_option maxHeartbeats 800000 in
theorem dscope_any {w : World} {b o c : Nat} {rs : List Raw} {d : Tn.Dc} (hd : DocAt w b o c rs d) (hg : Tame d) (n : Int) :
    Calls Try.prog 32 #[.slice (some ⟨b, o, none⟩) rs.length c, .int .i64 n] w fun e w' => e = .returned (.int .i64 (scopeD d n)) ∧ Below w.heap.size w w' := by
  have h0 : 0 < rs.length := by rw [hd.len]; exact hg.len.1
  have hoff : DocOff (w.heap.size + 1) b rs := doc_old hd h0 (by omega)
  have hd2 := hd.keeps (keeps_alloc' (.cells #[.int .i64 0] 3) (keeps_alloc w (.cells #[.slice (some ⟨b, o, none⟩) rs.length c] 34)))
  have hC := climb_scope (n := n) (G := w.heap.size) (F := w.heap.size + 1) hd2 hoff (by omega) (by rw [World.cell?_alloc2_first]; rfl) (by rw [World.cell?_alloc2_new]; rfl)
    (by have := box_frozen (w.alloc (.cells #[.slice (some ⟨b, o, none⟩) rs.length c] 34)) #[.int .i64 0] 3 0
        rw [show (w.alloc (.cells #[.slice (some ⟨b, o, none⟩) rs.length c] 34)).heap.size = w.heap.size + 1 by simp] at this
        exact this) (hg.path n)
  have B0 : Below w.heap.size w ((w.alloc (.cells #[.slice (some ⟨b, o, none⟩) rs.length c] 34)).alloc (.cells #[.int .i64 0] 3)) := ((Below.refl w.heap.size w).alloc (Nat.le_refl _) _).alloc (by simp) _
  clear hd hd2 hoff
  go_enter Try.func32, Try.ntmps32
  go_wp2_with (go_at_call 49; refine hC.mono ?_; rintro e w9 ⟨rfl, hF9, hb9⟩)
  go_ret
  exact ⟨rfl, B0.trans (hb9.mono (by omega))⟩
end Go.Proofs.Ytookcjdibpccpaa

/-
  THE WALKS of cmp.Compare, dom.attrAt (a search in halves) and dom.Attr.
-/
namespace Go.Proofs.Ytookcjdibpccpaa
open Go.RowKit

def cmpI (a b : ByteArray) : Int := if Tn.lessS a b then -1 else if Tn.eqS a b then 0 else 1

theorem less_eq (a b : ByteArray) : Op.bytesLess a.toList b.toList = Tn.lessS a b := bless_eq _ _

set_option maxHeartbeats 800000 in
theorem isNaN_any (a : ByteArray) (w : World) : Calls Try.prog 82 #[.string a] w fun e w' => e = .returned (.bool false) ∧ w' = w := by
  have q : (a.toList == a.toList) = true := by simp
  go_enter Try.func82, Try.ntmps82
  go_wp2_with fail
  go_ret
  exact ⟨by simp, rfl⟩

set_option maxHeartbeats 800000 in
theorem compare_any (a b : ByteArray) (w : World) : Calls Try.prog 66 #[.string a, .string b] w fun e w' => e = .returned (.int .i64 (cmpI a b)) ∧ w' = w := by
  have hl := less_eq a b
  cases hL : Tn.lessS a b with
  | true =>
    have E : Hid (cmpI a b = -1) := by show _ = _; unfold cmpI; rw [hL]; rfl
    rw [hL] at hl
    clear hL
    go_enter Try.func66, Try.ntmps66
    go_wp2_with (go_at_call 82; refine (isNaN_any _ _).mono ?_; rintro e w' ⟨rfl, hww⟩; subst hww)
    go_ret
    exact ⟨by rw [E.out]; rfl, rfl⟩
  | false =>
    rw [hL] at hl
    cases hq : Tn.eqS a b with
    | true =>
      have E : Hid (cmpI a b = 0) := by show _ = _; unfold cmpI; rw [hL, hq]; rfl
      have hq' : (a.toList == b.toList) = true := hq
      clear hL hq
      go_enter Try.func66, Try.ntmps66
      go_wp2_with (go_at_call 82; refine (isNaN_any _ _).mono ?_; rintro e w' ⟨rfl, hww⟩; subst hww)
      go_ret
      exact ⟨by rw [E.out]; rfl, rfl⟩
    | false =>
      have E : Hid (cmpI a b = 1) := by show _ = _; unfold cmpI; rw [hL, hq]; rfl
      have hq' : (a.toList == b.toList) = false := hq
      clear hL hq
      go_enter Try.func66, Try.ntmps66
      go_wp2_with (go_at_call 82; refine (isNaN_any _ _).mono ?_; rintro e w' ⟨rfl, hww⟩; subst hww)
      go_ret
      exact ⟨by rw [E.out]; rfl, rfl⟩

set_option maxHeartbeats 800000 in
theorem attrAt1_any (n v t : ByteArray) (w : World) : Calls Try.prog 65 #[.agg #[.string n, .string v], .string t] w fun e w' => e = .returned (.int .i64 (cmpI n t)) ∧ w' = w.alloc (.cells #[.string n, .string v] 62) := by
  go_enter Try.func65, Try.ntmps65
  go_wp2_with (go_at_call 66; refine (compare_any _ _ _).mono ?_; rintro e w' ⟨rfl, hww⟩; subst hww)
  go_ret
  exact ⟨rfl, rfl⟩

/-- names rise -/
def Rising (l : List Tn.At) : Prop := l.Pairwise fun a b => Tn.lessS a.1 b.1 = true

theorem less_trans {a b c : ByteArray} (h1 : Tn.lessS a b = true) (h2 : Tn.lessS b c = true) : Tn.lessS a c = true := by
  unfold Tn.lessS at *
  simp at *
  exact List.lt_trans h1 h2

/-- where a name stands, or would have to -/
structure Stands (l : List Tn.At) (t : ByteArray) (i : Nat) : Prop where
  le : i ≤ l.length
  lo : ∀ k (hk : k < l.length), k < i → Tn.lessS l[k].1 t = true
  hi : ∀ k (hk : k < l.length), i ≤ k → Tn.lessS l[k].1 t = false

theorem cmp_neg (a b : ByteArray) : cmpI a b < 0 ↔ Tn.lessS a b = true := by
  unfold cmpI
  split
  · rename_i h; exact ⟨fun _ => h, fun _ => by decide⟩
  · rename_i h
    split <;> exact ⟨fun h2 => absurd h2 (by decide), fun h2 => absurd h2 h⟩

set_option maxHeartbeats 1600000 in
set_option maxRecDepth 100000 in
theorem search_any {w : World} {vl : Value} {l : List Tn.At} (hl : AttrsAt w vl l) (hr : Rising l) (hs : l.length ≤ 1000) (t : ByteArray) :
    Calls Try.prog 64 #[vl, .string t, .func (.func 65) #[] #[]] w fun e w' => ∃ i, Stands l t i ∧ e = .returned (.tuple #[.int .i64 (i : Int), .bool (l[i]?.any fun a => cmpI a.1 t == 0)]) ∧ Below w.heap.size w w' := by
  obtain ⟨p, cc, rfl, h1, h2, _, hat⟩ := hl.at
  have T : Hid (∀ j (hj : j < l.length), ∃ b o, p = some ⟨b, o, none⟩ ∧ w.cell? ⟨b, o + j * 2, none⟩ = some (.string l[j].1) ∧ w.cell? ⟨b, o + j * 2 + 1, none⟩ = some (.string l[j].2)) := hat
  clear hat hl
  go_enter Try.func64, Try.ntmps64
  go_wp2_with fail
  go_loopw [9, 10] (fun iv jv wr => ∃ i j : Nat, i ≤ j ∧ j ≤ l.length ∧ iv = .int .i64 i ∧ jv = .int .i64 j ∧ Hid (∀ k (hk : k < l.length), k < i → Tn.lessS l[k].1 t = true) ∧ Hid (∀ k (hk : k < l.length), j ≤ k → Tn.lessS l[k].1 t = false) ∧ Below w.heap.size w wr)
    (fun i j _ => (intOf j).toNat - (intOf i).toNat)
  case atStart => exact ⟨0, l.length, Nat.zero_le _, Nat.le_refl _, rfl, rfl, fun k _ hk => absurd hk (by omega), fun k hk hk2 => absurd hk (by omega), Below.refl _ _⟩
  case round =>
    obtain ⟨i, j, hij, hjl, rfl, rfl, LO, HI, hnx⟩ := hrel
    have hbz := hnx.size
    by_cases hlt : i < j
    · have hm : (i + j) / 2 < l.length := by omega
      obtain ⟨b1, o1, rfl, k0, k1⟩ := T.out _ hm
      have y0 := keeps_below hnx (Nat.le_refl _) _ _ k0
      have y1 := keeps_below hnx (Nat.le_refl _) _ _ k1
      clear k0 k1
      go_upto_region 5 with fail
      have hme : ((i : Int) + (j : Int)) / 2 = (((i + j) / 2 : Nat) : Int) := by omega
      rw [hme]
      clear hme
      have hm1 : i ≤ (i + j) / 2 := by omega
      have hm2 : (i + j) / 2 < j := by omega
      have HLT : Hid (Tn.lessS l[(i + j) / 2].1 t = true → ∀ k (hk : k < l.length), k < (i + j) / 2 + 1 → Tn.lessS l[k].1 t = true) := by
        intro hh k hk hk2
        by_cases hke : k = (i + j) / 2
        · subst hke
          exact hh
        · exact less_trans (List.pairwise_iff_getElem.mp hr k ((i + j) / 2) hk hm (by omega)) hh
      have HGE : Hid (Tn.lessS l[(i + j) / 2].1 t = false → ∀ k (hk : k < l.length), (i + j) / 2 ≤ k → Tn.lessS l[k].1 t = false) := by
        intro hh k hk hk2
        by_cases hke : k = (i + j) / 2
        · subst hke
          exact hh
        · cases hq : Tn.lessS l[k].1 t with
          | false => rfl
          | true =>
            have := less_trans (List.pairwise_iff_getElem.mp hr ((i + j) / 2) k hm hk (by omega)) hq
            rw [hh] at this
            cases this
      have HC : Hid (cmpI l[(i + j) / 2].1 t < 0 ↔ Tn.lessS l[(i + j) / 2].1 t = true) := cmp_neg _ _
      generalize l[(i + j) / 2] = x at *
      obtain ⟨nm, vl⟩ := x
      simp only at y0 y1 HC HLT HGE
      generalize hmm : (i + j) / 2 = m at *
      clear hmm
      cases hL : Tn.lessS nm t with
      | true =>
        have hc : cmpI nm t < 0 := HC.out.mpr hL
        have L2 : Hid (∀ k (hk : k < l.length), k < m + 1 → Tn.lessS l[k].1 t = true) := HLT.out hL
        clear hL HLT HGE HC
        have hA := attrAt1_any nm vl t
        generalize cmpI nm t = cv at *
        go_wp2_with (go_at_call 65; refine (hA _).mono ?_; rintro e w' ⟨rfl, hww⟩; subst hww)
        go_roundw
        case rel => exact ⟨m + 1, j, by omega, hjl, by go_num, rfl, L2, HI, hnx.alloc hbz _⟩
        case measure => simp [intOf]; omega
      | false =>
        have hc : ¬ cmpI nm t < 0 := fun h => by rw [HC.out.mp h] at hL; cases hL
        have L2 : Hid (∀ k (hk : k < l.length), m ≤ k → Tn.lessS l[k].1 t = false) := HGE.out hL
        clear hL HLT HGE HC
        have hA := attrAt1_any nm vl t
        generalize cmpI nm t = cv at *
        go_wp2_with (go_at_call 65; refine (hA _).mono ?_; rintro e w' ⟨rfl, hww⟩; subst hww)
        go_roundw
        case rel => exact ⟨i, m, hm1, by omega, rfl, rfl, LO, L2, hnx.alloc hbz _⟩
        case measure => simp [intOf]; omega
    · obtain rfl : i = j := by omega
      have ST : Stands l t i := ⟨hjl, fun k hk h => LO.out k hk h, fun k hk h => HI.out k hk h⟩
      by_cases hil : i < l.length
      · obtain ⟨b1, o1, rfl, k0, k1⟩ := T.out _ hil
        have y0 := keeps_below hnx (Nat.le_refl _) _ _ k0
        have y1 := keeps_below hnx (Nat.le_refl _) _ _ k1
        have E : Hid ((l[i]?.any fun a => cmpI a.1 t == 0) = (cmpI l[i].1 t == 0)) := by show _ = _; rw [List.getElem?_eq_getElem hil]; rfl
        generalize l[i] = x at *
        obtain ⟨nm, vl⟩ := x
        simp only at y0 y1 E
        have hA := attrAt1_any nm vl t
        generalize cmpI nm t = cv at *
        clear k0 k1
        have S2 : Hid (Stands l t i) := ST
        clear ST
        go_wp2_with (go_at_call 65; refine (hA _).mono ?_; rintro e w' ⟨rfl, hww⟩; subst hww)
        go_ret2
        exact ⟨i, S2.out, by rw [E.out]; rfl, hnx.alloc hbz _⟩
      · have E : Hid ((l[i]?.any fun a => cmpI a.1 t == 0) = false) := by show _ = _; rw [List.getElem?_eq_none (by omega)]; rfl
        have S2 : Hid (Stands l t i) := ST
        clear ST
        go_wp2_with fail
        go_ret2
        exact ⟨i, S2.out, by rw [E.out]; rfl, hnx⟩
end Go.Proofs.Ytookcjdibpccpaa

/-
  THE WALKS of dom.attrAt and dom.Attr.
-/
namespace Go.Proofs.Ytookcjdibpccpaa
open Go.RowKit

theorem eqS_less {a b : ByteArray} (h : Tn.eqS a b = true) : Tn.lessS a b = false := by
  unfold Tn.eqS at h
  unfold Tn.lessS
  rw [beq_iff_eq.mp h]
  simp
theorem cmp_zero (a b : ByteArray) : (cmpI a b == 0) = Tn.eqS a b := by
  unfold cmpI
  cases hL : Tn.lessS a b with
  | true =>
    have : Tn.eqS a b = false := by
      cases hq : Tn.eqS a b with
      | false => rfl
      | true => rw [eqS_less hq] at hL; cases hL
    rw [this]
    rfl
  | false =>
    cases Tn.eqS a b <;> rfl

theorem stands_find {l : List Tn.At} (hr : Rising l) {t : ByteArray} {i : Nat} (h : Stands l t i) : l.find? (fun a => Tn.eqS a.1 t) = l[i]?.filter (fun a => Tn.eqS a.1 t) := by
  by_cases hi : i < l.length
  · rw [List.getElem?_eq_getElem hi]
    cases hq : Tn.eqS l[i].1 t with
    | true =>
      simp only [Option.filter, hq, if_true]
      rw [List.find?_eq_some_iff_getElem]
      refine ⟨hq, i, hi, rfl, fun j hj => ?_⟩
      have := h.lo j (by omega) hj
      cases hq2 : Tn.eqS l[j].1 t with
      | false => simp
      | true => rw [eqS_less hq2] at this; cases this
    | false =>
      simp only [Option.filter, hq]
      simp only [Bool.false_eq_true, if_false]
      rw [List.find?_eq_none]
      intro x hx
      obtain ⟨j, hj, rfl⟩ := List.mem_iff_getElem.mp hx
      by_cases h1 : j < i
      · have := h.lo j hj h1
        intro hq2
        rw [eqS_less hq2] at this
        cases this
      · by_cases h2 : j = i
        · subst h2
          rw [hq]
          simp
        · intro hq2
          have h3 := List.pairwise_iff_getElem.mp hr i j hi hj (by omega)
          have h4 := h.hi i hi (Nat.le_refl _)
          unfold Tn.eqS at hq2
          have h5 := beq_iff_eq.mp hq2
          unfold Tn.lessS at h3 h4
          rw [h5, h4] at h3
          cases h3
  · rw [List.getElem?_eq_none (by omega)]
    rw [List.find?_eq_none.mpr]
    · rfl
    · intro x hx
      obtain ⟨j, hj, rfl⟩ := List.mem_iff_getElem.mp hx
      have := h.lo j hj (by omega)
      intro hq2
      rw [eqS_less hq2] at this
      cases this

theorem stands_has {l : List Tn.At} (hr : Rising l) {t : ByteArray} {i : Nat} (h : Stands l t i) : (l[i]?.any fun a => cmpI a.1 t == 0) = (Tn.attrOf l t).isSome := by
  unfold Tn.attrOf
  rw [stands_find hr h]
  cases l[i]? with
  | none => rfl
  | some a =>
    show (cmpI a.1 t == 0) = _
    rw [cmp_zero]
    cases hq : Tn.eqS a.1 t <;> simp [Option.filter, hq]
theorem stands_val {l : List Tn.At} (hr : Rising l) {t : ByteArray} {i : Nat} (h : Stands l t i) (hs : (Tn.attrOf l t).isSome = true) : ∃ hi : i < l.length, Tn.attrOf l t = some l[i].2 := by
  unfold Tn.attrOf at hs ⊢
  rw [stands_find hr h] at hs ⊢
  by_cases hi : i < l.length
  · refine ⟨hi, ?_⟩
    rw [List.getElem?_eq_getElem hi] at hs ⊢
    cases hq : Tn.eqS l[i].1 t with
    | true => simp [Option.filter, hq]
    | false => simp [Option.filter, hq] at hs
  · rw [List.getElem?_eq_none (by omega)] at hs
    cases hs

set_option maxHeartbeats 800000 in
theorem dattrAt_any {w : World} {vl : Value} {l : List Tn.At} (hl : AttrsAt w vl l) (hr : Rising l) (hs : l.length ≤ 1000) (t : ByteArray) :
    Calls Try.prog 55 #[vl, .string t] w fun e w' => ∃ i, Stands l t i ∧ e = .returned (.tuple #[.int .i64 (i : Int), .bool (Tn.attrOf l t).isSome]) ∧ Below w.heap.size w w' := by
  have hC := search_any hl hr hs t
  go_enter Try.func55, Try.ntmps55
  go_wp2_with (go_at_call 64; refine hC.mono ?_; rintro e w9 ⟨i, ST, rfl, hb9⟩)
  go_ret2
  exact ⟨i, ST, by rw [← stands_has hr ST]; rfl, hb9⟩

set_option maxHeartbeats 800000 in
theorem dattr_yes {w : World} {b o c : Nat} {rs : List Raw} {d : Tn.Dc} (hd : DocAt w b o c rs d) (n : Nat) (hn : Tn.isN d (n : Int) true = true) (hr : Rising (Tn.nd d n).attrs) (hal : (Tn.nd d n).attrs.length ≤ 1000) (name : ByteArray) :
    Calls Try.prog 37 #[.slice (some ⟨b, o, none⟩) rs.length c, .int .i64 (n : Int), .string name] w fun e w' =>
      e = .returned (.tuple #[.string ((Tn.attrOf (Tn.nd d n).attrs name).getD ⟨#[]⟩), .bool (Tn.attrOf (Tn.nd d n).attrs name).isSome]) ∧ Below w.heap.size w w' := by
  have H : Hid (DocAt w b o c rs d) := hd
  obtain ⟨k, hkn, hk, _⟩ := isN_nat hn
  have hkn : n = k := by omega
  subst hkn
  have hk' : n < rs.length := by rw [hd.len]; exact hk
  have h3 := hd.row.c3 n hk'
  have hA := (hd.nds n hk' hk).attrs
  rw [← nd_at hk] at hA
  have hL := al_of hA
  clear hd
  generalize rs[n].a = sa at *
  obtain ⟨ap, an, ac⟩ := sa
  simp only at hA hL h3
  subst hL
  have hC := dattrAt_any hA hr hal name
  generalize (Tn.nd d n).attrs = l at *
  cases hso : (Tn.attrOf l name).isSome with
  | false =>
    have E : Hid (Tn.attrOf l name = none) := by show _ = _; simpa using hso
    rw [hso] at hC
    clear hso
    go_enter Try.func37, Try.ntmps37
    go_wp2_with (first
      | (go_at_call 26; refine (dis_any H.out _ _).mono ?_; rintro e w' ⟨rfl, hww⟩; subst hww; rw [hn])
      | (go_at_call 55; refine hC.mono ?_; rintro e w9 ⟨i, ST, rfl, hb9⟩))
    go_ret2
    exact ⟨by rw [E.out]; rfl, hb9⟩
  | true =>
    rw [hso] at hC
    have HS : Hid ((Tn.attrOf l name).isSome = true) := hso
    clear hso
    obtain ⟨_, _, he, hx1, hx2, _, at1⟩ := hA.at
    cases he
    have T : Hid (∀ j (hj : j < l.length), ∃ b o, ap = some ⟨b, o, none⟩ ∧ w.cell? ⟨b, o + j * 2, none⟩ = some (.string l[j].1) ∧ w.cell? ⟨b, o + j * 2 + 1, none⟩ = some (.string l[j].2)) := at1
    clear at1
    go_enter Try.func37, Try.ntmps37
    go_upto_region 4 with (first
      | (go_at_call 26; refine (dis_any H.out _ _).mono ?_; rintro e w' ⟨rfl, hww⟩; subst hww; rw [hn])
      | (go_at_call 55; refine hC.mono ?_; rintro e w9 ⟨i, ST, rfl, hb9⟩))
    obtain ⟨hi, hv⟩ := stands_val hr ST HS.out
    have E : Hid (Tn.attrOf l name = some l[i].2) := hv
    obtain ⟨b1, o1, rfl, k0, k1⟩ := T.out i hi
    have y0 := keeps_below hb9 (Nat.le_refl _) _ _ k1
    have y3 := keeps_below hb9 (Nat.le_refl _) _ _ h3
    clear k0 k1 hv ST
    go_wp2_with fail
    go_ret2
    exact ⟨by rw [E.out]; rfl, hb9⟩
end Go.Proofs.Ytookcjdibpccpaa

/-
  PLAIN MATHEMATICS: what holds of each node by itself stays, whatever the changes.
-/
namespace Go.Proofs.Ytookcjdibpccpaa
open Tn

/-- what holds of each node, and stays with the change x -/
structure Stays (P : Nat → Nd → Prop) (x : Chg) : Prop where
  take : ∀ j n k, P j n → P j { n with kids := without n.kids k, shadow := without n.shadow k }
  move : ∀ j n u b, j ≠ 0 → P j n → P j { n with up := u, inS := b }
  put : ∀ j n s l, P j n → has n.tag = true → (s = true → n.hasS = true) → P j (setList n s l)
  zero : ∀ j, j ≠ 0 → P j Tn.zero
  say : ∀ j n, P j n → has n.tag = false → P j { n with text := x.value }
  attr : ∀ j n, P j n → has n.tag = true → P j { n with attrs := attrsD n.attrs x.name x.value }
  clear : ∀ j n, P j n → has n.tag = true → P j { n with attrs := attrsOff n.attrs x.name }
  shad : ∀ j n, x.kind = 8 → j ≠ 0 → P j n → has n.tag = true → P j { n with hasS := true }
  new : ∀ j m s, j ≠ 0 → P j (made (newN x) m s)

theorem withd_all {P : Nat → Nd → Prop} {d : Dc} {k : Nat} {n : Nd} (hk : k ≤ d.length) (h : ∀ j, P j (nd d j)) (hn : P k n) : ∀ j, P j (nd (withd d k n) j) := by
  intro j
  rw [nd_withd _ _ _ hk]
  split
  · rename_i e
    rw [e]
    exact hn
  · exact h j

theorem take_len {d : Dc} {k : Nat} (hu : (nd d k).up.toNat < d.length) : (takeD d k).length = d.length := by
  unfold takeD withd
  rw [if_neg (by omega)]
  simp

theorem take_tag {d : Dc} {k : Nat} (hu : (nd d k).up.toNat < d.length) (j : Nat) : (nd (takeD d k) j).tag = (nd d j).tag := by
  unfold takeD
  rw [nd_withd _ _ _ (Nat.le_of_lt hu)]
  split
  · rename_i e
    rw [e]
  · rfl

theorem nd_trim {d : Dc} (h : Tn.Mid d) (j : Nat) : nd (trimD d) j = nd d j := by
  obtain ⟨r, hr, hR⟩ := h.tr
  have h0 : lvD d 0 = true := hr.1.root
  obtain ⟨h1, h2, h3, h4⟩ := lastLive_spec d h0 d.length
  by_cases hj : j < lastLive d d.length
  · unfold trimD nd
    rw [List.getElem?_take_of_lt hj]
  · have hz : nd (trimD d) j = zero := by
      apply nd_far
      unfold trimD
      simp
      omega
    rw [hz]
    cases hl : lvD d j with
    | true => exact absurd (h4 j (lv_lt hl) hl) hj
    | false => exact (h.dead j hl).symm

theorem chg_stays {P : Nat → Nd → Prop} {x : Chg} (hP : Stays P x) {d : Dc} (h : Tn.Good d) (hd : ∀ j, P j (nd d j)) (hi : isN d x.node false = true) (he : chgE d x = 0) : ∀ j, P j (nd (chgD d x) j) := by
  obtain ⟨k, hkn, hkl, hlv⟩ := isN_nat hi
  have hk : lvD d k = true := hlv
  have hkt : x.node.toNat = k := by omega
  obtain ⟨r, hr, hR⟩ := h.tr
  have hup : 0 < k → (nd d k).up.toNat < d.length := fun h0 => lv_lt (hr.1.upLive h0 hk)
  have htk : 0 < k → ∀ j, P j (nd (takeD d k) j) := fun h0 => withd_all (Nat.le_of_lt (hup h0)) hd (hP.take _ _ _ (hd _))
  unfold chgE at he
  unfold chgD
  by_cases e3 : x.kind = 3
  · rw [if_pos e3] at he ⊢
    unfold moveE at he
    split at he
    · cases he
    · rename_i g1
      have g2 : ¬ x.node = 0 ∧ isN d x.to true = true := by
        constructor
        · exact fun e => g1 (Or.inl e)
        · cases hb : isN d x.to true with
          | true => rfl
          | false => exact absurd (Or.inr hb) g1
      have h0 : 0 < k := by omega
      obtain ⟨t, htn, htl, htlv⟩ := isN_nat g2.2
      have htt : x.to.toNat = t := by omega
      have htag : has (nd d t).tag = true := by
        have := g2.2
        unfold isN at this
        rw [htn] at this
        simp at this
        exact this.2
      unfold moveD
      rw [hkt, htt]
      have tl := take_len (hup h0)
      have hw : ∀ j, P j (nd (withd (takeD d k) k { nd d k with up := x.to, inS := false }) j) := withd_all (by rw [tl]; omega) (htk h0) (hP.move _ _ _ _ (by omega) (hd k))
      have hwt : (nd (withd (takeD d k) k { nd d k with up := x.to, inS := false }) t).tag = (nd d t).tag := by
        rw [nd_withd _ _ _ (by rw [tl]; omega)]
        split
        · rename_i e
          rw [e]
        · exact take_tag (hup h0) t
      have hwl : (withd (takeD d k) k { nd d k with up := x.to, inS := false }).length = d.length := by
        unfold withd
        rw [if_neg (by rw [tl]; omega)]
        simp [tl]
      unfold put1
      refine withd_all (by rw [hwl]; omega) hw (hP.put _ _ _ _ (hw t) (by rw [hwt]; exact htag) (by simp))
  · rw [if_neg e3] at he ⊢
    by_cases e4 : x.kind = 4
    · rw [if_pos e4] at he ⊢
      split at he
      · cases he
      · have h0 : 0 < k := by omega
        unfold removeD
        rw [hkt]
        intro j
        rw [nd_gone _ _ (fun y hy => by rw [take_len (hup h0)]; exact all_lt' hr hk hy)]
        split
        · rename_i hm
          refine hP.zero j ?_
          rintro rfl
          have := hr.1.descRoot (all_desc hr fuel k 0 hm hk).2
          omega
        · exact htk h0 j
    · rw [if_neg e4] at he ⊢
      by_cases e7 : x.kind = 7
      · rw [if_pos e7] at he ⊢
        unfold sayE at he
        split at he
        · cases he
        · rename_i g
          unfold sayD
          rw [hkt] at g ⊢
          exact withd_all (by omega) hd (hP.say _ _ (hd k) (by
            cases hb : has (nd d k).tag with
            | false => rfl
            | true => exact absurd (Or.inl hb) g))
      · rw [if_neg e7] at he ⊢
        split at he
        · cases he
        · rename_i gt
          have htag : has (nd d k).tag = true := by rw [hkt] at gt; simpa using gt
          by_cases e5 : x.kind = 5
          · rw [if_pos e5]
            unfold attrD
            rw [hkt]
            exact withd_all (by omega) hd (hP.attr _ _ (hd k) htag)
          · rw [if_neg e5] at he ⊢
            by_cases e6 : x.kind = 6
            · rw [if_pos e6]
              unfold clearD
              rw [hkt]
              exact withd_all (by omega) hd (hP.clear _ _ (hd k) htag)
            · rw [if_neg e6] at he ⊢
              by_cases e8 : x.kind = 8
              · rw [if_pos e8] at he ⊢
                unfold shadE at he
                split at he
                · cases he
                · rename_i g
                  unfold shadD
                  rw [hkt]
                  exact withd_all (by omega) hd (hP.shad _ _ e8 (fun e => g (Or.inl (by omega))) (hd k) htag)
              · rw [if_neg e8] at he ⊢
                unfold makeE at he
                split at he
                · cases he
                · split at he
                  · cases he
                  · split at he
                    · cases he
                    · rename_i g8
                      split at he
                      · cases he
                      · obtain ⟨f1, f2⟩ := free_spec d
                        have hf0 : free d ≠ 0 := by
                          intro e
                          rw [e] at f2
                          have := hr.1.root
                          rw [f2] at this
                          cases this
                        have hfk : k ≠ free d := by
                          intro e
                          rw [e, f2] at hk
                          cases hk
                        have hw : ∀ j, P j (nd (mk1 d x) j) := by
                          unfold mk1
                          exact withd_all f1 hd (hP.new _ _ _ hf0)
                        have hn : nd (mk1 d x) k = nd d k := by
                          unfold mk1
                          rw [nd_withd _ _ _ f1, if_neg hfk]
                        have hl : d.length ≤ (mk1 d x).length := by
                          unfold mk1 withd
                          split <;> simp
                        unfold makeD put1
                        rw [hkt]
                        refine withd_all (by omega) hw (hP.put _ _ _ _ (hw k) (by rw [hn]; exact htag) (fun hs => ?_))
                        rw [hn]
                        rw [hkt] at g8
                        cases hb : (nd d k).hasS with
                        | true => rfl
                        | false => exact absurd ⟨hs, hb⟩ g8

theorem step_stays {P : Nat → Nd → Prop} {x : Chg} (hP : Stays P x) {d : Dc} (h : Tn.Good d) (hd : ∀ j, P j (nd d j)) : ∀ j, P j (nd (Tn.step d x) j) := by
  unfold Tn.step
  split
  · rename_i he
    have he' := he
    unfold applyE at he
    split at he
    · cases he
    · split at he
      · cases he
      · rename_i g
        intro j
        unfold applyD
        rw [nd_trim (chg_mid h x (by simpa using g) he)]
        exact chg_stays hP h hd (by simpa using g) he j
  · exact hd

theorem foldl_stays {P : Nat → Nd → Prop} : ∀ (l : List Chg) (_ : ∀ x ∈ l, Stays P x) (d : Dc), Tn.Good d → (∀ j, P j (nd d j)) → ∀ j, P j (nd (l.foldl Tn.step d) j)
  | [], _, _, _, hd => hd
  | x :: l, hl, d, h, hd => foldl_stays l (fun y hy => hl y (by simp [hy])) (Tn.step d x) (good_step h x) (step_stays (hl x (by simp)) h hd)

theorem build_stays {P : Nat → Nd → Prop} {l : List Chg} (hl : ∀ x ∈ l, Stays P x) (h0 : P 0 root) (hz : ∀ j, j ≠ 0 → P j Tn.zero) : ∀ j, P j (nd (Tn.build l) j) :=
  foldl_stays l hl _ good_root (fun j => by
    cases j with
    | zero => exact h0
    | succ j => rw [nd_far (by simp)]; exact hz _ (by omega))

/-- what is known of each node by itself -/
structure Fit (j : Nat) (n : Nd) : Prop where
  rise : Rising n.attrs
  text : has n.tag = false → n.attrs = [] ∧ n.kids = [] ∧ n.shadow = [] ∧ n.hasS = false
  noS : n.hasS = false → n.shadow = []
  root : j = 0 → n.hasS = false ∧ has n.tag = true ∧ n.inS = false

theorem lessS_or (a b : ByteArray) : lessS a b = true ∨ eqS a b = true ∨ lessS b a = true := by
  unfold lessS eqS
  by_cases h1 : a.toList < b.toList
  · left; simpa using h1
  · by_cases h2 : b.toList < a.toList
    · right; right; simpa using h2
    · right; left
      have := List.le_antisymm (List.not_lt.mp h2) (List.not_lt.mp h1)
      simp [this]

theorem eqS_lessL {a b c : ByteArray} (h : eqS a b = true) (h2 : lessS a c = true) : lessS b c = true := by
  unfold eqS at h
  unfold lessS at *
  have : a.toList = b.toList := by simpa using h
  rw [← this]
  exact h2

theorem fold_rise (name value : ByteArray) : ∀ (l out : List At) (dn : Bool), Rising out → Rising l → (∀ a ∈ out, ∀ b ∈ l, lessS a.1 b.1 = true) → (dn = false → ∀ a ∈ out, lessS a.1 name = true) → (dn = true → ∀ b ∈ l, lessS name b.1 = true) →
    Rising (l.foldl (aStep name value) (out, dn)).1 ∧ ((l.foldl (aStep name value) (out, dn)).2 = false → ∀ a ∈ (l.foldl (aStep name value) (out, dn)).1, lessS a.1 name = true)
  | [], out, dn, h1, _, _, h4, _ => ⟨h1, h4⟩
  | a :: l, out, dn, h1, h2, h3, h4, h5 => by
    rw [List.foldl_cons]
    have h2' : Rising l := (List.pairwise_cons.mp h2).2
    have hal : ∀ b ∈ l, lessS a.1 b.1 = true := (List.pairwise_cons.mp h2).1
    have hoa : ∀ c ∈ out, lessS c.1 a.1 = true := fun c hc => h3 c hc a (by simp)
    have hol : ∀ c ∈ out, ∀ b ∈ l, lessS c.1 b.1 = true := fun c hc b hb => h3 c hc b (by simp [hb])
    have app : ∀ y : At, (∀ c ∈ out, lessS c.1 y.1 = true) → Rising (out ++ [y]) := by
      intro y hy
      unfold Rising
      rw [List.pairwise_append]
      exact ⟨h1, List.pairwise_singleton _ _, fun c hc b hb => by rw [List.mem_singleton.mp hb]; exact hy c hc⟩
    unfold aStep
    split
    · rename_i e
      refine fold_rise name value l _ true (app _ hoa) h2' ?_ (by simp) (fun _ b hb => eqS_lessL e (hal b hb))
      intro c hc b hb
      rcases List.mem_append.mp hc with hc | hc
      · exact hol c hc b hb
      · rw [List.mem_singleton.mp hc]
        exact hal b hb
    · rename_i ne
      split
      · rename_i e
        have e' : lessS name a.1 = true ∧ dn = false := by simpa using e
        have hon := h4 e'.2
        refine fold_rise name value l _ true ?_ h2' ?_ (by simp) (fun _ b hb => less_trans e'.1 (hal b hb))
        · unfold Rising
          rw [List.pairwise_append]
          refine ⟨app _ hon, List.pairwise_singleton _ _, fun c hc b hb => ?_⟩
          rw [List.mem_singleton.mp hb]
          rcases List.mem_append.mp hc with hc | hc
          · exact hoa c hc
          · rw [List.mem_singleton.mp hc]
            exact e'.1
        · intro c hc b hb
          rcases List.mem_append.mp hc with hc | hc
          · rcases List.mem_append.mp hc with hc | hc
            · exact hol c hc b hb
            · rw [List.mem_singleton.mp hc]
              exact less_trans e'.1 (hal b hb)
          · rw [List.mem_singleton.mp hc]
            exact hal b hb
      · rename_i nl
        refine fold_rise name value l _ dn (app _ hoa) h2' ?_ ?_ (fun hd b hb => h5 hd b (by simp [hb]))
        · intro c hc b hb
          rcases List.mem_append.mp hc with hc | hc
          · exact hol c hc b hb
          · rw [List.mem_singleton.mp hc]
            exact hal b hb
        · intro hd c hc
          rcases List.mem_append.mp hc with hc | hc
          · exact h4 hd c hc
          · rw [List.mem_singleton.mp hc]
            rcases lessS_or a.1 name with g | g | g
            · exact g
            · exact absurd g ne
            · exact absurd (by simp [g, hd]) nl

theorem attrs_rise {l : List At} (h : Rising l) (name value : ByteArray) : Rising (attrsD l name value) := by
  have := fold_rise name value l [] false List.Pairwise.nil h (by simp) (by simp) (by simp)
  unfold attrsD aFold
  split
  · exact this.1
  · rename_i e
    unfold Rising
    rw [List.pairwise_append]
    exact ⟨this.1, List.pairwise_singleton _ _, fun c hc b hb => by rw [List.mem_singleton.mp hb]; exact this.2 (by simpa using e) c hc⟩

theorem tagged {n : Nd} {Q : Prop} (ht : has n.tag = true) (e : has n.tag = false) : Q := by rw [ht] at e; cases e
theorem hadS {n : Nd} {Q : Prop} (ht : n.hasS = true) (e : n.hasS = false) : Q := by rw [ht] at e; cases e
theorem fit_stays (x : Chg) : Stays Fit x := by
  refine ⟨?_, ?_, ?_, ?_, ?_, ?_, ?_, ?_, ?_⟩
  · intro j n k h
    refine ⟨h.rise, fun ht => ?_, fun hs => ?_, h.root⟩
    · obtain ⟨a, b, c, e⟩ := h.text ht
      exact ⟨a, by simp [b, without], by simp [c, without], e⟩
    · simp [h.noS hs, without]
  · intro j n u b hj h
    exact ⟨h.rise, h.text, h.noS, fun e => absurd e hj⟩
  · intro j n s l h ht hs
    cases s with
    | false => exact ⟨h.rise, tagged ht, h.noS, h.root⟩
    | true => exact ⟨h.rise, tagged ht, hadS (hs rfl), h.root⟩
  · intro j hj
    exact ⟨List.Pairwise.nil, fun _ => ⟨rfl, rfl, rfl, rfl⟩, fun _ => rfl, fun e => absurd e hj⟩
  · intro j n h ht
    exact ⟨h.rise, h.text, h.noS, h.root⟩
  · intro j n h ht
    exact ⟨attrs_rise h.rise _ _, tagged ht, h.noS, h.root⟩
  · intro j n h ht
    exact ⟨List.Pairwise.filter _ h.rise, tagged ht, h.noS, h.root⟩
  · intro j n _ hj h ht
    exact ⟨h.rise, tagged ht, (fun e => by cases e), fun e => absurd e hj⟩
  · intro j m s hj
    unfold newN
    split
    · exact ⟨List.Pairwise.nil, fun _ => ⟨rfl, rfl, rfl, rfl⟩, fun _ => rfl, fun e => absurd e hj⟩
    · exact ⟨List.Pairwise.nil, fun _ => ⟨rfl, rfl, rfl, rfl⟩, fun _ => rfl, fun e => absurd e hj⟩

theorem fit_root : Fit 0 root := ⟨List.Pairwise.nil, fun _ => ⟨rfl, rfl, rfl, rfl⟩, fun _ => rfl, fun _ => ⟨rfl, by unfold has; rw [ByteArray.toList_eq]; rfl, rfl⟩⟩

theorem build_fit (l : List Chg) : ∀ j, Fit j (nd (Tn.build l) j) := build_stays (fun x _ => fit_stays x) fit_root (fun j hj => (fit_stays ⟨0, 0, 0, 0, ⟨#[]⟩, ⟨#[]⟩⟩).zero j hj)

/-- no shadow trees -/
theorem plain_stays (x : Chg) (hx : x.kind ≠ 8) : Stays (fun _ n => n.hasS = false) x := by
  refine ⟨fun _ _ _ h => h, fun _ _ _ _ _ h => h, fun _ n s l h _ _ => ?_, fun _ _ => rfl, fun _ _ h _ => h, fun _ _ h _ => h, fun _ _ h _ => h, fun _ _ e => absurd e hx, fun _ m s _ => ?_⟩
  · cases s <;> exact h
  · unfold newN
    split <;> rfl

theorem build_plain {l : List Chg} (hl : ∀ x ∈ l, x.kind ≠ 8) (j : Nat) : (nd (Tn.build l) j).hasS = false := build_stays (P := fun _ n => n.hasS = false) (fun x hx => plain_stays x (hl x hx)) rfl (fun _ _ => rfl) j
end Go.Proofs.Ytookcjdibpccpaa
