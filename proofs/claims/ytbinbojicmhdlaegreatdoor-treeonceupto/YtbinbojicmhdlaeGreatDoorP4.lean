/-
  OWN WORK: Goo3, Kep, Dis, Dwi, Dat, Dat2, Dal, Dal2, Dfi.
-/
import Derived.Test.YtbinbojicmhdlaeGreatDoorP3
import Derived.Test.YtbinbojicmhdlaeGreatDoorP1
import Derived.Deep.LoopGhost
import Derived.Deep.RegionHeld3
/-
  PLAIN MATHEMATICS: what goes, goes well.
-/
namespace Go.Proofs.YtbinbojicmhdlaeGreatDoor
namespace Tn

theorem anc_same {lv : Nat → Bool} {up up' : Nat → Nat} {ins : Nat → Bool} {li : Nat → Bool → List Nat} {r : Nat → Nat} (h : Tr lv up ins li r) {k : Nat} (he : ∀ j, j ≠ k → up' j = up j) :
    ∀ (i j : Nat), lv j = true → r j = r k + i → anc up i j = k → anc up' i j = k
  | 0, _, _, _, ha => ha
  | i + 1, j, hj, hr, ha => by
    have hjk : j ≠ k := fun e => by rw [e] at hr; omega
    have h0 : 0 < j := h.pos (by omega)
    have hr2 := h.rank j h0 hj
    show anc up' i (up' j) = k
    rw [he j hjk]
    exact anc_same h he i (up j) (h.upLive h0 hj) (by omega) ha

theorem putE_zero {d : Dc} {k m : Nat} {b : Int} {s : Bool} (h : putE d k m b s = 0) : 0 ≤ place (liD d m s) b ∧ (liD d m s).length < 12 ∧
    ((pathOf (put1 d k m b s) k).length : Int) - 1 + (deepest fuel (put1 d k m b s) k : Int) ≤ 16 := by
  unfold putE at h
  split at h
  · cases h
  · split at h
    · cases h
    · split at h
      · cases h
      · rename_i h1 h2 h3
        exact ⟨by unfold liD; omega, by unfold liD; omega, by omega⟩

open Classical in
theorem move_mid {d d2 : Dc} (h : Good d) {k t : Nat} {s0 : Bool} (hk0 : 0 < k) (hk : lvD d k = true) (ht : lvD d t = true) (hw : within d (t : Int) (k : Int) = false) (o : Off d d2 k t s0) (b : Int) (hp : putE d2 k t b s0 = 0) : Mid (put1 d2 k t b s0) := by
  obtain ⟨r, hr, hR⟩ := h.tr
  have hnd := (within_desc hr ht h.rootUp k).mp hw
  have htl : t < d2.length := by rw [o.len]; exact lv_lt ht
  have p := putF d2 k t b s0 htl
  have hT := move_tr hr hk0 hk ht hnd o b
  obtain ⟨_, hp2, hp3⟩ := putE_zero hp
  have hup0 : (nd (put1 d2 k t b s0) 0).up = -1 := by rw [p.up, o.up 0 (by omega)]; exact h.rootUp
  have hlk : lvD (put1 d2 k t b s0) k = true := by rw [p.lv, o.lv]; exact hk
  have hpl := pathOf_len hT hlk hup0
  rw [hpl] at hp3
  have hrk : (if desc (upD d) r k k then r k - r k + r t + 1 else r k) = r t + 1 := by
    rw [if_pos (desc_refl _)]
    omega
  rw [hrk] at hp3
  refine ⟨by rw [put1_len _ _ _ _ _ htl, o.len]; exact h.len, ⟨_, hT, ?_⟩, hup0, ?_, ?_, ?_⟩
  · intro j hj
    show (if _ then _ else _) ≤ 16
    have hlj : lvD d j = true := by rw [p.lv, o.lv] at hj; exact hj
    by_cases hd : desc (upD d) r k j
    · rw [if_pos hd]
      have ha : anc (upD (put1 d2 k t b s0)) (r j - r k) j = k := by
        refine anc_same hr.1 (fun x hx => ?_) (r j - r k) j hlj (by have := hd.1; omega) hd.2
        unfold upD
        rw [p.up, o.up x hx]
      have hj16 := hR j hlj
      have ht16 := hR t ht
      have := deepest_ge hT (r j - r k) fuel k j (by show (if _ then _ else _) = (if _ then _ else _) + _; rw [hrk, if_pos hd]; omega) (by unfold fuel; omega) hj ha
      omega
    · rw [if_neg hd]
      exact hR j hlj
  · intro j hj
    rw [p.lv] at hj
    have hjt : j ≠ t := fun e => by rw [e, o.lv, ht] at hj; cases hj
    rw [p.other j hjt]
    exact o.dead j hj
  · intro j s
    rw [p.li]
    split
    · rw [len_insertAt]
      omega
    · exact Nat.le_trans (o.le j s) (h.small j s)
  · intro j
    rw [p.attrs, o.attrs]
    exact h.attrs j

theorem nd_gone : ∀ (l : List Nat) (d : Dc), (∀ x ∈ l, x < d.length) → ∀ j, nd (l.foldl (fun d k => withd d k zero) d) j = if j ∈ l then zero else nd d j
  | [], d, _, j => by simp
  | a :: l, d, h, j => by
    have ha := h a (by simp)
    have hl : (withd d a zero).length = d.length := by unfold withd; rw [if_neg (by omega)]; simp
    rw [List.foldl_cons, nd_gone l _ (fun x hx => by rw [hl]; exact h x (by simp [hx])), nd_withd _ _ _ (Nat.le_of_lt ha)]
    by_cases h1 : j ∈ l
    · rw [if_pos h1, if_pos (by simp [h1])]
    · rw [if_neg h1]
      by_cases h2 : j = a
      · rw [if_pos h2, if_pos (by simp [h2])]
      · rw [if_neg h2, if_neg (by simp [h1, h2])]
theorem len_gone : ∀ (l : List Nat) (d : Dc), (∀ x ∈ l, x < d.length) → (l.foldl (fun d k => withd d k zero) d).length = d.length
  | [], _, _ => rfl
  | a :: l, d, h => by
    have ha := h a (by simp)
    have hl : (withd d a zero).length = d.length := by unfold withd; rw [if_neg (by omega)]; simp
    rw [List.foldl_cons, len_gone l _ (fun x hx => by rw [hl]; exact h x (by simp [hx])), hl]

theorem all_lt' {d : Dc} {r : Nat → Nat} (hr : TrD d r) {f n j : Nat} (hn : lvD d n = true) (h : j ∈ all f d n) : j < d.length := lv_lt (all_desc hr f n j h hn).1

theorem remove_mid {d : Dc} (h : Good d) {k : Nat} (hk0 : 0 < k) (hk : lvD d k = true) : Mid ((all fuel d k).foldl (fun d k => withd d k zero) (takeD d k)) := by
  obtain ⟨r, hr, hR⟩ := h.tr
  have o := off_move h (t := 0) hk0 hk
  have hkl := lv_lt hk
  have tl : (takeD d k).length = d.length := by
    have h1 := o.len
    unfold withd at h1
    split at h1
    · rename_i e
      have := hr.1.upLive hk0 hk
      have hu := lv_lt this
      unfold takeD withd at e
      rw [if_neg (by have : (nd d k).up.toNat = upD d k := rfl
                     omega)] at e
      simp at e
      omega
    · simpa using h1
  have hmem : ∀ j, j ∈ all fuel d k ↔ lvD d j = true ∧ desc (upD d) r k j := by
    intro j
    constructor
    · intro hj
      exact all_desc hr fuel k j hj hk
    · rintro ⟨h1, h2, h3⟩
      have := hR j h1
      exact desc_all hr (r j - r k) fuel k j (by omega) (by unfold fuel; omega) hk h1 h3
  have hlt : ∀ x ∈ all fuel d k, x < (takeD d k).length := fun x hx => by rw [tl]; exact all_lt' hr hk hx
  have hkm : k ∈ all fuel d k := (hmem k).mpr ⟨hk, desc_refl _⟩
  have hn : ∀ j, nd ((all fuel d k).foldl (fun d k => withd d k zero) (takeD d k)) j = if j ∈ all fuel d k then zero else nd (withd (takeD d k) k { nd d k with up := ((0 : Nat) : Int), inS := false }) j := by
    intro j
    rw [nd_gone _ _ hlt]
    by_cases e : j ∈ all fuel d k
    · rw [if_pos e, if_pos e]
    · rw [if_neg e, if_neg e, nd_withd _ _ _ (by rw [tl]; omega), if_neg (fun x => e (by rw [x]; exact hkm))]
  have hl := len_gone _ _ hlt
  generalize hD : (all fuel d k).foldl (fun d k => withd d k zero) (takeD d k) = D at *
  generalize hd2 : withd (takeD d k) k { nd d k with up := ((0 : Nat) : Int), inS := false } = d2 at *
  have hlv : ∀ j, lvD D j = true ↔ lvD d j = true ∧ ¬ desc (upD d) r k j := by
    intro j
    unfold lvD
    rw [hn]
    by_cases e : j ∈ all fuel d k
    · rw [if_pos e]
      have := (hmem j).mp e
      exact ⟨fun x => by simp [zero] at x, fun x => absurd this.2 x.2⟩
    · rw [if_neg e]
      have : (nd d2 j).live = lvD d j := by show lvD d2 j = _; rw [o.lv]
      rw [this]
      exact ⟨fun x => ⟨x, fun y => e ((hmem j).mpr ⟨x, y⟩)⟩, fun x => x.1⟩
  have hin : ∀ j, lvD D j = true → j ∉ all fuel d k := fun j hj hm => ((hlv j).mp hj).2 ((hmem j).mp hm).2
  have hjk : ∀ j, j ∉ all fuel d k → j ≠ k := fun j hj e => hj (by rw [e]; exact hkm)
  have hli : ∀ u s, liD D u s = if u ∈ all fuel d k then [] else liD d2 u s := by
    intro u s
    unfold liD
    rw [hn]
    split
    · exact li_zero s
    · rfl
  have h0n : 0 ∉ all fuel d k := fun hm => by
    have := hr.1.descRoot ((hmem 0).mp hm).2
    omega
  refine ⟨by rw [hl, tl]; exact h.len, ⟨r, ⟨hr.1.remove hk0 hlv ?_ ?_ ?_ ?_, ?_⟩, ?_⟩, ?_, ?_, ?_, ?_⟩
  · intro j hj
    unfold upD
    rw [hn, if_neg (hin j hj), o.up j (hjk j (hin j hj))]
  · intro j hj
    unfold insD
    rw [hn, if_neg (hin j hj)]
    exact o.ins j (hjk j (hin j hj))
  · intro u s x
    rw [hli]
    by_cases e : u ∈ all fuel d k
    · rw [if_pos e]
      exact ⟨fun hx => by simp at hx, fun hx => absurd e (hin u hx.1)⟩
    · rw [if_neg e, o.mem]
      constructor
      · intro hx
        refine ⟨(hlv u).mpr ⟨(hr.1.mem u s x hx.1).1, fun hd => e ((hmem u).mpr ⟨(hr.1.mem u s x hx.1).1, hd⟩)⟩, hx⟩
      · exact fun hx => hx.2
  · intro u s
    rw [hli]
    split
    · simp
    · exact o.nodup u s
  · intro j h0 hj
    rw [hn, if_neg (hin j hj), o.up j (hjk j (hin j hj))]
    exact hr.2 j h0 ((hlv j).mp hj).1
  · intro j hj
    exact hR j ((hlv j).mp hj).1
  · rw [hn, if_neg h0n, o.up 0 (by omega)]
    exact h.rootUp
  · intro j hj
    rw [hn]
    split
    · rfl
    · rename_i e
      apply o.dead
      unfold lvD at hj
      rw [hn, if_neg e] at hj
      exact hj
  · intro j s
    rw [hli]
    split
    · simp
    · exact Nat.le_trans (o.le j s) (h.small j s)
  · intro j
    rw [hn]
    split
    · simp [zero]
    · rw [o.attrs]
      exact h.attrs j

/-- a new node -/
structure New (n : Nd) : Prop where
  kids : n.kids = []
  shadow : n.shadow = []
  attrs : n.attrs = []

theorem make_tr {d : Dc} (h : Good d) {r : Nat → Nat} (hr : TrD d r) {n : Nd} (hn : New n) {m : Nat} (hm : lvD d m = true) (b : Int) (s : Bool) :
    TrD (put1 (withd d (free d) (made n m s)) (free d) m b s) (fun j => if j = free d then r m + 1 else r j) := by
  obtain ⟨hf1, hf2⟩ := free_spec d
  have hml := lv_lt hm
  have hmk : m ≠ free d := fun e => by rw [e, hf2] at hm; cases hm
  have hnd := nd_withd d (free d) (made n m s) hf1
  have hml2 : m < (withd d (free d) (made n m s)).length := by unfold withd; split <;> simp <;> omega
  have p := putF (withd d (free d) (made n m s)) (free d) m b s hml2
  have hli : ∀ j t, liD (withd d (free d) (made n m s)) j t = liD d j t := by
    intro j t
    unfold liD
    rw [hnd]
    by_cases e : j = free d
    · rw [if_pos e, e, h.dead _ hf2, li_zero]
      unfold made listOf
      rw [hn.kids, hn.shadow]
      cases t <;> rfl
    · rw [if_neg e]
  have hknot : ∀ j t, free d ∉ liD d j t := fun j t hx => by
    have := (hr.1.mem j t _ hx).2.1
    rw [hf2] at this
    cases this
  refine ⟨hr.1.make hf2 hm (s0 := s) _ ?_ ?_ ?_ ?_ ?_ ?_ ?_ ?_ ?_ ?_, ?_⟩
  · intro j e
    rw [p.lv]
    unfold lvD
    rw [hnd, if_neg e]
  · rw [p.lv]
    unfold lvD
    rw [hnd, if_pos rfl]
    rfl
  · intro j e
    unfold upD
    rw [p.up, hnd, if_neg e]
  · unfold upD
    rw [p.up, hnd, if_pos rfl]
    simp [made]
  · intro j e
    rw [p.ins]
    unfold insD
    rw [hnd, if_neg e]
  · rw [p.ins]
    unfold insD
    rw [hnd, if_pos rfl]
    rfl
  · intro j t x
    rw [p.li]
    by_cases e : j = m ∧ t = s
    · rw [if_pos e, mem_insertAt, hli, ← e.1, ← e.2]
      constructor
      · rintro (h1 | h1)
        · exact Or.inr ⟨rfl, rfl, h1⟩
        · exact Or.inl h1
      · rintro (h1 | ⟨_, _, h1⟩)
        · exact Or.inr h1
        · exact Or.inl h1
    · rw [if_neg e, hli]
      exact ⟨Or.inl, fun h1 => h1.elim id (fun h2 => absurd ⟨h2.1, h2.2.1⟩ e)⟩
  · intro j t
    rw [p.li]
    by_cases e : j = m ∧ t = s
    · rw [if_pos e, hli]
      exact nodup_insertAt (hr.1.nodup _ _) (hknot _ _)
    · rw [if_neg e, hli]
      exact hr.1.nodup j t
  · show (if _ then _ else _) = _
    rw [if_pos rfl]
  · intro j e
    show (if _ then _ else _) = _
    rw [if_neg e]
  · intro j h0 hj
    rw [p.up, hnd]
    by_cases e : j = free d
    · rw [if_pos e]
      simp [made]
    · rw [if_neg e]
      rw [p.lv] at hj
      unfold lvD at hj
      rw [hnd, if_neg e] at hj
      exact hr.2 j h0 hj

theorem make_mid {d : Dc} (h : Good d) {n : Nd} (hn : New n) {m : Nat} (hm : lvD d m = true) (b : Int) (s : Bool) (hf : free d < 60) (hp : putE (withd d (free d) (made n m s)) (free d) m b s = 0) : Mid (put1 (withd d (free d) (made n m s)) (free d) m b s) := by
  obtain ⟨r, hr, hR⟩ := h.tr
  have hT := make_tr h hr hn hm b s
  obtain ⟨hf1, hf2⟩ := free_spec d
  have hml := lv_lt hm
  have hnd := nd_withd d (free d) (made n m s) hf1
  have hml2 : m < (withd d (free d) (made n m s)).length := by unfold withd; split <;> simp <;> omega
  have p := putF (withd d (free d) (made n m s)) (free d) m b s hml2
  have hf0 : free d ≠ 0 := fun e => by rw [e, hr.1.root] at hf2; cases hf2
  obtain ⟨_, hp2, hp3⟩ := putE_zero hp
  have hup0 : (nd (put1 (withd d (free d) (made n m s)) (free d) m b s) 0).up = -1 := by rw [p.up, hnd, if_neg (Ne.symm hf0)]; exact h.rootUp
  have hlk : lvD (put1 (withd d (free d) (made n m s)) (free d) m b s) (free d) = true := by
    rw [p.lv]
    unfold lvD
    rw [hnd, if_pos rfl]
    rfl
  have hpl := pathOf_len hT hlk hup0
  rw [hpl] at hp3
  have hrk : (if free d = free d then r m + 1 else r (free d)) = r m + 1 := by
    rw [if_pos rfl]
  rw [hrk] at hp3
  have hli : ∀ j t, liD (withd d (free d) (made n m s)) j t = liD d j t := by
    intro j t
    unfold liD
    rw [hnd]
    by_cases e : j = free d
    · rw [if_pos e, e, h.dead _ hf2, li_zero]
      unfold made listOf
      rw [hn.kids, hn.shadow]
      cases t <;> rfl
    · rw [if_neg e]
  refine ⟨?_, ⟨_, hT, ?_⟩, hup0, ?_, ?_, ?_⟩
  · rw [put1_len _ _ _ _ _ hml2]
    have := h.len
    unfold withd
    split <;> simp <;> omega
  · intro j hj
    show (if _ then _ else _) ≤ 16
    by_cases e : j = free d
    · rw [if_pos e]
      omega
    · rw [if_neg e]
      rw [p.lv] at hj
      unfold lvD at hj
      rw [hnd, if_neg e] at hj
      exact hR j hj
  · intro j hj
    rw [p.lv] at hj
    unfold lvD at hj
    have hjm : j ≠ m := fun e => by
      rw [hnd, e, if_neg (fun x => by rw [← x, hm] at hf2; cases hf2)] at hj
      have : (nd d m).live = true := hm
      rw [this] at hj
      cases hj
    rw [p.other j hjm, hnd]
    rw [hnd] at hj
    by_cases e : j = free d
    · rw [if_pos e] at hj
      cases hj
    · rw [if_neg e] at hj ⊢
      exact h.dead j hj
  · intro j t
    rw [p.li]
    split
    · rw [len_insertAt]
      omega
    · rw [hli]
      exact h.small j t
  · intro j
    rw [p.attrs, hnd]
    split
    · show n.attrs.length ≤ 8
      rw [hn.attrs]
      simp
    · exact h.attrs j

end Tn
end Go.Proofs.YtbinbojicmhdlaeGreatDoor

/-
  DOCUMENTS STAY AS THEY ARE, whatever the changes: the reference's Build, whole.
-/
namespace Go.Proofs.YtbinbojicmhdlaeGreatDoor
open Tn

theorem newN_new (x : Chg) : New (newN x) := by
  unfold newN
  split <;> exact ⟨rfl, rfl, rfl⟩

theorem off_le (l : List At) (nm : ByteArray) : (attrsOff l nm).length ≤ l.length := List.length_filter_le _ _

theorem good_root : Tn.Good [root] := by
  have h0 : nd [root] 0 = root := rfl
  have h1 : ∀ j, 0 < j → nd [root] j = zero := by
    intro j hj
    exact nd_far (by simp; omega)
  have hli : ∀ j s, liD [root] j s = [] := by
    intro j s
    unfold liD
    cases j with
    | zero => rw [h0]; cases s <;> rfl
    | succ j => rw [h1 _ (by omega)]; exact li_zero s
  have hlv : ∀ j, 0 < j → lvD [root] j = false := by
    intro j hj
    unfold lvD
    rw [h1 j hj]
    rfl
  refine ⟨by simp, ⟨fun _ => 0, ⟨⟨rfl, ?_, ?_, ?_, ?_, rfl⟩, ?_⟩, fun _ _ => Nat.zero_le _⟩, rfl, ?_, ?_, ?_, rfl⟩
  · intro u s k hk
    rw [hli] at hk
    simp at hk
  · intro k h0 hk
    rw [hlv k h0] at hk
    cases hk
  · intro u s
    rw [hli]
    simp
  · intro k h0 hk
    rw [hlv k h0] at hk
    cases hk
  · intro k h0 hk
    rw [hlv k h0] at hk
    cases hk
  · intro k hk
    cases k with
    | zero => cases hk
    | succ k => exact h1 _ (by omega)
  · intro k s
    rw [hli]
    simp
  · intro k
    cases k with
    | zero => rw [h0]; simp [root]
    | succ k => rw [h1 _ (by omega)]; simp [zero]

theorem chg_mid {d : Dc} (h : Tn.Good d) (x : Chg) (hi : isN d x.node false = true) (he : chgE d x = 0) : Tn.Mid (chgD d x) := by
  obtain ⟨k, hkn, hkl, hlv⟩ := isN_nat hi
  have hk : lvD d k = true := hlv
  have hkt : x.node.toNat = k := by omega
  unfold chgE at he
  unfold chgD
  by_cases e3 : x.kind = 3
  · rw [if_pos e3] at he ⊢
    unfold moveE at he
    split at he
    · cases he
    · rename_i g1
      have g2 : ¬ x.node = 0 ∧ isN d x.to true = true := by
        constructor
        · exact fun e => g1 (Or.inl e)
        · cases hb : isN d x.to true with
          | true => rfl
          | false => exact absurd (Or.inr hb) g1
      obtain ⟨t, htn, htl, htlv⟩ := isN_nat g2.2
      have htt : x.to.toNat = t := by omega
      split at he
      · cases he
      · rename_i g3
        split at he
        · cases he
        · unfold moveD
          rw [hkt, htt, htn] at he ⊢
          rw [htn, hkn] at g3
          exact move_mid h (by omega) hk htlv (by simpa using g3) (off_move h (by omega) hk) _ he
  · rw [if_neg e3] at he ⊢
    by_cases e4 : x.kind = 4
    · rw [if_pos e4] at he ⊢
      split at he
      · cases he
      · unfold removeD
        rw [hkt]
        exact remove_mid h (by omega) hk
    · rw [if_neg e4] at he ⊢
      by_cases e7 : x.kind = 7
      · rw [if_pos e7]
        unfold sayD
        rw [hkt]
        exact (good_same h hkl (n := { nd d k with text := x.value }) rfl rfl rfl rfl rfl hk (h.attrs k)).mid
      · rw [if_neg e7] at he ⊢
        split at he
        · cases he
        · by_cases e5 : x.kind = 5
          · rw [if_pos e5] at he ⊢
            unfold attrE at he
            split at he
            · cases he
            · split at he
              · cases he
              · split at he
                · cases he
                · rename_i g
                  unfold attrD
                  rw [hkt] at g ⊢
                  exact (good_same h hkl (n := { nd d k with attrs := attrsD (nd d k).attrs x.name x.value }) rfl rfl rfl rfl rfl hk (by simpa using g)).mid
          · rw [if_neg e5] at he ⊢
            by_cases e6 : x.kind = 6
            · rw [if_pos e6]
              unfold clearD
              rw [hkt]
              exact (good_same h hkl (n := { nd d k with attrs := attrsOff (nd d k).attrs x.name }) rfl rfl rfl rfl rfl hk (Nat.le_trans (off_le _ _) (h.attrs k))).mid
            · rw [if_neg e6] at he ⊢
              by_cases e8 : x.kind = 8
              · rw [if_pos e8]
                unfold shadD
                rw [hkt]
                exact (good_same h hkl (n := { nd d k with hasS := true }) rfl rfl rfl rfl rfl hk (h.attrs k)).mid
              · rw [if_neg e8] at he ⊢
                unfold makeE at he
                split at he
                · cases he
                · split at he
                  · cases he
                  · split at he
                    · cases he
                    · split at he
                      · cases he
                      · rename_i g
                        unfold makeD mk1
                        unfold mk1 at he
                        rw [hkt] at he ⊢
                        exact make_mid h (newN_new x) hk _ _ (by omega) he

theorem good_step {d : Dc} (h : Tn.Good d) (x : Chg) : Tn.Good (Tn.step d x) := by
  unfold Tn.step
  split
  · rename_i he
    unfold applyE at he
    split at he
    · cases he
    · split at he
      · cases he
      · rename_i g
        exact good_trim (chg_mid h x (by simpa using g) he)
  · exact h

theorem few_of {d : Dc} (h : Tn.Good d) (f n : Nat) : (all f d n).length ≤ 1000 := by
  obtain ⟨r, hr, hR⟩ := h.tr
  cases hn : lvD d n with
  | true =>
    have h1 := nodup_le d.length _ (all_nodup hr f n hn) (fun x hx => all_lt' hr hn hx)
    have := h.len
    omega
  | false =>
    cases f with
    | zero => simp [all]
    | succ f => rw [all, if_neg (by rw [isN_iff, hn]; simp)]; simp

open Classical in
theorem good_ok {d : Dc} (h : Tn.Good d) (x : Chg) (k : Nat) (hkn : x.node = (k : Int)) (hi : isN d (k : Int) false = true) : ChOK d x k := by
  obtain ⟨r, hr, hR⟩ := h.tr
  have hk : lvD d k = true := by rw [← isN_iff]; exact hi
  have hkt : x.node.toNat = k := by omega
  obtain ⟨hf1, hf2⟩ := free_spec d
  refine ⟨?_, ?_, ?_, few_of h, ?_, ?_, ?_, ?_⟩
  · intro h0
    have := hr.2 k (by omega) hk
    exact ⟨upD d k, by unfold upD; omega, lv_lt (hr.1.upLive (by omega) hk)⟩
  · intro j
    have h1 := h.small j false
    have h2 := h.small j true
    unfold liD listOf at h1 h2
    simp at h1 h2
    omega
  · have := h.attrs k
    omega
  · exact ends_of hr hR fuel k hk (by unfold fuel; omega)
  · intro _ h0 hto hw
    obtain ⟨t, htn, htl, htlv⟩ := isN_nat hto
    have htt : x.to.toNat = t := by omega
    have ht : lvD d t = true := htlv
    rw [htn, hkn] at hw
    have hnd := (within_desc hr ht h.rootUp k).mp hw
    unfold moveD
    rw [hkt, htt, htn]
    have o := off_move h (t := t) (by omega) hk
    have hT := move_tr hr (by omega) hk ht hnd o x.before
    have htl2 : t < (withd (takeD d k) k { nd d k with up := (t : Int), inS := false }).length := by rw [o.len]; exact htl
    have p := putF _ k t x.before false htl2
    refine ends_of hT (R := 40) ?_ fuel k (by rw [p.lv, o.lv]; exact hk) (by unfold fuel; omega)
    intro j hj
    rw [p.lv, o.lv] at hj
    have h1 := hR j hj
    have h2 := hR t ht
    have g1 : r j - r k + r t + 1 ≤ 40 := by omega
    have g2 : r j ≤ 40 := by omega
    show (if _ then _ else _) ≤ 40
    split
    · exact g1
    · exact g2
  · intro j
    unfold mk1
    rw [nd_withd _ _ _ hf1]
    split
    · have hn := newN_new x
      unfold made
      simp only [hn.kids, hn.shadow]
      simp
    · have h1 := h.small j false
      have h2 := h.small j true
      unfold liD listOf at h1 h2
      simp at h1 h2
      omega
  · unfold makeD mk1
    rw [hkt]
    have hT := make_tr h hr (newN_new x) hk (bef x) (isSh x)
    have hml2 : k < (withd d (free d) (made (newN x) k (isSh x))).length := by have := lv_lt hk; unfold withd; split <;> simp <;> omega
    have p := putF (withd d (free d) (made (newN x) k (isSh x))) (free d) k (bef x) (isSh x) hml2
    have hnd := nd_withd d (free d) (made (newN x) k (isSh x)) hf1
    refine ends_of hT (R := 40) ?_ fuel (free d) ?_ (by unfold fuel; omega)
    · intro j hj
      show (if _ then _ else _) ≤ 40
      have h2 := hR k hk
      have g1 : r k + 1 ≤ 40 := by omega
      split
      · exact g1
      · rename_i e
        rw [p.lv] at hj
        unfold lvD at hj
        rw [hnd, if_neg e] at hj
        have g2 := hR j hj
        exact Nat.le_trans g2 (by decide)
    · rw [p.lv]
      unfold lvD
      rw [hnd, if_pos rfl]
      rfl

theorem kept_good : Kept Tn.Good :=
  ⟨good_root, fun _ x h => good_step h x, fun _ h => ⟨h.len.1, by have := h.len.2; omega⟩, fun _ x k h hk hi => good_ok h x k hk hi, fun _ x h hi he => (chg_mid h x hi he).len.1⟩

/-- the reference's Build tells the document of its changes, and it is good -/
theorem rbuild_good {w : World} {vl : Value} {l : List Chg} (hl : ChgsAt w vl l) (hsz : ∀ x ∈ l, x.value.size ≤ 4194304 ∧ x.name.size ≤ 4194304) :
    Calls Tryz.prog 7 #[vl] w fun e w' => ∃ g c rs, e = .returned (.slice (some ⟨g, 0, none⟩) rs.length c) ∧ DocAt w' g 0 c rs (Tn.build l) ∧ Go.RowKit.Below w.heap.size w w' := rbuild_any kept_good hl hsz
theorem build_good (l : List Chg) : Tn.Good (Tn.build l) := kept_good.build l

end Go.Proofs.YtbinbojicmhdlaeGreatDoor

/-
  THE WALKS of dom.Is, Within, Deep, Scope.
-/
namespace Go.Proofs.YtbinbojicmhdlaeGreatDoor
open Go.RowKit

set_option maxHeartbeats 800000 in
theorem dis_any {w : World} {b o c : Nat} {rs : List Raw} {d : Tn.Dc} (hd : DocAt w b o c rs d) (n : Int) (el : Bool) :
    Calls Tryz.prog 69 #[.slice (some ⟨b, o, none⟩) rs.length c, .int .i64 n, .bool el] w fun e w' => e = .returned (.bool (Tn.isN d n el)) ∧ w' = w := by
  have H : Hid (DocAt w b o c rs d) := hd
  clear hd
  by_cases hn : 0 ≤ n
  · obtain ⟨k, rfl⟩ := Int.eq_ofNat_of_zero_le hn
    by_cases hk : k < rs.length
    · have h0 := H.out.row.c0 k hk
      have h1 := H.out.row.c1 k hk
      have hk' : k < d.length := by rw [← H.out.len]; exact hk
      have E : Hid (Tn.isN d (k : Int) el = (rs[k].live && (!el || !rs[k].tag.toList.isEmpty))) := by
        unfold Tn.isN
        rw [Int.toNat_natCast, nd_at hk', (H.out.nds k hk hk').live, (H.out.nds k hk hk').tag]
        simp [hk', Tn.has, Hid]
      generalize rs[k].live = lv at *
      generalize rs[k].tag = tg at *
      go_enter Tryz.func69, Tryz.ntmps69
      cases lv <;> cases el <;> go_wp2 <;> go_ret <;> exact ⟨by rw [E.out]; simp, rfl⟩
    · have E : Hid (Tn.isN d (k : Int) el = false) := by
        unfold Tn.isN
        have := H.out.len
        simp [Hid]
        omega
      go_enter Tryz.func69, Tryz.ntmps69
      go_wp2
      go_ret
      exact ⟨by rw [E.out]; rfl, rfl⟩
  · have E : Hid (Tn.isN d n el = false) := by
      unfold Tn.isN
      simp [hn, Hid]
    go_enter Tryz.func69, Tryz.ntmps69
    go_wp2
    go_ret
    exact ⟨by rw [E.out]; rfl, rfl⟩

end Go.Proofs.YtbinbojicmhdlaeGreatDoor

/-
  THE WALKS of dom.Within, Deep and Scope.
-/
namespace Go.Proofs.YtbinbojicmhdlaeGreatDoor
open Go.RowKit

/-- documents in which all roads end -/
structure Tame (d : Tn.Dc) : Prop where
  len : 0 < d.length ∧ d.length ≤ 100
  path : ∀ n : Int, (Tn.pathOf d n).length ≤ d.length
  few : ∀ f n, (Tn.all f d n).length ≤ d.length
  ends : ∀ k, Tn.lvD d k = true → Tn.Ends Tn.fuel d k

theorem tame_of {d : Tn.Dc} {r : Nat → Nat} (hr : Tn.TrD d r) (hR : ∀ k, Tn.lvD d k = true → r k ≤ 50) (h0 : (Tn.nd d 0).up = -1) (hl : 0 < d.length ∧ d.length ≤ 100) : Tame d := by
  refine ⟨hl, ?_, ?_, ?_⟩
  · intro n
    cases hn : Tn.isN d n false with
    | false =>
      unfold Tn.pathOf
      rw [path_succ_no _ _ _ hn]
      simp
    | true =>
      obtain ⟨k, rfl, hk, hlv⟩ := isN_nat hn
      rw [Tn.pathOf_len hr hlv h0]
      exact Tn.rank_lt hr hlv
  · intro f n
    cases hn : Tn.lvD d n with
    | true => exact Tn.nodup_le d.length _ (Tn.all_nodup hr f n hn) (fun x hx => Tn.all_lt' hr hn hx)
    | false =>
      cases f with
      | zero => simp [Tn.all]
      | succ f => rw [Tn.all, if_neg (by rw [Tn.isN_iff, hn]; simp)]; simp
  · intro k hk
    exact Tn.ends_of hr hR Tn.fuel k hk (by unfold Tn.fuel; omega)
theorem tame_good {d : Tn.Dc} (h : Tn.Good d) : Tame d := by
  obtain ⟨r, hr, hR⟩ := h.tr
  exact tame_of hr (fun k hk => Nat.le_trans (hR k hk) (by decide)) h.rootUp ⟨h.len.1, by have := h.len.2; omega⟩

/-- what Scope tells: of a path, the first one's Up that is InS; else 0 -/
def scopeL (d : Tn.Dc) : List Nat → Int
  | [] => 0
  | k :: l => if (Tn.nd d k).inS then (Tn.nd d k).up else scopeL d l
def scopeD (d : Tn.Dc) (n : Int) : Int := scopeL d (Tn.pathOf d n)
theorem scopeL_app (d : Tn.Dc) : ∀ (l m : List Nat), (∀ k ∈ l, (Tn.nd d k).inS = false) → scopeL d (l ++ m) = scopeL d m
  | [], _, _ => rfl
  | k :: l, m, h => by
    rw [List.cons_append, scopeL, if_neg (by simp [h k (by simp)])]
    exact scopeL_app d l m (fun x hx => h x (by simp [hx]))

set_option maxHeartbeats 800000 in
theorem scope1_yes {w : World} {b o c G F : Nat} {rs : List Raw} {d : Tn.Dc} (hd : DocAt w b o c rs d) (hG : w.cell? ⟨G, 0, none⟩ = some (.slice (some ⟨b, o, none⟩) rs.length c)) (hF : w.cell? ⟨F, 0, none⟩ = some (.int .i64 0)) (hf : w.frozen? ⟨F, 0, none⟩ = false)
    (hGF : G ≠ F) (hoff : DocOff F b rs) (k : Nat) (hk : k < rs.length) (hi : rs[k].inS = true) :
    Calls Tryz.prog 135 #[.int .i64 (k : Int), .pointer (some ⟨G, 0, none⟩), .pointer (some ⟨F, 0, none⟩)] w fun e w' => e = .returned (.bool false) ∧ w' = w.setCell ⟨F, 0, none⟩ (.int .i64 rs[k].up) := by
  have h8 := hd.row.c8 k hk
  have h4 := hd.row.c4 k hk
  rw [hi] at h8
  have h8' := (doc_off (j := 0) (u := .int .i64 rs[k].up) hd hoff).row.c8 k hk
  rw [hi] at h8'
  have hG' : (w.setCell ⟨F, 0, none⟩ (.int .i64 rs[k].up)).cell? ⟨G, 0, none⟩ = some (.slice (some ⟨b, o, none⟩) rs.length c) := by
    rw [World.cell?_setCell_other _ _ _ _ (by intro e; cases e; exact hGF rfl)]
    exact hG
  generalize rs[k].up = upv at *
  clear hd hoff hi
  go_enter Tryz.func135, Tryz.ntmps135
  go_wp2_with fail
  go_ret
  exact ⟨rfl, rfl⟩

set_option maxHeartbeats 800000 in
theorem scope1_no {w : World} {b o c G F : Nat} {rs : List Raw} {d : Tn.Dc} (hd : DocAt w b o c rs d) (hG : w.cell? ⟨G, 0, none⟩ = some (.slice (some ⟨b, o, none⟩) rs.length c)) (k : Nat) (hk : k < rs.length) (hi : rs[k].inS = false) :
    Calls Tryz.prog 135 #[.int .i64 (k : Int), .pointer (some ⟨G, 0, none⟩), .pointer (some ⟨F, 0, none⟩)] w fun e w' => e = .returned (.bool true) ∧ w' = w := by
  have h8 := hd.row.c8 k hk
  rw [hi] at h8
  clear hd hi
  go_enter Tryz.func135, Tryz.ntmps135
  go_wp2_with fail
  go_ret
  exact ⟨rfl, rfl⟩

set_option maxHeartbeats 800000 in
theorem climb_scope {w : World} {b o c : Nat} {rs : List Raw} {d : Tn.Dc} {G F : Nat} {n : Int} (hd : DocAt w b o c rs d) (hoff : DocOff F b rs) (hGF : G ≠ F) (hG : w.cell? ⟨G, 0, none⟩ = some (.slice (some ⟨b, o, none⟩) rs.length c)) (hF : w.cell? ⟨F, 0, none⟩ = some (.int .i64 0))
    (hf : w.frozen? ⟨F, 0, none⟩ = false) (hp : (Tn.pathOf d n).length ≤ d.length) :
    Calls Tryz.prog 134 #[.slice (some ⟨b, o, none⟩) rs.length c, .int .i64 n, .func (.func 135) #[] #[.pointer (some ⟨G, 0, none⟩), .pointer (some ⟨F, 0, none⟩)]] w fun e w' =>
      e = .returned (.tuple #[]) ∧ w'.cell? ⟨F, 0, none⟩ = some (.int .i64 (scopeD d n)) ∧ Below F w w' := by
  have L : Hid (rs.length = d.length) := hd.len
  have D : Hid (DocAt w b o c rs d) := hd
  clear hd
  have SD : Hid (scopeD d n = scopeL d (Tn.pathOf d n)) := rfl
  generalize scopeD d n = res at *
  go_enter Tryz.func134, Tryz.ntmps134
  go_wp2_with fail
  go_loopg [1] (d.length + 1) (fun f nv wr => ∃ (q : Int) (l : List Nat), nv = .int .i64 q ∧ l.length + f = d.length + 1 ∧ Hid (Tn.pathOf d n = l ++ Tn.path f d q) ∧ Hid (∀ k ∈ l, (Tn.nd d k).inS = false) ∧ wr = w)
  case atStart => exact ⟨n, [], rfl, by simp, by show _ = _; rfl, by intro k hk; simp at hk, rfl⟩
  case round =>
    obtain ⟨q, l, rfl, hl, P, A, rfl⟩ := hrel
    cases his : Tn.isN d q false with
    | false =>
      have E : Hid (res = 0) := by
        show _ = _
        rw [SD.out, P.out, scopeL_app _ _ _ A.out]
        cases gk with
        | zero => rw [Tn.path]; rfl
        | succ f => rw [path_succ_no _ _ _ his]; rfl
      go_wp2_with (go_at_call 69; refine (dis_any D.out _ _).mono ?_; rintro e w' ⟨rfl, hww⟩; subst hww; rw [his])
      go_end0
      exact ⟨rfl, by rw [E.out]; exact hF, Below.refl _ _⟩
    | true =>
      obtain ⟨k, rfl, hk, hlv⟩ := isN_nat his
      have hk' : k < rs.length := by have := L.out; omega
      obtain ⟨g, rfl⟩ : ∃ g, gk = g + 1 := by
        cases gk with
        | zero =>
          have h1 := P.out
          rw [Tn.path, List.append_nil] at h1
          rw [h1] at hp
          omega
        | succ g => exact ⟨g, rfl⟩
      have hup : Hid ((Tn.nd d k).up = rs[k].up) := by show _ = _; rw [nd_at hk]; exact (D.out.nds k hk' hk).up.symm
      have hin : Hid ((Tn.nd d k).inS = rs[k].inS) := by show _ = _; rw [nd_at hk]; exact (D.out.nds k hk' hk).inS.symm
      have P2 : Hid (Tn.pathOf d n = (l ++ [k]) ++ Tn.path g d rs[k].up) := by
        show _ = _
        rw [P.out, path_succ_yes _ _ _ his, hup.out]
        simp
      clear hlv
      cases hi : rs[k].inS with
      | true =>
        have E : Hid (res = rs[k].up) := by
          show _ = _
          rw [SD.out, P2.out, List.append_assoc, scopeL_app _ _ _ A.out]
          show scopeL d (k :: _) = _
          rw [scopeL, hin.out, hi, if_pos rfl, hup.out]
        have hC := scope1_yes D.out hG hF hf hGF hoff k hk' hi
        have hs : (wr.setCell ⟨F, 0, none⟩ (.int .i64 rs[k].up)).cell? ⟨F, 0, none⟩ = some (.int .i64 rs[k].up) := World.cell?_setCell_same _ _ _ hF
        clear hi
        go_wp2_with (first
          | (go_at_call 69; refine (dis_any D.out _ _).mono ?_; rintro e w' ⟨rfl, hww⟩; subst hww; rw [his])
          | (go_at_call 135; refine hC.mono ?_; rintro e w2 ⟨rfl, hw2⟩; subst hw2))
        go_end0
        exact ⟨rfl, by rw [E.out]; exact hs, (Below.refl F _).setCell (p := ⟨F, 0, none⟩) (Nat.le_refl _) _⟩
      | false =>
        have A2 : Hid (∀ j ∈ l ++ [k], (Tn.nd d j).inS = false) := by
          intro j hj
          rw [List.mem_append, List.mem_singleton] at hj
          rcases hj with hj | rfl
          · exact A.out j hj
          · rw [hin.out, hi]
        have hC := scope1_no (F := F) D.out hG k hk' hi
        have h4 := D.out.row.c4 k hk'
        clear hi
        go_wp2_with (first
          | (go_at_call 69; refine (dis_any D.out _ _).mono ?_; rintro e w' ⟨rfl, hww⟩; subst hww; rw [his])
          | (go_at_call 135; refine hC.mono ?_; rintro e w2 ⟨rfl, hw2⟩; subst hw2))
        go_roundg g
        case rel => exact ⟨_, l ++ [k], rfl, by simp; omega, P2, A2, rfl⟩
        case measure => omega

set_option maxHeartbeats 800000 in
theorem dscope_any {w : World} {b o c : Nat} {rs : List Raw} {d : Tn.Dc} (hd : DocAt w b o c rs d) (hg : Tame d) (n : Int) :
    Calls Tryz.prog 103 #[.slice (some ⟨b, o, none⟩) rs.length c, .int .i64 n] w fun e w' => e = .returned (.int .i64 (scopeD d n)) ∧ Below w.heap.size w w' := by
  have h0 : 0 < rs.length := by rw [hd.len]; exact hg.len.1
  have hoff : DocOff (w.heap.size + 1) b rs := doc_old hd h0 (by omega)
  have hd2 := hd.keeps (keeps_alloc' (.cells #[.int .i64 0] 3) (keeps_alloc w (.cells #[.slice (some ⟨b, o, none⟩) rs.length c] 24)))
  have hC := climb_scope (n := n) (G := w.heap.size) (F := w.heap.size + 1) hd2 hoff (by omega) (by rw [World.cell?_alloc2_first]; rfl) (by rw [World.cell?_alloc2_new]; rfl)
    (by have := box_frozen (w.alloc (.cells #[.slice (some ⟨b, o, none⟩) rs.length c] 24)) #[.int .i64 0] 3 0
        rw [show (w.alloc (.cells #[.slice (some ⟨b, o, none⟩) rs.length c] 24)).heap.size = w.heap.size + 1 by simp] at this
        exact this) (hg.path n)
  have B0 : Below w.heap.size w ((w.alloc (.cells #[.slice (some ⟨b, o, none⟩) rs.length c] 24)).alloc (.cells #[.int .i64 0] 3)) := ((Below.refl w.heap.size w).alloc (Nat.le_refl _) _).alloc (by simp) _
  clear hd hd2 hoff
  go_enter Tryz.func103, Tryz.ntmps103
  go_wp2_with (go_at_call 134; refine hC.mono ?_; rintro e w9 ⟨rfl, hF9, hb9⟩)
  go_ret
  exact ⟨rfl, B0.trans (hb9.mono (by omega))⟩
end Go.Proofs.YtbinbojicmhdlaeGreatDoor

/-
  THE WALKS of cmp.Compare, dom.attrAt (a search in halves) and dom.Attr.
-/
namespace Go.Proofs.YtbinbojicmhdlaeGreatDoor
open Go.RowKit

def cmpI (a b : ByteArray) : Int := if Tn.lessS a b then -1 else if Tn.eqS a b then 0 else 1

theorem less_eq (a b : ByteArray) : Op.bytesLess a.toList b.toList = Tn.lessS a b := bless_eq _ _

set_option maxHeartbeats 800000 in
theorem isNaN_any (a : ByteArray) (w : World) : Calls Tryz.prog 159 #[.string a] w fun e w' => e = .returned (.bool false) ∧ w' = w := by
  have q : (a.toList == a.toList) = true := by simp
  go_enter Tryz.func159, Tryz.ntmps159
  go_wp2_with fail
  go_ret
  exact ⟨by simp, rfl⟩

set_option maxHeartbeats 800000 in
theorem compare_any (a b : ByteArray) (w : World) : Calls Tryz.prog 128 #[.string a, .string b] w fun e w' => e = .returned (.int .i64 (cmpI a b)) ∧ w' = w := by
  have hl := less_eq a b
  cases hL : Tn.lessS a b with
  | true =>
    have E : Hid (cmpI a b = -1) := by show _ = _; unfold cmpI; rw [hL]; rfl
    rw [hL] at hl
    clear hL
    go_enter Tryz.func128, Tryz.ntmps128
    go_wp2_with (go_at_call 159; refine (isNaN_any _ _).mono ?_; rintro e w' ⟨rfl, hww⟩; subst hww)
    go_ret
    exact ⟨by rw [E.out]; rfl, rfl⟩
  | false =>
    rw [hL] at hl
    cases hq : Tn.eqS a b with
    | true =>
      have E : Hid (cmpI a b = 0) := by show _ = _; unfold cmpI; rw [hL, hq]; rfl
      have hq' : (a.toList == b.toList) = true := hq
      clear hL hq
      go_enter Tryz.func128, Tryz.ntmps128
      go_wp2_with (go_at_call 159; refine (isNaN_any _ _).mono ?_; rintro e w' ⟨rfl, hww⟩; subst hww)
      go_ret
      exact ⟨by rw [E.out]; rfl, rfl⟩
    | false =>
      have E : Hid (cmpI a b = 1) := by show _ = _; unfold cmpI; rw [hL, hq]; rfl
      have hq' : (a.toList == b.toList) = false := hq
      clear hL hq
      go_enter Tryz.func128, Tryz.ntmps128
      go_wp2_with (go_at_call 159; refine (isNaN_any _ _).mono ?_; rintro e w' ⟨rfl, hww⟩; subst hww)
      go_ret
      exact ⟨by rw [E.out]; rfl, rfl⟩

set_option maxHeartbeats 800000 in
theorem attrAt1_any (n v t : ByteArray) (w : World) : Calls Tryz.prog 127 #[.agg #[.string n, .string v], .string t] w fun e w' => e = .returned (.int .i64 (cmpI n t)) ∧ w' = w.alloc (.cells #[.string n, .string v] 83) := by
  go_enter Tryz.func127, Tryz.ntmps127
  go_wp2_with (go_at_call 128; refine (compare_any _ _ _).mono ?_; rintro e w' ⟨rfl, hww⟩; subst hww)
  go_ret
  exact ⟨rfl, rfl⟩

/-- names rise -/
def Rising (l : List Tn.At) : Prop := l.Pairwise fun a b => Tn.lessS a.1 b.1 = true

theorem less_trans {a b c : ByteArray} (h1 : Tn.lessS a b = true) (h2 : Tn.lessS b c = true) : Tn.lessS a c = true := by
  unfold Tn.lessS at *
  simp at *
  exact List.lt_trans h1 h2

/-- where a name stands, or would have to -/
structure Stands (l : List Tn.At) (t : ByteArray) (i : Nat) : Prop where
  le : i ≤ l.length
  lo : ∀ k (hk : k < l.length), k < i → Tn.lessS l[k].1 t = true
  hi : ∀ k (hk : k < l.length), i ≤ k → Tn.lessS l[k].1 t = false

theorem cmp_neg (a b : ByteArray) : cmpI a b < 0 ↔ Tn.lessS a b = true := by
  unfold cmpI
  split
  · rename_i h; exact ⟨fun _ => h, fun _ => by decide⟩
  · rename_i h
    split <;> exact ⟨fun h2 => absurd h2 (by decide), fun h2 => absurd h2 h⟩

set_option maxHeartbeats 1600000 in
set_option maxRecDepth 100000 in
theorem search_any {w : World} {vl : Value} {l : List Tn.At} (hl : AttrsAt w vl l) (hr : Rising l) (hs : l.length ≤ 1000) (t : ByteArray) :
    Calls Tryz.prog 126 #[vl, .string t, .func (.func 127) #[] #[]] w fun e w' => ∃ i, Stands l t i ∧ e = .returned (.tuple #[.int .i64 (i : Int), .bool (l[i]?.any fun a => cmpI a.1 t == 0)]) ∧ Below w.heap.size w w' := by
  obtain ⟨p, cc, rfl, h1, h2, _, hat⟩ := hl.at
  have T : Hid (∀ j (hj : j < l.length), ∃ b o, p = some ⟨b, o, none⟩ ∧ w.cell? ⟨b, o + j * 2, none⟩ = some (.string l[j].1) ∧ w.cell? ⟨b, o + j * 2 + 1, none⟩ = some (.string l[j].2)) := hat
  clear hat hl
  go_enter Tryz.func126, Tryz.ntmps126
  go_wp2_with fail
  go_loopw [9, 10] (fun iv jv wr => ∃ i j : Nat, i ≤ j ∧ j ≤ l.length ∧ iv = .int .i64 i ∧ jv = .int .i64 j ∧ Hid (∀ k (hk : k < l.length), k < i → Tn.lessS l[k].1 t = true) ∧ Hid (∀ k (hk : k < l.length), j ≤ k → Tn.lessS l[k].1 t = false) ∧ Below w.heap.size w wr)
    (fun i j _ => (intOf j).toNat - (intOf i).toNat)
  case atStart => exact ⟨0, l.length, Nat.zero_le _, Nat.le_refl _, rfl, rfl, fun k _ hk => absurd hk (by omega), fun k hk hk2 => absurd hk (by omega), Below.refl _ _⟩
  case round =>
    obtain ⟨i, j, hij, hjl, rfl, rfl, LO, HI, hnx⟩ := hrel
    have hbz := hnx.size
    by_cases hlt : i < j
    · have hm : (i + j) / 2 < l.length := by omega
      obtain ⟨b1, o1, rfl, k0, k1⟩ := T.out _ hm
      have y0 := keeps_below hnx (Nat.le_refl _) _ _ k0
      have y1 := keeps_below hnx (Nat.le_refl _) _ _ k1
      clear k0 k1
      go_upto_region 5 with fail
      have hme : ((i : Int) + (j : Int)) / 2 = (((i + j) / 2 : Nat) : Int) := by omega
      rw [hme]
      clear hme
      have hm1 : i ≤ (i + j) / 2 := by omega
      have hm2 : (i + j) / 2 < j := by omega
      have HLT : Hid (Tn.lessS l[(i + j) / 2].1 t = true → ∀ k (hk : k < l.length), k < (i + j) / 2 + 1 → Tn.lessS l[k].1 t = true) := by
        intro hh k hk hk2
        by_cases hke : k = (i + j) / 2
        · subst hke
          exact hh
        · exact less_trans (List.pairwise_iff_getElem.mp hr k ((i + j) / 2) hk hm (by omega)) hh
      have HGE : Hid (Tn.lessS l[(i + j) / 2].1 t = false → ∀ k (hk : k < l.length), (i + j) / 2 ≤ k → Tn.lessS l[k].1 t = false) := by
        intro hh k hk hk2
        by_cases hke : k = (i + j) / 2
        · subst hke
          exact hh
        · cases hq : Tn.lessS l[k].1 t with
          | false => rfl
          | true =>
            have := less_trans (List.pairwise_iff_getElem.mp hr ((i + j) / 2) k hm hk (by omega)) hq
            rw [hh] at this
            cases this
      have HC : Hid (cmpI l[(i + j) / 2].1 t < 0 ↔ Tn.lessS l[(i + j) / 2].1 t = true) := cmp_neg _ _
      generalize l[(i + j) / 2] = x at *
      obtain ⟨nm, vl⟩ := x
      simp only at y0 y1 HC HLT HGE
      generalize hmm : (i + j) / 2 = m at *
      clear hmm
      cases hL : Tn.lessS nm t with
      | true =>
        have hc : cmpI nm t < 0 := HC.out.mpr hL
        have L2 : Hid (∀ k (hk : k < l.length), k < m + 1 → Tn.lessS l[k].1 t = true) := HLT.out hL
        clear hL HLT HGE HC
        have hA := attrAt1_any nm vl t
        generalize cmpI nm t = cv at *
        go_wp2_with (go_at_call 127; refine (hA _).mono ?_; rintro e w' ⟨rfl, hww⟩; subst hww)
        go_roundw
        case rel => exact ⟨m + 1, j, by omega, hjl, by go_num, rfl, L2, HI, hnx.alloc hbz _⟩
        case measure => simp [intOf]; omega
      | false =>
        have hc : ¬ cmpI nm t < 0 := fun h => by rw [HC.out.mp h] at hL; cases hL
        have L2 : Hid (∀ k (hk : k < l.length), m ≤ k → Tn.lessS l[k].1 t = false) := HGE.out hL
        clear hL HLT HGE HC
        have hA := attrAt1_any nm vl t
        generalize cmpI nm t = cv at *
        go_wp2_with (go_at_call 127; refine (hA _).mono ?_; rintro e w' ⟨rfl, hww⟩; subst hww)
        go_roundw
        case rel => exact ⟨i, m, hm1, by omega, rfl, rfl, LO, L2, hnx.alloc hbz _⟩
        case measure => simp [intOf]; omega
    · obtain rfl : i = j := by omega
      have ST : Stands l t i := ⟨hjl, fun k hk h => LO.out k hk h, fun k hk h => HI.out k hk h⟩
      by_cases hil : i < l.length
      · obtain ⟨b1, o1, rfl, k0, k1⟩ := T.out _ hil
        have y0 := keeps_below hnx (Nat.le_refl _) _ _ k0
        have y1 := keeps_below hnx (Nat.le_refl _) _ _ k1
        have E : Hid ((l[i]?.any fun a => cmpI a.1 t == 0) = (cmpI l[i].1 t == 0)) := by show _ = _; rw [List.getElem?_eq_getElem hil]; rfl
        generalize l[i] = x at *
        obtain ⟨nm, vl⟩ := x
        simp only at y0 y1 E
        have hA := attrAt1_any nm vl t
        generalize cmpI nm t = cv at *
        clear k0 k1
        have S2 : Hid (Stands l t i) := ST
        clear ST
        go_wp2_with (go_at_call 127; refine (hA _).mono ?_; rintro e w' ⟨rfl, hww⟩; subst hww)
        go_ret2
        exact ⟨i, S2.out, by rw [E.out]; rfl, hnx.alloc hbz _⟩
      · have E : Hid ((l[i]?.any fun a => cmpI a.1 t == 0) = false) := by show _ = _; rw [List.getElem?_eq_none (by omega)]; rfl
        have S2 : Hid (Stands l t i) := ST
        clear ST
        go_wp2_with fail
        go_ret2
        exact ⟨i, S2.out, by rw [E.out]; rfl, hnx⟩
end Go.Proofs.YtbinbojicmhdlaeGreatDoor

/-
  THE WALKS of dom.attrAt and dom.Attr.
-/
namespace Go.Proofs.YtbinbojicmhdlaeGreatDoor
open Go.RowKit

theorem eqS_less {a b : ByteArray} (h : Tn.eqS a b = true) : Tn.lessS a b = false := by
  unfold Tn.eqS at h
  unfold Tn.lessS
  rw [beq_iff_eq.mp h]
  simp
theorem cmp_zero (a b : ByteArray) : (cmpI a b == 0) = Tn.eqS a b := by
  unfold cmpI
  cases hL : Tn.lessS a b with
  | true =>
    have : Tn.eqS a b = false := by
      cases hq : Tn.eqS a b with
      | false => rfl
      | true => rw [eqS_less hq] at hL; cases hL
    rw [this]
    rfl
  | false =>
    cases Tn.eqS a b <;> rfl

theorem stands_find {l : List Tn.At} (hr : Rising l) {t : ByteArray} {i : Nat} (h : Stands l t i) : l.find? (fun a => Tn.eqS a.1 t) = l[i]?.filter (fun a => Tn.eqS a.1 t) := by
  by_cases hi : i < l.length
  · rw [List.getElem?_eq_getElem hi]
    cases hq : Tn.eqS l[i].1 t with
    | true =>
      simp only [Option.filter, hq, if_true]
      rw [List.find?_eq_some_iff_getElem]
      refine ⟨hq, i, hi, rfl, fun j hj => ?_⟩
      have := h.lo j (by omega) hj
      cases hq2 : Tn.eqS l[j].1 t with
      | false => simp
      | true => rw [eqS_less hq2] at this; cases this
    | false =>
      simp only [Option.filter, hq]
      simp only [Bool.false_eq_true, if_false]
      rw [List.find?_eq_none]
      intro x hx
      obtain ⟨j, hj, rfl⟩ := List.mem_iff_getElem.mp hx
      by_cases h1 : j < i
      · have := h.lo j hj h1
        intro hq2
        rw [eqS_less hq2] at this
        cases this
      · by_cases h2 : j = i
        · subst h2
          rw [hq]
          simp
        · intro hq2
          have h3 := List.pairwise_iff_getElem.mp hr i j hi hj (by omega)
          have h4 := h.hi i hi (Nat.le_refl _)
          unfold Tn.eqS at hq2
          have h5 := beq_iff_eq.mp hq2
          unfold Tn.lessS at h3 h4
          rw [h5, h4] at h3
          cases h3
  · rw [List.getElem?_eq_none (by omega)]
    rw [List.find?_eq_none.mpr]
    · rfl
    · intro x hx
      obtain ⟨j, hj, rfl⟩ := List.mem_iff_getElem.mp hx
      have := h.lo j hj (by omega)
      intro hq2
      rw [eqS_less hq2] at this
      cases this

theorem stands_has {l : List Tn.At} (hr : Rising l) {t : ByteArray} {i : Nat} (h : Stands l t i) : (l[i]?.any fun a => cmpI a.1 t == 0) = (Tn.attrOf l t).isSome := by
  unfold Tn.attrOf
  rw [stands_find hr h]
  cases l[i]? with
  | none => rfl
  | some a =>
    show (cmpI a.1 t == 0) = _
    rw [cmp_zero]
    cases hq : Tn.eqS a.1 t <;> simp [Option.filter, hq]
theorem stands_val {l : List Tn.At} (hr : Rising l) {t : ByteArray} {i : Nat} (h : Stands l t i) (hs : (Tn.attrOf l t).isSome = true) : ∃ hi : i < l.length, Tn.attrOf l t = some l[i].2 := by
  unfold Tn.attrOf at hs ⊢
  rw [stands_find hr h] at hs ⊢
  by_cases hi : i < l.length
  · refine ⟨hi, ?_⟩
    rw [List.getElem?_eq_getElem hi] at hs ⊢
    cases hq : Tn.eqS l[i].1 t with
    | true => simp [Option.filter, hq]
    | false => simp [Option.filter, hq] at hs
  · rw [List.getElem?_eq_none (by omega)] at hs
    cases hs

set_option maxHeartbeats 800000 in
theorem dattrAt_any {w : World} {vl : Value} {l : List Tn.At} (hl : AttrsAt w vl l) (hr : Rising l) (hs : l.length ≤ 1000) (t : ByteArray) :
    Calls Tryz.prog 84 #[vl, .string t] w fun e w' => ∃ i, Stands l t i ∧ e = .returned (.tuple #[.int .i64 (i : Int), .bool (Tn.attrOf l t).isSome]) ∧ Below w.heap.size w w' := by
  have hC := search_any hl hr hs t
  go_enter Tryz.func84, Tryz.ntmps84
  go_wp2_with (go_at_call 126; refine hC.mono ?_; rintro e w9 ⟨i, ST, rfl, hb9⟩)
  go_ret2
  exact ⟨i, ST, by rw [← stands_has hr ST]; rfl, hb9⟩

set_option maxHeartbeats 800000 in
theorem dattr_yes {w : World} {b o c : Nat} {rs : List Raw} {d : Tn.Dc} (hd : DocAt w b o c rs d) (n : Nat) (hn : Tn.isN d (n : Int) true = true) (hr : Rising (Tn.nd d n).attrs) (hal : (Tn.nd d n).attrs.length ≤ 1000) (name : ByteArray) :
    Calls Tryz.prog 48 #[.slice (some ⟨b, o, none⟩) rs.length c, .int .i64 (n : Int), .string name] w fun e w' =>
      e = .returned (.tuple #[.string ((Tn.attrOf (Tn.nd d n).attrs name).getD ⟨#[]⟩), .bool (Tn.attrOf (Tn.nd d n).attrs name).isSome]) ∧ Below w.heap.size w w' := by
  have H : Hid (DocAt w b o c rs d) := hd
  obtain ⟨k, hkn, hk, _⟩ := isN_nat hn
  have hkn : n = k := by omega
  subst hkn
  have hk' : n < rs.length := by rw [hd.len]; exact hk
  have h3 := hd.row.c3 n hk'
  have hA := (hd.nds n hk' hk).attrs
  rw [← nd_at hk] at hA
  have hL := al_of hA
  clear hd
  generalize rs[n].a = sa at *
  obtain ⟨ap, an, ac⟩ := sa
  simp only at hA hL h3
  subst hL
  have hC := dattrAt_any hA hr hal name
  generalize (Tn.nd d n).attrs = l at *
  cases hso : (Tn.attrOf l name).isSome with
  | false =>
    have E : Hid (Tn.attrOf l name = none) := by show _ = _; simpa using hso
    rw [hso] at hC
    clear hso
    go_enter Tryz.func48, Tryz.ntmps48
    go_wp2_with (first
      | (go_at_call 69; refine (dis_any H.out _ _).mono ?_; rintro e w' ⟨rfl, hww⟩; subst hww; rw [hn])
      | (go_at_call 84; refine hC.mono ?_; rintro e w9 ⟨i, ST, rfl, hb9⟩))
    go_ret2
    exact ⟨by rw [E.out]; rfl, hb9⟩
  | true =>
    rw [hso] at hC
    have HS : Hid ((Tn.attrOf l name).isSome = true) := hso
    clear hso
    obtain ⟨_, _, he, hx1, hx2, _, at1⟩ := hA.at
    cases he
    have T : Hid (∀ j (hj : j < l.length), ∃ b o, ap = some ⟨b, o, none⟩ ∧ w.cell? ⟨b, o + j * 2, none⟩ = some (.string l[j].1) ∧ w.cell? ⟨b, o + j * 2 + 1, none⟩ = some (.string l[j].2)) := at1
    clear at1
    go_enter Tryz.func48, Tryz.ntmps48
    go_upto_region 4 with (first
      | (go_at_call 69; refine (dis_any H.out _ _).mono ?_; rintro e w' ⟨rfl, hww⟩; subst hww; rw [hn])
      | (go_at_call 84; refine hC.mono ?_; rintro e w9 ⟨i, ST, rfl, hb9⟩))
    obtain ⟨hi, hv⟩ := stands_val hr ST HS.out
    have E : Hid (Tn.attrOf l name = some l[i].2) := hv
    obtain ⟨b1, o1, rfl, k0, k1⟩ := T.out i hi
    have y0 := keeps_below hb9 (Nat.le_refl _) _ _ k1
    have y3 := keeps_below hb9 (Nat.le_refl _) _ _ h3
    clear k0 k1 hv ST
    go_wp2_with fail
    go_ret2
    exact ⟨by rw [E.out]; rfl, hb9⟩
end Go.Proofs.YtbinbojicmhdlaeGreatDoor

/-
  THE WALK of dom.All, and of the function in it that calls itself.
-/
namespace Go.Proofs.YtbinbojicmhdlaeGreatDoor
open Go.RowKit

/-- below B all is as it was, but for block A -/
structure But (B A : Nat) (w w' : World) : Prop where
  os : w'.os = w.os
  tape : w'.tape = w.tape
  output : w'.output = w.output
  size : w.heap.size ≤ w'.heap.size
  block : ∀ k, k < B → k ≠ A → w'.heap[k]? = w.heap[k]?

theorem But.refl (B A : Nat) (w : World) : But B A w w := ⟨rfl, rfl, rfl, Nat.le_refl _, fun _ _ _ => rfl⟩
theorem But.trans {B A : Nat} {a b c : World} (h : But B A a b) (k : But B A b c) : But B A a c :=
  ⟨k.os.trans h.os, k.tape.trans h.tape, k.output.trans h.output, Nat.le_trans h.size k.size, fun i hi hn => (k.block i hi hn).trans (h.block i hi hn)⟩
theorem But.of {B A C : Nat} {w w' : World} (h : Below C w w') (hC : B ≤ C) : But B A w w' := ⟨h.os, h.tape, h.output, h.size, fun i hi _ => h.block i (by omega)⟩
theorem But.set {B A : Nat} {w w' : World} (h : But B A w w') (u : Value) : But B A w (w'.setCell ⟨A, 0, none⟩ u) := by
  have hb := (Below.refl 0 w').setCell (p := ⟨A, 0, none⟩) (Nat.zero_le _) u
  exact ⟨hb.os.trans h.os, hb.tape.trans h.tape, hb.output.trans h.output, Nat.le_trans h.size hb.size, fun i hi hn => by rw [heap_setCell_other _ _ _ _ hn]; exact h.block i hi hn⟩
theorem But.drew {B A : Nat} {w w' : World} (h : But B A w w') : But B A w w'.drew := ⟨h.os, h.tape, h.output, h.size, h.block⟩
theorem But.cell {B A : Nat} {w w' : World} (h : But B A w w') {p : Addr} {v : Value} (hv : w.cell? p = some v) (hB : w.heap.size ≤ B) (hp : p.block ≠ A) : w'.cell? p = some v := by
  have hl := lt_of_cell hv
  rw [← hv]
  exact World.cell?_of_block (h.block p.block (by omega) hp)
theorem But.below {B A : Nat} {w w' : World} (h : But B A w w') {C : Nat} (hC : C ≤ B) (hA : C ≤ A) : Below C w w' := ⟨h.os, h.tape, h.output, h.size, fun i hi => h.block i (by omega) (by omega)⟩

theorem But.cells {B A : Nat} {w w' : World} (h : But B A w w') (hB : w.heap.size ≤ B) {p : Option Addr} {n c : Nat} {xs : List Value} (hc : CellsAt w (.slice p n c) n xs) (ho : SlOff A ⟨p, n, c⟩) (hx : n = 0 → xs = []) : CellsAt w' (.slice p n c) n xs := by
  obtain ⟨p', c', e, h1, h2, h3, h4⟩ := hc
  cases e
  refine ⟨p, c, rfl, h1, h2, h3, fun i x hi => ?_⟩
  obtain ⟨b, o, e1, e2⟩ := h4 i x hi
  refine ⟨b, o, e1, h.cell e2 hB ?_⟩
  have hn : n ≠ 0 := by
    intro hn
    rw [hx hn] at hi
    simp at hi
  exact ho ⟨b, o, none⟩ e1 hn
theorem But.nd {B A : Nat} {w w' : World} (h : But B A w w') (hB : w.heap.size ≤ B) {r : Raw} {n : Tn.Nd} (hn : NdAt w r n) (ho : RawOff A r) : NdAt w' r n := by
  have e1 : r.a.n = n.attrs.length := al_of hn.attrs
  have e2 : r.k.n = n.kids.length := hl_of hn.kids
  have e3 : r.s.n = n.shadow.length := hl_of hn.shadow
  refine ⟨hn.live, hn.tag, hn.text, hn.up, hn.hasS, hn.inS, ?_, ?_, ?_⟩
  · have h9 := hn.attrs
    unfold AttrsAt at h9 ⊢
    rw [← e1] at h9 ⊢
    exact h.cells hB h9 ho.1 (fun hz => by rw [hz] at e1; have : n.attrs = [] := List.length_eq_zero_iff.mp e1.symm; rw [this]; rfl)
  · have h9 := hn.kids
    unfold IntsAt at h9 ⊢
    rw [← e2] at h9 ⊢
    exact h.cells hB h9 ho.2.1 (fun hz => by rw [hz] at e2; have : n.kids = [] := List.length_eq_zero_iff.mp e2.symm; rw [this]; rfl)
  · have h9 := hn.shadow
    unfold IntsAt at h9 ⊢
    rw [← e3] at h9 ⊢
    exact h.cells hB h9 ho.2.2 (fun hz => by rw [hz] at e3; have : n.shadow = [] := List.length_eq_zero_iff.mp e3.symm; rw [this]; rfl)
theorem But.doc {B A : Nat} {w w' : World} (h : But B A w w') (hB : w.heap.size ≤ B) {b o c : Nat} {rs : List Raw} {d : Tn.Dc} (hd : DocAt w b o c rs d) (ho : DocOff A b rs) : DocAt w' b o c rs d := by
  have e : ∀ x v, w.cell? ⟨b, x, none⟩ = some v → w'.cell? ⟨b, x, none⟩ = some v := fun x v hx => h.cell hx hB ho.1
  exact ⟨hd.cap, hd.capM, hd.len, ⟨fun i hi => e _ _ (hd.row.c0 i hi), fun i hi => e _ _ (hd.row.c1 i hi), fun i hi => e _ _ (hd.row.c2 i hi), fun i hi => e _ _ (hd.row.c3 i hi), fun i hi => e _ _ (hd.row.c4 i hi),
    fun i hi => e _ _ (hd.row.c5 i hi), fun i hi => e _ _ (hd.row.c6 i hi), fun i hi => e _ _ (hd.row.c7 i hi), fun i hi => e _ _ (hd.row.c8 i hi)⟩, fun i hi hi' => h.nd hB (hd.nds i hi hi') (ho.2 _ (List.getElem_mem _))⟩

/-- the three variables of the function in All: the document, what there is so far, itself -/
structure Vars (w : World) (D A K B : Nat) (dv : Value) (acc : List Nat) (va : Value) : Prop where
  d : w.cell? ⟨D, 0, none⟩ = some dv
  k : w.cell? ⟨K, 0, none⟩ = some (.func (.func 136) #[] #[.pointer (some ⟨D, 0, none⟩), .pointer (some ⟨A, 0, none⟩), .pointer (some ⟨K, 0, none⟩)])
  a : w.cell? ⟨A, 0, none⟩ = some va
  f : w.frozen? ⟨A, 0, none⟩ = false
  own : OwnI w B va acc

theorem Vars.drew {w : World} {D A K B : Nat} {dv : Value} {acc : List Nat} {va : Value} (h : Vars w D A K B dv acc va) : Vars w.drew D A K B dv acc va := ⟨h.d, h.k, h.a, h.f, h.own⟩

theorem OwnI.set {w : World} {B A : Nat} {v : Value} {l : List Nat} (h : OwnI w B v l) (hA : A < B) (u : Value) : OwnI (w.setCell ⟨A, 0, none⟩ u) B v l := ownsRow_setCell_below h (a := ⟨A, 0, none⟩) hA u

theorem list_at {w0 : World} {A : Nat} {p : Option Addr} {n c : Nat} {l : List Nat} (h : IntsAt w0 (.slice p n c) l) (ho : SlOff A ⟨p, n, c⟩) : ∀ j (hj : j < l.length), ∃ b o, p = some ⟨b, o, none⟩ ∧ b ≠ A ∧ w0.cell? ⟨b, o + j, none⟩ = some (.int .i64 (l[j] : Int)) := by
  intro j hj
  have hn := hl_of h
  obtain ⟨p', c', e, _, _, _, hat⟩ := h.at
  cases e
  obtain ⟨b, o, e1, e2⟩ := hat j hj
  exact ⟨b, o, e1, ho ⟨b, o, none⟩ e1 (by simp only; omega), e2⟩

set_option maxHeartbeats 1600000 in
set_option maxRecDepth 100000 in
theorem all1_any {w0 : World} {b o c D A K B : Nat} {rs : List Raw} {d : Tn.Dc} (hB : w0.heap.size = B) (hd : DocAt w0 b o c rs d) (hoff : DocOff A b rs) (hDA : D ≠ A) (hKA : K ≠ A) (hDB : D < B) (hKB : K < B) (hAB : A < B) (hls : ∀ j s, (Tn.liD d j s).length ≤ 1000) (f : Nat) :
    ∀ (p : Option Addr) (cc : Nat) (l : List Nat) (acc : List Nat) (va : Value) (w : World), (∀ j (hj : j < l.length), ∃ b o, p = some ⟨b, o, none⟩ ∧ b ≠ A ∧ w0.cell? ⟨b, o + j, none⟩ = some (.int .i64 (l[j] : Int))) → l.length ≤ 1000 → (∀ k ∈ l, Tn.Ends f d k) →
      But B A w0 w → Vars w D A K B (.slice (some ⟨b, o, none⟩) rs.length c) acc va → (acc ++ l.flatMap (Tn.all f d)).length ≤ 10000 →
      Calls Tryz.prog 136 #[.slice p l.length cc, .pointer (some ⟨D, 0, none⟩), .pointer (some ⟨A, 0, none⟩), .pointer (some ⟨K, 0, none⟩)] w fun e w' =>
        e = .returned (.tuple #[]) ∧ But B A w0 w' ∧ ∃ va', Vars w' D A K B (.slice (some ⟨b, o, none⟩) rs.length c) (acc ++ l.flatMap (Tn.all f d)) va' := by
  have HL : Hid (∀ j s, (Tn.liD d j s).length ≤ 1000) := hls
  clear hls
  have H : Hid (DocAt w0 b o c rs d) := hd
  have HB : Hid (w0.heap.size = B) := hB
  have L : Hid (rs.length = d.length) := hd.len
  clear hd hB
  induction f with
  | zero =>
    intro p cc l acc va w hat hll hE hbut hv hsz
    have hl : l = [] := by
      cases l with
      | nil => rfl
      | cons a t => exact absurd (hE a (by simp)) (by simp [Tn.Ends])
    subst hl
    go_enter Tryz.func136, Tryz.ntmps136
    go_wp2_with fail
    refine wp_loop_rounds 1 ?_
    rw [rounds_succ]
    go_wp2_with fail
    go_end0
    exact ⟨rfl, hbut, va, by simpa using hv⟩
  | succ f ih =>
    intro p cc l acc va w hat hll hE hbut hv hsz
    have T : Hid (∀ j (hj : j < l.length), ∃ b o, p = some ⟨b, o, none⟩ ∧ b ≠ A ∧ w0.cell? ⟨b, o + j, none⟩ = some (.int .i64 (l[j] : Int))) := hat
    have Z : Hid ((acc ++ l.flatMap (Tn.all (f + 1) d)).length ≤ 10000) := hsz
    clear hat hsz
    go_enter Tryz.func136, Tryz.ntmps136
    go_wp2_with fail
    go_loopw [9] (fun i wr => ∃ (j : Nat) (va : Value), j ≤ l.length ∧ i = .int .i64 j ∧ But B A w0 wr ∧ Vars wr D A K B (.slice (some ⟨b, o, none⟩) rs.length c) (acc ++ (l.take j).flatMap (Tn.all (f + 1) d)) va)
      (fun i _ => l.length - (intOf i).toNat)
    case atStart => exact ⟨0, va, Nat.zero_le _, rfl, hbut, by simpa using hv⟩
    case round =>
      clear hv hbut
      obtain ⟨j, va, hj, rfl, hbut, hv⟩ := hrel
      have DD : Hid (DocAt wr b o c rs d) := hbut.doc (by rw [HB.out]; exact Nat.le_refl _) H.out hoff
      by_cases hlt : j < l.length
      · obtain ⟨b1, o1, rfl, hb1, hc⟩ := T.out j hlt
        have hcr := hbut.cell hc (by rw [HB.out]; exact Nat.le_refl _) hb1
        have F : Hid (acc ++ (l.take (j + 1)).flatMap (Tn.all (f + 1) d) = (acc ++ (l.take j).flatMap (Tn.all (f + 1) d)) ++ Tn.all (f + 1) d l[j]) := by
          show _ = _
          rw [List.take_succ_eq_append_getElem hlt, List.flatMap_append]
          simp
        have hEj := hE _ (List.getElem_mem hlt)
        have hZj : Hid (((acc ++ (l.take j).flatMap (Tn.all (f + 1) d)) ++ Tn.all (f + 1) d l[j]).length ≤ 10000) := by
          show _ ≤ _
          rw [← F.out]
          have h1 := Z.out
          have h2 := take_flat_len l (Tn.all (f + 1) d) (j + 1)
          rw [List.length_append] at h1 ⊢
          omega
        clear hc
        generalize l[j] = x at *
        generalize acc ++ (l.take j).flatMap (Tn.all (f + 1) d) = sf at *
        obtain ⟨vd, vk, vaa, vf, vown⟩ := hv
        cases his : Tn.isN d (x : Int) false with
        | false =>
          have E : Hid (Tn.all (f + 1) d x = []) := by show _ = _; rw [Tn.all, if_neg (by simp [his])]
          go_wp2_with (go_at_call 69; refine (dis_any DD.out _ _).mono ?_; rintro e w' ⟨rfl, hww⟩; subst hww; rw [his])
          go_roundw
          case rel => exact ⟨j + 1, va, by omega, by go_num, hbut, by rw [F.out, E.out, List.append_nil]; exact ⟨vd, vk, vaa, vf, vown⟩⟩
          case measure => simp [intOf]; omega
        | true =>
          have E : Hid (Tn.all (f + 1) d x = x :: ((Tn.nd d x).shadow.flatMap (Tn.all f d) ++ (Tn.nd d x).kids.flatMap (Tn.all f d))) := by show _ = _; rw [Tn.all, if_pos his]
          go_upto_region 4 with (go_at_call 69; refine (dis_any DD.out _ _).mono ?_; rintro e w' ⟨rfl, hww⟩; subst hww; rw [his])
          have hxd : x < d.length := hEj.1
          have hxr : x < rs.length := by rw [L.out]; exact hxd
          have hBw : B ≤ w'.heap.size := by have h1 := hbut.size; rw [HB.out] at h1; exact h1
          have hnd := H.out.nds x hxr hxd
          rw [← nd_at hxd] at hnd
          have hro := hoff.2 _ (List.getElem_mem hxr)
          have hatS := list_at hnd.shadow hro.2.2
          have hatK := list_at hnd.kids hro.2.1
          have hSn : Hid (rs[x].s.n = (Tn.nd d x).shadow.length) := hl_of hnd.shadow
          have hKn : Hid (rs[x].k.n = (Tn.nd d x).kids.length) := hl_of hnd.kids
          have E2 : Hid ((sf ++ Tn.all (f + 1) d x) = ((sf ++ [x]) ++ (Tn.nd d x).shadow.flatMap (Tn.all f d)) ++ (Tn.nd d x).kids.flatMap (Tn.all f d)) := by
            show _ = _
            rw [E.out]
            simp
          have hz0 : Hid ((((sf ++ [x]) ++ (Tn.nd d x).shadow.flatMap (Tn.all f d)) ++ (Tn.nd d x).kids.flatMap (Tn.all f d)).length ≤ 10000) := by have h1 := hZj.out; rw [E2.out] at h1; exact h1
          have hz1 : ((sf ++ [x]) ++ (Tn.nd d x).shadow.flatMap (Tn.all f d)).length ≤ 10000 := by have h1 := hz0.out; rw [List.length_append] at h1; omega
          have hzs : sf.length ≤ 1000000 := by rw [List.length_append, List.length_append] at hz1; omega
          have Z1 : Hid (((sf ++ [x]) ++ (Tn.nd d x).shadow.flatMap (Tn.all f d)).length ≤ 10000) := hz1
          have hSl : (Tn.nd d x).shadow.length ≤ 1000 := HL.out x true
          have hKl : (Tn.nd d x).kids.length ≤ 1000 := HL.out x false
          have ES : Hid (∀ k ∈ (Tn.nd d x).shadow, Tn.Ends f d k) := hEj.2.1
          have EK : Hid (∀ k ∈ (Tn.nd d x).kids, Tn.Ends f d k) := hEj.2.2
          have HS : Hid (∀ j (hj : j < (Tn.nd d x).shadow.length), ∃ b o, rs[x].s.p = some ⟨b, o, none⟩ ∧ b ≠ A ∧ w0.cell? ⟨b, o + j, none⟩ = some (.int .i64 ((Tn.nd d x).shadow[j] : Int))) := hatS
          have HK : Hid (∀ j (hj : j < (Tn.nd d x).kids.length), ∃ b o, rs[x].k.p = some ⟨b, o, none⟩ ∧ b ≠ A ∧ w0.cell? ⟨b, o + j, none⟩ = some (.int .i64 ((Tn.nd d x).kids[j] : Int))) := hatK
          have h7 : ∀ W, DocAt W b o c rs d → W.cell? ⟨b, o + x * 9 + 7, none⟩ = some (.slice rs[x].s.p (Tn.nd d x).shadow.length rs[x].s.c) := fun W h => by rw [h.row.c7 x hxr, hSn.out]
          have h5 : ∀ W, DocAt W b o c rs d → W.cell? ⟨b, o + x * 9 + 5, none⟩ = some (.slice rs[x].k.p (Tn.nd d x).kids.length rs[x].k.c) := fun W h => by rw [h.row.c5 x hxr, hKn.out]
          have H7 : Hid (∀ W, DocAt W b o c rs d → W.cell? ⟨b, o + x * 9 + 7, none⟩ = some (.slice rs[x].s.p (Tn.nd d x).shadow.length rs[x].s.c)) := h7
          have H5 : Hid (∀ W, DocAt W b o c rs d → W.cell? ⟨b, o + x * 9 + 5, none⟩ = some (.slice rs[x].k.p (Tn.nd d x).kids.length rs[x].k.c)) := h5
          clear h7 h5 hatS hatK hz1 hEj
          generalize rs[x].s = ss at *
          generalize rs[x].k = ks at *
          generalize (Tn.nd d x).shadow = S at *
          generalize (Tn.nd d x).kids = KK at *
          clear hnd hro
          go_upto_region 5 with (at_builtin; refine append_int1 (w0 := w') rfl _ _ rfl x rfl rfl vown (Below.refl B w') hBw hzs ?_; intro v1 w1 o1' n1' s1' _; obtain ⟨pv, cv, rfl⟩ := o1'.shape; have a1 : w1.cell? ⟨A, 0, none⟩ = some va := (n1'.cell (p := ⟨A, 0, none⟩) hAB).trans vaa; have f1 : w1.frozen? ⟨A, 0, none⟩ = false := (n1'.frozen (p := ⟨A, 0, none⟩) hAB).trans vf)
          simp only [List.length_append, List.length_singleton] at o1'
          generalize hv1 : Value.slice pv (sf.length + 1) cv = v1 at *
          have d2 : (w1.setCell ⟨A, 0, none⟩ v1).cell? ⟨D, 0, none⟩ = some (.slice (some ⟨b, o, none⟩) rs.length c) := by
            rw [World.cell?_setCell_other _ _ _ _ (by intro e; cases e; exact hDA rfl), n1'.cell (p := ⟨D, 0, none⟩) hDB]
            exact vd
          have k2 : (w1.setCell ⟨A, 0, none⟩ v1).cell? ⟨K, 0, none⟩ = some (.func (.func 136) #[] #[.pointer (some ⟨D, 0, none⟩), .pointer (some ⟨A, 0, none⟩), .pointer (some ⟨K, 0, none⟩)]) := by
            rw [World.cell?_setCell_other _ _ _ _ (by intro e; cases e; exact hKA rfl), n1'.cell (p := ⟨K, 0, none⟩) hKB]
            exact vk
          have bt2 : But B A w0 (w1.setCell ⟨A, 0, none⟩ v1) := (hbut.trans (But.of n1' (Nat.le_refl _))).set _
          have V2 : Vars (w1.setCell ⟨A, 0, none⟩ v1) D A K B (.slice (some ⟨b, o, none⟩) rs.length c) (sf ++ [x]) v1 := ⟨d2, k2, World.cell?_setCell_same _ _ _ a1, by simpa using f1, o1'.set hAB _⟩
          generalize hW2 : w1.setCell ⟨A, 0, none⟩ v1 = W2 at *
          clear hW2 hv1 a1 f1 o1' n1' s1' vd vk vaa vf vown hbut DD hcr hBw
          have hB0 : w0.heap.size ≤ B := by rw [HB.out]; exact Nat.le_refl _
          have D2 : Hid (DocAt W2 b o c rs d) := bt2.doc hB0 H.out hoff
          have e2 := H7.out _ D2.out
          go_region_held3 (fun w'' => w''.cell? ⟨D, 0, none⟩ = some (.slice (some ⟨b, o, none⟩) rs.length c) ∧ w''.cell? ⟨K, 0, none⟩ = some (.func (.func 136) #[] #[.pointer (some ⟨D, 0, none⟩), .pointer (some ⟨A, 0, none⟩), .pointer (some ⟨K, 0, none⟩)]) ∧ w''.cell? ⟨b, o + x * 9 + 7, none⟩ = some (.slice ss.p S.length ss.c))
            (first | exact ⟨d3, k3, e3⟩ | exact ⟨d2, k2, e2⟩)
            (first
              | (go_at_call 136; refine (ih ss.p ss.c S (sf ++ [x]) v1 _ HS.out hSl ES.out bt2.drew V2.drew Z1.out).mono ?_; rintro e w3 ⟨rfl, bt3, va3, V3⟩; have d3 := V3.d; have k3 := V3.k; have D3 : Hid (DocAt w3 b o c rs d) := bt3.doc hB0 H.out hoff; have e3 := H7.out _ D3.out))
          all_goals
            clear d2 k2 e2 V2 bt2 D2 e3
            have e4 := H5.out _ D3.out
            go_wp2_with fail
            go_region_held3 (fun w'' => w''.cell? ⟨D, 0, none⟩ = some (.slice (some ⟨b, o, none⟩) rs.length c) ∧ w''.cell? ⟨K, 0, none⟩ = some (.func (.func 136) #[] #[.pointer (some ⟨D, 0, none⟩), .pointer (some ⟨A, 0, none⟩), .pointer (some ⟨K, 0, none⟩)]) ∧ w''.cell? ⟨b, o + x * 9 + 5, none⟩ = some (.slice ks.p KK.length ks.c))
              (first | exact ⟨d5, k5, e5⟩ | exact ⟨d3, k3, e4⟩)
              (first
                | (go_at_call 136; refine (ih ks.p ks.c KK ((sf ++ [x]) ++ S.flatMap (Tn.all f d)) va3 _ HK.out hKl EK.out bt3.drew V3.drew hz0.out).mono ?_; rintro e w5 ⟨rfl, bt5, va5, V5⟩; have d5 := V5.d; have k5 := V5.k; have e5 := H5.out _ (bt5.doc hB0 H.out hoff)))
            all_goals
              go_wp2_with fail
              go_roundw
              case rel => exact ⟨j + 1, va5, by omega, by go_num, bt5, by rw [F.out, E2.out]; exact V5⟩
              case measure => simp [intOf]; omega
      · obtain rfl : j = l.length := by omega
        rw [List.take_length] at hv
        go_wp2_with fail
        go_end0
        exact ⟨rfl, hbut, va, hv⟩
end Go.Proofs.YtbinbojicmhdlaeGreatDoor

/-
  THE WALK of dom.All.
-/
namespace Go.Proofs.YtbinbojicmhdlaeGreatDoor
open Go.RowKit

theorem blk_alloc {w : World} {g : Nat} {x : Obj} (h : w.heap[g]? = some x) (o : Obj) : (w.alloc o).heap[g]? = some x := by
  have hlt : g < w.heap.size := by
    apply Classical.byContradiction
    intro hn
    rw [Array.getElem?_eq_none (by omega)] at h
    cases h
  rw [heap_alloc_old w o hlt]
  exact h
theorem blk_new (w : World) (o : Obj) {n : Nat} (hn : w.heap.size = n) : (w.alloc o).heap[n]? = some o := by
  rw [← hn]
  exact heap_alloc_new w o

set_option maxHeartbeats 800000 in
theorem dall_any {w : World} {b o c : Nat} {rs : List Raw} {d : Tn.Dc} (hd : DocAt w b o c rs d) (hg : Tame d) (hls : ∀ j s, (Tn.liD d j s).length ≤ 1000) (n : Nat) (hn : Tn.lvD d n = true) :
    Calls Tryz.prog 104 #[.slice (some ⟨b, o, none⟩) rs.length c, .int .i64 (n : Int)] w fun e w' => ∃ v, e = .returned v ∧ OwnI w' w.heap.size v (Tn.all Tn.fuel d n) ∧ Below w.heap.size w w' := by
  have h0 : 0 < rs.length := by rw [hd.len]; exact hg.len.1
  have hoff : DocOff (w.heap.size + 1) b rs := doc_old hd h0 (by omega)
  have hst : ∀ (W : World) (a : Addr) (fn : Fn) (x y : Array Value), Sem.run Tryz.prog (store a (.func fn x y)) W = stored Tryz.prog W a (.func fn x y) .plain := fun W a fn x y => run_store Tryz.prog W a (.func fn x y) .plain rfl
  have hfew := hg.few Tn.fuel n
  have hlen := hg.len.2
  have hC : Calls Tryz.prog 136 #[.slice (some ⟨w.heap.size + 1 + 1 + 1, 0, none⟩) 1 1, .pointer (some ⟨w.heap.size, 0, none⟩), .pointer (some ⟨w.heap.size + 1, 0, none⟩), .pointer (some ⟨w.heap.size + 1 + 1, 0, none⟩)]
      ((((w.alloc (.cells #[.slice (some ⟨b, o, none⟩) rs.length c] 24)).alloc (.cells #[.slice none 0 0] 33)).alloc (.cells #[.func (.func 136) #[] #[.pointer (some ⟨w.heap.size, 0, none⟩), .pointer (some ⟨w.heap.size + 1, 0, none⟩), .pointer (some ⟨w.heap.size + 1 + 1, 0, none⟩)]] 143)).alloc (.cells #[.int .i64 (n : Int)] 3))
      fun e w' => e = .returned (.tuple #[]) ∧ Below w.heap.size w w' ∧ ∃ va', w'.cell? ⟨w.heap.size + 1, 0, none⟩ = some va' ∧ OwnI w' w.heap.size va' (Tn.all Tn.fuel d n) := by
    generalize hf67 : (Obj.cells #[.func (.func 136) #[] #[.pointer (some ⟨w.heap.size, 0, none⟩), .pointer (some ⟨w.heap.size + 1, 0, none⟩), .pointer (some ⟨w.heap.size + 1 + 1, 0, none⟩)]] 143) = o3
    have z1 : (w.alloc (.cells #[.slice (some ⟨b, o, none⟩) rs.length c] 24)).heap.size = w.heap.size + 1 := by simp
    have b1 := heap_alloc_new w (.cells #[.slice (some ⟨b, o, none⟩) rs.length c] 24)
    have B1 := (Below.refl w.heap.size w).alloc (Nat.le_refl _) (.cells #[.slice (some ⟨b, o, none⟩) rs.length c] 24)
    generalize w.alloc (.cells #[.slice (some ⟨b, o, none⟩) rs.length c] 24) = w1 at *
    have z2 : (w1.alloc (.cells #[.slice none 0 0] 33)).heap.size = w.heap.size + 2 := by simp [z1]
    have b2 := blk_new w1 (.cells #[.slice none 0 0] 33) z1
    have b12 := blk_alloc b1 (.cells #[.slice none 0 0] 33)
    have B2 := B1.alloc (by omega) (.cells #[.slice none 0 0] 33)
    generalize w1.alloc (.cells #[.slice none 0 0] 33) = w2 at *
    have z3 : (w2.alloc o3).heap.size = w.heap.size + 3 := by simp [z2]
    have b3 := blk_new w2 o3 z2
    have b23 := blk_alloc b2 o3
    have b13 := blk_alloc b12 o3
    have B3 := B2.alloc (by omega) o3
    generalize w2.alloc o3 = w3 at *
    have z4 : (w3.alloc (.cells #[.int .i64 (n : Int)] 3)).heap.size = w.heap.size + 4 := by simp [z3]
    have b4 := blk_new w3 (.cells #[.int .i64 (n : Int)] 3) z3
    have b34 := blk_alloc b3 (.cells #[.int .i64 (n : Int)] 3)
    have b24 := blk_alloc b23 (.cells #[.int .i64 (n : Int)] 3)
    have b14 := blk_alloc b13 (.cells #[.int .i64 (n : Int)] 3)
    have B4 := B3.alloc (by omega) (.cells #[.int .i64 (n : Int)] 3)
    generalize w3.alloc (.cells #[.int .i64 (n : Int)] 3) = w4 at *
    subst hf67
    have hd4 := hd.keeps (keeps_below B4 (Nat.le_refl _))
    refine (all1_any (w0 := w4) (D := w.heap.size) (A := w.heap.size + 1) (K := w.heap.size + 1 + 1) (B := w.heap.size + 4) z4 hd4 hoff (by omega) (by omega) (by omega) (by omega) (by omega) hls Tn.fuel (some ⟨w.heap.size + 1 + 1 + 1, 0, none⟩) 1 [n] [] (.slice none 0 0) w4 ?_ (by simp) ?_ (But.refl _ _ _) ?_ ?_).mono ?_
    · intro j hj
      have hj0 : j = 0 := by simp at hj; omega
      subst hj0
      exact ⟨_, 0, rfl, by omega, by simp [World.cell?, b4]⟩
    · intro k hk
      simp at hk
      subst hk
      exact hg.ends _ hn
    · exact ⟨by simp [World.cell?, b14], by simp [World.cell?, b34], by simp [World.cell?, b24], by simp [World.frozen?, b24], OwnI.nil _ _⟩
    · simp
      omega
    · rintro e w' ⟨rfl, hbut, va', V⟩
      refine ⟨rfl, B4.trans (hbut.below (by omega) (by omega)), va', V.a, ?_⟩
      have := V.own
      simp only [List.nil_append, List.flatMap_cons, List.flatMap_nil, List.append_nil] at this
      obtain ⟨q1, q2⟩ := this
      refine ⟨q1, ?_⟩
      rcases q2 with q2 | ⟨g, cap, cur, e, q3, q4⟩
      · exact Or.inl q2
      · exact Or.inr ⟨g, cap, cur, e, by omega, q4⟩
  clear hd hoff
  go_enter Tryz.func104, Tryz.ntmps104
  go_wp2_with (go_at_call 136; refine hC.mono ?_; rintro e w9 ⟨rfl, hb9, va9, hc9, ho9⟩)
  go_ret
  exact ⟨_, rfl, ho9, hb9⟩
end Go.Proofs.YtbinbojicmhdlaeGreatDoor

/-
  THE WALKS of dom.Find: its own function, the search, and itself.
-/
namespace Go.Proofs.YtbinbojicmhdlaeGreatDoor
open Go.RowKit

set_option maxHeartbeats 800000 in
theorem dattr_no {w : World} {b o c : Nat} {rs : List Raw} {d : Tn.Dc} (hd : DocAt w b o c rs d) (n : Int) (hn : Tn.isN d n true = false) (name : ByteArray) :
    Calls Tryz.prog 48 #[.slice (some ⟨b, o, none⟩) rs.length c, .int .i64 n, .string name] w fun e w' => e = .returned (.tuple #[.string ⟨#[]⟩, .bool false]) ∧ w' = w := by
  have H : Hid (DocAt w b o c rs d) := hd
  clear hd
  go_enter Tryz.func48, Tryz.ntmps48
  go_wp2_with (go_at_call 69; refine (dis_any H.out _ _).mono ?_; rintro e w' ⟨rfl, hww⟩; subst hww; rw [hn])
  go_ret2
  exact ⟨rfl, rfl⟩

def idT : ByteArray := ⟨#[105, 100]⟩
/-- the attribute id of a node -/
def idOf (d : Tn.Dc) (k : Nat) : Option ByteArray := if Tn.isN d (k : Int) true then Tn.attrOf (Tn.nd d k).attrs idT else none

theorem dattr_id {w : World} {b o c : Nat} {rs : List Raw} {d : Tn.Dc} (hd : DocAt w b o c rs d) (n : Nat) (hr : Rising (Tn.nd d n).attrs) (hal : (Tn.nd d n).attrs.length ≤ 1000) :
    Calls Tryz.prog 48 #[.slice (some ⟨b, o, none⟩) rs.length c, .int .i64 (n : Int), .string ⟨#[105, 100]⟩] w fun e w' =>
      e = .returned (.tuple #[.string ((idOf d n).getD ⟨#[]⟩), .bool (idOf d n).isSome]) ∧ Below w.heap.size w w' := by
  unfold idOf
  cases hn : Tn.isN d (n : Int) true with
  | true =>
    rw [if_pos rfl]
    exact dattr_yes hd n hn hr hal idT
  | false =>
    rw [if_neg (by simp)]
    refine (dattr_no hd n hn _).mono ?_
    rintro e w' ⟨rfl, rfl⟩
    exact ⟨rfl, Below.refl _ _⟩

/-- the test of Find -/
def hitD (d : Tn.Dc) (id : ByteArray) (sc : Int) (k : Nat) : Bool := (idOf d k).isSome && (((idOf d k).getD ⟨#[]⟩).toList == id.toList) && (scopeD d (k : Int) == sc)

set_option maxHeartbeats 1600000 in
theorem find1_any {w : World} {b o c D I C : Nat} {rs : List Raw} {d : Tn.Dc} {id : ByteArray} {sc : Int} (hd : DocAt w b o c rs d) (hg : Tame d) (hD : w.cell? ⟨D, 0, none⟩ = some (.slice (some ⟨b, o, none⟩) rs.length c)) (hI : w.cell? ⟨I, 0, none⟩ = some (.string id)) (hC : w.cell? ⟨C, 0, none⟩ = some (.int .i64 sc))
    (k : Nat) (hr : Rising (Tn.nd d k).attrs) (hal : (Tn.nd d k).attrs.length ≤ 1000) :
    Calls Tryz.prog 106 #[.int .i64 (k : Int), .pointer (some ⟨D, 0, none⟩), .pointer (some ⟨I, 0, none⟩), .pointer (some ⟨C, 0, none⟩)] w fun e w' => e = .returned (.bool (hitD d id sc k)) ∧ Below w.heap.size w w' := by
  have H : Hid (DocAt w b o c rs d) := hd
  have hA := dattr_id hd k hr hal
  have HD : Hid (hitD d id sc k = ((idOf d k).isSome && (((idOf d k).getD ⟨#[]⟩).toList == id.toList) && (scopeD d (k : Int) == sc))) := rfl
  have hS : ∀ W, DocAt W b o c rs d → Calls Tryz.prog 103 #[.slice (some ⟨b, o, none⟩) rs.length c, .int .i64 (k : Int)] W fun e w' => e = .returned (.int .i64 (scopeD d (k : Int))) ∧ Below W.heap.size W w' := fun W h => dscope_any h hg k
  clear hd
  generalize hitD d id sc k = res at *
  generalize scopeD d (k : Int) = sk at *
  cases hx : (idOf d k).isSome with
  | false =>
    have E : Hid (res = false) := by show _ = _; rw [HD.out, hx]; rfl
    rw [hx] at hA
    clear hx HD
    generalize (idOf d k).getD ⟨#[]⟩ = vv at *
    go_enter Tryz.func106, Tryz.ntmps106
    go_wp2_with (go_at_call 48; refine hA.mono ?_; rintro e w9 ⟨rfl, hb9⟩)
    have d9 := keeps_below hb9 (Nat.le_refl _) _ _ hD
    have i9 := keeps_below hb9 (Nat.le_refl _) _ _ hI
    have c9 := keeps_below hb9 (Nat.le_refl _) _ _ hC
    go_quiet (fail)
    go_wp2_with fail
    go_ret
    exact ⟨by rw [E.out]; rfl, hb9.trans ⟨rfl, rfl, rfl, Nat.le_refl _, fun _ _ => rfl⟩⟩
  | true =>
    rw [hx] at hA HD
    clear hx
    generalize (idOf d k).getD ⟨#[]⟩ = vv at *
    cases hq : (vv.toList == id.toList) with
    | false =>
      have E : Hid (res = false) := by show _ = _; rw [HD.out, hq]; rfl
      clear HD
      go_enter Tryz.func106, Tryz.ntmps106
      go_wp2_with (go_at_call 48; refine hA.mono ?_; rintro e w9 ⟨rfl, hb9⟩)
      have d9 := keeps_below hb9 (Nat.le_refl _) _ _ hD
      have i9 := keeps_below hb9 (Nat.le_refl _) _ _ hI
      have c9 := keeps_below hb9 (Nat.le_refl _) _ _ hC
      go_quiet (fail)
      go_wp2_with fail
      go_ret
      exact ⟨by rw [E.out]; rfl, hb9.trans ⟨rfl, rfl, rfl, Nat.le_refl _, fun _ _ => rfl⟩⟩
    | true =>
      have E : Hid (res = (sk == sc)) := by show _ = _; rw [HD.out, hq]; rfl
      clear HD
      go_enter Tryz.func106, Tryz.ntmps106
      go_wp2_with (go_at_call 48; refine hA.mono ?_; rintro e w9 ⟨rfl, hb9⟩)
      have J9 := keeps_below hb9 (Nat.le_refl _)
      have d9 := J9 _ _ hD
      have i9 := J9 _ _ hI
      have c9 := J9 _ _ hC
      have D9 : Hid (DocAt w9 b o c rs d) := H.out.keeps J9
      have SS : ∀ w'', Keeps w9 w'' → (fun w'' => w''.cell? ⟨D, 0, none⟩ = some (.slice (some ⟨b, o, none⟩) rs.length c) ∧ w''.cell? ⟨I, 0, none⟩ = some (.string id) ∧ w''.cell? ⟨C, 0, none⟩ = some (.int .i64 sc)) w'' := fun w'' hk => ⟨hk _ _ d9, hk _ _ i9, hk _ _ c9⟩
      go_region_held3 (fun w'' => w''.cell? ⟨D, 0, none⟩ = some (.slice (some ⟨b, o, none⟩) rs.length c) ∧ w''.cell? ⟨I, 0, none⟩ = some (.string id) ∧ w''.cell? ⟨C, 0, none⟩ = some (.int .i64 sc))
        ((apply SS; first | exact Keeps.refl _ | assumption | exact keeps_drew (Keeps.refl _)))
        (first
          | (go_at_call 103; refine (hS _ (D9.out.keeps (keeps_drew (Keeps.refl _)))).mono ?_; rintro e wa ⟨rfl, hba⟩; have Ja : Keeps w9 wa := (keeps_drew (Keeps.refl w9)).trans (keeps_below hba (Nat.le_refl _))))
      all_goals
        go_wp2_with fail
        go_ret
        exact ⟨by rw [E.out]; rfl, hb9.trans ((Below.refl _ w9).drew.trans (hba.mono hb9.size))⟩
end Go.Proofs.YtbinbojicmhdlaeGreatDoor
