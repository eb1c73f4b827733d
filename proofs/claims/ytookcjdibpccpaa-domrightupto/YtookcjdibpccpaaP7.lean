/-
  OWN WORK: Fmb, Odo, Dsa, Dsb, Idl, Dse, Dsm, Dix.
-/
import Derived.Test.YtookcjdibpccpaaP6
import Derived.Test.YtookcjdibpccpaaP4
import Derived.Test.YtookcjdibpccpaaP1
import Derived.Test.YtookcjdibpccpaaP5
/-
  PLAIN MATHEMATICS: what is shown is shown once; each node in one other, that stands ahead of it.
-/
namespace Go.Proofs.Ytookcjdibpccpaa
open Tn

/-- in what a node is shown, if it is -/
def fpar (d : Dc) (k : Nat) : Int := if (nd d k).inS then (nd d k).up else if (nd d (upD d k)).hasS then slotD d (k : Int) else (nd d k).up

theorem kid_nat {d : Dc} {p : Int} {k : Nat} (hk : k ∈ kidsD d p) : ∃ n : Nat, p = (n : Int) ∧ lvD d n = true := by
  unfold kidsD at hk
  split at hk
  · rename_i hi
    obtain ⟨n, rfl, _, hl⟩ := isN_nat hi
    exact ⟨n, rfl, hl⟩
  · simp at hk

theorem orI_nat {o : Option Nat} {n : Nat} (h : orI o = (n : Int)) : o = some n := by
  cases o with
  | none => simp only [orI] at h; omega
  | some m => simp only [orI] at h; rw [show m = n by omega]

theorem slot_of {d : Dc} {k n : Nat} (h : slotD d (k : Int) = (n : Int)) : slottedD d (k : Int) = true ∧ (all fuel d (nd d k).up.toNat).find? (fitsD d (valN d (k : Int) slotB) (nd d k).up) = some n := by
  unfold slotD at h
  split at h
  · rename_i hs
    rw [Int.toNat_natCast] at h
    exact ⟨hs, orI_nat h⟩
  · omega

theorem slotted_of {d : Dc} {k : Nat} (h : slottedD d (k : Int) = true) : lvD d k = true ∧ (nd d k).inS = false ∧ (∃ u : Nat, (nd d k).up = (u : Int) ∧ lvD d u = true) ∧ (nd d (upD d k)).hasS = true := by
  unfold slottedD at h
  simp only [Bool.and_eq_true] at h
  obtain ⟨⟨⟨h1, h2⟩, h3⟩, h4⟩ := h
  rw [Int.toNat_natCast] at h2 h3 h4
  obtain ⟨u, hu, _, hl⟩ := isN_nat (isN_true h3)
  exact ⟨by rw [← isN_iff]; exact h1, by simpa using h2, ⟨u, hu, hl⟩, h4⟩

theorem kid_par {d : Dc} (h : Fine d) {n k : Nat} (hk : k ∈ kidsD d (n : Int)) : lvD d n = true ∧ lvD d k = true ∧ 0 < k ∧ (n : Int) = fpar d k ∧ (∃ s, k ∈ liD d (upD d k) s) ∧
    ((n = upD d k) ∨ (slotD d (k : Int) = (n : Int) ∧ k ∈ (nd d (upD d k)).kids)) := by
  obtain ⟨r, hr, _⟩ := h.good.tr
  have hk0 := hk
  unfold kidsD at hk
  split at hk
  · rename_i hi
    have hn : lvD d n = true := by rw [← isN_iff]; exact hi
    rw [Int.toNat_natCast] at hk
    have up_eq : ∀ s, k ∈ liD d n s → lvD d k = true ∧ 0 < k ∧ upD d k = n ∧ (nd d k).inS = s ∧ (nd d k).up = (n : Int) := by
      intro s hs
      obtain ⟨_, h2, h3, h4, h5⟩ := hr.1.mem n s k hs
      have := hr.2 k h3 h2
      refine ⟨h2, h3, h4, h5, ?_⟩
      have e : (nd d k).up.toNat = n := h4
      omega
    split at hk
    · obtain ⟨h1, h2, h3, h4, h5⟩ := up_eq true hk
      exact ⟨hn, h1, h2, by unfold fpar; rw [h4, if_pos rfl, h5], ⟨true, by rw [h3]; exact hk⟩, Or.inl h3.symm⟩
    · rename_i hs
      split at hk
      · obtain ⟨h1, h2, h3, h4, h5⟩ := up_eq false hk
        exact ⟨hn, h1, h2, by unfold fpar; rw [h4, if_neg (by simp), h3, if_neg hs, h5], ⟨false, by rw [h3]; exact hk⟩, Or.inl h3.symm⟩
      · unfold givenD at hk
        split at hk
        · obtain ⟨s, hsc, _⟩ := h.okd.scope n hn
          rw [hsc, Int.toNat_natCast, List.mem_filter] at hk
          obtain ⟨hk1, hk2⟩ := hk
          have hsl : slotD d (k : Int) = (n : Int) := by simpa using hk2
          obtain ⟨_, g2, g3, g4, g5⟩ := hr.1.mem s false k hk1
          obtain ⟨hs1, _⟩ := slot_of hsl
          obtain ⟨_, hi2, _, hh⟩ := slotted_of hs1
          refine ⟨hn, g2, g3, ?_, ⟨false, by rw [g4]; exact hk1⟩, Or.inr ⟨hsl, by rw [g4]; exact hk1⟩⟩
          unfold fpar
          rw [hi2, if_neg (by simp), if_pos hh, hsl]
        · simp at hk
  · simp at hk

theorem kid_one {d : Dc} (h : Fine d) {a b k : Nat} (ha : k ∈ kidsD d (a : Int)) (hb : k ∈ kidsD d (b : Int)) : a = b := by
  have h1 := (kid_par h ha).2.2.2.1
  have h2 := (kid_par h hb).2.2.2.1
  omega

theorem pair_sub {a b : Nat} {l : List Nat} (hb : b ∈ l) : [a, b].Sublist (a :: l) := List.Sublist.cons_cons _ (List.singleton_sublist.mpr hb)

theorem live_all {d : Dc} (h : Fine d) {n : Nat} (hn : lvD d n = true) : n ∈ allD d 0 := by
  obtain ⟨r, hr, _⟩ := h.good.tr
  exact (sub_root h hr _ n rfl hn).subset (allD_self h hn)

theorem kid_before {d : Dc} (h : Fine d) {n k : Nat} (hk : k ∈ kidsD d (n : Int)) : [n, k].Sublist (allD d 0) := by
  obtain ⟨r, hr, _⟩ := h.good.tr
  obtain ⟨h1, h2, h3, _, ⟨s, h5⟩, h6⟩ := kid_par h hk
  rcases h6 with e | ⟨hsl, hkk⟩
  · rw [← e] at h5
    exact ((pair_sub (allD_self h h2)).trans (sub_child h h5)).trans (sub_root h hr _ n rfl h1)
  · obtain ⟨hs1, hs2⟩ := slot_of hsl
    obtain ⟨_, _, ⟨u, hu, hul⟩, hh⟩ := slotted_of hs1
    have hud : upD d k = u := by unfold upD; rw [hu]; simp
    rw [hud] at hh hkk
    rw [hu, Int.toNat_natCast] at hs2
    have hs3 := slot_shadow h hul hh (valN d (k : Int) slotB)
    have hs4 : ((nd d u).shadow.flatMap (allD d)).find? (fitsD d (valN d (k : Int) slotB) (u : Int)) = some n := by rw [← hs3]; exact hs2
    have hnm := List.mem_of_find?_eq_some hs4
    have hkm : k ∈ (nd d u).kids.flatMap (allD d) := List.mem_flatMap.mpr ⟨k, hkk, allD_self h h2⟩
    have h7 : [n, k].Sublist (allD d u) := by
      rw [allD_eq h hul]
      refine List.Sublist.cons _ ?_
      rw [show [n, k] = [n] ++ [k] from rfl]
      exact List.Sublist.append (List.singleton_sublist.mpr hnm) (List.singleton_sublist.mpr hkm)
    exact h7.trans (sub_root h hr _ u rfl hul)

theorem idx_ne {a x : Nat} {l : List Nat} (h : a ≠ x) : (x :: l).idxOf a = l.idxOf a + 1 := by
  rw [List.idxOf_cons]
  have : (x == a) = false := by simp; omega
  rw [this]
  rfl
theorem idx_lt : ∀ (l : List Nat) (a b : Nat), l.Nodup → [a, b].Sublist l → l.idxOf a < l.idxOf b
  | [], _, _, _, h => by simp at h
  | x :: l, a, b, hn, h => by
    obtain ⟨h1, h2⟩ := List.nodup_cons.mp hn
    cases h with
    | cons _ h =>
      have ha : a ≠ x := fun e => h1 (by rw [← e]; exact h.subset (by simp))
      have hb : b ≠ x := fun e => h1 (by rw [← e]; exact h.subset (by simp))
      have := idx_lt l a b h2 h
      rw [idx_ne ha, idx_ne hb]
      omega
    | cons_cons _ h =>
      have hb : b ∈ l := List.singleton_sublist.mp h
      have hne : b ≠ x := fun e => h1 (by rw [← e]; exact hb)
      rw [List.idxOf_cons_self, idx_ne hne]
      omega

/-- a node's place among all -/
def posD (d : Dc) (n : Nat) : Nat := (allD d 0).idxOf n

theorem kid_pos {d : Dc} (h : Fine d) {n k : Nat} (hk : k ∈ kidsD d (n : Int)) : posD d n < posD d k := by
  obtain ⟨r, hr, _⟩ := h.good.tr
  exact idx_lt _ _ _ (allD_nodup h hr.1.root) (kid_before h hk)

theorem pos_lt {d : Dc} (h : Fine d) {n : Nat} (hn : lvD d n = true) : posD d n < (allD d 0).length := List.idxOf_lt_length_of_mem (live_all h hn)

theorem all_few {d : Dc} (h : Fine d) : (allD d 0).length ≤ 60 := by
  obtain ⟨r, hr, _⟩ := h.good.tr
  exact Nat.le_trans (nodup_le d.length _ (allD_nodup h hr.1.root) (fun x hx => lv_lt (allD_live h hr.1.root hx))) h.good.len.2

theorem end_of {d : Dc} (h : Fine d) : ∀ (f n : Nat), lvD d n = true → (allD d 0).length ≤ posD d n + f → EndF f d n
  | 0, n, hn, hf => by have := pos_lt h hn; omega
  | f + 1, n, _, hf => fun k hk => end_of h f k (kid_par h hk).2.1 (by have := kid_pos h hk; omega)

theorem fine_end {d : Dc} (h : Fine d) : EndF fuel d 0 := by
  obtain ⟨r, hr, _⟩ := h.good.tr
  exact end_of h fuel 0 hr.1.root (by have := all_few h; unfold fuel; omega)

theorem shown_live {d : Dc} (h : Fine d) : ∀ (f a x : Nat), lvD d a = true → x ∈ shownF f d a → lvD d x = true ∧ posD d a ≤ posD d x
  | 0, _, _, _, hx => by simp [shownF] at hx
  | f + 1, a, x, ha, hx => by
    rw [shownF] at hx
    rcases List.mem_cons.mp hx with rfl | hx
    · exact ⟨ha, Nat.le_refl _⟩
    · obtain ⟨c, hc, hxc⟩ := List.mem_flatMap.mp hx
      obtain ⟨h1, h2⟩ := shown_live h f c x (kid_par h hc).2.1 hxc
      have := kid_pos h hc
      exact ⟨h1, by omega⟩

theorem shown_par {d : Dc} : ∀ (f a x : Nat), x ∈ shownF f d a → x ≠ a → ∃ y : Nat, x ∈ kidsD d (y : Int) ∧ [y, x].Sublist (shownF f d a)
  | 0, _, _, hx, _ => by simp [shownF] at hx
  | f + 1, a, x, hx, hne => by
    rw [shownF] at hx ⊢
    rcases List.mem_cons.mp hx with e | hx
    · exact absurd e hne
    · obtain ⟨c, hc, hxc⟩ := List.mem_flatMap.mp hx
      by_cases e : x = c
      · exact ⟨a, by rw [e]; exact hc, pair_sub hx⟩
      · obtain ⟨y, h1, h2⟩ := shown_par f c x hxc e
        exact ⟨y, h1, (h2.trans (sub_flat hc)).trans (List.sublist_cons_self _ _)⟩

/-- of two nodes in which one is shown, one is shown in the other -/
theorem shown_two {d : Dc} (h : Fine d) {f g a b : Nat} : ∀ (m x : Nat), posD d x ≤ m → x ∈ shownF f d a → x ∈ shownF g d b → a ∈ shownF g d b ∨ b ∈ shownF f d a := by
  intro m
  induction m with
  | zero =>
    intro x hm hxa hxb
    by_cases e : x = a
    · exact Or.inl (by rw [← e]; exact hxb)
    · obtain ⟨y, h1, _⟩ := shown_par f a x hxa e
      have := kid_pos h h1
      omega
  | succ m ih =>
    intro x hm hxa hxb
    by_cases e : x = a
    · exact Or.inl (by rw [← e]; exact hxb)
    · by_cases e2 : x = b
      · exact Or.inr (by rw [← e2]; exact hxa)
      · obtain ⟨y, h1, h2⟩ := shown_par f a x hxa e
        obtain ⟨z, h3, h4⟩ := shown_par g b x hxb e2
        obtain rfl := kid_one h h1 h3
        have := kid_pos h h1
        exact ih y (by omega) (h2.subset (by simp)) (h4.subset (by simp))

theorem kids_nodup {d : Dc} (h : Fine d) (p : Int) : (kidsD d p).Nodup := by
  obtain ⟨r, hr, _⟩ := h.good.tr
  unfold kidsD
  split
  · split
    · exact hr.1.nodup p.toNat true
    · split
      · exact hr.1.nodup p.toNat false
      · unfold givenD
        split
        · exact List.Pairwise.filter _ (hr.1.nodup (scopeD d p).toNat false)
        · exact List.nodup_nil
  · exact List.nodup_nil

theorem shown_nodup {d : Dc} (h : Fine d) : ∀ (f n : Nat), lvD d n = true → (shownF f d n).Nodup
  | 0, _, _ => List.nodup_nil
  | f + 1, n, _ => by
    rw [shownF, List.nodup_cons]
    constructor
    · intro hm
      obtain ⟨c, hc, hxc⟩ := List.mem_flatMap.mp hm
      have h1 := (shown_live h f c n (kid_par h hc).2.1 hxc).2
      have := kid_pos h hc
      omega
    · refine flat_nodup _ (kids_nodup h _) (fun a ha => shown_nodup h f a (kid_par h ha).2.1) ?_
      intro a ha b hb hne x hxa hxb
      have key : ∀ a b, a ∈ kidsD d (n : Int) → b ∈ kidsD d (n : Int) → a ≠ b → a ∈ shownF f d b → False := by
        intro a b ha hb hne hab
        obtain ⟨y, h1, h2⟩ := shown_par f b a hab hne
        obtain rfl := kid_one h h1 ha
        have h3 := (shown_live h f b y (kid_par h hb).2.1 (h2.subset (by simp))).2
        have := kid_pos h hb
        omega
      rcases shown_two h (f := f) (g := f) _ x (Nat.le_refl _) hxa hxb with g | g
      · exact key a b ha hb hne g
      · exact key b a hb ha (fun e => hne e.symm) g

theorem shown_few {d : Dc} (h : Fine d) (f : Nat) {n : Nat} (hn : lvD d n = true) : (shownF f d n).length ≤ 60 :=
  Nat.le_trans (nodup_le d.length _ (shown_nodup h f n hn) (fun x hx => lv_lt (shown_live h f n x hn hx).1)) h.good.len.2

/-- Up tells in what a node is shown -/
theorem up_of_kid {d : Dc} (h : Fine d) {n k : Nat} (hk : k ∈ kidsD d (n : Int)) : upF d (k : Int) = (n : Int) := by
  obtain ⟨r, hr, _⟩ := h.good.tr
  obtain ⟨h1, h2, h3, _, _, h6⟩ := kid_par h hk
  have hi : isN d (k : Int) false = true := by rw [isN_iff]; exact h2
  have hu : (nd d k).up = (upD d k : Int) := by have := hr.2 k h3 h2; unfold upD; omega
  unfold upF
  rw [if_pos hi, Int.toNat_natCast, hu]
  split
  · rename_i hc
    have := kid_one h (by simpa using hc) hk
    rw [this]
  · rename_i hc
    rcases h6 with e | ⟨hsl, _⟩
    · rw [← e] at hc
      exact absurd (by simpa using hk) hc
    · rw [hsl, if_pos (by simpa using hk)]

theorem up_root {d : Dc} (h : Fine d) : upF d 0 = -1 := by
  have hu := h.good.rootUp
  have hk : kidsD d (-1) = [] := by unfold kidsD; rw [if_neg]; unfold isN; simp
  have hs : slotD d 0 = -1 := by
    unfold slotD
    rw [if_neg]
    unfold slottedD isN
    simp [hu]
  unfold upF
  split
  · rw [show (0 : Int).toNat = 0 from rfl, hu, hk, hs, hk]
    rfl
  · rfl

theorem up_none {d : Dc} {n : Int} (hn : ∀ m : Nat, ∀ k ∈ kidsD d (m : Int), (k : Int) ≠ n) : upF d n = -1 := by
  unfold upF
  split
  · rename_i hi
    obtain ⟨k, rfl, _, _⟩ := isN_nat hi
    rw [Int.toNat_natCast]
    have no : ∀ p : Int, (kidsD d p).contains k = false := by
      intro p
      cases hc : (kidsD d p).contains k with
      | false => rfl
      | true =>
        have hm : k ∈ kidsD d p := by simpa using hc
        obtain ⟨m, rfl, _⟩ := kid_nat hm
        exact absurd rfl (hn m k hm)
    rw [no, no]
    rfl
  · rfl

theorem ahead_take {l : List Nat} {p n j : Nat} (hn : l.Nodup) (hs : [p, n].Sublist l) (hj : j < l.length) (he : l[j] = n) : p ∈ l.take j := by
  have h1 := idx_lt l p n hn hs
  have hp : p ∈ l := hs.subset (by simp)
  have h2 : l.idxOf n = j := by rw [← he]; exact hn.idxOf_getElem j hj
  rw [h2] at h1
  rw [List.mem_take_iff_getElem]
  exact ⟨l.idxOf p, by have := List.idxOf_lt_length_of_mem hp; omega, List.getElem_idxOf _⟩
end Go.Proofs.Ytookcjdibpccpaa

/-
  A DOCUMENT THAT IS THE CALL's OWN, and one list, or one scalar, of one node that is written.
-/
namespace Go.Proofs.Ytookcjdibpccpaa
open Go.RowKit

/-- the lists of a node: its attributes, its kids, its shadow tree -/
def lst (r : Raw) : Fin 3 → Sl
  | 0 => r.a
  | 1 => r.k
  | 2 => r.s
def sblk (s : Sl) : Option Nat := s.p.map (·.block)
def blk (r : Raw) (t : Fin 3) : Option Nat := sblk (lst r t)

theorem sblk_own (s : Sl) : (Value.slice s.p s.n s.c).ownBlock = sblk s := by
  unfold sblk
  cases s.p <;> rfl

/-- no two lists lie in one block, none in the row's -/
structure Sep (g : Nat) (rs : List Raw) : Prop where
  row : ∀ k (h : k < rs.length) t, blk rs[k] t ≠ some g
  one : ∀ k (h : k < rs.length) t k' (h' : k' < rs.length) t' x, blk rs[k] t = some x → blk rs[k'] t' = some x → k = k' ∧ t = t'

theorem blk_mem {r : Raw} {t : Fin 3} {x : Nat} (h : blk r t = some x) : x ∈ r.blocks := by
  unfold blk sblk at h
  unfold Raw.blocks
  rw [List.map_append, List.map_append, List.mem_append, List.mem_append]
  match t with
  | 0 => left; left; cases hp : r.a.p with | none => simp [lst, hp] at h | some a => simp [lst, hp] at h; simp [h]
  | 1 => left; right; cases hp : r.k.p with | none => simp [lst, hp] at h | some a => simp [lst, hp] at h; simp [h]
  | 2 => right; cases hp : r.s.p with | none => simp [lst, hp] at h | some a => simp [lst, hp] at h; simp [h]

theorem blk_two {r : Raw} {t t' : Fin 3} {x : Nat} (hn : r.blocks.Nodup) (h : blk r t = some x) (h' : blk r t' = some x) : t = t' := by
  unfold Raw.blocks at hn
  rw [List.map_append, List.map_append, List.nodup_append, List.nodup_append] at hn
  obtain ⟨⟨_, _, h12⟩, _, h3⟩ := hn
  have m0 : ∀ y, blk r 0 = some y → y ∈ r.a.p.toList.map (·.block) := fun y hy => by unfold blk sblk lst at hy; cases hp : r.a.p with | none => simp [hp] at hy | some a => simp [hp] at hy; simp [hy]
  have m1 : ∀ y, blk r 1 = some y → y ∈ r.k.p.toList.map (·.block) := fun y hy => by unfold blk sblk lst at hy; cases hp : r.k.p with | none => simp [hp] at hy | some a => simp [hp] at hy; simp [hy]
  have m2 : ∀ y, blk r 2 = some y → y ∈ r.s.p.toList.map (·.block) := fun y hy => by unfold blk sblk lst at hy; cases hp : r.s.p with | none => simp [hp] at hy | some a => simp [hp] at hy; simp [hy]
  have d01 : ∀ y, blk r 0 = some y → blk r 1 = some y → False := fun y a b => h12 y (m0 y a) y (m1 y b) rfl
  have d02 : ∀ y, blk r 0 = some y → blk r 2 = some y → False := fun y a b => h3 y (List.mem_append_left _ (m0 y a)) y (m2 y b) rfl
  have d12 : ∀ y, blk r 1 = some y → blk r 2 = some y → False := fun y a b => h3 y (List.mem_append_right _ (m1 y a)) y (m2 y b) rfl
  match t, t' with
  | 0, 0 => rfl
  | 1, 1 => rfl
  | 2, 2 => rfl
  | 0, 1 => exact (d01 x h h').elim
  | 1, 0 => exact (d01 x h' h).elim
  | 0, 2 => exact (d02 x h h').elim
  | 2, 0 => exact (d02 x h' h).elim
  | 1, 2 => exact (d12 x h h').elim
  | 2, 1 => exact (d12 x h' h).elim

theorem flat_two {α : Type} {f : α → List Nat} : ∀ {l : List α}, (l.flatMap f).Nodup → ∀ i (hi : i < l.length) j (hj : j < l.length) x, x ∈ f l[i] → x ∈ f l[j] → i = j ∧ (f l[i]).Nodup
  | [], _, i, hi, _, _, _, _, _ => by simp at hi
  | a :: l, hn, i, hi, j, hj, x, h1, h2 => by
    rw [List.flatMap_cons, List.nodup_append] at hn
    obtain ⟨ha, hl, hd⟩ := hn
    match i, j with
    | 0, 0 => exact ⟨rfl, ha⟩
    | i + 1, j + 1 =>
      obtain ⟨e, h3⟩ := flat_two hl i (by simpa using hi) j (by simpa using hj) x (by simpa using h1) (by simpa using h2)
      exact ⟨by omega, by simpa using h3⟩
    | 0, j + 1 => exact absurd rfl (hd x (by simpa using h1) x (List.mem_flatMap.mpr ⟨_, List.getElem_mem (by simpa using hj), by simpa using h2⟩))
    | i + 1, 0 => exact absurd rfl (hd x (by simpa using h2) x (List.mem_flatMap.mpr ⟨_, List.getElem_mem (by simpa using hi), by simpa using h1⟩))

/-- a document that is the call's own -/
structure Owned (w : World) (B g c : Nat) (rs : List Raw) (d : Tn.Dc) : Prop where
  row : OwnN w B (.slice (some ⟨g, 0, none⟩) rs.length c) rs
  len : rs.length = d.length
  nds : ∀ k (h : k < rs.length) (h' : k < d.length), OwnNd w B rs[k] d[k]
  sep : Sep g rs
  low : ∀ k (h : k < rs.length) t x, blk rs[k] t = some x → x < w.heap.size

theorem OwnDoc.owned {w : World} {B g c : Nat} {rs : List Raw} {d : Tn.Dc} (h : OwnDoc w B g c rs d) : Owned w B g c rs d := by
  obtain ⟨hg, hn⟩ := List.nodup_cons.mp h.sep
  refine ⟨h.row, h.len, h.nds, ⟨fun k hk t e => hg (List.mem_flatMap.mpr ⟨rs[k], List.getElem_mem hk, blk_mem e⟩), fun k hk t k' hk' t' x e1 e2 => ?_⟩, fun k hk t x e => h.low x (List.mem_flatMap.mpr ⟨rs[k], List.getElem_mem hk, blk_mem e⟩)⟩
  obtain ⟨e, h3⟩ := flat_two hn k hk k' hk' x (blk_mem e1) (blk_mem e2)
  subst e
  exact ⟨rfl, blk_two h3 e1 e2⟩

theorem Owned.doc {w : World} {B g c : Nat} {rs : List Raw} {d : Tn.Dc} (h : Owned w B g c rs d) (h0 : 0 < rs.length) : DocAt w g 0 c rs d := by
  obtain ⟨g', c', e, h1, h2, _, _, h4, _⟩ := own_at h.row h0
  cases e
  exact ⟨h1, h2, h.len, h4, fun k hk hk' => (h.nds k hk hk').nd⟩
theorem Owned.at {w : World} {B g c : Nat} {rs : List Raw} {d : Tn.Dc} (h : Owned w B g c rs d) (h0 : 0 < rs.length) : B ≤ g ∧ g < w.heap.size ∧ ∀ j, w.frozen? ⟨g, j, none⟩ = false := by
  obtain ⟨g', c', e, _, _, h3, h4, _, h6⟩ := own_at h.row h0
  cases e
  exact ⟨h3, h4, h6⟩

/-- rows of the call's own stay when another block is written -/
theorem owns_grown {w w' : World} {B e k n : Nat} {s : Sl} {xs : List Value} {row : Option Nat} (h : w.ownsRow B e k (.slice s.p s.n s.c) n xs) (hg : w.grownBy w' row) (hne : ∀ x, sblk s = some x → row ≠ some x) : w'.ownsRow B e k (.slice s.p s.n s.c) n xs := by
  refine World.ownsRow.kept h hg ?_
  rw [sblk_own]
  cases hs : sblk s with
  | none => exact Or.inl rfl
  | some x => exact Or.inr (fun e => hne x hs e.symm)

theorem OwnNd.grown {w w' : World} {B : Nat} {r : Raw} {n : Tn.Nd} {row : Option Nat} (h : OwnNd w B r n) (hg : w.grownBy w' row) (hne : ∀ t x, blk r t = some x → row ≠ some x) : OwnNd w' B r n :=
  ⟨h.live, h.tag, h.text, h.up, h.hasS, h.inS, owns_grown h.attrs hg (hne 0), owns_grown h.kids hg (hne 1), owns_grown h.shadow hg (hne 2)⟩

theorem OwnNd.setRow {w : World} {B g i : Nat} {r : Raw} {n : Tn.Nd} (h : OwnNd w B r n) (hne : ∀ t, blk r t ≠ some g) (u : Value) : OwnNd (w.setCell ⟨g, i, none⟩ u) B r n :=
  h.grown (grow_set (grown_refl w (some g)) i u) (fun t x hx e => hne t (by rw [hx]; exact e.symm))

theorem Owned.below {w w' : World} {B C g c : Nat} {rs : List Raw} {d : Tn.Dc} (h : Owned w B g c rs d) (hb : Below C w w') (hC : w.heap.size ≤ C) : Owned w' B g c rs d :=
  ⟨owns_below h.row hb hC, h.len, fun k hk hk' => (h.nds k hk hk').below hb hC, h.sep, fun k hk t x e => Nat.lt_of_lt_of_le (h.low k hk t x e) hb.size⟩

/-- one list of one node is another one: it lies where it lay, or in a block that was not there -/
theorem Owned.list {w w1 : World} {B g c : Nat} {rs : List Raw} {d : Tn.Dc} (h : Owned w B g c rs d) {k : Nat} (hk : k < rs.length) (t : Fin 3) {r' : Raw} {n' : Tn.Nd} (hgr : w.grownBy w1 (blk rs[k] t))
    (hoth : ∀ t', t' ≠ t → lst r' t' = lst rs[k] t') (hnew : blk r' t = blk rs[k] t ∨ ∃ x, w.heap.size ≤ x ∧ x < w1.heap.size ∧ blk r' t = some x) (hnd : OwnNd w1 B r' n') (i : Nat) (hi : i < 9) (v : Value) (hcells : r'.cells = rs[k].cells.set i v) :
    Owned (w1.setCell ⟨g, k * 9 + i, none⟩ v) B g c (rs.set k r') (d.set k n') := by
  have h0 : 0 < rs.length := by omega
  obtain ⟨hBg, hgl, _⟩ := h.at h0
  have hb' : ∀ t' x, blk r' t' = some x → (t' ≠ t ∧ blk rs[k] t' = some x) ∨ (t' = t ∧ (blk rs[k] t = some x ∨ w.heap.size ≤ x ∧ x < w1.heap.size)) := by
    intro t' x hx
    by_cases e : t' = t
    · subst e
      rcases hnew with e2 | ⟨y, hy1, hy2, hy3⟩
      · exact Or.inr ⟨rfl, Or.inl (by rw [← e2]; exact hx)⟩
      · rw [hy3] at hx
        cases hx
        exact Or.inr ⟨rfl, Or.inr ⟨hy1, hy2⟩⟩
    · refine Or.inl ⟨e, ?_⟩
      unfold blk at hx ⊢
      rw [← hoth t' e]
      exact hx
  have rowk : w1.ownsRow B 56 9 (.slice (some ⟨g, 0, none⟩) rs.length c) rs.length (rs.flatMap Raw.cells) := owns_grown (s := ⟨some ⟨g, 0, none⟩, rs.length, c⟩) h.row hgr (fun x hx e => by
    have hx' : g = x := by simpa [sblk] using hx
    rw [← hx'] at e
    exact h.sep.row k hk t e)
  refine ⟨?_, by simpa using h.len, ?_, ⟨?_, ?_⟩, ?_⟩
  · have := own_set1 rfl rowk k hk i hi v r' hcells
    simpa using this
  · intro j hj hj'
    have hj1 : j < rs.length := by simpa using hj
    have hj2 : j < d.length := by simpa using hj'
    by_cases e : j = k
    · subst e
      simp only [List.getElem_set_self]
      refine hnd.setRow (fun t' e2 => ?_) v
      rcases hb' t' g e2 with ⟨_, e3⟩ | ⟨_, e3 | ⟨e3, _⟩⟩
      · exact h.sep.row j hj1 t' e3
      · exact h.sep.row j hj1 t e3
      · omega
    · rw [List.getElem_set_ne (fun x => e x.symm), List.getElem_set_ne (fun x => e x.symm)]
      refine ((h.nds j hj1 hj2).grown hgr (fun t' x hx e2 => ?_)).setRow (fun t' => h.sep.row j hj1 t') v
      exact e (h.sep.one j hj1 t' k hk t x hx e2).1
  · intro j hj t' e2
    have hj1 : j < rs.length := by simpa using hj
    by_cases e : j = k
    · subst e
      rw [List.getElem_set_self] at e2
      rcases hb' t' g e2 with ⟨_, e3⟩ | ⟨_, e3 | ⟨e3, _⟩⟩
      · exact h.sep.row j hj1 t' e3
      · exact h.sep.row j hj1 t e3
      · omega
    · rw [List.getElem_set_ne (fun x => e x.symm)] at e2
      exact h.sep.row j hj1 t' e2
  · intro j hj t1 j' hj' t2 x e1 e2
    have hj1 : j < rs.length := by simpa using hj
    have hj2 : j' < rs.length := by simpa using hj'
    have key : ∀ (j : Nat) (hj : j < (rs.set k r').length) t1, (rs.set k r')[j] = (rs.set k r')[j] → blk (rs.set k r')[j] t1 = some x → (∃ hj1 : j < rs.length, blk rs[j] t1 = some x) ∨ (j = k ∧ t1 = t ∧ w.heap.size ≤ x) := by
      intro j hj t1 _ e1
      have hj1 : j < rs.length := by simpa using hj
      by_cases e : j = k
      · subst e
        rw [List.getElem_set_self] at e1
        rcases hb' t1 x e1 with ⟨_, e3⟩ | ⟨e4, e3 | ⟨e3, _⟩⟩
        · exact Or.inl ⟨hj1, e3⟩
        · exact Or.inl ⟨hj1, by rw [e4]; exact e3⟩
        · exact Or.inr ⟨rfl, e4, e3⟩
      · rw [List.getElem_set_ne (fun x => e x.symm)] at e1
        exact Or.inl ⟨hj1, e1⟩
    rcases key j hj t1 rfl e1 with ⟨q1, g1⟩ | ⟨q1, q2, q3⟩
    · rcases key j' hj' t2 rfl e2 with ⟨p1, g2⟩ | ⟨p1, p2, p3⟩
      · exact h.sep.one j q1 t1 j' p1 t2 x g1 g2
      · have := h.low j q1 t1 x g1
        omega
    · rcases key j' hj' t2 rfl e2 with ⟨p1, g2⟩ | ⟨p1, p2, p3⟩
      · have := h.low j' p1 t2 x g2
        omega
      · exact ⟨by rw [q1, p1], by rw [q2, p2]⟩
  · intro j hj t' x e2
    have hj1 : j < rs.length := by simpa using hj
    have hsz : (w1.setCell ⟨g, k * 9 + i, none⟩ v).heap.size = w1.heap.size := by simp
    rw [hsz]
    by_cases e : j = k
    · subst e
      rw [List.getElem_set_self] at e2
      rcases hb' t' x e2 with ⟨_, e3⟩ | ⟨_, e3 | ⟨_, e3⟩⟩
      · exact Nat.lt_of_lt_of_le (h.low j hj1 t' x e3) hgr.size
      · exact Nat.lt_of_lt_of_le (h.low j hj1 t x e3) hgr.size
      · exact e3
    · rw [List.getElem_set_ne (fun x => e x.symm)] at e2
      exact Nat.lt_of_lt_of_le (h.low j hj1 t' x e2) hgr.size

/-- one scalar of one node is another one -/
theorem Owned.scal {w : World} {B g c : Nat} {rs : List Raw} {d : Tn.Dc} (h : Owned w B g c rs d) {k : Nat} (hk : k < rs.length) {r' : Raw} {n' : Tn.Nd} (hoth : ∀ t', lst r' t' = lst rs[k] t') (hnd : OwnNd w B r' n') (i : Nat) (hi : i < 9) (v : Value) (hcells : r'.cells = rs[k].cells.set i v) :
    Owned (w.setCell ⟨g, k * 9 + i, none⟩ v) B g c (rs.set k r') (d.set k n') :=
  h.list hk 0 (grown_refl w _) (fun t' _ => hoth t') (Or.inl (by unfold blk; rw [hoth 0])) hnd i hi v hcells

/-- a block of the document -/
def DB (g : Nat) (rs : List Raw) (x : Nat) : Prop := x = g ∨ ∃ k, ∃ h : k < rs.length, ∃ t, blk rs[k] t = some x

/-- all blocks that there were are as they were, but for the document's; and no other one has come to be the document's -/
structure Fr (g : Nat) (rs : List Raw) (w : World) (g' : Nat) (rs' : List Raw) (w' : World) : Prop where
  size : w.heap.size ≤ w'.heap.size
  block : ∀ x, x < w.heap.size → ¬ DB g rs x → w'.heap[x]? = w.heap[x]?
  back : ∀ x, x < w.heap.size → DB g' rs' x → DB g rs x

/-- all blocks that there were are as they were, but for the document's -/
def Kpt (g : Nat) (rs : List Raw) (w w' : World) : Prop := ∀ x, x < w.heap.size → ¬ DB g rs x → w'.heap[x]? = w.heap[x]?

theorem Fr.refl (g : Nat) (rs : List Raw) (w : World) : Fr g rs w g rs w := ⟨Nat.le_refl _, fun _ _ _ => rfl, fun _ _ h => h⟩
theorem Fr.trans {g g' g'' : Nat} {rs rs' rs'' : List Raw} {a b c : World} (h : Fr g rs a g' rs' b) (k : Fr g' rs' b g'' rs'' c) : Fr g rs a g'' rs'' c :=
  ⟨Nat.le_trans h.size k.size, fun x hx hn => (k.block x (Nat.lt_of_lt_of_le hx h.size) (fun e => hn (h.back x hx e))).trans (h.block x hx hn), fun x hx e => h.back x hx (k.back x (Nat.lt_of_lt_of_le hx h.size) e)⟩
theorem Fr.below {g g' : Nat} {rs rs' : List Raw} {a b c : World} (h : Fr g rs a g' rs' b) (k : Below b.heap.size b c) : Fr g rs a g' rs' c :=
  ⟨Nat.le_trans h.size k.size, fun x hx hn => (k.block x (Nat.lt_of_lt_of_le hx h.size)).trans (h.block x hx hn), h.back⟩
theorem Fr.cell {g g' : Nat} {rs rs' : List Raw} {a b : World} (h : Fr g rs a g' rs' b) {p : Addr} {v : Value} (hv : a.cell? p = some v) (hn : ¬ DB g rs p.block) : b.cell? p = some v := by
  rw [← hv]
  exact World.cell?_of_block (h.block p.block (lt_of_cell hv) hn)

theorem Fr.list {w w1 : World} {g : Nat} {rs : List Raw} {k : Nat} (hk : k < rs.length) (t : Fin 3) {r' : Raw} (hgr : w.grownBy w1 (blk rs[k] t)) (hoth : ∀ t', t' ≠ t → lst r' t' = lst rs[k] t') (hnew : blk r' t = blk rs[k] t ∨ ∃ x, w.heap.size ≤ x ∧ x < w1.heap.size ∧ blk r' t = some x) (i : Nat) (v : Value) :
    Fr g rs w g (rs.set k r') (w1.setCell ⟨g, i, none⟩ v) := by
  refine ⟨by simpa using hgr.size, fun x hx hn => ?_, fun x hx hd => ?_⟩
  · rw [heap_setCell_other _ _ _ _ (fun e => hn (Or.inl e)), hgr.block x hx (fun e => hn (Or.inr ⟨k, hk, t, e.symm⟩))]
  · rcases hd with e | ⟨j, hj, t', e⟩
    · exact Or.inl e
    · have hj1 : j < rs.length := by simpa using hj
      by_cases ejk : j = k
      · subst ejk
        rw [List.getElem_set_self] at e
        by_cases et : t' = t
        · subst et
          rcases hnew with e2 | ⟨y, hy1, _, hy3⟩
          · exact Or.inr ⟨j, hj1, t', by rw [← e2]; exact e⟩
          · rw [hy3] at e
            cases e
            omega
        · exact Or.inr ⟨j, hj1, t', by unfold blk at e ⊢; rw [← hoth t' et]; exact e⟩
      · rw [List.getElem_set_ne (fun x => ejk x.symm)] at e
        exact Or.inr ⟨j, hj1, t', e⟩
theorem Fr.scal {w : World} {g : Nat} {rs : List Raw} {k : Nat} (hk : k < rs.length) {r' : Raw} (hoth : ∀ t', lst r' t' = lst rs[k] t') (i : Nat) (v : Value) : Fr g rs w g (rs.set k r') (w.setCell ⟨g, i, none⟩ v) :=
  Fr.list hk 0 (grown_refl w _) (fun t' _ => hoth t') (Or.inl (by unfold blk; rw [hoth 0])) i v
theorem Owned.free {w : World} {B g c : Nat} {rs : List Raw} {d : Tn.Dc} (h : Owned w B g c rs d) (h0 : 0 < rs.length) {x : Nat} (hx : w.heap.size ≤ x) : ¬ DB g rs x := by
  rintro (e | ⟨k, hk, t, e⟩)
  · have := (h.at h0).2.1
    omega
  · have := h.low k hk t x e
    omega
theorem Kpt.cell {g : Nat} {rs : List Raw} {a b : World} (h : Kpt g rs a b) {p : Addr} {v : Value} (hv : a.cell? p = some v) (hn : ¬ DB g rs p.block) : b.cell? p = some v := by
  rw [← hv]
  exact World.cell?_of_block (h p.block (lt_of_cell hv) hn)
end Go.Proofs.Ytookcjdibpccpaa

/-
  THE WALK of dom.setAttr, in a document of the call's own, at a node that has no attribute yet.
-/
namespace Go.Proofs.Ytookcjdibpccpaa
open Go.RowKit

theorem Owned.inner {w : World} {B g c : Nat} {rs : List Raw} {d : Tn.Dc} (h : Owned w B g c rs d) {k : Nat} (hk : k < rs.length) {t : Fin 3} {y : Nat} (hy : blk rs[k] t = some y) (i : Nat) (v : Value) {n' : Tn.Nd} (hnd : OwnNd (w.setCell ⟨y, i, none⟩ v) B rs[k] n') :
    Owned (w.setCell ⟨y, i, none⟩ v) B g c rs (d.set k n') := by
  have hyg : y ≠ g := fun e => h.sep.row k hk t (by rw [hy, e])
  refine ⟨owns_other h.row (by intro e; injection e with e; exact hyg e.symm) v, by rw [List.length_set]; exact h.len, fun j hj hj' => ?_, h.sep, fun j hj t' x e => by simpa using h.low j hj t' x e⟩
  by_cases e : k = j
  · subst e
    rw [List.getElem_set_self]
    exact hnd
  · rw [List.getElem_set_ne e]
    refine (h.nds j hj (by rw [← h.len]; exact hj)).grown (grow_set (grown_refl w (some y)) i v) (fun t' x hx ex => ?_)
    injection ex with ex
    subst ex
    exact e (h.sep.one k hk t j hj t' _ hy hx).1

theorem ownA_at {w : World} {B : Nat} {v : Value} {l : List Tn.At} (h : OwnA w B v l) (hn : 0 < l.length) : ∃ y c, v = .slice (some ⟨y, 0, none⟩) l.length c ∧ B ≤ y ∧ y < w.heap.size ∧ (∀ j, w.frozen? ⟨y, j, none⟩ = false) ∧ ∀ j x, (l.flatMap av)[j]? = some x → w.cell? ⟨y, j, none⟩ = some x := by
  obtain ⟨p, c, rfl⟩ := owns_shape h
  have hcl := cells_of_owns h
  obtain ⟨hl, hz⟩ := h
  rcases hz with ⟨h5, h5'⟩ | ⟨g', cap, cur, e, h3, h6, h7, h8, h9, h10⟩
  · have hl0 : (l.flatMap av).length = l.length * 2 := flat_len av 2 av_len l
    first
      | (rw [h5'] at hl0; simp at hl0; omega)
      | (injection h5 with a b c; omega)
  · cases e
    refine ⟨g', c, rfl, h3, ?_, fun j => by simp [World.frozen?, h6], fun j x hx => ?_⟩
    · apply Classical.byContradiction
      intro hn
      rw [Array.getElem?_eq_none (by omega)] at h6
      cases h6
    · obtain ⟨p2, c2, e2, _, _, _, hc2⟩ := hcl
      cases e2
      obtain ⟨b, o, e3, e4⟩ := hc2 j x hx
      cases e3
      rwa [Nat.zero_add] at e4

theorem Fr.inner {w : World} {g : Nat} {rs : List Raw} {k : Nat} (hk : k < rs.length) {t : Fin 3} {y : Nat} (hy : blk rs[k] t = some y) (i : Nat) (v : Value) : Fr g rs w g rs (w.setCell ⟨y, i, none⟩ v) :=
  ⟨by simp, fun x _ hn => heap_setCell_other _ _ _ _ (fun e => hn (Or.inr ⟨k, hk, t, by rw [hy]; first | exact congrArg some e.symm | exact congrArg some e⟩)), fun _ _ h => h⟩

set_option maxHeartbeats 400000 in
set_option maxRecDepth 100000 in
theorem dsetattr0 {w : World} {B g c : Nat} {rs : List Raw} {d : Tn.Dc} (h : Owned w B g c rs d) (hB : B ≤ w.heap.size) {k : Nat} (hk : k < rs.length) (h0 : (Tn.nd d k).attrs = []) (nm vl : ByteArray) (hnm : Tn.nameL nm.data.toList = true) (hsz : nm.size ≤ 4194304) (hvl : vl.size ≤ 60) :
    Calls Try.prog 70 #[.pointer (some ⟨g, k * 9, none⟩), .string nm, .string vl] w fun e w' => e = .returned (.int .i64 0) ∧ Below B w w' ∧ ∃ rs', rs'.length = rs.length ∧ Owned w' B g c rs' (d.set k { Tn.nd d k with attrs := [(nm, vl)] }) ∧ Fr g rs w g rs' w' := by
  have H : Hid (Owned w B g c rs d) := h
  have hd := h.doc (by omega)
  have hkd : k < d.length := by rw [← h.len]; exact hk
  have c3 := hd.row.c3 k hk
  have own := (h.nds k hk hkd).attrs
  have ha : d[k].attrs = [] := by rw [← nd_at hkd]; exact h0
  rw [ha] at own
  have hA : AttrsAt w (.slice rs[k].a.p rs[k].a.n rs[k].a.c) [] := attrs_of_owns own
  have e0 : rs[k].a.n = 0 := by
    obtain ⟨p, c', e, _⟩ := hA.at
    injection e
  rw [e0] at c3 hA own
  have HI : Hid (Calls Try.prog 55 #[.slice rs[k].a.p 0 rs[k].a.c, .string nm] w fun e w' => e = .returned (.tuple #[.int .i64 0, .bool false]) ∧ Below w.heap.size w w') := by
    refine (dattrAt_any hA List.Pairwise.nil (by simp) nm).mono ?_
    rintro e w' ⟨i, st, e1, e2⟩
    have : i = 0 := by have := st.le; simpa using this
    subst this
    exact ⟨e1, e2⟩
  clear hd ha h0 hA h
  generalize hap : rs[k].a.p = ap at *
  generalize hac : rs[k].a.c = ac at *
  simp only [Nat.zero_add] at c3
  go_enter Try.func70, Try.ntmps70
  go_wp2_with fail
  refine HI.out.mono ?_
  rintro e w1 ⟨rfl, b1⟩
  go_wp2_with fail
  refine (name_any nm _ hsz).mono ?_
  rintro e w2 ⟨rfl, b2⟩
  rw [hnm]
  have B2 : Below w.heap.size w w2 := b1.trans (b2.mono b1.size)
  have d3 := keeps_below B2 (Nat.le_refl _) _ _ c3
  have OW2 := own.below B2 (Nat.le_refl _)
  clear b1 b2 own c3
  have fg : ∀ j, w2.frozen? ⟨g, j, none⟩ = false := below_frozen B2 (H.out.at (by omega)).2.1 (H.out.at (by omega)).2.2
  have O2 : Hid (Owned (w2.alloc (.cells #[.string nm, .string ⟨#[]⟩] 62)) B g c rs d) := (H.out.below B2 (Nat.le_refl _)).below ((Below.refl _ _).alloc (Nat.le_refl _) _) (Nat.le_refl _)
  have F2 : Hid (Fr g rs w g rs (w2.alloc (.cells #[.string nm, .string ⟨#[]⟩] 62))) := ((Fr.refl g rs w).below B2).below ((Below.refl _ _).alloc (Nat.le_refl _) _)
  have hw2 : B ≤ w2.heap.size := Nat.le_trans hB B2.size
  have BB2 : Hid (Below B w (w2.alloc (.cells #[.string nm, .string ⟨#[]⟩] 62))) := (B2.mono hB).alloc hw2 _
  have OW3 : OwnA (w2.alloc (.cells #[.string nm, .string ⟨#[]⟩] 62)) B (.slice ap 0 ac) [] := OW2.below ((Below.refl w2.heap.size _).alloc (Nat.le_refl _) _) (Nat.le_refl _)
  have hin := insA_end (vb := w2.heap.size) (n := nm) (u := ⟨#[]⟩) OW3 (by simp; omega) (by simp) (by show (w2.heap.push _)[w2.heap.size]? = _; simp)
  have HIN : Hid (Calls Try.prog 85 #[.slice ap 0 ac, .int .i64 0, .slice (some ⟨w2.heap.size, 0, none⟩) 1 1] (w2.alloc (.cells #[.string nm, .string ⟨#[]⟩] 62)) fun e w' => ∃ v', e = .returned v' ∧ OwnA w' B v' [(nm, ⟨#[]⟩)] ∧ (w2.alloc (.cells #[.string nm, .string ⟨#[]⟩] 62)).grownBy w' (Value.slice ap 0 ac).ownBlock ∧ (v'.ownBlock = (Value.slice ap 0 ac).ownBlock ∨ ∃ g, (w2.alloc (.cells #[.string nm, .string ⟨#[]⟩] 62)).heap.size ≤ g ∧ v'.ownBlock = some g)) := hin
  clear hin OW3 OW2 B2 HI
  go_wp2_with fail
  refine HIN.out.mono ?_
  rintro e w4 ⟨v', rfl, o4, gr4, hb4⟩
  obtain ⟨y, c', rfl, hy1, hy2, hyf, hyc⟩ := ownA_at o4 (by simp)
  have y1 := hyc 1 (.string ⟨#[]⟩) rfl
  have f1 := hyf 1
  have hob : (Value.slice ap 0 ac).ownBlock = blk rs[k] 0 := by
    have := sblk_own rs[k].a
    rw [e0, hap, hac] at this
    exact this
  rw [hob] at gr4 hb4
  have hgl : g < (w2.alloc (.cells #[.string nm, .string ⟨#[]⟩] 62)).heap.size := (O2.out.at (by omega)).2.1
  have hgne : some g ≠ blk rs[k] 0 := fun e => O2.out.sep.row k hk 0 e.symm
  have hblg := gr4.block g hgl hgne
  have d4 : w4.cell? ⟨g, k * 9 + 3, none⟩ = some (.slice ap 0 ac) := by
    rw [World.cell?_of_block (a := ⟨g, k * 9 + 3, none⟩) hblg]
    exact (keeps_alloc w2 _) _ _ d3
  have fg4 : w4.frozen? ⟨g, k * 9 + 3, none⟩ = false := by
    rw [World.frozen?_of_block (a := ⟨g, k * 9 + 3, none⟩) hblg]
    exact below_frozen ((Below.refl w2.heap.size w2).alloc (Nat.le_refl _) _) (lt_of_cell d3) fg _
  have hyb : blk rs[k] 0 = some y ∨ (w2.alloc (.cells #[.string nm, .string ⟨#[]⟩] 62)).heap.size ≤ y := by
    rcases hb4 with e | ⟨z, hz, e⟩
    · exact Or.inl e.symm
    · right
      have : y = z := by simpa [Value.ownBlock] using e
      omega
  have hyg : y ≠ g := by
    intro e
    rcases hyb with h | h
    · exact hgne (by rw [h, e])
    · omega
  obtain ⟨r', hr'⟩ : ∃ r' : Raw, r' = { rs[k] with a := ⟨some ⟨y, 0, none⟩, 1, c'⟩ } := ⟨_, rfl⟩
  have ndk := O2.out.nds k hk hkd
  have nd4 : OwnNd w4 B r' { d[k] with attrs := [(nm, ⟨#[]⟩)] } := by
    rw [hr']
    exact ⟨ndk.live, ndk.tag, ndk.text, ndk.up, ndk.hasS, ndk.inS, o4, owns_grown ndk.kids gr4 (fun x hx e => by have := (O2.out.sep.one k hk 0 k hk 1 x e hx).2; cases this), owns_grown ndk.shadow gr4 (fun x hx e => by have := (O2.out.sep.one k hk 0 k hk 2 x e hx).2; cases this)⟩
  have hoth : ∀ t', t' ≠ (0 : Fin 3) → lst r' t' = lst rs[k] t' := by
    intro t' ht
    rw [hr']
    match t', ht with
    | 1, _ => rfl
    | 2, _ => rfl
  have hnew : blk r' 0 = blk rs[k] 0 ∨ ∃ x, (w2.alloc (.cells #[.string nm, .string ⟨#[]⟩] 62)).heap.size ≤ x ∧ x < w4.heap.size ∧ blk r' 0 = some x := by
    have e : blk r' 0 = some y := by rw [hr']; rfl
    rcases hyb with h | h
    · exact Or.inl (by rw [e, h])
    · exact Or.inr ⟨y, h, hy2, e⟩
  have hcel : r'.cells = rs[k].cells.set 3 (.slice (some ⟨y, 0, none⟩) 1 c') := by rw [hr']; rfl
  have O5 : Owned (w4.setCell ⟨g, k * 9 + 3, none⟩ (.slice (some ⟨y, 0, none⟩) 1 c')) B g c (rs.set k r') (d.set k { d[k] with attrs := [(nm, ⟨#[]⟩)] }) :=
    O2.out.list hk 0 gr4 hoth hnew nd4 3 (by decide) _ hcel
  have F5 : Fr g rs w g (rs.set k r') (w4.setCell ⟨g, k * 9 + 3, none⟩ (.slice (some ⟨y, 0, none⟩) 1 c')) := F2.out.trans (Fr.list hk 0 gr4 hoth hnew _ _)
  have hk' : k < (rs.set k r').length := by simpa using hk
  have hbk : blk (rs.set k r')[k] 0 = some y := by rw [List.getElem_set_self, hr']; rfl
  have hgs : (rs.set k r')[k] = r' := by rw [List.getElem_set_self]
  have ndk5 := O5.nds k hk' (by simpa using hkd)
  have e5 : (d.set k { d[k] with attrs := [(nm, ⟨#[]⟩)] })[k]'(by simpa using hkd) = { d[k] with attrs := [(nm, ⟨#[]⟩)] } := by rw [List.getElem_set_self]
  rw [e5] at ndk5
  have nd6 : OwnNd ((w4.setCell ⟨g, k * 9 + 3, none⟩ (.slice (some ⟨y, 0, none⟩) 1 c')).setCell ⟨y, 1, none⟩ (.string vl)) B (rs.set k r')[k] { d[k] with attrs := [(nm, vl)] } := by
    refine ⟨ndk5.live, ndk5.tag, ndk5.text, ndk5.up, ndk5.hasS, ndk5.inS, ?_, ?_, ?_⟩
    · have := ndk5.attrs
      rw [hgs, hr'] at this ⊢
      exact owns_set this 1 (.string vl)
    · refine owns_other ndk5.kids (fun e => ?_) _
      rw [sblk_own] at e
      have := (O5.sep.one k hk' 0 k hk' 1 y hbk e).2
      cases this
    · refine owns_other ndk5.shadow (fun e => ?_) _
      rw [sblk_own] at e
      have := (O5.sep.one k hk' 0 k hk' 2 y hbk e).2
      cases this
  have O6 : Hid (Owned ((w4.setCell ⟨g, k * 9 + 3, none⟩ (.slice (some ⟨y, 0, none⟩) 1 c')).setCell ⟨y, 1, none⟩ (.string vl)) B g c (rs.set k r') (d.set k { Tn.nd d k with attrs := [(nm, vl)] })) := by
    have := O5.inner hk' hbk 1 (.string vl) nd6
    rw [List.set_set] at this
    rw [nd_at hkd]
    exact this
  have F6 : Hid (Fr g rs w g (rs.set k r') ((w4.setCell ⟨g, k * 9 + 3, none⟩ (.slice (some ⟨y, 0, none⟩) 1 c')).setCell ⟨y, 1, none⟩ (.string vl))) := F5.trans (Fr.inner hk' hbk 1 _)
  have BB6 : Hid (Below B w ((w4.setCell ⟨g, k * 9 + 3, none⟩ (.slice (some ⟨y, 0, none⟩) 1 c')).setCell ⟨y, 1, none⟩ (.string vl))) := by
    have hBg : B ≤ g := (O2.out.at (by omega)).1
    have b4 := BB2.out.grown gr4 (by simp; omega) (fun j hj => by
      have := World.ownsRow.lt ndk.attrs j (by rw [sblk_own]; exact hj.symm ▸ rfl)
      exact this.1)
    exact (b4.setCell (p := ⟨g, k * 9 + 3, none⟩) hBg _).setCell (p := ⟨y, 1, none⟩) hy1 _
  have hlen : Hid ((rs.set k r').length = rs.length) := by show _ = _; simp
  clear O5 F5 hk' hbk hgs ndk5 e5 nd6 nd4 hoth hnew hcel ndk hyb hblg hgne hgl hob gr4 hb4 o4 hyc hyf hr' HIN BB2 F2 O2 d3 fg hap hac e0 H
  have hyg' : g ≠ y := fun e => hyg e.symm
  go_wp2_with fail
  go_ret
  exact ⟨rfl, BB6.out, rs.set k r', hlen.out, O6.out, F6.out⟩
end Go.Proofs.Ytookcjdibpccpaa

/-
  THE WALK of dom.setAttr, in a document of the call's own.
-/
namespace Go.Proofs.Ytookcjdibpccpaa
open Go.RowKit

theorem insA_any {w : World} {B : Nat} {v : Value} {l : List Tn.At} {vb : Nat} {n u : ByteArray} (hown : OwnA w B v l) (hB : B ≤ w.heap.size) (hl : l.length ≤ 1000) (i : Nat) (hi : i ≤ l.length) (hvb : w.heap[vb]? = some (.cells #[.string n, .string u] 62 (0, 0))) (hne : v.ownBlock ≠ some vb) :
    Calls Try.prog 85 #[v, .int .i64 (i : Int), .slice (some ⟨vb, 0, none⟩) 1 1] w fun e w' => ∃ v', e = .returned v' ∧ OwnA w' B v' (insA l i (n, u)) ∧ w.grownBy w' v.ownBlock ∧ (v'.ownBlock = v.ownBlock ∨ ∃ g, w.heap.size ≤ g ∧ v'.ownBlock = some g) := by
  by_cases h : i < l.length
  · exact insA_mid hown hB hl i h hvb hne
  · obtain rfl : i = l.length := by omega
    have := insA_end hown hB hl hvb
    unfold insA
    simpa using this

theorem ins_len {l : List Tn.At} {i : Nat} {a : Tn.At} (hi : i ≤ l.length) : (insA l i a).length = l.length + 1 := by
  unfold insA
  simp
  omega
theorem ins_at {l : List Tn.At} {i : Nat} {a : Tn.At} (hi : i ≤ l.length) : ∃ h : i < (insA l i a).length, (insA l i a)[i] = a := by
  have e : (insA l i a)[i]? = some a := by
    unfold insA
    rw [List.append_assoc, List.getElem?_append_right (by simp; omega), List.length_take, Nat.min_eq_left hi, Nat.sub_self]
    rfl
  exact List.getElem?_eq_some_iff.mp e
theorem ins_set {l : List Tn.At} {i : Nat} {a b : Tn.At} (hi : i ≤ l.length) : (insA l i a).set i b = insA l i b := by
  unfold insA
  rw [List.append_assoc, List.append_assoc, List.set_append_right _ _ (by simp; omega), List.length_take, Nat.min_eq_left hi, Nat.sub_self]
  rfl

theorem Owned.attrVal {w : World} {B g c : Nat} {rs : List Raw} {d : Tn.Dc} (h : Owned w B g c rs d) {k : Nat} (hk : k < rs.length) (hkd : k < d.length) {l : List Tn.At} (hl : d[k].attrs = l) {i : Nat} (hi : i < l.length) {y m cc : Nat} (hy : rs[k].a = ⟨some ⟨y, 0, none⟩, m, cc⟩) (vl : ByteArray) :
    Owned (w.setCell ⟨y, i * 2 + 1, none⟩ (.string vl)) B g c rs (d.set k { d[k] with attrs := l.set i (l[i].1, vl) }) ∧ Fr g rs w g rs (w.setCell ⟨y, i * 2 + 1, none⟩ (.string vl)) := by
  have hbk : blk rs[k] 0 = some y := by unfold blk sblk lst; rw [hy]; rfl
  have ndk := h.nds k hk hkd
  have hat := ndk.attrs
  have hm : m = l.length := by
    have := al_of (attrs_of_owns hat)
    rw [hy, hl] at this
    exact this
  have nd6 : OwnNd (w.setCell ⟨y, i * 2 + 1, none⟩ (.string vl)) B rs[k] { d[k] with attrs := l.set i (l[i].1, vl) } := by
    refine ⟨ndk.live, ndk.tag, ndk.text, ndk.up, ndk.hasS, ndk.inS, ?_, ?_, ?_⟩
    · rw [hy] at hat ⊢
      rw [hl, hm] at hat
      have := owns_set hat (i * 2 + 1) (.string vl)
      rw [flat_set2 vl l i hi] at this
      show OwnA _ _ (.slice (some ⟨y, 0, none⟩) m cc) (l.set i (l[i].1, vl))
      unfold OwnA
      rw [hm, List.length_set]
      exact this
    · refine owns_other ndk.kids (fun e => ?_) _
      rw [sblk_own] at e
      have := (h.sep.one k hk 0 k hk 1 y hbk e).2
      cases this
    · refine owns_other ndk.shadow (fun e => ?_) _
      rw [sblk_own] at e
      have := (h.sep.one k hk 0 k hk 2 y hbk e).2
      cases this
  exact ⟨h.inner hk hbk (i * 2 + 1) (.string vl) nd6, Fr.inner hk hbk (i * 2 + 1) _⟩

set_option maxHeartbeats 400000 in
set_option maxRecDepth 100000 in
theorem dsetattr_any {w : World} {B g c : Nat} {rs : List Raw} {d : Tn.Dc} (h : Owned w B g c rs d) (hB : B ≤ w.heap.size) {k : Nat} (hk : k < rs.length) (hr : Rising (Tn.nd d k).attrs) (h8 : (Tn.nd d k).attrs.length ≤ 8) (nm vl : ByteArray) (hsz : nm.size ≤ 4194304) (hvs : vl.size ≤ 4194304) :
    Calls Try.prog 70 #[.pointer (some ⟨g, k * 9, none⟩), .string nm, .string vl] w fun e w' => e = .returned (.int .i64 (setE (Tn.nd d k).attrs nm vl)) ∧ Below B w w' ∧ (setE (Tn.nd d k).attrs nm vl = 0 → ∃ rs', rs'.length = rs.length ∧ Owned w' B g c rs' (d.set k { Tn.nd d k with attrs := Tn.attrsD (Tn.nd d k).attrs nm vl }) ∧ Fr g rs w g rs' w') ∧ Kpt g rs w w' := by
  have H : Hid (Owned w B g c rs d) := h
  have hd := h.doc (by omega)
  have hkd : k < d.length := by rw [← h.len]; exact hk
  have c3 := hd.row.c3 k hk
  have own := (h.nds k hk hkd).attrs
  rw [nd_at hkd] at hr h8 ⊢
  have hA : AttrsAt w (.slice rs[k].a.p rs[k].a.n rs[k].a.c) d[k].attrs := attrs_of_owns own
  have e0 : rs[k].a.n = d[k].attrs.length := al_of hA
  rw [e0] at c3 hA own
  have hcap : d[k].attrs.length ≤ rs[k].a.c ∧ rs[k].a.c ≤ 9223372036854775807 := by
    obtain ⟨_, _, he, q1, q2, _⟩ := hA.at
    cases he
    exact ⟨q1, q2⟩
  have HI := dattrAt_any hA hr (by omega) nm
  have HI : Hid (Calls Try.prog 55 #[.slice rs[k].a.p d[k].attrs.length rs[k].a.c, .string nm] w fun e w' => ∃ i, Stands d[k].attrs nm i ∧ e = .returned (.tuple #[.int .i64 (i : Int), .bool (Tn.attrOf d[k].attrs nm).isSome]) ∧ Below w.heap.size w w') := HI
  clear hd hA h
  obtain ⟨l, hl⟩ : ∃ l, l = d[k].attrs := ⟨_, rfl⟩
  have HLL : Hid (d[k].attrs = l) := hl.symm
  rw [← hl] at hr h8 c3 own e0 hcap HI ⊢
  clear hl
  simp only [Nat.zero_add] at c3
  have HOW : Hid (OwnA w B (.slice rs[k].a.p l.length rs[k].a.c) l) := own
  have HRA : Hid (rs[k].a = ⟨rs[k].a.p, l.length, rs[k].a.c⟩) := by
    show _ = _
    rw [← e0]
  clear own e0
  have HLR : Hid (rs.length = d.length) := H.out.len
  obtain ⟨hcap1, hcap2⟩ := hcap
  generalize hap : rs[k].a.p = ap at *
  generalize hac : rs[k].a.c = ac at *
  have HAP : Hid (rs[k].a.p = ap) := hap
  have HAC : Hid (rs[k].a.c = ac) := hac
  clear hap hac
  have okN : Tn.okName nm = Tn.nameL nm.data.toList := rfl
  cases hnm : Tn.nameL nm.data.toList with
  | false =>
    have E : Hid (setE l nm vl = 7) := by show _ = _; unfold setE; rw [okN, hnm]; rfl
    clear okN
    go_enter Try.func70, Try.ntmps70
    go_wp2_with fail
    refine HI.out.mono ?_
    rintro e w1 ⟨i, ST, rfl, b1⟩
    have HST : Hid (Stands l nm i) := ST
    clear ST
    generalize (Tn.attrOf l nm).isSome = hs at *
    go_wp2_with fail
    refine (name_any nm _ hsz).mono ?_
    rintro e w2 ⟨rfl, b2⟩
    rw [hnm]
    have B2 : Below w.heap.size w w2 := b1.trans (b2.mono b1.size)
    go_wp2_with fail
    go_ret
    exact ⟨by rw [E.out]; rfl, B2.mono hB, (fun e => by rw [E.out] at e; cases e), fun x hx _ => B2.block x hx⟩
  | true =>
    by_cases hv : 60 < vl.size
    · have E : Hid (setE l nm vl = 4) := by show _ = _; unfold setE; rw [okN, hnm, if_neg (by simp), if_pos hv]
      clear okN
      go_enter Try.func70, Try.ntmps70
      go_wp2_with fail
      refine HI.out.mono ?_
      rintro e w1 ⟨i, ST, rfl, b1⟩
      have HST : Hid (Stands l nm i) := ST
      clear ST
      generalize (Tn.attrOf l nm).isSome = hs at *
      go_wp2_with fail
      refine (name_any nm _ hsz).mono ?_
      rintro e w2 ⟨rfl, b2⟩
      rw [hnm]
      have B2 : Below w.heap.size w w2 := b1.trans (b2.mono b1.size)
      go_wp2_with fail
      go_ret
      exact ⟨by rw [E.out]; rfl, B2.mono hB, (fun e => by rw [E.out] at e; cases e), fun x hx _ => B2.block x hx⟩
    · cases hhas : (Tn.attrOf l nm).isSome with
      | true =>
        rw [hhas] at HI
        go_enter Try.func70, Try.ntmps70
        go_wp2_with fail
        refine HI.out.mono ?_
        rintro e w1 ⟨i, ST, rfl, b1⟩
        obtain ⟨hil, hq⟩ := (stands_eq hr ST).mp hhas
        have hD := attrs_has (vl := vl) hr ST hil hq
        have E : Hid (setE l nm vl = 0) := by show _ = _; unfold setE; rw [okN, hnm, if_neg (by simp), if_neg hv, hD, List.length_set, if_neg (by omega)]
        have HD : Hid (Tn.attrsD l nm vl = l.set i (l[i].1, vl)) := hD
        clear hD hq ST okN
        go_wp2_with fail
        refine (name_any nm _ hsz).mono ?_
        rintro e w2 ⟨rfl, b2⟩
        rw [hnm]
        have B2 : Below w.heap.size w w2 := b1.trans (b2.mono b1.size)
        have d3 := keeps_below B2 (Nat.le_refl _) _ _ c3
        have OW2 := HOW.out.below B2 (Nat.le_refl _)
        obtain ⟨y, c', e3, hy1, hy2, hyf, hyc⟩ := ownA_at OW2 (by omega)
        injection e3 with e4 _ e5
        subst e4
        subst e5
        have y1 := hyc (i * 2 + 1) (.string l[i].2) (by rw [flat_at av 2 av_len l i 1 (by decide), List.getElem?_eq_getElem hil]; rfl)
        have f1 := hyf (i * 2 + 1)
        have O2 : Owned w2 B g c rs d := H.out.below B2 (Nat.le_refl _)
        have hF2 : Fr g rs w g rs w2 := (Fr.refl g rs w).below B2
        have hkd' : k < d.length := hkd
        obtain ⟨O6, F6⟩ := O2.attrVal hk hkd' HLL.out hil HRA.out vl
        have F7 : Hid (Fr g rs w g rs (w2.setCell ⟨y, i * 2 + 1, none⟩ (.string vl))) := hF2.trans F6
        have O7 : Hid (Owned (w2.setCell ⟨y, i * 2 + 1, none⟩ (.string vl)) B g c rs (d.set k { d[k] with attrs := l.set i (l[i].1, vl) })) := O6
        have BB : Hid (Below B w (w2.setCell ⟨y, i * 2 + 1, none⟩ (.string vl))) := (B2.mono hB).setCell (p := ⟨y, i * 2 + 1, none⟩) hy1 _
        clear O6 F6 hF2 O2 OW2 hyc hyf b1 b2 B2 HI HOW HLL
        go_wp2_with fail
        go_ret
        exact ⟨by rw [E.out]; rfl, BB.out, fun _ => ⟨rs, rfl, by rw [HD.out]; exact O7.out, F7.out⟩, F7.out.block⟩
      | false =>
        rw [hhas] at HI
        by_cases h7 : 8 ≤ l.length
        · go_enter Try.func70, Try.ntmps70
          go_wp2_with fail
          refine HI.out.mono ?_
          rintro e w1 ⟨i, ST, rfl, b1⟩
          have hD := attrs_not (vl := vl) hr ST (fun h => by rw [(stands_eq hr ST).mpr h] at hhas; cases hhas)
          have E : Hid (setE l nm vl = 5) := by show _ = _; unfold setE; rw [okN, hnm, if_neg (by simp), if_neg hv, hD, ins_len ST.le, if_pos (by omega)]
          clear hD ST okN
          go_wp2_with fail
          refine (name_any nm _ hsz).mono ?_
          rintro e w2 ⟨rfl, b2⟩
          rw [hnm]
          have B2 : Below w.heap.size w w2 := b1.trans (b2.mono b1.size)
          have d3 := keeps_below B2 (Nat.le_refl _) _ _ c3
          go_wp2_with fail
          go_ret
          exact ⟨by rw [E.out]; rfl, B2.mono hB, (fun e => by rw [E.out] at e; cases e), fun x hx _ => B2.block x hx⟩
        · go_enter Try.func70, Try.ntmps70
          go_wp2_with fail
          refine HI.out.mono ?_
          rintro e w1 ⟨i, ST, rfl, b1⟩
          have hile := ST.le
          have hD := attrs_not (vl := vl) hr ST (fun h => by rw [(stands_eq hr ST).mpr h] at hhas; cases hhas)
          have E : Hid (setE l nm vl = 0) := by show _ = _; unfold setE; rw [okN, hnm, if_neg (by simp), if_neg hv, hD, ins_len hile, if_neg (by omega)]
          have HD : Hid (Tn.attrsD l nm vl = insA l i (nm, vl)) := hD
          clear hD ST okN
          go_wp2_with fail
          refine (name_any nm _ hsz).mono ?_
          rintro e w2 ⟨rfl, b2⟩
          rw [hnm]
          have B2 : Below w.heap.size w w2 := b1.trans (b2.mono b1.size)
          have d3 := keeps_below B2 (Nat.le_refl _) _ _ c3
          have OW2 := HOW.out.below B2 (Nat.le_refl _)
          clear b1 b2 c3
          have fg : ∀ j, w2.frozen? ⟨g, j, none⟩ = false := below_frozen B2 (H.out.at (by omega)).2.1 (H.out.at (by omega)).2.2
          have O2 : Hid (Owned (w2.alloc (.cells #[.string nm, .string ⟨#[]⟩] 62)) B g c rs d) := (H.out.below B2 (Nat.le_refl _)).below ((Below.refl _ _).alloc (Nat.le_refl _) _) (Nat.le_refl _)
          have F2 : Hid (Fr g rs w g rs (w2.alloc (.cells #[.string nm, .string ⟨#[]⟩] 62))) := ((Fr.refl g rs w).below B2).below ((Below.refl _ _).alloc (Nat.le_refl _) _)
          have hw2 : B ≤ w2.heap.size := Nat.le_trans hB B2.size
          have BB2 : Hid (Below B w (w2.alloc (.cells #[.string nm, .string ⟨#[]⟩] 62))) := (B2.mono hB).alloc hw2 _
          have OW3 : OwnA (w2.alloc (.cells #[.string nm, .string ⟨#[]⟩] 62)) B (.slice ap l.length ac) l := OW2.below ((Below.refl w2.heap.size _).alloc (Nat.le_refl _) _) (Nat.le_refl _)
          have hob : (Value.slice ap l.length ac).ownBlock = blk rs[k] 0 := by
            have := sblk_own rs[k].a
            rw [HRA.out] at this
            exact this.trans (by show _ = sblk rs[k].a; rw [HRA.out])
          have hin := insA_any (vb := w2.heap.size) (n := nm) (u := ⟨#[]⟩) OW3 (by simp; omega) (by omega) i hile (by show (w2.heap.push _)[w2.heap.size]? = _; simp) (by
            rw [hob]
            intro e
            have := H.out.low k hk 0 _ e
            have := B2.size
            omega)
          rw [hob] at hin
          have HIN : Hid (Calls Try.prog 85 #[.slice ap l.length ac, .int .i64 (i : Int), .slice (some ⟨w2.heap.size, 0, none⟩) 1 1] (w2.alloc (.cells #[.string nm, .string ⟨#[]⟩] 62)) fun e w' => ∃ v', e = .returned v' ∧ OwnA w' B v' (insA l i (nm, ⟨#[]⟩)) ∧ (w2.alloc (.cells #[.string nm, .string ⟨#[]⟩] 62)).grownBy w' (blk rs[k] 0) ∧ (v'.ownBlock = blk rs[k] 0 ∨ ∃ g, (w2.alloc (.cells #[.string nm, .string ⟨#[]⟩] 62)).heap.size ≤ g ∧ v'.ownBlock = some g)) := hin
          clear hin OW3 OW2 B2 HI
          go_wp2_with fail
          refine HIN.out.mono ?_
          rintro e w4 ⟨v', rfl, o4, gr4, hb4⟩
          obtain ⟨hi', hat'⟩ := ins_at (a := (nm, (⟨#[]⟩ : ByteArray))) hile
          have hlen' := ins_len (a := (nm, (⟨#[]⟩ : ByteArray))) hile
          have HSET : Hid ((insA l i (nm, ⟨#[]⟩)).set i (nm, vl) = insA l i (nm, vl)) := ins_set hile
          generalize hL : insA l i (nm, (⟨#[]⟩ : ByteArray)) = L at *
          clear hL
          obtain ⟨y, c', rfl, hy1, hy2, hyf, hyc⟩ := ownA_at o4 (by omega)
          have y1 := hyc (i * 2 + 1) (.string L[i].2) (by rw [flat_at av 2 av_len L i 1 (by decide), List.getElem?_eq_getElem hi']; rfl)
          rw [hat'] at y1
          have f1 := hyf (i * 2 + 1)
          have hgl : g < (w2.alloc (.cells #[.string nm, .string ⟨#[]⟩] 62)).heap.size := (O2.out.at (by omega)).2.1
          have hgne : some g ≠ blk rs[k] 0 := fun e => O2.out.sep.row k hk 0 e.symm
          have hblg := gr4.block g hgl hgne
          have d4 : w4.cell? ⟨g, k * 9 + 3, none⟩ = some (.slice ap l.length ac) := by
            rw [World.cell?_of_block (a := ⟨g, k * 9 + 3, none⟩) hblg]
            exact (keeps_alloc w2 _) _ _ d3
          have fg4 : w4.frozen? ⟨g, k * 9 + 3, none⟩ = false := by
            rw [World.frozen?_of_block (a := ⟨g, k * 9 + 3, none⟩) hblg]
            exact below_frozen ((Below.refl w2.heap.size w2).alloc (Nat.le_refl _) _) (lt_of_cell d3) fg _
          have hyb : blk rs[k] 0 = some y ∨ (w2.alloc (.cells #[.string nm, .string ⟨#[]⟩] 62)).heap.size ≤ y := by
            rcases hb4 with e | ⟨z, hz, e⟩
            · exact Or.inl e.symm
            · right
              have : y = z := by simpa [Value.ownBlock] using e
              omega
          have hyg : y ≠ g := by
            intro e
            rcases hyb with h | h
            · exact hgne (by rw [h, e])
            · omega
          obtain ⟨r', hr'⟩ : ∃ r' : Raw, r' = { rs[k] with a := ⟨some ⟨y, 0, none⟩, L.length, c'⟩ } := ⟨_, rfl⟩
          have ndk := O2.out.nds k hk hkd
          have nd4 : OwnNd w4 B r' { d[k] with attrs := L } := by
            rw [hr']
            exact ⟨ndk.live, ndk.tag, ndk.text, ndk.up, ndk.hasS, ndk.inS, o4, owns_grown ndk.kids gr4 (fun x hx e => by have := (O2.out.sep.one k hk 0 k hk 1 x e hx).2; cases this), owns_grown ndk.shadow gr4 (fun x hx e => by have := (O2.out.sep.one k hk 0 k hk 2 x e hx).2; cases this)⟩
          have hoth : ∀ t', t' ≠ (0 : Fin 3) → lst r' t' = lst rs[k] t' := by
            intro t' ht
            rw [hr']
            match t', ht with
            | 1, _ => rfl
            | 2, _ => rfl
          have hnew : blk r' 0 = blk rs[k] 0 ∨ ∃ x, (w2.alloc (.cells #[.string nm, .string ⟨#[]⟩] 62)).heap.size ≤ x ∧ x < w4.heap.size ∧ blk r' 0 = some x := by
            have e : blk r' 0 = some y := by rw [hr']; rfl
            rcases hyb with h | h
            · exact Or.inl (by rw [e, h])
            · exact Or.inr ⟨y, h, hy2, e⟩
          have hcel : r'.cells = rs[k].cells.set 3 (.slice (some ⟨y, 0, none⟩) L.length c') := by rw [hr']; rfl
          have O5 : Owned (w4.setCell ⟨g, k * 9 + 3, none⟩ (.slice (some ⟨y, 0, none⟩) L.length c')) B g c (rs.set k r') (d.set k { d[k] with attrs := L }) :=
            O2.out.list hk 0 gr4 hoth hnew nd4 3 (by decide) _ hcel
          have F5 : Fr g rs w g (rs.set k r') (w4.setCell ⟨g, k * 9 + 3, none⟩ (.slice (some ⟨y, 0, none⟩) L.length c')) := F2.out.trans (Fr.list hk 0 gr4 hoth hnew _ _)
          have hk' : k < (rs.set k r').length := by simpa using hk
          have hkd' : k < (d.set k { d[k] with attrs := L }).length := by simpa using hkd
          have hgs : (rs.set k r')[k].a = ⟨some ⟨y, 0, none⟩, L.length, c'⟩ := by rw [List.getElem_set_self, hr']
          obtain ⟨O6', F6'⟩ := O5.attrVal hk' hkd' (l := L) (by rw [List.getElem_set_self]) hi' hgs vl
          have O6 : Hid (Owned ((w4.setCell ⟨g, k * 9 + 3, none⟩ (.slice (some ⟨y, 0, none⟩) L.length c')).setCell ⟨y, i * 2 + 1, none⟩ (.string vl)) B g c (rs.set k r') (d.set k { d[k] with attrs := insA l i (nm, vl) })) := by
            rw [List.getElem_set_self, List.set_set, hat', HSET.out] at O6'
            exact O6'
          have F6 : Hid (Fr g rs w g (rs.set k r') ((w4.setCell ⟨g, k * 9 + 3, none⟩ (.slice (some ⟨y, 0, none⟩) L.length c')).setCell ⟨y, i * 2 + 1, none⟩ (.string vl))) := F5.trans F6'
          have BB6 : Hid (Below B w ((w4.setCell ⟨g, k * 9 + 3, none⟩ (.slice (some ⟨y, 0, none⟩) L.length c')).setCell ⟨y, i * 2 + 1, none⟩ (.string vl))) := by
            have hBg : B ≤ g := (O2.out.at (by omega)).1
            have b4 := BB2.out.grown gr4 (by simp; omega) (fun j hj => by
              have := World.ownsRow.lt ndk.attrs j (by rw [sblk_own]; exact hj.symm ▸ rfl)
              exact this.1)
            exact (b4.setCell (p := ⟨g, k * 9 + 3, none⟩) hBg _).setCell (p := ⟨y, i * 2 + 1, none⟩) hy1 _
          have hlen : Hid ((rs.set k r').length = rs.length) := by show _ = _; simp
          have hLm : L.length ≤ 9223372036854775807 ∧ L.length ≤ c' ∧ c' ≤ 9223372036854775807 := by
            obtain ⟨_, _, he, q1, q2, _⟩ := (attrs_of_owns o4).at
            cases he
            exact ⟨by omega, q1, q2⟩
          obtain ⟨hLm1, hLm2, hLm3⟩ := hLm
          have hyg' : g ≠ y := fun e => hyg e.symm
          rw [hlen'] at hi' hLm1 hLm2
          have HL' : Hid (L.length = l.length + 1) := hlen'
          clear O5 F5 hk' hkd' hgs nd4 hoth hnew hcel ndk hyb hblg hgne hgl hob gr4 hb4 o4 hyc hyf hr' HIN BB2 F2 O2 d3 fg H O6' F6' hat' HSET hlen' HOW HLL HRA HAP HAC HLR
          rw [HL'.out]
          rw [HL'.out] at O6 F6 BB6
          go_wp2_with fail
          go_ret
          exact ⟨by rw [E.out]; rfl, BB6.out, fun _ => ⟨rs.set k r', hlen.out, by rw [HD.out]; exact O6.out, F6.out⟩, F6.out.block⟩
end Go.Proofs.Ytookcjdibpccpaa

/-
  THE WALK of slices.Delete at []Attr: one element of a row of the call's own goes.
-/
namespace Go.Proofs.Ytookcjdibpccpaa
open Go.RowKit

theorem clearA1 (w : World) (ty : TypeId) (b o c : Nat) (hc : ∀ j, j < 2 → (w.cell? ⟨b, o + j, none⟩).isSome = true) (hf : ∀ j, j < 2 → w.frozen? ⟨b, o + j, none⟩ = false) :
    (Builtin.clear_ #[54] ty #[.slice (some ⟨b, o, none⟩) 1 c]).run Try.prog w = .ok (.tuple #[]) (w.setCells b o [.string ⟨#[]⟩, .string ⟨#[]⟩]) := by
  have hst := run_storeCells_cells (P := Try.prog) b o [.string ⟨#[]⟩, .string ⟨#[]⟩] 0 w (by simpa using hc) (by simpa using hf) (by intro v hv; simp at hv; rw [hv]; rfl)
  simp only [Nat.add_zero] at hst
  have hzc : (Builtin.zeroCells (Value.agg #[.string ⟨#[]⟩, .string ⟨#[]⟩]).cells 1).toList = [.string ⟨#[]⟩, .string ⟨#[]⟩] := by kernel_rfl
  simp [Builtin.clear_, run_underlying Try.underlying54, Try.zeroValue62, hzc, hst]

theorem step_append_at {P : Program} {ops : Array Oper} {o : Oper} {a : Act} {w : World} {K : Act → World → Prop} {Q : Exit → Act → World → Prop} {E : Prop}
    (hg : o.guard = none) (d x : Operand) (dT sT : TypeId) (hop : o.op = Op.call { callee := Callee.builtin Builtin.append, args := #[d, x], argTypes := #[dT, sT] })
    (v u : Value) (hd : a.eval d = v) (hx : a.eval x = u) {v' : Value} {w' : World} (hr : (Builtin.append_ #[dT, sT] o.type #[v, u]).run P w = .ok v' w') (hK : K (a.put o.dst v') w') :
    if Region.wanted o (yielded ops a.tmps) = true then Oper.wp P o a w K Q else E := by
  have hw : Region.wanted o (yielded ops a.tmps) = true := by simp [Region.wanted, hg]
  rw [if_pos hw]
  unfold Oper.wp
  simp [execOp, hop, resolve, invoke, builtin, hd, hx, hr, Result.andThen]
  exact hK

theorem owns_behindA {B g c i : Nat} {l : List Tn.At} (hn : i = l.length) : ∀ (vs : List Value) (w : World) (s : Nat), l.length * 2 ≤ s → OwnA w B (.slice (some ⟨g, 0, none⟩) i c) l → OwnA (w.setCells g s vs) B (.slice (some ⟨g, 0, none⟩) i c) l
  | [], _, _, _, h => h
  | x :: vs, w, s, hs, h => by
    subst hn
    refine owns_behindA rfl vs (w.setCell ⟨g, s, none⟩ x) (s + 1) (by omega) ?_
    have := owns_set h s x
    unfold OwnA
    rw [List.set_eq_of_length_le (by rw [flat_len av 2 av_len]; exact hs)] at this
    exact this

set_option maxHeartbeats 3200000 in
set_option maxRecDepth 100000 in
theorem delA_any {w : World} {B : Nat} {v : Value} {l : List Tn.At} (hown : OwnA w B v l) (hl : l.length ≤ 1000) (i : Nat) (hi : i < l.length) :
    Calls Try.prog 86 #[v, .int .i64 (i : Int), .int .i64 ((i : Int) + 1)] w fun e w' => ∃ v', e = .returned v' ∧ OwnA w' B v' (l.eraseIdx i) ∧ v'.ownBlock = v.ownBlock ∧ w.grownBy w' v.ownBlock := by
  obtain ⟨i0, hi0, hz0, hz1, hz2⟩ := info_parts infoA
  have hxl : (l.flatMap av).length = l.length * 2 := flat_len av 2 av_len l
  rcases hown.2 with ⟨_, h0⟩ | ⟨g, cap, cur, rfl, hBg, hg, hnc, hcm, hcs, htake⟩
  · omega
  · have hcl0 : cur.toList.length = cur.size := Array.length_toList
    have hob : (Value.slice (some ⟨g, 0, none⟩) l.length cap).ownBlock = some g := rfl
    have hcm' : cap ≤ 9223372036854775807 := by unfold maxLen at hcm; omega
    have hone : ∀ y ∈ l.flatMap av, y.oneCell' = true := by
      intro y hy
      obtain ⟨q, _, hq⟩ := List.mem_flatMap.mp hy
      simp [av] at hq
      rcases hq with rfl | rfl <;> rfl
    obtain ⟨D, hD⟩ : ∃ D : List Value, D = (l.flatMap av).drop ((i + 1) * 2) := ⟨_, rfl⟩
    have hDl : D.length = (l.length - (i + 1)) * 2 := by rw [hD, List.length_drop, hxl]; omega
    obtain ⟨A1, hA1⟩ : ∃ A1 : List Value, A1 = cur.toList.take (i * 2) ++ D ++ cur.toList.drop (i * 2 + D.length) := ⟨_, rfl⟩
    have hA1l : A1.length = cur.size := by
      rw [hA1, List.length_append, List.length_append, List.length_take, List.length_drop, hcl0, hcs, hDl]
      omega
    have hr : ∀ ty a c', (a = (⟨g, (i + 1) * 2, none⟩ : Addr) ∨ l.length = i + 1) → (Builtin.append_ #[54, 54] ty #[.slice (some ⟨g, 0, none⟩) i cap, .slice (some a) (l.length - (i + 1)) c']).run Try.prog w.drew = .ok (.slice (some ⟨g, 0, none⟩) (l.length - 1) cap) (w.drew.setRow g A1.toArray) := by
      intro ty a c' ha
      have := run_append_room (P := Try.prog) w.drew 54 ty 62 i0 Try.underlying54 hi0 g i cap cur hg a (l.length - (i + 1)) c' D (by rw [hz1]; exact hDl) (fun j y hy => by
        rcases ha with rfl | ha
        · have hc := World.ownsRow.cells hown (g := g) rfl ((i + 1) * 2 + j) y (by rw [hD, List.getElem?_drop] at hy; exact hy)
          rw [add_at] at hc ⊢
          rw [Nat.zero_add] at hc
          rw [World.cell?_drew]
          exact hc
        · have : D = [] := List.length_eq_zero_iff.mp (by rw [hDl, ha]; omega)
          rw [this] at hy
          simp at hy) (fun y hy => hone y (List.mem_of_mem_drop (by rw [← hD]; exact hy))) (by omega) (by rw [hz1, hDl, hcs]; omega)
      rw [hz1] at this
      rw [this, hA1]
      congr 2
      omega
    have hg1 : (w.drew.setRow g A1.toArray).heap[g]? = some (.cells A1.toArray 62 (0, 0)) := setRow_heap w.drew g cur _ 62 _ hg
    have hclr : ∀ ty c', (Builtin.clear_ #[54] ty #[.slice (some ⟨g, (l.length - 1) * 2, none⟩) 1 c']).run Try.prog (w.drew.setRow g A1.toArray) = .ok (.tuple #[]) ((w.drew.setRow g A1.toArray).setCells g ((l.length - 1) * 2) [.string ⟨#[]⟩, .string ⟨#[]⟩]) := by
      intro ty c'
      refine clearA1 _ ty g _ c' (fun j hj => ?_) (fun j hj => ?_)
      · simp [World.cell?, hg1, hA1l, hcs]
        omega
      · simp [World.frozen?, hg1]
    have hel : (l.eraseIdx i).length = l.length - 1 := by rw [List.length_eraseIdx, if_pos hi]
    have R : Hid (OwnA ((w.drew.setRow g A1.toArray).setCells g ((l.length - 1) * 2) [.string ⟨#[]⟩, .string ⟨#[]⟩]) B (.slice (some ⟨g, 0, none⟩) (l.length - 1) cap) (l.eraseIdx i)) := by
      refine owns_behindA hel.symm _ _ _ (by rw [hel]; exact Nat.le_refl _) ?_
      unfold OwnA
      rw [hel]
      refine ⟨by rw [flat_len av 2 av_len, hel], Or.inr ⟨g, cap, A1.toArray, rfl, hBg, hg1, by omega, hcm, by simp [hA1l, hcs], ?_⟩⟩
      show A1.take _ = _
      have e1 : cur.toList.take (i * 2) = (l.flatMap av).take (i * 2) := by
        rw [← htake, List.take_take]
        congr 1
        omega
      have e2 : (l.eraseIdx i).flatMap av = (l.flatMap av).take (i * 2) ++ D := by
        rw [List.eraseIdx_eq_take_drop_succ, List.flatMap_append, flat_take, flat_drop, hD]
      rw [hA1, e1, e2]
      have e3 : ((l.flatMap av).take (i * 2) ++ D).length = (l.length - 1) * 2 := by
        rw [List.length_append, List.length_take, hxl, hDl]
        omega
      rw [← e3]
      exact List.take_left
    have hgr : Hid (w.grownBy ((w.drew.setRow g A1.toArray).setCells g ((l.length - 1) * 2) [.string ⟨#[]⟩, .string ⟨#[]⟩]) (some g)) := by
      refine grown_setCells _ _ _ ?_
      refine ⟨rfl, rfl, rfl, by simp [World.setRow], fun k _ hk => ?_⟩
      exact setRow_other _ g k _ (fun e => hk (by rw [e]))
    have R0 : Hid (cap = i + 1 → OwnA (w.drew.setCells g (i * 2) [.string ⟨#[]⟩, .string ⟨#[]⟩]) B (.slice (some ⟨g, 0, none⟩) i cap) (l.eraseIdx i)) := by
      intro hc1
      have e1 : l.length - 1 = i := by omega
      rw [e1] at hel
      refine owns_behindA hel.symm _ _ _ (by rw [hel]; exact Nat.le_refl _) ?_
      unfold OwnA
      rw [hel]
      refine ⟨by rw [flat_len av 2 av_len, hel], Or.inr ⟨g, cap, cur, rfl, hBg, hg, by omega, hcm, hcs, ?_⟩⟩
      have e2 : (l.eraseIdx i).flatMap av = (l.flatMap av).take (i * 2) ++ D := by
        rw [List.eraseIdx_eq_take_drop_succ, List.flatMap_append, flat_take, flat_drop, hD]
      have e4 : D = [] := List.length_eq_zero_iff.mp (by rw [hDl]; omega)
      rw [e2, e4, List.append_nil, ← htake, List.take_take]
      congr 1
      omega
    have hclr0 : cap = i + 1 → ∀ ty c', (Builtin.clear_ #[54] ty #[.slice (some ⟨g, i * 2, none⟩) 1 c']).run Try.prog w.drew = .ok (.tuple #[]) (w.drew.setCells g (i * 2) [.string ⟨#[]⟩, .string ⟨#[]⟩]) := by
      intro hc1 ty c'
      have hgd : w.drew.heap[g]? = some (.cells cur 62 (0, 0)) := hg
      refine clearA1 _ ty g _ c' (fun j hj => ?_) (fun j hj => ?_)
      · simp [World.cell?, hgd, hcs]
        omega
      · simp [World.frozen?, hgd]
    have hgr0 : Hid (w.grownBy (w.drew.setCells g (i * 2) [.string ⟨#[]⟩, .string ⟨#[]⟩]) (some g)) := grown_setCells _ _ _ ⟨rfl, rfl, rfl, Nat.le_refl _, fun _ _ _ => rfl⟩
    rw [hob]
    have hb1 : (0 : Int) ≤ (i : Int) + 1 := by omega
    have hb2 : (i : Int) + 1 ≤ (l.length : Int) := by omega
    have hb3 : ¬ ((i : Int) = (i : Int) + 1) := by omega
    have htn : ((i : Int) + 1).toNat = i + 1 := by omega
    have hci : ¬ (cap = i) := by omega
    have hcl1 : ¬ (cap = l.length - 1) := by omega
    have hn1 : l.length - (l.length - 1) = 1 := by omega
    have mixed : Try.prog.follows Departure.mixedOrders = true := by kernel_rfl
    clear hown hone hD hDl hA1 hA1l hg1 htake hob hxl hcl0 hg hcs hel hz0 hz1 hz2
    generalize A1.toArray = R1 at *
    by_cases hc1 : cap = i + 1
    · have hli : l.length = i + 1 := by omega
      have R0' := R0.out hc1
      have hcl' := hclr0 hc1
      have R2 : Hid _ := R0'
      clear hr hclr hclr0 R0 R hgr R0'
      subst hc1
      rw [hli]
      clear hli hi hl hnc hcm hn1 hcl1 hb2 hci
      have hx1 : (i : Int) ≤ (i : Int) + 1 := by omega
      have hx2 : i ≤ i + 1 := by omega
      go_enter Try.func86, Try.ntmps86
      go_wp2_with fail
      go_region_law_o fail
      go_wp2_with fail
      go_ret
      exact ⟨_, rfl, R2.out, rfl, hgr0.out⟩
    · have hr' : ∀ ty c', (Builtin.append_ #[54, 54] ty #[.slice (some ⟨g, 0, none⟩) i cap, .slice (some ⟨g, (i + 1) * 2, none⟩) (l.length - (i + 1)) c']).run Try.prog w.drew = .ok (.slice (some ⟨g, 0, none⟩) (l.length - 1) cap) (w.drew.setRow g R1) := fun ty c' => hr ty _ c' (Or.inl rfl)
      clear hr R0 hclr0 hgr0
      have hic : i ≤ cap := by omega
      go_enter Try.func86, Try.ntmps86
      go_wp2_with fail
      go_region_law_o (refine step_append_at rfl _ _ 54 54 rfl _ _ (by simp [Act.eval, Act.put]) (by simp [Act.eval, Act.put]) (hr' _ (cap - (i + 1))) ?_)
      go_wp2_with fail
      go_ret
      exact ⟨_, rfl, R.out, rfl, hgr.out⟩
end Go.Proofs.Ytookcjdibpccpaa

/-
  THE WALK of dom.clearAttr, in a document of the call's own.
-/
namespace Go.Proofs.Ytookcjdibpccpaa
open Go.RowKit

def clrE (l : List Tn.At) (nm : ByteArray) : Int := if (Tn.attrOf l nm).isSome then 0 else 6

set_option maxHeartbeats 400000 in
set_option maxRecDepth 100000 in
theorem dclear_any {w : World} {B g c : Nat} {rs : List Raw} {d : Tn.Dc} (h : Owned w B g c rs d) (hB : B ≤ w.heap.size) {k : Nat} (hk : k < rs.length) (hr : Rising (Tn.nd d k).attrs) (h8 : (Tn.nd d k).attrs.length ≤ 8) (nm : ByteArray) :
    Calls Try.prog 71 #[.pointer (some ⟨g, k * 9, none⟩), .string nm] w fun e w' => e = .returned (.int .i64 (clrE (Tn.nd d k).attrs nm)) ∧ Below B w w' ∧ (clrE (Tn.nd d k).attrs nm = 0 → ∃ rs', rs'.length = rs.length ∧ Owned w' B g c rs' (d.set k { Tn.nd d k with attrs := Tn.attrsOff (Tn.nd d k).attrs nm }) ∧ Fr g rs w g rs' w') ∧ Kpt g rs w w' := by
  have H : Hid (Owned w B g c rs d) := h
  have hd := h.doc (by omega)
  have hkd : k < d.length := by rw [← h.len]; exact hk
  have c3 := hd.row.c3 k hk
  have own := (h.nds k hk hkd).attrs
  rw [nd_at hkd] at hr h8 ⊢
  have hA : AttrsAt w (.slice rs[k].a.p rs[k].a.n rs[k].a.c) d[k].attrs := attrs_of_owns own
  have e0 : rs[k].a.n = d[k].attrs.length := al_of hA
  rw [e0] at c3 hA own
  have hcap : d[k].attrs.length ≤ rs[k].a.c ∧ rs[k].a.c ≤ 9223372036854775807 := by
    obtain ⟨_, _, he, q1, q2, _⟩ := hA.at
    cases he
    exact ⟨q1, q2⟩
  have HI := dattrAt_any hA hr (by omega) nm
  have HI : Hid (Calls Try.prog 55 #[.slice rs[k].a.p d[k].attrs.length rs[k].a.c, .string nm] w fun e w' => ∃ i, Stands d[k].attrs nm i ∧ e = .returned (.tuple #[.int .i64 (i : Int), .bool (Tn.attrOf d[k].attrs nm).isSome]) ∧ Below w.heap.size w w') := HI
  clear hd hA h
  obtain ⟨l, hl⟩ : ∃ l, l = d[k].attrs := ⟨_, rfl⟩
  rw [← hl] at hr h8 c3 own e0 hcap HI ⊢
  have HLL : Hid (d[k].attrs = l) := hl.symm
  clear hl
  simp only [Nat.zero_add] at c3
  have HOW : Hid (OwnA w B (.slice rs[k].a.p l.length rs[k].a.c) l) := own
  have HRA : Hid (rs[k].a = ⟨rs[k].a.p, l.length, rs[k].a.c⟩) := by
    show _ = _
    rw [← e0]
  clear own e0
  obtain ⟨hcap1, hcap2⟩ := hcap
  generalize rs[k].a.p = ap at *
  generalize rs[k].a.c = ac at *
  cases hhas : (Tn.attrOf l nm).isSome with
  | false =>
    have E : Hid (clrE l nm = 6) := by show _ = _; unfold clrE; rw [hhas]; rfl
    rw [hhas] at HI
    go_enter Try.func71, Try.ntmps71
    go_wp2_with fail
    refine HI.out.mono ?_
    rintro e w1 ⟨i, ST, rfl, b1⟩
    have HST : Hid (Stands l nm i) := ST
    clear ST
    go_wp2_with fail
    go_ret
    exact ⟨by rw [E.out]; rfl, b1.mono hB, (fun e => by rw [E.out] at e; cases e), fun x hx _ => b1.block x hx⟩
  | true =>
    have E : Hid (clrE l nm = 0) := by show _ = _; unfold clrE; rw [hhas]; rfl
    rw [hhas] at HI
    go_enter Try.func71, Try.ntmps71
    go_wp2_with fail
    refine HI.out.mono ?_
    rintro e w1 ⟨i, ST, rfl, b1⟩
    obtain ⟨hil, hq⟩ := (stands_eq hr ST).mp hhas
    have HD : Hid (Tn.attrsOff l nm = l.eraseIdx i) := attrs_off hr ST hil hq
    clear hq ST
    have d3 := keeps_below b1 (Nat.le_refl _) _ _ c3
    have OW2 := HOW.out.below b1 (Nat.le_refl _)
    have fg : ∀ j, w1.frozen? ⟨g, j, none⟩ = false := below_frozen b1 (H.out.at (by omega)).2.1 (H.out.at (by omega)).2.2
    have O2 : Hid (Owned w1 B g c rs d) := H.out.below b1 (Nat.le_refl _)
    have F2 : Hid (Fr g rs w g rs w1) := (Fr.refl g rs w).below b1
    have BB2 : Hid (Below B w w1) := b1.mono hB
    have hw1 : B ≤ w1.heap.size := Nat.le_trans hB b1.size
    have hob : (Value.slice ap l.length ac).ownBlock = blk rs[k] 0 := by
      have := sblk_own rs[k].a
      rw [HRA.out] at this
      exact this.trans (by show _ = sblk rs[k].a; rw [HRA.out])
    have hdel := delA_any OW2 (by omega) i hil
    rw [hob] at hdel
    have HIN : Hid (Calls Try.prog 86 #[.slice ap l.length ac, .int .i64 (i : Int), .int .i64 ((i : Int) + 1)] w1 fun e w' => ∃ v', e = .returned v' ∧ OwnA w' B v' (l.eraseIdx i) ∧ v'.ownBlock = blk rs[k] 0 ∧ w1.grownBy w' (blk rs[k] 0)) := hdel
    clear hdel OW2 HI c3 b1
    go_wp2_with fail
    refine HIN.out.mono ?_
    rintro e w4 ⟨v', rfl, o4, hb4, gr4⟩
    obtain ⟨p', c', rfl⟩ := o4.shape
    generalize hL : l.eraseIdx i = L at *
    have HLE : Hid (l.eraseIdx i = L) := hL
    clear hL
    have hgl : g < w1.heap.size := (O2.out.at (by omega)).2.1
    have hgne : some g ≠ blk rs[k] 0 := fun e => O2.out.sep.row k hk 0 e.symm
    have hblg := gr4.block g hgl hgne
    have d4 : w4.cell? ⟨g, k * 9 + 3, none⟩ = some (.slice ap l.length ac) := by
      rw [World.cell?_of_block (a := ⟨g, k * 9 + 3, none⟩) hblg]
      exact d3
    have fg4 : w4.frozen? ⟨g, k * 9 + 3, none⟩ = false := by
      rw [World.frozen?_of_block (a := ⟨g, k * 9 + 3, none⟩) hblg]
      exact fg _
    obtain ⟨r', hr'⟩ : ∃ r' : Raw, r' = { rs[k] with a := ⟨p', L.length, c'⟩ } := ⟨_, rfl⟩
    have ndk := O2.out.nds k hk hkd
    have nd4 : OwnNd w4 B r' { d[k] with attrs := L } := by
      rw [hr']
      exact ⟨ndk.live, ndk.tag, ndk.text, ndk.up, ndk.hasS, ndk.inS, o4, owns_grown ndk.kids gr4 (fun x hx e => by have := (O2.out.sep.one k hk 0 k hk 1 x e hx).2; cases this), owns_grown ndk.shadow gr4 (fun x hx e => by have := (O2.out.sep.one k hk 0 k hk 2 x e hx).2; cases this)⟩
    have hoth : ∀ t', t' ≠ (0 : Fin 3) → lst r' t' = lst rs[k] t' := by
      intro t' ht
      rw [hr']
      match t', ht with
      | 1, _ => rfl
      | 2, _ => rfl
    have hnew : blk r' 0 = blk rs[k] 0 ∨ ∃ x, w1.heap.size ≤ x ∧ x < w4.heap.size ∧ blk r' 0 = some x := by
      left
      rw [← hb4]
      have : blk r' 0 = sblk ⟨p', L.length, c'⟩ := by rw [hr']; rfl
      rw [this, ← sblk_own]
    have hcel : r'.cells = rs[k].cells.set 3 (.slice p' L.length c') := by rw [hr']; rfl
    have O5 : Hid (Owned (w4.setCell ⟨g, k * 9 + 3, none⟩ (.slice p' L.length c')) B g c (rs.set k r') (d.set k { d[k] with attrs := L })) :=
      O2.out.list hk 0 gr4 hoth hnew nd4 3 (by decide) _ hcel
    have F5 : Hid (Fr g rs w g (rs.set k r') (w4.setCell ⟨g, k * 9 + 3, none⟩ (.slice p' L.length c'))) := F2.out.trans (Fr.list hk 0 gr4 hoth hnew _ _)
    have BB6 : Hid (Below B w (w4.setCell ⟨g, k * 9 + 3, none⟩ (.slice p' L.length c'))) := by
      have hBg : B ≤ g := (O2.out.at (by omega)).1
      have b4 := BB2.out.grown gr4 hw1 (fun j hj => by
        have := World.ownsRow.lt ndk.attrs j (by rw [sblk_own]; exact hj.symm ▸ rfl)
        exact this.1)
      exact b4.setCell (p := ⟨g, k * 9 + 3, none⟩) hBg _
    have hlen : Hid ((rs.set k r').length = rs.length) := by show _ = _; simp
    clear nd4 hoth hnew hcel ndk hblg hgne hgl hob gr4 hb4 o4 hr' HIN BB2 F2 O2 d3 fg H HOW HLL HRA
    go_wp2_with fail
    go_ret
    exact ⟨by rw [E.out]; rfl, BB6.out, fun _ => ⟨rs.set k r', hlen.out, by rw [HD.out]; exact O5.out, F5.out⟩, F5.out.block⟩
end Go.Proofs.Ytookcjdibpccpaa

/-
  THE WALKS of dom's small functions: trim, listOf, say, giveShadow.
-/
namespace Go.Proofs.Ytookcjdibpccpaa
open Go.RowKit

theorem last_here (d : Tn.Dc) (m : Nat) (h : (Tn.nd d m).live = true) : Tn.lastLive d (m + 1) = m + 1 := by
  rw [Tn.lastLive]
  by_cases hm : m = 0
  · subst hm
    simp [Tn.lastLive]
  · have := lastLive_le d m
    rw [if_pos ⟨h, by omega⟩]

set_option maxHeartbeats 1600000 in
theorem dtrim_any {w : World} {b o c : Nat} {rs : List Raw} {d : Tn.Dc} (hd : DocAt w b o c rs d) (h0 : 0 < rs.length) (hl : Tn.lvD d 0 = true) :
    Calls Try.prog 58 #[.slice (some ⟨b, o, none⟩) rs.length c] w fun e w' => ∃ rs', e = .returned (.slice (some ⟨b, o, none⟩) rs'.length c) ∧ DocAt w b o c rs' (Tn.trimD d) ∧ 0 < rs'.length ∧ w' = w := by
  have H : Hid (DocAt w b o c rs d) := hd
  have LN : Hid (d.length = rs.length) := hd.len.symm
  have hcap := hd.cap
  have hcM : c ≤ 9223372036854775807 := by have := hd.capM; unfold maxLen at this; omega
  have h00 : Hid ((Tn.nd d 0).live = true) := hl
  clear hd hl
  go_enter Try.func58, Try.ntmps58
  go_wp2_with fail
  go_loop [0] (fun dv => ∃ m : Nat, m + 1 ≤ rs.length ∧ dv = .slice (some ⟨b, o, none⟩) (m + 1) c ∧ Hid (Tn.lastLive d rs.length = Tn.lastLive d (m + 1))) (fun v => match v with | .slice _ n _ => n | _ => 0)
  case atStart => exact ⟨rs.length - 1, by omega, by congr 1; omega, by show _ = _; congr 1; omega⟩
  case round =>
    obtain ⟨m, hm, rfl, L⟩ := hrel
    have c0 := H.out.row.c0 m (by omega)
    have hnl : Hid (rs[m].live = (Tn.nd d m).live) := by
      have hmd : m < d.length := by rw [LN.out]; omega
      show _ = _
      rw [nd_at hmd]
      exact (H.out.nds m (by omega) hmd).live
    generalize rs[m].live = lv at *
    cases lv with
    | true =>
      have E : Hid (Tn.lastLive d rs.length = m + 1) := by show _ = _; rw [L.out]; exact last_here d m hnl.out.symm
      go_wp2_with fail
      go_ret
      refine ⟨rs.take (m + 1), by rw [List.length_take, Nat.min_eq_left hm]; rfl, ?_, by rw [List.length_take]; omega, rfl⟩
      unfold Tn.trimD
      rw [LN.out, E.out]
      exact doc_take H.out _
    | false =>
      have hm0 : 0 < m := by
        rcases Nat.eq_zero_or_pos m with rfl | h
        · have := h00.out; rw [← hnl.out] at this; cases this
        · exact h
      obtain ⟨k, rfl⟩ : ∃ k, m = k + 1 := ⟨m - 1, by omega⟩
      have L2 : Hid (Tn.lastLive d rs.length = Tn.lastLive d (k + 1)) := by
        show _ = _
        rw [L.out, Tn.lastLive, if_neg (by rw [← hnl.out]; simp)]
      clear hnl L
      go_wp2_with fail
      exact ⟨⟨k, by omega, rfl, L2⟩, by simp⟩

/-- where a node has its list -/
def lof : Bool → Nat
  | true => 7
  | false => 5

set_option maxHeartbeats 1600000 in
theorem dlistOf_any {w : World} {b o c : Nat} {rs : List Raw} {d : Tn.Dc} (hd : DocAt w b o c rs d) (k : Nat) (hk : k < rs.length) (s : Bool) :
    Calls Try.prog 93 #[.slice (some ⟨b, o, none⟩) rs.length c, .int .i64 (k : Int), .bool s] w fun e w' => e = .returned (.pointer (some ⟨b, o + k * 9 + lof s, none⟩)) ∧ w' = w := by
  have h5 := hd.row.c5 k hk
  have h7 := hd.row.c7 k hk
  clear hd
  cases s with
  | false =>
    go_enter Try.func93, Try.ntmps93
    go_wp2_with fail
    go_ret
    exact ⟨rfl, rfl⟩
  | true =>
    go_enter Try.func93, Try.ntmps93
    go_wp2_with fail
    go_ret
    exact ⟨rfl, rfl⟩

set_option maxHeartbeats 1600000 in
theorem dsay_any {w : World} {g i : Nat} {tag text v : ByteArray} (h1 : w.cell? ⟨g, i + 1, none⟩ = some (.string tag)) (h2 : w.cell? ⟨g, i + 2, none⟩ = some (.string text)) (hf : w.frozen? ⟨g, i + 2, none⟩ = false) (hv : v.size ≤ 4194304) :
    Calls Try.prog 69 #[.pointer (some ⟨g, i, none⟩), .string v] w fun e w' => (e = .returned (.int .i64 8) ∧ w' = w ∧ (tag.toList ≠ [] ∨ 60 < v.size)) ∨ (e = .returned (.int .i64 0) ∧ w' = w.setCell ⟨g, i + 2, none⟩ (.string v) ∧ tag.toList = [] ∧ v.size ≤ 60) := by
  cases ht : tag.toList.isEmpty with
  | false =>
    go_enter Try.func69, Try.ntmps69
    go_wp2_with fail
    go_ret
    exact Or.inl ⟨rfl, rfl, Or.inl (by intro e; simp [e] at ht)⟩
  | true =>
    by_cases hs : 60 < v.size
    · go_enter Try.func69, Try.ntmps69
      go_wp2_with fail
      go_ret
      exact Or.inl ⟨rfl, rfl, Or.inr hs⟩
    · go_enter Try.func69, Try.ntmps69
      go_wp2_with fail
      go_ret
      exact Or.inr ⟨rfl, rfl, by simpa using ht, by omega⟩

set_option maxHeartbeats 1600000 in
theorem dgive_any {w : World} {g c : Nat} {rs : List Raw} {d : Tn.Dc} (hd : DocAt w g 0 c rs d) (hf : ∀ j, w.frozen? ⟨g, j, none⟩ = false) (k : Nat) (hk : k < rs.length) :
    Calls Try.prog 72 #[.slice (some ⟨g, 0, none⟩) rs.length c, .int .i64 (k : Int)] w fun e w' =>
      (e = .returned (.int .i64 8) ∧ w' = w ∧ (k = 0 ∨ rs[k].hasS = true ∨ rs[k].tag.toList = [115, 108, 111, 116])) ∨
      (e = .returned (.int .i64 0) ∧ w' = w.setCell ⟨g, k * 9 + 6, none⟩ (.bool true) ∧ ¬ (k = 0 ∨ rs[k].hasS = true ∨ rs[k].tag.toList = [115, 108, 111, 116])) := by
  have h1 := hd.row.c1 k hk
  have h6 := hd.row.c6 k hk
  have f6 := hf (k * 9 + 6)
  rw [Nat.zero_add] at h1 h6
  clear hd hf
  generalize rs[k].hasS = hs at *
  generalize rs[k].tag = tg at *
  by_cases h0 : k = 0
  · subst h0
    go_enter Try.func72, Try.ntmps72
    go_wp2_with fail
    go_ret
    exact Or.inl ⟨rfl, rfl, Or.inl trivial⟩
  · have hk0 : ((k : Int) == 0) = false := by simpa using h0
    cases hs with
    | true =>
      go_enter Try.func72, Try.ntmps72
      go_wp2_with fail
      go_ret
      exact Or.inl ⟨rfl, rfl, Or.inr (Or.inl trivial)⟩
    | false =>
      cases ht : (tg.toList == [115, 108, 111, 116]) with
      | true =>
        go_enter Try.func72, Try.ntmps72
        go_wp2_with fail
        go_ret
        exact Or.inl ⟨rfl, rfl, Or.inr (Or.inr (by simpa using ht))⟩
      | false =>
        go_enter Try.func72, Try.ntmps72
        go_wp2_with fail
        go_ret
        exact Or.inr ⟨rfl, rfl, by rintro (h | h | h); exact h0 h; cases h; simp [h] at ht⟩
end Go.Proofs.Ytookcjdibpccpaa

/-
  THE WALKS of slices.Index at []int, and of dom.firstFree.
-/
namespace Go.Proofs.Ytookcjdibpccpaa
open Go.RowKit

set_option maxHeartbeats 1600000 in
theorem free1_any {w : World} (lv : Bool) (tg tx : ByteArray) (a k s : Value) (u : Int) (hs is : Bool) :
    Calls Try.prog 103 #[.agg #[.bool lv, .string tg, .string tx, a, .int .i64 u, k, .bool hs, s, .bool is]] w fun e w' => e = .returned (.bool (!lv)) ∧ Below w.heap.size w w' := by
  cases lv with
  | false =>
    go_enter Try.func103, Try.ntmps103
    go_wp2_with fail
    go_ret
    exact ⟨rfl, (Below.refl _ _).alloc (Nat.le_refl _) _⟩
  | true =>
    go_enter Try.func103, Try.ntmps103
    go_wp2_with fail
    go_ret
    exact ⟨rfl, (Below.refl _ _).alloc (Nat.le_refl _) _⟩

set_option maxHeartbeats 1600000 in
theorem indexNode_any {w : World} {b o c : Nat} {rs : List Raw} {d : Tn.Dc} (hd : DocAt w b o c rs d) (hlr : rs.length ≤ 1000) :
    Calls Try.prog 102 #[.slice (some ⟨b, o, none⟩) rs.length c, .func (.func 103) #[] #[]] w fun e w' => ∃ i : Int, e = .returned (.int .i64 i) ∧ ((i = -1 ∧ Tn.free d = rs.length) ∨ (i = (Tn.free d : Int) ∧ Tn.free d < rs.length)) ∧ Below w.heap.size w w' := by
  have H : Hid (DocAt w b o c rs d) := hd
  have LN : Hid (d.length = rs.length) := hd.len.symm
  clear hd
  go_enter Try.func102, Try.ntmps102
  go_wp2_with fail
  go_loopw [8] (fun i wr => ∃ j : Nat, j ≤ rs.length ∧ i = .int .i64 j ∧ Hid (Tn.free d = Tn.freeAt d (d.length - j)) ∧ Below w.heap.size w wr) (fun i _ => rs.length - (intOf i).toNat)
  case atStart => exact ⟨0, Nat.zero_le _, rfl, rfl, Below.refl _ _⟩
  case round =>
    obtain ⟨j, hj, rfl, F, hnx⟩ := hrel
    have hbz := hnx.size
    by_cases hlt : j < rs.length
    · have hjd : j < d.length := by rw [LN.out]; exact hlt
      have hD := H.out.keeps (keeps_below hnx (Nat.le_refl _))
      have c0 := hD.row.c0 j hlt
      have c1 := hD.row.c1 j hlt
      have c2 := hD.row.c2 j hlt
      have c3 := hD.row.c3 j hlt
      have c4 := hD.row.c4 j hlt
      have c5 := hD.row.c5 j hlt
      have c6 := hD.row.c6 j hlt
      have c7 := hD.row.c7 j hlt
      have c8 := hD.row.c8 j hlt
      have hlv : Hid (rs[j].live = (Tn.nd d j).live) := by
        show _ = _
        rw [nd_at hjd]
        exact (hD.nds j hlt hjd).live
      have F2 : Hid (Tn.free d = if rs[j].live then Tn.freeAt d (d.length - (j + 1)) else j) := by
        show _ = _
        have e : d.length - j = (d.length - (j + 1)) + 1 := by omega
        rw [F.out, e, freeAt_step, hlv.out]
        have e2 : d.length - (d.length - (j + 1) + 1) = j := by omega
        rw [e2]
      clear hD hlv F
      generalize rs[j] = r at *
      obtain ⟨rl, rt, rx, ⟨ap, an, ac⟩, ru, ⟨kp, kn, kc⟩, rh, ⟨sp, sn, sc⟩, ri⟩ := r
      simp only at c0 c1 c2 c3 c4 c5 c6 c7 c8 F2
      cases rl with
      | false =>
        have E : Hid (Tn.free d = j) := by show _ = _; rw [F2.out]; rfl
        go_wp2_with (go_at_call 103; refine (free1_any false rt rx (.slice ap an ac) (.slice kp kn kc) (.slice sp sn sc) ru rh ri).mono ?_; rintro e w9 ⟨rfl, hb9⟩)
        go_ret
        exact ⟨_, rfl, Or.inr ⟨by rw [E.out], by rw [E.out]; exact hlt⟩, hnx.trans (hb9.mono hbz)⟩
      | true =>
        have E : Hid (Tn.free d = Tn.freeAt d (d.length - (j + 1))) := by show _ = _; rw [F2.out]; rfl
        go_wp2_with (go_at_call 103; refine (free1_any true rt rx (.slice ap an ac) (.slice kp kn kc) (.slice sp sn sc) ru rh ri).mono ?_; rintro e w9 ⟨rfl, hb9⟩)
        go_roundw
        case rel => exact ⟨j + 1, by omega, by go_num, E, hnx.trans (hb9.mono hbz)⟩
        case measure => simp [intOf]; omega
    · obtain rfl : j = rs.length := by omega
      have E : Hid (Tn.free d = rs.length) := by
        show _ = _
        rw [F.out, LN.out, Nat.sub_self, Tn.freeAt, LN.out]
      go_wp2_with fail
      go_ret
      exact ⟨_, rfl, Or.inl ⟨rfl, E.out⟩, hnx⟩

set_option maxHeartbeats 1600000 in
theorem dfree_any {w : World} {b o c : Nat} {rs : List Raw} {d : Tn.Dc} (hd : DocAt w b o c rs d) (hlr : rs.length ≤ 1000) :
    Calls Try.prog 88 #[.slice (some ⟨b, o, none⟩) rs.length c] w fun e w' => e = .returned (.int .i64 (Tn.free d : Int)) ∧ Below w.heap.size w w' := by
  have hI := indexNode_any hd hlr
  clear hd
  go_enter Try.func88, Try.ntmps88
  go_wp2_with (go_at_call 102; refine hI.mono ?_; rintro e w9 ⟨i, rfl, hi, hb9⟩; rcases hi with ⟨rfl, hi⟩ | ⟨rfl, hi⟩)
  · go_ret
    exact ⟨by rw [hi]; rfl, hb9⟩
  · go_ret
    exact ⟨rfl, hb9⟩
end Go.Proofs.Ytookcjdibpccpaa
