/-
  OWN WORK: Fmb, Odo, Dsm, Dix, Dta, Cpy, Ins, Dp1.
-/
import Derived.Test.YtookcjdibpccpabP6
import Derived.Test.YtookcjdibpccpabP5
import Derived.Laws.CopyRow
import Derived.Lib.Overlaps
import Derived.Lib.AppendZerosOnto
/-
  PLAIN MATHEMATICS: what is shown is shown once; each node in one other, that stands ahead of it.
-/
namespace Go.Proofs.Ytookcjdibpccpab
open Tn

/-- in what a node is shown, if it is -/
def fpar (d : Dc) (k : Nat) : Int := if (nd d k).inS then (nd d k).up else if (nd d (upD d k)).hasS then slotD d (k : Int) else (nd d k).up

theorem kid_nat {d : Dc} {p : Int} {k : Nat} (hk : k ∈ kidsD d p) : ∃ n : Nat, p = (n : Int) ∧ lvD d n = true := by
  unfold kidsD at hk
  split at hk
  · rename_i hi
    obtain ⟨n, rfl, _, hl⟩ := isN_nat hi
    exact ⟨n, rfl, hl⟩
  · simp at hk

theorem orI_nat {o : Option Nat} {n : Nat} (h : orI o = (n : Int)) : o = some n := by
  cases o with
  | none => simp only [orI] at h; omega
  | some m => simp only [orI] at h; rw [show m = n by omega]

theorem slot_of {d : Dc} {k n : Nat} (h : slotD d (k : Int) = (n : Int)) : slottedD d (k : Int) = true ∧ (all fuel d (nd d k).up.toNat).find? (fitsD d (valN d (k : Int) slotB) (nd d k).up) = some n := by
  unfold slotD at h
  split at h
  · rename_i hs
    rw [Int.toNat_natCast] at h
    exact ⟨hs, orI_nat h⟩
  · omega

theorem slotted_of {d : Dc} {k : Nat} (h : slottedD d (k : Int) = true) : lvD d k = true ∧ (nd d k).inS = false ∧ (∃ u : Nat, (nd d k).up = (u : Int) ∧ lvD d u = true) ∧ (nd d (upD d k)).hasS = true := by
  unfold slottedD at h
  simp only [Bool.and_eq_true] at h
  obtain ⟨⟨⟨h1, h2⟩, h3⟩, h4⟩ := h
  rw [Int.toNat_natCast] at h2 h3 h4
  obtain ⟨u, hu, _, hl⟩ := isN_nat (isN_true h3)
  exact ⟨by rw [← isN_iff]; exact h1, by simpa using h2, ⟨u, hu, hl⟩, h4⟩

theorem kid_par {d : Dc} (h : Fine d) {n k : Nat} (hk : k ∈ kidsD d (n : Int)) : lvD d n = true ∧ lvD d k = true ∧ 0 < k ∧ (n : Int) = fpar d k ∧ (∃ s, k ∈ liD d (upD d k) s) ∧
    ((n = upD d k) ∨ (slotD d (k : Int) = (n : Int) ∧ k ∈ (nd d (upD d k)).kids)) := by
  obtain ⟨r, hr, _⟩ := h.good.tr
  have hk0 := hk
  unfold kidsD at hk
  split at hk
  · rename_i hi
    have hn : lvD d n = true := by rw [← isN_iff]; exact hi
    rw [Int.toNat_natCast] at hk
    have up_eq : ∀ s, k ∈ liD d n s → lvD d k = true ∧ 0 < k ∧ upD d k = n ∧ (nd d k).inS = s ∧ (nd d k).up = (n : Int) := by
      intro s hs
      obtain ⟨_, h2, h3, h4, h5⟩ := hr.1.mem n s k hs
      have := hr.2 k h3 h2
      refine ⟨h2, h3, h4, h5, ?_⟩
      have e : (nd d k).up.toNat = n := h4
      omega
    split at hk
    · obtain ⟨h1, h2, h3, h4, h5⟩ := up_eq true hk
      exact ⟨hn, h1, h2, by unfold fpar; rw [h4, if_pos rfl, h5], ⟨true, by rw [h3]; exact hk⟩, Or.inl h3.symm⟩
    · rename_i hs
      split at hk
      · obtain ⟨h1, h2, h3, h4, h5⟩ := up_eq false hk
        exact ⟨hn, h1, h2, by unfold fpar; rw [h4, if_neg (by simp), h3, if_neg hs, h5], ⟨false, by rw [h3]; exact hk⟩, Or.inl h3.symm⟩
      · unfold givenD at hk
        split at hk
        · obtain ⟨s, hsc, _⟩ := h.okd.scope n hn
          rw [hsc, Int.toNat_natCast, List.mem_filter] at hk
          obtain ⟨hk1, hk2⟩ := hk
          have hsl : slotD d (k : Int) = (n : Int) := by simpa using hk2
          obtain ⟨_, g2, g3, g4, g5⟩ := hr.1.mem s false k hk1
          obtain ⟨hs1, _⟩ := slot_of hsl
          obtain ⟨_, hi2, _, hh⟩ := slotted_of hs1
          refine ⟨hn, g2, g3, ?_, ⟨false, by rw [g4]; exact hk1⟩, Or.inr ⟨hsl, by rw [g4]; exact hk1⟩⟩
          unfold fpar
          rw [hi2, if_neg (by simp), if_pos hh, hsl]
        · simp at hk
  · simp at hk

theorem kid_one {d : Dc} (h : Fine d) {a b k : Nat} (ha : k ∈ kidsD d (a : Int)) (hb : k ∈ kidsD d (b : Int)) : a = b := by
  have h1 := (kid_par h ha).2.2.2.1
  have h2 := (kid_par h hb).2.2.2.1
  omega

theorem pair_sub {a b : Nat} {l : List Nat} (hb : b ∈ l) : [a, b].Sublist (a :: l) := List.Sublist.cons_cons _ (List.singleton_sublist.mpr hb)

theorem live_all {d : Dc} (h : Fine d) {n : Nat} (hn : lvD d n = true) : n ∈ allD d 0 := by
  obtain ⟨r, hr, _⟩ := h.good.tr
  exact (sub_root h hr _ n rfl hn).subset (allD_self h hn)

theorem kid_before {d : Dc} (h : Fine d) {n k : Nat} (hk : k ∈ kidsD d (n : Int)) : [n, k].Sublist (allD d 0) := by
  obtain ⟨r, hr, _⟩ := h.good.tr
  obtain ⟨h1, h2, h3, _, ⟨s, h5⟩, h6⟩ := kid_par h hk
  rcases h6 with e | ⟨hsl, hkk⟩
  · rw [← e] at h5
    exact ((pair_sub (allD_self h h2)).trans (sub_child h h5)).trans (sub_root h hr _ n rfl h1)
  · obtain ⟨hs1, hs2⟩ := slot_of hsl
    obtain ⟨_, _, ⟨u, hu, hul⟩, hh⟩ := slotted_of hs1
    have hud : upD d k = u := by unfold upD; rw [hu]; simp
    rw [hud] at hh hkk
    rw [hu, Int.toNat_natCast] at hs2
    have hs3 := slot_shadow h hul hh (valN d (k : Int) slotB)
    have hs4 : ((nd d u).shadow.flatMap (allD d)).find? (fitsD d (valN d (k : Int) slotB) (u : Int)) = some n := by rw [← hs3]; exact hs2
    have hnm := List.mem_of_find?_eq_some hs4
    have hkm : k ∈ (nd d u).kids.flatMap (allD d) := List.mem_flatMap.mpr ⟨k, hkk, allD_self h h2⟩
    have h7 : [n, k].Sublist (allD d u) := by
      rw [allD_eq h hul]
      refine List.Sublist.cons _ ?_
      rw [show [n, k] = [n] ++ [k] from rfl]
      exact List.Sublist.append (List.singleton_sublist.mpr hnm) (List.singleton_sublist.mpr hkm)
    exact h7.trans (sub_root h hr _ u rfl hul)

theorem idx_ne {a x : Nat} {l : List Nat} (h : a ≠ x) : (x :: l).idxOf a = l.idxOf a + 1 := by
  rw [List.idxOf_cons]
  have : (x == a) = false := by simp; omega
  rw [this]
  rfl
theorem idx_lt : ∀ (l : List Nat) (a b : Nat), l.Nodup → [a, b].Sublist l → l.idxOf a < l.idxOf b
  | [], _, _, _, h => by simp at h
  | x :: l, a, b, hn, h => by
    obtain ⟨h1, h2⟩ := List.nodup_cons.mp hn
    cases h with
    | cons _ h =>
      have ha : a ≠ x := fun e => h1 (by rw [← e]; exact h.subset (by simp))
      have hb : b ≠ x := fun e => h1 (by rw [← e]; exact h.subset (by simp))
      have := idx_lt l a b h2 h
      rw [idx_ne ha, idx_ne hb]
      omega
    | cons_cons _ h =>
      have hb : b ∈ l := List.singleton_sublist.mp h
      have hne : b ≠ x := fun e => h1 (by rw [← e]; exact hb)
      rw [List.idxOf_cons_self, idx_ne hne]
      omega

/-- a node's place among all -/
def posD (d : Dc) (n : Nat) : Nat := (allD d 0).idxOf n

theorem kid_pos {d : Dc} (h : Fine d) {n k : Nat} (hk : k ∈ kidsD d (n : Int)) : posD d n < posD d k := by
  obtain ⟨r, hr, _⟩ := h.good.tr
  exact idx_lt _ _ _ (allD_nodup h hr.1.root) (kid_before h hk)

theorem pos_lt {d : Dc} (h : Fine d) {n : Nat} (hn : lvD d n = true) : posD d n < (allD d 0).length := List.idxOf_lt_length_of_mem (live_all h hn)

theorem all_few {d : Dc} (h : Fine d) : (allD d 0).length ≤ 60 := by
  obtain ⟨r, hr, _⟩ := h.good.tr
  exact Nat.le_trans (nodup_le d.length _ (allD_nodup h hr.1.root) (fun x hx => lv_lt (allD_live h hr.1.root hx))) h.good.len.2

theorem end_of {d : Dc} (h : Fine d) : ∀ (f n : Nat), lvD d n = true → (allD d 0).length ≤ posD d n + f → EndF f d n
  | 0, n, hn, hf => by have := pos_lt h hn; omega
  | f + 1, n, _, hf => fun k hk => end_of h f k (kid_par h hk).2.1 (by have := kid_pos h hk; omega)

theorem fine_end {d : Dc} (h : Fine d) : EndF fuel d 0 := by
  obtain ⟨r, hr, _⟩ := h.good.tr
  exact end_of h fuel 0 hr.1.root (by have := all_few h; unfold fuel; omega)

theorem shown_live {d : Dc} (h : Fine d) : ∀ (f a x : Nat), lvD d a = true → x ∈ shownF f d a → lvD d x = true ∧ posD d a ≤ posD d x
  | 0, _, _, _, hx => by simp [shownF] at hx
  | f + 1, a, x, ha, hx => by
    rw [shownF] at hx
    rcases List.mem_cons.mp hx with rfl | hx
    · exact ⟨ha, Nat.le_refl _⟩
    · obtain ⟨c, hc, hxc⟩ := List.mem_flatMap.mp hx
      obtain ⟨h1, h2⟩ := shown_live h f c x (kid_par h hc).2.1 hxc
      have := kid_pos h hc
      exact ⟨h1, by omega⟩

theorem shown_par {d : Dc} : ∀ (f a x : Nat), x ∈ shownF f d a → x ≠ a → ∃ y : Nat, x ∈ kidsD d (y : Int) ∧ [y, x].Sublist (shownF f d a)
  | 0, _, _, hx, _ => by simp [shownF] at hx
  | f + 1, a, x, hx, hne => by
    rw [shownF] at hx ⊢
    rcases List.mem_cons.mp hx with e | hx
    · exact absurd e hne
    · obtain ⟨c, hc, hxc⟩ := List.mem_flatMap.mp hx
      by_cases e : x = c
      · exact ⟨a, by rw [e]; exact hc, pair_sub hx⟩
      · obtain ⟨y, h1, h2⟩ := shown_par f c x hxc e
        exact ⟨y, h1, (h2.trans (sub_flat hc)).trans (List.sublist_cons_self _ _)⟩

/-- of two nodes in which one is shown, one is shown in the other -/
theorem shown_two {d : Dc} (h : Fine d) {f g a b : Nat} : ∀ (m x : Nat), posD d x ≤ m → x ∈ shownF f d a → x ∈ shownF g d b → a ∈ shownF g d b ∨ b ∈ shownF f d a := by
  intro m
  induction m with
  | zero =>
    intro x hm hxa hxb
    by_cases e : x = a
    · exact Or.inl (by rw [← e]; exact hxb)
    · obtain ⟨y, h1, _⟩ := shown_par f a x hxa e
      have := kid_pos h h1
      omega
  | succ m ih =>
    intro x hm hxa hxb
    by_cases e : x = a
    · exact Or.inl (by rw [← e]; exact hxb)
    · by_cases e2 : x = b
      · exact Or.inr (by rw [← e2]; exact hxa)
      · obtain ⟨y, h1, h2⟩ := shown_par f a x hxa e
        obtain ⟨z, h3, h4⟩ := shown_par g b x hxb e2
        obtain rfl := kid_one h h1 h3
        have := kid_pos h h1
        exact ih y (by omega) (h2.subset (by simp)) (h4.subset (by simp))

theorem kids_nodup {d : Dc} (h : Fine d) (p : Int) : (kidsD d p).Nodup := by
  obtain ⟨r, hr, _⟩ := h.good.tr
  unfold kidsD
  split
  · split
    · exact hr.1.nodup p.toNat true
    · split
      · exact hr.1.nodup p.toNat false
      · unfold givenD
        split
        · exact List.Pairwise.filter _ (hr.1.nodup (scopeD d p).toNat false)
        · exact List.nodup_nil
  · exact List.nodup_nil

theorem shown_nodup {d : Dc} (h : Fine d) : ∀ (f n : Nat), lvD d n = true → (shownF f d n).Nodup
  | 0, _, _ => List.nodup_nil
  | f + 1, n, _ => by
    rw [shownF, List.nodup_cons]
    constructor
    · intro hm
      obtain ⟨c, hc, hxc⟩ := List.mem_flatMap.mp hm
      have h1 := (shown_live h f c n (kid_par h hc).2.1 hxc).2
      have := kid_pos h hc
      omega
    · refine flat_nodup _ (kids_nodup h _) (fun a ha => shown_nodup h f a (kid_par h ha).2.1) ?_
      intro a ha b hb hne x hxa hxb
      have key : ∀ a b, a ∈ kidsD d (n : Int) → b ∈ kidsD d (n : Int) → a ≠ b → a ∈ shownF f d b → False := by
        intro a b ha hb hne hab
        obtain ⟨y, h1, h2⟩ := shown_par f b a hab hne
        obtain rfl := kid_one h h1 ha
        have h3 := (shown_live h f b y (kid_par h hb).2.1 (h2.subset (by simp))).2
        have := kid_pos h hb
        omega
      rcases shown_two h (f := f) (g := f) _ x (Nat.le_refl _) hxa hxb with g | g
      · exact key a b ha hb hne g
      · exact key b a hb ha (fun e => hne e.symm) g

theorem shown_few {d : Dc} (h : Fine d) (f : Nat) {n : Nat} (hn : lvD d n = true) : (shownF f d n).length ≤ 60 :=
  Nat.le_trans (nodup_le d.length _ (shown_nodup h f n hn) (fun x hx => lv_lt (shown_live h f n x hn hx).1)) h.good.len.2

/-- Up tells in what a node is shown -/
theorem up_of_kid {d : Dc} (h : Fine d) {n k : Nat} (hk : k ∈ kidsD d (n : Int)) : upF d (k : Int) = (n : Int) := by
  obtain ⟨r, hr, _⟩ := h.good.tr
  obtain ⟨h1, h2, h3, _, _, h6⟩ := kid_par h hk
  have hi : isN d (k : Int) false = true := by rw [isN_iff]; exact h2
  have hu : (nd d k).up = (upD d k : Int) := by have := hr.2 k h3 h2; unfold upD; omega
  unfold upF
  rw [if_pos hi, Int.toNat_natCast, hu]
  split
  · rename_i hc
    have := kid_one h (by simpa using hc) hk
    rw [this]
  · rename_i hc
    rcases h6 with e | ⟨hsl, _⟩
    · rw [← e] at hc
      exact absurd (by simpa using hk) hc
    · rw [hsl, if_pos (by simpa using hk)]

theorem up_root {d : Dc} (h : Fine d) : upF d 0 = -1 := by
  have hu := h.good.rootUp
  have hk : kidsD d (-1) = [] := by unfold kidsD; rw [if_neg]; unfold isN; simp
  have hs : slotD d 0 = -1 := by
    unfold slotD
    rw [if_neg]
    unfold slottedD isN
    simp [hu]
  unfold upF
  split
  · rw [show (0 : Int).toNat = 0 from rfl, hu, hk, hs, hk]
    rfl
  · rfl

theorem up_none {d : Dc} {n : Int} (hn : ∀ m : Nat, ∀ k ∈ kidsD d (m : Int), (k : Int) ≠ n) : upF d n = -1 := by
  unfold upF
  split
  · rename_i hi
    obtain ⟨k, rfl, _, _⟩ := isN_nat hi
    rw [Int.toNat_natCast]
    have no : ∀ p : Int, (kidsD d p).contains k = false := by
      intro p
      cases hc : (kidsD d p).contains k with
      | false => rfl
      | true =>
        have hm : k ∈ kidsD d p := by simpa using hc
        obtain ⟨m, rfl, _⟩ := kid_nat hm
        exact absurd rfl (hn m k hm)
    rw [no, no]
    rfl
  · rfl

theorem ahead_take {l : List Nat} {p n j : Nat} (hn : l.Nodup) (hs : [p, n].Sublist l) (hj : j < l.length) (he : l[j] = n) : p ∈ l.take j := by
  have h1 := idx_lt l p n hn hs
  have hp : p ∈ l := hs.subset (by simp)
  have h2 : l.idxOf n = j := by rw [← he]; exact hn.idxOf_getElem j hj
  rw [h2] at h1
  rw [List.mem_take_iff_getElem]
  exact ⟨l.idxOf p, by have := List.idxOf_lt_length_of_mem hp; omega, List.getElem_idxOf _⟩
end Go.Proofs.Ytookcjdibpccpab

/-
  A DOCUMENT THAT IS THE CALL's OWN, and one list, or one scalar, of one node that is written.
-/
namespace Go.Proofs.Ytookcjdibpccpab
open Go.RowKit

/-- the lists of a node: its attributes, its kids, its shadow tree -/
def lst (r : Raw) : Fin 3 → Sl
  | 0 => r.a
  | 1 => r.k
  | 2 => r.s
def sblk (s : Sl) : Option Nat := s.p.map (·.block)
def blk (r : Raw) (t : Fin 3) : Option Nat := sblk (lst r t)

theorem sblk_own (s : Sl) : (Value.slice s.p s.n s.c).ownBlock = sblk s := by
  unfold sblk
  cases s.p <;> rfl

/-- no two lists lie in one block, none in the row's -/
structure Sep (g : Nat) (rs : List Raw) : Prop where
  row : ∀ k (h : k < rs.length) t, blk rs[k] t ≠ some g
  one : ∀ k (h : k < rs.length) t k' (h' : k' < rs.length) t' x, blk rs[k] t = some x → blk rs[k'] t' = some x → k = k' ∧ t = t'

theorem blk_mem {r : Raw} {t : Fin 3} {x : Nat} (h : blk r t = some x) : x ∈ r.blocks := by
  unfold blk sblk at h
  unfold Raw.blocks
  rw [List.map_append, List.map_append, List.mem_append, List.mem_append]
  match t with
  | 0 => left; left; cases hp : r.a.p with | none => simp [lst, hp] at h | some a => simp [lst, hp] at h; simp [h]
  | 1 => left; right; cases hp : r.k.p with | none => simp [lst, hp] at h | some a => simp [lst, hp] at h; simp [h]
  | 2 => right; cases hp : r.s.p with | none => simp [lst, hp] at h | some a => simp [lst, hp] at h; simp [h]

theorem blk_two {r : Raw} {t t' : Fin 3} {x : Nat} (hn : r.blocks.Nodup) (h : blk r t = some x) (h' : blk r t' = some x) : t = t' := by
  unfold Raw.blocks at hn
  rw [List.map_append, List.map_append, List.nodup_append, List.nodup_append] at hn
  obtain ⟨⟨_, _, h12⟩, _, h3⟩ := hn
  have m0 : ∀ y, blk r 0 = some y → y ∈ r.a.p.toList.map (·.block) := fun y hy => by unfold blk sblk lst at hy; cases hp : r.a.p with | none => simp [hp] at hy | some a => simp [hp] at hy; simp [hy]
  have m1 : ∀ y, blk r 1 = some y → y ∈ r.k.p.toList.map (·.block) := fun y hy => by unfold blk sblk lst at hy; cases hp : r.k.p with | none => simp [hp] at hy | some a => simp [hp] at hy; simp [hy]
  have m2 : ∀ y, blk r 2 = some y → y ∈ r.s.p.toList.map (·.block) := fun y hy => by unfold blk sblk lst at hy; cases hp : r.s.p with | none => simp [hp] at hy | some a => simp [hp] at hy; simp [hy]
  have d01 : ∀ y, blk r 0 = some y → blk r 1 = some y → False := fun y a b => h12 y (m0 y a) y (m1 y b) rfl
  have d02 : ∀ y, blk r 0 = some y → blk r 2 = some y → False := fun y a b => h3 y (List.mem_append_left _ (m0 y a)) y (m2 y b) rfl
  have d12 : ∀ y, blk r 1 = some y → blk r 2 = some y → False := fun y a b => h3 y (List.mem_append_right _ (m1 y a)) y (m2 y b) rfl
  match t, t' with
  | 0, 0 => rfl
  | 1, 1 => rfl
  | 2, 2 => rfl
  | 0, 1 => exact (d01 x h h').elim
  | 1, 0 => exact (d01 x h' h).elim
  | 0, 2 => exact (d02 x h h').elim
  | 2, 0 => exact (d02 x h' h).elim
  | 1, 2 => exact (d12 x h h').elim
  | 2, 1 => exact (d12 x h' h).elim

theorem flat_two {α : Type} {f : α → List Nat} : ∀ {l : List α}, (l.flatMap f).Nodup → ∀ i (hi : i < l.length) j (hj : j < l.length) x, x ∈ f l[i] → x ∈ f l[j] → i = j ∧ (f l[i]).Nodup
  | [], _, i, hi, _, _, _, _, _ => by simp at hi
  | a :: l, hn, i, hi, j, hj, x, h1, h2 => by
    rw [List.flatMap_cons, List.nodup_append] at hn
    obtain ⟨ha, hl, hd⟩ := hn
    match i, j with
    | 0, 0 => exact ⟨rfl, ha⟩
    | i + 1, j + 1 =>
      obtain ⟨e, h3⟩ := flat_two hl i (by simpa using hi) j (by simpa using hj) x (by simpa using h1) (by simpa using h2)
      exact ⟨by omega, by simpa using h3⟩
    | 0, j + 1 => exact absurd rfl (hd x (by simpa using h1) x (List.mem_flatMap.mpr ⟨_, List.getElem_mem (by simpa using hj), by simpa using h2⟩))
    | i + 1, 0 => exact absurd rfl (hd x (by simpa using h2) x (List.mem_flatMap.mpr ⟨_, List.getElem_mem (by simpa using hi), by simpa using h1⟩))

/-- a document that is the call's own -/
structure Owned (w : World) (B g c : Nat) (rs : List Raw) (d : Tn.Dc) : Prop where
  row : OwnN w B (.slice (some ⟨g, 0, none⟩) rs.length c) rs
  len : rs.length = d.length
  nds : ∀ k (h : k < rs.length) (h' : k < d.length), OwnNd w B rs[k] d[k]
  sep : Sep g rs
  low : ∀ k (h : k < rs.length) t x, blk rs[k] t = some x → x < w.heap.size

theorem OwnDoc.owned {w : World} {B g c : Nat} {rs : List Raw} {d : Tn.Dc} (h : OwnDoc w B g c rs d) : Owned w B g c rs d := by
  obtain ⟨hg, hn⟩ := List.nodup_cons.mp h.sep
  refine ⟨h.row, h.len, h.nds, ⟨fun k hk t e => hg (List.mem_flatMap.mpr ⟨rs[k], List.getElem_mem hk, blk_mem e⟩), fun k hk t k' hk' t' x e1 e2 => ?_⟩, fun k hk t x e => h.low x (List.mem_flatMap.mpr ⟨rs[k], List.getElem_mem hk, blk_mem e⟩)⟩
  obtain ⟨e, h3⟩ := flat_two hn k hk k' hk' x (blk_mem e1) (blk_mem e2)
  subst e
  exact ⟨rfl, blk_two h3 e1 e2⟩

theorem Owned.doc {w : World} {B g c : Nat} {rs : List Raw} {d : Tn.Dc} (h : Owned w B g c rs d) (h0 : 0 < rs.length) : DocAt w g 0 c rs d := by
  obtain ⟨g', c', e, h1, h2, _, _, h4, _⟩ := own_at h.row h0
  cases e
  exact ⟨h1, h2, h.len, h4, fun k hk hk' => (h.nds k hk hk').nd⟩
theorem Owned.at {w : World} {B g c : Nat} {rs : List Raw} {d : Tn.Dc} (h : Owned w B g c rs d) (h0 : 0 < rs.length) : B ≤ g ∧ g < w.heap.size ∧ ∀ j, w.frozen? ⟨g, j, none⟩ = false := by
  obtain ⟨g', c', e, _, _, h3, h4, _, h6⟩ := own_at h.row h0
  cases e
  exact ⟨h3, h4, h6⟩

/-- rows of the call's own stay when another block is written -/
theorem owns_grown {w w' : World} {B e k n : Nat} {s : Sl} {xs : List Value} {row : Option Nat} (h : w.ownsRow B e k (.slice s.p s.n s.c) n xs) (hg : w.grownBy w' row) (hne : ∀ x, sblk s = some x → row ≠ some x) : w'.ownsRow B e k (.slice s.p s.n s.c) n xs := by
  refine World.ownsRow.kept h hg ?_
  rw [sblk_own]
  cases hs : sblk s with
  | none => exact Or.inl rfl
  | some x => exact Or.inr (fun e => hne x hs e.symm)

theorem OwnNd.grown {w w' : World} {B : Nat} {r : Raw} {n : Tn.Nd} {row : Option Nat} (h : OwnNd w B r n) (hg : w.grownBy w' row) (hne : ∀ t x, blk r t = some x → row ≠ some x) : OwnNd w' B r n :=
  ⟨h.live, h.tag, h.text, h.up, h.hasS, h.inS, owns_grown h.attrs hg (hne 0), owns_grown h.kids hg (hne 1), owns_grown h.shadow hg (hne 2)⟩

theorem OwnNd.setRow {w : World} {B g i : Nat} {r : Raw} {n : Tn.Nd} (h : OwnNd w B r n) (hne : ∀ t, blk r t ≠ some g) (u : Value) : OwnNd (w.setCell ⟨g, i, none⟩ u) B r n :=
  h.grown (grow_set (grown_refl w (some g)) i u) (fun t x hx e => hne t (by rw [hx]; exact e.symm))

theorem Owned.below {w w' : World} {B C g c : Nat} {rs : List Raw} {d : Tn.Dc} (h : Owned w B g c rs d) (hb : Below C w w') (hC : w.heap.size ≤ C) : Owned w' B g c rs d :=
  ⟨owns_below h.row hb hC, h.len, fun k hk hk' => (h.nds k hk hk').below hb hC, h.sep, fun k hk t x e => Nat.lt_of_lt_of_le (h.low k hk t x e) hb.size⟩

/-- one list of one node is another one: it lies where it lay, or in a block that was not there -/
theorem Owned.list {w w1 : World} {B g c : Nat} {rs : List Raw} {d : Tn.Dc} (h : Owned w B g c rs d) {k : Nat} (hk : k < rs.length) (t : Fin 3) {r' : Raw} {n' : Tn.Nd} (hgr : w.grownBy w1 (blk rs[k] t))
    (hoth : ∀ t', t' ≠ t → lst r' t' = lst rs[k] t') (hnew : blk r' t = blk rs[k] t ∨ ∃ x, w.heap.size ≤ x ∧ x < w1.heap.size ∧ blk r' t = some x) (hnd : OwnNd w1 B r' n') (i : Nat) (hi : i < 9) (v : Value) (hcells : r'.cells = rs[k].cells.set i v) :
    Owned (w1.setCell ⟨g, k * 9 + i, none⟩ v) B g c (rs.set k r') (d.set k n') := by
  have h0 : 0 < rs.length := by omega
  obtain ⟨hBg, hgl, _⟩ := h.at h0
  have hb' : ∀ t' x, blk r' t' = some x → (t' ≠ t ∧ blk rs[k] t' = some x) ∨ (t' = t ∧ (blk rs[k] t = some x ∨ w.heap.size ≤ x ∧ x < w1.heap.size)) := by
    intro t' x hx
    by_cases e : t' = t
    · subst e
      rcases hnew with e2 | ⟨y, hy1, hy2, hy3⟩
      · exact Or.inr ⟨rfl, Or.inl (by rw [← e2]; exact hx)⟩
      · rw [hy3] at hx
        cases hx
        exact Or.inr ⟨rfl, Or.inr ⟨hy1, hy2⟩⟩
    · refine Or.inl ⟨e, ?_⟩
      unfold blk at hx ⊢
      rw [← hoth t' e]
      exact hx
  have rowk : w1.ownsRow B 50 9 (.slice (some ⟨g, 0, none⟩) rs.length c) rs.length (rs.flatMap Raw.cells) := owns_grown (s := ⟨some ⟨g, 0, none⟩, rs.length, c⟩) h.row hgr (fun x hx e => by
    have hx' : g = x := by simpa [sblk] using hx
    rw [← hx'] at e
    exact h.sep.row k hk t e)
  refine ⟨?_, by simpa using h.len, ?_, ⟨?_, ?_⟩, ?_⟩
  · have := own_set1 rfl rowk k hk i hi v r' hcells
    simpa using this
  · intro j hj hj'
    have hj1 : j < rs.length := by simpa using hj
    have hj2 : j < d.length := by simpa using hj'
    by_cases e : j = k
    · subst e
      simp only [List.getElem_set_self]
      refine hnd.setRow (fun t' e2 => ?_) v
      rcases hb' t' g e2 with ⟨_, e3⟩ | ⟨_, e3 | ⟨e3, _⟩⟩
      · exact h.sep.row j hj1 t' e3
      · exact h.sep.row j hj1 t e3
      · omega
    · rw [List.getElem_set_ne (fun x => e x.symm), List.getElem_set_ne (fun x => e x.symm)]
      refine ((h.nds j hj1 hj2).grown hgr (fun t' x hx e2 => ?_)).setRow (fun t' => h.sep.row j hj1 t') v
      exact e (h.sep.one j hj1 t' k hk t x hx e2).1
  · intro j hj t' e2
    have hj1 : j < rs.length := by simpa using hj
    by_cases e : j = k
    · subst e
      rw [List.getElem_set_self] at e2
      rcases hb' t' g e2 with ⟨_, e3⟩ | ⟨_, e3 | ⟨e3, _⟩⟩
      · exact h.sep.row j hj1 t' e3
      · exact h.sep.row j hj1 t e3
      · omega
    · rw [List.getElem_set_ne (fun x => e x.symm)] at e2
      exact h.sep.row j hj1 t' e2
  · intro j hj t1 j' hj' t2 x e1 e2
    have hj1 : j < rs.length := by simpa using hj
    have hj2 : j' < rs.length := by simpa using hj'
    have key : ∀ (j : Nat) (hj : j < (rs.set k r').length) t1, (rs.set k r')[j] = (rs.set k r')[j] → blk (rs.set k r')[j] t1 = some x → (∃ hj1 : j < rs.length, blk rs[j] t1 = some x) ∨ (j = k ∧ t1 = t ∧ w.heap.size ≤ x) := by
      intro j hj t1 _ e1
      have hj1 : j < rs.length := by simpa using hj
      by_cases e : j = k
      · subst e
        rw [List.getElem_set_self] at e1
        rcases hb' t1 x e1 with ⟨_, e3⟩ | ⟨e4, e3 | ⟨e3, _⟩⟩
        · exact Or.inl ⟨hj1, e3⟩
        · exact Or.inl ⟨hj1, by rw [e4]; exact e3⟩
        · exact Or.inr ⟨rfl, e4, e3⟩
      · rw [List.getElem_set_ne (fun x => e x.symm)] at e1
        exact Or.inl ⟨hj1, e1⟩
    rcases key j hj t1 rfl e1 with ⟨q1, g1⟩ | ⟨q1, q2, q3⟩
    · rcases key j' hj' t2 rfl e2 with ⟨p1, g2⟩ | ⟨p1, p2, p3⟩
      · exact h.sep.one j q1 t1 j' p1 t2 x g1 g2
      · have := h.low j q1 t1 x g1
        omega
    · rcases key j' hj' t2 rfl e2 with ⟨p1, g2⟩ | ⟨p1, p2, p3⟩
      · have := h.low j' p1 t2 x g2
        omega
      · exact ⟨by rw [q1, p1], by rw [q2, p2]⟩
  · intro j hj t' x e2
    have hj1 : j < rs.length := by simpa using hj
    have hsz : (w1.setCell ⟨g, k * 9 + i, none⟩ v).heap.size = w1.heap.size := by simp
    rw [hsz]
    by_cases e : j = k
    · subst e
      rw [List.getElem_set_self] at e2
      rcases hb' t' x e2 with ⟨_, e3⟩ | ⟨_, e3 | ⟨_, e3⟩⟩
      · exact Nat.lt_of_lt_of_le (h.low j hj1 t' x e3) hgr.size
      · exact Nat.lt_of_lt_of_le (h.low j hj1 t x e3) hgr.size
      · exact e3
    · rw [List.getElem_set_ne (fun x => e x.symm)] at e2
      exact Nat.lt_of_lt_of_le (h.low j hj1 t' x e2) hgr.size

/-- one scalar of one node is another one -/
theorem Owned.scal {w : World} {B g c : Nat} {rs : List Raw} {d : Tn.Dc} (h : Owned w B g c rs d) {k : Nat} (hk : k < rs.length) {r' : Raw} {n' : Tn.Nd} (hoth : ∀ t', lst r' t' = lst rs[k] t') (hnd : OwnNd w B r' n') (i : Nat) (hi : i < 9) (v : Value) (hcells : r'.cells = rs[k].cells.set i v) :
    Owned (w.setCell ⟨g, k * 9 + i, none⟩ v) B g c (rs.set k r') (d.set k n') :=
  h.list hk 0 (grown_refl w _) (fun t' _ => hoth t') (Or.inl (by unfold blk; rw [hoth 0])) hnd i hi v hcells

/-- a block of the document -/
def DB (g : Nat) (rs : List Raw) (x : Nat) : Prop := x = g ∨ ∃ k, ∃ h : k < rs.length, ∃ t, blk rs[k] t = some x

/-- all blocks that there were are as they were, but for the document's; and no other one has come to be the document's -/
structure Fr (g : Nat) (rs : List Raw) (w : World) (g' : Nat) (rs' : List Raw) (w' : World) : Prop where
  size : w.heap.size ≤ w'.heap.size
  block : ∀ x, x < w.heap.size → ¬ DB g rs x → w'.heap[x]? = w.heap[x]?
  back : ∀ x, x < w.heap.size → DB g' rs' x → DB g rs x

theorem Fr.refl (g : Nat) (rs : List Raw) (w : World) : Fr g rs w g rs w := ⟨Nat.le_refl _, fun _ _ _ => rfl, fun _ _ h => h⟩
theorem Fr.trans {g g' g'' : Nat} {rs rs' rs'' : List Raw} {a b c : World} (h : Fr g rs a g' rs' b) (k : Fr g' rs' b g'' rs'' c) : Fr g rs a g'' rs'' c :=
  ⟨Nat.le_trans h.size k.size, fun x hx hn => (k.block x (Nat.lt_of_lt_of_le hx h.size) (fun e => hn (h.back x hx e))).trans (h.block x hx hn), fun x hx e => h.back x hx (k.back x (Nat.lt_of_lt_of_le hx h.size) e)⟩
theorem Fr.below {g g' : Nat} {rs rs' : List Raw} {a b c : World} (h : Fr g rs a g' rs' b) (k : Below b.heap.size b c) : Fr g rs a g' rs' c :=
  ⟨Nat.le_trans h.size k.size, fun x hx hn => (k.block x (Nat.lt_of_lt_of_le hx h.size)).trans (h.block x hx hn), h.back⟩
theorem Fr.cell {g g' : Nat} {rs rs' : List Raw} {a b : World} (h : Fr g rs a g' rs' b) {p : Addr} {v : Value} (hv : a.cell? p = some v) (hn : ¬ DB g rs p.block) : b.cell? p = some v := by
  rw [← hv]
  exact World.cell?_of_block (h.block p.block (lt_of_cell hv) hn)

theorem Fr.list {w w1 : World} {g : Nat} {rs : List Raw} {k : Nat} (hk : k < rs.length) (t : Fin 3) {r' : Raw} (hgr : w.grownBy w1 (blk rs[k] t)) (hoth : ∀ t', t' ≠ t → lst r' t' = lst rs[k] t') (hnew : blk r' t = blk rs[k] t ∨ ∃ x, w.heap.size ≤ x ∧ x < w1.heap.size ∧ blk r' t = some x) (i : Nat) (v : Value) :
    Fr g rs w g (rs.set k r') (w1.setCell ⟨g, i, none⟩ v) := by
  refine ⟨by simpa using hgr.size, fun x hx hn => ?_, fun x hx hd => ?_⟩
  · rw [heap_setCell_other _ _ _ _ (fun e => hn (Or.inl e)), hgr.block x hx (fun e => hn (Or.inr ⟨k, hk, t, e.symm⟩))]
  · rcases hd with e | ⟨j, hj, t', e⟩
    · exact Or.inl e
    · have hj1 : j < rs.length := by simpa using hj
      by_cases ejk : j = k
      · subst ejk
        rw [List.getElem_set_self] at e
        by_cases et : t' = t
        · subst et
          rcases hnew with e2 | ⟨y, hy1, _, hy3⟩
          · exact Or.inr ⟨j, hj1, t', by rw [← e2]; exact e⟩
          · rw [hy3] at e
            cases e
            omega
        · exact Or.inr ⟨j, hj1, t', by unfold blk at e ⊢; rw [← hoth t' et]; exact e⟩
      · rw [List.getElem_set_ne (fun x => ejk x.symm)] at e
        exact Or.inr ⟨j, hj1, t', e⟩
theorem Fr.scal {w : World} {g : Nat} {rs : List Raw} {k : Nat} (hk : k < rs.length) {r' : Raw} (hoth : ∀ t', lst r' t' = lst rs[k] t') (i : Nat) (v : Value) : Fr g rs w g (rs.set k r') (w.setCell ⟨g, i, none⟩ v) :=
  Fr.list hk 0 (grown_refl w _) (fun t' _ => hoth t') (Or.inl (by unfold blk; rw [hoth 0])) i v
theorem Owned.free {w : World} {B g c : Nat} {rs : List Raw} {d : Tn.Dc} (h : Owned w B g c rs d) (h0 : 0 < rs.length) {x : Nat} (hx : w.heap.size ≤ x) : ¬ DB g rs x := by
  rintro (e | ⟨k, hk, t, e⟩)
  · have := (h.at h0).2.1
    omega
  · have := h.low k hk t x e
    omega
end Go.Proofs.Ytookcjdibpccpab

/-
  THE WALKS of dom's small functions: trim, listOf, say, giveShadow.
-/
namespace Go.Proofs.Ytookcjdibpccpab
open Go.RowKit

theorem last_here (d : Tn.Dc) (m : Nat) (h : (Tn.nd d m).live = true) : Tn.lastLive d (m + 1) = m + 1 := by
  rw [Tn.lastLive]
  by_cases hm : m = 0
  · subst hm
    simp [Tn.lastLive]
  · have := lastLive_le d m
    rw [if_pos ⟨h, by omega⟩]

set_option maxHeartbeats 1600000 in
theorem dtrim_any {w : World} {b o c : Nat} {rs : List Raw} {d : Tn.Dc} (hd : DocAt w b o c rs d) (h0 : 0 < rs.length) (hl : Tn.lvD d 0 = true) :
    Calls Try.prog 36 #[.slice (some ⟨b, o, none⟩) rs.length c] w fun e w' => ∃ rs', e = .returned (.slice (some ⟨b, o, none⟩) rs'.length c) ∧ DocAt w b o c rs' (Tn.trimD d) ∧ 0 < rs'.length ∧ w' = w := by
  have H : Hid (DocAt w b o c rs d) := hd
  have LN : Hid (d.length = rs.length) := hd.len.symm
  have hcap := hd.cap
  have hcM : c ≤ 9223372036854775807 := by have := hd.capM; unfold maxLen at this; omega
  have h00 : Hid ((Tn.nd d 0).live = true) := hl
  clear hd hl
  go_enter Try.func36, Try.ntmps36
  go_wp2_with fail
  go_loop [0] (fun dv => ∃ m : Nat, m + 1 ≤ rs.length ∧ dv = .slice (some ⟨b, o, none⟩) (m + 1) c ∧ Hid (Tn.lastLive d rs.length = Tn.lastLive d (m + 1))) (fun v => match v with | .slice _ n _ => n | _ => 0)
  case atStart => exact ⟨rs.length - 1, by omega, by congr 1; omega, by show _ = _; congr 1; omega⟩
  case round =>
    obtain ⟨m, hm, rfl, L⟩ := hrel
    have c0 := H.out.row.c0 m (by omega)
    have hnl : Hid (rs[m].live = (Tn.nd d m).live) := by
      have hmd : m < d.length := by rw [LN.out]; omega
      show _ = _
      rw [nd_at hmd]
      exact (H.out.nds m (by omega) hmd).live
    generalize rs[m].live = lv at *
    cases lv with
    | true =>
      have E : Hid (Tn.lastLive d rs.length = m + 1) := by show _ = _; rw [L.out]; exact last_here d m hnl.out.symm
      go_wp2_with fail
      go_ret
      refine ⟨rs.take (m + 1), by rw [List.length_take, Nat.min_eq_left hm]; rfl, ?_, by rw [List.length_take]; omega, rfl⟩
      unfold Tn.trimD
      rw [LN.out, E.out]
      exact doc_take H.out _
    | false =>
      have hm0 : 0 < m := by
        rcases Nat.eq_zero_or_pos m with rfl | h
        · have := h00.out; rw [← hnl.out] at this; cases this
        · exact h
      obtain ⟨k, rfl⟩ : ∃ k, m = k + 1 := ⟨m - 1, by omega⟩
      have L2 : Hid (Tn.lastLive d rs.length = Tn.lastLive d (k + 1)) := by
        show _ = _
        rw [L.out, Tn.lastLive, if_neg (by rw [← hnl.out]; simp)]
      clear hnl L
      go_wp2_with fail
      exact ⟨⟨k, by omega, rfl, L2⟩, by simp⟩

/-- where a node has its list -/
def lof : Bool → Nat
  | true => 7
  | false => 5

set_option maxHeartbeats 1600000 in
theorem dlistOf_any {w : World} {b o c : Nat} {rs : List Raw} {d : Tn.Dc} (hd : DocAt w b o c rs d) (k : Nat) (hk : k < rs.length) (s : Bool) :
    Calls Try.prog 87 #[.slice (some ⟨b, o, none⟩) rs.length c, .int .i64 (k : Int), .bool s] w fun e w' => e = .returned (.pointer (some ⟨b, o + k * 9 + lof s, none⟩)) ∧ w' = w := by
  have h5 := hd.row.c5 k hk
  have h7 := hd.row.c7 k hk
  clear hd
  cases s with
  | false =>
    go_enter Try.func87, Try.ntmps87
    go_wp2_with fail
    go_ret
    exact ⟨rfl, rfl⟩
  | true =>
    go_enter Try.func87, Try.ntmps87
    go_wp2_with fail
    go_ret
    exact ⟨rfl, rfl⟩

set_option maxHeartbeats 1600000 in
theorem dsay_any {w : World} {g i : Nat} {tag text v : ByteArray} (h1 : w.cell? ⟨g, i + 1, none⟩ = some (.string tag)) (h2 : w.cell? ⟨g, i + 2, none⟩ = some (.string text)) (hf : w.frozen? ⟨g, i + 2, none⟩ = false) (hv : v.size ≤ 4194304) :
    Calls Try.prog 59 #[.pointer (some ⟨g, i, none⟩), .string v] w fun e w' => (e = .returned (.int .i64 8) ∧ w' = w ∧ (tag.toList ≠ [] ∨ 60 < v.size)) ∨ (e = .returned (.int .i64 0) ∧ w' = w.setCell ⟨g, i + 2, none⟩ (.string v) ∧ tag.toList = [] ∧ v.size ≤ 60) := by
  cases ht : tag.toList.isEmpty with
  | false =>
    go_enter Try.func59, Try.ntmps59
    go_wp2_with fail
    go_ret
    exact Or.inl ⟨rfl, rfl, Or.inl (by intro e; simp [e] at ht)⟩
  | true =>
    by_cases hs : 60 < v.size
    · go_enter Try.func59, Try.ntmps59
      go_wp2_with fail
      go_ret
      exact Or.inl ⟨rfl, rfl, Or.inr hs⟩
    · go_enter Try.func59, Try.ntmps59
      go_wp2_with fail
      go_ret
      exact Or.inr ⟨rfl, rfl, by simpa using ht, by omega⟩

set_option maxHeartbeats 1600000 in
theorem dgive_any {w : World} {g c : Nat} {rs : List Raw} {d : Tn.Dc} (hd : DocAt w g 0 c rs d) (hf : ∀ j, w.frozen? ⟨g, j, none⟩ = false) (k : Nat) (hk : k < rs.length) :
    Calls Try.prog 62 #[.slice (some ⟨g, 0, none⟩) rs.length c, .int .i64 (k : Int)] w fun e w' =>
      (e = .returned (.int .i64 8) ∧ w' = w ∧ (k = 0 ∨ rs[k].hasS = true ∨ rs[k].tag.toList = [115, 108, 111, 116])) ∨
      (e = .returned (.int .i64 0) ∧ w' = w.setCell ⟨g, k * 9 + 6, none⟩ (.bool true) ∧ ¬ (k = 0 ∨ rs[k].hasS = true ∨ rs[k].tag.toList = [115, 108, 111, 116])) := by
  have h1 := hd.row.c1 k hk
  have h6 := hd.row.c6 k hk
  have f6 := hf (k * 9 + 6)
  rw [Nat.zero_add] at h1 h6
  clear hd hf
  generalize rs[k].hasS = hs at *
  generalize rs[k].tag = tg at *
  by_cases h0 : k = 0
  · subst h0
    go_enter Try.func62, Try.ntmps62
    go_wp2_with fail
    go_ret
    exact Or.inl ⟨rfl, rfl, Or.inl trivial⟩
  · have hk0 : ((k : Int) == 0) = false := by simpa using h0
    cases hs with
    | true =>
      go_enter Try.func62, Try.ntmps62
      go_wp2_with fail
      go_ret
      exact Or.inl ⟨rfl, rfl, Or.inr (Or.inl trivial)⟩
    | false =>
      cases ht : (tg.toList == [115, 108, 111, 116]) with
      | true =>
        go_enter Try.func62, Try.ntmps62
        go_wp2_with fail
        go_ret
        exact Or.inl ⟨rfl, rfl, Or.inr (Or.inr (by simpa using ht))⟩
      | false =>
        go_enter Try.func62, Try.ntmps62
        go_wp2_with fail
        go_ret
        exact Or.inr ⟨rfl, rfl, by rintro (h | h | h); exact h0 h; cases h; simp [h] at ht⟩
end Go.Proofs.Ytookcjdibpccpab

/-
  THE WALKS of slices.Index at []int, and of dom.firstFree.
-/
namespace Go.Proofs.Ytookcjdibpccpab
open Go.RowKit

set_option maxHeartbeats 1600000 in
theorem free1_any {w : World} (lv : Bool) (tg tx : ByteArray) (a k s : Value) (u : Int) (hs is : Bool) :
    Calls Try.prog 97 #[.agg #[.bool lv, .string tg, .string tx, a, .int .i64 u, k, .bool hs, s, .bool is]] w fun e w' => e = .returned (.bool (!lv)) ∧ Below w.heap.size w w' := by
  cases lv with
  | false =>
    go_enter Try.func97, Try.ntmps97
    go_wp2_with fail
    go_ret
    exact ⟨rfl, (Below.refl _ _).alloc (Nat.le_refl _) _⟩
  | true =>
    go_enter Try.func97, Try.ntmps97
    go_wp2_with fail
    go_ret
    exact ⟨rfl, (Below.refl _ _).alloc (Nat.le_refl _) _⟩

set_option maxHeartbeats 1600000 in
theorem indexNode_any {w : World} {b o c : Nat} {rs : List Raw} {d : Tn.Dc} (hd : DocAt w b o c rs d) (hlr : rs.length ≤ 1000) :
    Calls Try.prog 96 #[.slice (some ⟨b, o, none⟩) rs.length c, .func (.func 97) #[] #[]] w fun e w' => ∃ i : Int, e = .returned (.int .i64 i) ∧ ((i = -1 ∧ Tn.free d = rs.length) ∨ (i = (Tn.free d : Int) ∧ Tn.free d < rs.length)) ∧ Below w.heap.size w w' := by
  have H : Hid (DocAt w b o c rs d) := hd
  have LN : Hid (d.length = rs.length) := hd.len.symm
  clear hd
  go_enter Try.func96, Try.ntmps96
  go_wp2_with fail
  go_loopw [8] (fun i wr => ∃ j : Nat, j ≤ rs.length ∧ i = .int .i64 j ∧ Hid (Tn.free d = Tn.freeAt d (d.length - j)) ∧ Below w.heap.size w wr) (fun i _ => rs.length - (intOf i).toNat)
  case atStart => exact ⟨0, Nat.zero_le _, rfl, rfl, Below.refl _ _⟩
  case round =>
    obtain ⟨j, hj, rfl, F, hnx⟩ := hrel
    have hbz := hnx.size
    by_cases hlt : j < rs.length
    · have hjd : j < d.length := by rw [LN.out]; exact hlt
      have hD := H.out.keeps (keeps_below hnx (Nat.le_refl _))
      have c0 := hD.row.c0 j hlt
      have c1 := hD.row.c1 j hlt
      have c2 := hD.row.c2 j hlt
      have c3 := hD.row.c3 j hlt
      have c4 := hD.row.c4 j hlt
      have c5 := hD.row.c5 j hlt
      have c6 := hD.row.c6 j hlt
      have c7 := hD.row.c7 j hlt
      have c8 := hD.row.c8 j hlt
      have hlv : Hid (rs[j].live = (Tn.nd d j).live) := by
        show _ = _
        rw [nd_at hjd]
        exact (hD.nds j hlt hjd).live
      have F2 : Hid (Tn.free d = if rs[j].live then Tn.freeAt d (d.length - (j + 1)) else j) := by
        show _ = _
        have e : d.length - j = (d.length - (j + 1)) + 1 := by omega
        rw [F.out, e, freeAt_step, hlv.out]
        have e2 : d.length - (d.length - (j + 1) + 1) = j := by omega
        rw [e2]
      clear hD hlv F
      generalize rs[j] = r at *
      obtain ⟨rl, rt, rx, ⟨ap, an, ac⟩, ru, ⟨kp, kn, kc⟩, rh, ⟨sp, sn, sc⟩, ri⟩ := r
      simp only at c0 c1 c2 c3 c4 c5 c6 c7 c8 F2
      cases rl with
      | false =>
        have E : Hid (Tn.free d = j) := by show _ = _; rw [F2.out]; rfl
        go_wp2_with (go_at_call 97; refine (free1_any false rt rx (.slice ap an ac) (.slice kp kn kc) (.slice sp sn sc) ru rh ri).mono ?_; rintro e w9 ⟨rfl, hb9⟩)
        go_ret
        exact ⟨_, rfl, Or.inr ⟨by rw [E.out], by rw [E.out]; exact hlt⟩, hnx.trans (hb9.mono hbz)⟩
      | true =>
        have E : Hid (Tn.free d = Tn.freeAt d (d.length - (j + 1))) := by show _ = _; rw [F2.out]; rfl
        go_wp2_with (go_at_call 97; refine (free1_any true rt rx (.slice ap an ac) (.slice kp kn kc) (.slice sp sn sc) ru rh ri).mono ?_; rintro e w9 ⟨rfl, hb9⟩)
        go_roundw
        case rel => exact ⟨j + 1, by omega, by go_num, E, hnx.trans (hb9.mono hbz)⟩
        case measure => simp [intOf]; omega
    · obtain rfl : j = rs.length := by omega
      have E : Hid (Tn.free d = rs.length) := by
        show _ = _
        rw [F.out, LN.out, Nat.sub_self, Tn.freeAt, LN.out]
      go_wp2_with fail
      go_ret
      exact ⟨_, rfl, Or.inl ⟨rfl, E.out⟩, hnx⟩

set_option maxHeartbeats 1600000 in
theorem dfree_any {w : World} {b o c : Nat} {rs : List Raw} {d : Tn.Dc} (hd : DocAt w b o c rs d) (hlr : rs.length ≤ 1000) :
    Calls Try.prog 83 #[.slice (some ⟨b, o, none⟩) rs.length c] w fun e w' => e = .returned (.int .i64 (Tn.free d : Int)) ∧ Below w.heap.size w w' := by
  have hI := indexNode_any hd hlr
  clear hd
  go_enter Try.func83, Try.ntmps83
  go_wp2_with (go_at_call 96; refine hI.mono ?_; rintro e w9 ⟨i, rfl, hi, hb9⟩; rcases hi with ⟨rfl, hi⟩ | ⟨rfl, hi⟩)
  · go_ret
    exact ⟨by rw [hi]; rfl, hb9⟩
  · go_ret
    exact ⟨rfl, hb9⟩
end Go.Proofs.Ytookcjdibpccpab

/-
  THE WALK of dom.takeOut, in a document of the call's own.
-/
namespace Go.Proofs.Ytookcjdibpccpab
open Go.RowKit

theorem below_drewN (C : Nat) (w : World) (n : Nat) : Below C w (w.drewN n) := ⟨rfl, rfl, rfl, Nat.le_refl _, fun _ _ => rfl⟩

theorem take1_enters : ∀ args w, (callFunc 88 args).run Try.prog w = .ok (.enter 88 args) w := enters_of Try.func88 (by kernel_rfl) rfl

set_option maxHeartbeats 800000 in
theorem take1_any {w : World} {K n : Nat} (hK : w.cell? ⟨K, 0, none⟩ = some (.int .i64 (n : Int))) (k : Nat) :
    Calls Try.prog 88 #[.int .i64 (k : Int), .pointer (some ⟨K, 0, none⟩)] w fun e w' => e = .returned (.bool (k == n)) ∧ w' = w := by
  have e : ((k : Int) == (n : Int)) = (k == n) := by rw [Bool.eq_iff_iff]; simp; omega
  go_enter Try.func88, Try.ntmps88
  go_wp2_with fail
  go_ret
  exact ⟨by rw [← e]; rfl, rfl⟩

theorem take1_tests {w : World} {K n : Nat} (hK : w.cell? ⟨K, 0, none⟩ = some (.int .i64 (n : Int))) : Tests 88 #[.pointer (some ⟨K, 0, none⟩)] (fun k => k == n) w := by
  intro k
  have e : (#[.int .i64 (k : Int)] ++ #[.pointer (some ⟨K, 0, none⟩)] : Array Value) = #[.int .i64 (k : Int), .pointer (some ⟨K, 0, none⟩)] := by simp
  rw [e]
  refine (take1_any hK k).mono ?_
  rintro e w' ⟨rfl, rfl⟩
  exact ⟨rfl, Below.refl _ _⟩

theorem rowN_at {w : World} {B g c : Nat} {rs : List Raw} (h : OwnN w B (.slice (some ⟨g, 0, none⟩) rs.length c) rs) (k : Nat) (hk : k < rs.length) :
    w.cell? ⟨g, k * 9 + 3, none⟩ = some (.slice rs[k].a.p rs[k].a.n rs[k].a.c) ∧ w.cell? ⟨g, k * 9 + 5, none⟩ = some (.slice rs[k].k.p rs[k].k.n rs[k].k.c) ∧ w.cell? ⟨g, k * 9 + 7, none⟩ = some (.slice rs[k].s.p rs[k].s.n rs[k].s.c) ∧ ∀ j, w.frozen? ⟨g, j, none⟩ = false := by
  obtain ⟨g', c', e, _, _, _, _, h4, h6⟩ := own_at h (by omega)
  cases e
  have c3 := h4.c3 k hk
  have c5 := h4.c5 k hk
  have c7 := h4.c7 k hk
  rw [Nat.zero_add] at c3 c5 c7
  exact ⟨c3, c5, c7, h6⟩
theorem Owned.rowGrown {w w1 : World} {B g c : Nat} {rs : List Raw} {d : Tn.Dc} (h : Owned w B g c rs d) {k : Nat} (hk : k < rs.length) (t : Fin 3) (hgr : w.grownBy w1 (blk rs[k] t)) : OwnN w1 B (.slice (some ⟨g, 0, none⟩) rs.length c) rs :=
  owns_grown (s := ⟨some ⟨g, 0, none⟩, rs.length, c⟩) h.row hgr (fun x hx e => by
    have hx' : g = x := by simpa [sblk] using hx
    rw [← hx'] at e
    exact h.sep.row k hk t e)

/-- a document without k in u's list -/
def takeS (d : Tn.Dc) (u : Nat) (s : Bool) (n : Nat) : Tn.Dc := d.set u (Tn.setList (Tn.nd d u) s ((Tn.listOf (Tn.nd d u) s).filter fun k => !(k == n)))

set_option maxHeartbeats 3200000 in
theorem dtake_any {w : World} {B g c : Nat} {rs : List Raw} {d : Tn.Dc} (h : Owned w B g c rs d) (hB : B ≤ w.heap.size) {n u : Nat} (hn : n < rs.length) (hu : u < rs.length) (hup : (Tn.nd d n).up = (u : Int)) (hls : ∀ s, (Tn.liD d u s).length ≤ 1000) :
    Calls Try.prog 77 #[.slice (some ⟨g, 0, none⟩) rs.length c, .int .i64 (n : Int)] w fun e w' => e = .returned (.tuple #[]) ∧ (∃ rs', rs'.length = rs.length ∧ Owned w' B g c rs' (takeS d u (Tn.nd d n).inS n) ∧ Fr g rs w g rs' w') ∧ Below B w w' := by
  have h0 : 0 < rs.length := by omega
  obtain ⟨hBg, hgl, hfz⟩ := h.at h0
  have hnd : n < d.length := by rw [← h.len]; exact hn
  have hud : u < d.length := by rw [← h.len]; exact hu
  have hD := h.doc h0
  have W1 : Below w.heap.size w (w.alloc (.cells #[.int .i64 (n : Int)] 3)) := (Below.refl _ _).alloc (Nat.le_refl _) _
  have D1 : Hid (DocAt (w.alloc (.cells #[.int .i64 (n : Int)] 3)) g 0 c rs d) := hD.keeps (keeps_below W1 (Nat.le_refl _))
  have O1 : Hid (Owned (w.alloc (.cells #[.int .i64 (n : Int)] 3)) B g c rs d) := h.below W1 (Nat.le_refl _)
  have h4 := D1.out.row.c4 n hn
  have h8 := D1.out.row.c8 n hn
  have hk0 := cell_box w (.int .i64 (n : Int)) (t := 3)
  have e4 : rs[n].up = (u : Int) := by rw [(hD.nds n hn hnd).up, ← nd_at hnd, hup]
  have e8 : rs[n].inS = (Tn.nd d n).inS := by rw [(hD.nds n hn hnd).inS, ← nd_at hnd]
  rw [e4, Nat.zero_add] at h4
  rw [e8, Nat.zero_add] at h8
  have BA : Below B w (w.alloc (.cells #[.int .i64 (n : Int)] 3)) := (Below.refl B w).alloc hB _
  have hgA : g < (w.alloc (.cells #[.int .i64 (n : Int)] 3)).heap.size := by simp; omega
  have hBA : B ≤ (w.alloc (.cells #[.int .i64 (n : Int)] 3)).heap.size := by simp; omega
  have hKA : w.heap.size < (w.alloc (.cells #[.int .i64 (n : Int)] 3)).heap.size := by simp
  have FA : Fr g rs w g rs (w.alloc (.cells #[.int .i64 (n : Int)] 3)) := (Fr.refl g rs w).below W1
  have hlowK : ∀ k (hk : k < rs.length) t, blk rs[k] t ≠ some w.heap.size := fun k hk t e => by have := h.low k hk t _ e; omega
  clear e4 e8 hD hfz W1 h
  generalize (Tn.nd d n).inS = s at *
  cases s with
  | false =>
    have hl := hls false
    have hlist : OwnI (w.alloc (.cells #[.int .i64 (n : Int)] 3)) B (.slice rs[u].k.p rs[u].k.n rs[u].k.c) (Tn.nd d u).kids := by rw [nd_at hud]; exact (O1.out.nds u hu hud).kids
    have hL := D1.out.row.c5 u hu
    rw [Nat.zero_add] at hL
    go_enter Try.func77, Try.ntmps77
    go_upto_region 1 with fail
    generalize w.alloc (.cells #[.int .i64 (n : Int)] 3) = w1 at *
    generalize hKs : w.heap.size = K at *
    go_quiet ((go_at_call 87; exact Calls.quiet_of_same (dlistOf_any (D1.out.keeps (keeps_drewN _ _)) u hu false)))
    have OQ : Hid (Owned (w1.drewN nq) B g c rs d) := O1.out.below (below_drewN w1.heap.size w1 nq) (Nat.le_refl _)
    have hlq : OwnI (w1.drewN nq) B (.slice rs[u].k.p rs[u].k.n rs[u].k.c) (Tn.nd d u).kids := hlist.below (below_drewN w1.heap.size w1 nq) (Nat.le_refl _)
    have hLq : (w1.drewN nq).cell? ⟨g, u * 9 + 5, none⟩ = some (.slice rs[u].k.p rs[u].k.n rs[u].k.c) := hL
    have hkq : (w1.drewN nq).cell? ⟨K, 0, none⟩ = some (.int .i64 (n : Int)) := hk0
    have hdel := del_any take1_enters hlq hl (fun W hgr => take1_tests (K := K) (n := n) (World.grownBy.cell hgr hkq (by
      rw [sblk_own]
      exact fun e => hlowK u hu 1 e.symm)))
    have hof : 0 + u * 9 + lof false = u * 9 + 5 := by simp [lof]
    rw [hof]
    have BQ : Below B w (w1.drewN nq) := BA.trans (below_drewN B w1 nq)
    have FQ : Fr g rs w g rs (w1.drewN nq) := FA.below (below_drewN _ w1 nq)
    have hgQ : g < (w1.drewN nq).heap.size := hgA
    generalize w1.drewN nq = W at *
    have hob : (Value.slice rs[u].k.p rs[u].k.n rs[u].k.c).ownBlock = blk rs[u] 1 := sblk_own _
    rw [hob] at hdel
    clear hL hlist hk0 hkq
    go_wp2_with (go_at_call 47; refine hdel.mono ?_; rintro e w9 ⟨v9, rfl, ho9, hob9, hg9⟩; have ho9' := ho9; obtain ⟨p9, c9, rfl⟩ := ho9'.shape; have R9 := rowN_at (OQ.out.rowGrown hu 1 hg9) u hu; have L9 := R9.2.1; have F9 := R9.2.2.2 (u * 9 + 5))
    go_end0
    have hoth : ∀ t', t' ≠ (1 : Fin 3) → lst { rs[u] with k := ⟨p9, ((Tn.nd d u).kids.filter fun k => !(k == n)).length, c9⟩ } t' = lst rs[u] t' := by
      intro t' ht'
      match t' with
      | 0 => rfl
      | 2 => rfl
      | 1 => exact absurd rfl ht'
    have hsame : blk { rs[u] with k := ⟨p9, ((Tn.nd d u).kids.filter fun k => !(k == n)).length, c9⟩ } 1 = blk rs[u] 1 := by
      rw [← hob9, sblk_own ⟨p9, _, c9⟩]
      rfl
    refine ⟨rfl, ⟨_, ?_, OQ.out.list hu 1 (r' := { rs[u] with k := ⟨p9, ((Tn.nd d u).kids.filter fun k => !(k == n)).length, c9⟩ }) (n' := Tn.setList (Tn.nd d u) false ((Tn.listOf (Tn.nd d u) false).filter fun k => !(k == n))) hg9 hoth (Or.inl hsame) ?_ 5 (by decide) _ rfl, FQ.trans (Fr.list hu 1 hg9 hoth (Or.inl hsame) _ _)⟩, ?_⟩
    · simp
    · have hN := OQ.out.nds u hu hud
      rw [← nd_at hud] at hN
      have hne : ∀ t', t' ≠ 1 → ∀ x, blk rs[u] t' = some x → blk rs[u] 1 ≠ some x := fun t' ht' x h1 h2 => ht' (OQ.out.sep.one u hu t' u hu 1 x h1 h2).2
      exact ⟨hN.live, hN.tag, hN.text, hN.up, hN.hasS, hN.inS, owns_grown hN.attrs hg9 (hne 0 (by decide)), ho9, owns_grown hN.shadow hg9 (hne 2 (by decide))⟩
    · have hB9 : Below B w w9 := BQ.grown hg9 (by have := BQ.size; omega) (fun k hk => ?_)
      · exact hB9.setCell (p := ⟨g, u * 9 + 5, none⟩) hBg _
      · have := (World.ownsRow.lt hlq k (by rw [hob]; exact hk)).1
        exact this
  | true =>
    have hl := hls true
    have hlist : OwnI (w.alloc (.cells #[.int .i64 (n : Int)] 3)) B (.slice rs[u].s.p rs[u].s.n rs[u].s.c) (Tn.nd d u).shadow := by rw [nd_at hud]; exact (O1.out.nds u hu hud).shadow
    have hL := D1.out.row.c7 u hu
    rw [Nat.zero_add] at hL
    go_enter Try.func77, Try.ntmps77
    go_upto_region 1 with fail
    generalize w.alloc (.cells #[.int .i64 (n : Int)] 3) = w1 at *
    generalize hKs : w.heap.size = K at *
    go_quiet ((go_at_call 87; exact Calls.quiet_of_same (dlistOf_any (D1.out.keeps (keeps_drewN _ _)) u hu true)))
    have OQ : Hid (Owned (w1.drewN nq) B g c rs d) := O1.out.below (below_drewN w1.heap.size w1 nq) (Nat.le_refl _)
    have hlq : OwnI (w1.drewN nq) B (.slice rs[u].s.p rs[u].s.n rs[u].s.c) (Tn.nd d u).shadow := hlist.below (below_drewN w1.heap.size w1 nq) (Nat.le_refl _)
    have hLq : (w1.drewN nq).cell? ⟨g, u * 9 + 7, none⟩ = some (.slice rs[u].s.p rs[u].s.n rs[u].s.c) := hL
    have hkq : (w1.drewN nq).cell? ⟨K, 0, none⟩ = some (.int .i64 (n : Int)) := hk0
    have hdel := del_any take1_enters hlq hl (fun W hgr => take1_tests (K := K) (n := n) (World.grownBy.cell hgr hkq (by
      rw [sblk_own]
      exact fun e => hlowK u hu 2 e.symm)))
    have hof : 0 + u * 9 + lof true = u * 9 + 7 := by simp [lof]
    rw [hof]
    have BQ : Below B w (w1.drewN nq) := BA.trans (below_drewN B w1 nq)
    have FQ : Fr g rs w g rs (w1.drewN nq) := FA.below (below_drewN _ w1 nq)
    have hgQ : g < (w1.drewN nq).heap.size := hgA
    generalize w1.drewN nq = W at *
    have hob : (Value.slice rs[u].s.p rs[u].s.n rs[u].s.c).ownBlock = blk rs[u] 2 := sblk_own _
    rw [hob] at hdel
    clear hL hlist hk0 hkq
    go_wp2_with (go_at_call 47; refine hdel.mono ?_; rintro e w9 ⟨v9, rfl, ho9, hob9, hg9⟩; have ho9' := ho9; obtain ⟨p9, c9, rfl⟩ := ho9'.shape; have R9 := rowN_at (OQ.out.rowGrown hu 2 hg9) u hu; have L9 := R9.2.2.1; have F9 := R9.2.2.2 (u * 9 + 7))
    go_end0
    have hoth : ∀ t', t' ≠ (2 : Fin 3) → lst { rs[u] with s := ⟨p9, ((Tn.nd d u).shadow.filter fun k => !(k == n)).length, c9⟩ } t' = lst rs[u] t' := by
      intro t' ht'
      match t' with
      | 0 => rfl
      | 1 => rfl
      | 2 => exact absurd rfl ht'
    have hsame : blk { rs[u] with s := ⟨p9, ((Tn.nd d u).shadow.filter fun k => !(k == n)).length, c9⟩ } 2 = blk rs[u] 2 := by
      rw [← hob9, sblk_own ⟨p9, _, c9⟩]
      rfl
    refine ⟨rfl, ⟨_, ?_, OQ.out.list hu 2 (r' := { rs[u] with s := ⟨p9, ((Tn.nd d u).shadow.filter fun k => !(k == n)).length, c9⟩ }) (n' := Tn.setList (Tn.nd d u) true ((Tn.listOf (Tn.nd d u) true).filter fun k => !(k == n))) hg9 hoth (Or.inl hsame) ?_ 7 (by decide) _ rfl, FQ.trans (Fr.list hu 2 hg9 hoth (Or.inl hsame) _ _)⟩, ?_⟩
    · simp
    · have hN := OQ.out.nds u hu hud
      rw [← nd_at hud] at hN
      have hne : ∀ t', t' ≠ 2 → ∀ x, blk rs[u] t' = some x → blk rs[u] 2 ≠ some x := fun t' ht' x h1 h2 => ht' (OQ.out.sep.one u hu t' u hu 2 x h1 h2).2
      exact ⟨hN.live, hN.tag, hN.text, hN.up, hN.hasS, hN.inS, owns_grown hN.attrs hg9 (hne 0 (by decide)), owns_grown hN.kids hg9 (hne 1 (by decide)), ho9⟩
    · have hB9 : Below B w w9 := BQ.grown hg9 (by have := BQ.size; omega) (fun k hk => ?_)
      · exact hB9.setCell (p := ⟨g, u * 9 + 7, none⟩) hBg _
      · have := (World.ownsRow.lt hlq k (by rw [hob]; exact hk)).1
        exact this
end Go.Proofs.Ytookcjdibpccpab

/-
  copy AT ELEMENTS OF ANY NUMBER OF CELLS, into a row of the call's own; what slices.Insert makes of a row.
-/
namespace Go.Proofs.Ytookcjdibpccpab
open Go.RowKit

theorem run_copyK {P : Program} (k : Nat) (w : World) (dT sT ty elem : TypeId) (g o dLen dCap : Nat) (a : Addr) (sLen sCap : Nat) (cur : Array Value) (t : TypeId) (cs : List Value)
    (hu : P.underlying dT = some (.slice elem)) (hs : (P.info? elem).map (·.size) = some k)
    (hg : w.heap[g]? = some (.cells cur t (0, 0))) (hn : cs.length = Nat.min sLen dLen * k)
    (hsrc : ∀ j v, cs[j]? = some v → w.cell? (a.add j) = some v) (hfit : o + cs.length ≤ cur.size) (h1 : ∀ v ∈ cs, v.oneCell' = true) :
    (Builtin.copy_ #[dT, sT] ty #[.slice (some ⟨g, o, none⟩) dLen dCap, .slice (some a) sLen sCap]).run P w =
      .ok (goInt (Nat.min sLen dLen)) (w.setRow g (cur.toList.take o ++ cs ++ cur.toList.drop (o + cs.length)).toArray) := by
  have hl := run_loadCells_list (P := P) w a cs hsrc
  have hst := run_storeCells_at P g o t cs 0 cur w hg (by simpa using hfit) h1
  cases hq : P.info? elem with
  | none => simp [hq] at hs
  | some i =>
    have hi : i.size = k := by simpa [hq] using hs
    simp [Builtin.copy_, run_underlying hu, Builtin.lenOf, Builtin.firstCells, sizeOf, typeInfo, hq, hi, ← hn, hl, hst]

theorem wpList_copy_at {P : Program} (w : World) {ops : Array Oper} {rest : List Oper} {o : Oper} {a : Act} {Q : Exit → Act → World → Prop} (hgd : o.guard = none) (d s : Operand) (t t' : TypeId)
    (ho : o.op = .call { callee := .builtin .copy, args := #[d, s], argTypes := #[t, t'] }) (v u : Value) (hd : a.eval d = v) (hs : a.eval s = u) {v' : Value} {w' : World}
    (hr : (Builtin.copy_ #[t, t'] o.type #[v, u]).run P w = .ok v' w') (h : wpList P ops Q rest (a.put o.dst v') w') : wpList P ops Q (o :: rest) a w := by
  refine wpList_plain hgd fun K hK => ?_
  unfold Oper.wp execOp
  simp only [ho, resolve, invoke, builtin, Sem.run_bind, Sem.run_pure, Result.andThen_ok, List.map_toArray, List.map_cons, List.map_nil, hd, hs, hr]
  exact hK _ _ h

theorem wpList_append_at {P : Program} (w : World) {ops : Array Oper} {rest : List Oper} {o : Oper} {a : Act} {Q : Exit → Act → World → Prop} (hgd : o.guard = none) (d s : Operand) (t t' : TypeId)
    (ho : o.op = .call { callee := .builtin .append, args := #[d, s], argTypes := #[t, t'] }) (v u : Value) (hd : a.eval d = v) (hs : a.eval s = u) {v' : Value} {w' : World}
    (hr : (Builtin.append_ #[t, t'] o.type #[v, u]).run P w = .ok v' w') (h : wpList P ops Q rest (a.put o.dst v') w') : wpList P ops Q (o :: rest) a w := by
  refine wpList_plain hgd fun K hK => ?_
  unfold Oper.wp execOp
  simp only [ho, resolve, invoke, builtin, Sem.run_bind, Sem.run_pure, Result.andThen_ok, List.map_toArray, List.map_cons, List.map_nil, hd, hs, hr]
  exact hK _ _ h

theorem step_copy_at {P : Program} {ops : Array Oper} {o : Oper} {a : Act} {w : World} {K : Act → World → Prop} {Q : Exit → Act → World → Prop} {E : Prop}
    (hg : o.guard = none) (d x : Operand) (dT sT : TypeId) (hop : o.op = Op.call { callee := Callee.builtin Builtin.copy, args := #[d, x], argTypes := #[dT, sT] })
    (v u : Value) (hd : a.eval d = v) (hx : a.eval x = u) {v' : Value} {w' : World} (hr : (Builtin.copy_ #[dT, sT] o.type #[v, u]).run P w = .ok v' w') (hK : K (a.put o.dst v') w') :
    if Region.wanted o (yielded ops a.tmps) = true then Oper.wp P o a w K Q else E := by
  have hw : Region.wanted o (yielded ops a.tmps) = true := by simp [Region.wanted, hg]
  rw [if_pos hw]
  unfold Oper.wp
  simp [execOp, hop, resolve, invoke, builtin, hd, hx, hr, Result.andThen]
  exact hK

/-- the row behind a shift and a store -/
theorem ins_shift {C xs ys : List Value} {n i K : Nat} (hC : (n + 1) * K ≤ C.length) (hx : C.take (n * K) = xs) (hi : i ≤ n) (hy : ys.length = K) {A1 A2 : List Value}
    (h1 : A1 = C.take ((i + 1) * K) ++ xs.drop (i * K) ++ C.drop ((i + 1) * K + (xs.drop (i * K)).length)) (h2 : A2 = A1.take (i * K) ++ ys ++ A1.drop (i * K + ys.length)) :
    A2.length = C.length ∧ A2.take ((n + 1) * K) = xs.take (i * K) ++ ys ++ xs.drop (i * K) := by
  have e1 : (n + 1) * K = n * K + K := Nat.succ_mul n K
  have e2 : (i + 1) * K = i * K + K := Nat.succ_mul i K
  have hik : i * K ≤ n * K := Nat.mul_le_mul_right K hi
  have hxl : xs.length = n * K := by rw [← hx, List.length_take]; omega
  have hdl : (xs.drop (i * K)).length = n * K - i * K := by rw [List.length_drop, hxl]
  have a1l : A1.length = C.length := by
    rw [h1]
    simp only [List.length_append, List.length_take, List.length_drop, hxl]
    omega
  have t1 : A1.take (i * K) = xs.take (i * K) := by
    rw [h1, List.append_assoc, List.take_append_of_le_length (by rw [List.length_take]; omega), List.take_take, ← hx, List.take_take]
    congr 1
    omega
  have d1 : A1.drop (i * K + ys.length) = xs.drop (i * K) ++ C.drop ((n + 1) * K) := by
    rw [h1, List.append_assoc, List.drop_append_of_le_length (by rw [List.length_take]; omega)]
    rw [List.drop_eq_nil_of_le (by rw [List.length_take]; omega), List.nil_append]
    congr 2
    rw [hdl]
    omega
  constructor
  · rw [h2, List.length_append, List.length_append, List.length_take, List.length_drop, a1l]
    omega
  · rw [h2, t1, d1, ← List.append_assoc]
    have hlen : (xs.take (i * K) ++ ys ++ xs.drop (i * K)).length = (n + 1) * K := by
      rw [List.length_append, List.length_append, List.length_take, hdl, hxl, hy]
      omega
    rw [← hlen]
    exact List.take_left

/-- the row that is made anew, behind both stores -/
theorem ins_grow {xs ys Z : List Value} {n i K : Nat} (hxl : xs.length = n * K) (hi : i ≤ n) (hy : ys.length = K) (hZ : (n + 1) * K ≤ i * K + Z.length) {A0 A1 A2 : List Value}
    (h0 : A0 = xs.take (i * K) ++ Z) (h1 : A1 = A0.take (i * K) ++ ys ++ A0.drop (i * K + ys.length)) (h2 : A2 = A1.take ((i + 1) * K) ++ xs.drop (i * K) ++ A1.drop ((i + 1) * K + (xs.drop (i * K)).length)) :
    A2.length = A0.length ∧ A2.take ((n + 1) * K) = xs.take (i * K) ++ ys ++ xs.drop (i * K) := by
  have e1 : (n + 1) * K = n * K + K := Nat.succ_mul n K
  have e2 : (i + 1) * K = i * K + K := Nat.succ_mul i K
  have hik : i * K ≤ n * K := Nat.mul_le_mul_right K hi
  have hdl : (xs.drop (i * K)).length = n * K - i * K := by rw [List.length_drop, hxl]
  have htl : (xs.take (i * K)).length = i * K := by rw [List.length_take]; omega
  have a0l : A0.length = i * K + Z.length := by rw [h0, List.length_append, htl]
  have t0 : A0.take (i * K) = xs.take (i * K) := by
    have := List.take_left (l₁ := xs.take (i * K)) (l₂ := Z)
    rw [htl] at this
    rw [h0]
    exact this
  have a1l : A1.length = A0.length := by
    rw [h1, List.length_append, List.length_append, List.length_take, List.length_drop]
    omega
  have t1 : A1.take ((i + 1) * K) = xs.take (i * K) ++ ys := by
    have hl : (xs.take (i * K) ++ ys).length = (i + 1) * K := by rw [List.length_append, htl, hy]; omega
    rw [h1, t0, ← hl]
    exact List.take_left
  constructor
  · rw [h2]
    simp only [List.length_append, List.length_take, List.length_drop, hxl]
    omega
  · have hl : (xs.take (i * K) ++ ys ++ xs.drop (i * K)).length = (n + 1) * K := by rw [List.length_append, List.length_append, htl, hdl, hy]; omega
    rw [h2, t1, ← hl]
    exact List.take_left
end Go.Proofs.Ytookcjdibpccpab

/-
  THE WALK of slices.Insert at []int: into a row of the call's own.
-/
namespace Go.Proofs.Ytookcjdibpccpab
open Go.RowKit

/-- append of some elements to a row of the call's own, and where what comes of it lies -/
theorem run_append_blk {w : World} {B tS e size bytes : Nat} {i0 : TypeInfo} {z : Value} (ty : TypeId) (ht : Try.prog.underlying tS = some (.slice e)) (hi : Try.prog.info? e = some i0) (hz : i0.zero = some z) (hsize : i0.size = size) (hby : i0.bytes = bytes) (hzs : z.cells.size = size) (hsz : 0 < size) (hbb : bytes ≤ 1000)
    {v : Value} {n : Nat} {xs : List Value} (hown : w.ownsRow B e size v n xs) (hB : B ≤ w.heap.size) (a : Addr) (m c : Nat) (news : List Value) (hl : news.length = m * size) (hm : 0 < m) (hnews : ∀ j u, news[j]? = some u → w.cell? (a.add j) = some u) (h1 : ∀ u ∈ news, u.oneCell' = true) (hs : n + m ≤ 1000000) :
    ∃ v' w', (Builtin.append_ #[tS, tS] ty #[v, .slice (some a) m c]).run Try.prog w = .ok v' w' ∧ w'.ownsRow B e size v' (n + m) (xs ++ news) ∧ w.grownBy w' v.ownBlock ∧ (v'.ownBlock = v.ownBlock ∨ ∃ g, w.heap.size ≤ g ∧ v'.ownBlock = some g) := by
  have hbt : (n + m) * bytes ≤ 140737488355328 := Nat.le_trans (Nat.mul_le_mul hs hbb) (by decide)
  obtain ⟨v', w', hr, g2, g3, _⟩ := run_append_own (P := Try.prog) w B tS ty e i0 z size bytes ht hi hz hsize hby hzs hsz v n xs hown a m c news hl hnews h1 (by unfold maxLen; omega) hbt hB
  refine ⟨v', w', hr, g2, g3, ?_⟩
  subst hsize
  subst hby
  rcases hown.2 with ⟨rfl, hn0⟩ | ⟨g, cap, cur, rfl, hbg, hg, hnc, hcm, hcs, htake⟩
  · subst hn0
    have hr2 := run_append_nil (P := Try.prog) w tS ty e i0 z ht hi hz a m c news hl hnews hm (by omega) (by rw [Nat.zero_add] at hbt; omega)
    rw [hr2] at hr
    injection hr with e1 e2
    right
    refine ⟨w.heap.size, Nat.le_refl _, ?_⟩
    rw [← e1]
    rfl
  · by_cases hroom : n + m ≤ cap
    · have hr2 := run_append_room (P := Try.prog) w tS ty e i0 ht hi g n cap cur hg a m c news hl hnews h1 hroom (by rw [hl, hcs, ← Nat.add_mul]; exact Nat.mul_le_mul_right _ hroom)
      rw [hr2] at hr
      injection hr with e1 e2
      left
      rw [← e1]
      rfl
    · have hr2 := run_append_grow (P := Try.prog) w tS ty e i0 z ht hi hz ⟨g, 0, none⟩ n cap xs hown.1 (World.ownsRow.cells hown (g := g) rfl) a m c news hl hnews (by omega) (by omega) (growslice_fits (by omega) hbt)
      rw [hr2] at hr
      injection hr with e1 e2
      right
      refine ⟨w.heap.size, Nat.le_refl _, ?_⟩
      rw [← e1]
      rfl

set_option maxHeartbeats 3200000 in
set_option maxRecDepth 100000 in
theorem insI_any {w : World} {B : Nat} {v : Value} {l : List Nat} {vb x : Nat} (hown : OwnI w B v l) (hB : B ≤ w.heap.size) (hl : l.length ≤ 1000) (i : Nat) (hi : i ≤ l.length) (hvb : w.heap[vb]? = some (.cells #[.int .i64 (x : Int)] 3 (0, 0))) (hne : v.ownBlock ≠ some vb) :
    Calls Try.prog 89 #[v, .int .i64 (i : Int), .slice (some ⟨vb, 0, none⟩) 1 1] w fun e w' => ∃ v', e = .returned v' ∧ OwnI w' B v' (Tn.insertAt l i x) ∧ w.grownBy w' v.ownBlock ∧ (v'.ownBlock = v.ownBlock ∨ ∃ g, w.heap.size ≤ g ∧ v'.ownBlock = some g) := by
  obtain ⟨i0, hi0, hz0, hz1, hz2⟩ := info_parts infoI
  have hsz : (Try.prog.info? 3).map (·.size) = some 1 := by rw [hi0]; simp [hz1]
  have hnews : ∀ (j : Nat) (u : Value), ([iv x] : List Value)[j]? = some u → w.cell? ((⟨vb, 0, none⟩ : Addr).add j) = some u := by
    intro j u hu
    rw [add_at, Nat.zero_add]
    cases j with
    | zero => simp at hu; subst hu; simp [World.cell?, hvb, iv]
    | succ j => simp at hu
  have h1 : ∀ u ∈ ([iv x] : List Value), u.oneCell' = true := by intro u hu; simp at hu; subst hu; rfl
  by_cases hin : i = l.length
  · subst hin
    obtain ⟨p, c, rfl⟩ := hown.shape
    have hap : ∀ ty, ∃ v' w', (Builtin.append_ #[38, 38] ty #[.slice p l.length c, .slice (some ⟨vb, 0, none⟩) 1 1]).run Try.prog w = .ok v' w' ∧ w'.ownsRow B 3 1 v' (l.length + 1) (l.map iv ++ [iv x]) ∧ w.grownBy w' (Value.slice p l.length c).ownBlock ∧ (v'.ownBlock = (Value.slice p l.length c).ownBlock ∨ ∃ g, w.heap.size ≤ g ∧ v'.ownBlock = some g) :=
      fun ty => run_append_blk ty Try.underlying38 hi0 hz0 hz1 hz2 rfl (by decide) (by decide) hown hB ⟨vb, 0, none⟩ 1 1 [iv x] rfl (by decide) hnews h1 (by omega)
    obtain ⟨v', w', hr, ho', hg', hb'⟩ := hap 38
    have R : Hid (OwnI w' B v' (Tn.insertAt l l.length x)) := by
      show OwnI _ _ _ _
      unfold OwnI Tn.insertAt
      simpa using ho'
    have hlc : l.length ≤ c := by
      obtain ⟨_, _, he, h, _⟩ := (ints_of_owns hown).at
      cases he
      exact h
    have hcm : c ≤ 9223372036854775807 := by
      obtain ⟨_, _, he, _, h, _⟩ := (ints_of_owns hown).at
      cases he
      exact h
    clear hown hap ho' hnews h1 hvb hne
    generalize (Value.slice p l.length c).ownBlock = ob at *
    go_enter Try.func89, Try.ntmps89
    go_wp2_with (at_builtin; refine wpList_append_at _ rfl _ _ 38 38 rfl _ _ rfl rfl hr ?_)
    all_goals
      go_ret
      exact ⟨_, rfl, R.out, hg', hb'⟩
  · have hil : i < l.length := by omega
    have hxl : (l.map iv).length = l.length * 1 := by simp
    rcases hown.2 with ⟨_, h0⟩ | ⟨g, cap, cur, rfl, hBg, hg, hnc, hcm, hcs, htake⟩
    · omega
    · have hcl : cur.toList.length = cur.size := Array.length_toList
      have hgv : vb ≠ g := fun e => hne (by rw [e]; rfl)
      have hob : (Value.slice (some ⟨g, 0, none⟩) l.length cap).ownBlock = some g := rfl
      have hcm' : cap ≤ 9223372036854775807 := by unfold maxLen at hcm; omega
      have hgl : g < w.heap.size := by rw [Array.getElem?_eq_some_iff] at hg; exact hg.1
      have hone : ∀ u ∈ l.map iv, u.oneCell' = true := by
        intro u hu
        simp at hu
        obtain ⟨q, _, rfl⟩ := hu
        rfl
      have hcell : ∀ (W : World), (∀ k, k < w.heap.size → k ≠ w.heap.size → W.heap[k]? = w.heap[k]?) → ∀ j v, ((l.map iv).drop (i * 1))[j]? = some v → W.cell? ((⟨g, i, none⟩ : Addr).add j) = some v := by
        intro W hW j v hj
        have hc := World.ownsRow.cells hown (g := g) rfl (i + j) v (by rw [List.getElem?_drop, Nat.mul_one] at hj; exact hj)
        rw [add_at] at hc ⊢
        rw [Nat.zero_add] at hc
        rw [← hc]
        exact World.cell?_of_block (hW g hgl (by omega))
      rw [hob]
      by_cases hroom : l.length + 1 ≤ cap
      · obtain ⟨A1, hA1⟩ : ∃ A1 : List Value, A1 = cur.toList.take ((i + 1) * 1) ++ (l.map iv).drop (i * 1) ++ cur.toList.drop ((i + 1) * 1 + ((l.map iv).drop (i * 1)).length) := ⟨_, rfl⟩
        obtain ⟨A2, hA2⟩ : ∃ A2 : List Value, A2 = A1.take (i * 1) ++ [iv x] ++ A1.drop (i * 1 + [iv x].length) := ⟨_, rfl⟩
        obtain ⟨k1, k2⟩ := ins_shift (n := l.length) (K := 1) (ys := [iv x]) (by rw [hcl, hcs]; omega) htake (by omega) rfl hA1 hA2
        have hov : ∀ lb cb, (callFunc 98 #[.slice (some ⟨vb, 0, none⟩) 1 1, .slice (some ⟨g, i + 1, none⟩) lb cb]).run Try.prog w = .ok (.value (.bool false)) w := fun lb cb => by
          rw [run_callFunc_extern Try.func98 (by kernel_rfl) (by kernel_rfl) (by kernel_rfl) (e := Extern.SlicesOverlaps.overlaps #[38, 38] #[4]) (by kernel_rfl),
            Lib.run_overlaps_apart w 38 4 3 Try.underlying38 1 Try.sizeOf3 ⟨vb, 0, none⟩ ⟨g, i + 1, none⟩ 1 1 lb cb hgv 3 3 1 cur.size (by simp [World.shape?, hvb]) (by simp [World.shape?, hg]) (by omega) (by simp [World.frozen?, hvb]) (by simp [World.frozen?, hvb])]
          rfl
        have hcp1 : ∀ ty dc sc, (Builtin.copy_ #[38, 38] ty #[.slice (some ⟨g, i + 1, none⟩) (l.length - i) dc, .slice (some ⟨g, i, none⟩) (l.length + 1 - i) sc]).run Try.prog w.drew = .ok (goInt (Nat.min (l.length + 1 - i) (l.length - i))) (w.drew.setRow g A1.toArray) := fun ty dc sc => by
          rw [hA1]
          have := run_copyK (P := Try.prog) 1 w.drew 38 38 ty 3 g ((i + 1) * 1) (l.length - i) dc ⟨g, i, none⟩ (l.length + 1 - i) sc cur 3 ((l.map iv).drop (i * 1)) Try.underlying38 hsz hg (by show _ = (min (l.length + 1 - i) (l.length - i)) * 1; rw [List.length_drop, List.length_map]; omega) (hcell w.drew (fun _ _ _ => rfl)) (by simp; omega) (fun u hu => hone u (List.mem_of_mem_drop hu))
          rw [Nat.mul_one] at this
          rw [Nat.mul_one]
          exact this
        have hg1 : (w.drew.setRow g A1.toArray).heap[g]? = some (.cells A1.toArray 3 (0, 0)) := setRow_heap w.drew g cur _ 3 _ hg
        have a1l : A1.length = cur.size := by rw [hA1]; simp; omega
        have hcp2 : ∀ (W : World), W.heap = (w.drew.setRow g A1.toArray).heap → ∀ ty dc, (Builtin.copy_ #[38, 38] ty #[.slice (some ⟨g, i, none⟩) (l.length + 1 - i) dc, .slice (some ⟨vb, 0, none⟩) 1 1]).run Try.prog W = .ok (goInt (Nat.min 1 (l.length + 1 - i))) (W.setRow g A2.toArray) := fun W hW ty dc => by
          rw [hA2]
          have := run_copyK (P := Try.prog) 1 W 38 38 ty 3 g (i * 1) (l.length + 1 - i) dc ⟨vb, 0, none⟩ 1 1 A1.toArray 3 [iv x] Try.underlying38 hsz (by rw [hW]; exact hg1) (by show _ = (min 1 (l.length + 1 - i)) * 1; rw [List.length_singleton]; omega) (fun j u hu => by
            have := hnews j u hu
            rw [← this, add_at]
            exact World.cell?_of_block (by rw [hW]; exact setRow_other w.drew g vb _ hgv)) (by simp [a1l]; omega) h1
          rw [Nat.mul_one] at this
          rw [Nat.mul_one]
          simpa using this
        have R : ∀ W : World, W.heap = ((w.drew.setRow g A1.toArray).setRow g A2.toArray).heap → OwnI W B (.slice (some ⟨g, 0, none⟩) (l.length + 1) cap) (Tn.insertAt l i x) := by
          intro W hW
          have hil' : (Tn.insertAt l i x).length = l.length + 1 := Tn.len_insertAt
          unfold OwnI
          rw [hil']
          refine ⟨by simp [hil'], Or.inr ⟨g, cap, A2.toArray, rfl, hBg, by rw [hW]; exact setRow_heap _ g A1.toArray _ 3 _ hg1, hroom, hcm, by simp [k1, hcs], ?_⟩⟩
          show A2.take _ = _
          rw [k2]
          unfold Tn.insertAt
          simp [List.map_take, List.map_drop]
        have hgr : ∀ W : World, W.heap = ((w.drew.setRow g A1.toArray).setRow g A2.toArray).heap → W.os = w.os → W.tape = w.tape → W.output = w.output → w.grownBy W (some g) := by
          intro W hW h1 h2 h3
          refine ⟨h1, h2, h3, by rw [hW]; simp [World.setRow], fun k _ hk => ?_⟩
          rw [hW, setRow_other _ g k _ (fun e => hk (by rw [e])), setRow_other _ g k _ (fun e => hk (by rw [e]))]
          rfl
        have hb4 : ¬ (cap = i) := by omega
        have hb2 : ¬ (cap = i + 1) := by omega
        have hw1 : IntKind.i64.wrap ((i : Int) + 1) = (i : Int) + 1 := by rw [IntKind.wrap_i64]; omega
        have htn : ((i : Int) + 1).toNat = i + 1 := by omega
        have hz2' : ¬ ((i : Int) = (l.length : Int)) := by omega
        have hb1 : (0 : Int) ≤ (i : Int) + 1 := by omega
        have hb3 : (i : Int) ≤ (l.length : Int) + 1 := by omega
        clear hown hcell hone hA1 hA2 hnews h1 hne k1 k2 hg1 a1l htake hvb hob hxl hcl hg hcs
        generalize A1.toArray = R1 at *
        generalize A2.toArray = R2 at *
        have QR : Hid _ := R
        have QG : Hid _ := hgr
        clear R hgr
        have mixed : Try.prog.follows Departure.mixedOrders = true := by kernel_rfl
        go_enter Try.func89, Try.ntmps89
        go_wp2_with (simp only [hov])
        go_region_law_o (refine step_copy_at rfl _ _ 38 38 rfl _ _ (by simp [Act.eval, Act.put]) (by simp [Act.eval, Act.put]) (hcp1 _ _ _) ?_)
        go_wp2_with (at_builtin; refine wpList_copy_at _ rfl _ _ 38 38 rfl _ _ rfl rfl (hcp2 _ rfl _ _) ?_)
        go_ret
        exact ⟨_, rfl, QR.out _ rfl, QG.out _ rfl rfl rfl rfl, Or.inl rfl⟩
      · obtain ⟨G, hG⟩ : ∃ G, G = grownCap w (l.length + 1) cap 3 := ⟨_, rfl⟩
        have hGn : l.length + 1 ≤ G := by rw [hG]; exact grownCap_ge w _ _ _
        have hGm : G ≤ maxLen := by rw [hG]; exact grownCap_le_maxLen w (l.length + 1) cap 3 (by unfold maxLen; omega)
        have hG63 : G ≤ 9223372036854775807 := by unfold maxLen at hGm; omega
        obtain ⟨Z, hZ⟩ : ∃ Z : List Value, Z = (Builtin.zeroCells (Value.int .i64 0).cells (l.length + 1 - i) ++ Builtin.zeroCells (Value.int .i64 0).cells (G - (l.length + 1))).toList := ⟨_, rfl⟩
        obtain ⟨A0, hA0⟩ : ∃ A0 : List Value, A0 = (l.map iv).take (i * 1) ++ Z := ⟨_, rfl⟩
        obtain ⟨A1, hA1⟩ : ∃ A1 : List Value, A1 = A0.take (i * 1) ++ [iv x] ++ A0.drop (i * 1 + [iv x].length) := ⟨_, rfl⟩
        obtain ⟨A2, hA2⟩ : ∃ A2 : List Value, A2 = A1.take ((i + 1) * 1) ++ (l.map iv).drop (i * 1) ++ A1.drop ((i + 1) * 1 + ((l.map iv).drop (i * 1)).length) := ⟨_, rfl⟩
        have hZl : Z.length = (l.length + 1 - i) + (G - (l.length + 1)) := by rw [hZ]; simp [Builtin.zeroCells, Value.cells]
        have hA0l : A0.length = G := by rw [hA0, List.length_append, List.length_take, List.length_map, hZl]; omega
        obtain ⟨k1, k2⟩ := ins_grow (n := l.length) (K := 1) (ys := [iv x]) hxl (by omega) rfl (by rw [hZl]; omega) hA0 hA1 hA2
        have hA1l : A1.length = G := by rw [hA1]; simp; omega
        have hold : (Builtin.firstCells i0.size i (.slice (some ⟨g, 0, none⟩) i cap)).run Try.prog w.drew = .ok ((l.map iv).take i).toArray w.drew := by
          rw [hz1]
          exact run_firstCells_some w.drew 1 i ⟨g, 0, none⟩ i cap ((l.map iv).take i) (by rw [List.length_take, List.length_map]; omega) (fun j v hj => by
            rw [List.getElem?_take] at hj
            split at hj
            · exact World.ownsRow.cells hown (g := g) rfl j v hj
            · cases hj)
        have hik : i + (l.length + 1 - i) = l.length + 1 := by omega
        have hkk : (l.length : Int) + 1 - (i : Int) = ((l.length + 1 - i : Nat) : Int) := by omega
        have hrz : ∀ ty, (Builtin.append_ #[38, 3] ty #[.slice (some ⟨g, 0, none⟩) i cap, .int .i64 ((l.length : Int) + 1 - (i : Int))]).run Try.prog w = .ok (.slice (some ⟨w.heap.size, 0, none⟩) (l.length + 1) G) (w.drew.alloc (.cells A0.toArray 3)) := fun ty => by
          have h := Lib.run_append_grow_zeros w 38 3 ty 3 i0 _ .i64 .i64 Try.underlying38 Try.underlying3 hi0 hz0 (some ⟨g, 0, none⟩) i cap ((l.map iv).take i) hold (l.length + 1 - i) (by omega) (by omega) (by omega) (by omega) (by rw [hz2]; omega) (by rw [hz2, hik]; exact growslice_fits (by omega) (by omega))
          rw [hik, ← hG] at h
          rw [hkk, h, hA0, hZ, Nat.mul_one]
          congr 3
          simp
        have hN0 : (w.drew.alloc (.cells A0.toArray 3)).heap[w.heap.size]? = some (.cells A0.toArray 3 (0, 0)) := heap_alloc_new w.drew _
        have hold0 : ∀ k, k < w.heap.size → (w.drew.alloc (.cells A0.toArray 3)).heap[k]? = w.heap[k]? := fun k hk => heap_alloc_old w.drew _ hk
        have hvl : vb < w.heap.size := by rw [Array.getElem?_eq_some_iff] at hvb; exact hvb.1
        have hcp1 : ∀ (W : World), W.heap = (w.drew.alloc (.cells A0.toArray 3)).heap → ∀ ty dc, (Builtin.copy_ #[38, 38] ty #[.slice (some ⟨w.heap.size, i, none⟩) (l.length + 1 - i) dc, .slice (some ⟨vb, 0, none⟩) 1 1]).run Try.prog W = .ok (goInt (Nat.min 1 (l.length + 1 - i))) (W.setRow w.heap.size A1.toArray) := fun W hW ty dc => by
          rw [hA1]
          have := run_copyK (P := Try.prog) 1 W 38 38 ty 3 w.heap.size (i * 1) (l.length + 1 - i) dc ⟨vb, 0, none⟩ 1 1 A0.toArray 3 [iv x] Try.underlying38 hsz (by rw [hW]; exact hN0) (by show _ = (min 1 (l.length + 1 - i)) * 1; rw [List.length_singleton]; omega) (fun j u hu => by
            have := hnews j u hu
            rw [← this, add_at]
            exact World.cell?_of_block (by rw [hW]; exact hold0 vb hvl)) (by simp [hA0l]; omega) h1
          rw [Nat.mul_one] at this
          rw [Nat.mul_one]
          simpa using this
        have hcp2 : ∀ (W : World) (V : World), V.heap = (w.drew.alloc (.cells A0.toArray 3)).heap → W.heap = (V.setRow w.heap.size A1.toArray).heap → ∀ ty dc sc, (Builtin.copy_ #[38, 38] ty #[.slice (some ⟨w.heap.size, i + 1, none⟩) (l.length - i) dc, .slice (some ⟨g, i, none⟩) (l.length - i) sc]).run Try.prog W = .ok (goInt (Nat.min (l.length - i) (l.length - i))) (W.setRow w.heap.size A2.toArray) := fun W V hV hW ty dc sc => by
          rw [hA2]
          have := run_copyK (P := Try.prog) 1 W 38 38 ty 3 w.heap.size ((i + 1) * 1) (l.length - i) dc ⟨g, i, none⟩ (l.length - i) sc A1.toArray 3 ((l.map iv).drop (i * 1)) Try.underlying38 hsz (by rw [hW]; exact setRow_heap V w.heap.size A0.toArray _ 3 _ (by rw [hV]; exact hN0)) (by show _ = (min (l.length - i) (l.length - i)) * 1; rw [List.length_drop, List.length_map]; omega)
            (hcell W (fun k hk hk2 => by rw [hW, setRow_other _ _ k _ hk2, hV]; exact hold0 k hk)) (by simp [hA1l]; omega) (fun u hu => hone u (List.mem_of_mem_drop hu))
          rw [Nat.mul_one] at this
          rw [Nat.mul_one]
          simpa using this
        have R : ∀ (W U V : World), V.heap = (w.drew.alloc (.cells A0.toArray 3)).heap → U.heap = (V.setRow w.heap.size A1.toArray).heap → W.heap = (U.setRow w.heap.size A2.toArray).heap → OwnI W B (.slice (some ⟨w.heap.size, 0, none⟩) (l.length + 1) G) (Tn.insertAt l i x) := by
          intro W U V hV hU hW
          have hil' : (Tn.insertAt l i x).length = l.length + 1 := Tn.len_insertAt
          have g1 : U.heap[w.heap.size]? = some (.cells A1.toArray 3 (0, 0)) := by rw [hU]; exact setRow_heap V w.heap.size A0.toArray _ 3 _ (by rw [hV]; exact hN0)
          unfold OwnI
          rw [hil']
          refine ⟨by simp [hil'], Or.inr ⟨w.heap.size, G, A2.toArray, rfl, hB, by rw [hW]; exact setRow_heap U w.heap.size A1.toArray _ 3 _ g1, hGn, hGm, by simp [k1, hA0l], ?_⟩⟩
          show A2.take _ = _
          rw [k2]
          unfold Tn.insertAt
          simp [List.map_take, List.map_drop]
        have hgr : ∀ (W U V : World), V.heap = (w.drew.alloc (.cells A0.toArray 3)).heap → U.heap = (V.setRow w.heap.size A1.toArray).heap → W.heap = (U.setRow w.heap.size A2.toArray).heap → W.os = w.os → W.tape = w.tape → W.output = w.output → w.grownBy W (some g) := by
          intro W U V hV hU hW h1 h2 h3
          refine ⟨h1, h2, h3, by rw [hW]; simp [World.setRow, hU, hV], fun k hk _ => ?_⟩
          rw [hW, setRow_other _ _ k _ (by omega), hU, setRow_other _ _ k _ (by omega), hV]
          exact hold0 k hk
        have hb4 : ¬ (cap = i) := by omega
        have hGi : ¬ (G = i) := by omega
        have hGi1 : ¬ (G = i + 1) := by omega
        have hw1 : IntKind.i64.wrap ((i : Int) + 1) = (i : Int) + 1 := by rw [IntKind.wrap_i64]; omega
        have htn : ((i : Int) + 1).toNat = i + 1 := by omega
        have hz2' : ¬ ((i : Int) = (l.length : Int)) := by omega
        have hb1 : (0 : Int) ≤ (i : Int) + 1 := by omega
        have hb3 : (i : Int) ≤ (l.length : Int) + 1 := by omega
        have hb5 : (i : Int) ≤ (l.length : Int) := by omega
        have hgt : (cap : Int) < (l.length : Int) + 1 := by omega
        have mixed : Try.prog.follows Departure.mixedOrders = true := by kernel_rfl
        clear hown hcell hone hA0 hA1 hA2 hnews h1 hne k1 k2 htake hvb hob hxl hcl hg hcs hold hN0 hold0 hZ hZl hA0l hA1l hkk hik hG
        generalize A0.toArray = R0 at *
        generalize A1.toArray = R1 at *
        generalize A2.toArray = R2 at *
        have QR : Hid _ := R
        have QG : Hid _ := hgr
        clear R hgr
        go_enter Try.func89, Try.ntmps89
        have hcpW := hcp1 (w.alloc (.cells R0 3)).drew rfl
        have hcpV := hcp2 (((w.alloc (.cells R0 3)).drew.setRow w.heap.size R1).drew) ((w.alloc (.cells R0 3)).drew) rfl rfl
        go_wp2_with (first
          | (at_builtin; refine wpList_append_at _ rfl _ _ 38 3 rfl _ _ rfl rfl (hrz _) ?_)
          | (simp only [hcpW]))
        go_region_law_o (refine step_copy_at rfl _ _ 38 38 rfl _ _ (by simp [Act.eval, Act.put]) (by simp [Act.eval, Act.put]) (hcpV _ _ _) ?_)
        go_wp2_with fail
        go_ret
        exact ⟨_, rfl, QR.out _ (((w.alloc (.cells R0 3)).drew.setRow w.heap.size R1).drew) ((w.alloc (.cells R0 3)).drew) rfl rfl rfl, QG.out _ (((w.alloc (.cells R0 3)).drew.setRow w.heap.size R1).drew) ((w.alloc (.cells R0 3)).drew) rfl rfl rfl rfl rfl rfl, Or.inr ⟨_, Nat.le_refl _, rfl⟩⟩
end Go.Proofs.Ytookcjdibpccpab

/-
  THE WALKS of slices.ContainsFunc at ints, and of the function in dom.put.
-/
namespace Go.Proofs.Ytookcjdibpccpab
open Go.RowKit

set_option maxHeartbeats 800000 in
theorem contF_any {g : Nat} {lb : Array Value} {p : Nat → Bool} (eg : ∀ args w, (callFunc g args).run Try.prog w = .ok (.enter g args) w) {w : World} {vl : Value} {l : List Nat} (hl : IntsAt w vl l) (hF : ∀ W, Below w.heap.size w W → Tests g lb p W) :
    Calls Try.prog 90 #[vl, .func (.func g) #[] lb] w fun e w' => e = .returned (.bool (l.any p)) ∧ Below w.heap.size w w' := by
  have hI := idxF_any eg hl hF
  clear hl hF
  rcases idx_cases2 p l with ⟨e1, e2⟩ | ⟨j, hj, e1, e2, _⟩
  · have E : Hid (l.any p = false) := by show _ = _; rw [List.any_eq_false]; intro x hx; simp [e2 x hx]
    rw [e1] at hI
    clear e1 e2
    go_enter Try.func90, Try.ntmps90
    go_wp2_with (go_at_call 41; refine hI.mono ?_; rintro e w9 ⟨rfl, hb9⟩)
    go_ret
    exact ⟨by rw [E.out]; rfl, hb9⟩
  · have E : Hid (l.any p = true) := by show _ = _; exact List.any_eq_true.mpr ⟨l[j], List.getElem_mem hj, e2⟩
    rw [e1] at hI
    clear e1 e2
    go_enter Try.func90, Try.ntmps90
    go_wp2_with (go_at_call 41; refine hI.mono ?_; rintro e w9 ⟨rfl, hb9⟩)
    go_ret
    exact ⟨by rw [E.out]; simp, hb9⟩

/-- is a node too deep? -/
def tooDeep (d : Tn.Dc) (k : Nat) : Bool := decide ((16 : Int) < (((Tn.pathOf d (k : Int)).length - 1 : Nat) : Int))

theorem put1_enters : ∀ args w, (callFunc 91 args).run Try.prog w = .ok (.enter 91 args) w := enters_of Try.func91 (by kernel_rfl) rfl

set_option maxHeartbeats 800000 in
theorem put1_any {w : World} {b o c K : Nat} {rs : List Raw} {d : Tn.Dc} (hd : DocAt w b o c rs d) (hg : Tame d) (hK : w.cell? ⟨K, 0, none⟩ = some (.slice (some ⟨b, o, none⟩) rs.length c)) (k : Nat) :
    Calls Try.prog 91 #[.int .i64 (k : Int), .pointer (some ⟨K, 0, none⟩)] w fun e w' => e = .returned (.bool (tooDeep d k)) ∧ Below w.heap.size w w' := by
  have hC := ddeep_any hd hg (k : Int)
  have E : Hid (tooDeep d k = decide ((16 : Int) < (((Tn.pathOf d (k : Int)).length - 1 : Nat) : Int))) := rfl
  clear hd
  generalize (Tn.pathOf d (k : Int)).length - 1 = x at *
  go_enter Try.func91, Try.ntmps91
  go_wp2_with (go_at_call 12; refine hC.mono ?_; rintro e w9 ⟨rfl, hb9⟩)
  go_ret
  exact ⟨by rw [E.out]; rfl, hb9⟩

theorem put1_tests {w : World} {b o c K : Nat} {rs : List Raw} {d : Tn.Dc} (hd : DocAt w b o c rs d) (hg : Tame d) (hK : w.cell? ⟨K, 0, none⟩ = some (.slice (some ⟨b, o, none⟩) rs.length c)) : Tests 91 #[.pointer (some ⟨K, 0, none⟩)] (tooDeep d) w := by
  intro k
  have e : (#[.int .i64 (k : Int)] ++ #[.pointer (some ⟨K, 0, none⟩)] : Array Value) = #[.int .i64 (k : Int), .pointer (some ⟨K, 0, none⟩)] := by simp
  rw [e]
  exact put1_any hd hg hK k

theorem Owned.up {w : World} {B g c : Nat} {rs : List Raw} {d : Tn.Dc} (h : Owned w B g c rs d) {k : Nat} (hk : k < rs.length) (hd : k < d.length) (m : Int) : Owned (w.setCell ⟨g, k * 9 + 4, none⟩ (.int .i64 m)) B g c (rs.set k { rs[k] with up := m }) (d.set k { d[k] with up := m }) := by
  have hN := h.nds k hk hd
  exact h.scal hk (r' := { rs[k] with up := m }) (n' := { d[k] with up := m }) (fun t => by match t with | 0 => rfl | 1 => rfl | 2 => rfl) ⟨hN.live, hN.tag, hN.text, rfl, hN.hasS, hN.inS, hN.attrs, hN.kids, hN.shadow⟩ 4 (by decide) _ rfl
theorem Owned.ins {w : World} {B g c : Nat} {rs : List Raw} {d : Tn.Dc} (h : Owned w B g c rs d) {k : Nat} (hk : k < rs.length) (hd : k < d.length) (s : Bool) : Owned (w.setCell ⟨g, k * 9 + 8, none⟩ (.bool s)) B g c (rs.set k { rs[k] with inS := s }) (d.set k { d[k] with inS := s }) := by
  have hN := h.nds k hk hd
  exact h.scal hk (r' := { rs[k] with inS := s }) (n' := { d[k] with inS := s }) (fun t => by match t with | 0 => rfl | 1 => rfl | 2 => rfl) ⟨hN.live, hN.tag, hN.text, hN.up, hN.hasS, rfl, hN.attrs, hN.kids, hN.shadow⟩ 8 (by decide) _ rfl
theorem Owned.upIns {w : World} {B g c : Nat} {rs : List Raw} {d : Tn.Dc} (h : Owned w B g c rs d) {k : Nat} (hk : k < rs.length) (m : Int) (s : Bool) :
    (∃ rs', rs'.length = rs.length ∧ Owned ((w.setCell ⟨g, k * 9 + 4, none⟩ (.int .i64 m)).setCell ⟨g, k * 9 + 8, none⟩ (.bool s)) B g c rs' (d.set k { Tn.nd d k with up := m, inS := s }) ∧ Fr g rs w g rs' ((w.setCell ⟨g, k * 9 + 4, none⟩ (.int .i64 m)).setCell ⟨g, k * 9 + 8, none⟩ (.bool s))) ∧
    (∃ rs', rs'.length = rs.length ∧ Owned ((w.setCell ⟨g, k * 9 + 8, none⟩ (.bool s)).setCell ⟨g, k * 9 + 4, none⟩ (.int .i64 m)) B g c rs' (d.set k { Tn.nd d k with up := m, inS := s })) := by
  have hd : k < d.length := by rw [← h.len]; exact hk
  rw [nd_at hd]
  constructor
  · have h1 := (h.up hk hd m).ins (k := k) (by simpa using hk) (by simpa using hd) s
    simp only [List.getElem_set_self, List.set_set] at h1
    have f1 : Fr g rs w g (rs.set k { rs[k] with up := m }) (w.setCell ⟨g, k * 9 + 4, none⟩ (.int .i64 m)) := Fr.scal hk (fun t => by match t with | 0 => rfl | 1 => rfl | 2 => rfl) _ _
    have f2 := Fr.scal (w := w.setCell ⟨g, k * 9 + 4, none⟩ (.int .i64 m)) (g := g) (rs := rs.set k { rs[k] with up := m }) (k := k) (by simpa using hk) (r' := { (rs.set k { rs[k] with up := m })[k]'(by simpa using hk) with inS := s }) (fun t => by match t with | 0 => rfl | 1 => rfl | 2 => rfl) (k * 9 + 8) (.bool s)
    have f3 := f1.trans f2
    simp only [List.getElem_set_self, List.set_set] at f3
    exact ⟨_, by simp, h1, f3⟩
  · have h1 := (h.ins hk hd s).up (k := k) (by simpa using hk) (by simpa using hd) m
    simp only [List.getElem_set_self, List.set_set] at h1
    exact ⟨_, by simp, h1⟩

/-- where it is put -/
def putAt (l : List Nat) (before : Int) : Int := if 0 ≤ before then idxI (fun k => (k : Int) == before) l else (l.length : Int)
/-- the document behind put -/
def putIn (d : Tn.Dc) (n m : Nat) (before : Int) (s : Bool) : Tn.Dc := d.set m (Tn.setList (Tn.nd d m) s (Tn.insertAt (Tn.listOf (Tn.nd d m) s) (putAt (Tn.listOf (Tn.nd d m) s) before).toNat n))
def putDoc (d : Tn.Dc) (n m : Nat) (before : Int) (s : Bool) : Tn.Dc := (putIn d n m before s).set n { Tn.nd (putIn d n m before s) n with up := (m : Int), inS := s }
def putCode (d : Tn.Dc) (n m : Nat) (before : Int) (s : Bool) : Int :=
  if putAt (Tn.listOf (Tn.nd d m) s) before < 0 then 8
  else if 12 ≤ (Tn.listOf (Tn.nd d m) s).length then 5
  else if (Tn.all Tn.fuel (putDoc d n m before s) n).any (tooDeep (putDoc d n m before s)) then 3 else 0

theorem putAt_cases (l : List Nat) (before : Int) : putAt l before = -1 ∨ ∃ i : Nat, i ≤ l.length ∧ putAt l before = (i : Int) := by
  unfold putAt
  split
  · rcases idx_cases2 (fun k => (k : Int) == before) l with ⟨e, _⟩ | ⟨j, hj, e, _⟩
    · exact Or.inl e
    · exact Or.inr ⟨j, by omega, e⟩
  · exact Or.inr ⟨l.length, Nat.le_refl _, rfl⟩
theorem putAt_nat (l : List Nat) (x : Nat) : putAt l (x : Int) = idxI (fun k => k == x) l := by
  unfold putAt
  rw [if_pos (by omega)]
  congr 1
  funext k
  rw [Bool.eq_iff_iff]
  simp
  omega
theorem putAt_end (l : List Nat) (b : Int) (h : b < 0) : putAt l b = (l.length : Int) := by
  unfold putAt
  rw [if_neg (by omega)]
end Go.Proofs.Ytookcjdibpccpab
