/-
  OWN WORK: Fmb, Qsc, Neq, Rsa, Dtx, Cpy, Ins, Ina.
-/
import Derived.Test.YtookcjdibpccpaaP5
import Derived.Test.YtookcjdibpccpaaP1
import Derived.Laws.StructEq
import Derived.Test.YtookcjdibpccpaaP2
import Derived.Deep.QuietTactic
import Derived.BigQuiet
import Derived.Deep.RegionHeld3
import Derived.Laws.CopyRow
import Derived.Lib.Overlaps
import Derived.Lib.AppendZerosOnto
import Derived.Test.YtookcjdibpccpaaP0
/-
  PLAIN MATHEMATICS: what is shown is shown once; each node in one other, that stands ahead of it.
-/
namespace Go.Proofs.Ytookcjdibpccpaa
open Tn

/-- in what a node is shown, if it is -/
def fpar (d : Dc) (k : Nat) : Int := if (nd d k).inS then (nd d k).up else if (nd d (upD d k)).hasS then slotD d (k : Int) else (nd d k).up

theorem kid_nat {d : Dc} {p : Int} {k : Nat} (hk : k ∈ kidsD d p) : ∃ n : Nat, p = (n : Int) ∧ lvD d n = true := by
  unfold kidsD at hk
  split at hk
  · rename_i hi
    obtain ⟨n, rfl, _, hl⟩ := isN_nat hi
    exact ⟨n, rfl, hl⟩
  · simp at hk

theorem orI_nat {o : Option Nat} {n : Nat} (h : orI o = (n : Int)) : o = some n := by
  cases o with
  | none => simp only [orI] at h; omega
  | some m => simp only [orI] at h; rw [show m = n by omega]

theorem slot_of {d : Dc} {k n : Nat} (h : slotD d (k : Int) = (n : Int)) : slottedD d (k : Int) = true ∧ (all fuel d (nd d k).up.toNat).find? (fitsD d (valN d (k : Int) slotB) (nd d k).up) = some n := by
  unfold slotD at h
  split at h
  · rename_i hs
    rw [Int.toNat_natCast] at h
    exact ⟨hs, orI_nat h⟩
  · omega

theorem slotted_of {d : Dc} {k : Nat} (h : slottedD d (k : Int) = true) : lvD d k = true ∧ (nd d k).inS = false ∧ (∃ u : Nat, (nd d k).up = (u : Int) ∧ lvD d u = true) ∧ (nd d (upD d k)).hasS = true := by
  unfold slottedD at h
  simp only [Bool.and_eq_true] at h
  obtain ⟨⟨⟨h1, h2⟩, h3⟩, h4⟩ := h
  rw [Int.toNat_natCast] at h2 h3 h4
  obtain ⟨u, hu, _, hl⟩ := isN_nat (isN_true h3)
  exact ⟨by rw [← isN_iff]; exact h1, by simpa using h2, ⟨u, hu, hl⟩, h4⟩

theorem kid_par {d : Dc} (h : Fine d) {n k : Nat} (hk : k ∈ kidsD d (n : Int)) : lvD d n = true ∧ lvD d k = true ∧ 0 < k ∧ (n : Int) = fpar d k ∧ (∃ s, k ∈ liD d (upD d k) s) ∧
    ((n = upD d k) ∨ (slotD d (k : Int) = (n : Int) ∧ k ∈ (nd d (upD d k)).kids)) := by
  obtain ⟨r, hr, _⟩ := h.good.tr
  have hk0 := hk
  unfold kidsD at hk
  split at hk
  · rename_i hi
    have hn : lvD d n = true := by rw [← isN_iff]; exact hi
    rw [Int.toNat_natCast] at hk
    have up_eq : ∀ s, k ∈ liD d n s → lvD d k = true ∧ 0 < k ∧ upD d k = n ∧ (nd d k).inS = s ∧ (nd d k).up = (n : Int) := by
      intro s hs
      obtain ⟨_, h2, h3, h4, h5⟩ := hr.1.mem n s k hs
      have := hr.2 k h3 h2
      refine ⟨h2, h3, h4, h5, ?_⟩
      have e : (nd d k).up.toNat = n := h4
      omega
    split at hk
    · obtain ⟨h1, h2, h3, h4, h5⟩ := up_eq true hk
      exact ⟨hn, h1, h2, by unfold fpar; rw [h4, if_pos rfl, h5], ⟨true, by rw [h3]; exact hk⟩, Or.inl h3.symm⟩
    · rename_i hs
      split at hk
      · obtain ⟨h1, h2, h3, h4, h5⟩ := up_eq false hk
        exact ⟨hn, h1, h2, by unfold fpar; rw [h4, if_neg (by simp), h3, if_neg hs, h5], ⟨false, by rw [h3]; exact hk⟩, Or.inl h3.symm⟩
      · unfold givenD at hk
        split at hk
        · obtain ⟨s, hsc, _⟩ := h.okd.scope n hn
          rw [hsc, Int.toNat_natCast, List.mem_filter] at hk
          obtain ⟨hk1, hk2⟩ := hk
          have hsl : slotD d (k : Int) = (n : Int) := by simpa using hk2
          obtain ⟨_, g2, g3, g4, g5⟩ := hr.1.mem s false k hk1
          obtain ⟨hs1, _⟩ := slot_of hsl
          obtain ⟨_, hi2, _, hh⟩ := slotted_of hs1
          refine ⟨hn, g2, g3, ?_, ⟨false, by rw [g4]; exact hk1⟩, Or.inr ⟨hsl, by rw [g4]; exact hk1⟩⟩
          unfold fpar
          rw [hi2, if_neg (by simp), if_pos hh, hsl]
        · simp at hk
  · simp at hk

theorem kid_one {d : Dc} (h : Fine d) {a b k : Nat} (ha : k ∈ kidsD d (a : Int)) (hb : k ∈ kidsD d (b : Int)) : a = b := by
  have h1 := (kid_par h ha).2.2.2.1
  have h2 := (kid_par h hb).2.2.2.1
  omega

theorem pair_sub {a b : Nat} {l : List Nat} (hb : b ∈ l) : [a, b].Sublist (a :: l) := List.Sublist.cons_cons _ (List.singleton_sublist.mpr hb)

theorem live_all {d : Dc} (h : Fine d) {n : Nat} (hn : lvD d n = true) : n ∈ allD d 0 := by
  obtain ⟨r, hr, _⟩ := h.good.tr
  exact (sub_root h hr _ n rfl hn).subset (allD_self h hn)

theorem kid_before {d : Dc} (h : Fine d) {n k : Nat} (hk : k ∈ kidsD d (n : Int)) : [n, k].Sublist (allD d 0) := by
  obtain ⟨r, hr, _⟩ := h.good.tr
  obtain ⟨h1, h2, h3, _, ⟨s, h5⟩, h6⟩ := kid_par h hk
  rcases h6 with e | ⟨hsl, hkk⟩
  · rw [← e] at h5
    exact ((pair_sub (allD_self h h2)).trans (sub_child h h5)).trans (sub_root h hr _ n rfl h1)
  · obtain ⟨hs1, hs2⟩ := slot_of hsl
    obtain ⟨_, _, ⟨u, hu, hul⟩, hh⟩ := slotted_of hs1
    have hud : upD d k = u := by unfold upD; rw [hu]; simp
    rw [hud] at hh hkk
    rw [hu, Int.toNat_natCast] at hs2
    have hs3 := slot_shadow h hul hh (valN d (k : Int) slotB)
    have hs4 : ((nd d u).shadow.flatMap (allD d)).find? (fitsD d (valN d (k : Int) slotB) (u : Int)) = some n := by rw [← hs3]; exact hs2
    have hnm := List.mem_of_find?_eq_some hs4
    have hkm : k ∈ (nd d u).kids.flatMap (allD d) := List.mem_flatMap.mpr ⟨k, hkk, allD_self h h2⟩
    have h7 : [n, k].Sublist (allD d u) := by
      rw [allD_eq h hul]
      refine List.Sublist.cons _ ?_
      rw [show [n, k] = [n] ++ [k] from rfl]
      exact List.Sublist.append (List.singleton_sublist.mpr hnm) (List.singleton_sublist.mpr hkm)
    exact h7.trans (sub_root h hr _ u rfl hul)

theorem idx_ne {a x : Nat} {l : List Nat} (h : a ≠ x) : (x :: l).idxOf a = l.idxOf a + 1 := by
  rw [List.idxOf_cons]
  have : (x == a) = false := by simp; omega
  rw [this]
  rfl
theorem idx_lt : ∀ (l : List Nat) (a b : Nat), l.Nodup → [a, b].Sublist l → l.idxOf a < l.idxOf b
  | [], _, _, _, h => by simp at h
  | x :: l, a, b, hn, h => by
    obtain ⟨h1, h2⟩ := List.nodup_cons.mp hn
    cases h with
    | cons _ h =>
      have ha : a ≠ x := fun e => h1 (by rw [← e]; exact h.subset (by simp))
      have hb : b ≠ x := fun e => h1 (by rw [← e]; exact h.subset (by simp))
      have := idx_lt l a b h2 h
      rw [idx_ne ha, idx_ne hb]
      omega
    | cons_cons _ h =>
      have hb : b ∈ l := List.singleton_sublist.mp h
      have hne : b ≠ x := fun e => h1 (by rw [← e]; exact hb)
      rw [List.idxOf_cons_self, idx_ne hne]
      omega

/-- a node's place among all -/
def posD (d : Dc) (n : Nat) : Nat := (allD d 0).idxOf n

theorem kid_pos {d : Dc} (h : Fine d) {n k : Nat} (hk : k ∈ kidsD d (n : Int)) : posD d n < posD d k := by
  obtain ⟨r, hr, _⟩ := h.good.tr
  exact idx_lt _ _ _ (allD_nodup h hr.1.root) (kid_before h hk)

theorem pos_lt {d : Dc} (h : Fine d) {n : Nat} (hn : lvD d n = true) : posD d n < (allD d 0).length := List.idxOf_lt_length_of_mem (live_all h hn)

theorem all_few {d : Dc} (h : Fine d) : (allD d 0).length ≤ 60 := by
  obtain ⟨r, hr, _⟩ := h.good.tr
  exact Nat.le_trans (nodup_le d.length _ (allD_nodup h hr.1.root) (fun x hx => lv_lt (allD_live h hr.1.root hx))) h.good.len.2

theorem end_of {d : Dc} (h : Fine d) : ∀ (f n : Nat), lvD d n = true → (allD d 0).length ≤ posD d n + f → EndF f d n
  | 0, n, hn, hf => by have := pos_lt h hn; omega
  | f + 1, n, _, hf => fun k hk => end_of h f k (kid_par h hk).2.1 (by have := kid_pos h hk; omega)

theorem fine_end {d : Dc} (h : Fine d) : EndF fuel d 0 := by
  obtain ⟨r, hr, _⟩ := h.good.tr
  exact end_of h fuel 0 hr.1.root (by have := all_few h; unfold fuel; omega)

theorem shown_live {d : Dc} (h : Fine d) : ∀ (f a x : Nat), lvD d a = true → x ∈ shownF f d a → lvD d x = true ∧ posD d a ≤ posD d x
  | 0, _, _, _, hx => by simp [shownF] at hx
  | f + 1, a, x, ha, hx => by
    rw [shownF] at hx
    rcases List.mem_cons.mp hx with rfl | hx
    · exact ⟨ha, Nat.le_refl _⟩
    · obtain ⟨c, hc, hxc⟩ := List.mem_flatMap.mp hx
      obtain ⟨h1, h2⟩ := shown_live h f c x (kid_par h hc).2.1 hxc
      have := kid_pos h hc
      exact ⟨h1, by omega⟩

theorem shown_par {d : Dc} : ∀ (f a x : Nat), x ∈ shownF f d a → x ≠ a → ∃ y : Nat, x ∈ kidsD d (y : Int) ∧ [y, x].Sublist (shownF f d a)
  | 0, _, _, hx, _ => by simp [shownF] at hx
  | f + 1, a, x, hx, hne => by
    rw [shownF] at hx ⊢
    rcases List.mem_cons.mp hx with e | hx
    · exact absurd e hne
    · obtain ⟨c, hc, hxc⟩ := List.mem_flatMap.mp hx
      by_cases e : x = c
      · exact ⟨a, by rw [e]; exact hc, pair_sub hx⟩
      · obtain ⟨y, h1, h2⟩ := shown_par f c x hxc e
        exact ⟨y, h1, (h2.trans (sub_flat hc)).trans (List.sublist_cons_self _ _)⟩

/-- of two nodes in which one is shown, one is shown in the other -/
theorem shown_two {d : Dc} (h : Fine d) {f g a b : Nat} : ∀ (m x : Nat), posD d x ≤ m → x ∈ shownF f d a → x ∈ shownF g d b → a ∈ shownF g d b ∨ b ∈ shownF f d a := by
  intro m
  induction m with
  | zero =>
    intro x hm hxa hxb
    by_cases e : x = a
    · exact Or.inl (by rw [← e]; exact hxb)
    · obtain ⟨y, h1, _⟩ := shown_par f a x hxa e
      have := kid_pos h h1
      omega
  | succ m ih =>
    intro x hm hxa hxb
    by_cases e : x = a
    · exact Or.inl (by rw [← e]; exact hxb)
    · by_cases e2 : x = b
      · exact Or.inr (by rw [← e2]; exact hxa)
      · obtain ⟨y, h1, h2⟩ := shown_par f a x hxa e
        obtain ⟨z, h3, h4⟩ := shown_par g b x hxb e2
        obtain rfl := kid_one h h1 h3
        have := kid_pos h h1
        exact ih y (by omega) (h2.subset (by simp)) (h4.subset (by simp))

theorem kids_nodup {d : Dc} (h : Fine d) (p : Int) : (kidsD d p).Nodup := by
  obtain ⟨r, hr, _⟩ := h.good.tr
  unfold kidsD
  split
  · split
    · exact hr.1.nodup p.toNat true
    · split
      · exact hr.1.nodup p.toNat false
      · unfold givenD
        split
        · exact List.Pairwise.filter _ (hr.1.nodup (scopeD d p).toNat false)
        · exact List.nodup_nil
  · exact List.nodup_nil

theorem shown_nodup {d : Dc} (h : Fine d) : ∀ (f n : Nat), lvD d n = true → (shownF f d n).Nodup
  | 0, _, _ => List.nodup_nil
  | f + 1, n, _ => by
    rw [shownF, List.nodup_cons]
    constructor
    · intro hm
      obtain ⟨c, hc, hxc⟩ := List.mem_flatMap.mp hm
      have h1 := (shown_live h f c n (kid_par h hc).2.1 hxc).2
      have := kid_pos h hc
      omega
    · refine flat_nodup _ (kids_nodup h _) (fun a ha => shown_nodup h f a (kid_par h ha).2.1) ?_
      intro a ha b hb hne x hxa hxb
      have key : ∀ a b, a ∈ kidsD d (n : Int) → b ∈ kidsD d (n : Int) → a ≠ b → a ∈ shownF f d b → False := by
        intro a b ha hb hne hab
        obtain ⟨y, h1, h2⟩ := shown_par f b a hab hne
        obtain rfl := kid_one h h1 ha
        have h3 := (shown_live h f b y (kid_par h hb).2.1 (h2.subset (by simp))).2
        have := kid_pos h hb
        omega
      rcases shown_two h (f := f) (g := f) _ x (Nat.le_refl _) hxa hxb with g | g
      · exact key a b ha hb hne g
      · exact key b a hb ha (fun e => hne e.symm) g

theorem shown_few {d : Dc} (h : Fine d) (f : Nat) {n : Nat} (hn : lvD d n = true) : (shownF f d n).length ≤ 60 :=
  Nat.le_trans (nodup_le d.length _ (shown_nodup h f n hn) (fun x hx => lv_lt (shown_live h f n x hn hx).1)) h.good.len.2

/-- Up tells in what a node is shown -/
theorem up_of_kid {d : Dc} (h : Fine d) {n k : Nat} (hk : k ∈ kidsD d (n : Int)) : upF d (k : Int) = (n : Int) := by
  obtain ⟨r, hr, _⟩ := h.good.tr
  obtain ⟨h1, h2, h3, _, _, h6⟩ := kid_par h hk
  have hi : isN d (k : Int) false = true := by rw [isN_iff]; exact h2
  have hu : (nd d k).up = (upD d k : Int) := by have := hr.2 k h3 h2; unfold upD; omega
  unfold upF
  rw [if_pos hi, Int.toNat_natCast, hu]
  split
  · rename_i hc
    have := kid_one h (by simpa using hc) hk
    rw [this]
  · rename_i hc
    rcases h6 with e | ⟨hsl, _⟩
    · rw [← e] at hc
      exact absurd (by simpa using hk) hc
    · rw [hsl, if_pos (by simpa using hk)]

theorem up_root {d : Dc} (h : Fine d) : upF d 0 = -1 := by
  have hu := h.good.rootUp
  have hk : kidsD d (-1) = [] := by unfold kidsD; rw [if_neg]; unfold isN; simp
  have hs : slotD d 0 = -1 := by
    unfold slotD
    rw [if_neg]
    unfold slottedD isN
    simp [hu]
  unfold upF
  split
  · rw [show (0 : Int).toNat = 0 from rfl, hu, hk, hs, hk]
    rfl
  · rfl

theorem up_none {d : Dc} {n : Int} (hn : ∀ m : Nat, ∀ k ∈ kidsD d (m : Int), (k : Int) ≠ n) : upF d n = -1 := by
  unfold upF
  split
  · rename_i hi
    obtain ⟨k, rfl, _, _⟩ := isN_nat hi
    rw [Int.toNat_natCast]
    have no : ∀ p : Int, (kidsD d p).contains k = false := by
      intro p
      cases hc : (kidsD d p).contains k with
      | false => rfl
      | true =>
        have hm : k ∈ kidsD d p := by simpa using hc
        obtain ⟨m, rfl, _⟩ := kid_nat hm
        exact absurd rfl (hn m k hm)
    rw [no, no]
    rfl
  · rfl

theorem ahead_take {l : List Nat} {p n j : Nat} (hn : l.Nodup) (hs : [p, n].Sublist l) (hj : j < l.length) (he : l[j] = n) : p ∈ l.take j := by
  have h1 := idx_lt l p n hn hs
  have hp : p ∈ l := hs.subset (by simp)
  have h2 : l.idxOf n = j := by rw [← he]; exact hn.idxOf_getElem j hj
  rw [h2] at h1
  rw [List.mem_take_iff_getElem]
  exact ⟨l.idxOf p, by have := List.idxOf_lt_length_of_mem hp; omega, List.getElem_idxOf _⟩
end Go.Proofs.Ytookcjdibpccpaa

/-
  THE WALKS of the reference's Attr at whatever node, and Scope.
-/
namespace Go.Proofs.Ytookcjdibpccpaa
open Go.RowKit

set_option maxHeartbeats 800000 in
theorem rattr_no {w : World} {b o c : Nat} {rs : List Raw} {d : Tn.Dc} (hd : DocAt w b o c rs d) (n : Int) (hn : Tn.isN d n true = false) (name : ByteArray) :
    Calls Try.prog 38 #[.slice (some ⟨b, o, none⟩) rs.length c, .int .i64 n, .string name] w fun e w' => e = .returned (.tuple #[.string ⟨#[]⟩, .bool false]) ∧ w' = w := by
  have H : Hid (DocAt w b o c rs d) := hd
  clear hd
  go_enter Try.func38, Try.ntmps38
  go_wp2_with (go_at_call 27; refine (ris_any H.out _ _).mono ?_; rintro e w' ⟨rfl, hww⟩; subst hww; rw [hn])
  go_ret2
  exact ⟨rfl, rfl⟩

theorem rattr_all {w : World} {b o c : Nat} {rs : List Raw} {d : Tn.Dc} (hd : DocAt w b o c rs d) (n : Int) (name : ByteArray) :
    Calls Try.prog 38 #[.slice (some ⟨b, o, none⟩) rs.length c, .int .i64 n, .string name] w fun e w' =>
      e = .returned (.tuple #[.string (valN d n name), .bool (attrN d n name).isSome]) ∧ Below w.heap.size w w' := by
  unfold valN attrN
  cases hn : Tn.isN d n true with
  | true =>
    rw [if_pos rfl]
    obtain ⟨k, rfl, _, _⟩ := isN_nat (isN_true hn)
    rw [Int.toNat_natCast]
    exact rattr_any hd k hn name
  | false =>
    rw [if_neg (by simp)]
    refine (rattr_no hd n hn _).mono ?_
    rintro e w' ⟨rfl, rfl⟩
    exact ⟨rfl, Below.refl _ _⟩

theorem scopeL_take (d : Tn.Dc) (l : List Nat) (j : Nat) (h : j < l.length) (hn : ∀ k ∈ l.take j, (Tn.nd d k).inS = false) : scopeL d l = if (Tn.nd d l[j]).inS then (Tn.nd d l[j]).up else scopeL d (l.drop (j + 1)) := by
  have e : l = l.take j ++ l[j] :: l.drop (j + 1) := by rw [List.getElem_cons_drop, List.take_append_drop]
  rw [show scopeL d l = scopeL d (l.take j ++ l[j] :: l.drop (j + 1)) by rw [← e], scopeL_app d _ _ hn, scopeL]

set_option maxHeartbeats 800000 in
set_option maxRecDepth 100000 in
theorem rscope_any {w : World} {b o c : Nat} {rs : List Raw} {d : Tn.Dc} (hd : DocAt w b o c rs d) (hf : Fine d) (n : Int) :
    Calls Try.prog 33 #[.slice (some ⟨b, o, none⟩) rs.length c, .int .i64 n] w fun e w' => e = .returned (.int .i64 (scopeD d n)) ∧ Below w.heap.size w w' := by
  have H : Hid (DocAt w b o c rs d) := hd
  have hrl : rs.length ≤ 1000 := by rw [hd.len]; have := hf.good.len.2; omega
  have hP := rpath_own hd hrl n
  have hL : ∀ k ∈ Tn.pathOf d n, Tn.lvD d k = true := path_live d _ _
  have HU : Hid (∀ k ∈ Tn.pathOf d n, k < rs.length ∧ (rs[k]?.map (·.inS) = some true → ∃ u : Nat, (Tn.nd d k).up = (u : Int))) := by
    intro k hk
    have hkl := hL k hk
    have h1 := Tn.lv_lt hkl
    refine ⟨by rw [hd.len]; exact h1, fun hi => ?_⟩
    obtain ⟨r, hr, _⟩ := hf.good.tr
    have hk' : k < rs.length := by rw [hd.len]; exact h1
    have hins : (Tn.nd d k).inS = true := by
      rw [nd_at h1, ← (hd.nds k hk' h1).inS]
      rw [List.getElem?_eq_getElem hk'] at hi
      simpa using hi
    have h0 : 0 < k := by
      apply Classical.byContradiction
      intro hn
      have := ((hf.fit k).root (by omega)).2.2
      rw [hins] at this
      cases this
    have := hr.2 k h0 hkl
    exact ⟨(Tn.nd d k).up.toNat, by omega⟩
  have SD : Hid (scopeD d n = scopeL d (Tn.pathOf d n)) := rfl
  generalize scopeD d n = res at *
  generalize Tn.pathOf d n = l at *
  clear hd hL
  go_enter Try.func33, Try.ntmps33
  go_wp2_with (go_at_call 40; refine hP.mono ?_; rintro e w1 ⟨v, rfl, hown, hb⟩; obtain ⟨p, cc, rfl, hz1, hz2, _, hat⟩ := (ints_of_owns hown).at)
  have T : Hid (∀ j (hj : j < l.length), ∃ b o, p = some ⟨b, o, none⟩ ∧ w1.cell? ⟨b, o + j, none⟩ = some (.int .i64 (l[j] : Int))) := hat
  have D1 : Hid (DocAt w1 b o c rs d) := H.out.keeps (keeps_below hb (Nat.le_refl _))
  clear hat hown
  go_loop [6, 11] (fun _ i => ∃ k : Nat, k ≤ l.length ∧ i = .int .i64 k ∧ Hid (∀ x ∈ l.take k, (Tn.nd d x).inS = false)) (fun _ i => l.length - (intOf i).toNat)
  case atStart => exact ⟨0, Nat.zero_le _, rfl, fun x hx => by simp at hx⟩
  case round =>
    obtain ⟨j, hj, rfl, NO⟩ := hrel
    by_cases hlt : j < l.length
    · obtain ⟨b1, o1, rfl, hc⟩ := T.out j hlt
      obtain ⟨hk', hup⟩ := HU.out _ (List.getElem_mem hlt)
      have SL := scopeL_take d l j hlt NO.out
      have hkd : l[j] < d.length := by rw [← D1.out.len]; exact hk'
      have h8 := D1.out.row.c8 l[j] hk'
      have h4 := D1.out.row.c4 l[j] hk'
      have e8 : (Tn.nd d l[j]).inS = rs[l[j]].inS := by rw [nd_at hkd]; exact (D1.out.nds _ hk' hkd).inS.symm
      have e4 : (Tn.nd d l[j]).up = rs[l[j]].up := by rw [nd_at hkd]; exact (D1.out.nds _ hk' hkd).up.symm
      rw [e8, e4] at SL
      have hup2 : rs[l[j]].inS = true → ∃ u : Nat, rs[l[j]].up = (u : Int) := fun hi => by
        rw [← e4]
        exact hup (by rw [List.getElem?_eq_getElem hk']; simp [hi])
      have N2 : rs[l[j]].inS = false → Hid (∀ x ∈ l.take (j + 1), (Tn.nd d x).inS = false) := fun hi x hx => by
        rw [List.take_succ_eq_append_getElem hlt, List.mem_append, List.mem_singleton] at hx
        rcases hx with hx | rfl
        · exact NO.out x hx
        · rw [e8, hi]
      clear hup e8 e4
      have SL2 : Hid _ := SL
      clear SL
      generalize rs[l[j]].inS = is at *
      generalize rs[l[j]].up = uu at *
      generalize l[j] = x at *
      cases is with
      | true =>
        obtain ⟨u, rfl⟩ := hup2 rfl
        have E : Hid (res = (u : Int)) := by show _ = _; rw [SD.out, SL2.out]; rfl
        go_wp2_with fail
        go_ret
        exact ⟨by rw [E.out]; rfl, hb⟩
      | false =>
        have N3 := N2 rfl
        go_wp2_with fail
        exact ⟨⟨j + 1, by omega, by go_num, N3⟩, by simp [intOf]; omega⟩
    · obtain rfl : j = l.length := by omega
      have E : Hid (res = 0) := by
        show _ = _
        rw [SD.out]
        have := scopeL_app d l [] (fun x hx => NO.out x (by rw [List.take_length]; exact hx))
        rw [List.append_nil] at this
        rw [this]
        rfl
      go_wp2_with fail
      go_ret
      exact ⟨by rw [E.out]; rfl, hb⟩
end Go.Proofs.Ytookcjdibpccpaa

/-
  TWO ATTRIBUTES THAT ARE ONE ARE NOT UNLIKE.
-/
namespace Go.Proofs.Ytookcjdibpccpaa
open Go.RowKit
theorem attr_neq (W : World) (a b : ByteArray) : (binOp .neq 62 (.agg #[.string a, .string b]) (.agg #[.string a, .string b])).run Try.prog W = .ok (.bool false) W := by
  have u9 := Try.underlying9
  have hS : Try.prog.underlying 62 = some (.struct (Try.prog.fieldsOf 62)) := by kernel_rfl
  have hp : Try.prog.stoodInHeld 62 = false := by kernel_rfl
  rw [run_neq_struct, show (10000 : Nat) = 9999 + 1 from rfl, run_equalIn_agg W 9999 62 _ _ hS hp]
  simp only [Program.fieldsOf, Try.underlying62]
  go_simp
theorem attr_guard (W : World) (x y : Operand) (xs ys : Array Value) : (eqGuard .neq 62 x y (.agg xs) (.agg ys)).run Try.prog W = .ok () W := run_eqGuard_agg W .neq 62 x y xs ys (by kernel_rfl)
end Go.Proofs.Ytookcjdibpccpaa

/-
  THE WALKS of the reference's SameInts and Same, at what reads the same.
-/
namespace Go.Proofs.Ytookcjdibpccpaa
open Go.RowKit

set_option maxHeartbeats 800000 in
set_option maxRecDepth 100000 in
theorem rsameints_true {w : World} {v1 v2 : Value} {l : List Nat} (h1 : IntsAt w v1 l) (h2 : IntsAt w v2 l) :
    Calls Try.prog 34 #[v1, v2] w fun e w' => e = .returned (.bool true) ∧ Below w.heap.size w w' := by
  obtain ⟨p1, c1, rfl, a1, a2, _, at1⟩ := h1.at
  obtain ⟨p2, c2, rfl, b1, b2, _, at2⟩ := h2.at
  have T1 : Hid (∀ j (hj : j < l.length), ∃ b o, p1 = some ⟨b, o, none⟩ ∧ w.cell? ⟨b, o + j, none⟩ = some (.int .i64 (l[j] : Int))) := at1
  have T2 : Hid (∀ j (hj : j < l.length), ∃ b o, p2 = some ⟨b, o, none⟩ ∧ w.cell? ⟨b, o + j, none⟩ = some (.int .i64 (l[j] : Int))) := at2
  clear at1 at2 h1 h2
  go_enter Try.func34, Try.ntmps34
  go_wp2_with fail
  go_loopw [13] (fun i wr => ∃ j : Nat, j ≤ l.length ∧ i = .int .i64 j ∧ Below w.heap.size w wr) (fun i _ => l.length - (intOf i).toNat)
  case atStart => exact ⟨0, Nat.zero_le _, rfl, Below.refl _ _⟩
  case round =>
    obtain ⟨j, hj, rfl, hnx⟩ := hrel
    by_cases hlt : j < l.length
    · obtain ⟨e1, o1, rfl, k1⟩ := T1.out j hlt
      obtain ⟨e2, o2, rfl, k2⟩ := T2.out j hlt
      have y1 := keeps_below hnx (Nat.le_refl _) _ _ k1
      have y2 := keeps_below hnx (Nat.le_refl _) _ _ k2
      clear k1 k2
      generalize l[j] = x at *
      have hq : (((x : Nat) : Int) == (x : Int)) = true := by simp
      have hj2 : (j : Int) < (l.length : Int) := by omega
      go_wp2_with fail
      go_quiet (fail)
      go_wp2_with fail
      go_roundw
      case rel => exact ⟨j + 1, by omega, by go_num, hnx.trans ⟨rfl, rfl, rfl, Nat.le_refl _, fun _ _ => rfl⟩⟩
      case measure => simp [intOf]; omega
    · obtain rfl : j = l.length := by omega
      go_wp2_with fail
      go_ret
      exact ⟨rfl, hnx⟩

set_option maxHeartbeats 1600000 in
set_option maxRecDepth 100000 in
theorem rsame_true {w : World} {b1 o1 c1 b2 o2 c2 : Nat} {rs1 rs2 : List Raw} {d : Tn.Dc} (h1 : DocAt w b1 o1 c1 rs1 d) (h2 : DocAt w b2 o2 c2 rs2 d) (hs : d.length ≤ 1000) :
    Calls Try.prog 23 #[.slice (some ⟨b1, o1, none⟩) rs1.length c1, .slice (some ⟨b2, o2, none⟩) rs2.length c2] w fun e w' => e = .returned (.bool true) ∧ Below w.heap.size w w' := by
  have H1 : Hid (DocAt w b1 o1 c1 rs1 d) := h1
  have H2 : Hid (DocAt w b2 o2 c2 rs2 d) := h2
  rw [h1.len, h2.len]
  clear h1 h2
  go_enter Try.func23, Try.ntmps23
  go_wp2_with fail
  go_loopw [16] (fun i wr => ∃ j : Nat, j ≤ d.length ∧ i = .int .i64 j ∧ Below w.heap.size w wr) (fun i _ => d.length - (intOf i).toNat)
  case atStart => exact ⟨0, Nat.zero_le _, rfl, Below.refl _ _⟩
  case round =>
    obtain ⟨j, hj, rfl, hnx⟩ := hrel
    have hbz := hnx.size
    by_cases hlt : j < d.length
    · have hj1 : j < rs1.length := by rw [H1.out.len]; exact hlt
      have hj2 : j < rs2.length := by rw [H2.out.len]; exact hlt
      have R1 := H1.out.row.keeps (keeps_below hnx (Nat.le_refl _))
      have R2 := H2.out.row.keeps (keeps_below hnx (Nat.le_refl _))
      have N1 := (H1.out.nds j hj1 hlt).keeps (keeps_below hnx (Nat.le_refl _))
      have N2 := (H2.out.nds j hj2 hlt).keeps (keeps_below hnx (Nat.le_refl _))
      have x0 := R1.c0 j hj1
      have x1 := R1.c1 j hj1
      have x2 := R1.c2 j hj1
      have x3 := R1.c3 j hj1
      have x4 := R1.c4 j hj1
      have x5 := R1.c5 j hj1
      have x6 := R1.c6 j hj1
      have x7 := R1.c7 j hj1
      have x8 := R1.c8 j hj1
      have y0 := R2.c0 j hj2
      have y1 := R2.c1 j hj2
      have y2 := R2.c2 j hj2
      have y3 := R2.c3 j hj2
      have y4 := R2.c4 j hj2
      have y5 := R2.c5 j hj2
      have y6 := R2.c6 j hj2
      have y7 := R2.c7 j hj2
      have y8 := R2.c8 j hj2
      clear R1 R2
      generalize rs1[j] = r1 at *
      generalize rs2[j] = r2 at *
      generalize d[j] = nn at *
      obtain ⟨lv1, tg1, tx1, ⟨ap1, an1, ac1⟩, up1, ⟨kp1, kn1, kc1⟩, hs1, ⟨sp1, sn1, sc1⟩, is1⟩ := r1
      obtain ⟨lv2, tg2, tx2, ⟨ap2, an2, ac2⟩, up2, ⟨kp2, kn2, kc2⟩, hs2, ⟨sp2, sn2, sc2⟩, is2⟩ := r2
      obtain ⟨m1, m2, m3, m4, m5, m6, A1, K1, S1⟩ := N1
      obtain ⟨n1, n2, n3, n4, n5, n6, A2, K2, S2⟩ := N2
      simp only at *
      subst m1 m2 m3 m4 m5 m6 n1 n2 n3 n4 n5 n6
      obtain rfl := al_of A1
      obtain rfl := al_of A2
      go_wp2_with fail
      have SS : ∀ w'', Keeps wr w'' → (fun w'' => w''.cell? ⟨b1, o1 + j * 9, none⟩ = some (.bool nn.live) ∧ w''.cell? ⟨b1, o1 + j * 9 + 1, none⟩ = some (.string nn.tag) ∧ w''.cell? ⟨b1, o1 + j * 9 + 2, none⟩ = some (.string nn.text) ∧ w''.cell? ⟨b1, o1 + j * 9 + 3, none⟩ = some (.slice ap1 nn.attrs.length ac1) ∧ w''.cell? ⟨b1, o1 + j * 9 + 4, none⟩ = some (.int .i64 nn.up) ∧ w''.cell? ⟨b1, o1 + j * 9 + 5, none⟩ = some (.slice kp1 kn1 kc1) ∧ w''.cell? ⟨b1, o1 + j * 9 + 6, none⟩ = some (.bool nn.hasS) ∧ w''.cell? ⟨b1, o1 + j * 9 + 7, none⟩ = some (.slice sp1 sn1 sc1) ∧ w''.cell? ⟨b1, o1 + j * 9 + 8, none⟩ = some (.bool nn.inS) ∧ w''.cell? ⟨b2, o2 + j * 9, none⟩ = some (.bool nn.live) ∧ w''.cell? ⟨b2, o2 + j * 9 + 1, none⟩ = some (.string nn.tag) ∧ w''.cell? ⟨b2, o2 + j * 9 + 2, none⟩ = some (.string nn.text) ∧ w''.cell? ⟨b2, o2 + j * 9 + 3, none⟩ = some (.slice ap2 nn.attrs.length ac2) ∧ w''.cell? ⟨b2, o2 + j * 9 + 4, none⟩ = some (.int .i64 nn.up) ∧ w''.cell? ⟨b2, o2 + j * 9 + 5, none⟩ = some (.slice kp2 kn2 kc2) ∧ w''.cell? ⟨b2, o2 + j * 9 + 6, none⟩ = some (.bool nn.hasS) ∧ w''.cell? ⟨b2, o2 + j * 9 + 7, none⟩ = some (.slice sp2 sn2 sc2) ∧ w''.cell? ⟨b2, o2 + j * 9 + 8, none⟩ = some (.bool nn.inS)) w'' := fun w'' hk => ⟨hk _ _ x0, hk _ _ x1, hk _ _ x2, hk _ _ x3, hk _ _ x4, hk _ _ x5, hk _ _ x6, hk _ _ x7, hk _ _ x8, hk _ _ y0, hk _ _ y1, hk _ _ y2, hk _ _ y3, hk _ _ y4, hk _ _ y5, hk _ _ y6, hk _ _ y7, hk _ _ y8⟩
      go_region_held3 (fun w'' => w''.cell? ⟨b1, o1 + j * 9, none⟩ = some (.bool nn.live) ∧ w''.cell? ⟨b1, o1 + j * 9 + 1, none⟩ = some (.string nn.tag) ∧ w''.cell? ⟨b1, o1 + j * 9 + 2, none⟩ = some (.string nn.text) ∧ w''.cell? ⟨b1, o1 + j * 9 + 3, none⟩ = some (.slice ap1 nn.attrs.length ac1) ∧ w''.cell? ⟨b1, o1 + j * 9 + 4, none⟩ = some (.int .i64 nn.up) ∧ w''.cell? ⟨b1, o1 + j * 9 + 5, none⟩ = some (.slice kp1 kn1 kc1) ∧ w''.cell? ⟨b1, o1 + j * 9 + 6, none⟩ = some (.bool nn.hasS) ∧ w''.cell? ⟨b1, o1 + j * 9 + 7, none⟩ = some (.slice sp1 sn1 sc1) ∧ w''.cell? ⟨b1, o1 + j * 9 + 8, none⟩ = some (.bool nn.inS) ∧ w''.cell? ⟨b2, o2 + j * 9, none⟩ = some (.bool nn.live) ∧ w''.cell? ⟨b2, o2 + j * 9 + 1, none⟩ = some (.string nn.tag) ∧ w''.cell? ⟨b2, o2 + j * 9 + 2, none⟩ = some (.string nn.text) ∧ w''.cell? ⟨b2, o2 + j * 9 + 3, none⟩ = some (.slice ap2 nn.attrs.length ac2) ∧ w''.cell? ⟨b2, o2 + j * 9 + 4, none⟩ = some (.int .i64 nn.up) ∧ w''.cell? ⟨b2, o2 + j * 9 + 5, none⟩ = some (.slice kp2 kn2 kc2) ∧ w''.cell? ⟨b2, o2 + j * 9 + 6, none⟩ = some (.bool nn.hasS) ∧ w''.cell? ⟨b2, o2 + j * 9 + 7, none⟩ = some (.slice sp2 sn2 sc2) ∧ w''.cell? ⟨b2, o2 + j * 9 + 8, none⟩ = some (.bool nn.inS))
        ((apply SS; repeat (first | exact Keeps.refl _ | apply keeps_drew | apply keeps_alloc')))
        (fail)
      · have bX : BoxAt ((wr.alloc (.cells (Raw.cells (⟨nn.live, nn.tag, nn.text, ⟨ap1, nn.attrs.length, ac1⟩, nn.up, ⟨kp1, kn1, kc1⟩, nn.hasS, ⟨sp1, sn1, sc1⟩, nn.inS⟩ : Raw)).toArray 56)).alloc (.cells (Raw.cells (⟨nn.live, nn.tag, nn.text, ⟨ap2, nn.attrs.length, ac2⟩, nn.up, ⟨kp2, kn2, kc2⟩, nn.hasS, ⟨sp2, sn2, sc2⟩, nn.inS⟩ : Raw)).toArray 56)).drew wr.heap.size (⟨nn.live, nn.tag, nn.text, ⟨ap1, nn.attrs.length, ac1⟩, nn.up, ⟨kp1, kn1, kc1⟩, nn.hasS, ⟨sp1, sn1, sc1⟩, nn.inS⟩ : Raw) := (box_new wr (⟨nn.live, nn.tag, nn.text, ⟨ap1, nn.attrs.length, ac1⟩, nn.up, ⟨kp1, kn1, kc1⟩, nn.hasS, ⟨sp1, sn1, sc1⟩, nn.inS⟩ : Raw) 56).keeps (keeps_drew (keeps_alloc _ _))
        have bY : BoxAt ((wr.alloc (.cells (Raw.cells (⟨nn.live, nn.tag, nn.text, ⟨ap1, nn.attrs.length, ac1⟩, nn.up, ⟨kp1, kn1, kc1⟩, nn.hasS, ⟨sp1, sn1, sc1⟩, nn.inS⟩ : Raw)).toArray 56)).alloc (.cells (Raw.cells (⟨nn.live, nn.tag, nn.text, ⟨ap2, nn.attrs.length, ac2⟩, nn.up, ⟨kp2, kn2, kc2⟩, nn.hasS, ⟨sp2, sn2, sc2⟩, nn.inS⟩ : Raw)).toArray 56)).drew (wr.heap.size + 1) (⟨nn.live, nn.tag, nn.text, ⟨ap2, nn.attrs.length, ac2⟩, nn.up, ⟨kp2, kn2, kc2⟩, nn.hasS, ⟨sp2, sn2, sc2⟩, nn.inS⟩ : Raw) := by
          have h := (box_new (wr.alloc (.cells (Raw.cells (⟨nn.live, nn.tag, nn.text, ⟨ap1, nn.attrs.length, ac1⟩, nn.up, ⟨kp1, kn1, kc1⟩, nn.hasS, ⟨sp1, sn1, sc1⟩, nn.inS⟩ : Raw)).toArray 56)) (⟨nn.live, nn.tag, nn.text, ⟨ap2, nn.attrs.length, ac2⟩, nn.up, ⟨kp2, kn2, kc2⟩, nn.hasS, ⟨sp2, sn2, sc2⟩, nn.inS⟩ : Raw) 56).keeps (keeps_drew (Keeps.refl _))
          rw [show (wr.alloc (.cells (Raw.cells (⟨nn.live, nn.tag, nn.text, ⟨ap1, nn.attrs.length, ac1⟩, nn.up, ⟨kp1, kn1, kc1⟩, nn.hasS, ⟨sp1, sn1, sc1⟩, nn.inS⟩ : Raw)).toArray 56)).heap.size = wr.heap.size + 1 by simp] at h
          exact h
        have KQ : Keeps wr ((wr.alloc (.cells (Raw.cells (⟨nn.live, nn.tag, nn.text, ⟨ap1, nn.attrs.length, ac1⟩, nn.up, ⟨kp1, kn1, kc1⟩, nn.hasS, ⟨sp1, sn1, sc1⟩, nn.inS⟩ : Raw)).toArray 56)).alloc (.cells (Raw.cells (⟨nn.live, nn.tag, nn.text, ⟨ap2, nn.attrs.length, ac2⟩, nn.up, ⟨kp2, kn2, kc2⟩, nn.hasS, ⟨sp2, sn2, sc2⟩, nn.inS⟩ : Raw)).toArray 56)).drew := keeps_drew (keeps_alloc' _ (keeps_alloc _ _))
        have BQ : Below w.heap.size w ((wr.alloc (.cells (Raw.cells (⟨nn.live, nn.tag, nn.text, ⟨ap1, nn.attrs.length, ac1⟩, nn.up, ⟨kp1, kn1, kc1⟩, nn.hasS, ⟨sp1, sn1, sc1⟩, nn.inS⟩ : Raw)).toArray 56)).alloc (.cells (Raw.cells (⟨nn.live, nn.tag, nn.text, ⟨ap2, nn.attrs.length, ac2⟩, nn.up, ⟨kp2, kn2, kc2⟩, nn.hasS, ⟨sp2, sn2, sc2⟩, nn.inS⟩ : Raw)).toArray 56)).drew := ((hnx.alloc hbz _).alloc (by simp; omega) _).drew
        simp only [Raw.cells] at bX bY KQ BQ
        generalize hWQ : (World.alloc _ _).drew = W at bX bY KQ BQ ⊢
        generalize wr.heap.size + 1 = Y at *
        generalize wr.heap.size = X at *
        clear x0 x1 x2 x3 x4 x5 x6 x7 x8 y0 y1 y2 y3 y4 y5 y6 y7 y8 SS
        have K1 := K1.keeps KQ
        have K2 := K2.keeps KQ
        have S1 := S1.keeps KQ
        have S2 := S2.keeps KQ
        have A1 := A1.keeps KQ
        have A2 := A2.keeps KQ
        clear KQ hWQ hnx hbz
        have CX := bX
        have CY := bY
        obtain ⟨e0, e1, e2, e3, e4, e5, e6, e7, e8⟩ := bX
        obtain ⟨g0, g1, g2, g3, g4, g5, g6, g7, g8⟩ := bY
        simp only at e0 e1 e2 e3 e4 e5 e6 e7 e8 g0 g1 g2 g3 g4 g5 g6 g7 g8
        have q1 : (nn.tag.toList == nn.tag.toList) = true := by simp
        have q2 : (nn.text.toList == nn.text.toList) = true := by simp
        have q3 : (nn.up == nn.up) = true := by simp
        have AX : Hid (AttrsAt W (.slice ap1 nn.attrs.length ac1) nn.attrs) := A1
        have AY : Hid (AttrsAt W (.slice ap2 nn.attrs.length ac2) nn.attrs) := A2
        clear A1 A2
        go_wp2_with (first
          | (go_at_call_of 34 kc1; refine (rsameints_true K1 K2).mono ?_; rintro e w5 ⟨rfl, hb5⟩; have J5 := keeps_below hb5 (Nat.le_refl _); have e75 := J5 _ _ e7; have g75 := J5 _ _ g7; have e35 := J5 _ _ e3; have g35 := J5 _ _ g3; have S15 := S1.keeps J5; have S25 := S2.keeps J5)
          | (go_at_call_of 34 sc1; refine (rsameints_true S15 S25).mono ?_; rintro e w6 ⟨rfl, hb6⟩; have J6 := J5.trans (keeps_below hb6 (Nat.le_refl _)); have e36 := J6 _ _ e3; have g36 := J6 _ _ g3; have B6 := (BQ.trans (hb5.mono BQ.size)).trans (hb6.mono (Nat.le_trans BQ.size hb5.size)); have AX6 : Hid (AttrsAt w6 (.slice ap1 nn.attrs.length ac1) nn.attrs) := AX.out.keeps J6; have AY6 : Hid (AttrsAt w6 (.slice ap2 nn.attrs.length ac2) nn.attrs) := AY.out.keeps J6))
        obtain ⟨_, _, he1, hx1, hx2, _, at1⟩ := AX6.out.at
        cases he1
        obtain ⟨_, _, he2, hy1, hy2, _, at2⟩ := AY6.out.at
        cases he2
        have T1 : Hid (∀ i (hi : i < nn.attrs.length), ∃ b o, ap1 = some ⟨b, o, none⟩ ∧ w6.cell? ⟨b, o + i * 2, none⟩ = some (.string nn.attrs[i].1) ∧ w6.cell? ⟨b, o + i * 2 + 1, none⟩ = some (.string nn.attrs[i].2)) := at1
        have T2 : Hid (∀ i (hi : i < nn.attrs.length), ∃ b o, ap2 = some ⟨b, o, none⟩ ∧ w6.cell? ⟨b, o + i * 2, none⟩ = some (.string nn.attrs[i].1) ∧ w6.cell? ⟨b, o + i * 2 + 1, none⟩ = some (.string nn.attrs[i].2)) := at2
        clear at1 at2 AX6 AY6 AX AY J5 J6 hb5 hb6 e75 g75 e35 g35 S15 S25 K1 K2 S1 S2 BQ CX CY e0 e1 e2 e3 e4 e5 e6 e7 e8 g0 g1 g2 g3 g4 g5 g6 g7 g8 q1 q2 q3
        go_loopw [95] (fun iv wq => ∃ i : Nat, i ≤ nn.attrs.length ∧ iv = .int .i64 i ∧ Below w6.heap.size w6 wq) (fun i _ => nn.attrs.length - (intOf i).toNat)
        case atStart => exact ⟨0, Nat.zero_le _, rfl, Below.refl _ _⟩
        case round =>
          obtain ⟨i, hi, rfl, hq6⟩ := hrel
          have J7 := keeps_below hq6 (Nat.le_refl _)
          have e37 := J7 _ _ e36
          have g37 := J7 _ _ g36
          by_cases hil : i < nn.attrs.length
          · obtain ⟨f1, p1, rfl, k1, k2⟩ := T1.out i hil
            obtain ⟨f2, p2, rfl, k3, k4⟩ := T2.out i hil
            have z1 := J7 _ _ k1
            have z2 := J7 _ _ k2
            have z3 := J7 _ _ k3
            have z4 := J7 _ _ k4
            clear k1 k2 k3 k4
            generalize nn.attrs[i] = at0 at *
            obtain ⟨nm, vl⟩ := at0
            simp only at z1 z2 z3 z4
            have hne := fun W => attr_neq W nm vl
            have hgd := attr_guard
            have hii : (i : Int) < (nn.attrs.length : Int) := by omega
            go_wp2_with fail
            go_quiet (fail)
            go_wp2_with fail
            go_roundw
            case rel => exact ⟨i + 1, by omega, by go_num, hq6.trans ⟨rfl, rfl, rfl, Nat.le_refl _, fun _ _ => rfl⟩⟩
            case measure => simp [intOf]; omega
          · obtain rfl : i = nn.attrs.length := by omega
            go_wp2_with fail
            go_roundw
            case rel => exact ⟨j + 1, by omega, by go_num, B6.trans (hq6.mono B6.size)⟩
            case measure => simp [intOf]; omega
      · have bY : BoxAt ((wr.alloc (.cells (Raw.cells (⟨nn.live, nn.tag, nn.text, ⟨ap2, nn.attrs.length, ac2⟩, nn.up, ⟨kp2, kn2, kc2⟩, nn.hasS, ⟨sp2, sn2, sc2⟩, nn.inS⟩ : Raw)).toArray 56)).alloc (.cells (Raw.cells (⟨nn.live, nn.tag, nn.text, ⟨ap1, nn.attrs.length, ac1⟩, nn.up, ⟨kp1, kn1, kc1⟩, nn.hasS, ⟨sp1, sn1, sc1⟩, nn.inS⟩ : Raw)).toArray 56)).drew wr.heap.size (⟨nn.live, nn.tag, nn.text, ⟨ap2, nn.attrs.length, ac2⟩, nn.up, ⟨kp2, kn2, kc2⟩, nn.hasS, ⟨sp2, sn2, sc2⟩, nn.inS⟩ : Raw) := (box_new wr (⟨nn.live, nn.tag, nn.text, ⟨ap2, nn.attrs.length, ac2⟩, nn.up, ⟨kp2, kn2, kc2⟩, nn.hasS, ⟨sp2, sn2, sc2⟩, nn.inS⟩ : Raw) 56).keeps (keeps_drew (keeps_alloc _ _))
        have bX : BoxAt ((wr.alloc (.cells (Raw.cells (⟨nn.live, nn.tag, nn.text, ⟨ap2, nn.attrs.length, ac2⟩, nn.up, ⟨kp2, kn2, kc2⟩, nn.hasS, ⟨sp2, sn2, sc2⟩, nn.inS⟩ : Raw)).toArray 56)).alloc (.cells (Raw.cells (⟨nn.live, nn.tag, nn.text, ⟨ap1, nn.attrs.length, ac1⟩, nn.up, ⟨kp1, kn1, kc1⟩, nn.hasS, ⟨sp1, sn1, sc1⟩, nn.inS⟩ : Raw)).toArray 56)).drew (wr.heap.size + 1) (⟨nn.live, nn.tag, nn.text, ⟨ap1, nn.attrs.length, ac1⟩, nn.up, ⟨kp1, kn1, kc1⟩, nn.hasS, ⟨sp1, sn1, sc1⟩, nn.inS⟩ : Raw) := by
          have h := (box_new (wr.alloc (.cells (Raw.cells (⟨nn.live, nn.tag, nn.text, ⟨ap2, nn.attrs.length, ac2⟩, nn.up, ⟨kp2, kn2, kc2⟩, nn.hasS, ⟨sp2, sn2, sc2⟩, nn.inS⟩ : Raw)).toArray 56)) (⟨nn.live, nn.tag, nn.text, ⟨ap1, nn.attrs.length, ac1⟩, nn.up, ⟨kp1, kn1, kc1⟩, nn.hasS, ⟨sp1, sn1, sc1⟩, nn.inS⟩ : Raw) 56).keeps (keeps_drew (Keeps.refl _))
          rw [show (wr.alloc (.cells (Raw.cells (⟨nn.live, nn.tag, nn.text, ⟨ap2, nn.attrs.length, ac2⟩, nn.up, ⟨kp2, kn2, kc2⟩, nn.hasS, ⟨sp2, sn2, sc2⟩, nn.inS⟩ : Raw)).toArray 56)).heap.size = wr.heap.size + 1 by simp] at h
          exact h
        have KQ : Keeps wr ((wr.alloc (.cells (Raw.cells (⟨nn.live, nn.tag, nn.text, ⟨ap2, nn.attrs.length, ac2⟩, nn.up, ⟨kp2, kn2, kc2⟩, nn.hasS, ⟨sp2, sn2, sc2⟩, nn.inS⟩ : Raw)).toArray 56)).alloc (.cells (Raw.cells (⟨nn.live, nn.tag, nn.text, ⟨ap1, nn.attrs.length, ac1⟩, nn.up, ⟨kp1, kn1, kc1⟩, nn.hasS, ⟨sp1, sn1, sc1⟩, nn.inS⟩ : Raw)).toArray 56)).drew := keeps_drew (keeps_alloc' _ (keeps_alloc _ _))
        have BQ : Below w.heap.size w ((wr.alloc (.cells (Raw.cells (⟨nn.live, nn.tag, nn.text, ⟨ap2, nn.attrs.length, ac2⟩, nn.up, ⟨kp2, kn2, kc2⟩, nn.hasS, ⟨sp2, sn2, sc2⟩, nn.inS⟩ : Raw)).toArray 56)).alloc (.cells (Raw.cells (⟨nn.live, nn.tag, nn.text, ⟨ap1, nn.attrs.length, ac1⟩, nn.up, ⟨kp1, kn1, kc1⟩, nn.hasS, ⟨sp1, sn1, sc1⟩, nn.inS⟩ : Raw)).toArray 56)).drew := ((hnx.alloc hbz _).alloc (by simp; omega) _).drew
        simp only [Raw.cells] at bX bY KQ BQ
        generalize hWQ : (World.alloc _ _).drew = W at bX bY KQ BQ ⊢
        generalize wr.heap.size + 1 = X at *
        generalize wr.heap.size = Y at *
        clear x0 x1 x2 x3 x4 x5 x6 x7 x8 y0 y1 y2 y3 y4 y5 y6 y7 y8 SS
        have K1 := K1.keeps KQ
        have K2 := K2.keeps KQ
        have S1 := S1.keeps KQ
        have S2 := S2.keeps KQ
        have A1 := A1.keeps KQ
        have A2 := A2.keeps KQ
        clear KQ hWQ hnx hbz
        have CX := bX
        have CY := bY
        obtain ⟨e0, e1, e2, e3, e4, e5, e6, e7, e8⟩ := bX
        obtain ⟨g0, g1, g2, g3, g4, g5, g6, g7, g8⟩ := bY
        simp only at e0 e1 e2 e3 e4 e5 e6 e7 e8 g0 g1 g2 g3 g4 g5 g6 g7 g8
        have q1 : (nn.tag.toList == nn.tag.toList) = true := by simp
        have q2 : (nn.text.toList == nn.text.toList) = true := by simp
        have q3 : (nn.up == nn.up) = true := by simp
        have AX : Hid (AttrsAt W (.slice ap1 nn.attrs.length ac1) nn.attrs) := A1
        have AY : Hid (AttrsAt W (.slice ap2 nn.attrs.length ac2) nn.attrs) := A2
        clear A1 A2
        go_wp2_with (first
          | (go_at_call_of 34 kc1; refine (rsameints_true K1 K2).mono ?_; rintro e w5 ⟨rfl, hb5⟩; have J5 := keeps_below hb5 (Nat.le_refl _); have e75 := J5 _ _ e7; have g75 := J5 _ _ g7; have e35 := J5 _ _ e3; have g35 := J5 _ _ g3; have S15 := S1.keeps J5; have S25 := S2.keeps J5)
          | (go_at_call_of 34 sc1; refine (rsameints_true S15 S25).mono ?_; rintro e w6 ⟨rfl, hb6⟩; have J6 := J5.trans (keeps_below hb6 (Nat.le_refl _)); have e36 := J6 _ _ e3; have g36 := J6 _ _ g3; have B6 := (BQ.trans (hb5.mono BQ.size)).trans (hb6.mono (Nat.le_trans BQ.size hb5.size)); have AX6 : Hid (AttrsAt w6 (.slice ap1 nn.attrs.length ac1) nn.attrs) := AX.out.keeps J6; have AY6 : Hid (AttrsAt w6 (.slice ap2 nn.attrs.length ac2) nn.attrs) := AY.out.keeps J6))
        obtain ⟨_, _, he1, hx1, hx2, _, at1⟩ := AX6.out.at
        cases he1
        obtain ⟨_, _, he2, hy1, hy2, _, at2⟩ := AY6.out.at
        cases he2
        have T1 : Hid (∀ i (hi : i < nn.attrs.length), ∃ b o, ap1 = some ⟨b, o, none⟩ ∧ w6.cell? ⟨b, o + i * 2, none⟩ = some (.string nn.attrs[i].1) ∧ w6.cell? ⟨b, o + i * 2 + 1, none⟩ = some (.string nn.attrs[i].2)) := at1
        have T2 : Hid (∀ i (hi : i < nn.attrs.length), ∃ b o, ap2 = some ⟨b, o, none⟩ ∧ w6.cell? ⟨b, o + i * 2, none⟩ = some (.string nn.attrs[i].1) ∧ w6.cell? ⟨b, o + i * 2 + 1, none⟩ = some (.string nn.attrs[i].2)) := at2
        clear at1 at2 AX6 AY6 AX AY J5 J6 hb5 hb6 e75 g75 e35 g35 S15 S25 K1 K2 S1 S2 BQ CX CY e0 e1 e2 e3 e4 e5 e6 e7 e8 g0 g1 g2 g3 g4 g5 g6 g7 g8 q1 q2 q3
        go_loopw [95] (fun iv wq => ∃ i : Nat, i ≤ nn.attrs.length ∧ iv = .int .i64 i ∧ Below w6.heap.size w6 wq) (fun i _ => nn.attrs.length - (intOf i).toNat)
        case atStart => exact ⟨0, Nat.zero_le _, rfl, Below.refl _ _⟩
        case round =>
          obtain ⟨i, hi, rfl, hq6⟩ := hrel
          have J7 := keeps_below hq6 (Nat.le_refl _)
          have e37 := J7 _ _ e36
          have g37 := J7 _ _ g36
          by_cases hil : i < nn.attrs.length
          · obtain ⟨f1, p1, rfl, k1, k2⟩ := T1.out i hil
            obtain ⟨f2, p2, rfl, k3, k4⟩ := T2.out i hil
            have z1 := J7 _ _ k1
            have z2 := J7 _ _ k2
            have z3 := J7 _ _ k3
            have z4 := J7 _ _ k4
            clear k1 k2 k3 k4
            generalize nn.attrs[i] = at0 at *
            obtain ⟨nm, vl⟩ := at0
            simp only at z1 z2 z3 z4
            have hne := fun W => attr_neq W nm vl
            have hgd := attr_guard
            have hii : (i : Int) < (nn.attrs.length : Int) := by omega
            go_wp2_with fail
            go_quiet (fail)
            go_wp2_with fail
            go_roundw
            case rel => exact ⟨i + 1, by omega, by go_num, hq6.trans ⟨rfl, rfl, rfl, Nat.le_refl _, fun _ _ => rfl⟩⟩
            case measure => simp [intOf]; omega
          · obtain rfl : i = nn.attrs.length := by omega
            go_wp2_with fail
            go_roundw
            case rel => exact ⟨j + 1, by omega, by go_num, B6.trans (hq6.mono B6.size)⟩
            case measure => simp [intOf]; omega
    · obtain rfl : j = d.length := by omega
      go_wp2_with fail
      go_ret
      exact ⟨rfl, hnx⟩
end Go.Proofs.Ytookcjdibpccpaa

/-
  THE WALKS of the reference's All where there is no node, and Find; of dom.All where there is no node; of Same at two documents that are nil.
-/
namespace Go.Proofs.Ytookcjdibpccpaa
open Go.RowKit

set_option maxHeartbeats 800000 in
theorem rall_no {w : World} {b o c : Nat} {rs : List Raw} {d : Tn.Dc} (hd : DocAt w b o c rs d) (n : Int) (hn : Tn.isN d n false = false) :
    Calls Try.prog 36 #[.slice (some ⟨b, o, none⟩) rs.length c, .int .i64 n] w fun e w' => e = .returned (.slice none 0 0) ∧ w' = w := by
  have H : Hid (DocAt w b o c rs d) := hd
  clear hd
  go_enter Try.func36, Try.ntmps36
  go_wp2_with (go_at_call 27; refine (ris_any H.out _ _).mono ?_; rintro e w' ⟨rfl, hww⟩; subst hww; rw [hn])
  go_ret
  exact ⟨rfl, rfl⟩

set_option maxHeartbeats 800000 in
theorem rsame_nil {w : World} : Calls Try.prog 23 #[.slice none 0 0, .slice none 0 0] w fun e w' => e = .returned (.bool true) ∧ w' = w := by
  go_enter Try.func23, Try.ntmps23
  go_wp2_with fail
  refine wp_loop_rounds 1 ?_
  rw [rounds_succ]
  go_wp2_with fail
  go_ret
  exact ⟨rfl, rfl⟩

set_option maxHeartbeats 800000 in
theorem dall1_no {w : World} {b o c D A K X : Nat} {rs : List Raw} {d : Tn.Dc} (hd : DocAt w b o c rs d) (n : Int) (hn : Tn.isN d n false = false) (hD : w.cell? ⟨D, 0, none⟩ = some (.slice (some ⟨b, o, none⟩) rs.length c)) (hX : w.cell? ⟨X, 0, none⟩ = some (.int .i64 n)) :
    Calls Try.prog 54 #[.slice (some ⟨X, 0, none⟩) 1 1, .pointer (some ⟨D, 0, none⟩), .pointer (some ⟨A, 0, none⟩), .pointer (some ⟨K, 0, none⟩)] w fun e w' => e = .returned (.tuple #[]) ∧ w' = w := by
  have H : Hid (DocAt w b o c rs d) := hd
  clear hd
  go_enter Try.func54, Try.ntmps54
  go_wp2_with fail
  refine wp_loop_rounds 2 ?_
  rw [rounds_succ]
  go_wp2_with (go_at_call 26; refine (dis_any H.out _ _).mono ?_; rintro e w' ⟨rfl, hww⟩; subst hww; rw [hn])
  rw [rounds_succ]
  go_wp2_with fail
  go_end0
  exact ⟨rfl, rfl⟩
set_option maxHeartbeats 1600000 in
set_option maxRecDepth 100000 in
theorem dall_no {w : World} {b o c : Nat} {rs : List Raw} {d : Tn.Dc} (hd : DocAt w b o c rs d) (n : Int) (hn : Tn.isN d n false = false) :
    Calls Try.prog 35 #[.slice (some ⟨b, o, none⟩) rs.length c, .int .i64 n] w fun e w' => e = .returned (.slice none 0 0) ∧ Below w.heap.size w w' := by
  have hst : ∀ (W : World) (a : Addr) (fn : Fn) (x y : Array Value), Sem.run Try.prog (store a (.func fn x y)) W = stored Try.prog W a (.func fn x y) .plain := fun W a fn x y => run_store Try.prog W a (.func fn x y) .plain rfl
  obtain ⟨WW, hWW⟩ : ∃ WW : World, WW = ((((w.alloc (.cells #[.slice (some ⟨b, o, none⟩) rs.length c] 34)).alloc (.cells #[.slice none 0 0] 44)).alloc (.cells #[.func (.func 54) #[] #[.pointer (some ⟨w.heap.size, 0, none⟩), .pointer (some ⟨w.heap.size + 1, 0, none⟩), .pointer (some ⟨w.heap.size + 1 + 1, 0, none⟩)]] 67)).alloc (.cells #[.int .i64 n] 3)) := ⟨_, rfl⟩
  have hB : Below w.heap.size w WW := by
    rw [hWW]
    exact ((((Below.refl w.heap.size w).alloc (Nat.le_refl _) _).alloc (by simp) _).alloc (by simp; omega) _).alloc (by simp; omega) _
  have hC : Calls Try.prog 54 #[.slice (some ⟨w.heap.size + 1 + 1 + 1, 0, none⟩) 1 1, .pointer (some ⟨w.heap.size, 0, none⟩), .pointer (some ⟨w.heap.size + 1, 0, none⟩), .pointer (some ⟨w.heap.size + 1 + 1, 0, none⟩)] WW fun e w' => e = .returned (.tuple #[]) ∧ Below w.heap.size w w' ∧ w'.cell? ⟨w.heap.size + 1, 0, none⟩ = some (.slice none 0 0) := by
    have hd4 := hd.keeps (keeps_below hB (Nat.le_refl _))
    have q : WW.heap[w.heap.size]? = some (.cells #[.slice (some ⟨b, o, none⟩) rs.length c] 34 (0, 0)) ∧ WW.heap[w.heap.size + 1]? = some (.cells #[.slice none 0 0] 44 (0, 0)) ∧ WW.heap[w.heap.size + 1 + 1 + 1]? = some (.cells #[.int .i64 n] 3 (0, 0)) := by
      rw [hWW]
      clear hWW hB hd4 hst hd hn
      have z1 : (w.alloc (.cells #[.slice (some ⟨b, o, none⟩) rs.length c] 34)).heap.size = w.heap.size + 1 := by simp
      have b1 := heap_alloc_new w (.cells #[.slice (some ⟨b, o, none⟩) rs.length c] 34)
      generalize w.alloc (.cells #[.slice (some ⟨b, o, none⟩) rs.length c] 34) = w1 at *
      have z2 : (w1.alloc (.cells #[.slice none 0 0] 44)).heap.size = w.heap.size + 1 + 1 := by simp [z1]
      have b2 := blk_new w1 (.cells #[.slice none 0 0] 44) z1
      have b12 := blk_alloc b1 (.cells #[.slice none 0 0] 44)
      generalize w1.alloc (.cells #[.slice none 0 0] 44) = w2 at *
      generalize (Obj.cells #[.func (.func 54) #[] #[.pointer (some ⟨w.heap.size, 0, none⟩), .pointer (some ⟨w.heap.size + 1, 0, none⟩), .pointer (some ⟨w.heap.size + 1 + 1, 0, none⟩)]] 67) = o3
      have z3 : (w2.alloc o3).heap.size = w.heap.size + 1 + 1 + 1 := by simp [z2]
      have b23 := blk_alloc b2 o3
      have b13 := blk_alloc b12 o3
      generalize w2.alloc o3 = w3 at *
      exact ⟨blk_alloc b13 _, blk_alloc b23 _, blk_new w3 _ z3⟩
    refine (dall1_no (X := w.heap.size + 1 + 1 + 1) (D := w.heap.size) (A := w.heap.size + 1) (K := w.heap.size + 1 + 1) hd4 n hn ?_ ?_).mono ?_
    · simp [World.cell?, q.1]
    · simp [World.cell?, q.2.2]
    · rintro e w' ⟨e1, e2⟩
      refine ⟨e1, by rw [e2]; exact hB, ?_⟩
      rw [e2]
      simp [World.cell?, q.2.1]
  rw [hWW] at hC
  clear hd hWW hB
  go_enter Try.func35, Try.ntmps35
  go_wp2_with (go_at_call 54; refine hC.mono ?_; rintro e w9 ⟨rfl, hb9, hc9⟩)
  go_ret
  exact ⟨rfl, hb9⟩

theorem hit_eq (d : Tn.Dc) (id : ByteArray) (sc : Int) (k : Nat) (h0 : id.toList.isEmpty = false) : hitD d id sc k = (((valN d (k : Int) idT).toList == id.toList) && (scopeD d (k : Int) == sc)) := by
  have e : attrN d (k : Int) idT = idOf d k := by unfold attrN idOf; rw [Int.toNat_natCast]
  unfold hitD valN
  rw [e]
  cases idOf d k with
  | some x => rfl
  | none =>
    have e2 : (Option.getD none (⟨#[]⟩ : ByteArray)).toList = [] := by rw [ByteArray.toList_eq]; rfl
    rw [e2]
    have : (([] : List UInt8) == id.toList) = false := by
      cases hq : id.toList with
      | nil => rw [hq] at h0; cases h0
      | cons a b => rfl
    rw [this]
    rfl

theorem find_take {p : Nat → Bool} {l : List Nat} {j : Nat} (hj : j < l.length) (hp : p l[j] = true) (hn : ∀ k ∈ l.take j, p k = false) : l.find? p = some l[j] := by
  rw [List.find?_eq_some_iff_getElem]
  refine ⟨hp, j, hj, rfl, fun i hi => ?_⟩
  have := hn l[i] (List.mem_take_iff_getElem.mpr ⟨i, by omega, rfl⟩)
  simp [this]
theorem find_none {p : Nat → Bool} {l : List Nat} (hn : ∀ k ∈ l, p k = false) : l.find? p = none := by
  rw [List.find?_eq_none]
  intro x hx
  simp [hn x hx]

set_option maxHeartbeats 1600000 in
set_option maxRecDepth 100000 in
theorem rfind_any {w : World} {b o c : Nat} {rs : List Raw} {d : Tn.Dc} (hd : DocAt w b o c rs d) (hf : Fine d) (n : Int) (id : ByteArray) :
    Calls Try.prog 31 #[.slice (some ⟨b, o, none⟩) rs.length c, .int .i64 n, .string id] w fun e w' => e = .returned (.int .i64 (findD d n id)) ∧ Below w.heap.size w w' := by
  have H : Hid (DocAt w b o c rs d) := hd
  have HF : Hid (Fine d) := hf
  obtain ⟨r, hr, _⟩ := hf.good.tr
  have hlv : Tn.lvD d 0 = true := hr.1.root
  have HA := rall_own (fun f n => few_of hf.good f n) Tn.fuel 0 w hd ((tame_good hf.good).ends 0 hlv)
  have HAll : Hid (Calls Try.prog 36 #[.slice (some ⟨b, o, none⟩) rs.length c, .int .i64 0] w fun e w' => ∃ v, e = .returned v ∧ OwnI w' w.heap.size v (Tn.all Tn.fuel d 0) ∧ Below w.heap.size w w') := HA
  clear HA hd hf hr hlv
  cases he : id.toList.isEmpty with
  | true =>
    have E : Hid (findD d n id = -1) := by show _ = _; unfold findD; rw [if_pos (Or.inl he)]
    go_enter Try.func31, Try.ntmps31
    go_wp2_with fail
    go_ret
    exact ⟨by rw [E.out]; rfl, Below.refl _ _⟩
  | false =>
    cases hi : Tn.isN d n false with
    | false =>
      have E : Hid (findD d n id = -1) := by show _ = _; unfold findD; rw [if_pos (Or.inr hi)]
      go_enter Try.func31, Try.ntmps31
      go_wp2_with (go_at_call 27; refine (ris_any H.out _ _).mono ?_; rintro e w' ⟨rfl, hww⟩; subst hww; rw [hi])
      go_ret
      exact ⟨by rw [E.out]; rfl, Below.refl _ _⟩
    | true =>
      have E : Hid (findD d n id = match (Tn.all Tn.fuel d 0).find? (hitD d id (scopeD d n)) with | some k => (k : Int) | none => -1) := by
        show _ = _
        unfold findD
        rw [if_neg (by rw [he, hi]; simp)]
        cases (Tn.all Tn.fuel d 0).find? (hitD d id (scopeD d n)) <;> rfl
      have HHit : Hid (∀ k, hitD d id (scopeD d n) k = (((valN d (k : Int) idT).toList == id.toList) && (scopeD d (k : Int) == scopeD d n))) := fun k => hit_eq d id _ k he
      have HS : Hid (∀ (W : World) (k : Int), DocAt W b o c rs d → Calls Try.prog 33 #[.slice (some ⟨b, o, none⟩) rs.length c, .int .i64 k] W fun e w' => e = .returned (.int .i64 (scopeD d k)) ∧ Below W.heap.size W w') := fun W k h => rscope_any h HF.out k
      have HT : Hid (∀ (W : World) (k : Int), DocAt W b o c rs d → Calls Try.prog 38 #[.slice (some ⟨b, o, none⟩) rs.length c, .int .i64 k, .string ⟨#[105, 100]⟩] W fun e w' => e = .returned (.tuple #[.string (valN d k idT), .bool (attrN d k idT).isSome]) ∧ Below W.heap.size W w') := fun W k h => rattr_all h k idT
      generalize findD d n id = res at *
      generalize hitD d id (scopeD d n) = hit at *
      generalize Tn.all Tn.fuel d 0 = l at *
      go_enter Try.func31, Try.ntmps31
      go_wp2_with (first
        | (go_at_call 27; refine (ris_any H.out _ _).mono ?_; rintro e w' ⟨rfl, hww⟩; subst hww; rw [hi])
        | (go_at_call 36; refine HAll.out.mono ?_; rintro e w1 ⟨v, rfl, hown, hb⟩; obtain ⟨p, cc, rfl, hz1, hz2, _, hat⟩ := (ints_of_owns hown).at))
      have T : Hid (∀ j (hj : j < l.length), ∃ b o, p = some ⟨b, o, none⟩ ∧ w1.cell? ⟨b, o + j, none⟩ = some (.int .i64 (l[j] : Int))) := hat
      have D1 : Hid (DocAt w1 b o c rs d) := H.out.keeps (keeps_below hb (Nat.le_refl _))
      clear hat hown H
      have hlc : l.length ≤ 9223372036854775807 := by omega
      go_loopw [22] (fun iv wr => ∃ j : Nat, j ≤ l.length ∧ iv = .int .i64 j ∧ Hid (∀ k ∈ l.take j, hit k = false) ∧ Below w1.heap.size w1 wr) (fun i _ => l.length - (intOf i).toNat)
      case atStart => exact ⟨0, Nat.zero_le _, rfl, fun k hk => by simp at hk, Below.refl _ _⟩
      case round =>
        obtain ⟨j, hj, rfl, NO, hbr⟩ := hrel
        by_cases hlt : j < l.length
        · obtain ⟨b1, o1, rfl, k0⟩ := T.out j hlt
          have y0 := keeps_below hbr (Nat.le_refl _) _ _ k0
          have Dr : Hid (DocAt wr b o c rs d) := D1.out.keeps (keeps_below hbr (Nat.le_refl _))
          have hh := HHit.out l[j]
          have NX : Hid (hit l[j] = false → ∀ k ∈ l.take (j + 1), hit k = false) := by
            intro hf k hk
            rw [List.take_succ_eq_append_getElem hlt, List.mem_append, List.mem_singleton] at hk
            rcases hk with hk | rfl
            · exact NO.out k hk
            · exact hf
          have FX : Hid (hit l[j] = true → res = (l[j] : Int)) := by
            intro hf
            rw [E.out, find_take hlt hf NO.out]
          clear k0
          generalize hlj : l[j] = k at *
          clear hlj
          have HT1 : Hid (Calls Try.prog 38 #[.slice (some ⟨b, o, none⟩) rs.length c, .int .i64 (k : Int), .string ⟨#[105, 100]⟩] wr fun e w' => e = .returned (.tuple #[.string (valN d (k : Int) idT), .bool (attrN d (k : Int) idT).isSome]) ∧ Below wr.heap.size wr w') := HT.out wr (k : Int) Dr.out
          cases hq : ((valN d (k : Int) idT).toList == id.toList) with
          | false =>
            rw [hq] at hh
            have hf : hit k = false := hh
            generalize valN d (k : Int) idT = vv at *
            generalize (attrN d (k : Int) idT).isSome = va at *
            clear hh
            go_wp2_with fail
            refine HT1.out.mono ?_
            rintro e w2 ⟨rfl, hb2⟩
            go_wp2_with fail
            go_roundw
            case rel => exact ⟨j + 1, by omega, by go_num, NX.out hf, hbr.trans (hb2.mono hbr.size)⟩
            case measure => simp [intOf]; omega
          | true =>
            rw [hq] at hh
            have hf : hit k = (scopeD d (k : Int) == scopeD d n) := by simpa using hh
            clear hh
            generalize valN d (k : Int) idT = vv at *
            generalize (attrN d (k : Int) idT).isSome = va at *
            go_wp2_with fail
            refine HT1.out.mono ?_
            rintro e w2 ⟨rfl, hb2⟩
            have D2 : Hid (DocAt w2 b o c rs d) := Dr.out.keeps (keeps_below hb2 (Nat.le_refl _))
            go_wp2_with fail
            refine (HS.out w2 (k : Int) D2.out).mono ?_
            rintro e w3 ⟨rfl, hb3⟩
            have D3 : Hid (DocAt w3 b o c rs d) := D2.out.keeps (keeps_below hb3 (Nat.le_refl _))
            go_wp2_with fail
            refine (HS.out w3 n D3.out).mono ?_
            rintro e w4 ⟨rfl, hb4⟩
            have B2 := hbr.trans (hb2.mono hbr.size)
            have B3 := B2.trans (hb3.mono B2.size)
            have B4 : Hid (Below w1.heap.size w1 w4) := B3.trans (hb4.mono B3.size)
            clear B2 B3 hb2 hb3 hb4 hbr D2 D3 HT1
            cases hsc : (scopeD d (k : Int) == scopeD d n) with
            | true =>
              rw [hsc] at hf
              generalize scopeD d (k : Int) = s1 at *
              generalize scopeD d n = s2 at *
              have R : Hid (res = (k : Int)) := FX.out hf
              go_wp2_with fail
              go_ret
              exact ⟨by rw [R.out]; rfl, hb.trans (B4.out.mono hb.size)⟩
            | false =>
              rw [hsc] at hf
              generalize scopeD d (k : Int) = s1 at *
              generalize scopeD d n = s2 at *
              go_wp2_with fail
              go_roundw
              case rel => exact ⟨j + 1, by omega, by go_num, NX.out hf, B4.out⟩
              case measure => simp [intOf]; omega
        · obtain rfl : j = l.length := by omega
          have R : Hid (res = -1) := by
            show _ = _
            rw [E.out, find_none (fun k hk => NO.out k (by rw [List.take_length]; exact hk))]
          go_wp2_with fail
          go_ret
          exact ⟨by rw [R.out]; rfl, hb.trans (hbr.mono hb.size)⟩
end Go.Proofs.Ytookcjdibpccpaa

/-
  copy AT ELEMENTS OF ANY NUMBER OF CELLS, into a row of the call's own; what slices.Insert makes of a row.
-/
namespace Go.Proofs.Ytookcjdibpccpaa
open Go.RowKit

theorem run_copyK {P : Program} (k : Nat) (w : World) (dT sT ty elem : TypeId) (g o dLen dCap : Nat) (a : Addr) (sLen sCap : Nat) (cur : Array Value) (t : TypeId) (cs : List Value)
    (hu : P.underlying dT = some (.slice elem)) (hs : (P.info? elem).map (·.size) = some k)
    (hg : w.heap[g]? = some (.cells cur t (0, 0))) (hn : cs.length = Nat.min sLen dLen * k)
    (hsrc : ∀ j v, cs[j]? = some v → w.cell? (a.add j) = some v) (hfit : o + cs.length ≤ cur.size) (h1 : ∀ v ∈ cs, v.oneCell' = true) :
    (Builtin.copy_ #[dT, sT] ty #[.slice (some ⟨g, o, none⟩) dLen dCap, .slice (some a) sLen sCap]).run P w =
      .ok (goInt (Nat.min sLen dLen)) (w.setRow g (cur.toList.take o ++ cs ++ cur.toList.drop (o + cs.length)).toArray) := by
  have hl := run_loadCells_list (P := P) w a cs hsrc
  have hst := run_storeCells_at P g o t cs 0 cur w hg (by simpa using hfit) h1
  cases hq : P.info? elem with
  | none => simp [hq] at hs
  | some i =>
    have hi : i.size = k := by simpa [hq] using hs
    simp [Builtin.copy_, run_underlying hu, Builtin.lenOf, Builtin.firstCells, sizeOf, typeInfo, hq, hi, ← hn, hl, hst]

theorem wpList_copy_at {P : Program} (w : World) {ops : Array Oper} {rest : List Oper} {o : Oper} {a : Act} {Q : Exit → Act → World → Prop} (hgd : o.guard = none) (d s : Operand) (t t' : TypeId)
    (ho : o.op = .call { callee := .builtin .copy, args := #[d, s], argTypes := #[t, t'] }) (v u : Value) (hd : a.eval d = v) (hs : a.eval s = u) {v' : Value} {w' : World}
    (hr : (Builtin.copy_ #[t, t'] o.type #[v, u]).run P w = .ok v' w') (h : wpList P ops Q rest (a.put o.dst v') w') : wpList P ops Q (o :: rest) a w := by
  refine wpList_plain hgd fun K hK => ?_
  unfold Oper.wp execOp
  simp only [ho, resolve, invoke, builtin, Sem.run_bind, Sem.run_pure, Result.andThen_ok, List.map_toArray, List.map_cons, List.map_nil, hd, hs, hr]
  exact hK _ _ h

theorem wpList_append_at {P : Program} (w : World) {ops : Array Oper} {rest : List Oper} {o : Oper} {a : Act} {Q : Exit → Act → World → Prop} (hgd : o.guard = none) (d s : Operand) (t t' : TypeId)
    (ho : o.op = .call { callee := .builtin .append, args := #[d, s], argTypes := #[t, t'] }) (v u : Value) (hd : a.eval d = v) (hs : a.eval s = u) {v' : Value} {w' : World}
    (hr : (Builtin.append_ #[t, t'] o.type #[v, u]).run P w = .ok v' w') (h : wpList P ops Q rest (a.put o.dst v') w') : wpList P ops Q (o :: rest) a w := by
  refine wpList_plain hgd fun K hK => ?_
  unfold Oper.wp execOp
  simp only [ho, resolve, invoke, builtin, Sem.run_bind, Sem.run_pure, Result.andThen_ok, List.map_toArray, List.map_cons, List.map_nil, hd, hs, hr]
  exact hK _ _ h

theorem step_copy_at {P : Program} {ops : Array Oper} {o : Oper} {a : Act} {w : World} {K : Act → World → Prop} {Q : Exit → Act → World → Prop} {E : Prop}
    (hg : o.guard = none) (d x : Operand) (dT sT : TypeId) (hop : o.op = Op.call { callee := Callee.builtin Builtin.copy, args := #[d, x], argTypes := #[dT, sT] })
    (v u : Value) (hd : a.eval d = v) (hx : a.eval x = u) {v' : Value} {w' : World} (hr : (Builtin.copy_ #[dT, sT] o.type #[v, u]).run P w = .ok v' w') (hK : K (a.put o.dst v') w') :
    if Region.wanted o (yielded ops a.tmps) = true then Oper.wp P o a w K Q else E := by
  have hw : Region.wanted o (yielded ops a.tmps) = true := by simp [Region.wanted, hg]
  rw [if_pos hw]
  unfold Oper.wp
  simp [execOp, hop, resolve, invoke, builtin, hd, hx, hr, Result.andThen]
  exact hK

/-- the row behind a shift and a store -/
theorem ins_shift {C xs ys : List Value} {n i K : Nat} (hC : (n + 1) * K ≤ C.length) (hx : C.take (n * K) = xs) (hi : i ≤ n) (hy : ys.length = K) {A1 A2 : List Value}
    (h1 : A1 = C.take ((i + 1) * K) ++ xs.drop (i * K) ++ C.drop ((i + 1) * K + (xs.drop (i * K)).length)) (h2 : A2 = A1.take (i * K) ++ ys ++ A1.drop (i * K + ys.length)) :
    A2.length = C.length ∧ A2.take ((n + 1) * K) = xs.take (i * K) ++ ys ++ xs.drop (i * K) := by
  have e1 : (n + 1) * K = n * K + K := Nat.succ_mul n K
  have e2 : (i + 1) * K = i * K + K := Nat.succ_mul i K
  have hik : i * K ≤ n * K := Nat.mul_le_mul_right K hi
  have hxl : xs.length = n * K := by rw [← hx, List.length_take]; omega
  have hdl : (xs.drop (i * K)).length = n * K - i * K := by rw [List.length_drop, hxl]
  have a1l : A1.length = C.length := by
    rw [h1]
    simp only [List.length_append, List.length_take, List.length_drop, hxl]
    omega
  have t1 : A1.take (i * K) = xs.take (i * K) := by
    rw [h1, List.append_assoc, List.take_append_of_le_length (by rw [List.length_take]; omega), List.take_take, ← hx, List.take_take]
    congr 1
    omega
  have d1 : A1.drop (i * K + ys.length) = xs.drop (i * K) ++ C.drop ((n + 1) * K) := by
    rw [h1, List.append_assoc, List.drop_append_of_le_length (by rw [List.length_take]; omega)]
    rw [List.drop_eq_nil_of_le (by rw [List.length_take]; omega), List.nil_append]
    congr 2
    rw [hdl]
    omega
  constructor
  · rw [h2, List.length_append, List.length_append, List.length_take, List.length_drop, a1l]
    omega
  · rw [h2, t1, d1, ← List.append_assoc]
    have hlen : (xs.take (i * K) ++ ys ++ xs.drop (i * K)).length = (n + 1) * K := by
      rw [List.length_append, List.length_append, List.length_take, hdl, hxl, hy]
      omega
    rw [← hlen]
    exact List.take_left

/-- the row that is made anew, behind both stores -/
theorem ins_grow {xs ys Z : List Value} {n i K : Nat} (hxl : xs.length = n * K) (hi : i ≤ n) (hy : ys.length = K) (hZ : (n + 1) * K ≤ i * K + Z.length) {A0 A1 A2 : List Value}
    (h0 : A0 = xs.take (i * K) ++ Z) (h1 : A1 = A0.take (i * K) ++ ys ++ A0.drop (i * K + ys.length)) (h2 : A2 = A1.take ((i + 1) * K) ++ xs.drop (i * K) ++ A1.drop ((i + 1) * K + (xs.drop (i * K)).length)) :
    A2.length = A0.length ∧ A2.take ((n + 1) * K) = xs.take (i * K) ++ ys ++ xs.drop (i * K) := by
  have e1 : (n + 1) * K = n * K + K := Nat.succ_mul n K
  have e2 : (i + 1) * K = i * K + K := Nat.succ_mul i K
  have hik : i * K ≤ n * K := Nat.mul_le_mul_right K hi
  have hdl : (xs.drop (i * K)).length = n * K - i * K := by rw [List.length_drop, hxl]
  have htl : (xs.take (i * K)).length = i * K := by rw [List.length_take]; omega
  have a0l : A0.length = i * K + Z.length := by rw [h0, List.length_append, htl]
  have t0 : A0.take (i * K) = xs.take (i * K) := by
    have := List.take_left (l₁ := xs.take (i * K)) (l₂ := Z)
    rw [htl] at this
    rw [h0]
    exact this
  have a1l : A1.length = A0.length := by
    rw [h1, List.length_append, List.length_append, List.length_take, List.length_drop]
    omega
  have t1 : A1.take ((i + 1) * K) = xs.take (i * K) ++ ys := by
    have hl : (xs.take (i * K) ++ ys).length = (i + 1) * K := by rw [List.length_append, htl, hy]; omega
    rw [h1, t0, ← hl]
    exact List.take_left
  constructor
  · rw [h2]
    simp only [List.length_append, List.length_take, List.length_drop, hxl]
    omega
  · have hl : (xs.take (i * K) ++ ys ++ xs.drop (i * K)).length = (n + 1) * K := by rw [List.length_append, List.length_append, htl, hdl, hy]; omega
    rw [h2, t1, ← hl]
    exact List.take_left
end Go.Proofs.Ytookcjdibpccpaa

/-
  THE WALK of slices.Insert at []int: into a row of the call's own.
-/
namespace Go.Proofs.Ytookcjdibpccpaa
open Go.RowKit

/-- append of some elements to a row of the call's own, and where what comes of it lies -/
theorem run_append_blk {w : World} {B tS e size bytes : Nat} {i0 : TypeInfo} {z : Value} (ty : TypeId) (ht : Try.prog.underlying tS = some (.slice e)) (hi : Try.prog.info? e = some i0) (hz : i0.zero = some z) (hsize : i0.size = size) (hby : i0.bytes = bytes) (hzs : z.cells.size = size) (hsz : 0 < size) (hbb : bytes ≤ 1000)
    {v : Value} {n : Nat} {xs : List Value} (hown : w.ownsRow B e size v n xs) (hB : B ≤ w.heap.size) (a : Addr) (m c : Nat) (news : List Value) (hl : news.length = m * size) (hm : 0 < m) (hnews : ∀ j u, news[j]? = some u → w.cell? (a.add j) = some u) (h1 : ∀ u ∈ news, u.oneCell' = true) (hs : n + m ≤ 1000000) :
    ∃ v' w', (Builtin.append_ #[tS, tS] ty #[v, .slice (some a) m c]).run Try.prog w = .ok v' w' ∧ w'.ownsRow B e size v' (n + m) (xs ++ news) ∧ w.grownBy w' v.ownBlock ∧ (v'.ownBlock = v.ownBlock ∨ ∃ g, w.heap.size ≤ g ∧ v'.ownBlock = some g) := by
  have hbt : (n + m) * bytes ≤ 140737488355328 := Nat.le_trans (Nat.mul_le_mul hs hbb) (by decide)
  obtain ⟨v', w', hr, g2, g3, _⟩ := run_append_own (P := Try.prog) w B tS ty e i0 z size bytes ht hi hz hsize hby hzs hsz v n xs hown a m c news hl hnews h1 (by unfold maxLen; omega) hbt hB
  refine ⟨v', w', hr, g2, g3, ?_⟩
  subst hsize
  subst hby
  rcases hown.2 with ⟨rfl, hn0⟩ | ⟨g, cap, cur, rfl, hbg, hg, hnc, hcm, hcs, htake⟩
  · subst hn0
    have hr2 := run_append_nil (P := Try.prog) w tS ty e i0 z ht hi hz a m c news hl hnews hm (by omega) (by rw [Nat.zero_add] at hbt; omega)
    rw [hr2] at hr
    injection hr with e1 e2
    right
    refine ⟨w.heap.size, Nat.le_refl _, ?_⟩
    rw [← e1]
    rfl
  · by_cases hroom : n + m ≤ cap
    · have hr2 := run_append_room (P := Try.prog) w tS ty e i0 ht hi g n cap cur hg a m c news hl hnews h1 hroom (by rw [hl, hcs, ← Nat.add_mul]; exact Nat.mul_le_mul_right _ hroom)
      rw [hr2] at hr
      injection hr with e1 e2
      left
      rw [← e1]
      rfl
    · have hr2 := run_append_grow (P := Try.prog) w tS ty e i0 z ht hi hz ⟨g, 0, none⟩ n cap xs hown.1 (World.ownsRow.cells hown (g := g) rfl) a m c news hl hnews (by omega) (by omega) (growslice_fits (by omega) hbt)
      rw [hr2] at hr
      injection hr with e1 e2
      right
      refine ⟨w.heap.size, Nat.le_refl _, ?_⟩
      rw [← e1]
      rfl

set_option maxHeartbeats 3200000 in
set_option maxRecDepth 100000 in
theorem insI_any {w : World} {B : Nat} {v : Value} {l : List Nat} {vb x : Nat} (hown : OwnI w B v l) (hB : B ≤ w.heap.size) (hl : l.length ≤ 1000) (i : Nat) (hi : i ≤ l.length) (hvb : w.heap[vb]? = some (.cells #[.int .i64 (x : Int)] 3 (0, 0))) (hne : v.ownBlock ≠ some vb) :
    Calls Try.prog 97 #[v, .int .i64 (i : Int), .slice (some ⟨vb, 0, none⟩) 1 1] w fun e w' => ∃ v', e = .returned v' ∧ OwnI w' B v' (Tn.insertAt l i x) ∧ w.grownBy w' v.ownBlock ∧ (v'.ownBlock = v.ownBlock ∨ ∃ g, w.heap.size ≤ g ∧ v'.ownBlock = some g) := by
  obtain ⟨i0, hi0, hz0, hz1, hz2⟩ := info_parts infoI
  have hsz : (Try.prog.info? 3).map (·.size) = some 1 := by rw [hi0]; simp [hz1]
  have hnews : ∀ (j : Nat) (u : Value), ([iv x] : List Value)[j]? = some u → w.cell? ((⟨vb, 0, none⟩ : Addr).add j) = some u := by
    intro j u hu
    rw [add_at, Nat.zero_add]
    cases j with
    | zero => simp at hu; subst hu; simp [World.cell?, hvb, iv]
    | succ j => simp at hu
  have h1 : ∀ u ∈ ([iv x] : List Value), u.oneCell' = true := by intro u hu; simp at hu; subst hu; rfl
  by_cases hin : i = l.length
  · subst hin
    obtain ⟨p, c, rfl⟩ := hown.shape
    have hap : ∀ ty, ∃ v' w', (Builtin.append_ #[44, 44] ty #[.slice p l.length c, .slice (some ⟨vb, 0, none⟩) 1 1]).run Try.prog w = .ok v' w' ∧ w'.ownsRow B 3 1 v' (l.length + 1) (l.map iv ++ [iv x]) ∧ w.grownBy w' (Value.slice p l.length c).ownBlock ∧ (v'.ownBlock = (Value.slice p l.length c).ownBlock ∨ ∃ g, w.heap.size ≤ g ∧ v'.ownBlock = some g) :=
      fun ty => run_append_blk ty Try.underlying44 hi0 hz0 hz1 hz2 rfl (by decide) (by decide) hown hB ⟨vb, 0, none⟩ 1 1 [iv x] rfl (by decide) hnews h1 (by omega)
    obtain ⟨v', w', hr, ho', hg', hb'⟩ := hap 44
    have R : Hid (OwnI w' B v' (Tn.insertAt l l.length x)) := by
      show OwnI _ _ _ _
      unfold OwnI Tn.insertAt
      simpa using ho'
    have hlc : l.length ≤ c := by
      obtain ⟨_, _, he, h, _⟩ := (ints_of_owns hown).at
      cases he
      exact h
    have hcm : c ≤ 9223372036854775807 := by
      obtain ⟨_, _, he, _, h, _⟩ := (ints_of_owns hown).at
      cases he
      exact h
    clear hown hap ho' hnews h1 hvb hne
    generalize (Value.slice p l.length c).ownBlock = ob at *
    go_enter Try.func97, Try.ntmps97
    go_wp2_with (at_builtin; refine wpList_append_at _ rfl _ _ 44 44 rfl _ _ rfl rfl hr ?_)
    all_goals
      go_ret
      exact ⟨_, rfl, R.out, hg', hb'⟩
  · have hil : i < l.length := by omega
    have hxl : (l.map iv).length = l.length * 1 := by simp
    rcases hown.2 with ⟨_, h0⟩ | ⟨g, cap, cur, rfl, hBg, hg, hnc, hcm, hcs, htake⟩
    · omega
    · have hcl : cur.toList.length = cur.size := Array.length_toList
      have hgv : vb ≠ g := fun e => hne (by rw [e]; rfl)
      have hob : (Value.slice (some ⟨g, 0, none⟩) l.length cap).ownBlock = some g := rfl
      have hcm' : cap ≤ 9223372036854775807 := by unfold maxLen at hcm; omega
      have hgl : g < w.heap.size := by rw [Array.getElem?_eq_some_iff] at hg; exact hg.1
      have hone : ∀ u ∈ l.map iv, u.oneCell' = true := by
        intro u hu
        simp at hu
        obtain ⟨q, _, rfl⟩ := hu
        rfl
      have hcell : ∀ (W : World), (∀ k, k < w.heap.size → k ≠ w.heap.size → W.heap[k]? = w.heap[k]?) → ∀ j v, ((l.map iv).drop (i * 1))[j]? = some v → W.cell? ((⟨g, i, none⟩ : Addr).add j) = some v := by
        intro W hW j v hj
        have hc := World.ownsRow.cells hown (g := g) rfl (i + j) v (by rw [List.getElem?_drop, Nat.mul_one] at hj; exact hj)
        rw [add_at] at hc ⊢
        rw [Nat.zero_add] at hc
        rw [← hc]
        exact World.cell?_of_block (hW g hgl (by omega))
      rw [hob]
      by_cases hroom : l.length + 1 ≤ cap
      · obtain ⟨A1, hA1⟩ : ∃ A1 : List Value, A1 = cur.toList.take ((i + 1) * 1) ++ (l.map iv).drop (i * 1) ++ cur.toList.drop ((i + 1) * 1 + ((l.map iv).drop (i * 1)).length) := ⟨_, rfl⟩
        obtain ⟨A2, hA2⟩ : ∃ A2 : List Value, A2 = A1.take (i * 1) ++ [iv x] ++ A1.drop (i * 1 + [iv x].length) := ⟨_, rfl⟩
        obtain ⟨k1, k2⟩ := ins_shift (n := l.length) (K := 1) (ys := [iv x]) (by rw [hcl, hcs]; omega) htake (by omega) rfl hA1 hA2
        have hov : ∀ lb cb, (callFunc 104 #[.slice (some ⟨vb, 0, none⟩) 1 1, .slice (some ⟨g, i + 1, none⟩) lb cb]).run Try.prog w = .ok (.value (.bool false)) w := fun lb cb => by
          rw [run_callFunc_extern Try.func104 (by kernel_rfl) (by kernel_rfl) (by kernel_rfl) (e := Extern.SlicesOverlaps.overlaps #[44, 44] #[4]) (by kernel_rfl),
            Lib.run_overlaps_apart w 44 4 3 Try.underlying44 1 Try.sizeOf3 ⟨vb, 0, none⟩ ⟨g, i + 1, none⟩ 1 1 lb cb hgv 3 3 1 cur.size (by simp [World.shape?, hvb]) (by simp [World.shape?, hg]) (by omega) (by simp [World.frozen?, hvb]) (by simp [World.frozen?, hvb])]
          rfl
        have hcp1 : ∀ ty dc sc, (Builtin.copy_ #[44, 44] ty #[.slice (some ⟨g, i + 1, none⟩) (l.length - i) dc, .slice (some ⟨g, i, none⟩) (l.length + 1 - i) sc]).run Try.prog w.drew = .ok (goInt (Nat.min (l.length + 1 - i) (l.length - i))) (w.drew.setRow g A1.toArray) := fun ty dc sc => by
          rw [hA1]
          have := run_copyK (P := Try.prog) 1 w.drew 44 44 ty 3 g ((i + 1) * 1) (l.length - i) dc ⟨g, i, none⟩ (l.length + 1 - i) sc cur 3 ((l.map iv).drop (i * 1)) Try.underlying44 hsz hg (by show _ = (min (l.length + 1 - i) (l.length - i)) * 1; rw [List.length_drop, List.length_map]; omega) (hcell w.drew (fun _ _ _ => rfl)) (by simp; omega) (fun u hu => hone u (List.mem_of_mem_drop hu))
          rw [Nat.mul_one] at this
          rw [Nat.mul_one]
          exact this
        have hg1 : (w.drew.setRow g A1.toArray).heap[g]? = some (.cells A1.toArray 3 (0, 0)) := setRow_heap w.drew g cur _ 3 _ hg
        have a1l : A1.length = cur.size := by rw [hA1]; simp; omega
        have hcp2 : ∀ (W : World), W.heap = (w.drew.setRow g A1.toArray).heap → ∀ ty dc, (Builtin.copy_ #[44, 44] ty #[.slice (some ⟨g, i, none⟩) (l.length + 1 - i) dc, .slice (some ⟨vb, 0, none⟩) 1 1]).run Try.prog W = .ok (goInt (Nat.min 1 (l.length + 1 - i))) (W.setRow g A2.toArray) := fun W hW ty dc => by
          rw [hA2]
          have := run_copyK (P := Try.prog) 1 W 44 44 ty 3 g (i * 1) (l.length + 1 - i) dc ⟨vb, 0, none⟩ 1 1 A1.toArray 3 [iv x] Try.underlying44 hsz (by rw [hW]; exact hg1) (by show _ = (min 1 (l.length + 1 - i)) * 1; rw [List.length_singleton]; omega) (fun j u hu => by
            have := hnews j u hu
            rw [← this, add_at]
            exact World.cell?_of_block (by rw [hW]; exact setRow_other w.drew g vb _ hgv)) (by simp [a1l]; omega) h1
          rw [Nat.mul_one] at this
          rw [Nat.mul_one]
          simpa using this
        have R : ∀ W : World, W.heap = ((w.drew.setRow g A1.toArray).setRow g A2.toArray).heap → OwnI W B (.slice (some ⟨g, 0, none⟩) (l.length + 1) cap) (Tn.insertAt l i x) := by
          intro W hW
          have hil' : (Tn.insertAt l i x).length = l.length + 1 := Tn.len_insertAt
          unfold OwnI
          rw [hil']
          refine ⟨by simp [hil'], Or.inr ⟨g, cap, A2.toArray, rfl, hBg, by rw [hW]; exact setRow_heap _ g A1.toArray _ 3 _ hg1, hroom, hcm, by simp [k1, hcs], ?_⟩⟩
          show A2.take _ = _
          rw [k2]
          unfold Tn.insertAt
          simp [List.map_take, List.map_drop]
        have hgr : ∀ W : World, W.heap = ((w.drew.setRow g A1.toArray).setRow g A2.toArray).heap → W.os = w.os → W.tape = w.tape → W.output = w.output → w.grownBy W (some g) := by
          intro W hW h1 h2 h3
          refine ⟨h1, h2, h3, by rw [hW]; simp [World.setRow], fun k _ hk => ?_⟩
          rw [hW, setRow_other _ g k _ (fun e => hk (by rw [e])), setRow_other _ g k _ (fun e => hk (by rw [e]))]
          rfl
        have hb4 : ¬ (cap = i) := by omega
        have hb2 : ¬ (cap = i + 1) := by omega
        have hw1 : IntKind.i64.wrap ((i : Int) + 1) = (i : Int) + 1 := by rw [IntKind.wrap_i64]; omega
        have htn : ((i : Int) + 1).toNat = i + 1 := by omega
        have hz2' : ¬ ((i : Int) = (l.length : Int)) := by omega
        have hb1 : (0 : Int) ≤ (i : Int) + 1 := by omega
        have hb3 : (i : Int) ≤ (l.length : Int) + 1 := by omega
        clear hown hcell hone hA1 hA2 hnews h1 hne k1 k2 hg1 a1l htake hvb hob hxl hcl hg hcs
        generalize A1.toArray = R1 at *
        generalize A2.toArray = R2 at *
        have QR : Hid _ := R
        have QG : Hid _ := hgr
        clear R hgr
        have mixed : Try.prog.follows Departure.mixedOrders = true := by kernel_rfl
        go_enter Try.func97, Try.ntmps97
        go_wp2_with (simp only [hov])
        go_region_law_o (refine step_copy_at rfl _ _ 44 44 rfl _ _ (by simp [Act.eval, Act.put]) (by simp [Act.eval, Act.put]) (hcp1 _ _ _) ?_)
        go_wp2_with (at_builtin; refine wpList_copy_at _ rfl _ _ 44 44 rfl _ _ rfl rfl (hcp2 _ rfl _ _) ?_)
        go_ret
        exact ⟨_, rfl, QR.out _ rfl, QG.out _ rfl rfl rfl rfl, Or.inl rfl⟩
      · obtain ⟨G, hG⟩ : ∃ G, G = grownCap w (l.length + 1) cap 3 := ⟨_, rfl⟩
        have hGn : l.length + 1 ≤ G := by rw [hG]; exact grownCap_ge w _ _ _
        have hGm : G ≤ maxLen := by rw [hG]; exact grownCap_le_maxLen w (l.length + 1) cap 3 (by unfold maxLen; omega)
        have hG63 : G ≤ 9223372036854775807 := by unfold maxLen at hGm; omega
        obtain ⟨Z, hZ⟩ : ∃ Z : List Value, Z = (Builtin.zeroCells (Value.int .i64 0).cells (l.length + 1 - i) ++ Builtin.zeroCells (Value.int .i64 0).cells (G - (l.length + 1))).toList := ⟨_, rfl⟩
        obtain ⟨A0, hA0⟩ : ∃ A0 : List Value, A0 = (l.map iv).take (i * 1) ++ Z := ⟨_, rfl⟩
        obtain ⟨A1, hA1⟩ : ∃ A1 : List Value, A1 = A0.take (i * 1) ++ [iv x] ++ A0.drop (i * 1 + [iv x].length) := ⟨_, rfl⟩
        obtain ⟨A2, hA2⟩ : ∃ A2 : List Value, A2 = A1.take ((i + 1) * 1) ++ (l.map iv).drop (i * 1) ++ A1.drop ((i + 1) * 1 + ((l.map iv).drop (i * 1)).length) := ⟨_, rfl⟩
        have hZl : Z.length = (l.length + 1 - i) + (G - (l.length + 1)) := by rw [hZ]; simp [Builtin.zeroCells, Value.cells]
        have hA0l : A0.length = G := by rw [hA0, List.length_append, List.length_take, List.length_map, hZl]; omega
        obtain ⟨k1, k2⟩ := ins_grow (n := l.length) (K := 1) (ys := [iv x]) hxl (by omega) rfl (by rw [hZl]; omega) hA0 hA1 hA2
        have hA1l : A1.length = G := by rw [hA1]; simp; omega
        have hold : (Builtin.firstCells i0.size i (.slice (some ⟨g, 0, none⟩) i cap)).run Try.prog w.drew = .ok ((l.map iv).take i).toArray w.drew := by
          rw [hz1]
          exact run_firstCells_some w.drew 1 i ⟨g, 0, none⟩ i cap ((l.map iv).take i) (by rw [List.length_take, List.length_map]; omega) (fun j v hj => by
            rw [List.getElem?_take] at hj
            split at hj
            · exact World.ownsRow.cells hown (g := g) rfl j v hj
            · cases hj)
        have hik : i + (l.length + 1 - i) = l.length + 1 := by omega
        have hkk : (l.length : Int) + 1 - (i : Int) = ((l.length + 1 - i : Nat) : Int) := by omega
        have hrz : ∀ ty, (Builtin.append_ #[44, 3] ty #[.slice (some ⟨g, 0, none⟩) i cap, .int .i64 ((l.length : Int) + 1 - (i : Int))]).run Try.prog w = .ok (.slice (some ⟨w.heap.size, 0, none⟩) (l.length + 1) G) (w.drew.alloc (.cells A0.toArray 3)) := fun ty => by
          have h := Lib.run_append_grow_zeros w 44 3 ty 3 i0 _ .i64 .i64 Try.underlying44 Try.underlying3 hi0 hz0 (some ⟨g, 0, none⟩) i cap ((l.map iv).take i) hold (l.length + 1 - i) (by omega) (by omega) (by omega) (by omega) (by rw [hz2]; omega) (by rw [hz2, hik]; exact growslice_fits (by omega) (by omega))
          rw [hik, ← hG] at h
          rw [hkk, h, hA0, hZ, Nat.mul_one]
          congr 3
          simp
        have hN0 : (w.drew.alloc (.cells A0.toArray 3)).heap[w.heap.size]? = some (.cells A0.toArray 3 (0, 0)) := heap_alloc_new w.drew _
        have hold0 : ∀ k, k < w.heap.size → (w.drew.alloc (.cells A0.toArray 3)).heap[k]? = w.heap[k]? := fun k hk => heap_alloc_old w.drew _ hk
        have hvl : vb < w.heap.size := by rw [Array.getElem?_eq_some_iff] at hvb; exact hvb.1
        have hcp1 : ∀ (W : World), W.heap = (w.drew.alloc (.cells A0.toArray 3)).heap → ∀ ty dc, (Builtin.copy_ #[44, 44] ty #[.slice (some ⟨w.heap.size, i, none⟩) (l.length + 1 - i) dc, .slice (some ⟨vb, 0, none⟩) 1 1]).run Try.prog W = .ok (goInt (Nat.min 1 (l.length + 1 - i))) (W.setRow w.heap.size A1.toArray) := fun W hW ty dc => by
          rw [hA1]
          have := run_copyK (P := Try.prog) 1 W 44 44 ty 3 w.heap.size (i * 1) (l.length + 1 - i) dc ⟨vb, 0, none⟩ 1 1 A0.toArray 3 [iv x] Try.underlying44 hsz (by rw [hW]; exact hN0) (by show _ = (min 1 (l.length + 1 - i)) * 1; rw [List.length_singleton]; omega) (fun j u hu => by
            have := hnews j u hu
            rw [← this, add_at]
            exact World.cell?_of_block (by rw [hW]; exact hold0 vb hvl)) (by simp [hA0l]; omega) h1
          rw [Nat.mul_one] at this
          rw [Nat.mul_one]
          simpa using this
        have hcp2 : ∀ (W : World) (V : World), V.heap = (w.drew.alloc (.cells A0.toArray 3)).heap → W.heap = (V.setRow w.heap.size A1.toArray).heap → ∀ ty dc sc, (Builtin.copy_ #[44, 44] ty #[.slice (some ⟨w.heap.size, i + 1, none⟩) (l.length - i) dc, .slice (some ⟨g, i, none⟩) (l.length - i) sc]).run Try.prog W = .ok (goInt (Nat.min (l.length - i) (l.length - i))) (W.setRow w.heap.size A2.toArray) := fun W V hV hW ty dc sc => by
          rw [hA2]
          have := run_copyK (P := Try.prog) 1 W 44 44 ty 3 w.heap.size ((i + 1) * 1) (l.length - i) dc ⟨g, i, none⟩ (l.length - i) sc A1.toArray 3 ((l.map iv).drop (i * 1)) Try.underlying44 hsz (by rw [hW]; exact setRow_heap V w.heap.size A0.toArray _ 3 _ (by rw [hV]; exact hN0)) (by show _ = (min (l.length - i) (l.length - i)) * 1; rw [List.length_drop, List.length_map]; omega)
            (hcell W (fun k hk hk2 => by rw [hW, setRow_other _ _ k _ hk2, hV]; exact hold0 k hk)) (by simp [hA1l]; omega) (fun u hu => hone u (List.mem_of_mem_drop hu))
          rw [Nat.mul_one] at this
          rw [Nat.mul_one]
          simpa using this
        have R : ∀ (W U V : World), V.heap = (w.drew.alloc (.cells A0.toArray 3)).heap → U.heap = (V.setRow w.heap.size A1.toArray).heap → W.heap = (U.setRow w.heap.size A2.toArray).heap → OwnI W B (.slice (some ⟨w.heap.size, 0, none⟩) (l.length + 1) G) (Tn.insertAt l i x) := by
          intro W U V hV hU hW
          have hil' : (Tn.insertAt l i x).length = l.length + 1 := Tn.len_insertAt
          have g1 : U.heap[w.heap.size]? = some (.cells A1.toArray 3 (0, 0)) := by rw [hU]; exact setRow_heap V w.heap.size A0.toArray _ 3 _ (by rw [hV]; exact hN0)
          unfold OwnI
          rw [hil']
          refine ⟨by simp [hil'], Or.inr ⟨w.heap.size, G, A2.toArray, rfl, hB, by rw [hW]; exact setRow_heap U w.heap.size A1.toArray _ 3 _ g1, hGn, hGm, by simp [k1, hA0l], ?_⟩⟩
          show A2.take _ = _
          rw [k2]
          unfold Tn.insertAt
          simp [List.map_take, List.map_drop]
        have hgr : ∀ (W U V : World), V.heap = (w.drew.alloc (.cells A0.toArray 3)).heap → U.heap = (V.setRow w.heap.size A1.toArray).heap → W.heap = (U.setRow w.heap.size A2.toArray).heap → W.os = w.os → W.tape = w.tape → W.output = w.output → w.grownBy W (some g) := by
          intro W U V hV hU hW h1 h2 h3
          refine ⟨h1, h2, h3, by rw [hW]; simp [World.setRow, hU, hV], fun k hk _ => ?_⟩
          rw [hW, setRow_other _ _ k _ (by omega), hU, setRow_other _ _ k _ (by omega), hV]
          exact hold0 k hk
        have hb4 : ¬ (cap = i) := by omega
        have hGi : ¬ (G = i) := by omega
        have hGi1 : ¬ (G = i + 1) := by omega
        have hw1 : IntKind.i64.wrap ((i : Int) + 1) = (i : Int) + 1 := by rw [IntKind.wrap_i64]; omega
        have htn : ((i : Int) + 1).toNat = i + 1 := by omega
        have hz2' : ¬ ((i : Int) = (l.length : Int)) := by omega
        have hb1 : (0 : Int) ≤ (i : Int) + 1 := by omega
        have hb3 : (i : Int) ≤ (l.length : Int) + 1 := by omega
        have hb5 : (i : Int) ≤ (l.length : Int) := by omega
        have hgt : (cap : Int) < (l.length : Int) + 1 := by omega
        have mixed : Try.prog.follows Departure.mixedOrders = true := by kernel_rfl
        clear hown hcell hone hA0 hA1 hA2 hnews h1 hne k1 k2 htake hvb hob hxl hcl hg hcs hold hN0 hold0 hZ hZl hA0l hA1l hkk hik hG
        generalize A0.toArray = R0 at *
        generalize A1.toArray = R1 at *
        generalize A2.toArray = R2 at *
        have QR : Hid _ := R
        have QG : Hid _ := hgr
        clear R hgr
        go_enter Try.func97, Try.ntmps97
        have hcpW := hcp1 (w.alloc (.cells R0 3)).drew rfl
        have hcpV := hcp2 (((w.alloc (.cells R0 3)).drew.setRow w.heap.size R1).drew) ((w.alloc (.cells R0 3)).drew) rfl rfl
        go_wp2_with (first
          | (at_builtin; refine wpList_append_at _ rfl _ _ 44 3 rfl _ _ rfl rfl (hrz _) ?_)
          | (simp only [hcpW]))
        go_region_law_o (refine step_copy_at rfl _ _ 44 44 rfl _ _ (by simp [Act.eval, Act.put]) (by simp [Act.eval, Act.put]) (hcpV _ _ _) ?_)
        go_wp2_with fail
        go_ret
        exact ⟨_, rfl, QR.out _ (((w.alloc (.cells R0 3)).drew.setRow w.heap.size R1).drew) ((w.alloc (.cells R0 3)).drew) rfl rfl rfl, QG.out _ (((w.alloc (.cells R0 3)).drew.setRow w.heap.size R1).drew) ((w.alloc (.cells R0 3)).drew) rfl rfl rfl rfl rfl rfl, Or.inr ⟨_, Nat.le_refl _, rfl⟩⟩
end Go.Proofs.Ytookcjdibpccpaa

/-
  THE WALK of slices.Insert at []Attr, at the end of a row of the call's own.
-/
namespace Go.Proofs.Ytookcjdibpccpaa
open Go.RowKit

set_option maxHeartbeats 3200000 in
set_option maxRecDepth 100000 in
theorem insA_end {w : World} {B : Nat} {v : Value} {l : List Tn.At} {vb : Nat} {n u : ByteArray} (hown : OwnA w B v l) (hB : B ≤ w.heap.size) (hl : l.length ≤ 1000) (hvb : w.heap[vb]? = some (.cells #[.string n, .string u] 62 (0, 0))) :
    Calls Try.prog 85 #[v, .int .i64 (l.length : Int), .slice (some ⟨vb, 0, none⟩) 1 1] w fun e w' => ∃ v', e = .returned v' ∧ OwnA w' B v' (l ++ [(n, u)]) ∧ w.grownBy w' v.ownBlock ∧ (v'.ownBlock = v.ownBlock ∨ ∃ g, w.heap.size ≤ g ∧ v'.ownBlock = some g) := by
  obtain ⟨i0, hi0, hz0, hz1, hz2⟩ := info_parts infoA
  have hnews : ∀ (j : Nat) (y : Value), (av (n, u))[j]? = some y → w.cell? ((⟨vb, 0, none⟩ : Addr).add j) = some y := by
    intro j y hy
    rw [add_at, Nat.zero_add]
    match j, hy with
    | 0, hy => simp [av] at hy; subst hy; simp [World.cell?, hvb]
    | 1, hy => simp [av] at hy; subst hy; simp [World.cell?, hvb]
    | j + 2, hy => simp [av] at hy
  have h1 : ∀ y ∈ av (n, u), y.oneCell' = true := by
    intro y hy
    simp [av] at hy
    rcases hy with rfl | rfl <;> rfl
  obtain ⟨p, c, rfl⟩ := hown.shape
  obtain ⟨v', w', hr, ho', hg', hb'⟩ := run_append_blk 54 Try.underlying54 hi0 hz0 hz1 hz2 rfl (by decide) (by decide) hown hB ⟨vb, 0, none⟩ 1 1 (av (n, u)) rfl (by decide) hnews h1 (by omega)
  have R : Hid (OwnA w' B v' (l ++ [(n, u)])) := by
    show OwnA _ _ _ _
    unfold OwnA
    simpa using ho'
  have hlc : l.length ≤ c := by
    obtain ⟨_, _, he, h, _⟩ := (attrs_of_owns hown).at
    cases he
    exact h
  have hcm : c ≤ 9223372036854775807 := by
    obtain ⟨_, _, he, _, h, _⟩ := (attrs_of_owns hown).at
    cases he
    exact h
  clear hown ho' hnews h1 hvb
  generalize (Value.slice p l.length c).ownBlock = ob at *
  go_enter Try.func85, Try.ntmps85
  go_wp2_with (at_builtin; refine wpList_append_at _ rfl _ _ 54 54 rfl _ _ rfl rfl hr ?_)
  all_goals
    go_ret
    exact ⟨_, rfl, R.out, hg', hb'⟩
end Go.Proofs.Ytookcjdibpccpaa
