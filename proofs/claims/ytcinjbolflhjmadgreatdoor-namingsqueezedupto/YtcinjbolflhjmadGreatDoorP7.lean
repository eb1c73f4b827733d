/-
  OWN WORK: Vmb, Vna, Qsc, Qsl, Qgi, Qup, Qsh, Neq, Rsa, Dtx.
-/
import Derived.Test.YtcinjbolflhjmadGreatDoorP6
import Derived.Test.YtcinjbolflhjmadGreatDoorP1
import Derived.Laws.StructEq
import Derived.Deep.QuietTactic
import Derived.BigQuiet
import Derived.Deep.RegionHeld3
import Derived.Test.YtcinjbolflhjmadGreatDoorP4
/-
  PLAIN MATHEMATICS: each is in one; the first one has it.
-/
namespace Go.Proofs.YtcinjbolflhjmadGreatDoor
open Tn

/-! ### each is in one -/

theorem count_flat {g : Nat → List Nat} {x y : Nat} : ∀ (sh : List Nat), sh.Nodup → (∀ n ∈ sh, (g n).count x = if n = y then 1 else 0) → (sh.flatMap g).count x = if y ∈ sh then 1 else 0
  | [], _, _ => by simp
  | a :: sh, hn, hg => by
    rw [List.nodup_cons] at hn
    rw [List.flatMap_cons, List.count_append, count_flat sh hn.2 (fun n h => hg n (by simp [h])), hg a (by simp)]
    by_cases e : a = y
    · subst e
      simp [hn.1]
    · have : y ∈ a :: sh ↔ y ∈ sh := by
        rw [List.mem_cons]
        exact ⟨fun h => h.resolve_left (fun q => e q.symm), Or.inr⟩
      simp [e, Ne.symm e]

theorem count_zero {g : Nat → List Nat} {x : Nat} : ∀ (sh : List Nat), (∀ n ∈ sh, (g n).count x = 0) → (sh.flatMap g).count x = 0
  | [], _ => by simp
  | a :: sh, hg => by rw [List.flatMap_cons, List.count_append, count_zero sh (fun n h => hg n (by simp [h])), hg a (by simp)]

theorem count_one {l : List Nat} {x : Nat} (hn : l.Nodup) (hx : x ∈ l) : l.count x = 1 := by
  have h1 := List.nodup_iff_count.mp hn x
  have h2 := List.count_pos_iff.mpr hx
  omega

theorem inside_count {d : Dc} (h : Fine d) {l : List Cl} (hl : Forest d l) {x : Nat} (hx : x ∈ shD d) (h0 : x ≠ 0) : ∃ y ∈ shD d, ∀ n : Nat, (insideD d l (n : Int)).count x = if n = y then 1 else 0 := by
  rcases owner_cases l (x : Int) with ⟨e1, e2⟩ | ⟨o, k, e1, e2, e3⟩
  · obtain ⟨y, g1, _, g3, _⟩ := sh_up h hx h0
    refine ⟨y, g1, fun n => ?_⟩
    unfold insideD
    have hz : ((l.filter (fun c => decide ((c.1 : Int) = (n : Int)))).map (·.2)).count x = 0 := by
      rw [List.count_eq_zero]
      intro hm
      obtain ⟨c, hc, e⟩ := List.mem_map.mp hm
      exact e2 c (List.mem_filter.mp hc).1 (by rw [e])
    have hp : decide (ownerD l (x : Int) < 0) = true := by rw [e1]; decide
    rw [List.count_append, hz, Nat.add_zero]
    by_cases e : n = y
    · subst e
      rw [if_pos rfl]
      exact count_one (List.Pairwise.filter _ (kids_nodup h _)) (List.mem_filter.mpr ⟨g3, hp⟩)
    · rw [if_neg e, List.count_eq_zero]
      intro hm
      exact e (kid_one h (List.mem_filter.mp hm).1 g3)
  · obtain rfl : x = k := by omega
    refine ⟨o, (hl.own _ e2).1, fun n => ?_⟩
    unfold insideD
    have hz : ((kidsD d (n : Int)).filter (fun (k : Nat) => decide (ownerD l (k : Int) < 0))).count x = 0 := by
      rw [List.count_eq_zero]
      intro hm
      have := (List.mem_filter.mp hm).2
      rw [e3] at this
      simp at this
      omega
    rw [List.count_append, hz, Nat.zero_add]
    by_cases e : n = o
    · subst e
      rw [if_pos rfl]
      refine count_one ((List.filter_sublist.map _).nodup hl.nodup) ?_
      exact List.mem_map.mpr ⟨(n, x), List.mem_filter.mpr ⟨e2, by simp⟩, rfl⟩
    · rw [if_neg e, List.count_eq_zero]
      intro hm
      obtain ⟨c, hc, e4⟩ := List.mem_map.mp hm
      obtain ⟨h1, h2⟩ := List.mem_filter.mp hc
      have h3 : c.1 = n := by have : (c.1 : Int) = (n : Int) := by simpa using h2
                              omega
      have h4 : (n, x) ∈ l := by rw [← h3, ← e4]; exact h1
      exact e (nodup_two hl.nodup h4 e2)

theorem root_count {d : Dc} (h : Fine d) {l : List Cl} (hl : Forest d l) (n : Nat) : (insideD d l (n : Int)).count 0 = 0 := by
  rw [List.count_eq_zero]
  intro hm
  unfold insideD at hm
  rcases List.mem_append.mp hm with hm | hm
  · have := (kid_par h (List.mem_filter.mp hm).1).2.2.1
    omega
  · obtain ⟨c, hc, e⟩ := List.mem_map.mp hm
    have := (hl.own c (List.mem_filter.mp hc).1).2.2
    omega

/-- all that is in what is shown: each one but the root once -/
theorem inside_once {d : Dc} (h : Fine d) {l : List Cl} (hl : Forest d l) {x : Nat} (hx : x ∈ shD d) : ((shD d).flatMap (fun (n : Nat) => insideD d l (n : Int))).count x = if x = 0 then 0 else 1 := by
  by_cases h0 : x = 0
  · subst h0
    rw [if_pos rfl]
    exact count_zero _ (fun n _ => root_count h hl n)
  · obtain ⟨y, h1, h2⟩ := inside_count h hl hx h0
    rw [if_neg h0, count_flat (shD d) (sh_nodup h) (fun n _ => h2 n), if_pos h1]

/-! ### the first one has it -/

theorem owner_self {d : Dc} {l : List Cl} (hl : Forest d l) {o k : Nat} (hc : (o, k) ∈ l) : o ≠ k := by
  obtain ⟨r, hr⟩ := hl.rank
  obtain ⟨_, h2, h3⟩ := hl.own _ hc
  obtain ⟨y, _, g2, g3⟩ := hr k h2 (by omega)
  have e := owner_mem hl.nodup hc
  unfold inD at g2
  rw [e, if_pos (by omega)] at g2
  intro e2
  have : y = o := by omega
  subst this
  subst e2
  exact absurd g3 (Nat.lt_irrefl _)

theorem claim_pre (d : Dc) (n : Nat) (l : List Cl) (k : Int) : l <+: claim1 d n l k := by
  unfold claim1
  split
  · exact List.prefix_append _ _
  · exact List.prefix_refl _
theorem asks_pre (d : Dc) (n : Nat) : ∀ (ks : List Int) (l : List Cl), l <+: ks.foldl (claim1 d n) l
  | [], _ => List.prefix_refl _
  | k :: ks, l => (claim_pre d n l k).trans (asks_pre d n ks _)
theorem nodes_pre (d : Dc) : ∀ (ns : List Nat) (l : List Cl), l <+: ns.foldl (claimN d) l
  | [], _ => List.prefix_refl _
  | n :: ns, l => (asks_pre d n _ l).trans (nodes_pre d ns _)
theorem asks_mem (d : Dc) (n : Nat) : ∀ (ks : List Int) (l : List Cl) (c : Cl), c ∈ ks.foldl (claim1 d n) l → c ∈ l ∨ (c.1 = n ∧ (c.2 : Int) ∈ ks)
  | [], _, _, h => Or.inl h
  | k :: ks, l, c, h => by
    rcases asks_mem d n ks _ c h with h | ⟨h1, h2⟩
    · unfold claim1 at h
      split at h
      · rename_i ht
        obtain ⟨m, rfl⟩ := takes_nat ht
        rcases List.mem_append.mp h with h | h
        · exact Or.inl h
        · rw [List.mem_singleton] at h
          subst h
          exact Or.inr ⟨rfl, by simp⟩
      · exact Or.inl h
    · exact Or.inr ⟨h1, by simp [h2]⟩
theorem nodes_mem (d : Dc) : ∀ (ns : List Nat) (l : List Cl) (c : Cl), c ∈ ns.foldl (claimN d) l → c ∈ l ∨ c.1 ∈ ns
  | [], _, _, h => Or.inl h
  | n :: ns, l, c, h => by
    rcases nodes_mem d ns _ c h with h | h
    · rcases asks_mem d n _ l c h with h | ⟨h, _⟩
      · exact Or.inl h
      · exact Or.inr (by simp [h])
    · exact Or.inr (by simp [h])

theorem way_same {d : Dc} {l : List Cl} {n k : Nat} : ∀ (f : Nat) (x : Int), k ∉ wayF f d l x → wayF f d (l ++ [(n, k)]) x = wayF f d l x
  | 0, _, _ => rfl
  | f + 1, x, h => by
    rw [wayF, wayF] at *
    split
    · rename_i h0
      rw [if_pos h0] at h
      have hx : x ≠ (k : Int) := fun e => h (by rw [e]; simp)
      rw [in_app hx, way_same f _ (fun e => h (by simp [e]))]
    · rfl
theorem way_claim {d : Dc} {l : List Cl} {n : Nat} (k : Int) : wayD d (claim1 d n l k) (n : Int) = wayD d l (n : Int) := by
  unfold claim1
  split
  · rename_i ht
    unfold takes at ht
    simp at ht
    exact way_same 64 _ ht.2
  · rfl
/-- what is on the way up at one's turn is never had -/
theorem never {d : Dc} {n x : Nat} : ∀ (ks : List Int) (l : List Cl), x ∈ wayD d l (n : Int) → (n, x) ∉ l → (n, x) ∉ ks.foldl (claim1 d n) l
  | [], _, _, h => h
  | k :: ks, l, hw, h => by
    refine never ks _ (by rw [way_claim]; exact hw) ?_
    unfold claim1
    split
    · rename_i ht
      intro hm
      rcases List.mem_append.mp hm with hm | hm
      · exact h hm
      · rw [List.mem_singleton] at hm
        have e : x = k.toNat := congrArg Prod.snd hm
        unfold takes at ht
        simp at ht
        exact ht.2 (by rw [← e]; exact hw)
    · exact h

theorem owner_ext {a b c : List Cl} (hn : (c.map (·.2)).Nodup) (hb : ∀ p ∈ b, p ∈ c) (hab : ∀ p, p ∈ a ↔ p ∈ b) (x : Int) : ownerD a x = ownerD b x := by
  rcases owner_cases a x with ⟨e1, e2⟩ | ⟨o, k, e1, e2, e3⟩
  · rw [e1, owner_none (fun p hp => e2 p ((hab p).mpr hp))]
  · rcases owner_cases b x with ⟨_, f2⟩ | ⟨o', k', f1, f2, f3⟩
    · exact absurd e1.symm (f2 _ ((hab _).mp e2))
    · obtain rfl : k = k' := by omega
      rw [e3, f3, nodup_two hn (hb _ ((hab _).mp e2)) (hb _ f2)]

theorem way_ext {d : Dc} {a b : List Cl} (h : ∀ x, ownerD a x = ownerD b x) : ∀ (f : Nat) (x : Int), wayF f d a x = wayF f d b x
  | 0, _ => rfl
  | f + 1, x => by
    have e : inD d a x = inD d b x := by unfold inD; rw [h]
    rw [wayF, wayF, e, way_ext h f]

/-- the claims that were taken ahead, told by what is claimed at last -/
def aheadD (c : List Cl) (pre : List Nat) (n : Nat) (ws : List Int) : List Cl :=
  pre.flatMap (fun m => c.filter (fun x => decide (x.1 = m))) ++ ws.flatMap (fun k => c.filter (fun x => decide (x.1 = n) && decide ((x.2 : Int) = k)))

def outD (d : Dc) (i : Nat) (n q : Nat) : List Cl := ((asksD d n).take q).foldl (claim1 d n) (((shD d).take i).foldl (claimN d) [])

theorem claims_split {d : Dc} {i : Nat} (hi : i < (shD d).length) : claimsD d = ((shD d).drop (i + 1)).foldl (claimN d) (claimN d (((shD d).take i).foldl (claimN d) []) (shD d)[i]) := by
  unfold claimsD
  conv => lhs; rw [← List.take_append_drop i (shD d), List.drop_eq_getElem_cons hi]
  rw [List.foldl_append, List.foldl_cons]
theorem turn_split (d : Dc) (i n q : Nat) : claimN d (((shD d).take i).foldl (claimN d) []) n = ((asksD d n).drop q).foldl (claim1 d n) (outD d i n q) := by
  unfold outD
  rw [← List.foldl_append, List.take_append_drop]
  rfl
theorem out_pre {d : Dc} {i : Nat} (hi : i < (shD d).length) (q : Nat) : outD d i (shD d)[i] q <+: claimsD d := by
  rw [claims_split hi, turn_split d i _ q]
  exact (asks_pre d _ _ _).trans (nodes_pre d _ _)
theorem forest_out {d : Dc} (h : Fine d) {i : Nat} (hi : i < (shD d).length) (q : Nat) : Forest d (outD d i (shD d)[i] q) := forest_asks h (List.getElem_mem hi) _ _ (forest_at h i)

/-- the claims of what is ahead are those that were taken ahead -/
theorem ahead_out {d : Dc} (h : Fine d) {i : Nat} (hi : i < (shD d).length) {q : Nat} (hq : q ≤ (asksD d (shD d)[i]).length) (p : Cl) : p ∈ aheadD (claimsD d) ((shD d).take i) (shD d)[i] ((asksD d (shD d)[i]).take q) ↔ p ∈ outD d i (shD d)[i] q := by
  have hF := forest_claims h
  have hnd := sh_nodup h
  have hsp : shD d = (shD d).take i ++ (shD d)[i] :: (shD d).drop (i + 1) := by rw [← List.drop_eq_getElem_cons hi, List.take_append_drop]
  have hnd2 := hnd
  rw [hsp, List.nodup_append] at hnd2
  obtain ⟨_, n2, n3⟩ := hnd2
  rw [List.nodup_cons] at n2
  obtain ⟨o, x⟩ := p
  constructor
  · intro hp
    unfold aheadD at hp
    rcases List.mem_append.mp hp with hp | hp
    · obtain ⟨m, hm, hf⟩ := List.mem_flatMap.mp hp
      obtain ⟨hc, e⟩ := List.mem_filter.mp hf
      have e : o = m := by simpa using e
      subst e
      rw [claims_split hi] at hc
      have hpre : ((shD d).take i).foldl (claimN d) [] <+: outD d i (shD d)[i] q := asks_pre d _ _ _
      rcases nodes_mem d _ _ _ hc with hc | hc
      · rcases asks_mem d _ _ _ _ hc with hc | ⟨hc, _⟩
        · exact hpre.subset hc
        · exact absurd hc (n3 o hm _ List.mem_cons_self)
      · exact absurd rfl (n3 o hm o (List.mem_cons_of_mem _ hc))
    · obtain ⟨k, hk, hf⟩ := List.mem_flatMap.mp hp
      obtain ⟨hc, e⟩ := List.mem_filter.mp hf
      simp only [Bool.and_eq_true, decide_eq_true_eq] at e
      obtain ⟨e1, e2⟩ := e
      obtain ⟨j, hj, ej⟩ := List.mem_take_iff_getElem.mp hk
      apply Classical.byContradiction
      intro hno
      obtain ⟨_, hxs, hx0⟩ := hF.own _ hc
      have hjq : j < q := by omega
      have hjl : j < (asksD d (shD d)[i]).length := by omega
      -- at its turn
      have sub : claim1 d (shD d)[i] (outD d i (shD d)[i] j) ((asksD d (shD d)[i])[j]) <+: outD d i (shD d)[i] q := by
        have e3 : outD d i (shD d)[i] (j + 1) = claim1 d (shD d)[i] (outD d i (shD d)[i] j) ((asksD d (shD d)[i])[j]) := by
          unfold outD
          rw [List.take_succ_eq_append_getElem hjl, List.foldl_append]
          rfl
        rw [← e3]
        have e4 : (asksD d (shD d)[i]).take q = (asksD d (shD d)[i]).take (j + 1) ++ ((asksD d (shD d)[i]).take q).drop (j + 1) := by
          conv => lhs; rw [← List.take_append_drop (j + 1) ((asksD d (shD d)[i]).take q)]
          rw [List.take_take, Nat.min_eq_left (by omega)]
        unfold outD
        rw [e4, List.foldl_append]
        exact asks_pre d _ _ _
      have hnoj : ((shD d)[i], x) ∉ outD d i (shD d)[i] j := fun hm => hno (by
        have e5 : o = (shD d)[i] := e1
        rw [e5]
        exact sub.subset ((claim_pre d _ _ _).subset hm))
      have hnoc : ((shD d)[i], x) ∉ claim1 d (shD d)[i] (outD d i (shD d)[i] j) ((asksD d (shD d)[i])[j]) := fun hm => hno (by
        have e5 : o = (shD d)[i] := e1
        rw [e5]
        exact sub.subset hm)
      have hxe : (asksD d (shD d)[i])[j] = (x : Int) := by rw [ej]; exact e2.symm
      rw [hxe] at hnoc
      have hw : x ∈ wayD d (outD d i (shD d)[i] j) ((shD d)[i] : Int) := by
        apply Classical.byContradiction
        intro hw
        have ht : takes d (outD d i (shD d)[i] j) (shD d)[i] (x : Int) = true := by
          unfold takes
          simp only [Bool.and_eq_true, decide_eq_true_eq, Int.toNat_natCast, Bool.not_eq_true', List.contains_eq_mem, decide_eq_false_iff_not]
          refine ⟨⟨⟨by omega, hxs⟩, ?_⟩, hw⟩
          rcases owner_cases (outD d i (shD d)[i] j) (x : Int) with ⟨f1, _⟩ | ⟨o', k', f1, f2, _⟩
          · omega
          · obtain rfl : x = k' := by omega
            have g1 : (o', x) ∈ claimsD d := (out_pre hi j).subset f2
            have g2 := nodup_two hF.nodup g1 hc
            rw [g2, e1] at f2
            exact absurd f2 hnoj
        refine hnoc ?_
        unfold claim1
        rw [if_pos ht]
        simp
      have hlast := never ((asksD d (shD d)[i]).drop j) _ hw hnoj
      rw [← turn_split] at hlast
      rw [claims_split hi] at hc
      rcases nodes_mem d _ _ _ hc with hc | hc
      · have e5 : o = (shD d)[i] := e1
        rw [e5] at hc
        exact hlast hc
      · have e5 : o = (shD d)[i] := e1
        exact n2.1 (by rw [← e5]; exact hc)
  · intro hp
    have hc := (out_pre hi q).subset hp
    unfold outD at hp
    unfold aheadD
    rcases asks_mem d _ _ _ _ hp with hp | ⟨h1, h2⟩
    · rcases nodes_mem d _ _ _ hp with hp | hp
      · simp at hp
      · exact List.mem_append.mpr (Or.inl (List.mem_flatMap.mpr ⟨o, hp, List.mem_filter.mpr ⟨hc, by simp⟩⟩))
    · exact List.mem_append.mpr (Or.inr (List.mem_flatMap.mpr ⟨(x : Int), h2, List.mem_filter.mpr ⟨hc, by simpa using h1⟩⟩))

theorem ahead_owner {d : Dc} (h : Fine d) {i : Nat} (hi : i < (shD d).length) {q : Nat} (hq : q ≤ (asksD d (shD d)[i]).length) (x : Int) : ownerD (aheadD (claimsD d) ((shD d).take i) (shD d)[i] ((asksD d (shD d)[i]).take q)) x = ownerD (outD d i (shD d)[i] q) x :=
  owner_ext (forest_claims h).nodup (fun _ hp => (out_pre hi q).subset hp) (ahead_out h hi hq) x

/-- seen on the way up, within so many steps -/
def seenD (d : Dc) (l : List Cl) (k : Int) : Nat → Int → Bool
  | 0, _ => false
  | j + 1, a => decide (a = k) || seenD d l k j (if 0 < a then inD d l a else a)

theorem seen_way {d : Dc} {l : List Cl} (h0 : inD d l 0 = -1) {k : Nat} : ∀ (f j : Nat) (x : Int), k ∈ wayF f d l x → (wayF f d l x).length ≤ j → seenD d l (k : Int) j x = true
  | 0, _, _, h, _ => by simp [wayF] at h
  | f + 1, j, x, h, hl => by
    rw [wayF] at h hl
    split at h
    · rename_i hx
      rw [if_pos hx] at hl
      cases j with
      | zero => simp at hl
      | succ j =>
        rw [seenD]
        rcases List.mem_cons.mp h with e | h
        · have : x = (k : Int) := by omega
          simp [this]
        · by_cases hx0 : 0 < x
          · rw [if_pos hx0, seen_way h0 f j _ h (by simpa using hl)]
            simp
          · obtain rfl : x = 0 := by omega
            rw [h0, way_neg d l f (by omega)] at h
            simp at h
    · simp at h

/-- a claim that was not taken, of what nobody has, would have been within itself -/
theorem first_in {d : Dc} (h : Fine d) {i : Nat} (hi : i < (shD d).length) {q : Nat} (hq : q < (asksD d (shD d)[i]).length) {k : Nat} (hk : (asksD d (shD d)[i])[q] = (k : Int)) (h1 : 1 ≤ k) (hs : k ∈ shD d) (hno : ∀ c ∈ claimsD d, c.2 ≠ k) :
    seenD d (aheadD (claimsD d) ((shD d).take i) (shD d)[i] ((asksD d (shD d)[i]).take q)) (k : Int) (d.length + 1) ((shD d)[i] : Int) = true := by
  have hF := forest_out h hi q
  have hO := ahead_owner h hi (q := q) (by omega)
  have hw : k ∈ wayD d (outD d i (shD d)[i] q) ((shD d)[i] : Int) := by
    apply Classical.byContradiction
    intro hw
    have ht : takes d (outD d i (shD d)[i] q) (shD d)[i] (k : Int) = true := by
      unfold takes
      simp only [Bool.and_eq_true, decide_eq_true_eq, Int.toNat_natCast, Bool.not_eq_true', List.contains_eq_mem, decide_eq_false_iff_not]
      refine ⟨⟨⟨by omega, hs⟩, ?_⟩, hw⟩
      rw [owner_none (fun c hc e => hno c ((out_pre hi q).subset hc) (by omega))]
      omega
    have e3 : outD d i (shD d)[i] (q + 1) = claim1 d (shD d)[i] (outD d i (shD d)[i] q) (k : Int) := by
      unfold outD
      rw [List.take_succ_eq_append_getElem hq, List.foldl_append, hk]
      rfl
    have hm : ((shD d)[i], k) ∈ outD d i (shD d)[i] (q + 1) := by
      rw [e3]
      unfold claim1
      rw [if_pos ht]
      simp
    exact hno _ ((out_pre hi (q + 1)).subset hm) rfl
  have hr : inD d (aheadD (claimsD d) ((shD d).take i) (shD d)[i] ((asksD d (shD d)[i]).take q)) 0 = -1 := by
    unfold inD
    rw [hO]
    exact in_root h hF
  have e := way_ext (d := d) hO 64 ((shD d)[i] : Int)
  refine seen_way hr 64 _ _ (by rw [e]; exact hw) ?_
  rw [e]
  have := way_len h hF (List.getElem_mem hi) 64
  have := (sh_few h).2
  omega
end Go.Proofs.YtcinjbolflhjmadGreatDoor

/-
  PLAIN MATHEMATICS: values are no longer than what came in.
-/
namespace Go.Proofs.YtcinjbolflhjmadGreatDoor
open Tn

/-- values and tags are no longer than what came in -/
def Vn (n : Nd) : Prop := (∀ a ∈ n.attrs, a.2.size ≤ 4194304) ∧ n.tag.size ≤ 4194304

theorem nil_size : (⟨#[]⟩ : ByteArray).size ≤ 4194304 := by decide

theorem fold_val {M : Nat} {name value : ByteArray} (hv : value.size ≤ M) : ∀ (l : List At) (s : List At × Bool), (∀ a ∈ s.1, a.2.size ≤ M) → (∀ a ∈ l, a.2.size ≤ M) → ∀ a ∈ (l.foldl (aStep name value) s).1, a.2.size ≤ M
  | [], s, hs, _ => hs
  | x :: l, s, hs, hl => by
    rw [List.foldl_cons]
    refine fold_val hv l _ ?_ (fun a ha => hl a (by simp [ha]))
    have hx := hl x (by simp)
    intro a ha
    unfold aStep at ha
    split at ha
    · simp at ha
      rcases ha with ha | rfl
      · exact hs a ha
      · exact hv
    · split at ha
      · simp at ha
        rcases ha with ha | rfl | rfl
        · exact hs a ha
        · exact hv
        · exact hx
      · simp at ha
        rcases ha with ha | rfl
        · exact hs a ha
        · exact hx

theorem attrsD_val {M : Nat} {name value : ByteArray} (hv : value.size ≤ M) (l : List At) (hl : ∀ a ∈ l, a.2.size ≤ M) : ∀ a ∈ attrsD l name value, a.2.size ≤ M := by
  have h := fold_val (name := name) hv l ([], false) (by simp) hl
  unfold attrsD aFold
  split
  · exact h
  · intro a ha
    rw [List.mem_append, List.mem_singleton] at ha
    rcases ha with ha | rfl
    · exact h a ha
    · exact hv

theorem vn_stays (x : Chg) (hv : x.value.size ≤ 4194304) (hn : x.name.size ≤ 4194304) : Stays (fun _ n => Vn n) x := by
  refine ⟨fun _ _ _ h => h, fun _ _ _ _ _ h => h, fun _ n s l h _ _ => ?_, fun _ _ => ⟨by simp [Tn.zero], nil_size⟩, fun _ _ h _ => h, fun _ n h _ => ⟨attrsD_val hv _ h.1, h.2⟩, fun _ n h _ => ⟨fun a ha => h.1 a ((List.mem_filter.mp ha).1), h.2⟩, fun _ _ _ _ h _ => h, fun _ m s _ => ?_⟩
  · cases s <;> exact h
  · unfold newN
    split
    · exact ⟨by simp [made, Tn.zero], nil_size⟩
    · exact ⟨by simp [made, Tn.zero], hn⟩

theorem build_vn {l : List Chg} (hl : ∀ x ∈ l, x.value.size ≤ 4194304 ∧ x.name.size ≤ 4194304) (j : Nat) : Vn (nd (Tn.build l) j) :=
  build_stays (P := fun _ n => Vn n) (fun x hx => vn_stays x (hl x hx).1 (hl x hx).2) ⟨by simp [root], by simp [root]; decide⟩ (fun _ _ => ⟨by simp [Tn.zero], nil_size⟩) j

theorem val_size {d : Dc} (h : ∀ j, Vn (nd d j)) (n : Int) (name : ByteArray) : (valN d n name).size ≤ 4194304 := by
  unfold valN attrN
  split
  · unfold attrOf
    cases hf : (nd d n.toNat).attrs.find? (fun a => eqS a.1 name) with
    | none => exact nil_size
    | some a => exact (h _).1 a (List.mem_of_find?_eq_some hf)
  · exact nil_size

end Go.Proofs.YtcinjbolflhjmadGreatDoor

/-
  THE WALKS of the reference's Attr at whatever node, and Scope.
-/
namespace Go.Proofs.YtcinjbolflhjmadGreatDoor
open Go.RowKit

set_option maxHeartbeats 800000 in
theorem rattr_no {w : World} {b o c : Nat} {rs : List Raw} {d : Tn.Dc} (hd : DocAt w b o c rs d) (n : Int) (hn : Tn.isN d n true = false) (name : ByteArray) :
    Calls Tryz.prog 18 #[.slice (some ⟨b, o, none⟩) rs.length c, .int .i64 n, .string name] w fun e w' => e = .returned (.tuple #[.string ⟨#[]⟩, .bool false]) ∧ w' = w := by
  have H : Hid (DocAt w b o c rs d) := hd
  clear hd
  go_enter Tryz.func18, Tryz.ntmps18
  go_wp2_with (go_at_call 19; refine (ris_any H.out _ _).mono ?_; rintro e w' ⟨rfl, hww⟩; subst hww; rw [hn])
  go_ret2
  exact ⟨rfl, rfl⟩

theorem rattr_all {w : World} {b o c : Nat} {rs : List Raw} {d : Tn.Dc} (hd : DocAt w b o c rs d) (n : Int) (name : ByteArray) :
    Calls Tryz.prog 18 #[.slice (some ⟨b, o, none⟩) rs.length c, .int .i64 n, .string name] w fun e w' =>
      e = .returned (.tuple #[.string (valN d n name), .bool (attrN d n name).isSome]) ∧ Below w.heap.size w w' := by
  unfold valN attrN
  cases hn : Tn.isN d n true with
  | true =>
    rw [if_pos rfl]
    obtain ⟨k, rfl, _, _⟩ := isN_nat (isN_true hn)
    rw [Int.toNat_natCast]
    exact rattr_any hd k hn name
  | false =>
    rw [if_neg (by simp)]
    refine (rattr_no hd n hn _).mono ?_
    rintro e w' ⟨rfl, rfl⟩
    exact ⟨rfl, Below.refl _ _⟩

theorem scopeL_take (d : Tn.Dc) (l : List Nat) (j : Nat) (h : j < l.length) (hn : ∀ k ∈ l.take j, (Tn.nd d k).inS = false) : scopeL d l = if (Tn.nd d l[j]).inS then (Tn.nd d l[j]).up else scopeL d (l.drop (j + 1)) := by
  have e : l = l.take j ++ l[j] :: l.drop (j + 1) := by rw [List.getElem_cons_drop, List.take_append_drop]
  rw [show scopeL d l = scopeL d (l.take j ++ l[j] :: l.drop (j + 1)) by rw [← e], scopeL_app d _ _ hn, scopeL]

set_option maxHeartbeats 800000 in
set_option maxRecDepth 100000 in
theorem rscope_any {w : World} {b o c : Nat} {rs : List Raw} {d : Tn.Dc} (hd : DocAt w b o c rs d) (hf : Fine d) (n : Int) :
    Calls Tryz.prog 45 #[.slice (some ⟨b, o, none⟩) rs.length c, .int .i64 n] w fun e w' => e = .returned (.int .i64 (scopeD d n)) ∧ Below w.heap.size w w' := by
  have H : Hid (DocAt w b o c rs d) := hd
  have hrl : rs.length ≤ 1000 := by rw [hd.len]; have := hf.good.len.2; omega
  have hP := rpath_own hd hrl n
  have hL : ∀ k ∈ Tn.pathOf d n, Tn.lvD d k = true := path_live d _ _
  have HU : Hid (∀ k ∈ Tn.pathOf d n, k < rs.length ∧ (rs[k]?.map (·.inS) = some true → ∃ u : Nat, (Tn.nd d k).up = (u : Int))) := by
    intro k hk
    have hkl := hL k hk
    have h1 := Tn.lv_lt hkl
    refine ⟨by rw [hd.len]; exact h1, fun hi => ?_⟩
    obtain ⟨r, hr, _⟩ := hf.good.tr
    have hk' : k < rs.length := by rw [hd.len]; exact h1
    have hins : (Tn.nd d k).inS = true := by
      rw [nd_at h1, ← (hd.nds k hk' h1).inS]
      rw [List.getElem?_eq_getElem hk'] at hi
      simpa using hi
    have h0 : 0 < k := by
      apply Classical.byContradiction
      intro hn
      have := ((hf.fit k).root (by omega)).2.2
      rw [hins] at this
      cases this
    have := hr.2 k h0 hkl
    exact ⟨(Tn.nd d k).up.toNat, by omega⟩
  have SD : Hid (scopeD d n = scopeL d (Tn.pathOf d n)) := rfl
  generalize scopeD d n = res at *
  generalize Tn.pathOf d n = l at *
  clear hd hL
  go_enter Tryz.func45, Tryz.ntmps45
  go_wp2_with (go_at_call 73; refine hP.mono ?_; rintro e w1 ⟨v, rfl, hown, hb⟩; obtain ⟨p, cc, rfl, hz1, hz2, _, hat⟩ := (ints_of_owns hown).at)
  have T : Hid (∀ j (hj : j < l.length), ∃ b o, p = some ⟨b, o, none⟩ ∧ w1.cell? ⟨b, o + j, none⟩ = some (.int .i64 (l[j] : Int))) := hat
  have D1 : Hid (DocAt w1 b o c rs d) := H.out.keeps (keeps_below hb (Nat.le_refl _))
  clear hat hown
  go_loop [6, 11] (fun _ i => ∃ k : Nat, k ≤ l.length ∧ i = .int .i64 k ∧ Hid (∀ x ∈ l.take k, (Tn.nd d x).inS = false)) (fun _ i => l.length - (intOf i).toNat)
  case atStart => exact ⟨0, Nat.zero_le _, rfl, fun x hx => by simp at hx⟩
  case round =>
    obtain ⟨j, hj, rfl, NO⟩ := hrel
    by_cases hlt : j < l.length
    · obtain ⟨b1, o1, rfl, hc⟩ := T.out j hlt
      obtain ⟨hk', hup⟩ := HU.out _ (List.getElem_mem hlt)
      have SL := scopeL_take d l j hlt NO.out
      have hkd : l[j] < d.length := by rw [← D1.out.len]; exact hk'
      have h8 := D1.out.row.c8 l[j] hk'
      have h4 := D1.out.row.c4 l[j] hk'
      have e8 : (Tn.nd d l[j]).inS = rs[l[j]].inS := by rw [nd_at hkd]; exact (D1.out.nds _ hk' hkd).inS.symm
      have e4 : (Tn.nd d l[j]).up = rs[l[j]].up := by rw [nd_at hkd]; exact (D1.out.nds _ hk' hkd).up.symm
      rw [e8, e4] at SL
      have hup2 : rs[l[j]].inS = true → ∃ u : Nat, rs[l[j]].up = (u : Int) := fun hi => by
        rw [← e4]
        exact hup (by rw [List.getElem?_eq_getElem hk']; simp [hi])
      have N2 : rs[l[j]].inS = false → Hid (∀ x ∈ l.take (j + 1), (Tn.nd d x).inS = false) := fun hi x hx => by
        rw [List.take_succ_eq_append_getElem hlt, List.mem_append, List.mem_singleton] at hx
        rcases hx with hx | rfl
        · exact NO.out x hx
        · rw [e8, hi]
      clear hup e8 e4
      have SL2 : Hid _ := SL
      clear SL
      generalize rs[l[j]].inS = is at *
      generalize rs[l[j]].up = uu at *
      generalize l[j] = x at *
      cases is with
      | true =>
        obtain ⟨u, rfl⟩ := hup2 rfl
        have E : Hid (res = (u : Int)) := by show _ = _; rw [SD.out, SL2.out]; rfl
        go_wp2_with fail
        go_ret
        exact ⟨by rw [E.out]; rfl, hb⟩
      | false =>
        have N3 := N2 rfl
        go_wp2_with fail
        exact ⟨⟨j + 1, by omega, by go_num, N3⟩, by simp [intOf]; omega⟩
    · obtain rfl : j = l.length := by omega
      have E : Hid (res = 0) := by
        show _ = _
        rw [SD.out]
        have := scopeL_app d l [] (fun x hx => NO.out x (by rw [List.take_length]; exact hx))
        rw [List.append_nil] at this
        rw [this]
        rfl
      go_wp2_with fail
      go_ret
      exact ⟨by rw [E.out]; rfl, hb⟩
end Go.Proofs.YtcinjbolflhjmadGreatDoor

/-
  THE WALK of the reference's Slot.
-/
namespace Go.Proofs.YtcinjbolflhjmadGreatDoor
open Go.RowKit

theorem find_at {P : Nat → Bool} {g : Nat → List Nat} {S A : List Nat} {j q : Nat} (hj : j < S.length) (hA : g S[j] = A) (hq : q < A.length) (no1 : ∀ x ∈ (S.take j).flatMap g, P x = false) (no2 : ∀ x ∈ A.take q, P x = false) (hp : P A[q] = true) : (S.flatMap g).find? P = some A[q] := by
  have e : S = S.take j ++ S[j] :: S.drop (j + 1) := by rw [List.getElem_cons_drop, List.take_append_drop]
  have e2 : A = A.take q ++ A[q] :: A.drop (q + 1) := by rw [List.getElem_cons_drop, List.take_append_drop]
  have e3 : S.flatMap g = (S.take j).flatMap g ++ (A.take q ++ (A[q] :: (A.drop (q + 1) ++ (S.drop (j + 1)).flatMap g))) := by
    rw [show S.flatMap g = (S.take j ++ S[j] :: S.drop (j + 1)).flatMap g by rw [← e], List.flatMap_append, List.flatMap_cons, hA]
    congr 1
    have e4 := congrArg (· ++ (S.drop (j + 1)).flatMap g) e2
    simpa only [List.append_assoc, List.cons_append] using e4
  rw [e3, find_skip no1, find_skip no2, List.find?_cons_of_pos (by simpa using hp)]

set_option maxHeartbeats 3200000 in
set_option maxRecDepth 100000 in
theorem qslot_any {w : World} {b o c : Nat} {rs : List Raw} {d : Tn.Dc} (hd : DocAt w b o c rs d) (hf : Fine d) (n : Int) :
    Calls Tryz.prog 98 #[.slice (some ⟨b, o, none⟩) rs.length c, .int .i64 n] w fun e w' => e = .returned (.int .i64 (slotD d n)) ∧ Below w.heap.size w w' := by
  have H : Hid (DocAt w b o c rs d) := hd
  clear hd
  cases his : Tn.isN d n false with
  | false =>
    have E : Hid (slotD d n = -1) := by show _ = _; unfold slotD slottedD; rw [his]; rfl
    go_enter Tryz.func98, Tryz.ntmps98
    go_wp2_with (go_at_call 19; refine (ris_any H.out _ _).mono ?_; rintro e w' ⟨rfl, hww⟩; subst hww; rw [his])
    go_ret
    exact ⟨by rw [E.out]; rfl, Below.refl _ _⟩
  | true =>
    obtain ⟨k, rfl, hk, hlv⟩ := isN_nat his
    have hk' : k < rs.length := by rw [H.out.len]; exact hk
    have h8 := H.out.row.c8 k hk'
    have h4 := H.out.row.c4 k hk'
    have e8 : (Tn.nd d k).inS = rs[k].inS := by rw [nd_at hk]; exact (H.out.nds k hk' hk).inS.symm
    have e4 : (Tn.nd d k).up = rs[k].up := by rw [nd_at hk]; exact (H.out.nds k hk' hk).up.symm
    cases hin : rs[k].inS with
    | true =>
      rw [hin] at h8 e8
      have E : Hid (slotD d (k : Int) = -1) := by show _ = _; unfold slotD slottedD; rw [his, Int.toNat_natCast, e8]; rfl
      clear e8 e4 hin
      go_enter Tryz.func98, Tryz.ntmps98
      go_wp2_with (go_at_call 19; refine (ris_any H.out _ _).mono ?_; rintro e w' ⟨rfl, hww⟩; subst hww; rw [his])
      go_ret
      exact ⟨by rw [E.out]; rfl, Below.refl _ _⟩
    | false =>
      rw [hin] at h8 e8
      by_cases hneg : rs[k].up < 0
      · have E : Hid (slotD d (k : Int) = -1) := by
          show _ = _
          unfold slotD slottedD
          rw [his, Int.toNat_natCast, e4]
          have : Tn.isN d rs[k].up true = false := by unfold Tn.isN; simp; omega
          rw [this]
          simp
        clear e8 e4 hin
        generalize rs[k].up = up at *
        go_enter Tryz.func98, Tryz.ntmps98
        go_wp2_with (go_at_call 19; refine (ris_any H.out _ _).mono ?_; rintro e w' ⟨rfl, hww⟩; subst hww; rw [his])
        go_ret
        exact ⟨by rw [E.out]; rfl, Below.refl _ _⟩
      · obtain ⟨r, hr, hR⟩ := hf.good.tr
        have hk0 : 0 < k := by
          apply Classical.byContradiction
          intro hn
          have hk00 : k = 0 := by omega
          have := hf.good.rootUp
          rw [← hk00, e4] at this
          omega
        have hul : Tn.lvD d (Tn.upD d k) = true := hr.1.upLive hk0 hlv
        obtain ⟨u, hu⟩ : ∃ u : Nat, rs[k].up = (u : Int) := ⟨rs[k].up.toNat, by omega⟩
        have hud : Tn.upD d k = u := by unfold Tn.upD; rw [e4, hu]; simp
        rw [hud] at hul
        have hudl := Tn.lv_lt hul
        have hur : u < rs.length := by rw [H.out.len]; exact hudl
        rw [hu] at h4 e4
        have h6 := H.out.row.c6 u hur
        have e6 : (Tn.nd d u).hasS = rs[u].hasS := by rw [nd_at hudl]; exact (H.out.nds u hur hudl).hasS.symm
        clear hin hneg hu
        cases hhs : rs[u].hasS with
        | false =>
          rw [hhs] at h6 e6
          have E : Hid (slotD d (k : Int) = -1) := by
            show _ = _
            unfold slotD slottedD
            rw [Int.toNat_natCast, e4, Int.toNat_natCast, e6]
            simp
          clear e8 e4 e6 hhs
          go_enter Tryz.func98, Tryz.ntmps98
          go_wp2_with (go_at_call 19; refine (ris_any H.out _ _).mono ?_; rintro e w' ⟨rfl, hww⟩; subst hww; rw [his])
          go_ret
          exact ⟨by rw [E.out]; rfl, Below.refl _ _⟩
        | true =>
          rw [hhs] at h6 e6
          have hut : Tn.isN d (u : Int) true = true := by
            have h1 : Tn.isN d (u : Int) false = true := by rw [Tn.isN_iff]; exact hul
            have h2 : Tn.has (Tn.nd d u).tag = true := by
              cases ht : Tn.has (Tn.nd d u).tag with
              | true => rfl
              | false =>
                have := ((hf.fit u).text ht).2.2.2
                rw [e6] at this
                cases this
            unfold Tn.isN at h1 ⊢
            rw [Int.toNat_natCast] at h1 ⊢
            rw [h2]
            simpa using h1
          have E : Hid (slotD d (k : Int) = orI (((Tn.nd d u).shadow.flatMap (allD d)).find? (fitsD d (valN d (k : Int) slotB) (u : Int)))) := by
            show _ = _
            rw [← slot_shadow hf hul e6]
            unfold slotD
            rw [if_pos, Int.toNat_natCast, e4, Int.toNat_natCast]
            · rfl
            · unfold slottedD
              rw [his, Int.toNat_natCast, e8, e4, hut, Int.toNat_natCast, e6]
              rfl
          have hSl : (Tn.nd d u).shadow.length ≤ 1000 := by have h1 := hf.good.small u true; have h2 : (Tn.nd d u).shadow.length ≤ 12 := h1; omega
          have hsi : IntsAt w (.slice rs[u].s.p rs[u].s.n rs[u].s.c) (Tn.nd d u).shadow := by rw [nd_at hudl]; exact (H.out.nds u hur hudl).shadow
          have h7 := H.out.row.c7 u hur
          have ET : Hid (∀ x ∈ (Tn.nd d u).shadow, Tn.lvD d x = true) := fun x hx => (hr.1.mem u true x hx).2.1
          have HA : Hid (∀ (W : World) (x : Nat), Tn.lvD d x = true → DocAt W b o c rs d → Calls Tryz.prog 44 #[.slice (some ⟨b, o, none⟩) rs.length c, .int .i64 (x : Int)] W fun e w' => ∃ v, e = .returned v ∧ OwnI w' W.heap.size v (allD d x) ∧ Below W.heap.size W w') :=
            fun W x hx hW => rall_own (few_of hf.good) Tn.fuel x W hW (Tn.ends_of hr hR Tn.fuel x hx (by unfold Tn.fuel; omega))
          have HT : Hid (∀ (W : World) (x : Int) (nm : ByteArray), DocAt W b o c rs d → Calls Tryz.prog 18 #[.slice (some ⟨b, o, none⟩) rs.length c, .int .i64 x, .string nm] W fun e w' => e = .returned (.tuple #[.string (valN d x nm), .bool (attrN d x nm).isSome]) ∧ Below W.heap.size W w') := fun W x nm hW => rattr_all hW x nm
          have HP : Hid (∀ (W : World) (x : Int), DocAt W b o c rs d → Calls Tryz.prog 45 #[.slice (some ⟨b, o, none⟩) rs.length c, .int .i64 x] W fun e w' => e = .returned (.int .i64 (scopeD d x)) ∧ Below W.heap.size W w') := fun W x hW => rscope_any hW hf x
          have LA : Hid (∀ t ∈ (Tn.nd d u).shadow, ∀ x ∈ allD d t, Tn.lvD d x = true) := fun t ht x hx => allD_live hf (hr.1.mem u true t ht).2.1 hx
          have FW : Hid (∀ t ∈ (Tn.nd d u).shadow, (allD d t).length ≤ 1000) := fun t _ => few_of hf.good Tn.fuel t
          clear e8 e4 e6 hhs hR hr hlv hut hud
          generalize (Tn.nd d u).shadow = S at *
          generalize slotD d (k : Int) = res at *
          generalize rs[u].s = ss at *
          obtain ⟨sp, sn, sc⟩ := ss
          simp only at hsi h7
          obtain ⟨_, _, he, hs1, hs2, _, hat⟩ := hsi.at
          cases he
          have TS : Hid (∀ j (hj : j < S.length), ∃ b o, sp = some ⟨b, o, none⟩ ∧ w.cell? ⟨b, o + j, none⟩ = some (.int .i64 (S[j] : Int))) := hat
          have hslot : slotB = ⟨#[115, 108, 111, 116]⟩ := rfl
          have hAw := HT.out w (k : Int) slotB H.out
          generalize valN d (k : Int) slotB = want at *
          generalize (attrN d (k : Int) slotB).isSome = ws at *
          rw [hslot] at hAw
          clear hat hsi hslot
          go_enter Tryz.func98, Tryz.ntmps98
          go_upto_region 8 with (first
            | (go_at_call 19; refine (ris_any H.out _ _).mono ?_; rintro e w' ⟨rfl, hww⟩; subst hww; rw [his])
            | (go_at_call 18; refine hAw.mono ?_; rintro e w1 ⟨rfl, hb1⟩; have h71 := keeps_below hb1 (Nat.le_refl _) _ _ h7))
          go_loopw [56] (fun i wr => ∃ j : Nat, j ≤ S.length ∧ i = .int .i64 j ∧ Hid (∀ x ∈ (S.take j).flatMap (allD d), fitsD d want (u : Int) x = false) ∧ Below w'.heap.size w' wr) (fun i _ => S.length - (intOf i).toNat)
          case atStart => exact ⟨0, Nat.zero_le _, rfl, fun x hx => by simp at hx, hb1⟩
          case round =>
            obtain ⟨j, hj, rfl, NO, hnx⟩ := hrel
            have DR : Hid (DocAt wr b o c rs d) := H.out.keeps (keeps_below hnx (Nat.le_refl _))
            by_cases hlt : j < S.length
            · obtain ⟨b1, o1, rfl, hc⟩ := TS.out j hlt
              have hcr := keeps_below hnx (Nat.le_refl _) _ _ hc
              have hmt := List.getElem_mem hlt
              have hAll := HA.out wr S[j] (ET.out _ hmt) DR.out
              have LT := LA.out _ hmt
              have hAl := FW.out _ hmt
              have N1 : Hid (∀ A, allD d S[j] = A → (∀ x ∈ A, fitsD d want (u : Int) x = false) → ∀ x ∈ (S.take (j + 1)).flatMap (allD d), fitsD d want (u : Int) x = false) := by
                intro A hA hno x hx
                rw [List.take_succ_eq_append_getElem hlt, List.flatMap_append, List.mem_append] at hx
                rcases hx with hx | hx
                · exact NO.out x hx
                · simp only [List.flatMap_cons, List.flatMap_nil, List.append_nil] at hx
                  exact hno x (by rw [← hA]; exact hx)
              have FA : Hid (∀ A q, allD d S[j] = A → ∀ hq : q < A.length, (∀ x ∈ A.take q, fitsD d want (u : Int) x = false) → fitsD d want (u : Int) A[q] = true → res = (A[q] : Int)) := by
                intro A q hA hq h1 h2
                rw [E.out, find_at hlt hA hq NO.out h1 h2]
                rfl
              have FA2 := fun q => FA.out _ q rfl
              have N2 := N1.out _ rfl
              have QA : Hid _ := FA2
              have QN : Hid _ := N2
              have LT2 : Hid _ := LT
              clear hc hmt FA2 N2 FA N1 LT
              generalize allD d S[j] = A at *
              generalize S[j] = top at *
              go_upto_region 11 with (go_at_call 44; refine hAll.mono ?_; rintro e w2 ⟨v2, rfl, ho2, hb2⟩; have ho2' := ho2; obtain ⟨p2, c2, rfl⟩ := ho2'.shape)
              obtain ⟨_, _, he, ha1, ha2, _, hat⟩ := (ints_of_owns ho2).at
              cases he
              have TA : Hid (∀ j (hj : j < A.length), ∃ b o, p2 = some ⟨b, o, none⟩ ∧ w2.cell? ⟨b, o + j, none⟩ = some (.int .i64 (A[j] : Int))) := hat
              have B2 : Below w'.heap.size w' w2 := hnx.trans (hb2.mono hnx.size)
              clear hat ho2 ho2' hAll
              go_loopw [64] (fun i wq => ∃ q : Nat, q ≤ A.length ∧ i = .int .i64 q ∧ Hid (∀ x ∈ A.take q, fitsD d want (u : Int) x = false) ∧ Below w2.heap.size w2 wq) (fun i _ => A.length - (intOf i).toNat)
              case atStart => exact ⟨0, Nat.zero_le _, rfl, fun x hx => by simp at hx, Below.refl _ _⟩
              case round =>
                obtain ⟨q, hq, rfl, NQ, hbq⟩ := hrel
                have BQ : Below w'.heap.size w' wr := B2.trans (hbq.mono B2.size)
                have DQ : Hid (DocAt wr b o c rs d) := H.out.keeps (keeps_below BQ (Nat.le_refl _))
                by_cases hql : q < A.length
                · obtain ⟨b3, o3, rfl, hc3⟩ := TA.out q hql
                  have hcq := keeps_below hbq (Nat.le_refl _) _ _ hc3
                  have hxl := LT2.out _ (List.getElem_mem hql)
                  have hxd := Tn.lv_lt hxl
                  have hxr : A[q] < rs.length := by rw [H.out.len]; exact hxd
                  have R1 := QA.out q hql NQ.out
                  have N3 : fitsD d want (u : Int) A[q] = false → Hid (∀ x ∈ A.take (q + 1), fitsD d want (u : Int) x = false) := fun hno x hx => by
                    rw [List.take_succ_eq_append_getElem hql, List.mem_append, List.mem_singleton] at hx
                    rcases hx with hx | rfl
                    · exact NQ.out x hx
                    · exact hno
                  have FD : fitsD d want (u : Int) A[q] = ((rs[A[q]].tag.toList == [115, 108, 111, 116]) && ((valN d (A[q] : Int) nameB).toList == want.toList) && (scopeD d (A[q] : Int) == (u : Int))) := by
                    unfold fitsD
                    congr 2
                    unfold isSlotD
                    rw [Int.toNat_natCast, nd_at hxd, ← (H.out.nds _ hxr hxd).tag, slotB_list]
                    cases ht : (rs[A[q]].tag.toList == [115, 108, 111, 116]) with
                    | false => simp
                    | true =>
                      have h1 : Tn.isN d (A[q] : Int) false = true := by rw [Tn.isN_iff]; exact hxl
                      have h2 : Tn.has (Tn.nd d A[q]).tag = true := by
                        unfold Tn.has
                        rw [nd_at hxd, ← (H.out.nds _ hxr hxd).tag, show rs[A[q]].tag.toList = [115, 108, 111, 116] by simpa using ht]
                        rfl
                      unfold Tn.isN at h1 ⊢
                      rw [Int.toNat_natCast] at h1 ⊢
                      rw [h2]
                      simpa using h1
                  have hAt := HT.out wr (A[q] : Int) nameB DQ.out
                  have hname : nameB = ⟨#[110, 97, 109, 101]⟩ := rfl
                  have c1 := DQ.out.row.c1 A[q] hxr
                  have HS2 := fun W hW => HP.out W (A[q] : Int) hW
                  generalize valN d (A[q] : Int) nameB = vv at *
                  generalize (attrN d (A[q] : Int) nameB).isSome = vs at *
                  rw [hname] at hAt
                  generalize scopeD d (A[q] : Int) = sk at *
                  generalize fitsD d want (u : Int) A[q] = fit at *
                  generalize rs[A[q]].tag = tg at *
                  have QS2 : Hid _ := HS2
                  have QF : Hid _ := FD
                  have QR : Hid _ := R1
                  have Q3 : Hid _ := N3
                  clear hc3 hname HS2 FD R1 N3 hxl hxd
                  generalize A[q] = x at *
                  cases htg : (tg.toList == [115, 108, 111, 116]) with
                  | false =>
                    have N4 := Q3.out (by rw [QF.out, htg]; rfl)
                    clear QF QR Q3
                    go_wp2_with (go_at_call 18; refine hAt.mono ?_; rintro e w3 ⟨rfl, hb3⟩; have c13 := keeps_below hb3 (Nat.le_refl _) _ _ c1)
                    go_roundw
                    case rel => exact ⟨q + 1, by omega, by go_num, N4, hbq.trans (hb3.mono hbq.size)⟩
                    case measure => simp [intOf]; omega
                  | true =>
                    cases hsk : (sk == (u : Int)) with
                    | false =>
                      have N4 := Q3.out (by rw [QF.out, hsk, Bool.and_false])
                      clear QF QR Q3
                      go_wp2_with (first
                        | (go_at_call 18; refine hAt.mono ?_; rintro e w3 ⟨rfl, hb3⟩; have c13 := keeps_below hb3 (Nat.le_refl _) _ _ c1; have D3 : Hid (DocAt w3 b o c rs d) := DQ.out.keeps (keeps_below hb3 (Nat.le_refl _)))
                        | (go_at_call 45; refine (QS2.out _ D3.out).mono ?_; rintro e w5 ⟨rfl, hb5⟩))
                      go_roundw
                      case rel => exact ⟨q + 1, by omega, by go_num, N4, (hbq.trans (hb3.mono hbq.size)).trans (hb5.mono (Nat.le_trans hbq.size hb3.size))⟩
                      case measure => simp [intOf]; omega
                    | true =>
                      cases hvv : (vv.toList == want.toList) with
                      | false =>
                        have N4 := Q3.out (by rw [QF.out, hvv, Bool.and_false, Bool.false_and])
                        clear QF QR Q3
                        go_wp2_with (first
                          | (go_at_call 18; refine hAt.mono ?_; rintro e w3 ⟨rfl, hb3⟩; have c13 := keeps_below hb3 (Nat.le_refl _) _ _ c1; have D3 : Hid (DocAt w3 b o c rs d) := DQ.out.keeps (keeps_below hb3 (Nat.le_refl _)))
                          | (go_at_call 45; refine (QS2.out _ D3.out).mono ?_; rintro e w5 ⟨rfl, hb5⟩))
                        go_roundw
                        case rel => exact ⟨q + 1, by omega, by go_num, N4, (hbq.trans (hb3.mono hbq.size)).trans (hb5.mono (Nat.le_trans hbq.size hb3.size))⟩
                        case measure => simp [intOf]; omega
                      | true =>
                        have R4 : Hid (res = (x : Int)) := QR.out (by rw [QF.out, htg, hsk, hvv]; rfl)
                        clear QF QR Q3
                        go_wp2_with (first
                          | (go_at_call 18; refine hAt.mono ?_; rintro e w3 ⟨rfl, hb3⟩; have c13 := keeps_below hb3 (Nat.le_refl _) _ _ c1; have D3 : Hid (DocAt w3 b o c rs d) := DQ.out.keeps (keeps_below hb3 (Nat.le_refl _)))
                          | (go_at_call 45; refine (QS2.out _ D3.out).mono ?_; rintro e w5 ⟨rfl, hb5⟩))
                        go_ret
                        exact ⟨by rw [R4.out]; rfl, (BQ.trans (hb3.mono BQ.size)).trans (hb5.mono (Nat.le_trans BQ.size hb3.size))⟩
                · obtain rfl : q = A.length := by omega
                  have N4 : Hid (∀ x ∈ (S.take (j + 1)).flatMap (allD d), fitsD d want (u : Int) x = false) := QN.out (fun x hx => NQ.out x (by rw [List.take_length]; exact hx))
                  go_wp2_with fail
                  go_roundw
                  case rel => exact ⟨j + 1, by omega, by go_num, N4, BQ⟩
                  case measure => simp [intOf]; omega
            · obtain rfl : j = S.length := by omega
              have E2 : Hid (res = -1) := by
                show _ = _
                rw [E.out]
                have : (S.flatMap (allD d)).find? (fitsD d want (u : Int)) = none := List.find?_eq_none.mpr (fun x hx => by have := NO.out x (by rw [List.take_length]; exact hx); simp [this])
                rw [this]
                rfl
              go_wp2_with fail
              go_ret
              exact ⟨by rw [E2.out]; rfl, hnx⟩
end Go.Proofs.YtcinjbolflhjmadGreatDoor

/-
  THE WALKS of the reference's Given, Kids, Up.
-/
namespace Go.Proofs.YtcinjbolflhjmadGreatDoor
open Go.RowKit

theorem take_filter_at (p : Nat → Bool) (l : List Nat) (j : Nat) (h : j < l.length) : (l.take (j + 1)).filter p = (l.take j).filter p ++ (if p l[j] then [l[j]] else []) := by
  rw [List.take_succ_eq_append_getElem h, List.filter_append]
  congr 1
  cases hp : p l[j] <;> simp [hp]

set_option maxHeartbeats 1600000 in
set_option maxRecDepth 100000 in
theorem qgiven_any {w : World} {b o c : Nat} {rs : List Raw} {d : Tn.Dc} (hd : DocAt w b o c rs d) (hf : Fine d) (n : Int) :
    Calls Tryz.prog 72 #[.slice (some ⟨b, o, none⟩) rs.length c, .int .i64 n] w fun e w' => ∃ v, e = .returned v ∧ OwnI w' w.heap.size v (givenD d n) ∧ Below w.heap.size w w' := by
  have H : Hid (DocAt w b o c rs d) := hd
  clear hd
  cases his : Tn.isN d n true with
  | false =>
    have E : Hid (givenD d n = []) := by show _ = _; unfold givenD isSlotD; rw [his]; rfl
    go_enter Tryz.func72, Tryz.ntmps72
    go_wp2_with (go_at_call 19; refine (ris_any H.out _ _).mono ?_; rintro e w' ⟨rfl, hww⟩; subst hww; rw [his])
    go_ret
    exact ⟨_, rfl, by rw [E.out]; exact OwnI.nil _ _, Below.refl _ _⟩
  | true =>
    obtain ⟨k, rfl, hk, hlv⟩ := isN_nat (isN_true his)
    have hk' : k < rs.length := by rw [H.out.len]; exact hk
    have h1 := H.out.row.c1 k hk'
    have hsl : isSlotD d (k : Int) = (rs[k].tag.toList == [115, 108, 111, 116]) := by
      unfold isSlotD
      rw [his, Int.toNat_natCast, nd_at hk, ← (H.out.nds k hk' hk).tag, slotB_list]
      rfl
    cases htg : (rs[k].tag.toList == [115, 108, 111, 116]) with
    | false =>
      have E : Hid (givenD d (k : Int) = []) := by show _ = _; unfold givenD; rw [hsl, htg]; rfl
      clear hsl
      generalize rs[k].tag = tg at *
      go_enter Tryz.func72, Tryz.ntmps72
      go_wp2_with (go_at_call 19; refine (ris_any H.out _ _).mono ?_; rintro e w' ⟨rfl, hww⟩; subst hww; rw [his])
      go_ret
      exact ⟨_, rfl, by rw [E.out]; exact OwnI.nil _ _, Below.refl _ _⟩
    | true =>
      obtain ⟨s, hsc, hsv⟩ := hf.okd.scope k hlv
      have hsd := Tn.lv_lt hsv
      have hsr : s < rs.length := by rw [H.out.len]; exact hsd
      have E : Hid (givenD d (k : Int) = (Tn.nd d s).kids.filter fun j : Nat => slotD d (j : Int) == (k : Int)) := by
        show _ = _
        unfold givenD
        rw [hsl, htg, hsc, Int.toNat_natCast]
        rfl
      have hkl : (Tn.nd d s).kids.length ≤ 1000 := by have h1 := hf.good.small s false; have h2 : (Tn.nd d s).kids.length ≤ 12 := h1; omega
      have hki : IntsAt w (.slice rs[s].k.p rs[s].k.n rs[s].k.c) (Tn.nd d s).kids := by rw [nd_at hsd]; exact (H.out.nds s hsr hsd).kids
      have h5 := H.out.row.c5 s hsr
      have hP := rscope_any H.out hf (k : Int)
      rw [hsc] at hP
      have HS : Hid (∀ (W : World) (x : Int), DocAt W b o c rs d → Calls Tryz.prog 98 #[.slice (some ⟨b, o, none⟩) rs.length c, .int .i64 x] W fun e w' => e = .returned (.int .i64 (slotD d x)) ∧ Below W.heap.size W w') := fun W x hW => qslot_any hW hf x
      generalize givenD d (k : Int) = res at *
      generalize (Tn.nd d s).kids = l at *
      generalize rs[s].k = ks at *
      generalize rs[k].tag = tg at *
      obtain ⟨kp, kn, kc⟩ := ks
      simp only at hki h5
      obtain ⟨_, _, he, hs1, hs2, _, hat⟩ := hki.at
      cases he
      have TS : Hid (∀ j (hj : j < l.length), ∃ b o, kp = some ⟨b, o, none⟩ ∧ w.cell? ⟨b, o + j, none⟩ = some (.int .i64 (l[j] : Int))) := hat
      clear hat hki hsl hsc hsv hlv
      go_enter Tryz.func72, Tryz.ntmps72
      go_upto_region 6 with (first
        | (go_at_call 19; refine (ris_any H.out _ _).mono ?_; rintro e w' ⟨rfl, hww⟩; subst hww; rw [his])
        | (go_at_call 45; refine hP.mono ?_; rintro e w1 ⟨rfl, hb1⟩; have h51 := keeps_below hb1 (Nat.le_refl _) _ _ h5))
      go_loopw [5, 30] (fun v i wr => ∃ j : Nat, j ≤ l.length ∧ i = .int .i64 j ∧ OwnI wr w'.heap.size v ((l.take j).filter fun x : Nat => slotD d (x : Int) == (k : Int)) ∧ Below w'.heap.size w' wr) (fun _ i _ => l.length - (intOf i).toNat)
      case atStart => exact ⟨0, Nat.zero_le _, rfl, OwnI.nil _ _, hb1⟩
      case round =>
        obtain ⟨j, hj, rfl, hown, hnx⟩ := hrel
        have hbz := hnx.size
        have DR : Hid (DocAt wr b o c rs d) := H.out.keeps (keeps_below hnx (Nat.le_refl _))
        by_cases hlt : j < l.length
        · obtain ⟨b1, o1, rfl, hc⟩ := TS.out j hlt
          have hcr := keeps_below hnx (Nat.le_refl _) _ _ hc
          have F : Hid _ := take_filter_at (fun x : Nat => slotD d (x : Int) == (k : Int)) l j hlt
          have hfl : ((l.take j).filter fun x : Nat => slotD d (x : Int) == (k : Int)).length ≤ 1000 := by
            have h1 := List.length_filter_le (fun x : Nat => slotD d (x : Int) == (k : Int)) (l.take j)
            rw [List.length_take] at h1
            omega
          have hSl := HS.out wr (l[j] : Int) DR.out
          clear hc
          generalize l[j] = x at *
          generalize (l.take j).filter (fun x : Nat => slotD d (x : Int) == (k : Int)) = acc at *
          generalize slotD d (x : Int) = sx at *
          cases hq : (sx == (k : Int)) with
          | false =>
            have F2 : Hid ((l.take (j + 1)).filter (fun x : Nat => slotD d (x : Int) == (k : Int)) = acc) := by show _ = _; rw [F.out, hq]; simp
            clear F
            go_wp2_with (go_at_call 98; refine hSl.mono ?_; rintro e w3 ⟨rfl, hb3⟩)
            go_roundw
            case rel => exact ⟨j + 1, by omega, by go_num, by rw [F2.out]; exact hown.below hb3 (Nat.le_refl _), hnx.trans (hb3.mono hnx.size)⟩
            case measure => simp [intOf]; omega
          | true =>
            have F2 : Hid ((l.take (j + 1)).filter (fun x : Nat => slotD d (x : Int) == (k : Int)) = acc ++ [x]) := by show _ = _; rw [F.out, hq]; rfl
            clear F
            go_wp2_with (first
              | (go_at_call 98; refine hSl.mono ?_; rintro e w3 ⟨rfl, hb3⟩; have o3 := hown.below hb3 (Nat.le_refl _); have n3 := hnx.trans (hb3.mono hnx.size))
              | (at_builtin; refine append_int1 (w0 := w') rfl _ _ rfl x rfl rfl o3 n3 n3.size (by omega) ?_; intro v4 w4 o4 n4 _ _))
            go_roundw
            case rel => exact ⟨j + 1, by omega, by go_num, by rw [F2.out]; exact o4, n4⟩
            case measure => simp [intOf]; omega
        · obtain rfl : j = l.length := by omega
          rw [List.take_length] at hown
          go_wp2_with fail
          go_ret
          exact ⟨_, rfl, by rw [E.out]; exact hown, hnx⟩

set_option maxHeartbeats 1600000 in
theorem qkids_two {w0 w : World} {b o c : Nat} {rs : List Raw} {d : Tn.Dc} (hd0 : DocAt w0 b o c rs d) (hd : DocAt w b o c rs d) (hf : Fine d) (n : Int) :
    Calls Tryz.prog 42 #[.slice (some ⟨b, o, none⟩) rs.length c, .int .i64 n] w fun e w' => ∃ p cc, e = .returned (.slice p (kidsD d n).length cc) ∧ (IntsAt w0 (.slice p (kidsD d n).length cc) (kidsD d n) ∨ OwnI w' w.heap.size (.slice p (kidsD d n).length cc) (kidsD d n)) ∧ Below w.heap.size w w' := by
  have H : Hid (DocAt w b o c rs d) := hd
  clear hd
  cases his : Tn.isN d n false with
  | false =>
    have E : Hid (kidsD d n = []) := by show _ = _; unfold kidsD; rw [if_neg (by simp [his])]
    go_enter Tryz.func42, Tryz.ntmps42
    go_wp2_with (go_at_call 19; refine (ris_any H.out _ _).mono ?_; rintro e w' ⟨rfl, hww⟩; subst hww; rw [his])
    go_ret
    exact ⟨none, 0, by rw [E.out]; rfl, by rw [E.out]; exact Or.inl (ints_nil _), Below.refl _ _⟩
  | true =>
    obtain ⟨k, rfl, hk, hlv⟩ := isN_nat his
    have hk' : k < rs.length := by rw [H.out.len]; exact hk
    have h5 := H.out.row.c5 k hk'
    have h6 := H.out.row.c6 k hk'
    have h7 := H.out.row.c7 k hk'
    have E : Hid (kidsD d (k : Int) = if rs[k].hasS then (Tn.nd d k).shadow else if (givenD d (k : Int)).isEmpty then (Tn.nd d k).kids else givenD d (k : Int)) := by
      show _ = _
      unfold kidsD
      rw [if_pos his, Int.toNat_natCast, (H.out.nds k hk' hk).hasS, ← nd_at hk]
    have hki : IntsAt w0 (.slice rs[k].k.p rs[k].k.n rs[k].k.c) (Tn.nd d k).kids := by rw [nd_at hk]; exact (hd0.nds k hk' hk).kids
    have hsi : IntsAt w0 (.slice rs[k].s.p rs[k].s.n rs[k].s.c) (Tn.nd d k).shadow := by rw [nd_at hk]; exact (hd0.nds k hk' hk).shadow
    have hkn : rs[k].k.n = (Tn.nd d k).kids.length := hl_of hki
    have hsn : rs[k].s.n = (Tn.nd d k).shadow.length := hl_of hsi
    have hG := qgiven_any H.out hf (k : Int)
    rw [hkn] at h5 hki
    rw [hsn] at h7 hsi
    generalize kidsD d (k : Int) = res at *
    generalize givenD d (k : Int) = gv at *
    generalize (Tn.nd d k).kids = kd at *
    generalize (Tn.nd d k).shadow = sd at *
    generalize rs[k].hasS = hs at *
    generalize rs[k].k.p = kp at *
    generalize rs[k].k.c = kc at *
    generalize rs[k].s.p = sp at *
    generalize rs[k].s.c = sc at *
    have QK : Hid _ := hki
    have QS : Hid _ := hsi
    clear hlv hkn hsn hki hsi hd0
    cases hs with
    | true =>
      have E2 : Hid (res = sd) := by show _ = _; rw [E.out]; rfl
      clear E
      go_enter Tryz.func42, Tryz.ntmps42
      go_wp2_with (go_at_call 19; refine (ris_any H.out _ _).mono ?_; rintro e w' ⟨rfl, hww⟩; subst hww; rw [his])
      go_ret
      exact ⟨sp, sc, by rw [E2.out]; rfl, by rw [E2.out]; exact Or.inl QS.out, Below.refl _ _⟩
    | false =>
      cases hgv : gv.isEmpty with
      | true =>
        have E2 : Hid (res = kd) := by show _ = _; rw [E.out, hgv]; rfl
        have hgl : gv.length = 0 := by simpa using hgv
        clear E hgv
        go_enter Tryz.func42, Tryz.ntmps42
        go_wp2_with (first
          | (go_at_call 19; refine (ris_any H.out _ _).mono ?_; rintro e w' ⟨rfl, hww⟩; subst hww; rw [his])
          | (go_at_call 72; refine hG.mono ?_; rintro e w8 ⟨v8, rfl, ho8, hb8⟩; have o8 := ho8; obtain ⟨p8, c8, rfl⟩ := o8.shape; have h58 := keeps_below hb8 (Nat.le_refl _) _ _ h5))
        go_ret
        exact ⟨kp, kc, by rw [E2.out]; rfl, by rw [E2.out]; exact Or.inl QK.out, hb8⟩
      | false =>
        have E2 : Hid (res = gv) := by show _ = _; rw [E.out, hgv]; rfl
        have hgl : (0 : Int) < (gv.length : Int) := by
          cases gv with
          | nil => simp at hgv
          | cons a t => simp
        clear E hgv
        go_enter Tryz.func42, Tryz.ntmps42
        go_wp2_with (first
          | (go_at_call 19; refine (ris_any H.out _ _).mono ?_; rintro e w' ⟨rfl, hww⟩; subst hww; rw [his])
          | (go_at_call 72; refine hG.mono ?_; rintro e w8 ⟨v8, rfl, ho8, hb8⟩; have o8 := ho8; obtain ⟨p8, c8, rfl⟩ := o8.shape; have h58 := keeps_below hb8 (Nat.le_refl _) _ _ h5))
        go_ret
        exact ⟨p8, c8, by rw [E2.out]; rfl, by rw [E2.out]; exact Or.inr ho8, hb8⟩

theorem qkids_any {w : World} {b o c : Nat} {rs : List Raw} {d : Tn.Dc} (hd : DocAt w b o c rs d) (hf : Fine d) (n : Int) :
    Calls Tryz.prog 42 #[.slice (some ⟨b, o, none⟩) rs.length c, .int .i64 n] w fun e w' => ∃ p cc, e = .returned (.slice p (kidsD d n).length cc) ∧ IntsAt w' (.slice p (kidsD d n).length cc) (kidsD d n) ∧ Below w.heap.size w w' := by
  refine (qkids_two hd hd hf n).mono ?_
  rintro e w' ⟨p, cc, rfl, h, hb⟩
  refine ⟨p, cc, rfl, ?_, hb⟩
  rcases h with h | h
  · exact h.keeps (keeps_below hb (Nat.le_refl _))
  · exact ints_of_owns h
end Go.Proofs.YtcinjbolflhjmadGreatDoor

/-
  THE WALK of the reference's Up.
-/
namespace Go.Proofs.YtcinjbolflhjmadGreatDoor
open Go.RowKit

set_option maxHeartbeats 1600000 in
set_option maxRecDepth 100000 in
theorem qup_any {w : World} {b o c : Nat} {rs : List Raw} {d : Tn.Dc} (hd : DocAt w b o c rs d) (hf : Fine d) (n : Int) :
    Calls Tryz.prog 34 #[.slice (some ⟨b, o, none⟩) rs.length c, .int .i64 n] w fun e w' => e = .returned (.int .i64 (upF d n)) ∧ Below w.heap.size w w' := by
  have H : Hid (DocAt w b o c rs d) := hd
  have L : Hid (rs.length = d.length) := hd.len
  have hrl : rs.length ≤ 1000 := by rw [hd.len]; have := hf.good.len.2; omega
  have HK : Hid (∀ (W : World) (x : Int), DocAt W b o c rs d → Calls Tryz.prog 42 #[.slice (some ⟨b, o, none⟩) rs.length c, .int .i64 x] W fun e w' => ∃ p cc, e = .returned (.slice p (kidsD d x).length cc) ∧ IntsAt w' (.slice p (kidsD d x).length cc) (kidsD d x) ∧ Below W.heap.size W w') := fun W x hW => qkids_any hW hf x
  clear hd
  go_enter Tryz.func34, Tryz.ntmps34
  go_wp2_with fail
  go_loopw [10] (fun i wr => ∃ j : Nat, j ≤ rs.length ∧ i = .int .i64 j ∧ Hid (∀ m : Nat, m < j → ∀ x ∈ kidsD d (m : Int), (x : Int) ≠ n) ∧ Below w.heap.size w wr) (fun i _ => rs.length - (intOf i).toNat)
  case atStart => exact ⟨0, Nat.zero_le _, rfl, fun m hm => by omega, Below.refl _ _⟩
  case round =>
    obtain ⟨j, hj, rfl, NO, hnx⟩ := hrel
    have DR : Hid (DocAt wr b o c rs d) := H.out.keeps (keeps_below hnx (Nat.le_refl _))
    by_cases hlt : j < rs.length
    · have hKC := HK.out wr (j : Int) DR.out
      have FU : Hid (∀ k ∈ kidsD d (j : Int), (k : Int) = n → upF d n = (j : Int)) := fun k hk e => by rw [← e]; exact up_of_kid hf hk
      have N1 : Hid ((∀ x ∈ kidsD d (j : Int), (x : Int) ≠ n) → ∀ m : Nat, m < j + 1 → ∀ x ∈ kidsD d (m : Int), (x : Int) ≠ n) := fun h m hm x hx => by
        by_cases e : m = j
        · rw [e] at hx
          exact h x hx
        · exact NO.out m (by omega) x hx
      have hjl : (j : Int) < (rs.length : Int) := by omega
      generalize kidsD d (j : Int) = kl at *
      go_upto_region 5 with (go_at_call 42; refine hKC.mono ?_; rintro e w2 ⟨p2, c2, rfl, hi2, hb2⟩)
      obtain ⟨_, _, he, k1, k2, _, hat⟩ := hi2.at
      cases he
      have TK : Hid (∀ j (hj : j < kl.length), ∃ b o, p2 = some ⟨b, o, none⟩ ∧ w2.cell? ⟨b, o + j, none⟩ = some (.int .i64 (kl[j] : Int))) := hat
      have B2 : Below w.heap.size w w2 := hnx.trans (hb2.mono hnx.size)
      clear hat hi2 hKC
      go_loopw [17] (fun i wq => ∃ q : Nat, q ≤ kl.length ∧ i = .int .i64 q ∧ Hid (∀ x ∈ kl.take q, (x : Int) ≠ n) ∧ Below w2.heap.size w2 wq) (fun i _ => kl.length - (intOf i).toNat)
      case atStart => exact ⟨0, Nat.zero_le _, rfl, fun x hx => by simp at hx, Below.refl _ _⟩
      case round =>
        obtain ⟨q, hq, rfl, NQ, hbq⟩ := hrel
        have BQ : Below w.heap.size w wr := B2.trans (hbq.mono B2.size)
        by_cases hql : q < kl.length
        · obtain ⟨b3, o3, rfl, hc3⟩ := TK.out q hql
          have hcq := keeps_below hbq (Nat.le_refl _) _ _ hc3
          have R1 := FU.out kl[q] (List.getElem_mem hql)
          have N3 : (kl[q] : Int) ≠ n → Hid (∀ x ∈ kl.take (q + 1), (x : Int) ≠ n) := fun hno x hx => by
            rw [List.take_succ_eq_append_getElem hql, List.mem_append, List.mem_singleton] at hx
            rcases hx with hx | rfl
            · exact NQ.out x hx
            · exact hno
          clear hc3
          generalize kl[q] = x at *
          by_cases e : (x : Int) = n
          · have R2 : Hid (upF d n = (j : Int)) := R1 e
            have hq1 : ((x : Int) == n) = true := by simpa using e
            clear R1 N3 e
            go_wp2_with fail
            go_ret
            exact ⟨by rw [R2.out]; rfl, BQ⟩
          · have N4 := N3 e
            have hq1 : ((x : Int) == n) = false := by simpa using e
            clear R1 N3 e
            go_wp2_with fail
            go_roundw
            case rel => exact ⟨q + 1, by omega, by go_num, N4, hbq⟩
            case measure => simp [intOf]; omega
        · obtain rfl : q = kl.length := by omega
          have N4 : Hid (∀ m : Nat, m < j + 1 → ∀ x ∈ kidsD d (m : Int), (x : Int) ≠ n) := N1.out (fun x hx => NQ.out x (by rw [List.take_length]; exact hx))
          go_wp2_with fail
          go_roundw
          case rel => exact ⟨j + 1, by omega, by go_num, N4, BQ⟩
          case measure => simp [intOf]; omega
    · obtain rfl : j = rs.length := by omega
      have E : Hid (upF d n = -1) := up_none (fun m x hx => by
        obtain ⟨m', e, hl⟩ := kid_nat hx
        have : m = m' := by omega
        have h1 := Tn.lv_lt hl
        have h2 := L.out
        exact NO.out m (by omega) x hx)
      go_wp2_with fail
      go_ret
      exact ⟨by rw [E.out]; rfl, hnx⟩
end Go.Proofs.YtcinjbolflhjmadGreatDoor

/-
  THE WALK of the reference's Shown.
-/
namespace Go.Proofs.YtcinjbolflhjmadGreatDoor
open Go.RowKit

/-- append of a list that has something, and where what comes of it lies -/
theorem append_ints2 {w0 wr : World} {ops : Array Oper} {rest : List Oper} {o : Oper} {a : Act} {Q : Exit → Act → World → Prop} (hgd : o.guard = none)
    (s x : Operand) (ho : o.op = Op.call { callee := Callee.builtin Builtin.append, args := #[s, x], argTypes := #[29, 29] }) {B : Nat} {v u : Value} {l m : List Nat}
    (hs : a.eval s = v) (hx : a.eval x = u) (hown : OwnI wr B v l) (hm : IntsAt wr u m) (hm0 : m ≠ []) (hnx : Below B w0 wr) (hB : B ≤ wr.heap.size) (hsz : l.length + m.length ≤ 1000000)
    (h : ∀ v' w1, OwnI w1 B v' (l ++ m) → Below B w0 w1 → wr.grownBy w1 v.ownBlock → (v'.ownBlock = v.ownBlock ∨ ∃ g, wr.heap.size ≤ g ∧ v'.ownBlock = some g) → wpList Tryz.prog ops Q rest (a.put o.dst v') w1) :
    wpList Tryz.prog ops Q (o :: rest) a wr := by
  obtain ⟨i0, hi, hz0, hz1, hz2⟩ := info_parts infoI
  unfold OwnI at hown h
  obtain ⟨p, c, rfl, h1, h2, h3, h4⟩ := hm
  have hpos : 0 < m.length := List.length_pos_iff.mpr hm0
  obtain ⟨b, off, rfl, _⟩ := h4 0 (iv (m[0]'hpos)) (by rw [List.getElem?_map, List.getElem?_eq_getElem hpos]; rfl)
  have hnews : ∀ (j : Nat) (u : Value), (m.map iv)[j]? = some u → wr.cell? ((⟨b, off, none⟩ : Addr).add j) = some u := by
    intro j u hu
    obtain ⟨b', o', e1, e2⟩ := h4 j u hu
    cases e1
    rw [add_at]
    exact e2
  have hone : ∀ u ∈ m.map iv, u.oneCell' = true := by
    intro u hu
    simp at hu
    obtain ⟨q, _, rfl⟩ := hu
    rfl
  have hzs : (i0.size : Nat) = 1 := hz1
  refine wpList_plain hgd fun K hK => ?_
  obtain ⟨v', w', hr, g2, g3, _⟩ := run_append_own (P := Tryz.prog) wr B 29 o.type 3 i0 (.int .i64 0) 1 8 Tryz.underlying29 hi hz0 hz1 hz2 rfl (by decide) v _ _ hown ⟨b, off, none⟩ m.length c (m.map iv) (by simp) hnews hone (by unfold maxLen; omega) (by omega) hB
  have hn := hnx.grown g3 hB (fun j hj => (hown.lt j hj).1)
  have hblk : v'.ownBlock = v.ownBlock ∨ ∃ g, wr.heap.size ≤ g ∧ v'.ownBlock = some g := by
    rcases hown.2 with ⟨rfl, hn0⟩ | ⟨g, cap, cur, rfl, hbg, hg, hnc, hcm, hcs, htake⟩
    · have hr2 := run_append_nil (P := Tryz.prog) wr 29 o.type 3 i0 (.int .i64 0) Tryz.underlying29 hi hz0 ⟨b, off, none⟩ m.length c (m.map iv) (by rw [hzs]; simp) hnews hpos (by omega) (by rw [hz2]; omega)
      rw [hr2] at hr
      injection hr with e1 e2
      right
      refine ⟨wr.heap.size, Nat.le_refl _, ?_⟩
      rw [← e1]
      rfl
    · by_cases hroom : l.length + m.length ≤ cap
      · have hr2 := run_append_room (P := Tryz.prog) wr 29 o.type 3 i0 Tryz.underlying29 hi g l.length cap cur hg ⟨b, off, none⟩ m.length c (m.map iv) (by rw [hzs]; simp) hnews hone hroom (by rw [hzs, hcs]; simp; omega)
        rw [hr2] at hr
        injection hr with e1 e2
        left
        rw [← e1]
        rfl
      · have hr2 := run_append_grow (P := Tryz.prog) wr 29 o.type 3 i0 (.int .i64 0) Tryz.underlying29 hi hz0 ⟨g, 0, none⟩ l.length cap _ (by rw [hzs]; exact hown.1) (World.ownsRow.cells hown (g := g) rfl) ⟨b, off, none⟩ m.length c (m.map iv) (by rw [hzs]; simp) hnews (by omega) (by omega) (growslice_fits (by omega) (by rw [hz2]; omega))
        rw [hr2] at hr
        injection hr with e1 e2
        right
        refine ⟨wr.heap.size, Nat.le_refl _, ?_⟩
        rw [← e1]
        rfl
  unfold Oper.wp execOp
  simp only [ho, resolve, invoke, builtin, Sem.run_bind, Sem.run_pure, Result.andThen_ok, List.map_toArray, List.map_cons, List.map_nil, hs, hx, hr]
  exact hK _ _ (h v' w' (by simpa using g2) hn g3 hblk)

theorem shown_ne {d : Tn.Dc} {f n : Nat} (h : EndF f d n) : shownF f d n ≠ [] := by
  cases f with
  | zero => exact absurd h (by simp [EndF])
  | succ f => simp [shownF]

set_option maxHeartbeats 1600000 in
set_option maxRecDepth 100000 in
theorem qshown_any {b o c : Nat} {rs : List Raw} {d : Tn.Dc} (hf : Fine d) (f : Nat) : ∀ (n : Nat) (w : World), DocAt w b o c rs d → EndF f d n → (shownF f d n).length ≤ 10000 →
    Calls Tryz.prog 20 #[.slice (some ⟨b, o, none⟩) rs.length c, .int .i64 (n : Int)] w fun e w' => ∃ v, e = .returned v ∧ OwnI w' w.heap.size v (shownF f d n) ∧ Below w.heap.size w w' := by
  induction f with
  | zero => intro n w _ h; exact absurd h (by simp [EndF])
  | succ f ih =>
    intro n w hd hE hz
    have H : Hid (DocAt w b o c rs d) := hd
    have EE : Hid (∀ k ∈ kidsD d (n : Int), EndF f d k) := hE
    have SF : Hid (shownF (f + 1) d n = n :: (kidsD d (n : Int)).flatMap (shownF f d)) := rfl
    have Z : Hid ((shownF (f + 1) d n).length ≤ 10000) := hz
    have O1 := own_one w n
    have B1 := (Below.refl w.heap.size w).alloc (Nat.le_refl _) (.cells #[.int .i64 (n : Int)] 3)
    have hKC := qkids_two hd (hd.keeps (keeps_alloc w (.cells #[.int .i64 (n : Int)] 3))) hf (n : Int)
    have hz1 : w.heap.size < (w.alloc (.cells #[.int .i64 (n : Int)] 3)).heap.size := by simp
    have hkz : (kidsD d (n : Int)).length ≤ 100000 := by
      have h1 := Z.out
      rw [SF.out] at h1
      have h2 : (kidsD d (n : Int)).length ≤ ((kidsD d (n : Int)).flatMap (shownF f d)).length := by
        have : ∀ l : List Nat, (∀ k ∈ l, EndF f d k) → l.length ≤ (l.flatMap (shownF f d)).length := by
          intro l
          induction l with
          | nil => simp
          | cons a l ihl =>
            intro hl
            have ha := hl a (by simp)
            have := ihl (fun k hk => hl k (by simp [hk]))
            have h3 := List.length_pos_iff.mpr (shown_ne ha)
            rw [List.flatMap_cons, List.length_append, List.length_cons]
            omega
        exact this _ EE.out
      rw [List.length_cons] at h1
      omega
    clear hd hE hz
    generalize kidsD d (n : Int) = l at *
    go_enter Tryz.func20, Tryz.ntmps20
    go_upto_region 2 with fail
    generalize w.alloc (.cells #[.int .i64 (n : Int)] 3) = w1 at *
    go_upto_region 3 with (go_at_call 42; refine hKC.mono ?_; rintro e w2 ⟨p2, c2, rfl, hi2, hb2⟩)
    have T : Hid (∀ j (hj : j < l.length), ∃ b1 o1, p2 = some ⟨b1, o1, none⟩ ∧ b1 ≠ w.heap.size ∧ w2.cell? ⟨b1, o1 + j, none⟩ = some (.int .i64 (l[j] : Int))) := by
      intro j hj
      rcases hi2 with hi2 | hi2
      · obtain ⟨_, _, he, _, _, _, hat⟩ := hi2.at
        cases he
        obtain ⟨b1, o1, e1, e2⟩ := hat j hj
        have hlt := lt_of_cell e2
        have e3 := keeps_below (B1.trans (hb2.mono (Nat.le_of_lt hz1))) (Nat.le_refl _) _ _ e2
        exact ⟨b1, o1, e1, by have hlt' : b1 < w.heap.size := hlt; omega, e3⟩
      · obtain ⟨_, _, he, _, _, _, hat⟩ := (ints_of_owns hi2).at
        cases he
        obtain ⟨b1, o1, e1, e2⟩ := hat j hj
        have hge := OwnI.off hi2 _ e1
        exact ⟨b1, o1, e1, by have hge' : w1.heap.size ≤ b1 := hge; omega, e2⟩
    have hlc : l.length ≤ c2 ∧ c2 ≤ 9223372036854775807 := by
      rcases hi2 with hi2 | hi2
      · obtain ⟨_, _, he, h1, h2, _⟩ := hi2.at
        cases he
        exact ⟨h1, h2⟩
      · obtain ⟨_, _, he, h1, h2, _⟩ := (ints_of_owns hi2).at
        cases he
        exact ⟨h1, h2⟩
    obtain ⟨hlc1, hlc2⟩ := hlc
    have O2 : OwnI w2 w.heap.size (.slice (some ⟨w.heap.size, 0, none⟩) 1 1) [n] := O1.below hb2 (Nat.le_refl _)
    have B2 : Below w.heap.size w w2 := B1.trans (hb2.mono (Nat.le_of_lt hz1))
    clear hi2 hKC O1 hb2 hz1 B1
    go_loopw [5, 14] (fun v i wr => ∃ j : Nat, j ≤ l.length ∧ i = .int .i64 j ∧ OwnI wr w.heap.size v (n :: (l.take j).flatMap (shownF f d)) ∧ Below w.heap.size w wr ∧ Mv w.heap.size (some w.heap.size) v.ownBlock w2 wr) (fun _ i _ => l.length - (intOf i).toNat)
    case atStart => exact ⟨0, Nat.zero_le _, rfl, by simpa using O2, B2, Mv.refl _ _ _⟩
    case round =>
      obtain ⟨j, hj, rfl, hown, hnx, MR⟩ := hrel
      have DR : Hid (DocAt wr b o c rs d) := H.out.keeps (keeps_below hnx (Nat.le_refl _))
      by_cases hlt : j < l.length
      · obtain ⟨b1, o1, rfl, hbne, hc⟩ := T.out j hlt
        have hcr := MR.cell hc hbne (by intro e; injection e with e; exact hbne e)
        have F : Hid ((n :: (l.take (j + 1)).flatMap (shownF f d)) = (n :: (l.take j).flatMap (shownF f d)) ++ shownF f d l[j]) := by
          show _ = _
          rw [List.take_succ_eq_append_getElem hlt, List.flatMap_append]
          simp
        have hz : ((n :: (l.take j).flatMap (shownF f d)) ++ shownF f d l[j]).length ≤ 10000 := by
          rw [← F.out]
          have h1 := Z.out
          have h2 := take_flat_len l (shownF f d) (j + 1)
          rw [SF.out] at h1
          rw [List.length_cons] at h1 ⊢
          omega
        have hEj := EE.out _ (List.getElem_mem hlt)
        have hC := ih l[j] wr DR.out hEj (by rw [List.length_append] at hz; omega)
        have hne := shown_ne hEj
        have hz2 : (n :: (l.take j).flatMap (shownF f d)).length + (shownF f d l[j]).length ≤ 1000000 := by rw [List.length_append] at hz; omega
        have QM : Hid _ := MR
        have QE : Hid _ := hne
        clear hc hz hEj hne MR
        generalize shownF f d l[j] = sub at *
        generalize n :: (l.take j).flatMap (shownF f d) = acc at *
        generalize l[j] = x at *
        go_wp2_with (first
          | (go_at_call 20; refine hC.mono ?_; rintro e w5 ⟨v5, rfl, ho5, hb5⟩; have o5 := hown.below hb5 (Nat.le_refl _); have n5 := hnx.trans (hb5.mono hnx.size); have m5 := QM.out.below hb5)
          | (at_builtin; refine append_ints2 (w0 := w) rfl _ _ rfl rfl rfl o5 (ints_of_owns ho5) QE.out n5 n5.size hz2 ?_; intro v6 w6 o6 n6 g6 b6))
        go_roundw
        case rel =>
          refine ⟨j + 1, by omega, by go_num, by rw [F.out]; exact o6, n6, m5.trans ⟨g6.os, g6.tape, g6.output, g6.size, fun i hi _ hr => g6.block i hi (fun e => hr e), b6⟩⟩
        case measure => simp [intOf]; omega
      · obtain rfl : j = l.length := by omega
        rw [List.take_length] at hown
        go_wp2_with fail
        go_ret
        exact ⟨_, rfl, by rw [SF.out]; exact hown, hnx⟩
end Go.Proofs.YtcinjbolflhjmadGreatDoor

/-
  TWO ATTRIBUTES THAT ARE ONE ARE NOT UNLIKE.
-/
namespace Go.Proofs.YtcinjbolflhjmadGreatDoor
open Go.RowKit
theorem attr_neq (W : World) (a b : ByteArray) : (binOp .neq 80 (.agg #[.string a, .string b]) (.agg #[.string a, .string b])).run Tryz.prog W = .ok (.bool false) W := by
  have u9 := Tryz.underlying9
  have hS : Tryz.prog.underlying 80 = some (.struct (Tryz.prog.fieldsOf 80)) := by kernel_rfl
  have hp : Tryz.prog.stoodInHeld 80 = false := by kernel_rfl
  rw [run_neq_struct, show (10000 : Nat) = 9999 + 1 from rfl, run_equalIn_agg W 9999 80 _ _ hS hp]
  simp only [Program.fieldsOf, Tryz.underlying80]
  go_simp
theorem attr_guard (W : World) (x y : Operand) (xs ys : Array Value) : (eqGuard .neq 80 x y (.agg xs) (.agg ys)).run Tryz.prog W = .ok () W := run_eqGuard_agg W .neq 80 x y xs ys (by kernel_rfl)
end Go.Proofs.YtcinjbolflhjmadGreatDoor

/-
  THE WALKS of the reference's SameInts and Same, at what reads the same.
-/
namespace Go.Proofs.YtcinjbolflhjmadGreatDoor
open Go.RowKit

set_option maxHeartbeats 800000 in
set_option maxRecDepth 100000 in
theorem rsameints_true {w : World} {v1 v2 : Value} {l : List Nat} (h1 : IntsAt w v1 l) (h2 : IntsAt w v2 l) :
    Calls Tryz.prog 26 #[v1, v2] w fun e w' => e = .returned (.bool true) ∧ Below w.heap.size w w' := by
  obtain ⟨p1, c1, rfl, a1, a2, _, at1⟩ := h1.at
  obtain ⟨p2, c2, rfl, b1, b2, _, at2⟩ := h2.at
  have T1 : Hid (∀ j (hj : j < l.length), ∃ b o, p1 = some ⟨b, o, none⟩ ∧ w.cell? ⟨b, o + j, none⟩ = some (.int .i64 (l[j] : Int))) := at1
  have T2 : Hid (∀ j (hj : j < l.length), ∃ b o, p2 = some ⟨b, o, none⟩ ∧ w.cell? ⟨b, o + j, none⟩ = some (.int .i64 (l[j] : Int))) := at2
  clear at1 at2 h1 h2
  go_enter Tryz.func26, Tryz.ntmps26
  go_wp2_with fail
  go_loopw [13] (fun i wr => ∃ j : Nat, j ≤ l.length ∧ i = .int .i64 j ∧ Below w.heap.size w wr) (fun i _ => l.length - (intOf i).toNat)
  case atStart => exact ⟨0, Nat.zero_le _, rfl, Below.refl _ _⟩
  case round =>
    obtain ⟨j, hj, rfl, hnx⟩ := hrel
    by_cases hlt : j < l.length
    · obtain ⟨e1, o1, rfl, k1⟩ := T1.out j hlt
      obtain ⟨e2, o2, rfl, k2⟩ := T2.out j hlt
      have y1 := keeps_below hnx (Nat.le_refl _) _ _ k1
      have y2 := keeps_below hnx (Nat.le_refl _) _ _ k2
      clear k1 k2
      generalize l[j] = x at *
      have hq : (((x : Nat) : Int) == (x : Int)) = true := by simp
      have hj2 : (j : Int) < (l.length : Int) := by omega
      go_wp2_with fail
      go_quiet (fail)
      go_wp2_with fail
      go_roundw
      case rel => exact ⟨j + 1, by omega, by go_num, hnx.trans ⟨rfl, rfl, rfl, Nat.le_refl _, fun _ _ => rfl⟩⟩
      case measure => simp [intOf]; omega
    · obtain rfl : j = l.length := by omega
      go_wp2_with fail
      go_ret
      exact ⟨rfl, hnx⟩

end Go.Proofs.YtcinjbolflhjmadGreatDoor

/-
  THE WALKS of the reference's All where there is no node, and Find; of dom.All where there is no node; of Same at two documents that are nil.
-/
namespace Go.Proofs.YtcinjbolflhjmadGreatDoor
open Go.RowKit

set_option maxHeartbeats 800000 in
theorem rall_no {w : World} {b o c : Nat} {rs : List Raw} {d : Tn.Dc} (hd : DocAt w b o c rs d) (n : Int) (hn : Tn.isN d n false = false) :
    Calls Tryz.prog 44 #[.slice (some ⟨b, o, none⟩) rs.length c, .int .i64 n] w fun e w' => e = .returned (.slice none 0 0) ∧ w' = w := by
  have H : Hid (DocAt w b o c rs d) := hd
  clear hd
  go_enter Tryz.func44, Tryz.ntmps44
  go_wp2_with (go_at_call 19; refine (ris_any H.out _ _).mono ?_; rintro e w' ⟨rfl, hww⟩; subst hww; rw [hn])
  go_ret
  exact ⟨rfl, rfl⟩

set_option maxHeartbeats 800000 in
theorem dall1_no {w : World} {b o c D A K X : Nat} {rs : List Raw} {d : Tn.Dc} (hd : DocAt w b o c rs d) (n : Int) (hn : Tn.isN d n false = false) (hD : w.cell? ⟨D, 0, none⟩ = some (.slice (some ⟨b, o, none⟩) rs.length c)) (hX : w.cell? ⟨X, 0, none⟩ = some (.int .i64 n)) :
    Calls Tryz.prog 132 #[.slice (some ⟨X, 0, none⟩) 1 1, .pointer (some ⟨D, 0, none⟩), .pointer (some ⟨A, 0, none⟩), .pointer (some ⟨K, 0, none⟩)] w fun e w' => e = .returned (.tuple #[]) ∧ w' = w := by
  have H : Hid (DocAt w b o c rs d) := hd
  clear hd
  go_enter Tryz.func132, Tryz.ntmps132
  go_wp2_with fail
  refine wp_loop_rounds 2 ?_
  rw [rounds_succ]
  go_wp2_with (go_at_call 27; refine (dis_any H.out _ _).mono ?_; rintro e w' ⟨rfl, hww⟩; subst hww; rw [hn])
  rw [rounds_succ]
  go_wp2_with fail
  go_end0
  exact ⟨rfl, rfl⟩
set_option maxHeartbeats 1600000 in
set_option maxRecDepth 100000 in
theorem dall_no {w : World} {b o c : Nat} {rs : List Raw} {d : Tn.Dc} (hd : DocAt w b o c rs d) (n : Int) (hn : Tn.isN d n false = false) :
    Calls Tryz.prog 110 #[.slice (some ⟨b, o, none⟩) rs.length c, .int .i64 n] w fun e w' => e = .returned (.slice none 0 0) ∧ Below w.heap.size w w' := by
  have hst : ∀ (W : World) (a : Addr) (fn : Fn) (x y : Array Value), Sem.run Tryz.prog (store a (.func fn x y)) W = stored Tryz.prog W a (.func fn x y) .plain := fun W a fn x y => run_store Tryz.prog W a (.func fn x y) .plain rfl
  obtain ⟨WW, hWW⟩ : ∃ WW : World, WW = ((((w.alloc (.cells #[.slice (some ⟨b, o, none⟩) rs.length c] 24)).alloc (.cells #[.slice none 0 0] 29)).alloc (.cells #[.func (.func 132) #[] #[.pointer (some ⟨w.heap.size, 0, none⟩), .pointer (some ⟨w.heap.size + 1, 0, none⟩), .pointer (some ⟨w.heap.size + 1 + 1, 0, none⟩)]] 116)).alloc (.cells #[.int .i64 n] 3)) := ⟨_, rfl⟩
  have hB : Below w.heap.size w WW := by
    rw [hWW]
    exact ((((Below.refl w.heap.size w).alloc (Nat.le_refl _) _).alloc (by simp) _).alloc (by simp; omega) _).alloc (by simp; omega) _
  have hC : Calls Tryz.prog 132 #[.slice (some ⟨w.heap.size + 1 + 1 + 1, 0, none⟩) 1 1, .pointer (some ⟨w.heap.size, 0, none⟩), .pointer (some ⟨w.heap.size + 1, 0, none⟩), .pointer (some ⟨w.heap.size + 1 + 1, 0, none⟩)] WW fun e w' => e = .returned (.tuple #[]) ∧ Below w.heap.size w w' ∧ w'.cell? ⟨w.heap.size + 1, 0, none⟩ = some (.slice none 0 0) := by
    have hd4 := hd.keeps (keeps_below hB (Nat.le_refl _))
    have q : WW.heap[w.heap.size]? = some (.cells #[.slice (some ⟨b, o, none⟩) rs.length c] 24 (0, 0)) ∧ WW.heap[w.heap.size + 1]? = some (.cells #[.slice none 0 0] 29 (0, 0)) ∧ WW.heap[w.heap.size + 1 + 1 + 1]? = some (.cells #[.int .i64 n] 3 (0, 0)) := by
      rw [hWW]
      clear hWW hB hd4 hst hd hn
      have z1 : (w.alloc (.cells #[.slice (some ⟨b, o, none⟩) rs.length c] 24)).heap.size = w.heap.size + 1 := by simp
      have b1 := heap_alloc_new w (.cells #[.slice (some ⟨b, o, none⟩) rs.length c] 24)
      generalize w.alloc (.cells #[.slice (some ⟨b, o, none⟩) rs.length c] 24) = w1 at *
      have z2 : (w1.alloc (.cells #[.slice none 0 0] 29)).heap.size = w.heap.size + 1 + 1 := by simp [z1]
      have b2 := blk_new w1 (.cells #[.slice none 0 0] 29) z1
      have b12 := blk_alloc b1 (.cells #[.slice none 0 0] 29)
      generalize w1.alloc (.cells #[.slice none 0 0] 29) = w2 at *
      generalize (Obj.cells #[.func (.func 132) #[] #[.pointer (some ⟨w.heap.size, 0, none⟩), .pointer (some ⟨w.heap.size + 1, 0, none⟩), .pointer (some ⟨w.heap.size + 1 + 1, 0, none⟩)]] 116) = o3
      have z3 : (w2.alloc o3).heap.size = w.heap.size + 1 + 1 + 1 := by simp [z2]
      have b23 := blk_alloc b2 o3
      have b13 := blk_alloc b12 o3
      generalize w2.alloc o3 = w3 at *
      exact ⟨blk_alloc b13 _, blk_alloc b23 _, blk_new w3 _ z3⟩
    refine (dall1_no (X := w.heap.size + 1 + 1 + 1) (D := w.heap.size) (A := w.heap.size + 1) (K := w.heap.size + 1 + 1) hd4 n hn ?_ ?_).mono ?_
    · simp [World.cell?, q.1]
    · simp [World.cell?, q.2.2]
    · rintro e w' ⟨e1, e2⟩
      refine ⟨e1, by rw [e2]; exact hB, ?_⟩
      rw [e2]
      simp [World.cell?, q.2.1]
  rw [hWW] at hC
  clear hd hWW hB
  go_enter Tryz.func110, Tryz.ntmps110
  go_wp2_with (go_at_call 132; refine hC.mono ?_; rintro e w9 ⟨rfl, hb9, hc9⟩)
  go_ret
  exact ⟨rfl, hb9⟩

theorem hit_eq (d : Tn.Dc) (id : ByteArray) (sc : Int) (k : Nat) (h0 : id.toList.isEmpty = false) : hitD d id sc k = (((valN d (k : Int) idT).toList == id.toList) && (scopeD d (k : Int) == sc)) := by
  have e : attrN d (k : Int) idT = idOf d k := by unfold attrN idOf; rw [Int.toNat_natCast]
  unfold hitD valN
  rw [e]
  cases idOf d k with
  | some x => rfl
  | none =>
    have e2 : (Option.getD none (⟨#[]⟩ : ByteArray)).toList = [] := by rw [ByteArray.toList_eq]; rfl
    rw [e2]
    have : (([] : List UInt8) == id.toList) = false := by
      cases hq : id.toList with
      | nil => rw [hq] at h0; cases h0
      | cons a b => rfl
    rw [this]
    rfl

theorem find_take {p : Nat → Bool} {l : List Nat} {j : Nat} (hj : j < l.length) (hp : p l[j] = true) (hn : ∀ k ∈ l.take j, p k = false) : l.find? p = some l[j] := by
  rw [List.find?_eq_some_iff_getElem]
  refine ⟨hp, j, hj, rfl, fun i hi => ?_⟩
  have := hn l[i] (List.mem_take_iff_getElem.mpr ⟨i, by omega, rfl⟩)
  simp [this]
theorem find_none {p : Nat → Bool} {l : List Nat} (hn : ∀ k ∈ l, p k = false) : l.find? p = none := by
  rw [List.find?_eq_none]
  intro x hx
  simp [hn x hx]

set_option maxHeartbeats 1600000 in
set_option maxRecDepth 100000 in
theorem rfind_any {w : World} {b o c : Nat} {rs : List Raw} {d : Tn.Dc} (hd : DocAt w b o c rs d) (hf : Fine d) (n : Int) (id : ByteArray) :
    Calls Tryz.prog 22 #[.slice (some ⟨b, o, none⟩) rs.length c, .int .i64 n, .string id] w fun e w' => e = .returned (.int .i64 (findD d n id)) ∧ Below w.heap.size w w' := by
  have H : Hid (DocAt w b o c rs d) := hd
  have HF : Hid (Fine d) := hf
  obtain ⟨r, hr, _⟩ := hf.good.tr
  have hlv : Tn.lvD d 0 = true := hr.1.root
  have HA := rall_own (fun f n => few_of hf.good f n) Tn.fuel 0 w hd ((tame_good hf.good).ends 0 hlv)
  have HAll : Hid (Calls Tryz.prog 44 #[.slice (some ⟨b, o, none⟩) rs.length c, .int .i64 0] w fun e w' => ∃ v, e = .returned v ∧ OwnI w' w.heap.size v (Tn.all Tn.fuel d 0) ∧ Below w.heap.size w w') := HA
  clear HA hd hf hr hlv
  cases he : id.toList.isEmpty with
  | true =>
    have E : Hid (findD d n id = -1) := by show _ = _; unfold findD; rw [if_pos (Or.inl he)]
    go_enter Tryz.func22, Tryz.ntmps22
    go_wp2_with fail
    go_ret
    exact ⟨by rw [E.out]; rfl, Below.refl _ _⟩
  | false =>
    cases hi : Tn.isN d n false with
    | false =>
      have E : Hid (findD d n id = -1) := by show _ = _; unfold findD; rw [if_pos (Or.inr hi)]
      go_enter Tryz.func22, Tryz.ntmps22
      go_wp2_with (go_at_call 19; refine (ris_any H.out _ _).mono ?_; rintro e w' ⟨rfl, hww⟩; subst hww; rw [hi])
      go_ret
      exact ⟨by rw [E.out]; rfl, Below.refl _ _⟩
    | true =>
      have E : Hid (findD d n id = match (Tn.all Tn.fuel d 0).find? (hitD d id (scopeD d n)) with | some k => (k : Int) | none => -1) := by
        show _ = _
        unfold findD
        rw [if_neg (by rw [he, hi]; simp)]
        cases (Tn.all Tn.fuel d 0).find? (hitD d id (scopeD d n)) <;> rfl
      have HHit : Hid (∀ k, hitD d id (scopeD d n) k = (((valN d (k : Int) idT).toList == id.toList) && (scopeD d (k : Int) == scopeD d n))) := fun k => hit_eq d id _ k he
      have HS : Hid (∀ (W : World) (k : Int), DocAt W b o c rs d → Calls Tryz.prog 45 #[.slice (some ⟨b, o, none⟩) rs.length c, .int .i64 k] W fun e w' => e = .returned (.int .i64 (scopeD d k)) ∧ Below W.heap.size W w') := fun W k h => rscope_any h HF.out k
      have HT : Hid (∀ (W : World) (k : Int), DocAt W b o c rs d → Calls Tryz.prog 18 #[.slice (some ⟨b, o, none⟩) rs.length c, .int .i64 k, .string ⟨#[105, 100]⟩] W fun e w' => e = .returned (.tuple #[.string (valN d k idT), .bool (attrN d k idT).isSome]) ∧ Below W.heap.size W w') := fun W k h => rattr_all h k idT
      generalize findD d n id = res at *
      generalize hitD d id (scopeD d n) = hit at *
      generalize Tn.all Tn.fuel d 0 = l at *
      go_enter Tryz.func22, Tryz.ntmps22
      go_wp2_with (first
        | (go_at_call 19; refine (ris_any H.out _ _).mono ?_; rintro e w' ⟨rfl, hww⟩; subst hww; rw [hi])
        | (go_at_call 44; refine HAll.out.mono ?_; rintro e w1 ⟨v, rfl, hown, hb⟩; obtain ⟨p, cc, rfl, hz1, hz2, _, hat⟩ := (ints_of_owns hown).at))
      have T : Hid (∀ j (hj : j < l.length), ∃ b o, p = some ⟨b, o, none⟩ ∧ w1.cell? ⟨b, o + j, none⟩ = some (.int .i64 (l[j] : Int))) := hat
      have D1 : Hid (DocAt w1 b o c rs d) := H.out.keeps (keeps_below hb (Nat.le_refl _))
      clear hat hown H
      have hlc : l.length ≤ 9223372036854775807 := by omega
      go_loopw [22] (fun iv wr => ∃ j : Nat, j ≤ l.length ∧ iv = .int .i64 j ∧ Hid (∀ k ∈ l.take j, hit k = false) ∧ Below w1.heap.size w1 wr) (fun i _ => l.length - (intOf i).toNat)
      case atStart => exact ⟨0, Nat.zero_le _, rfl, fun k hk => by simp at hk, Below.refl _ _⟩
      case round =>
        obtain ⟨j, hj, rfl, NO, hbr⟩ := hrel
        by_cases hlt : j < l.length
        · obtain ⟨b1, o1, rfl, k0⟩ := T.out j hlt
          have y0 := keeps_below hbr (Nat.le_refl _) _ _ k0
          have Dr : Hid (DocAt wr b o c rs d) := D1.out.keeps (keeps_below hbr (Nat.le_refl _))
          have hh := HHit.out l[j]
          have NX : Hid (hit l[j] = false → ∀ k ∈ l.take (j + 1), hit k = false) := by
            intro hf k hk
            rw [List.take_succ_eq_append_getElem hlt, List.mem_append, List.mem_singleton] at hk
            rcases hk with hk | rfl
            · exact NO.out k hk
            · exact hf
          have FX : Hid (hit l[j] = true → res = (l[j] : Int)) := by
            intro hf
            rw [E.out, find_take hlt hf NO.out]
          clear k0
          generalize hlj : l[j] = k at *
          clear hlj
          have HT1 : Hid (Calls Tryz.prog 18 #[.slice (some ⟨b, o, none⟩) rs.length c, .int .i64 (k : Int), .string ⟨#[105, 100]⟩] wr fun e w' => e = .returned (.tuple #[.string (valN d (k : Int) idT), .bool (attrN d (k : Int) idT).isSome]) ∧ Below wr.heap.size wr w') := HT.out wr (k : Int) Dr.out
          cases hq : ((valN d (k : Int) idT).toList == id.toList) with
          | false =>
            rw [hq] at hh
            have hf : hit k = false := hh
            generalize valN d (k : Int) idT = vv at *
            generalize (attrN d (k : Int) idT).isSome = va at *
            clear hh
            go_wp2_with fail
            refine HT1.out.mono ?_
            rintro e w2 ⟨rfl, hb2⟩
            go_wp2_with fail
            go_roundw
            case rel => exact ⟨j + 1, by omega, by go_num, NX.out hf, hbr.trans (hb2.mono hbr.size)⟩
            case measure => simp [intOf]; omega
          | true =>
            rw [hq] at hh
            have hf : hit k = (scopeD d (k : Int) == scopeD d n) := by simpa using hh
            clear hh
            generalize valN d (k : Int) idT = vv at *
            generalize (attrN d (k : Int) idT).isSome = va at *
            go_wp2_with fail
            refine HT1.out.mono ?_
            rintro e w2 ⟨rfl, hb2⟩
            have D2 : Hid (DocAt w2 b o c rs d) := Dr.out.keeps (keeps_below hb2 (Nat.le_refl _))
            go_wp2_with fail
            refine (HS.out w2 (k : Int) D2.out).mono ?_
            rintro e w3 ⟨rfl, hb3⟩
            have D3 : Hid (DocAt w3 b o c rs d) := D2.out.keeps (keeps_below hb3 (Nat.le_refl _))
            go_wp2_with fail
            refine (HS.out w3 n D3.out).mono ?_
            rintro e w4 ⟨rfl, hb4⟩
            have B2 := hbr.trans (hb2.mono hbr.size)
            have B3 := B2.trans (hb3.mono B2.size)
            have B4 : Hid (Below w1.heap.size w1 w4) := B3.trans (hb4.mono B3.size)
            clear B2 B3 hb2 hb3 hb4 hbr D2 D3 HT1
            cases hsc : (scopeD d (k : Int) == scopeD d n) with
            | true =>
              rw [hsc] at hf
              generalize scopeD d (k : Int) = s1 at *
              generalize scopeD d n = s2 at *
              have R : Hid (res = (k : Int)) := FX.out hf
              go_wp2_with fail
              go_ret
              exact ⟨by rw [R.out]; rfl, hb.trans (B4.out.mono hb.size)⟩
            | false =>
              rw [hsc] at hf
              generalize scopeD d (k : Int) = s1 at *
              generalize scopeD d n = s2 at *
              go_wp2_with fail
              go_roundw
              case rel => exact ⟨j + 1, by omega, by go_num, NX.out hf, B4.out⟩
              case measure => simp [intOf]; omega
        · obtain rfl : j = l.length := by omega
          have R : Hid (res = -1) := by
            show _ = _
            rw [E.out, find_none (fun k hk => NO.out k (by rw [List.take_length]; exact hk))]
          go_wp2_with fail
          go_ret
          exact ⟨by rw [R.out]; rfl, hb.trans (hbr.mono hb.size)⟩
end Go.Proofs.YtcinjbolflhjmadGreatDoor
