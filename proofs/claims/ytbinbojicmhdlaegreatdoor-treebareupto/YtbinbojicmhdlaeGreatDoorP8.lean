/-
  OWN WORK: Vma, Vmb, Trm, Trg, Nal, Npl, Jma, Nma, Qsc, Qsl.
-/
import Derived.Test.YtbinbojicmhdlaeGreatDoorP6
import Derived.Test.YtbinbojicmhdlaeGreatDoorP5
import Derived.Test.YtbinbojicmhdlaeGreatDoorP7
/-
  PLAIN MATHEMATICS: who owns what; nothing is within itself.
-/
namespace Go.Proofs.YtbinbojicmhdlaeGreatDoor
open Tn

/-- a claim: who owns, what -/
abbrev Cl := Nat × Nat

def ownerD (l : List Cl) (n : Int) : Int := match l.find? (fun c => decide ((c.2 : Int) = n)) with | some c => (c.1 : Int) | none => -1
def inD (d : Dc) (l : List Cl) (n : Int) : Int := if 0 ≤ ownerD l n then ownerD l n else upF d n
def insideD (d : Dc) (l : List Cl) (n : Int) : List Nat := (kidsD d n).filter (fun (k : Nat) => decide (ownerD l (k : Int) < 0)) ++ (l.filter (fun c => decide ((c.1 : Int) = n))).map (·.2)

/-- the way up -/
def wayF : Nat → Dc → List Cl → Int → List Nat
  | 0, _, _, _ => []
  | f + 1, d, l, n => if 0 ≤ n then n.toNat :: wayF f d l (inD d l n) else []
def wayD (d : Dc) (l : List Cl) (n : Int) : List Nat := wayF 64 d l n

def shD (d : Dc) : List Nat := shownF fuel d 0
def takes (d : Dc) (l : List Cl) (n : Nat) (k : Int) : Bool := decide (1 ≤ k) && (shD d).contains k.toNat && decide (ownerD l k < 0) && !(wayD d l (n : Int)).contains k.toNat
def claim1 (d : Dc) (n : Nat) (l : List Cl) (k : Int) : List Cl := if takes d l n k then l ++ [(n, k.toNat)] else l
def asksD (d : Dc) (n : Nat) : List Int := (Wd.toksOf (valN d (n : Int) ⟨#[97, 114, 105, 97, 45, 111, 119, 110, 115]⟩)).map (fun t => findD d (n : Int) (Tx.bs t))
def claimN (d : Dc) (l : List Cl) (n : Nat) : List Cl := (asksD d n).foldl (claim1 d n) l
def claimsD (d : Dc) : List Cl := (shD d).foldl (claimN d) []

structure Forest (d : Dc) (l : List Cl) : Prop where
  own : ∀ c ∈ l, c.1 ∈ shD d ∧ c.2 ∈ shD d ∧ 0 < c.2
  nodup : (l.map (·.2)).Nodup
  rank : ∃ r : Nat → Nat, ∀ x ∈ shD d, x ≠ 0 → ∃ y ∈ shD d, inD d l (x : Int) = (y : Int) ∧ r y < r x

theorem owner_none {l : List Cl} {n : Int} (h : ∀ c ∈ l, (c.2 : Int) ≠ n) : ownerD l n = -1 := by
  unfold ownerD
  rw [List.find?_eq_none.mpr (fun c hc => by simpa using h c hc)]
theorem owner_cases (l : List Cl) (n : Int) : (ownerD l n = -1 ∧ ∀ c ∈ l, (c.2 : Int) ≠ n) ∨ ∃ o k : Nat, n = (k : Int) ∧ (o, k) ∈ l ∧ ownerD l n = (o : Int) := by
  cases h : l.find? (fun c => decide ((c.2 : Int) = n)) with
  | none =>
    have := List.find?_eq_none.mp h
    refine Or.inl ⟨by unfold ownerD; rw [h], fun c hc => by simpa using this c hc⟩
  | some c =>
    have h1 := List.find?_some h
    have h2 := List.mem_of_find?_eq_some h
    exact Or.inr ⟨c.1, c.2, by have : (c.2 : Int) = n := by simpa using h1
                               exact this.symm, h2, by unfold ownerD; rw [h]⟩
theorem owner_neg {l : List Cl} {n : Int} (h : ownerD l n < 0) : ∀ c ∈ l, (c.2 : Int) ≠ n := by
  rcases owner_cases l n with ⟨_, h2⟩ | ⟨o, k, _, _, e⟩
  · exact h2
  · omega
theorem nodup_two : ∀ {l : List Cl} {a b k : Nat}, (l.map (·.2)).Nodup → (a, k) ∈ l → (b, k) ∈ l → a = b
  | [], _, _, _, _, h, _ => by simp at h
  | c :: l, a, b, k, hn, ha, hb => by
    rw [List.map_cons, List.nodup_cons] at hn
    rcases List.mem_cons.mp ha with e1 | ha'
    · rcases List.mem_cons.mp hb with e2 | hb'
      · exact congrArg Prod.fst (e1.trans e2.symm)
      · exact absurd (List.mem_map.mpr ⟨(b, k), hb', show k = c.2 from congrArg Prod.snd e1⟩) hn.1
    · rcases List.mem_cons.mp hb with e2 | hb'
      · exact absurd (List.mem_map.mpr ⟨(a, k), ha', show k = c.2 from congrArg Prod.snd e2⟩) hn.1
      · exact nodup_two hn.2 ha' hb'
/-- the owner is who has a claim -/
theorem owner_mem {l : List Cl} (hn : (l.map (·.2)).Nodup) {o k : Nat} (h : (o, k) ∈ l) : ownerD l (k : Int) = (o : Int) := by
  rcases owner_cases l (k : Int) with ⟨_, h2⟩ | ⟨o', k', e1, h2, e2⟩
  · exact absurd rfl (h2 _ h)
  · have : k = k' := by omega
    subst this
    rw [e2, nodup_two hn h2 h]

theorem owner_app {l : List Cl} {n k : Nat} {x : Int} (hx : x ≠ (k : Int)) : ownerD (l ++ [(n, k)]) x = ownerD l x := by
  unfold ownerD
  rw [List.find?_append]
  have : ([(n, k)] : List Cl).find? (fun c => decide ((c.2 : Int) = x)) = none := by
    rw [List.find?_eq_none]
    intro c hc
    rw [List.mem_singleton] at hc
    subst hc
    simpa using fun h => hx h.symm
  rw [this, Option.or_none]
theorem owner_new {l : List Cl} {n k : Nat} (h : ownerD l (k : Int) < 0) : ownerD (l ++ [(n, k)]) (k : Int) = (n : Int) := by
  unfold ownerD
  rw [List.find?_append, List.find?_eq_none.mpr (fun c hc => by simpa using owner_neg h c hc)]
  simp
theorem in_app {d : Dc} {l : List Cl} {n k : Nat} {x : Int} (hx : x ≠ (k : Int)) : inD d (l ++ [(n, k)]) x = inD d l x := by
  unfold inD
  rw [owner_app hx]
theorem in_new {d : Dc} {l : List Cl} {n k : Nat} (h : ownerD l (k : Int) < 0) : inD d (l ++ [(n, k)]) (k : Int) = (n : Int) := by
  unfold inD
  rw [owner_new h, if_pos (by omega)]

theorem way_neg (d : Dc) (l : List Cl) (f : Nat) {n : Int} (h : n < 0) : wayF f d l n = [] := by
  cases f with
  | zero => rfl
  | succ f => rw [wayF, if_neg (by omega)]
theorem way_take (d : Dc) (l : List Cl) : ∀ (f g : Nat) (n : Int), g ≤ f → wayF g d l n = (wayF f d l n).take g
  | 0, g, n, h => by
    obtain rfl : g = 0 := by omega
    rfl
  | f + 1, 0, n, _ => rfl
  | f + 1, g + 1, n, h => by
    rw [wayF, wayF]
    split
    · rw [List.take_succ_cons, way_take d l f g _ (by omega)]
    · rfl

theorem sh_lv {d : Dc} (h : Fine d) {x : Nat} (hx : x ∈ shD d) : lvD d x = true := by
  obtain ⟨r, hr, _⟩ := h.good.tr
  exact (shown_live h fuel 0 x hr.1.root hx).1
theorem sh_nodup {d : Dc} (h : Fine d) : (shD d).Nodup := by
  obtain ⟨r, hr, _⟩ := h.good.tr
  exact shown_nodup h fuel 0 hr.1.root
theorem sh_few {d : Dc} (h : Fine d) : (shD d).length ≤ 60 ∧ (shD d).length ≤ d.length := by
  obtain ⟨r, hr, _⟩ := h.good.tr
  exact ⟨shown_few h fuel hr.1.root, nodup_le d.length _ (sh_nodup h) (fun x hx => lv_lt (sh_lv h hx))⟩
theorem sh_up {d : Dc} (h : Fine d) {x : Nat} (hx : x ∈ shD d) (h0 : x ≠ 0) : ∃ y ∈ shD d, upF d (x : Int) = (y : Int) ∧ x ∈ kidsD d (y : Int) ∧ posD d y < posD d x := by
  obtain ⟨y, hy, hs⟩ := shown_par fuel 0 x hx h0
  exact ⟨y, hs.subset (by simp), up_of_kid h hy, hy, kid_pos h hy⟩

theorem forest_nil {d : Dc} (h : Fine d) : Forest d [] :=
  ⟨by simp, by simp, ⟨posD d, fun x hx h0 => by
    obtain ⟨y, h1, h2, _, h3⟩ := sh_up h hx h0
    exact ⟨y, h1, by unfold inD; rw [owner_none (by simp), if_neg (by omega)]; exact h2, h3⟩⟩⟩

theorem in_root {d : Dc} (h : Fine d) {l : List Cl} (hl : Forest d l) : inD d l 0 = -1 := by
  unfold inD
  rw [owner_none (fun c hc => by have := (hl.own c hc).2.2; omega), if_neg (by omega)]
  exact up_root h
theorem in_cases {d : Dc} (h : Fine d) {l : List Cl} (hl : Forest d l) {x : Nat} (hx : x ∈ shD d) : inD d l (x : Int) = -1 ∨ ∃ y ∈ shD d, inD d l (x : Int) = (y : Int) := by
  obtain ⟨r, hr⟩ := hl.rank
  by_cases h0 : x = 0
  · subst h0; exact Or.inl (in_root h hl)
  · obtain ⟨y, h1, h2, _⟩ := hr x hx h0
    exact Or.inr ⟨y, h1, h2⟩

/-- the way up is in what is shown, each once; and comes to the root -/
theorem way_facts {d : Dc} (h : Fine d) {l : List Cl} (hl : Forest d l) {r : Nat → Nat} (hr : ∀ x ∈ shD d, x ≠ 0 → ∃ y ∈ shD d, inD d l (x : Int) = (y : Int) ∧ r y < r x) : ∀ (f x : Nat), x ∈ shD d → (∀ y ∈ wayF f d l (x : Int), y ∈ shD d ∧ r y ≤ r x) ∧ (wayF f d l (x : Int)).Nodup
  | 0, x, _ => ⟨by simp [wayF], List.nodup_nil⟩
  | f + 1, x, hx => by
    rw [wayF, if_pos (by omega), Int.toNat_natCast]
    by_cases h0 : x = 0
    · subst h0
      rw [show ((0 : Nat) : Int) = 0 from rfl, in_root h hl, way_neg d l f (by omega)]
      exact ⟨by simp [hx], by simp⟩
    · obtain ⟨y, h1, h2, h3⟩ := hr x hx h0
      obtain ⟨g1, g2⟩ := way_facts h hl hr f y h1
      rw [h2]
      refine ⟨fun z hz => ?_, List.nodup_cons.mpr ⟨fun hz => ?_, g2⟩⟩
      · rcases List.mem_cons.mp hz with rfl | hz
        · exact ⟨hx, Nat.le_refl _⟩
        · have := g1 z hz; exact ⟨this.1, by omega⟩
      · have := (g1 x hz).2; omega

theorem sub_len {a b : List Nat} (ha : a.Nodup) (hs : ∀ x ∈ a, x ∈ b) : a.length ≤ b.length := by
  induction a generalizing b with
  | nil => simp
  | cons x a ih =>
    rw [List.nodup_cons] at ha
    have hx := hs x (by simp)
    have := ih (b := b.erase x) ha.2 (fun y hy => by
      have hne : y ≠ x := fun e => ha.1 (by rw [← e]; exact hy)
      exact (List.mem_erase_of_ne hne).mpr (hs y (by simp [hy])))
    rw [List.length_erase_of_mem hx] at this
    have := List.length_pos_of_mem hx
    simp
    omega

theorem way_len {d : Dc} (h : Fine d) {l : List Cl} (hl : Forest d l) {x : Nat} (hx : x ∈ shD d) (f : Nat) : (wayF f d l (x : Int)).length ≤ (shD d).length := by
  obtain ⟨r, hr⟩ := hl.rank
  obtain ⟨h1, h2⟩ := way_facts h hl hr f x hx
  exact sub_len h2 (fun y hy => (h1 y hy).1)
/-- more steps tell no more -/
theorem way_more {d : Dc} (h : Fine d) {l : List Cl} (hl : Forest d l) {x : Nat} (hx : x ∈ shD d) {f g : Nat} (hf : 60 < f) (hg : 60 < g) : wayF f d l (x : Int) = wayF g d l (x : Int) := by
  have key : ∀ f g, f ≤ g → 60 < f → wayF f d l (x : Int) = wayF g d l (x : Int) := by
    intro f g hfg h60
    have e1 := way_take d l g f (x : Int) hfg
    have e2 := way_len h hl hx f
    have e3 := (sh_few h).1
    rw [e1] at e2 ⊢
    rw [List.length_take] at e2
    exact List.take_of_length_le (by omega)
  by_cases e : f ≤ g
  · exact key f g e hf
  · exact (key g f (by omega) hg).symm
theorem way_cons {d : Dc} (h : Fine d) {l : List Cl} (hl : Forest d l) {x : Nat} (hx : x ∈ shD d) : wayD d l (x : Int) = x :: wayD d l (inD d l (x : Int)) := by
  have e : wayD d l (x : Int) = x :: wayF 63 d l (inD d l (x : Int)) := by
    unfold wayD
    rw [show (64 : Nat) = 63 + 1 from rfl, wayF, if_pos (by omega), Int.toNat_natCast]
  rw [e]
  unfold wayD
  rcases in_cases h hl hx with e2 | ⟨y, hy, e2⟩
  · rw [e2, way_neg d l _ (by omega), way_neg d l _ (by omega)]
  · rw [e2, way_more h hl hy (f := 63) (g := 64) (by omega) (by omega)]
theorem way_no (d : Dc) (l : List Cl) {n : Int} (h : n < 0) : wayD d l n = [] := way_neg d l 64 h

/-- a claim that closes no circle may be taken -/
theorem forest_add {d : Dc} (h : Fine d) {l : List Cl} (hl : Forest d l) {n k : Nat} (hn : n ∈ shD d) (ht : takes d l n (k : Int) = true) : Forest d (l ++ [(n, k)]) := by
  unfold takes at ht
  simp only [Bool.and_eq_true, decide_eq_true_eq, Int.toNat_natCast, Bool.not_eq_true', List.contains_eq_mem, decide_eq_false_iff_not] at ht
  obtain ⟨⟨⟨h1, h2⟩, h3⟩, h4⟩ := ht
  refine ⟨fun c hc => ?_, ?_, ?_⟩
  · rcases List.mem_append.mp hc with hc | hc
    · exact hl.own c hc
    · rw [List.mem_singleton] at hc
      subst hc
      exact ⟨hn, h2, by omega⟩
  · rw [List.map_append, List.nodup_append]
    refine ⟨hl.nodup, by simp, fun a ha b hb => ?_⟩
    obtain ⟨c, hc, rfl⟩ := List.mem_map.mp ha
    have := owner_neg h3 c hc
    simp at hb
    subst hb
    intro e
    exact this (by rw [e])
  · obtain ⟨r, hr⟩ := hl.rank
    refine ⟨fun x => if k ∈ wayD d l (x : Int) then r x + r n + 1 else r x, fun x hx h0 => ?_⟩
    by_cases e : x = k
    · subst e
      refine ⟨n, hn, in_new h3, ?_⟩
      have q1 : x ∈ wayD d l (x : Int) := by rw [way_cons h hl hx]; simp
      show (if x ∈ wayD d l (n : Int) then r n + r n + 1 else r n) < (if x ∈ wayD d l (x : Int) then r x + r n + 1 else r x)
      rw [if_neg h4, if_pos q1]
      omega
    · obtain ⟨y, g1, g2, g3⟩ := hr x hx h0
      refine ⟨y, g1, by rw [in_app (by omega)]; exact g2, ?_⟩
      have e2 := way_cons h hl hx
      rw [g2] at e2
      have : k ∈ wayD d l (x : Int) ↔ k ∈ wayD d l (y : Int) := by
        rw [e2, List.mem_cons]
        exact ⟨fun h => h.resolve_left (fun q => e q.symm), Or.inr⟩
      show (if k ∈ wayD d l (y : Int) then r y + r n + 1 else r y) < (if k ∈ wayD d l (x : Int) then r x + r n + 1 else r x)
      by_cases q : k ∈ wayD d l (y : Int)
      · rw [if_pos q, if_pos (this.mpr q)]; omega
      · rw [if_neg q, if_neg (fun z => q (this.mp z))]; exact g3

theorem takes_nat {d : Dc} {l : List Cl} {n : Nat} {k : Int} (h : takes d l n k = true) : ∃ m : Nat, k = (m : Int) := by
  unfold takes at h
  simp at h
  exact ⟨k.toNat, by omega⟩

theorem forest_claim {d : Dc} (h : Fine d) {l : List Cl} (hl : Forest d l) {n : Nat} (hn : n ∈ shD d) (k : Int) : Forest d (claim1 d n l k) := by
  unfold claim1
  split
  · rename_i ht
    obtain ⟨m, rfl⟩ := takes_nat ht
    rw [Int.toNat_natCast]
    exact forest_add h hl hn ht
  · exact hl
theorem forest_asks {d : Dc} (h : Fine d) {n : Nat} (hn : n ∈ shD d) : ∀ (ks : List Int) (l : List Cl), Forest d l → Forest d (ks.foldl (claim1 d n) l)
  | [], _, hl => hl
  | k :: ks, _, hl => forest_asks h hn ks _ (forest_claim h hl hn k)
theorem forest_nodes {d : Dc} (h : Fine d) : ∀ (ns : List Nat) (l : List Cl), (∀ n ∈ ns, n ∈ shD d) → Forest d l → Forest d (ns.foldl (claimN d) l)
  | [], _, _, hl => hl
  | n :: ns, _, hs, hl => forest_nodes h ns _ (fun m hm => hs m (by simp [hm])) (forest_asks h (hs n (by simp)) _ _ hl)
theorem forest_claims {d : Dc} (h : Fine d) : Forest d (claimsD d) := forest_nodes h _ _ (fun _ hn => hn) (forest_nil h)
/-- .. and so at each turn -/
theorem forest_at {d : Dc} (h : Fine d) (i : Nat) : Forest d (((shD d).take i).foldl (claimN d) []) := forest_nodes h _ _ (fun _ hn => List.mem_of_mem_take hn) (forest_nil h)

/-- how many there may be -/
theorem forest_few {d : Dc} (h : Fine d) {l : List Cl} (hl : Forest d l) : l.length ≤ 60 := by
  have := sub_len hl.nodup (b := shD d) (fun x hx => by
    obtain ⟨c, hc, rfl⟩ := List.mem_map.mp hx
    exact (hl.own c hc).2.1)
  have := (sh_few h).1
  simp at *
  omega

/-! ### the way up, counted -/

end Go.Proofs.YtbinbojicmhdlaeGreatDoor

/-
  PLAIN MATHEMATICS: each is in one; the first one has it.
-/
namespace Go.Proofs.YtbinbojicmhdlaeGreatDoor
open Tn

/-! ### each is in one -/

theorem count_one {l : List Nat} {x : Nat} (hn : l.Nodup) (hx : x ∈ l) : l.count x = 1 := by
  have h1 := List.nodup_iff_count.mp hn x
  have h2 := List.count_pos_iff.mpr hx
  omega

theorem inside_count {d : Dc} (h : Fine d) {l : List Cl} (hl : Forest d l) {x : Nat} (hx : x ∈ shD d) (h0 : x ≠ 0) : ∃ y ∈ shD d, ∀ n : Nat, (insideD d l (n : Int)).count x = if n = y then 1 else 0 := by
  rcases owner_cases l (x : Int) with ⟨e1, e2⟩ | ⟨o, k, e1, e2, e3⟩
  · obtain ⟨y, g1, _, g3, _⟩ := sh_up h hx h0
    refine ⟨y, g1, fun n => ?_⟩
    unfold insideD
    have hz : ((l.filter (fun c => decide ((c.1 : Int) = (n : Int)))).map (·.2)).count x = 0 := by
      rw [List.count_eq_zero]
      intro hm
      obtain ⟨c, hc, e⟩ := List.mem_map.mp hm
      exact e2 c (List.mem_filter.mp hc).1 (by rw [e])
    have hp : decide (ownerD l (x : Int) < 0) = true := by rw [e1]; decide
    rw [List.count_append, hz, Nat.add_zero]
    by_cases e : n = y
    · subst e
      rw [if_pos rfl]
      exact count_one (List.Pairwise.filter _ (kids_nodup h _)) (List.mem_filter.mpr ⟨g3, hp⟩)
    · rw [if_neg e, List.count_eq_zero]
      intro hm
      exact e (kid_one h (List.mem_filter.mp hm).1 g3)
  · obtain rfl : x = k := by omega
    refine ⟨o, (hl.own _ e2).1, fun n => ?_⟩
    unfold insideD
    have hz : ((kidsD d (n : Int)).filter (fun (k : Nat) => decide (ownerD l (k : Int) < 0))).count x = 0 := by
      rw [List.count_eq_zero]
      intro hm
      have := (List.mem_filter.mp hm).2
      rw [e3] at this
      simp at this
      omega
    rw [List.count_append, hz, Nat.zero_add]
    by_cases e : n = o
    · subst e
      rw [if_pos rfl]
      refine count_one ((List.filter_sublist.map _).nodup hl.nodup) ?_
      exact List.mem_map.mpr ⟨(n, x), List.mem_filter.mpr ⟨e2, by simp⟩, rfl⟩
    · rw [if_neg e, List.count_eq_zero]
      intro hm
      obtain ⟨c, hc, e4⟩ := List.mem_map.mp hm
      obtain ⟨h1, h2⟩ := List.mem_filter.mp hc
      have h3 : c.1 = n := by have : (c.1 : Int) = (n : Int) := by simpa using h2
                              omega
      have h4 : (n, x) ∈ l := by rw [← h3, ← e4]; exact h1
      exact e (nodup_two hl.nodup h4 e2)

/-! ### the first one has it -/

theorem way_same {d : Dc} {l : List Cl} {n k : Nat} : ∀ (f : Nat) (x : Int), k ∉ wayF f d l x → wayF f d (l ++ [(n, k)]) x = wayF f d l x
  | 0, _, _ => rfl
  | f + 1, x, h => by
    rw [wayF, wayF] at *
    split
    · rename_i h0
      rw [if_pos h0] at h
      have hx : x ≠ (k : Int) := fun e => h (by rw [e]; simp)
      rw [in_app hx, way_same f _ (fun e => h (by simp [e]))]
    · rfl
theorem way_claim {d : Dc} {l : List Cl} {n : Nat} (k : Int) : wayD d (claim1 d n l k) (n : Int) = wayD d l (n : Int) := by
  unfold claim1
  split
  · rename_i ht
    unfold takes at ht
    simp at ht
    exact way_same 64 _ ht.2
  · rfl
def outD (d : Dc) (i : Nat) (n q : Nat) : List Cl := ((asksD d n).take q).foldl (claim1 d n) (((shD d).take i).foldl (claimN d) [])

theorem forest_out {d : Dc} (h : Fine d) {i : Nat} (hi : i < (shD d).length) (q : Nat) : Forest d (outD d i (shD d)[i] q) := forest_asks h (List.getElem_mem hi) _ _ (forest_at h i)

end Go.Proofs.YtbinbojicmhdlaeGreatDoor

/-
  PLAIN MATHEMATICS: what is told of a document: each once, nothing hidden, nothing forgotten, nothing bare.
-/
namespace Go.Proofs.YtbinbojicmhdlaeGreatDoor
open Tn

/-- an item -/
inductive It where
  | mk (node : Nat) (role : Int) (name about : ByteArray) (level checked : Int) (off : Bool) (kids : List It) : It

/-- what else is told of a node -/
structure Att where
  name : ByteArray
  about : ByteArray
  level : Int
  checked : Int
  off : Bool

def leafI (r : Int) : Bool := (Kn.ofD r).leaf
def bareI (r : Int) : Bool := decide (r = 0) || decide (r = 18)
def textD (d : Dc) (n : Nat) : ByteArray := Wd.sqz (nd d n).text

def itemsG (att : Nat → Att) (rec : Nat → List It) (d : Dc) (l : List Cl) (n : Nat) : List It :=
  if hidD d (n : Int) then []
  else if roleD d (n : Int) = 10 then (if (textD d n).toList.isEmpty then [] else [.mk n 10 (textD d n) ⟨#[]⟩ 0 0 false []])
  else if bareI (roleD d (n : Int)) && decide (n ≠ 0) then (insideD d l (n : Int)).flatMap rec
  else [.mk n (if bareI (roleD d (n : Int)) then 2 else roleD d (n : Int)) (att n).name (att n).about (att n).level (att n).checked (att n).off
    (if leafI (roleD d (n : Int)) then [] else (insideD d l (n : Int)).flatMap rec)]
def itemsF (att : Nat → Att) : Nat → Dc → List Cl → Nat → List It
  | 0, _, _, _ => []
  | f + 1, d, l, n => itemsG att (itemsF att f d l) d l n

mutual
def nodes1 : It → List Nat
  | .mk n _ _ _ _ _ _ ks => n :: nodesL ks
def nodesL : List It → List Nat
  | [] => []
  | x :: xs => nodes1 x ++ nodesL xs
end

theorem nodesL_app : ∀ (a b : List It), nodesL (a ++ b) = nodesL a ++ nodesL b
  | [], _ => rfl
  | x :: a, b => by rw [List.cons_append, nodesL, nodesL, nodesL_app a b, List.append_assoc]
theorem nodesL_flat {α : Type} (f : α → List It) : ∀ (l : List α), nodesL (l.flatMap f) = l.flatMap (fun a => nodesL (f a))
  | [] => rfl
  | a :: l => by rw [List.flatMap_cons, List.flatMap_cons, nodesL_app, nodesL_flat f l]

/-- the nodes that are told of -/
def toldF : Nat → Dc → List Cl → Nat → List Nat
  | 0, _, _, _ => []
  | f + 1, d, l, n =>
    if hidD d (n : Int) then []
    else if roleD d (n : Int) = 10 then (if (textD d n).toList.isEmpty then [] else [n])
    else if bareI (roleD d (n : Int)) && decide (n ≠ 0) then (insideD d l (n : Int)).flatMap (toldF f d l)
    else n :: (if leafI (roleD d (n : Int)) then [] else (insideD d l (n : Int)).flatMap (toldF f d l))

theorem told_nodes (att : Nat → Att) (d : Dc) (l : List Cl) : ∀ (f n : Nat), nodesL (itemsF att f d l n) = toldF f d l n
  | 0, _ => rfl
  | f + 1, n => by
    have ih : (fun a => nodesL (itemsF att f d l a)) = toldF f d l := funext (told_nodes att d l f)
    rw [itemsF, itemsG, toldF]
    split
    · rfl
    · split
      · split
        · rfl
        · rfl
      · split
        · rw [nodesL_flat, ih]
        · rw [nodesL, nodes1, nodesL, List.append_nil]
          split
          · rfl
          · rw [nodesL_flat, ih]

/-! ### who is in whom -/

theorem shown_head {d : Dc} {f k : Nat} (h : EndF f d k) : k ∈ shownF f d k := by
  cases f with
  | zero => exact absurd h (by simp [EndF])
  | succ f => rw [shownF]; exact List.mem_cons_self
theorem shown_kidF {d : Dc} : ∀ (f a x k : Nat), EndF f d a → x ∈ shownF f d a → k ∈ kidsD d (x : Int) → k ∈ shownF f d a
  | 0, _, _, _, h, _, _ => absurd h (by simp [EndF])
  | f + 1, a, x, k, h, hx, hk => by
    have hE : ∀ c ∈ kidsD d (a : Int), EndF f d c := h
    rw [shownF] at hx ⊢
    rcases List.mem_cons.mp hx with rfl | hx
    · exact List.mem_cons_of_mem _ (List.mem_flatMap.mpr ⟨k, hk, shown_head (hE k hk)⟩)
    · obtain ⟨c, hc, hx⟩ := List.mem_flatMap.mp hx
      exact List.mem_cons_of_mem _ (List.mem_flatMap.mpr ⟨c, hc, shown_kidF f c x k (hE c hc) hx hk⟩)
theorem shown_kid {d : Dc} (h : Fine d) {n k : Nat} (hn : n ∈ shD d) (hk : k ∈ kidsD d (n : Int)) : k ∈ shD d := shown_kidF fuel 0 n k (fine_end h) hn hk

theorem inside_in {d : Dc} (h : Fine d) {l : List Cl} (hl : Forest d l) {n k : Nat} (hk : k ∈ insideD d l (n : Int)) (hn : n ∈ shD d) : k ∈ shD d ∧ k ≠ 0 ∧ inD d l (k : Int) = (n : Int) := by
  unfold insideD at hk
  rcases List.mem_append.mp hk with hk | hk
  · obtain ⟨h1, h2⟩ := List.mem_filter.mp hk
    have h2 : ownerD l (k : Int) < 0 := by simpa using h2
    have hp := (kid_par h h1).2.2.1
    refine ⟨shown_kid h hn h1, by omega, ?_⟩
    unfold inD
    rw [if_neg (by omega)]
    exact up_of_kid h h1
  · obtain ⟨c, hc, e⟩ := List.mem_map.mp hk
    obtain ⟨h1, h2⟩ := List.mem_filter.mp hc
    have h2 : (c.1 : Int) = (n : Int) := by simpa using h2
    have ho := hl.own c h1
    have e1 : c.1 = n := by omega
    have hm : (n, k) ∈ l := by
      rw [← e1, ← e]
      exact h1
    have ho2 := hl.own _ hm
    refine ⟨ho2.2.1, by have := ho2.2.2; show k ≠ 0; omega, ?_⟩
    unfold inD
    rw [owner_mem hl.nodup hm, if_pos (by omega)]
theorem in_inside {d : Dc} (h : Fine d) {l : List Cl} {n k : Nat} (hk : k ∈ shD d) (h0 : k ≠ 0) (hi : inD d l (k : Int) = (n : Int)) : k ∈ insideD d l (n : Int) := by
  unfold insideD
  rcases owner_cases l (k : Int) with ⟨e1, e2⟩ | ⟨o, k', e1, e2, e3⟩
  · obtain ⟨y, _, g2, g3, _⟩ := sh_up h hk h0
    unfold inD at hi
    rw [if_neg (by omega), g2] at hi
    have : y = n := by omega
    subst this
    exact List.mem_append.mpr (Or.inl (List.mem_filter.mpr ⟨g3, by rw [e1]; decide⟩))
  · obtain rfl : k = k' := by omega
    unfold inD at hi
    rw [e3, if_pos (by omega)] at hi
    have : o = n := by omega
    subst this
    exact List.mem_append.mpr (Or.inr (List.mem_map.mpr ⟨(o, k), List.mem_filter.mpr ⟨e2, by simp⟩, rfl⟩))
theorem inside_nodup {d : Dc} (h : Fine d) {l : List Cl} (hl : Forest d l) {n : Nat} (hn : n ∈ shD d) : (insideD d l (n : Int)).Nodup := by
  rw [List.nodup_iff_count]
  intro x
  by_cases hx : x ∈ insideD d l (n : Int)
  · obtain ⟨h1, h2, _⟩ := inside_in h hl hx hn
    obtain ⟨y, _, hc⟩ := inside_count h hl h1 h2
    rw [hc n]
    split <;> omega
  · rw [List.count_eq_zero.mpr hx]
    omega

/-! ### the way up -/

theorem way_self {d : Dc} (h : Fine d) {l : List Cl} (hl : Forest d l) {x : Nat} (hx : x ∈ shD d) : x ∈ wayD d l (x : Int) := by rw [way_cons h hl hx]; exact List.mem_cons_self
/-- what a node on the way is in is on it, too -/
theorem way_next {d : Dc} (h : Fine d) {l : List Cl} (hl : Forest d l) : ∀ (m x : Nat), x ∈ shD d → (wayD d l (x : Int)).length ≤ m → ∀ k n : Nat, k ∈ wayD d l (x : Int) → inD d l (k : Int) = (n : Int) → n ∈ shD d → n ∈ wayD d l (x : Int)
  | 0, x, hx, hm, _, _, _, _, _ => by rw [way_cons h hl hx] at hm; simp at hm
  | m + 1, x, hx, hm, k, n, hk, hi, hn => by
    rw [way_cons h hl hx] at hm hk ⊢
    rcases List.mem_cons.mp hk with rfl | hk
    · rw [hi]
      exact List.mem_cons_of_mem _ (way_self h hl hn)
    · rcases in_cases h hl hx with e | ⟨y, hy, e⟩
      · rw [e, way_no d l (by omega)] at hk
        simp at hk
      · rw [e] at hk hm ⊢
        exact List.mem_cons_of_mem _ (way_next h hl m y hy (by simpa using hm) k n hk hi hn)
/-- two on the way that are in one are one -/
theorem way_one {d : Dc} (h : Fine d) {l : List Cl} (hl : Forest d l) : ∀ (m x : Nat), x ∈ shD d → (wayD d l (x : Int)).length ≤ m → ∀ a b n : Nat, a ∈ wayD d l (x : Int) → b ∈ wayD d l (x : Int) → inD d l (a : Int) = (n : Int) → inD d l (b : Int) = (n : Int) → a = b
  | 0, x, hx, hm, _, _, _, _, _, _, _ => by rw [way_cons h hl hx] at hm; simp at hm
  | m + 1, x, hx, hm, a, b, n, ha, hb, ia, ib => by
    obtain ⟨r, hr⟩ := hl.rank
    have key : ∀ (c : Nat), inD d l (x : Int) = (n : Int) → c ∈ wayD d l (n : Int) → inD d l (c : Int) = (n : Int) → False := by
      intro c ix hc ic
      have hn : n ∈ shD d := by
        rcases in_cases h hl hx with e | ⟨y, hy, e⟩
        · omega
        · have : y = n := by omega
          rw [← this]; exact hy
      obtain ⟨g1, _⟩ := way_facts h hl hr 64 n hn
      obtain ⟨hc1, hc2⟩ := g1 c hc
      by_cases c0 : c = 0
      · subst c0
        have := in_root h hl
        have ic' : inD d l 0 = (n : Int) := ic
        omega
      · obtain ⟨y, _, e, hlt⟩ := hr c hc1 c0
        have : y = n := by omega
        subst this
        omega
    rw [way_cons h hl hx] at hm ha hb
    rcases List.mem_cons.mp ha with rfl | ha
    · rcases List.mem_cons.mp hb with rfl | hb
      · rfl
      · rw [ia] at hb
        exact absurd (key b ia hb ib) id
    · rcases List.mem_cons.mp hb with rfl | hb
      · rw [ib] at ha
        exact absurd (key a ib ha ia) id
      · rcases in_cases h hl hx with e | ⟨y, hy, e⟩
        · rw [e, way_no d l (by omega)] at ha
          simp at ha
        · rw [e] at ha hb hm
          exact way_one h hl m y hy (by simpa using hm) a b n ha hb ia ib

/-! ### each once, and nothing hidden -/

theorem told_way {d : Dc} (h : Fine d) {l : List Cl} (hl : Forest d l) : ∀ (f n x : Nat), n ∈ shD d → x ∈ toldF f d l n → x ∈ shD d ∧ hidD d (x : Int) = false ∧ n ∈ wayD d l (x : Int)
  | 0, _, _, _, hx => by simp [toldF] at hx
  | f + 1, n, x, hn, hx => by
    have sub : x ∈ (insideD d l (n : Int)).flatMap (toldF f d l) → x ∈ shD d ∧ hidD d (x : Int) = false ∧ n ∈ wayD d l (x : Int) := by
      intro hx
      obtain ⟨k, hk, hx⟩ := List.mem_flatMap.mp hx
      obtain ⟨k1, k2, k3⟩ := inside_in h hl hk hn
      obtain ⟨g1, g2, g3⟩ := told_way h hl f k x k1 hx
      exact ⟨g1, g2, way_next h hl _ x g1 (Nat.le_refl _) k n g3 k3 hn⟩
    rw [toldF] at hx
    split at hx
    · simp at hx
    · rename_i hh
      have me : x = n → x ∈ shD d ∧ hidD d (x : Int) = false ∧ n ∈ wayD d l (x : Int) := by
        rintro rfl
        exact ⟨hn, by simpa using hh, way_self h hl hn⟩
      split at hx
      · split at hx
        · simp at hx
        · exact me (by simpa using hx)
      · split at hx
        · exact sub hx
        · rcases List.mem_cons.mp hx with e | hx
          · exact me e
          · split at hx
            · simp at hx
            · exact sub hx

theorem told_nodup {d : Dc} (h : Fine d) {l : List Cl} (hl : Forest d l) : ∀ (f n : Nat), n ∈ shD d → (toldF f d l n).Nodup
  | 0, _, _ => by simp [toldF]
  | f + 1, n, hn => by
    have flat : ((insideD d l (n : Int)).flatMap (toldF f d l)).Nodup := by
      unfold List.Nodup
      rw [List.pairwise_flatMap]
      refine ⟨fun k hk => told_nodup h hl f k (inside_in h hl hk hn).1, ?_⟩
      refine List.Pairwise.imp_of_mem ?_ (inside_nodup h hl hn)
      intro a b ha hb hab x hx y hy e
      subst e
      obtain ⟨a1, _, a3⟩ := inside_in h hl ha hn
      obtain ⟨b1, _, b3⟩ := inside_in h hl hb hn
      obtain ⟨x1, _, x3⟩ := told_way h hl f a x a1 hx
      obtain ⟨_, _, y3⟩ := told_way h hl f b x b1 hy
      exact hab (way_one h hl _ x x1 (Nat.le_refl _) a b n x3 y3 a3 b3)
    have self : n ∉ (insideD d l (n : Int)).flatMap (toldF f d l) := by
      intro hm
      obtain ⟨k, hk, hx⟩ := List.mem_flatMap.mp hm
      obtain ⟨k1, k2, k3⟩ := inside_in h hl hk hn
      obtain ⟨_, _, g3⟩ := told_way h hl f k n k1 hx
      obtain ⟨r, hr⟩ := hl.rank
      obtain ⟨g1, _⟩ := way_facts h hl hr 64 n hn
      have := (g1 k g3).2
      obtain ⟨y, _, e, hlt⟩ := hr k k1 k2
      have : y = n := by omega
      subst this
      omega
    rw [toldF]
    split
    · simp
    · split
      · split <;> simp
      · split
        · exact flat
        · refine List.nodup_cons.mpr ⟨?_, ?_⟩
          · split
            · simp
            · exact self
          · split
            · simp
            · exact flat

/-! ### nothing is forgotten -/

def openB (d : Dc) (x a : Nat) : Bool := !hidD d (a : Int) && (decide (a = x) || !leafI (roleD d (a : Int)))

theorem leaf_bare {r : Int} (h : bareI r = true) : leafI r = false := by
  unfold bareI at h
  simp at h
  rcases h with rfl | rfl <;> decide
theorem leaf_text : leafI 10 = true := by decide

/-- from one that is on the way on up -/
theorem told_up {d : Dc} (h : Fine d) {l : List Cl} (hl : Forest d l) {x : Nat} (hx : x ∈ shD d) {f k n : Nat} (hk : k ∈ wayD d l (x : Int)) (hks : k ∈ shD d) (hk0 : k ≠ 0) (hi : inD d l (k : Int) = (n : Int)) (hn : n ∈ shD d) (hne : n ≠ x) :
    x ∈ toldF (f + 1) d l n ↔ openB d x n = true ∧ x ∈ toldF f d l k := by
  have flat : x ∈ (insideD d l (n : Int)).flatMap (toldF f d l) ↔ x ∈ toldF f d l k := by
    constructor
    · intro hm
      obtain ⟨c, hc, hm⟩ := List.mem_flatMap.mp hm
      obtain ⟨c1, _, c3⟩ := inside_in h hl hc hn
      obtain ⟨_, _, g3⟩ := told_way h hl f c x c1 hm
      rw [way_one h hl _ x hx (Nat.le_refl _) k c n hk g3 hi c3]
      exact hm
    · intro hm
      exact List.mem_flatMap.mpr ⟨k, in_inside h hks hk0 hi, hm⟩
  rw [toldF]
  unfold openB
  cases hh : hidD d (n : Int) with
  | true => simp
  | false =>
    by_cases ht : roleD d (n : Int) = 10
    · rw [if_neg (by simp), if_pos ht, ht, leaf_text]
      constructor
      · intro hm
        split at hm
        · simp at hm
        · exact absurd (by simpa using hm) (Ne.symm hne)
      · rintro ⟨h1, _⟩
        simp [hne] at h1
    · rw [if_neg (by simp), if_neg ht]
      cases hb : bareI (roleD d (n : Int)) && decide (n ≠ 0) with
      | true =>
        have hb1 : bareI (roleD d (n : Int)) = true := by rw [Bool.and_eq_true] at hb; exact hb.1
        rw [if_pos rfl, flat, leaf_bare hb1]
        simp
      | false =>
        rw [if_neg (by simp), List.mem_cons]
        cases hlf : leafI (roleD d (n : Int)) with
        | true => simp [hne, Ne.symm hne]
        | false => simp [Ne.symm hne, flat]

theorem way_mem {d : Dc} (h : Fine d) {l : List Cl} (hl : Forest d l) {x k : Nat} (hx : x ∈ shD d) (hk : k ∈ wayD d l (x : Int)) : k ∈ shD d := by
  obtain ⟨r, hr⟩ := hl.rank
  exact ((way_facts h hl hr 64 x hx).1 k hk).1
theorem way_nodup {d : Dc} (h : Fine d) {l : List Cl} (hl : Forest d l) {x : Nat} (hx : x ∈ shD d) : (wayD d l (x : Int)).Nodup := by
  obtain ⟨r, hr⟩ := hl.rank
  exact (way_facts h hl hr 64 x hx).2
theorem way_step {d : Dc} (h : Fine d) {l : List Cl} (hl : Forest d l) : ∀ (i x : Nat) (_ : x ∈ shD d) (h1 : i + 1 < (wayD d l (x : Int)).length), inD d l ((wayD d l (x : Int))[i] : Int) = ((wayD d l (x : Int))[i + 1] : Int)
  | 0, x, hx, h1 => by
    rcases in_cases h hl hx with e | ⟨y, hy, e⟩
    · exfalso
      rw [way_cons h hl hx, e, way_no d l (by omega)] at h1
      simp at h1
    · have e2 : wayD d l (x : Int) = x :: y :: wayD d l (inD d l (y : Int)) := by rw [way_cons h hl hx, e, way_cons h hl hy]
      simp only [e2, List.getElem_cons_zero, List.getElem_cons_succ]
      exact e
  | i + 1, x, hx, h1 => by
    rcases in_cases h hl hx with e | ⟨y, hy, e⟩
    · exfalso
      rw [way_cons h hl hx, e, way_no d l (by omega)] at h1
      simp at h1
    · have e2 : wayD d l (x : Int) = x :: wayD d l (y : Int) := by rw [way_cons h hl hx, e]
      have h2 : i + 1 < (wayD d l (y : Int)).length := by rw [e2] at h1; simpa using h1
      have := way_step h hl i y hy h2
      simp only [e2, List.getElem_cons_succ]
      exact this
theorem way_last {d : Dc} (h : Fine d) {l : List Cl} (hl : Forest d l) : ∀ (m x : Nat) (_ : x ∈ shD d) (h1 : (wayD d l (x : Int)).length = m + 1), (wayD d l (x : Int))[m] = 0
  | 0, x, hx, h1 => by
    by_cases h0 : x = 0
    · have e2 := way_cons h hl hx
      simp only [e2, List.getElem_cons_zero]
      exact h0
    · exfalso
      obtain ⟨r, hr⟩ := hl.rank
      obtain ⟨y, hy, e, _⟩ := hr x hx h0
      rw [way_cons h hl hx, e, way_cons h hl hy] at h1
      simp at h1
  | m + 1, x, hx, h1 => by
    rcases in_cases h hl hx with e | ⟨y, hy, e⟩
    · exfalso
      rw [way_cons h hl hx, e, way_no d l (by omega)] at h1
      simp at h1
    · have e2 : wayD d l (x : Int) = x :: wayD d l (y : Int) := by rw [way_cons h hl hx, e]
      have h2 : (wayD d l (y : Int)).length = m + 1 := by rw [e2] at h1; simpa using h1
      have := way_last h hl m y hy h2
      simp only [e2, List.getElem_cons_succ]
      exact this

/-- a text that is not blank is told of, just if all that it is in lets it -/
theorem told_text {d : Dc} (h : Fine d) {l : List Cl} (hl : Forest d l) {x : Nat} (hx : x ∈ shD d) (hr : roleD d (x : Int) = 10) (hs : (textD d x).toList.isEmpty = false) :
    ∀ (i : Nat) (hi : i < (wayD d l (x : Int)).length) (f : Nat), i < f → (x ∈ toldF f d l (wayD d l (x : Int))[i] ↔ ∀ a ∈ (wayD d l (x : Int)).take (i + 1), openB d x a = true)
  | 0, hi, f, hf => by
    have e2 := way_cons h hl hx
    have e3 : (wayD d l (x : Int))[0] = x := by simp only [e2, List.getElem_cons_zero]
    have e4 : (wayD d l (x : Int)).take 1 = [x] := by rw [e2]; rfl
    obtain ⟨g, rfl⟩ : ∃ g, f = g + 1 := ⟨f - 1, by omega⟩
    rw [e3, e4, toldF]
    unfold openB
    cases hh : hidD d (x : Int) with
    | true => simp [hh]
    | false =>
      rw [if_neg (by simp), if_pos hr, hs]
      simp [hh]
  | i + 1, hi, f, hf => by
    obtain ⟨g, rfl⟩ : ∃ g, f = g + 1 := ⟨f - 1, by omega⟩
    have hi' : i < (wayD d l (x : Int)).length := by omega
    have ih := told_text h hl hx hr hs i hi' g (by omega)
    have hst := way_step h hl i x hx hi
    have hk := List.getElem_mem hi'
    have hn := List.getElem_mem hi
    have hks := way_mem h hl hx hk
    have hns := way_mem h hl hx hn
    have hk0 : (wayD d l (x : Int))[i] ≠ 0 := by
      intro e
      rw [e] at hst
      have := in_root h hl
      have hst' : inD d l 0 = ((wayD d l (x : Int))[i + 1] : Int) := hst
      omega
    have hne : (wayD d l (x : Int))[i + 1] ≠ x := by
      intro e
      have h0 : (wayD d l (x : Int))[0]'(by omega) = x := by simp only [way_cons h hl hx, List.getElem_cons_zero]
      have hnd := way_nodup h hl hx
      have := (List.getElem_inj (h₀ := hi) (h₁ := by omega) hnd).mp (e.trans h0.symm)
      omega
    rw [told_up h hl hx hk hks hk0 hst hns hne, ih]
    constructor
    · rintro ⟨h1, h2⟩ a ha
      rw [List.take_succ_eq_append_getElem hi, List.mem_append, List.mem_singleton] at ha
      rcases ha with ha | rfl
      · exact h2 a ha
      · exact h1
    · intro ha
      refine ⟨ha _ ?_, fun a hm => ha a ?_⟩
      · rw [List.take_succ_eq_append_getElem hi]
        exact List.mem_append.mpr (Or.inr List.mem_cons_self)
      · rw [List.take_succ_eq_append_getElem hi]
        exact List.mem_append.mpr (Or.inl hm)
/-- .. and from the root -/
theorem told_root {d : Dc} (h : Fine d) {l : List Cl} (hl : Forest d l) {x : Nat} (hx : x ∈ shD d) (hr : roleD d (x : Int) = 10) (hs : (textD d x).toList.isEmpty = false) :
    x ∈ toldF 64 d l 0 ↔ ∀ a ∈ wayD d l (x : Int), openB d x a = true := by
  have hlen : 0 < (wayD d l (x : Int)).length := by rw [way_cons h hl hx]; simp
  obtain ⟨m, hm⟩ : ∃ m, (wayD d l (x : Int)).length = m + 1 := ⟨(wayD d l (x : Int)).length - 1, by omega⟩
  have h60 : (wayD d l (x : Int)).length ≤ 60 := by
    have h1 := way_len h hl hx 64
    have h2 := (sh_few h).1
    unfold wayD
    omega
  have := told_text h hl hx hr hs m (by omega) 64 (by omega)
  rw [way_last h hl m x hx hm, List.take_of_length_le (by omega)] at this
  exact this

/-! ### nothing bare -/

mutual
def bare1 : It → Bool
  | .mk _ r _ _ _ _ _ ks => !(Kn.ofD r).name.isEmpty && decide (r ≠ 18) && (!leafI r || ks.isEmpty) && bareL ks
def bareL : List It → Bool
  | [] => true
  | x :: xs => bare1 x && bareL xs
end
theorem bareL_app : ∀ (a b : List It), bareL (a ++ b) = (bareL a && bareL b)
  | [], b => by rw [List.nil_append, bareL, Bool.true_and]
  | x :: a, b => by rw [List.cons_append, bareL, bareL, bareL_app a b, Bool.and_assoc]
theorem bareL_flat {α : Type} (f : α → List It) : ∀ (l : List α), (∀ a ∈ l, bareL (f a) = true) → bareL (l.flatMap f) = true
  | [], _ => rfl
  | a :: l, h => by rw [List.flatMap_cons, bareL_app, h a (by simp), bareL_flat f l (fun b hb => h b (by simp [hb]))]; rfl

theorem named_role {r : Int} (h0 : 0 ≤ r) (h1 : r ≤ 18) (hb : bareI r = false) : (Kn.ofD r).name.isEmpty = false := by
  unfold bareI at hb
  simp at hb
  have : r = 1 ∨ r = 2 ∨ r = 3 ∨ r = 4 ∨ r = 5 ∨ r = 6 ∨ r = 7 ∨ r = 8 ∨ r = 9 ∨ r = 10 ∨ r = 11 ∨ r = 12 ∨ r = 13 ∨ r = 14 ∨ r = 15 ∨ r = 16 ∨ r = 17 := by omega
  rcases this with rfl | rfl | rfl | rfl | rfl | rfl | rfl | rfl | rfl | rfl | rfl | rfl | rfl | rfl | rfl | rfl | rfl <;> decide

theorem items_bare (att : Nat → Att) {d : Dc} (l : List Cl) (hr : ∀ n : Nat, 0 ≤ roleD d (n : Int) ∧ roleD d (n : Int) ≤ 18) : ∀ (f n : Nat), bareL (itemsF att f d l n) = true
  | 0, _ => rfl
  | f + 1, n => by
    have flat : bareL ((insideD d l (n : Int)).flatMap (itemsF att f d l)) = true := bareL_flat _ _ (fun k _ => items_bare att l hr f k)
    rw [itemsF, itemsG]
    split
    · rfl
    · split
      · split
        · rfl
        · rw [bareL, bare1, bareL, Bool.and_true]
          decide
      · split
        · exact flat
        · rw [bareL, bare1, bareL, Bool.and_true]
          cases hb : bareI (roleD d (n : Int)) with
          | true =>
            have e1 : (Kn.ofD 2).name.isEmpty = false := by decide
            have e2 : leafI 2 = false := by decide
            rw [if_pos rfl, leaf_bare hb, if_neg (by simp), flat, e1, e2]
            simp
          | false =>
            rw [if_neg (by simp), named_role (hr n).1 (hr n).2 hb]
            have h18 : roleD d (n : Int) ≠ 18 := by
              unfold bareI at hb
              simp at hb
              exact hb.2
            cases hlf : leafI (roleD d (n : Int)) with
            | true => rw [if_pos rfl]; simp [h18, bareL]
            | false => rw [if_neg (by simp), flat]; simp [h18]
end Go.Proofs.YtbinbojicmhdlaeGreatDoor

/-
  PLAIN MATHEMATICS: roles are from 0 to 18.
-/
namespace Go.Proofs.YtbinbojicmhdlaeGreatDoor
open Tn

theorem lk_foldT (s : List UInt8) (n : Nat) : ∀ (ps : List (List UInt8 × Nat)) (a : Option Nat), ps.foldl (fun a p => if p.1 = s then some p.2 else a) a = some n → a = some n ∨ ∃ p ∈ ps, p.2 = n
  | [], _, h => Or.inl h
  | p :: ps, a, h => by
    rw [List.foldl_cons] at h
    rcases lk_foldT s n ps _ h with h1 | ⟨q, hq, e⟩
    · split at h1
      · exact Or.inr ⟨p, by simp, by injection h1⟩
      · exact Or.inl h1
    · exact Or.inr ⟨q, by simp [hq], e⟩
theorem lk_memT {s : List UInt8} {n : Nat} {ps : List (List UInt8 × Nat)} (h : Kn.lk ps s = some n) : ∃ p ∈ ps, p.2 = n := by
  rcases lk_foldT s n ps none h with h | h
  · cases h
  · exact h
theorem find_le (s : List UInt8) : Kn.findD s ≤ 18 := by
  unfold Kn.findD
  split
  · rename_i n h
    obtain ⟨p, hp, e⟩ := lk_memT h
    have : ∀ p ∈ Kn.nmL 19, p.2 ≤ 18 := by decide
    have := this p hp
    omega
  · omega
theorem tag_le (s : List UInt8) : 0 ≤ Kn.tagD s ∧ Kn.tagD s ≤ 18 := by
  unfold Kn.tagD
  split
  · rename_i n h
    obtain ⟨p, hp, e⟩ := lk_memT h
    have : ∀ p ∈ Kn.tagL, p.2 ≤ 18 := by decide
    have := this p hp
    omega
  · omega
theorem want_le (lab : Bool) : ∀ ts, wantL lab ts ≤ 18
  | [] => by rw [wantL]; omega
  | t :: ts => by
    rw [wantL]
    split
    · omega
    · split
      · exact find_le _
      · exact want_le lab ts
theorem nat_le (lab href chk alt0 title : Bool) (tag : ByteArray) : 0 ≤ natT lab href chk alt0 title tag ∧ natT lab href chk alt0 title tag ≤ 18 := by
  unfold natT
  have h := tag_le tag.data.toList
  repeat' split
  all_goals omega
theorem alone_le (d : Dc) (n : Int) : 0 ≤ aloneD d n ∧ aloneD d n ≤ 18 := by
  unfold aloneD
  split
  · split
    · rename_i h
      exact ⟨h, want_le _ _⟩
    · exact nat_le _ _ _ _ _ _
  · omega
theorem role_le (d : Dc) (n : Int) : 0 ≤ roleD d n ∧ roleD d n ≤ 18 := by
  unfold roleD
  generalize lineD d n = l
  cases l with
  | nil => simp [roleL]
  | cons k ks =>
    rw [roleL]
    have h := alone_le d (k : Int)
    unfold fitD
    split
    · simp
    · exact h
/-- nothing that is told is generic, or none -/
theorem items_plain (att : Nat → Att) (d : Dc) (l : List Cl) (f n : Nat) : bareL (itemsF att f d l n) = true := items_bare att l (fun n => role_le d (n : Int)) f n
end Go.Proofs.YtbinbojicmhdlaeGreatDoor

/-
  PLAIN MATHEMATICS: documents that differ in what is plain, at one node: all but that node's words is the same.
-/
namespace Go.Proofs.YtbinbojicmhdlaeGreatDoor
open Tn

def plainN : List ByteArray := [⟨#[97, 108, 116]⟩, ⟨#[97, 114, 105, 97, 45, 108, 97, 98, 101, 108]⟩, ⟨#[116, 105, 116, 108, 101]⟩, ⟨#[118, 97, 108, 117, 101]⟩, ⟨#[97, 114, 105, 97, 45, 108, 101, 118, 101, 108]⟩, ⟨#[97, 114, 105, 97, 45, 99, 104, 101, 99, 107, 101, 100]⟩, ⟨#[97, 114, 105, 97, 45, 100, 105, 115, 97, 98, 108, 101, 100]⟩, ⟨#[99, 104, 101, 99, 107, 101, 100]⟩]
def plainA (a : ByteArray) : Bool := plainN.any (fun p => eqS p a)

/-- the nodes of two documents stand alike, and but for what is plain at node k say the same -/
structure Alike (d y : Dc) (k : Nat) : Prop where
  len : y.length = d.length
  live : ∀ j, (nd y j).live = (nd d j).live
  tag : ∀ j, (nd y j).tag = (nd d j).tag
  up : ∀ j, (nd y j).up = (nd d j).up
  kids : ∀ j, (nd y j).kids = (nd d j).kids
  hasS : ∀ j, (nd y j).hasS = (nd d j).hasS
  shadow : ∀ j, (nd y j).shadow = (nd d j).shadow
  inS : ∀ j, (nd y j).inS = (nd d j).inS
  attr : ∀ j a, plainA a = false → attrOf (nd y j).attrs a = attrOf (nd d j).attrs a
  other : ∀ j, j ≠ k → nd y j = nd d j

namespace Alike
variable {d y : Dc} {k : Nat}

theorem isN (h : Alike d y k) (n : Int) (el : Bool) : Tn.isN y n el = Tn.isN d n el := by
  unfold Tn.isN
  rw [h.len, h.live, h.tag]
theorem path (h : Alike d y k) : ∀ (f : Nat) (n : Int), Tn.path f y n = Tn.path f d n
  | 0, _ => rfl
  | f + 1, n => by rw [Tn.path, Tn.path, h.isN, h.up, h.path f]
theorem scopeL (h : Alike d y k) : ∀ l : List Nat, YtbinbojicmhdlaeGreatDoor.scopeL y l = YtbinbojicmhdlaeGreatDoor.scopeL d l
  | [] => rfl
  | x :: l => by rw [YtbinbojicmhdlaeGreatDoor.scopeL, YtbinbojicmhdlaeGreatDoor.scopeL, h.inS, h.up, h.scopeL l]
theorem scopeD (h : Alike d y k) (n : Int) : YtbinbojicmhdlaeGreatDoor.scopeD y n = YtbinbojicmhdlaeGreatDoor.scopeD d n := by
  unfold YtbinbojicmhdlaeGreatDoor.scopeD pathOf
  rw [h.len, h.path, h.scopeL]
theorem all (h : Alike d y k) : ∀ (f n : Nat), Tn.all f y n = Tn.all f d n
  | 0, _ => rfl
  | f + 1, n => by
    have e : Tn.all f y = Tn.all f d := funext (h.all f)
    rw [Tn.all, Tn.all, h.isN, h.shadow, h.kids, e]
theorem attrN (h : Alike d y k) (n : Int) {a : ByteArray} (ha : plainA a = false) : YtbinbojicmhdlaeGreatDoor.attrN y n a = YtbinbojicmhdlaeGreatDoor.attrN d n a := by
  unfold YtbinbojicmhdlaeGreatDoor.attrN
  rw [h.isN, h.attr _ _ ha]
theorem valN (h : Alike d y k) (n : Int) {a : ByteArray} (ha : plainA a = false) : YtbinbojicmhdlaeGreatDoor.valN y n a = YtbinbojicmhdlaeGreatDoor.valN d n a := by
  unfold YtbinbojicmhdlaeGreatDoor.valN
  rw [h.attrN n ha]
theorem slotB : plainA YtbinbojicmhdlaeGreatDoor.slotB = false := by decide +kernel
theorem nameB : plainA YtbinbojicmhdlaeGreatDoor.nameB = false := by decide +kernel
theorem isSlotD (h : Alike d y k) (n : Int) : YtbinbojicmhdlaeGreatDoor.isSlotD y n = YtbinbojicmhdlaeGreatDoor.isSlotD d n := by
  unfold YtbinbojicmhdlaeGreatDoor.isSlotD
  rw [h.isN, h.tag]
theorem slottedD (h : Alike d y k) (n : Int) : YtbinbojicmhdlaeGreatDoor.slottedD y n = YtbinbojicmhdlaeGreatDoor.slottedD d n := by
  unfold YtbinbojicmhdlaeGreatDoor.slottedD
  rw [h.isN, h.inS, h.up, h.isN, h.hasS]
theorem fitsD (h : Alike d y k) (want : ByteArray) (host : Int) : YtbinbojicmhdlaeGreatDoor.fitsD y want host = YtbinbojicmhdlaeGreatDoor.fitsD d want host := by
  funext x
  unfold YtbinbojicmhdlaeGreatDoor.fitsD
  rw [h.isSlotD, h.valN _ nameB, h.scopeD]
theorem slotD (h : Alike d y k) (n : Int) : YtbinbojicmhdlaeGreatDoor.slotD y n = YtbinbojicmhdlaeGreatDoor.slotD d n := by
  unfold YtbinbojicmhdlaeGreatDoor.slotD
  rw [h.slottedD, h.up, h.all, h.valN _ slotB, h.fitsD]
theorem givenD (h : Alike d y k) (n : Int) : YtbinbojicmhdlaeGreatDoor.givenD y n = YtbinbojicmhdlaeGreatDoor.givenD d n := by
  unfold YtbinbojicmhdlaeGreatDoor.givenD
  have e : (fun (x : Nat) => YtbinbojicmhdlaeGreatDoor.slotD y (x : Int) == n) = (fun (x : Nat) => YtbinbojicmhdlaeGreatDoor.slotD d (x : Int) == n) := funext fun x => by rw [h.slotD]
  rw [h.isSlotD, h.scopeD, h.kids, e]
theorem kidsD (h : Alike d y k) (n : Int) : YtbinbojicmhdlaeGreatDoor.kidsD y n = YtbinbojicmhdlaeGreatDoor.kidsD d n := by
  unfold YtbinbojicmhdlaeGreatDoor.kidsD
  rw [h.isN, h.hasS, h.shadow, h.givenD, h.kids]
theorem upF (h : Alike d y k) (n : Int) : YtbinbojicmhdlaeGreatDoor.upF y n = YtbinbojicmhdlaeGreatDoor.upF d n := by
  unfold YtbinbojicmhdlaeGreatDoor.upF
  rw [h.isN, h.up, h.kidsD, h.slotD, h.kidsD]
theorem shownF (h : Alike d y k) : ∀ (f n : Nat), YtbinbojicmhdlaeGreatDoor.shownF f y n = YtbinbojicmhdlaeGreatDoor.shownF f d n
  | 0, _ => rfl
  | f + 1, n => by
    have e : YtbinbojicmhdlaeGreatDoor.shownF f y = YtbinbojicmhdlaeGreatDoor.shownF f d := funext (h.shownF f)
    rw [YtbinbojicmhdlaeGreatDoor.shownF, YtbinbojicmhdlaeGreatDoor.shownF, h.kidsD, e]
theorem shD (h : Alike d y k) : YtbinbojicmhdlaeGreatDoor.shD y = YtbinbojicmhdlaeGreatDoor.shD d := h.shownF _ _
theorem lineF (h : Alike d y k) : ∀ (f : Nat) (n : Int), YtbinbojicmhdlaeGreatDoor.lineF f y n = YtbinbojicmhdlaeGreatDoor.lineF f d n
  | 0, _ => rfl
  | f + 1, n => by rw [YtbinbojicmhdlaeGreatDoor.lineF, YtbinbojicmhdlaeGreatDoor.lineF, h.isN, h.upF, h.lineF f]
theorem lineD (h : Alike d y k) (n : Int) : YtbinbojicmhdlaeGreatDoor.lineD y n = YtbinbojicmhdlaeGreatDoor.lineD d n := h.lineF _ _
theorem concD (h : Alike d y k) (n : Int) : YtbinbojicmhdlaeGreatDoor.concD y n = YtbinbojicmhdlaeGreatDoor.concD d n := by
  unfold YtbinbojicmhdlaeGreatDoor.concD hasN saidN
  rw [h.attrN n (a := ⟨#[104, 105, 100, 100, 101, 110]⟩) (by decide +kernel), h.valN n (a := ⟨#[97, 114, 105, 97, 45, 104, 105, 100, 100, 101, 110]⟩) (by decide +kernel)]
theorem hidD (h : Alike d y k) (n : Int) : YtbinbojicmhdlaeGreatDoor.hidD y n = YtbinbojicmhdlaeGreatDoor.hidD d n := by
  unfold YtbinbojicmhdlaeGreatDoor.hidD hidL
  have e : (fun (x : Nat) => YtbinbojicmhdlaeGreatDoor.concD y (x : Int)) = (fun (x : Nat) => YtbinbojicmhdlaeGreatDoor.concD d (x : Int)) := funext fun x => h.concD _
  rw [h.lineD, e]
theorem idOf (h : Alike d y k) (j : Nat) : YtbinbojicmhdlaeGreatDoor.idOf y j = YtbinbojicmhdlaeGreatDoor.idOf d j := by
  unfold YtbinbojicmhdlaeGreatDoor.idOf
  rw [h.isN, h.attr _ _ (by decide +kernel)]
theorem hitD (h : Alike d y k) (id : ByteArray) (sc : Int) : YtbinbojicmhdlaeGreatDoor.hitD y id sc = YtbinbojicmhdlaeGreatDoor.hitD d id sc := by
  funext x
  unfold YtbinbojicmhdlaeGreatDoor.hitD
  rw [h.idOf, h.scopeD]
theorem findD (h : Alike d y k) (n : Int) (id : ByteArray) : YtbinbojicmhdlaeGreatDoor.findD y n id = YtbinbojicmhdlaeGreatDoor.findD d n id := by
  unfold YtbinbojicmhdlaeGreatDoor.findD
  rw [h.isN, h.all, h.scopeD, h.hitD]
theorem inD (h : Alike d y k) (l : List Cl) (n : Int) : YtbinbojicmhdlaeGreatDoor.inD y l n = YtbinbojicmhdlaeGreatDoor.inD d l n := by
  unfold YtbinbojicmhdlaeGreatDoor.inD
  rw [h.upF]
theorem wayF (h : Alike d y k) (l : List Cl) : ∀ (f : Nat) (n : Int), YtbinbojicmhdlaeGreatDoor.wayF f y l n = YtbinbojicmhdlaeGreatDoor.wayF f d l n
  | 0, _ => rfl
  | f + 1, n => by rw [YtbinbojicmhdlaeGreatDoor.wayF, YtbinbojicmhdlaeGreatDoor.wayF, h.inD, h.wayF l f]
theorem claim1 (h : Alike d y k) (n : Nat) : YtbinbojicmhdlaeGreatDoor.claim1 y n = YtbinbojicmhdlaeGreatDoor.claim1 d n := by
  funext l x
  unfold YtbinbojicmhdlaeGreatDoor.claim1 takes wayD
  rw [h.shD, h.wayF]
theorem asksD (h : Alike d y k) (n : Nat) : YtbinbojicmhdlaeGreatDoor.asksD y n = YtbinbojicmhdlaeGreatDoor.asksD d n := by
  unfold YtbinbojicmhdlaeGreatDoor.asksD
  have e : (fun t => YtbinbojicmhdlaeGreatDoor.findD y (n : Int) (Tx.bs t)) = (fun t => YtbinbojicmhdlaeGreatDoor.findD d (n : Int) (Tx.bs t)) := funext fun t => h.findD _ _
  rw [h.valN _ (by decide +kernel), e]
theorem claimN (h : Alike d y k) : YtbinbojicmhdlaeGreatDoor.claimN y = YtbinbojicmhdlaeGreatDoor.claimN d := by
  funext l n
  unfold YtbinbojicmhdlaeGreatDoor.claimN
  rw [h.asksD, h.claim1]
theorem claimsD (h : Alike d y k) : YtbinbojicmhdlaeGreatDoor.claimsD y = YtbinbojicmhdlaeGreatDoor.claimsD d := by
  unfold YtbinbojicmhdlaeGreatDoor.claimsD
  rw [h.shD, h.claimN]
theorem insideD (h : Alike d y k) (l : List Cl) (n : Int) : YtbinbojicmhdlaeGreatDoor.insideD y l n = YtbinbojicmhdlaeGreatDoor.insideD d l n := by
  unfold YtbinbojicmhdlaeGreatDoor.insideD
  rw [h.kidsD]

/-! ### of other nodes all is the same -/
theorem attrN' (h : Alike d y k) {j : Nat} (hj : j ≠ k) (a : ByteArray) : YtbinbojicmhdlaeGreatDoor.attrN y (j : Int) a = YtbinbojicmhdlaeGreatDoor.attrN d (j : Int) a := by
  unfold YtbinbojicmhdlaeGreatDoor.attrN
  rw [h.isN, Int.toNat_natCast, h.other j hj]
theorem valN' (h : Alike d y k) {j : Nat} (hj : j ≠ k) (a : ByteArray) : YtbinbojicmhdlaeGreatDoor.valN y (j : Int) a = YtbinbojicmhdlaeGreatDoor.valN d (j : Int) a := by
  unfold YtbinbojicmhdlaeGreatDoor.valN
  rw [h.attrN' hj]
end Alike

/-! ### plain changes -/

theorem eqS_trans {a b c : ByteArray} (h1 : eqS a b = true) : eqS a c = eqS b c := by
  unfold eqS at *
  rw [beq_iff_eq.mp h1]
/-- an attribute that is set tells nothing else of the others -/
theorem fold_not {name value a : ByteArray} (ha : eqS name a = false) : ∀ (l out : List At) (dn : Bool), (l.foldl (aStep name value) (out, dn)).1.find? (fun x => eqS x.1 a) = (out ++ l).find? (fun x => eqS x.1 a)
  | [], out, _ => by rw [List.append_nil]; rfl
  | x :: l, out, dn => by
    have key : ∀ (o2 : List At) (dn2 : Bool), o2.find? (fun z => eqS z.1 a) = (out ++ [x]).find? (fun z => eqS z.1 a) → (l.foldl (aStep name value) (o2, dn2)).1.find? (fun z => eqS z.1 a) = (out ++ x :: l).find? (fun z => eqS z.1 a) := by
      intro o2 dn2 ho
      rw [fold_not ha l o2 dn2, List.find?_append, ho, ← List.find?_append, List.append_assoc]
      rfl
    rw [List.foldl_cons]
    show (l.foldl (aStep name value) (aStep name value (out, dn) x)).1.find? _ = _
    unfold aStep
    split
    · rename_i hx
      refine key _ _ ?_
      have h1 : eqS x.1 a = false := by rw [eqS_trans hx]; exact ha
      rw [List.find?_append, List.find?_append]
      simp [h1]
    · split
      · refine key _ _ ?_
        rw [List.append_assoc, List.find?_append, List.find?_append]
        simp [ha]
      · exact key _ _ rfl
end Go.Proofs.YtbinbojicmhdlaeGreatDoor

/-
  PLAIN MATHEMATICS: behind a plain change the documents stand alike.
-/
namespace Go.Proofs.YtbinbojicmhdlaeGreatDoor
open Tn

end Go.Proofs.YtbinbojicmhdlaeGreatDoor

/-
  PLAIN MATHEMATICS: texts, joined.
-/
namespace Go.Proofs.YtbinbojicmhdlaeGreatDoor

def txs (l : List ByteArray) : List (List UInt8) := l.map (·.data.toList)
def joinB (l : List ByteArray) : ByteArray := Tx.bs (Tx.joined (txs l))
end Go.Proofs.YtbinbojicmhdlaeGreatDoor

/-
  PLAIN MATHEMATICS: names; who was not asked does not matter.
-/
namespace Go.Proofs.YtbinbojicmhdlaeGreatDoor
open Tn

/-- who was had, who was asked, and who was listed -/
structure St where
  had : List Nat
  asked : List Nat
  lst : List Nat

def emB : ByteArray := ⟨#[]⟩
def full (s : ByteArray) : Bool := !s.toList.isEmpty
def contentI (r : Int) : Bool := (Kn.ofD r).content
def namedI (r : Int) : Bool := (Kn.ofD r).named

/-- what an attribute lists -/
def refsD (d : Dc) (n : Int) (name : ByteArray) : List Int := (Wd.toksOf (valN d n name)).map (fun t => findD d n (Tx.bs t))

abbrev Nmr := St → Nat → Bool → ByteArray × St

/-- what is in a node, and in that, is listed with it -/
def markF : Nat → Dc → List Cl → Nat → List Nat → List Nat
  | 0, _, _, _, l => l
  | f + 1, d, c, n, l => if l.contains n then l else (insideD d c (n : Int)).foldl (fun l k => markF f d c k l) (l ++ [n])
def markS (d : Dc) (c : List Cl) (k : Nat) (s : St) : St := ⟨s.had, s.asked, markF 64 d c k s.lst⟩
/-- asked for another one's name, and listed -/
def tagN (nm : Nmr) (d : Dc) (c : List Cl) (s : St) (k : Nat) : ByteArray × St := nm (markS d c k s) k true

/-- one by one, those that were not had yet -/
def eachF (nm : St → Nat → ByteArray × St) : List Int → List ByteArray × St → List ByteArray × St
  | [], s => s
  | k :: ks, s => eachF nm ks (if 0 ≤ k ∧ s.2.had.contains k.toNat = false then (s.1 ++ [(nm s.2 k.toNat).1], (nm s.2 k.toNat).2) else s)
def joinF (r : List ByteArray × St) : ByteArray × St := (Wd.sqz (joinB r.1), r.2)

def labelP (d : Dc) (n : Int) (had : List Nat) (k : Nat) : Bool := isA (nd d k).tag [108, 97, 98, 101, 108] && ((valN d (k : Int) ⟨#[102, 111, 114]⟩).toList == (valN d n ⟨#[105, 100]⟩).toList) && (scopeD d (k : Int) == scopeD d n) && !had.contains k
def labelFor (d : Dc) (n : Int) (had : List Nat) : Option Nat :=
  if isA (nd d n.toNat).tag [105, 110, 112, 117, 116] && full (valN d n ⟨#[105, 100]⟩) && decide (findD d n (valN d n ⟨#[105, 100]⟩) = n) then (all fuel d 0).find? (labelP d n had) else none

def listD (nm : Nmr) (d : Dc) (c : List Cl) (n : Int) (name : ByteArray) (st : St) : ByteArray × St := joinF (eachF (tagN nm d c) (refsD d n name) ([], st))
def stepA (nm : Nmr) (d : Dc) (c : List Cl) (n : Nat) (within : Bool) (st : St) : ByteArray × St := if within then (emB, st) else listD nm d c (n : Int) ⟨#[97, 114, 105, 97, 45, 108, 97, 98, 101, 108, 108, 101, 100, 98, 121]⟩ st
def stepB (nm : Nmr) (d : Dc) (n : Nat) (st : St) : ByteArray × St :=
  if isA (nd d n).tag [105, 109, 103] then (saidN d (n : Int) ⟨#[97, 108, 116]⟩, st) else match labelFor d (n : Int) st.had with | some k => nm st k true | none => (emB, st)
def stepC (nm : Nmr) (d : Dc) (c : List Cl) (n : Nat) (within : Bool) (st : St) : ByteArray × St :=
  if within || contentI (roleD d (n : Int)) then joinF (eachF (fun s k => nm s k true) ((insideD d c (n : Int)).map Int.ofNat) ([], st)) else (emB, st)
def st1 (d : Dc) (n : Nat) (st : St) : St := ⟨st.had ++ [n], st.asked ++ lineD d (n : Int), st.lst⟩
def tailC (d : Dc) (n : Nat) (e : ByteArray × St) : ByteArray × St := if full e.1 then e else (saidN d (n : Int) ⟨#[116, 105, 116, 108, 101]⟩, e.2)
def tailB (nm : Nmr) (d : Dc) (c : List Cl) (n : Nat) (within : Bool) (b : ByteArray × St) : ByteArray × St := if full b.1 then b else tailC d n (stepC nm d c n within b.2)
def tailA (nm : Nmr) (d : Dc) (c : List Cl) (n : Nat) (within : Bool) (a : ByteArray × St) : ByteArray × St :=
  if full a.1 then a
  else if full (saidN d (n : Int) ⟨#[97, 114, 105, 97, 45, 108, 97, 98, 101, 108]⟩) then (saidN d (n : Int) ⟨#[97, 114, 105, 97, 45, 108, 97, 98, 101, 108]⟩, a.2)
  else if roleD d (n : Int) = 12 ∧ within = true then (saidN d (n : Int) ⟨#[118, 97, 108, 117, 101]⟩, a.2)
  else tailB nm d c n within (stepB nm d n a.2)
/-- a node's name, and who was asked for it -/
def nameG (nm : Nmr) (d : Dc) (c : List Cl) (st : St) (n : Nat) (within : Bool) : ByteArray × St :=
  if hidD d (n : Int) && !st.lst.contains n then (emB, st1 d n st)
  else if has (nd d n).tag = false then (Wd.sqz (nd d n).text, st1 d n st)
  else tailA nm d c n within (stepA nm d c n within (st1 d n st))
def nameF : Nat → Dc → List Cl → Nmr
  | 0, _, _ => fun st _ _ => (emB, st)
  | f + 1, d, c => nameG (nameF f d c) d c

structure Mem where
  name : ByteArray
  about : ByteArray
  uses : List Nat

def nameM (d : Dc) (c : List Cl) (n : Nat) : ByteArray × St := if !has (nd d n).tag || namedI (roleD d (n : Int)) then nameF 64 d c ⟨[], lineD d (n : Int), []⟩ n false else (emB, ⟨[], lineD d (n : Int), []⟩)
def aboutT (d : Dc) (n : Nat) (name : ByteArray) (t : ByteArray × St) : ByteArray × St := if !full t.1 && !eqS (saidN d (n : Int) ⟨#[116, 105, 116, 108, 101]⟩) name then (saidN d (n : Int) ⟨#[116, 105, 116, 108, 101]⟩, t.2) else t
def aboutM (d : Dc) (c : List Cl) (n : Nat) (r : ByteArray × St) : ByteArray × St :=
  if has (nd d n).tag && full r.1 then aboutT d n r.1 (listD (nameF 64 d c) d c (n : Int) ⟨#[97, 114, 105, 97, 45, 100, 101, 115, 99, 114, 105, 98, 101, 100, 98, 121]⟩ ⟨[n], r.2.asked, []⟩) else (emB, r.2)
def usesD (d : Dc) (l : List Nat) : List Nat := (List.range d.length).filter (fun k => l.contains k)
def memoD (d : Dc) (c : List Cl) (n : Int) : Mem :=
  if isN d n false then ⟨(nameM d c n.toNat).1, (aboutM d c n.toNat (nameM d c n.toNat)).1, usesD d (aboutM d c n.toNat (nameM d c n.toNat)).2.asked⟩ else ⟨emB, emB, []⟩

/-! ### what was asked stays asked -/

/-! ### who was not asked does not matter -/

section
variable {d y : Dc} {k : Nat}

theorem Alike.refsD (h : Alike d y k) {n : Nat} (hn : n ≠ k) (name : ByteArray) : YtbinbojicmhdlaeGreatDoor.refsD y (n : Int) name = YtbinbojicmhdlaeGreatDoor.refsD d (n : Int) name := by
  unfold YtbinbojicmhdlaeGreatDoor.refsD
  have e : (fun t => YtbinbojicmhdlaeGreatDoor.findD y (n : Int) (Tx.bs t)) = (fun t => YtbinbojicmhdlaeGreatDoor.findD d (n : Int) (Tx.bs t)) := funext fun t => h.findD _ _
  rw [h.valN' hn, e]
theorem Alike.labelFor (h : Alike d y k) (n : Int) (had : List Nat) : YtbinbojicmhdlaeGreatDoor.labelFor y n had = YtbinbojicmhdlaeGreatDoor.labelFor d n had := by
  have e : labelP y n had = labelP d n had := by
    funext x
    unfold labelP
    rw [h.tag, h.valN _ (a := ⟨#[102, 111, 114]⟩) (by decide +kernel), h.valN _ (a := ⟨#[105, 100]⟩) (by decide +kernel), h.scopeD, h.scopeD]
  unfold YtbinbojicmhdlaeGreatDoor.labelFor
  rw [h.tag, h.valN _ (a := ⟨#[105, 100]⟩) (by decide +kernel), h.findD, h.all, e]

theorem Alike.markF (h : Alike d y k) (c : List Cl) : ∀ (f n : Nat) (l : List Nat), YtbinbojicmhdlaeGreatDoor.markF f y c n l = YtbinbojicmhdlaeGreatDoor.markF f d c n l
  | 0, _, _ => rfl
  | f + 1, n, l => by
    have e : (fun l j => YtbinbojicmhdlaeGreatDoor.markF f y c j l) = (fun l j => YtbinbojicmhdlaeGreatDoor.markF f d c j l) := funext fun l => funext fun j => h.markF c f j l
    rw [YtbinbojicmhdlaeGreatDoor.markF, YtbinbojicmhdlaeGreatDoor.markF, h.insideD, e]
end
end Go.Proofs.YtbinbojicmhdlaeGreatDoor

/-
  THE WALKS of the reference's Attr at whatever node, and Scope.
-/
namespace Go.Proofs.YtbinbojicmhdlaeGreatDoor
open Go.RowKit

set_option maxHeartbeats 800000 in
theorem rattr_no {w : World} {b o c : Nat} {rs : List Raw} {d : Tn.Dc} (hd : DocAt w b o c rs d) (n : Int) (hn : Tn.isN d n true = false) (name : ByteArray) :
    Calls Tryz.prog 30 #[.slice (some ⟨b, o, none⟩) rs.length c, .int .i64 n, .string name] w fun e w' => e = .returned (.tuple #[.string ⟨#[]⟩, .bool false]) ∧ w' = w := by
  have H : Hid (DocAt w b o c rs d) := hd
  clear hd
  go_enter Tryz.func30, Tryz.ntmps30
  go_wp2_with (go_at_call 52; refine (ris_any H.out _ _).mono ?_; rintro e w' ⟨rfl, hww⟩; subst hww; rw [hn])
  go_ret2
  exact ⟨rfl, rfl⟩

theorem rattr_all {w : World} {b o c : Nat} {rs : List Raw} {d : Tn.Dc} (hd : DocAt w b o c rs d) (n : Int) (name : ByteArray) :
    Calls Tryz.prog 30 #[.slice (some ⟨b, o, none⟩) rs.length c, .int .i64 n, .string name] w fun e w' =>
      e = .returned (.tuple #[.string (valN d n name), .bool (attrN d n name).isSome]) ∧ Below w.heap.size w w' := by
  unfold valN attrN
  cases hn : Tn.isN d n true with
  | true =>
    rw [if_pos rfl]
    obtain ⟨k, rfl, _, _⟩ := isN_nat (isN_true hn)
    rw [Int.toNat_natCast]
    exact rattr_any hd k hn name
  | false =>
    rw [if_neg (by simp)]
    refine (rattr_no hd n hn _).mono ?_
    rintro e w' ⟨rfl, rfl⟩
    exact ⟨rfl, Below.refl _ _⟩

theorem scopeL_take (d : Tn.Dc) (l : List Nat) (j : Nat) (h : j < l.length) (hn : ∀ k ∈ l.take j, (Tn.nd d k).inS = false) : scopeL d l = if (Tn.nd d l[j]).inS then (Tn.nd d l[j]).up else scopeL d (l.drop (j + 1)) := by
  have e : l = l.take j ++ l[j] :: l.drop (j + 1) := by rw [List.getElem_cons_drop, List.take_append_drop]
  rw [show scopeL d l = scopeL d (l.take j ++ l[j] :: l.drop (j + 1)) by rw [← e], scopeL_app d _ _ hn, scopeL]

set_option maxHeartbeats 800000 in
set_option maxRecDepth 100000 in
theorem rscope_any {w : World} {b o c : Nat} {rs : List Raw} {d : Tn.Dc} (hd : DocAt w b o c rs d) (hf : Fine d) (n : Int) :
    Calls Tryz.prog 60 #[.slice (some ⟨b, o, none⟩) rs.length c, .int .i64 n] w fun e w' => e = .returned (.int .i64 (scopeD d n)) ∧ Below w.heap.size w w' := by
  have H : Hid (DocAt w b o c rs d) := hd
  have hrl : rs.length ≤ 1000 := by rw [hd.len]; have := hf.good.len.2; omega
  have hP := rpath_own hd hrl n
  have hL : ∀ k ∈ Tn.pathOf d n, Tn.lvD d k = true := path_live d _ _
  have HU : Hid (∀ k ∈ Tn.pathOf d n, k < rs.length ∧ (rs[k]?.map (·.inS) = some true → ∃ u : Nat, (Tn.nd d k).up = (u : Int))) := by
    intro k hk
    have hkl := hL k hk
    have h1 := Tn.lv_lt hkl
    refine ⟨by rw [hd.len]; exact h1, fun hi => ?_⟩
    obtain ⟨r, hr, _⟩ := hf.good.tr
    have hk' : k < rs.length := by rw [hd.len]; exact h1
    have hins : (Tn.nd d k).inS = true := by
      rw [nd_at h1, ← (hd.nds k hk' h1).inS]
      rw [List.getElem?_eq_getElem hk'] at hi
      simpa using hi
    have h0 : 0 < k := by
      apply Classical.byContradiction
      intro hn
      have := ((hf.fit k).root (by omega)).2.2
      rw [hins] at this
      cases this
    have := hr.2 k h0 hkl
    exact ⟨(Tn.nd d k).up.toNat, by omega⟩
  have SD : Hid (scopeD d n = scopeL d (Tn.pathOf d n)) := rfl
  generalize scopeD d n = res at *
  generalize Tn.pathOf d n = l at *
  clear hd hL
  go_enter Tryz.func60, Tryz.ntmps60
  go_wp2_with (go_at_call 97; refine hP.mono ?_; rintro e w1 ⟨v, rfl, hown, hb⟩; obtain ⟨p, cc, rfl, hz1, hz2, _, hat⟩ := (ints_of_owns hown).at)
  have T : Hid (∀ j (hj : j < l.length), ∃ b o, p = some ⟨b, o, none⟩ ∧ w1.cell? ⟨b, o + j, none⟩ = some (.int .i64 (l[j] : Int))) := hat
  have D1 : Hid (DocAt w1 b o c rs d) := H.out.keeps (keeps_below hb (Nat.le_refl _))
  clear hat hown
  go_loop [6, 11] (fun _ i => ∃ k : Nat, k ≤ l.length ∧ i = .int .i64 k ∧ Hid (∀ x ∈ l.take k, (Tn.nd d x).inS = false)) (fun _ i => l.length - (intOf i).toNat)
  case atStart => exact ⟨0, Nat.zero_le _, rfl, fun x hx => by simp at hx⟩
  case round =>
    obtain ⟨j, hj, rfl, NO⟩ := hrel
    by_cases hlt : j < l.length
    · obtain ⟨b1, o1, rfl, hc⟩ := T.out j hlt
      obtain ⟨hk', hup⟩ := HU.out _ (List.getElem_mem hlt)
      have SL := scopeL_take d l j hlt NO.out
      have hkd : l[j] < d.length := by rw [← D1.out.len]; exact hk'
      have h8 := D1.out.row.c8 l[j] hk'
      have h4 := D1.out.row.c4 l[j] hk'
      have e8 : (Tn.nd d l[j]).inS = rs[l[j]].inS := by rw [nd_at hkd]; exact (D1.out.nds _ hk' hkd).inS.symm
      have e4 : (Tn.nd d l[j]).up = rs[l[j]].up := by rw [nd_at hkd]; exact (D1.out.nds _ hk' hkd).up.symm
      rw [e8, e4] at SL
      have hup2 : rs[l[j]].inS = true → ∃ u : Nat, rs[l[j]].up = (u : Int) := fun hi => by
        rw [← e4]
        exact hup (by rw [List.getElem?_eq_getElem hk']; simp [hi])
      have N2 : rs[l[j]].inS = false → Hid (∀ x ∈ l.take (j + 1), (Tn.nd d x).inS = false) := fun hi x hx => by
        rw [List.take_succ_eq_append_getElem hlt, List.mem_append, List.mem_singleton] at hx
        rcases hx with hx | rfl
        · exact NO.out x hx
        · rw [e8, hi]
      clear hup e8 e4
      have SL2 : Hid _ := SL
      clear SL
      generalize rs[l[j]].inS = is at *
      generalize rs[l[j]].up = uu at *
      generalize l[j] = x at *
      cases is with
      | true =>
        obtain ⟨u, rfl⟩ := hup2 rfl
        have E : Hid (res = (u : Int)) := by show _ = _; rw [SD.out, SL2.out]; rfl
        go_wp2_with fail
        go_ret
        exact ⟨by rw [E.out]; rfl, hb⟩
      | false =>
        have N3 := N2 rfl
        go_wp2_with fail
        exact ⟨⟨j + 1, by omega, by go_num, N3⟩, by simp [intOf]; omega⟩
    · obtain rfl : j = l.length := by omega
      have E : Hid (res = 0) := by
        show _ = _
        rw [SD.out]
        have := scopeL_app d l [] (fun x hx => NO.out x (by rw [List.take_length]; exact hx))
        rw [List.append_nil] at this
        rw [this]
        rfl
      go_wp2_with fail
      go_ret
      exact ⟨by rw [E.out]; rfl, hb⟩
end Go.Proofs.YtbinbojicmhdlaeGreatDoor

/-
  THE WALK of the reference's Slot.
-/
namespace Go.Proofs.YtbinbojicmhdlaeGreatDoor
open Go.RowKit

theorem find_at {P : Nat → Bool} {g : Nat → List Nat} {S A : List Nat} {j q : Nat} (hj : j < S.length) (hA : g S[j] = A) (hq : q < A.length) (no1 : ∀ x ∈ (S.take j).flatMap g, P x = false) (no2 : ∀ x ∈ A.take q, P x = false) (hp : P A[q] = true) : (S.flatMap g).find? P = some A[q] := by
  have e : S = S.take j ++ S[j] :: S.drop (j + 1) := by rw [List.getElem_cons_drop, List.take_append_drop]
  have e2 : A = A.take q ++ A[q] :: A.drop (q + 1) := by rw [List.getElem_cons_drop, List.take_append_drop]
  have e3 : S.flatMap g = (S.take j).flatMap g ++ (A.take q ++ (A[q] :: (A.drop (q + 1) ++ (S.drop (j + 1)).flatMap g))) := by
    rw [show S.flatMap g = (S.take j ++ S[j] :: S.drop (j + 1)).flatMap g by rw [← e], List.flatMap_append, List.flatMap_cons, hA]
    congr 1
    have e4 := congrArg (· ++ (S.drop (j + 1)).flatMap g) e2
    simpa only [List.append_assoc, List.cons_append] using e4
  rw [e3, find_skip no1, find_skip no2, List.find?_cons_of_pos (by simpa using hp)]

set_option maxHeartbeats 3200000 in
set_option maxRecDepth 100000 in
theorem qslot_any {w : World} {b o c : Nat} {rs : List Raw} {d : Tn.Dc} (hd : DocAt w b o c rs d) (hf : Fine d) (n : Int) :
    Calls Tryz.prog 129 #[.slice (some ⟨b, o, none⟩) rs.length c, .int .i64 n] w fun e w' => e = .returned (.int .i64 (slotD d n)) ∧ Below w.heap.size w w' := by
  have H : Hid (DocAt w b o c rs d) := hd
  clear hd
  cases his : Tn.isN d n false with
  | false =>
    have E : Hid (slotD d n = -1) := by show _ = _; unfold slotD slottedD; rw [his]; rfl
    go_enter Tryz.func129, Tryz.ntmps129
    go_wp2_with (go_at_call 52; refine (ris_any H.out _ _).mono ?_; rintro e w' ⟨rfl, hww⟩; subst hww; rw [his])
    go_ret
    exact ⟨by rw [E.out]; rfl, Below.refl _ _⟩
  | true =>
    obtain ⟨k, rfl, hk, hlv⟩ := isN_nat his
    have hk' : k < rs.length := by rw [H.out.len]; exact hk
    have h8 := H.out.row.c8 k hk'
    have h4 := H.out.row.c4 k hk'
    have e8 : (Tn.nd d k).inS = rs[k].inS := by rw [nd_at hk]; exact (H.out.nds k hk' hk).inS.symm
    have e4 : (Tn.nd d k).up = rs[k].up := by rw [nd_at hk]; exact (H.out.nds k hk' hk).up.symm
    cases hin : rs[k].inS with
    | true =>
      rw [hin] at h8 e8
      have E : Hid (slotD d (k : Int) = -1) := by show _ = _; unfold slotD slottedD; rw [his, Int.toNat_natCast, e8]; rfl
      clear e8 e4 hin
      go_enter Tryz.func129, Tryz.ntmps129
      go_wp2_with (go_at_call 52; refine (ris_any H.out _ _).mono ?_; rintro e w' ⟨rfl, hww⟩; subst hww; rw [his])
      go_ret
      exact ⟨by rw [E.out]; rfl, Below.refl _ _⟩
    | false =>
      rw [hin] at h8 e8
      by_cases hneg : rs[k].up < 0
      · have E : Hid (slotD d (k : Int) = -1) := by
          show _ = _
          unfold slotD slottedD
          rw [his, Int.toNat_natCast, e4]
          have : Tn.isN d rs[k].up true = false := by unfold Tn.isN; simp; omega
          rw [this]
          simp
        clear e8 e4 hin
        generalize rs[k].up = up at *
        go_enter Tryz.func129, Tryz.ntmps129
        go_wp2_with (go_at_call 52; refine (ris_any H.out _ _).mono ?_; rintro e w' ⟨rfl, hww⟩; subst hww; rw [his])
        go_ret
        exact ⟨by rw [E.out]; rfl, Below.refl _ _⟩
      · obtain ⟨r, hr, hR⟩ := hf.good.tr
        have hk0 : 0 < k := by
          apply Classical.byContradiction
          intro hn
          have hk00 : k = 0 := by omega
          have := hf.good.rootUp
          rw [← hk00, e4] at this
          omega
        have hul : Tn.lvD d (Tn.upD d k) = true := hr.1.upLive hk0 hlv
        obtain ⟨u, hu⟩ : ∃ u : Nat, rs[k].up = (u : Int) := ⟨rs[k].up.toNat, by omega⟩
        have hud : Tn.upD d k = u := by unfold Tn.upD; rw [e4, hu]; simp
        rw [hud] at hul
        have hudl := Tn.lv_lt hul
        have hur : u < rs.length := by rw [H.out.len]; exact hudl
        rw [hu] at h4 e4
        have h6 := H.out.row.c6 u hur
        have e6 : (Tn.nd d u).hasS = rs[u].hasS := by rw [nd_at hudl]; exact (H.out.nds u hur hudl).hasS.symm
        clear hin hneg hu
        cases hhs : rs[u].hasS with
        | false =>
          rw [hhs] at h6 e6
          have E : Hid (slotD d (k : Int) = -1) := by
            show _ = _
            unfold slotD slottedD
            rw [Int.toNat_natCast, e4, Int.toNat_natCast, e6]
            simp
          clear e8 e4 e6 hhs
          go_enter Tryz.func129, Tryz.ntmps129
          go_wp2_with (go_at_call 52; refine (ris_any H.out _ _).mono ?_; rintro e w' ⟨rfl, hww⟩; subst hww; rw [his])
          go_ret
          exact ⟨by rw [E.out]; rfl, Below.refl _ _⟩
        | true =>
          rw [hhs] at h6 e6
          have hut : Tn.isN d (u : Int) true = true := by
            have h1 : Tn.isN d (u : Int) false = true := by rw [Tn.isN_iff]; exact hul
            have h2 : Tn.has (Tn.nd d u).tag = true := by
              cases ht : Tn.has (Tn.nd d u).tag with
              | true => rfl
              | false =>
                have := ((hf.fit u).text ht).2.2.2
                rw [e6] at this
                cases this
            unfold Tn.isN at h1 ⊢
            rw [Int.toNat_natCast] at h1 ⊢
            rw [h2]
            simpa using h1
          have E : Hid (slotD d (k : Int) = orI (((Tn.nd d u).shadow.flatMap (allD d)).find? (fitsD d (valN d (k : Int) slotB) (u : Int)))) := by
            show _ = _
            rw [← slot_shadow hf hul e6]
            unfold slotD
            rw [if_pos, Int.toNat_natCast, e4, Int.toNat_natCast]
            · rfl
            · unfold slottedD
              rw [his, Int.toNat_natCast, e8, e4, hut, Int.toNat_natCast, e6]
              rfl
          have hSl : (Tn.nd d u).shadow.length ≤ 1000 := by have h1 := hf.good.small u true; have h2 : (Tn.nd d u).shadow.length ≤ 12 := h1; omega
          have hsi : IntsAt w (.slice rs[u].s.p rs[u].s.n rs[u].s.c) (Tn.nd d u).shadow := by rw [nd_at hudl]; exact (H.out.nds u hur hudl).shadow
          have h7 := H.out.row.c7 u hur
          have ET : Hid (∀ x ∈ (Tn.nd d u).shadow, Tn.lvD d x = true) := fun x hx => (hr.1.mem u true x hx).2.1
          have HA : Hid (∀ (W : World) (x : Nat), Tn.lvD d x = true → DocAt W b o c rs d → Calls Tryz.prog 59 #[.slice (some ⟨b, o, none⟩) rs.length c, .int .i64 (x : Int)] W fun e w' => ∃ v, e = .returned v ∧ OwnI w' W.heap.size v (allD d x) ∧ Below W.heap.size W w') :=
            fun W x hx hW => rall_own (few_of hf.good) Tn.fuel x W hW (Tn.ends_of hr hR Tn.fuel x hx (by unfold Tn.fuel; omega))
          have HT : Hid (∀ (W : World) (x : Int) (nm : ByteArray), DocAt W b o c rs d → Calls Tryz.prog 30 #[.slice (some ⟨b, o, none⟩) rs.length c, .int .i64 x, .string nm] W fun e w' => e = .returned (.tuple #[.string (valN d x nm), .bool (attrN d x nm).isSome]) ∧ Below W.heap.size W w') := fun W x nm hW => rattr_all hW x nm
          have HP : Hid (∀ (W : World) (x : Int), DocAt W b o c rs d → Calls Tryz.prog 60 #[.slice (some ⟨b, o, none⟩) rs.length c, .int .i64 x] W fun e w' => e = .returned (.int .i64 (scopeD d x)) ∧ Below W.heap.size W w') := fun W x hW => rscope_any hW hf x
          have LA : Hid (∀ t ∈ (Tn.nd d u).shadow, ∀ x ∈ allD d t, Tn.lvD d x = true) := fun t ht x hx => allD_live hf (hr.1.mem u true t ht).2.1 hx
          have FW : Hid (∀ t ∈ (Tn.nd d u).shadow, (allD d t).length ≤ 1000) := fun t _ => few_of hf.good Tn.fuel t
          clear e8 e4 e6 hhs hR hr hlv hut hud
          generalize (Tn.nd d u).shadow = S at *
          generalize slotD d (k : Int) = res at *
          generalize rs[u].s = ss at *
          obtain ⟨sp, sn, sc⟩ := ss
          simp only at hsi h7
          obtain ⟨_, _, he, hs1, hs2, _, hat⟩ := hsi.at
          cases he
          have TS : Hid (∀ j (hj : j < S.length), ∃ b o, sp = some ⟨b, o, none⟩ ∧ w.cell? ⟨b, o + j, none⟩ = some (.int .i64 (S[j] : Int))) := hat
          have hslot : slotB = ⟨#[115, 108, 111, 116]⟩ := rfl
          have hAw := HT.out w (k : Int) slotB H.out
          generalize valN d (k : Int) slotB = want at *
          generalize (attrN d (k : Int) slotB).isSome = ws at *
          rw [hslot] at hAw
          clear hat hsi hslot
          go_enter Tryz.func129, Tryz.ntmps129
          go_upto_region 8 with (first
            | (go_at_call 52; refine (ris_any H.out _ _).mono ?_; rintro e w' ⟨rfl, hww⟩; subst hww; rw [his])
            | (go_at_call 30; refine hAw.mono ?_; rintro e w1 ⟨rfl, hb1⟩; have h71 := keeps_below hb1 (Nat.le_refl _) _ _ h7))
          go_loopw [56] (fun i wr => ∃ j : Nat, j ≤ S.length ∧ i = .int .i64 j ∧ Hid (∀ x ∈ (S.take j).flatMap (allD d), fitsD d want (u : Int) x = false) ∧ Below w'.heap.size w' wr) (fun i _ => S.length - (intOf i).toNat)
          case atStart => exact ⟨0, Nat.zero_le _, rfl, fun x hx => by simp at hx, hb1⟩
          case round =>
            obtain ⟨j, hj, rfl, NO, hnx⟩ := hrel
            have DR : Hid (DocAt wr b o c rs d) := H.out.keeps (keeps_below hnx (Nat.le_refl _))
            by_cases hlt : j < S.length
            · obtain ⟨b1, o1, rfl, hc⟩ := TS.out j hlt
              have hcr := keeps_below hnx (Nat.le_refl _) _ _ hc
              have hmt := List.getElem_mem hlt
              have hAll := HA.out wr S[j] (ET.out _ hmt) DR.out
              have LT := LA.out _ hmt
              have hAl := FW.out _ hmt
              have N1 : Hid (∀ A, allD d S[j] = A → (∀ x ∈ A, fitsD d want (u : Int) x = false) → ∀ x ∈ (S.take (j + 1)).flatMap (allD d), fitsD d want (u : Int) x = false) := by
                intro A hA hno x hx
                rw [List.take_succ_eq_append_getElem hlt, List.flatMap_append, List.mem_append] at hx
                rcases hx with hx | hx
                · exact NO.out x hx
                · simp only [List.flatMap_cons, List.flatMap_nil, List.append_nil] at hx
                  exact hno x (by rw [← hA]; exact hx)
              have FA : Hid (∀ A q, allD d S[j] = A → ∀ hq : q < A.length, (∀ x ∈ A.take q, fitsD d want (u : Int) x = false) → fitsD d want (u : Int) A[q] = true → res = (A[q] : Int)) := by
                intro A q hA hq h1 h2
                rw [E.out, find_at hlt hA hq NO.out h1 h2]
                rfl
              have FA2 := fun q => FA.out _ q rfl
              have N2 := N1.out _ rfl
              have QA : Hid _ := FA2
              have QN : Hid _ := N2
              have LT2 : Hid _ := LT
              clear hc hmt FA2 N2 FA N1 LT
              generalize allD d S[j] = A at *
              generalize S[j] = top at *
              go_upto_region 11 with (go_at_call 59; refine hAll.mono ?_; rintro e w2 ⟨v2, rfl, ho2, hb2⟩; have ho2' := ho2; obtain ⟨p2, c2, rfl⟩ := ho2'.shape)
              obtain ⟨_, _, he, ha1, ha2, _, hat⟩ := (ints_of_owns ho2).at
              cases he
              have TA : Hid (∀ j (hj : j < A.length), ∃ b o, p2 = some ⟨b, o, none⟩ ∧ w2.cell? ⟨b, o + j, none⟩ = some (.int .i64 (A[j] : Int))) := hat
              have B2 : Below w'.heap.size w' w2 := hnx.trans (hb2.mono hnx.size)
              clear hat ho2 ho2' hAll
              go_loopw [64] (fun i wq => ∃ q : Nat, q ≤ A.length ∧ i = .int .i64 q ∧ Hid (∀ x ∈ A.take q, fitsD d want (u : Int) x = false) ∧ Below w2.heap.size w2 wq) (fun i _ => A.length - (intOf i).toNat)
              case atStart => exact ⟨0, Nat.zero_le _, rfl, fun x hx => by simp at hx, Below.refl _ _⟩
              case round =>
                obtain ⟨q, hq, rfl, NQ, hbq⟩ := hrel
                have BQ : Below w'.heap.size w' wr := B2.trans (hbq.mono B2.size)
                have DQ : Hid (DocAt wr b o c rs d) := H.out.keeps (keeps_below BQ (Nat.le_refl _))
                by_cases hql : q < A.length
                · obtain ⟨b3, o3, rfl, hc3⟩ := TA.out q hql
                  have hcq := keeps_below hbq (Nat.le_refl _) _ _ hc3
                  have hxl := LT2.out _ (List.getElem_mem hql)
                  have hxd := Tn.lv_lt hxl
                  have hxr : A[q] < rs.length := by rw [H.out.len]; exact hxd
                  have R1 := QA.out q hql NQ.out
                  have N3 : fitsD d want (u : Int) A[q] = false → Hid (∀ x ∈ A.take (q + 1), fitsD d want (u : Int) x = false) := fun hno x hx => by
                    rw [List.take_succ_eq_append_getElem hql, List.mem_append, List.mem_singleton] at hx
                    rcases hx with hx | rfl
                    · exact NQ.out x hx
                    · exact hno
                  have FD : fitsD d want (u : Int) A[q] = ((rs[A[q]].tag.toList == [115, 108, 111, 116]) && ((valN d (A[q] : Int) nameB).toList == want.toList) && (scopeD d (A[q] : Int) == (u : Int))) := by
                    unfold fitsD
                    congr 2
                    unfold isSlotD
                    rw [Int.toNat_natCast, nd_at hxd, ← (H.out.nds _ hxr hxd).tag, slotB_list]
                    cases ht : (rs[A[q]].tag.toList == [115, 108, 111, 116]) with
                    | false => simp
                    | true =>
                      have h1 : Tn.isN d (A[q] : Int) false = true := by rw [Tn.isN_iff]; exact hxl
                      have h2 : Tn.has (Tn.nd d A[q]).tag = true := by
                        unfold Tn.has
                        rw [nd_at hxd, ← (H.out.nds _ hxr hxd).tag, show rs[A[q]].tag.toList = [115, 108, 111, 116] by simpa using ht]
                        rfl
                      unfold Tn.isN at h1 ⊢
                      rw [Int.toNat_natCast] at h1 ⊢
                      rw [h2]
                      simpa using h1
                  have hAt := HT.out wr (A[q] : Int) nameB DQ.out
                  have hname : nameB = ⟨#[110, 97, 109, 101]⟩ := rfl
                  have c1 := DQ.out.row.c1 A[q] hxr
                  have HS2 := fun W hW => HP.out W (A[q] : Int) hW
                  generalize valN d (A[q] : Int) nameB = vv at *
                  generalize (attrN d (A[q] : Int) nameB).isSome = vs at *
                  rw [hname] at hAt
                  generalize scopeD d (A[q] : Int) = sk at *
                  generalize fitsD d want (u : Int) A[q] = fit at *
                  generalize rs[A[q]].tag = tg at *
                  have QS2 : Hid _ := HS2
                  have QF : Hid _ := FD
                  have QR : Hid _ := R1
                  have Q3 : Hid _ := N3
                  clear hc3 hname HS2 FD R1 N3 hxl hxd
                  generalize A[q] = x at *
                  cases htg : (tg.toList == [115, 108, 111, 116]) with
                  | false =>
                    have N4 := Q3.out (by rw [QF.out, htg]; rfl)
                    clear QF QR Q3
                    go_wp2_with (go_at_call 30; refine hAt.mono ?_; rintro e w3 ⟨rfl, hb3⟩; have c13 := keeps_below hb3 (Nat.le_refl _) _ _ c1)
                    go_roundw
                    case rel => exact ⟨q + 1, by omega, by go_num, N4, hbq.trans (hb3.mono hbq.size)⟩
                    case measure => simp [intOf]; omega
                  | true =>
                    cases hsk : (sk == (u : Int)) with
                    | false =>
                      have N4 := Q3.out (by rw [QF.out, hsk, Bool.and_false])
                      clear QF QR Q3
                      go_wp2_with (first
                        | (go_at_call 30; refine hAt.mono ?_; rintro e w3 ⟨rfl, hb3⟩; have c13 := keeps_below hb3 (Nat.le_refl _) _ _ c1; have D3 : Hid (DocAt w3 b o c rs d) := DQ.out.keeps (keeps_below hb3 (Nat.le_refl _)))
                        | (go_at_call 60; refine (QS2.out _ D3.out).mono ?_; rintro e w5 ⟨rfl, hb5⟩))
                      go_roundw
                      case rel => exact ⟨q + 1, by omega, by go_num, N4, (hbq.trans (hb3.mono hbq.size)).trans (hb5.mono (Nat.le_trans hbq.size hb3.size))⟩
                      case measure => simp [intOf]; omega
                    | true =>
                      cases hvv : (vv.toList == want.toList) with
                      | false =>
                        have N4 := Q3.out (by rw [QF.out, hvv, Bool.and_false, Bool.false_and])
                        clear QF QR Q3
                        go_wp2_with (first
                          | (go_at_call 30; refine hAt.mono ?_; rintro e w3 ⟨rfl, hb3⟩; have c13 := keeps_below hb3 (Nat.le_refl _) _ _ c1; have D3 : Hid (DocAt w3 b o c rs d) := DQ.out.keeps (keeps_below hb3 (Nat.le_refl _)))
                          | (go_at_call 60; refine (QS2.out _ D3.out).mono ?_; rintro e w5 ⟨rfl, hb5⟩))
                        go_roundw
                        case rel => exact ⟨q + 1, by omega, by go_num, N4, (hbq.trans (hb3.mono hbq.size)).trans (hb5.mono (Nat.le_trans hbq.size hb3.size))⟩
                        case measure => simp [intOf]; omega
                      | true =>
                        have R4 : Hid (res = (x : Int)) := QR.out (by rw [QF.out, htg, hsk, hvv]; rfl)
                        clear QF QR Q3
                        go_wp2_with (first
                          | (go_at_call 30; refine hAt.mono ?_; rintro e w3 ⟨rfl, hb3⟩; have c13 := keeps_below hb3 (Nat.le_refl _) _ _ c1; have D3 : Hid (DocAt w3 b o c rs d) := DQ.out.keeps (keeps_below hb3 (Nat.le_refl _)))
                          | (go_at_call 60; refine (QS2.out _ D3.out).mono ?_; rintro e w5 ⟨rfl, hb5⟩))
                        go_ret
                        exact ⟨by rw [R4.out]; rfl, (BQ.trans (hb3.mono BQ.size)).trans (hb5.mono (Nat.le_trans BQ.size hb3.size))⟩
                · obtain rfl : q = A.length := by omega
                  have N4 : Hid (∀ x ∈ (S.take (j + 1)).flatMap (allD d), fitsD d want (u : Int) x = false) := QN.out (fun x hx => NQ.out x (by rw [List.take_length]; exact hx))
                  go_wp2_with fail
                  go_roundw
                  case rel => exact ⟨j + 1, by omega, by go_num, N4, BQ⟩
                  case measure => simp [intOf]; omega
            · obtain rfl : j = S.length := by omega
              have E2 : Hid (res = -1) := by
                show _ = _
                rw [E.out]
                have : (S.flatMap (allD d)).find? (fitsD d want (u : Int)) = none := List.find?_eq_none.mpr (fun x hx => by have := NO.out x (by rw [List.take_length]; exact hx); simp [this])
                rw [this]
                rfl
              go_wp2_with fail
              go_ret
              exact ⟨by rw [E2.out]; rfl, hnx⟩
end Go.Proofs.YtbinbojicmhdlaeGreatDoor
