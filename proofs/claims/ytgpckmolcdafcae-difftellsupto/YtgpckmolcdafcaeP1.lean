/-
  OWN WORK: Xmc, Xmd, Xme, Xmf, Xmg, Xmh, Hma.
-/
import Derived.Test.YtgpckmolcdafcaeP0
/-
  PLAIN MATHEMATICS of events: an item comes, or is moved: what stands in what then.
-/
namespace Go.Proofs.Ytgpckmolcdafcae

def reps (m : Nat) (l : List Nat) : List Nat := (List.replicate m l).flatten
theorem reps_add (a b : Nat) (l : List Nat) : reps (a + b) l = reps a l ++ reps b l := by unfold reps; rw [← List.replicate_append_replicate, List.flatten_append]
theorem reps_one (l : List Nat) : reps 1 l = l := by simp [reps]
theorem insert_perm (y : It) : ∀ (l : List It) (i : Nat), i ≤ l.length → (nodesL (l.insertIdx i y)).Perm (nodes1 y ++ nodesL l)
  | l, 0, _ => by rw [List.insertIdx_zero, nodesL]
  | [], i + 1, h => by simp at h
  | x :: l, i + 1, h => by
    rw [List.insertIdx_succ_cons, nodesL, nodesL]
    exact ((insert_perm y l i (by simpa using h)).append_left (nodes1 x)).trans (List.perm_append_comm_assoc _ _ _)
theorem ins_perm (p i : Nat) (y : It) : (∀ x, (∀ z ∈ item1 x, z.node = p → i ≤ z.kids.length) → (nodes1 (ins1 p i y x)).Perm (nodes1 x ++ reps ((nodes1 x).count p) (nodes1 y))) ∧
    ∀ l, (∀ z ∈ itemL l, z.node = p → i ≤ z.kids.length) → (nodesL (insL p i y l)).Perm (nodesL l ++ reps ((nodesL l).count p) (nodes1 y)) := by
  refine It.ind (fun x h hi => ?_) (fun _ => by simp [insL, nodesL, reps]) (fun x xs h1 h2 hi => ?_)
  · have hk := h (fun w hw => hi w (mem_item1.mpr (Or.inr hw)))
    rw [nodes1_eq, nodes1_eq x, ins1_node, ins1_kids, List.cons_append]
    refine List.Perm.cons _ ?_
    by_cases e : x.node = p
    · rw [if_pos e, List.count_cons, if_pos (by simpa using e), Nat.add_comm, reps_add, reps_one]
      refine (insert_perm y _ i (by rw [ins_map, List.length_map]; exact hi x (mem_item1.mpr (Or.inl rfl)) e)).trans ?_
      exact (hk.append_left _).trans (List.perm_append_comm_assoc _ _ _)
    · rw [if_neg e, List.count_cons, if_neg (by simpa using e), Nat.add_zero]
      exact hk
  · have g1 := h1 (fun w hw => hi w (by rw [itemL, List.mem_append]; exact Or.inl hw))
    have g2 := h2 (fun w hw => hi w (by rw [itemL, List.mem_append]; exact Or.inr hw))
    rw [insL, nodesL, nodesL, List.count_append, reps_add]
    refine (g1.append g2).trans ?_
    rw [List.append_assoc, List.append_assoc]
    exact (List.perm_append_comm_assoc _ _ _).append_left _

/-- y comes, in p's item, at number i (below 0: among all) -/
def insP (p : Int) (i : Nat) (y : It) (T : List It) : List It := if p < 0 then T.insertIdx i y else insL p.toNat i y T

/-- it may come there -/
structure Fits (T : List It) (p : Int) (i : Nat) (y : It) : Prop where
  un : Unlike T
  place : Place T p
  le : i ≤ (kidsAt T p).length
  one : (nodes1 y).Nodup
  apart : ∀ k ∈ nodes1 y, k ∉ nodesL T
theorem Fits.room {T : List It} {p : Int} {i : Nat} {y : It} (h : Fits T p i y) {x : It} (hx : x ∈ itemL T) (e : p = (x.node : Int)) : ∀ z ∈ itemL T, z.node = x.node → i ≤ z.kids.length := fun z hz ez => by
  have h1 := h.le
  rw [e, kids_item h.un hx] at h1
  rw [unlike_one h.un hz hx ez]
  simpa [topN] using h1
theorem ins_nodes {T : List It} {p : Int} {i : Nat} {y : It} (h : Fits T p i y) : (nodesL (insP p i y T)).Perm (nodesL T ++ nodes1 y) := by
  unfold insP
  rcases h.place with rfl | ⟨x, hx, rfl⟩
  · rw [if_pos (by omega)]
    have h1 := h.le
    rw [kids_top] at h1
    exact (insert_perm y T i (by simpa [topN] using h1)).trans List.perm_append_comm
  · rw [if_neg (by omega), Int.toNat_natCast]
    have h1 := (ins_perm x.node i y).2 T (h.room hx rfl)
    have hc : (nodesL T).count x.node = 1 := by
      have h2 := h.un
      unfold Unlike at h2
      have h3 := List.nodup_iff_count.mp h2 x.node
      have h4 := List.count_pos_iff.mpr (node_inL hx)
      omega
    rw [hc, reps_one] at h1
    exact h1
theorem ins_unlike {T : List It} {p : Int} {i : Nat} {y : It} (h : Fits T p i y) : Unlike (insP p i y T) := by
  unfold Unlike
  rw [(ins_nodes h).nodup_iff, List.nodup_append]
  exact ⟨h.un, h.one, fun a ha b hb e => h.apart b hb (e ▸ ha)⟩
theorem ins_mem {T : List It} {p : Int} {i : Nat} {y : It} (h : Fits T p i y) (k : Nat) : k ∈ nodesL (insP p i y T) ↔ k ∈ nodesL T ∨ k ∈ nodes1 y := by rw [(ins_nodes h).mem_iff, List.mem_append]

/-- all in what came is there as it came -/
theorem ins_new {T : List It} {p : Int} {i : Nat} {y : It} (h : Fits T p i y) {z : It} (hz : z ∈ item1 y) : z ∈ itemL (insP p i y T) := by
  unfold insP
  rcases h.place with rfl | ⟨x, hx, rfl⟩
  · rw [if_pos (by omega)]
    have h1 := h.le
    rw [kids_top] at h1
    refine mem_itemL.mpr ⟨y, ?_, hz⟩
    rw [mem_insert _ _ _ _ (by simpa [topN] using h1)]
    exact Or.inl rfl
  · rw [if_neg (by omega), Int.toNat_natCast]
    exact (ins_there x.node i y).2 T ⟨x, hx, rfl⟩ (h.room hx rfl) z hz
/-- and all that was there, with what was in it, but p -/
theorem ins_old {T : List It} {p : Int} {i : Nat} {y : It} (h : Fits T p i y) {z : It} (hz : z ∈ itemL T) : ∃ w ∈ itemL (insP p i y T), w.node = z.node ∧ w.says = z.says ∧ topN w.kids = if (z.node : Int) = p then (topN z.kids).insertIdx i y.node else topN z.kids := by
  unfold insP
  rcases h.place with rfl | ⟨x, hx, rfl⟩
  · rw [if_pos (by omega)]
    have h1 := h.le
    rw [kids_top] at h1
    obtain ⟨v, hv, hz2⟩ := mem_itemL.mp hz
    refine ⟨z, mem_itemL.mpr ⟨v, ?_, hz2⟩, rfl, rfl, by rw [if_neg (by omega)]⟩
    rw [mem_insert _ _ _ _ (by simpa [topN] using h1)]
    exact Or.inr hv
  · rw [if_neg (by omega), Int.toNat_natCast]
    refine ⟨ins1 x.node i y z, (ins_stays x.node i y).2 T (h.room hx rfl) z hz, ins1_node _ _ _ _, ins1_says _ _ _ _, ?_⟩
    rw [ins1_top]
    by_cases e : z.node = x.node
    · rw [if_pos e, if_pos (by omega)]
    · rw [if_neg e, if_neg (by omega)]
theorem ins_kids_at {T : List It} {p : Int} {i : Nat} {y : It} (h : Fits T p i y) {q : Int} (hq : Place T q) : kidsAt (insP p i y T) q = if q = p then (kidsAt T p).insertIdx i y.node else kidsAt T q := by
  rcases hq with rfl | ⟨z, hz, rfl⟩
  · rw [kids_top]
    by_cases e : p = -1
    · subst e
      rw [if_pos rfl, kids_top]
      unfold insP topN
      rw [if_pos (by omega), map_insert]
    · rw [if_neg (fun x => e x.symm), kids_top]
      rcases h.place with e2 | ⟨x, hx, e2⟩
      · exact absurd e2 e
      · subst e2
        unfold insP
        rw [if_neg (by omega), ins_top]
  · obtain ⟨w, hw, e1, _, e3⟩ := ins_old h hz
    have h1 := kids_item (ins_unlike h) hw
    rw [e1, e3] at h1
    rw [h1]
    by_cases e : (z.node : Int) = p
    · rw [if_pos e, if_pos e, ← e, kids_item h.un hz]
    · rw [if_neg e, if_neg e, kids_item h.un hz]
theorem ins_kids_new {T : List It} {p : Int} {i : Nat} {y : It} (h : Fits T p i y) {z : It} (hz : z ∈ item1 y) : kidsAt (insP p i y T) (z.node : Int) = topN z.kids := kids_item (ins_unlike h) (ins_new h hz)

/-! ### one is moved -/
theorem rm_place {T : List It} {n : Nat} {p : Int} (hp : p = -1 ∨ ∃ q : Nat, p = (q : Int) ∧ q ∈ nodesL T ∧ q ∉ undN n T) : Place (rmL n T) p := by
  rcases hp with rfl | ⟨q, rfl, h1, h2⟩
  · exact Or.inl rfl
  · obtain ⟨x, hx, e⟩ := in_node (rm_nodes h1 h2)
    exact Or.inr ⟨x, hx, by rw [e]⟩
/-- what may be moved: where to -/
structure Moves (T : List It) (x : It) (p : Int) (i : Nat) : Prop where
  un : Unlike T
  there : x ∈ itemL T
  place : p = -1 ∨ ∃ q : Nat, p = (q : Int) ∧ q ∈ nodesL T ∧ q ∉ nodes1 x
  le : i ≤ ((kidsAt T p).filter (fun k => decide (k ≠ x.node))).length
theorem sub_nodup {T : List It} (h : Unlike T) {x : It} (hx : x ∈ itemL T) : (nodes1 x).Nodup := by
  have key : (∀ z : It, (nodes1 z).Nodup → ∀ y ∈ item1 z, (nodes1 y).Nodup) ∧ ∀ l : List It, Unlike l → ∀ y ∈ itemL l, (nodes1 y).Nodup := by
    refine It.ind (fun z h hn y hy => ?_) (fun _ y hy => by simp [itemL] at hy) (fun z zs h1 h2 hn y hy => ?_)
    · rcases mem_item1.mp hy with e | hy
      · rw [e]; exact hn
      · rw [nodes1_eq, List.nodup_cons] at hn
        exact h hn.2 y hy
    · unfold Unlike at hn
      rw [nodesL, List.nodup_append] at hn
      rw [itemL, List.mem_append] at hy
      rcases hy with hy | hy
      · exact h1 hn.1 y hy
      · exact h2 hn.2.1 y hy
  exact key.2 T h x hx
theorem Moves.fits {T : List It} {x : It} {p : Int} {i : Nat} (h : Moves T x p i) : Fits (rmL x.node T) p i x := by
  have hp : p = -1 ∨ ∃ q : Nat, p = (q : Int) ∧ q ∈ nodesL T ∧ q ∉ undN x.node T := by
    rcases h.place with e | ⟨q, e, h1, h2⟩
    · exact Or.inl e
    · exact Or.inr ⟨q, e, h1, fun hm => h2 ((und_item h.un h.there q).mp hm)⟩
  refine ⟨rm_unlike h.un, rm_place hp, ?_, sub_nodup h.un h.there, fun k hk hm => rm_und h.un ((und_item h.un h.there k).mpr hk) hm⟩
  rw [rm_kids_at h.un (by
    rcases hp with e | ⟨q, e, _, h2⟩
    · exact Or.inl e
    · exact Or.inr ⟨q, e, h2⟩)]
  exact h.le
def movP (x : It) (p : Int) (i : Nat) (T : List It) : List It := insP p i x (rmL x.node T)
theorem mov_unlike {T : List It} {x : It} {p : Int} {i : Nat} (h : Moves T x p i) : Unlike (movP x p i T) := ins_unlike h.fits
theorem mov_mem {T : List It} {x : It} {p : Int} {i : Nat} (h : Moves T x p i) (k : Nat) : k ∈ nodesL (movP x p i T) ↔ k ∈ nodesL T := by
  unfold movP
  rw [ins_mem h.fits]
  constructor
  · rintro (hk | hk)
    · exact (rm_less hk).1
    · rw [nodes1_items] at hk
      obtain ⟨z, hz, e⟩ := List.mem_map.mp hk
      rw [← e]
      rcases mem_item1.mp hz with e2 | hz
      · rw [e2]; exact node_inL h.there
      · exact node_inL (item_kids.2 T x h.there z hz)
  · intro hk
    by_cases hu : k ∈ undN x.node T
    · exact Or.inr ((und_item h.un h.there k).mp hu)
    · exact Or.inl (rm_nodes hk hu)
/-- what stands in what behind a move -/
theorem mov_kids {T : List It} {x : It} {p : Int} {i : Nat} (h : Moves T x p i) {q : Int} (hq : Place T q) : kidsAt (movP x p i T) q = if q = p then ((kidsAt T p).filter (fun k => decide (k ≠ x.node))).insertIdx i x.node else (kidsAt T q).filter (fun k => decide (k ≠ x.node)) := by
  have hF := h.fits
  have hun := h.un
  have hpo : p = -1 ∨ ∃ q : Nat, p = (q : Int) ∧ q ∉ undN x.node T := by
    rcases h.place with e | ⟨q, e, _, h2⟩
    · exact Or.inl e
    · exact Or.inr ⟨q, e, fun hm => h2 ((und_item hun h.there q).mp hm)⟩
  have old : (q = -1 ∨ ∃ r : Nat, q = (r : Int) ∧ r ∈ nodesL T ∧ r ∉ undN x.node T) → kidsAt (movP x p i T) q = if q = p then ((kidsAt T p).filter (fun k => decide (k ≠ x.node))).insertIdx i x.node else (kidsAt T q).filter (fun k => decide (k ≠ x.node)) := fun ho => by
    unfold movP
    rw [ins_kids_at hF (rm_place ho), rm_kids_at hun hpo, rm_kids_at hun (by
      rcases ho with e | ⟨r, e, _, h2⟩
      · exact Or.inl e
      · exact Or.inr ⟨r, e, h2⟩)]
  rcases hq with e | ⟨z, hz, e⟩
  · exact old (Or.inl e)
  · by_cases hu : z.node ∈ undN x.node T
    · have hz1 := (und_item hun h.there z.node).mp hu
      have hz2 : z ∈ item1 x := by
        rw [nodes1_items] at hz1
        obtain ⟨v, hv, ev⟩ := List.mem_map.mp hz1
        have : v = z := by
          refine unlike_one hun ?_ hz ev
          rcases mem_item1.mp hv with e2 | hv
          · rw [e2]; exact h.there
          · exact item_kids.2 T x h.there v hv
        rw [← this]
        exact hv
      have hne : q ≠ p := fun eq => by
        rcases h.place with e2 | ⟨r, e2, _, h4⟩
        · omega
        · have : r = z.node := by omega
          exact h4 (this ▸ hz1)
      rw [if_neg hne, e]
      unfold movP
      rw [ins_kids_new hF hz2, kids_item hun hz]
      symm
      rw [List.filter_eq_self]
      intro k hk
      simp only [decide_eq_true_eq]
      intro ek
      obtain ⟨v, hv, ev⟩ := List.mem_map.mp hk
      have hvT := kid_item hz hv
      have hvx : v = x := unlike_one hun hvT h.there (by omega)
      subst hvx
      -- an item is in none that is in it
      have hn := sub_nodup hun h.there
      rw [nodes1_eq, List.nodup_cons] at hn
      rcases mem_item1.mp hz2 with e2 | hz3
      · subst e2
        exact hn.1 (node_inL (top_item hv))
      · exact hn.1 (node_inL (kid_item hz3 hv))
    · exact old (Or.inr ⟨z.node, e, node_inL hz, hu⟩)
end Go.Proofs.Ytgpckmolcdafcae

/-
  PLAIN MATHEMATICS of events: the items of a forest, brought one by one to where they stand in it.
-/
namespace Go.Proofs.Ytgpckmolcdafcae

/-- an item, what it is in, its number there -/
abbrev Plc := It × Int × Nat
mutual
def plc1 (p : Int) (i : Nat) : It → List Plc
  | .mk k r a b l c o ks => (.mk k r a b l c o ks, p, i) :: plcL (k : Int) 0 ks
def plcL (p : Int) (i : Nat) : List It → List Plc
  | [] => []
  | y :: ys => plc1 p i y ++ plcL p (i + 1) ys
end
theorem plc1_eq (p : Int) (i : Nat) (x : It) : plc1 p i x = (x, p, i) :: plcL (x.node : Int) 0 x.kids := by cases x with | mk => rw [plc1]; rfl
theorem plc_items : (∀ x : It, ∀ p i, (plc1 p i x).map (·.1) = item1 x) ∧ ∀ l : List It, ∀ p i, (plcL p i l).map (·.1) = itemL l := by
  refine It.ind (fun x h p i => ?_) (fun p i => rfl) (fun x xs h1 h2 p i => ?_)
  · rw [plc1_eq, item1_eq, List.map_cons, h]
  · rw [plcL, itemL, List.map_append, h1, h2]

/-- from p one comes up to all, by what was brought -/
inductive Anc (D : List Plc) : Int → Prop
  | top : Anc D (-1)
  | step (e : Plc) (h : e ∈ D) (hp : Anc D e.2.1) : Anc D (e.1.node : Int)
theorem Anc.more {D E : List Plc} {p : Int} (h : Anc D p) (hs : ∀ e ∈ D, e ∈ E) : Anc E p := by
  induction h with
  | top => exact .top
  | step e h _ ih => exact .step e (hs e h) ih

/-- what was brought stands where it shall -/
structure Done (T : List It) (D : List Plc) : Prop where
  un : Unlike T
  anc : ∀ e ∈ D, Anc D e.2.1
  at_ : ∀ e ∈ D, (kidsAt T e.2.1)[e.2.2]? = some e.1.node
  sib : ∀ e ∈ D, ∀ m < e.2.2, ∃ e' ∈ D, e'.2.1 = e.2.1 ∧ e'.2.2 = m
theorem Done.in {T : List It} {D : List Plc} (h : Done T D) {e : Plc} (he : e ∈ D) : e.1.node ∈ nodesL T := kids_in (List.mem_of_getElem? (h.at_ e he))
theorem Done.place {T : List It} {D : List Plc} (h : Done T D) {p : Int} (hp : Anc D p) : Place T p := by
  cases hp with
  | top => exact Or.inl rfl
  | step e he _ =>
    obtain ⟨x, hx, e2⟩ := in_node (h.in he)
    exact Or.inr ⟨x, hx, by rw [e2]⟩
/-- what was brought is in nothing that was not -/
theorem Done.free {T : List It} {D : List Plc} (h : Done T D) {x : It} (hx : x ∈ itemL T) (hn : ∀ e ∈ D, e.1.node ≠ x.node) {p : Int} (hp : Anc D p) : ∀ k : Nat, p = (k : Int) → k ∉ nodes1 x := by
  induction hp with
  | top => intro k e; omega
  | step e he hp ih =>
    intro k ek hk
    obtain rfl : e.1.node = k := by omega
    rw [nodes1_eq] at hk
    rcases List.mem_cons.mp hk with e2 | hk
    · exact hn e he e2
    · obtain ⟨v, hv, ev⟩ := in_node hk
      have hw : ∃ w ∈ item1 x, v ∈ w.kids := by
        rcases has_place x.kids v hv with h1 | ⟨u, hu, h1⟩
        · exact ⟨x, mem_item1.mpr (Or.inl rfl), h1⟩
        · exact ⟨u, mem_item1.mpr (Or.inr hu), h1⟩
      obtain ⟨w, hw, hvw⟩ := hw
      have hwT : w ∈ itemL T := by
        rcases mem_item1.mp hw with e3 | hw
        · rw [e3]; exact hx
        · exact item_kids.2 T x hx w hw
      have h1 : e.1.node ∈ kidsAt T (w.node : Int) := by rw [kids_item h.un hwT, ← ev]; exact List.mem_map.mpr ⟨v, hvw, rfl⟩
      have h2 : e.1.node ∈ kidsAt T e.2.1 := List.mem_of_getElem? (h.at_ e he)
      have e4 := kids_one h.un (h.place hp) (Or.inr ⟨w, hwT, rfl⟩) h2 h1
      exact ih w.node e4 (node_in1 hw)

theorem filter_head {n : Nat} : ∀ (l : List Nat) (j : Nat), (∀ m, m ≤ j → ∃ a, l[m]? = some a ∧ a ≠ n) → (l.filter (fun k => decide (k ≠ n)))[j]? = l[j]?
  | [], j, _ => by simp
  | a :: l, 0, h => by
    obtain ⟨b, h1, h2⟩ := h 0 (Nat.le_refl _)
    have : a = b := by simpa using h1
    subst this
    simp [h2]
  | a :: l, j + 1, h => by
    obtain ⟨b, h1, h2⟩ := h 0 (by omega)
    have : a = b := by simpa using h1
    subst this
    have ih := filter_head l j (fun m hm => by
      obtain ⟨c, g1, g2⟩ := h (m + 1) (by omega)
      exact ⟨c, by simpa using g1, g2⟩)
    rw [List.filter_cons_of_pos (by simpa using h2)]
    simpa using ih
theorem insert_before {l : List Nat} {i j a : Nat} (h : j < i) : (l.insertIdx i a)[j]? = l[j]? := by
  rw [List.getElem?_insertIdx]
  simp [h]
theorem insert_at {l : List Nat} {i a : Nat} (hi : i ≤ l.length) : (l.insertIdx i a)[i]? = some a := by
  rw [List.getElem?_insertIdx]
  simp [hi]

/-- where the item of b is brought: what comes of it -/
def bring (T : List It) (y : It) (p : Int) (i : Nat) : List It :=
  match (itemL T).find? (fun x => decide (x.node = y.node)) with
  | none => insP p i (y.with []) T
  | some x => if (kidsAt T p)[i]? = some y.node then T else movP x p i T

theorem find_item {T : List It} {n : Nat} : (∃ x, (itemL T).find? (fun x => decide (x.node = n)) = some x ∧ x ∈ itemL T ∧ x.node = n) ∨ ((itemL T).find? (fun x => decide (x.node = n)) = none ∧ n ∉ nodesL T) := by
  cases h : (itemL T).find? (fun x => decide (x.node = n)) with
  | none =>
    refine Or.inr ⟨rfl, fun hm => ?_⟩
    obtain ⟨x, hx, e⟩ := in_node hm
    have := List.find?_eq_none.mp h x hx
    simp [e] at this
  | some x => exact Or.inl ⟨x, rfl, List.mem_of_find?_eq_some h, by simpa using List.find?_some h⟩

/-- what is owed of one that is next -/
structure Next (D : List Plc) (y : It) (p : Int) (i : Nat) : Prop where
  anc : Anc D p
  new : ∀ e ∈ D, e.1.node ≠ y.node
  sib : ∀ m < i, ∃ e ∈ D, e.2.1 = p ∧ e.2.2 = m
  few : ∀ e ∈ D, e.2.1 = p → e.2.2 < i

theorem Next.long {T : List It} {D : List Plc} (h : Done T D) {y : It} {p : Int} {i : Nat} (hn : Next D y p i) : i ≤ (kidsAt T p).length ∧ ∀ m < i, ∃ a, (kidsAt T p)[m]? = some a ∧ a ≠ y.node := by
  have h2 : ∀ m < i, ∃ a, (kidsAt T p)[m]? = some a ∧ a ≠ y.node := fun m hm => by
    obtain ⟨e, he, e1, e2⟩ := hn.sib m hm
    have := h.at_ e he
    rw [e1, e2] at this
    exact ⟨_, this, hn.new e he⟩
  refine ⟨?_, h2⟩
  cases i with
  | zero => exact Nat.zero_le _
  | succ i =>
    obtain ⟨a, h3, _⟩ := h2 i (Nat.lt_succ_self _)
    have := (List.getElem?_eq_some_iff.mp h3).1
    omega

/-- it may be moved there -/
theorem next_moves {T : List It} {D : List Plc} (h : Done T D) {y : It} {p : Int} {i : Nat} (hn : Next D y p i) {x : It} (hx : x ∈ itemL T) (e : x.node = y.node) : Moves T x p i := by
  obtain ⟨h1, h2⟩ := hn.long h
  refine ⟨h.un, hx, ?_, ?_⟩
  · rcases h.place hn.anc with e2 | ⟨z, hz, e2⟩
    · exact Or.inl e2
    · exact Or.inr ⟨z.node, e2, node_inL hz, h.free hx (fun e' he => by rw [e]; exact hn.new e' he) hn.anc z.node e2⟩
  · rw [e]
    cases i with
    | zero => exact Nat.zero_le _
    | succ i =>
      have h3 := filter_head (n := y.node) (kidsAt T p) i (fun m hm => h2 m (by omega))
      obtain ⟨a, h4, _⟩ := h2 i (Nat.lt_succ_self _)
      rw [h4] at h3
      have := (List.getElem?_eq_some_iff.mp h3).1
      omega
/-- or come there -/
theorem next_fits {T : List It} {D : List Plc} (h : Done T D) {y : It} {p : Int} {i : Nat} (hn : Next D y p i) (hy : y.node ∉ nodesL T) : Fits T p i (y.with []) := by
  have e1 : nodes1 (y.with []) = [y.node] := by rw [nodes1_eq, with_node, with_kids]; rfl
  refine ⟨h.un, h.place hn.anc, (hn.long h).1, by rw [e1]; simp, fun k hk => ?_⟩
  rw [e1, List.mem_singleton] at hk
  rw [hk]
  exact hy

theorem bring_done {T : List It} {D : List Plc} (h : Done T D) {y : It} {p : Int} {i : Nat} (hn : Next D y p i) : Done (bring T y p i) (D ++ [(y, p, i)]) ∧ ∀ k ∈ nodesL T, k ∈ nodesL (bring T y p i) := by
  obtain ⟨h1, h2⟩ := hn.long h
  have sub : ∀ e ∈ D, e ∈ D ++ [(y, p, i)] := fun e he => List.mem_append.mpr (Or.inl he)
  have fin : ∀ T2 : List It, Unlike T2 → (∀ e ∈ D, (kidsAt T2 e.2.1)[e.2.2]? = some e.1.node) → (kidsAt T2 p)[i]? = some y.node → Done T2 (D ++ [(y, p, i)]) := fun T2 u1 u2 u3 => by
    refine ⟨u1, fun e he => ?_, fun e he => ?_, fun e he m hm => ?_⟩
    · rcases List.mem_append.mp he with he | he
      · exact (h.anc e he).more sub
      · rw [List.mem_singleton] at he
        rw [he]
        exact hn.anc.more sub
    · rcases List.mem_append.mp he with he | he
      · exact u2 e he
      · rw [List.mem_singleton] at he
        rw [he]
        exact u3
    · rcases List.mem_append.mp he with he | he
      · obtain ⟨e', g1, g2⟩ := h.sib e he m hm
        exact ⟨e', sub e' g1, g2⟩
      · rw [List.mem_singleton] at he
        rw [he] at hm ⊢
        obtain ⟨e', g1, g2⟩ := hn.sib m hm
        exact ⟨e', sub e' g1, g2⟩
  unfold bring
  rcases find_item (T := T) (n := y.node) with ⟨x, hf, hx, e⟩ | ⟨hf, hno⟩
  · rw [hf]
    simp only
    split
    · rename_i hc
      exact ⟨fin T h.un h.at_ hc, fun k hk => hk⟩
    · have hM := next_moves h hn hx e
      have hd : ∀ e' ∈ D, ∀ m, m ≤ e'.2.2 → ∃ a, (kidsAt T e'.2.1)[m]? = some a ∧ a ≠ x.node := fun e' he m hm => by
        rcases Nat.lt_or_ge m e'.2.2 with hlt | hge
        · obtain ⟨e2, g1, g2, g3⟩ := h.sib e' he m hlt
          have := h.at_ e2 g1
          rw [g2, g3] at this
          exact ⟨_, this, by rw [e]; exact hn.new e2 g1⟩
        · have : m = e'.2.2 := by omega
          rw [this]
          exact ⟨_, h.at_ e' he, by rw [e]; exact hn.new e' he⟩
      refine ⟨fin _ (mov_unlike hM) (fun e' he => ?_) ?_, fun k hk => (mov_mem hM k).mpr hk⟩
      · have hf2 := filter_head (n := x.node) (kidsAt T e'.2.1) e'.2.2 (hd e' he)
        rw [mov_kids hM (h.place (h.anc e' he))]
        by_cases ep : e'.2.1 = p
        · rw [if_pos ep]
          have hlt := hn.few e' he ep
          rw [insert_before hlt, ← ep, hf2]
          exact h.at_ e' he
        · rw [if_neg ep, hf2]
          exact h.at_ e' he
      · rw [mov_kids hM (h.place hn.anc), if_pos rfl, insert_at hM.le, e]
  · rw [hf]
    simp only
    have hFt := next_fits h hn hno
    refine ⟨fin _ (ins_unlike hFt) (fun e' he => ?_) ?_, fun k hk => (ins_mem hFt k).mpr (Or.inl hk)⟩
    · rw [ins_kids_at hFt (h.place (h.anc e' he))]
      by_cases ep : e'.2.1 = p
      · rw [if_pos ep]
        have hlt := hn.few e' he ep
        rw [insert_before hlt, ← ep]
        exact h.at_ e' he
      · rw [if_neg ep]
        exact h.at_ e' he
    · rw [ins_kids_at hFt (h.place hn.anc), if_pos rfl, insert_at h1, with_node]

def bringAll (T : List It) (D : List Plc) : List It := D.foldl (fun T e => bring T e.1 e.2.1 e.2.2) T
theorem bringAll_app (T : List It) (a b : List Plc) : bringAll T (a ++ b) = bringAll (bringAll T a) b := by unfold bringAll; rw [List.foldl_append]
theorem anc_cases {D : List Plc} {p : Int} (h : Anc D p) : p = -1 ∨ ∃ e ∈ D, p = (e.1.node : Int) := by
  cases h with
  | top => exact Or.inl rfl
  | step e he _ => exact Or.inr ⟨e, he, rfl⟩
theorem plc_par : (∀ y : It, ∀ p i, ∀ e ∈ plc1 p i y, e = (y, p, i) ∨ ∃ k ∈ nodes1 y, e.2.1 = (k : Int)) ∧ ∀ l : List It, ∀ p i, ∀ e ∈ plcL p i l, e.2.1 = p ∨ ∃ k ∈ nodesL l, e.2.1 = (k : Int) := by
  refine It.ind (fun y h p i e he => ?_) (fun p i e he => by simp [plcL] at he) (fun y ys h1 h2 p i e he => ?_)
  · rw [plc1_eq] at he
    rcases List.mem_cons.mp he with e1 | he
    · exact Or.inl e1
    · refine Or.inr ?_
      rw [nodes1_eq]
      rcases h _ _ e he with e2 | ⟨k, hk, e2⟩
      · exact ⟨y.node, by simp, e2⟩
      · exact ⟨k, List.mem_cons_of_mem _ hk, e2⟩
  · rw [plcL, List.mem_append] at he
    rw [nodesL]
    rcases he with he | he
    · rcases h1 _ _ e he with e2 | ⟨k, hk, e2⟩
      · exact Or.inl (by rw [e2])
      · exact Or.inr ⟨k, List.mem_append.mpr (Or.inl hk), e2⟩
    · rcases h2 _ _ e he with e2 | ⟨k, hk, e2⟩
      · exact Or.inl e2
      · exact Or.inr ⟨k, List.mem_append.mpr (Or.inr hk), e2⟩
theorem plc_node {y : It} {p : Int} {i : Nat} {e : Plc} (he : e ∈ plc1 p i y) : e.1.node ∈ nodes1 y := by
  have : e.1 ∈ (plc1 p i y).map (·.1) := List.mem_map.mpr ⟨e, he, rfl⟩
  rw [plc_items.1] at this
  exact node_in1 this

/-- all are brought, one by one -/
theorem bring_all : (∀ y : It, ∀ (T : List It) (D : List Plc) (p : Int) (i : Nat), (nodes1 y).Nodup → (∀ k ∈ nodes1 y, ∀ e ∈ D, e.1.node ≠ k) → Done T D → Anc D p → (∀ m < i, ∃ e ∈ D, e.2.1 = p ∧ e.2.2 = m) → (∀ e ∈ D, e.2.1 = p → e.2.2 < i) →
      Done (bringAll T (plc1 p i y)) (D ++ plc1 p i y)) ∧
    ∀ l : List It, ∀ (T : List It) (D : List Plc) (p : Int) (i : Nat), Unlike l → (∀ k ∈ nodesL l, ∀ e ∈ D, e.1.node ≠ k) → Done T D → Anc D p → (∀ m < i, ∃ e ∈ D, e.2.1 = p ∧ e.2.2 = m) → (∀ e ∈ D, e.2.1 = p → e.2.2 < i) →
      Done (bringAll T (plcL p i l)) (D ++ plcL p i l) := by
  refine It.ind (fun y h T D p i hn hnew hD hp hs hf => ?_) (fun T D p i _ _ hD _ _ _ => ?_) (fun y ys h1 h2 T D p i hn hnew hD hp hs hf => ?_)
  · have hyn : y.node ∈ nodes1 y := by rw [nodes1_eq]; simp
    have hnx : Next D y p i := ⟨hp, hnew y.node hyn, hs, hf⟩
    have hD1 := (bring_done hD hnx).1
    rw [nodes1_eq, List.nodup_cons] at hn
    rw [plc1_eq]
    have e1 : D ++ (y, p, i) :: plcL (y.node : Int) 0 y.kids = (D ++ [(y, p, i)]) ++ plcL (y.node : Int) 0 y.kids := by rw [List.append_assoc]; rfl
    rw [e1]
    have hm : (y, p, i) ∈ D ++ [(y, p, i)] := by simp
    refine h (bring T y p i) (D ++ [(y, p, i)]) (y.node : Int) 0 hn.2 (fun k hk e he => ?_) hD1 (.step (y, p, i) hm (hp.more (fun e he => List.mem_append.mpr (Or.inl he)))) (fun m hm => by omega) (fun e he ep => ?_)
    · rcases List.mem_append.mp he with he | he
      · exact hnew k (by rw [nodes1_eq]; exact List.mem_cons_of_mem _ hk) e he
      · rw [List.mem_singleton] at he
        rw [he]
        intro e2
        have e2 : y.node = k := e2
        exact hn.1 (e2 ▸ hk)
    · exfalso
      have hpa : ∀ q : Int, Anc D q → q ≠ (y.node : Int) := fun q hq e2 => by
        rcases anc_cases hq with e3 | ⟨e', he', e3⟩
        · omega
        · exact hnew y.node hyn e' he' (by omega)
      rcases List.mem_append.mp he with he | he
      · exact hpa _ (hD.anc e he) ep
      · rw [List.mem_singleton] at he
        rw [he] at ep
        exact hpa p hp ep
  · rw [plcL, List.append_nil]
    exact hD
  · unfold Unlike at hn
    rw [nodesL, List.nodup_append] at hn
    obtain ⟨n1, n2, n3⟩ := hn
    have hD1 := h1 T D p i n1 (fun k hk => hnew k (by rw [nodesL]; exact List.mem_append.mpr (Or.inl hk))) hD hp hs hf
    rw [plcL, bringAll_app, ← List.append_assoc]
    have hy1 : (y, p, i) ∈ plc1 p i y := by rw [plc1_eq]; simp
    refine h2 (bringAll T (plc1 p i y)) (D ++ plc1 p i y) p (i + 1) n2 (fun k hk e he => ?_) hD1 (hp.more (fun e he => List.mem_append.mpr (Or.inl he))) (fun m hm => ?_) (fun e he ep => ?_)
    · rcases List.mem_append.mp he with he | he
      · exact hnew k (by rw [nodesL]; exact List.mem_append.mpr (Or.inr hk)) e he
      · exact n3 _ (plc_node he) _ hk
    · rcases Nat.lt_or_ge m i with hlt | hge
      · obtain ⟨e, g1, g2⟩ := hs m hlt
        exact ⟨e, List.mem_append.mpr (Or.inl g1), g2⟩
      · exact ⟨(y, p, i), List.mem_append.mpr (Or.inr hy1), rfl, show i = m by omega⟩
    · rcases List.mem_append.mp he with he | he
      · have := hf e he ep
        omega
      · rcases plc_par.1 y p i e he with e2 | ⟨k, hk, e2⟩
        · rw [e2]
          exact Nat.lt_succ_self _
        · exfalso
          rcases anc_cases hp with e3 | ⟨e', he', e3⟩
          · omega
          · exact hnew k (by rw [nodesL]; exact List.mem_append.mpr (Or.inl hk)) e' he' (by omega)
/-- behind all of them each stands where it shall -/
theorem brought {a b : List It} (ha : Unlike a) (hb : Unlike b) : Done (bringAll a (plcL (-1) 0 b)) (plcL (-1) 0 b) := by
  have h := bring_all.2 b a [] (-1) 0 hb (fun k _ e he => by simp at he) ⟨ha, fun e he => by simp at he, fun e he => by simp at he, fun e he => by simp at he⟩ .top (fun m hm => by omega) (fun e he => by simp at he)
  simpa using h
end Go.Proofs.Ytgpckmolcdafcae

/-
  PLAIN MATHEMATICS of events: the greatest items that are bad go, one by one.
-/
namespace Go.Proofs.Ytgpckmolcdafcae

mutual
/-- the nodes of the greatest items that are bad -/
def max1 (bad : It → Bool) : It → List Nat
  | .mk k r a b l c o ks => if bad (.mk k r a b l c o ks) then [k] else maxL bad ks
def maxL (bad : It → Bool) : List It → List Nat
  | [] => []
  | x :: xs => max1 bad x ++ maxL bad xs
end
theorem max1_eq (bad : It → Bool) (x : It) : max1 bad x = if bad x then [x.node] else maxL bad x.kids := by cases x with | mk => rw [max1]; rfl
mutual
/-- what is left without them -/
def cut1 (bad : It → Bool) : It → It
  | .mk k r a b l c o ks => .mk k r a b l c o (cutL bad ks)
def cutL (bad : It → Bool) : List It → List It
  | [] => []
  | x :: xs => if bad x then cutL bad xs else cut1 bad x :: cutL bad xs
end
theorem cut1_eq (bad : It → Bool) (x : It) : cut1 bad x = x.with (cutL bad x.kids) := by cases x with | mk => rw [cut1]; rfl
theorem rm1_eq (n : Nat) (x : It) : rm1 n x = x.with (rmL n x.kids) := by cases x with | mk => rw [rm1]; rfl
theorem with_self (x : It) : x.with x.kids = x := by cases x; rfl
theorem with_with (x : It) (a b : List It) : (x.with a).with b = x.with b := by cases x; rfl

def rmAll (T : List It) (ns : List Nat) : List It := ns.foldl (fun T n => rmL n T) T
/-- each of them is there when it is its turn -/
def OkRm : List It → List Nat → Prop
  | _, [] => True
  | T, n :: ns => n ∈ nodesL T ∧ OkRm (rmL n T) ns
theorem rmAll_app (T : List It) (a b : List Nat) : rmAll T (a ++ b) = rmAll (rmAll T a) b := by unfold rmAll; rw [List.foldl_append]
theorem okRm_app : ∀ (a b : List Nat) (T : List It), OkRm T a → OkRm (rmAll T a) b → OkRm T (a ++ b)
  | [], _, _, _, h => h
  | _ :: a, b, _, h, g => ⟨h.1, okRm_app a b _ h.2 g⟩

theorem rm_none (n : Nat) : (∀ x, n ∉ nodes1 x → rm1 n x = x) ∧ ∀ l, n ∉ nodesL l → rmL n l = l := by
  refine It.ind (fun x h hn => ?_) (fun _ => rfl) (fun x xs h1 h2 hn => ?_)
  · rw [rm1_eq, h (fun hm => hn (by rw [nodes1_eq]; exact List.mem_cons_of_mem _ hm)), with_self]
  · rw [nodesL, List.mem_append] at hn
    rw [rmL, if_neg (fun e => hn (Or.inl (by rw [nodes1_eq, e]; simp))), h1 (fun hm => hn (Or.inl hm)), h2 (fun hm => hn (Or.inr hm))]
theorem rmL_app (n : Nat) : ∀ a b : List It, rmL n (a ++ b) = rmL n a ++ rmL n b
  | [], _ => rfl
  | x :: a, b => by
    rw [List.cons_append, rmL, rmL, rmL_app n a b]
    split <;> rfl
/-- those that are not here leave it as it is -/
theorem rmAll_in : ∀ (ns : List Nat) (pre l post : List It), (∀ n ∈ ns, n ∉ nodesL pre ∧ n ∉ nodesL post) → rmAll (pre ++ l ++ post) ns = pre ++ rmAll l ns ++ post ∧ (OkRm l ns → OkRm (pre ++ l ++ post) ns)
  | [], _, _, _, _ => ⟨rfl, fun _ => trivial⟩
  | n :: ns, pre, l, post, h => by
    obtain ⟨h1, h2⟩ := h n (by simp)
    have e : rmL n (pre ++ l ++ post) = pre ++ rmL n l ++ post := by rw [rmL_app, rmL_app, (rm_none n).2 pre h1, (rm_none n).2 post h2]
    obtain ⟨g1, g2⟩ := rmAll_in ns pre (rmL n l) post (fun m hm => h m (by simp [hm]))
    refine ⟨?_, fun ho => ⟨?_, ?_⟩⟩
    · show rmAll (rmL n (pre ++ l ++ post)) ns = _
      rw [e]
      exact g1
    · rw [nodesL_app, nodesL_app]
      exact List.mem_append.mpr (Or.inl (List.mem_append.mpr (Or.inr ho.1)))
    · rw [e]
      exact g2 ho.2
theorem rmAll_one : ∀ (ns : List Nat) (x : It), x.node ∉ ns → rmAll [x] ns = [x.with (rmAll x.kids ns)] ∧ (OkRm x.kids ns → OkRm [x] ns)
  | [], x, _ => ⟨by show [x] = _; rw [show rmAll x.kids [] = x.kids from rfl, with_self], fun _ => trivial⟩
  | n :: ns, x, h => by
    have hne : x.node ≠ n := fun e => h (by simp [e])
    have e : rmL n [x] = [x.with (rmL n x.kids)] := by rw [rmL, if_neg hne, rm1_eq]; rfl
    obtain ⟨g1, g2⟩ := rmAll_one ns (x.with (rmL n x.kids)) (by rw [with_node]; exact fun hm => h (by simp [hm]))
    rw [with_kids] at g1 g2
    refine ⟨?_, fun ho => ⟨?_, ?_⟩⟩
    · show rmAll (rmL n [x]) ns = _
      rw [e, g1, with_with]
      rfl
    · rw [nodesL, nodes1_eq, nodesL, List.append_nil]
      exact List.mem_cons_of_mem _ ho.1
    · rw [e]
      exact g2 ho.2

theorem max_in (bad : It → Bool) : (∀ x, ∀ n ∈ max1 bad x, n ∈ nodes1 x) ∧ ∀ l, ∀ n ∈ maxL bad l, n ∈ nodesL l := by
  refine It.ind (fun x h n hn => ?_) (fun n hn => by simp [maxL] at hn) (fun x xs h1 h2 n hn => ?_)
  · rw [max1_eq] at hn
    rw [nodes1_eq]
    split at hn
    · rw [List.mem_singleton] at hn
      simp [hn]
    · exact List.mem_cons_of_mem _ (h n hn)
  · rw [maxL, List.mem_append] at hn
    rw [nodesL, List.mem_append]
    rcases hn with hn | hn
    · exact Or.inl (h1 n hn)
    · exact Or.inr (h2 n hn)
theorem rm_max (bad : It → Bool) : (∀ x, (nodes1 x).Nodup → rmAll [x] (max1 bad x) = (if bad x then [] else [cut1 bad x]) ∧ OkRm [x] (max1 bad x)) ∧ ∀ l, Unlike l → rmAll l (maxL bad l) = cutL bad l ∧ OkRm l (maxL bad l) := by
  refine It.ind (fun x h hn => ?_) (fun _ => ⟨rfl, trivial⟩) (fun x xs h1 h2 hn => ?_)
  · rw [nodes1_eq, List.nodup_cons] at hn
    obtain ⟨g1, g2⟩ := h hn.2
    rw [max1_eq]
    by_cases hb : bad x = true
    · rw [if_pos hb, if_pos hb]
      refine ⟨?_, by rw [nodesL, nodes1_eq]; simp, trivial⟩
      show rmL x.node [x] = []
      rw [rmL, if_pos rfl]
      rfl
    · rw [if_neg hb, if_neg hb]
      obtain ⟨k1, k2⟩ := rmAll_one (maxL bad x.kids) x (fun hm => hn.1 ((max_in bad).2 _ _ hm))
      exact ⟨by rw [k1, g1, cut1_eq], k2 g2⟩
  · unfold Unlike at hn
    rw [nodesL, List.nodup_append] at hn
    obtain ⟨n1, n2, n3⟩ := hn
    obtain ⟨a1, a2⟩ := h1 n1
    obtain ⟨b1, b2⟩ := h2 n2
    have c1 := rmAll_in (max1 bad x) [] [x] xs (fun n hn => ⟨by simp [nodesL], fun hm => n3 _ ((max_in bad).1 x n hn) _ hm rfl⟩)
    simp only [List.nil_append] at c1
    have hx : x :: xs = [x] ++ xs := rfl
    rw [maxL, rmAll_app, hx, c1.1, a1]
    have hd : ∀ n ∈ maxL bad xs, n ∉ nodesL (if bad x then [] else [cut1 bad x]) := fun n hn hm => by
      have hs : (nodesL (rmAll [x] (max1 bad x))).Sublist (nodesL [x]) := by
        have : ∀ (ns : List Nat) (T : List It), (nodesL (rmAll T ns)).Sublist (nodesL T) := fun ns => by
          induction ns with
          | nil => intro T; exact List.Sublist.refl _
          | cons m ns ih => intro T; exact (ih (rmL m T)).trans ((rm_sub m).2 T)
        exact this _ _
      rw [a1] at hs
      have h4 := hs.subset hm
      rw [nodesL, nodesL, List.append_nil] at h4
      exact n3 _ h4 _ ((max_in bad).2 xs n hn) rfl
    have c2 := rmAll_in (maxL bad xs) (if bad x then [] else [cut1 bad x]) xs [] (fun n hn => ⟨hd n hn, by simp [nodesL]⟩)
    simp only [List.append_nil] at c2
    have hcl : cutL bad (x :: xs) = (if bad x then [] else [cut1 bad x]) ++ cutL bad xs := by
      rw [cutL]
      split <;> rfl
    refine ⟨?_, ?_⟩
    · rw [c2.1, b1]
      exact hcl.symm
    · refine okRm_app _ _ _ (c1.2 a2) ?_
      rw [c1.1, a1]
      exact c2.2 b2

/-! ### what is left -/
theorem cut_sub (bad : It → Bool) : (∀ x, (nodes1 (cut1 bad x)).Sublist (nodes1 x)) ∧ ∀ l, (nodesL (cutL bad l)).Sublist (nodesL l) := by
  refine It.ind (fun x h => ?_) (List.Sublist.refl _) (fun x xs h1 h2 => ?_)
  · rw [cut1_eq, nodes1_eq, nodes1_eq, with_node, with_kids]
    exact h.cons_cons _
  · rw [cutL, nodesL]
    split
    · exact h2.trans (List.sublist_append_right _ _)
    · rw [nodesL]
      exact h1.append h2
theorem cut_unlike (bad : It → Bool) {l : List It} (h : Unlike l) : Unlike (cutL bad l) := ((cut_sub bad).2 l).nodup h
theorem cut_top (bad : It → Bool) : ∀ l, topN (cutL bad l) = topN (l.filter (fun x => !bad x))
  | [] => rfl
  | x :: l => by
    rw [cutL]
    by_cases h : bad x = true
    · rw [if_pos h, List.filter_cons_of_neg (by simp [h]), cut_top bad l]
    · rw [if_neg h, List.filter_cons_of_pos (by simpa using h)]
      show (cut1 bad x).node :: topN (cutL bad l) = x.node :: topN _
      rw [cut_top bad l, cut1_eq, with_node]
/-- all that is left was there, and is not bad; what is in it that is not bad is in it still -/
theorem cut_was (bad : It → Bool) : (∀ x, bad x = false → ∀ z ∈ item1 (cut1 bad x), ∃ w ∈ item1 x, z = cut1 bad w ∧ bad w = false) ∧ ∀ l, ∀ z ∈ itemL (cutL bad l), ∃ w ∈ itemL l, z = cut1 bad w ∧ bad w = false := by
  refine It.ind (fun x h hb z hz => ?_) (fun z hz => by simp [cutL, itemL] at hz) (fun x xs h1 h2 z hz => ?_)
  · rcases mem_item1.mp hz with e | hz
    · exact ⟨x, mem_item1.mpr (Or.inl rfl), e, hb⟩
    · rw [cut1_eq, with_kids] at hz
      obtain ⟨w, hw, e⟩ := h z hz
      exact ⟨w, mem_item1.mpr (Or.inr hw), e⟩
  · rw [cutL] at hz
    rw [itemL]
    by_cases hb : bad x = true
    · rw [if_pos hb] at hz
      obtain ⟨w, hw, e⟩ := h2 z hz
      exact ⟨w, List.mem_append.mpr (Or.inr hw), e⟩
    · rw [if_neg hb, itemL, List.mem_append] at hz
      rcases hz with hz | hz
      · obtain ⟨w, hw, e⟩ := h1 (by simpa using hb) z hz
        exact ⟨w, List.mem_append.mpr (Or.inl hw), e⟩
      · obtain ⟨w, hw, e⟩ := h2 z hz
        exact ⟨w, List.mem_append.mpr (Or.inr hw), e⟩
end Go.Proofs.Ytgpckmolcdafcae

/-
  PLAIN MATHEMATICS of events: what is brought, purged, and told, is the other forest.
-/
namespace Go.Proofs.Ytgpckmolcdafcae

/-! ### where the items of a forest stand in it -/
theorem plc_where : (∀ y : It, ∀ p i, ∀ e ∈ plc1 p i y, e = (y, p, i) ∨ ∃ z ∈ item1 y, e.2.1 = (z.node : Int) ∧ z.kids[e.2.2]? = some e.1) ∧
    ∀ l : List It, ∀ p i, ∀ e ∈ plcL p i l, (e.2.1 = p ∧ i ≤ e.2.2 ∧ l[e.2.2 - i]? = some e.1) ∨ ∃ z ∈ itemL l, e.2.1 = (z.node : Int) ∧ z.kids[e.2.2]? = some e.1 := by
  refine It.ind (fun y h p i e he => ?_) (fun p i e he => by simp [plcL] at he) (fun y ys h1 h2 p i e he => ?_)
  · rw [plc1_eq] at he
    rcases List.mem_cons.mp he with e1 | he
    · exact Or.inl e1
    · refine Or.inr ?_
      rcases h _ _ e he with ⟨g1, _, g3⟩ | ⟨z, hz, g⟩
      · exact ⟨y, mem_item1.mpr (Or.inl rfl), g1, by simpa using g3⟩
      · exact ⟨z, mem_item1.mpr (Or.inr hz), g⟩
  · rw [plcL, List.mem_append] at he
    rcases he with he | he
    · rcases h1 _ _ e he with e2 | ⟨z, hz, g⟩
      · rw [e2]
        exact Or.inl ⟨rfl, Nat.le_refl _, by simp⟩
      · exact Or.inr ⟨z, by rw [itemL, List.mem_append]; exact Or.inl hz, g⟩
    · rcases h2 _ _ e he with ⟨g1, g2, g3⟩ | ⟨z, hz, g⟩
      · refine Or.inl ⟨g1, by omega, ?_⟩
        have : e.2.2 - i = (e.2.2 - (i + 1)) + 1 := by omega
        rw [this, List.getElem?_cons_succ]
        exact g3
      · exact Or.inr ⟨z, by rw [itemL, List.mem_append]; exact Or.inr hz, g⟩
theorem plc_top : ∀ (l : List It) (p : Int) (i j : Nat) (y : It), l[j]? = some y → (y, p, i + j) ∈ plcL p i l
  | [], _, _, _, _, h => by simp at h
  | x :: l, p, i, 0, y, h => by
    have : x = y := by simpa using h
    rw [plcL, this, plc1_eq]
    simp
  | x :: l, p, i, j + 1, y, h => by
    rw [plcL]
    have := plc_top l p (i + 1) j y (by simpa using h)
    rw [show i + 1 + j = i + (j + 1) from by omega] at this
    exact List.mem_append.mpr (Or.inr this)
theorem plc_kid : (∀ y : It, ∀ p i, ∀ z ∈ item1 y, ∀ j x, z.kids[j]? = some x → (x, (z.node : Int), j) ∈ plc1 p i y) ∧ ∀ l : List It, ∀ p i, ∀ z ∈ itemL l, ∀ j x, z.kids[j]? = some x → (x, (z.node : Int), j) ∈ plcL p i l := by
  refine It.ind (fun y h p i z hz j x hx => ?_) (fun p i z hz => by simp [itemL] at hz) (fun y ys h1 h2 p i z hz j x hx => ?_)
  · rw [plc1_eq]
    refine List.mem_cons_of_mem _ ?_
    rcases mem_item1.mp hz with e | hz
    · rw [e] at hx ⊢
      have := plc_top y.kids (y.node : Int) 0 j x hx
      rw [Nat.zero_add] at this
      exact this
    · exact h _ _ z hz j x hx
  · rw [itemL, List.mem_append] at hz
    rw [plcL]
    rcases hz with hz | hz
    · exact List.mem_append.mpr (Or.inl (h1 _ _ z hz j x hx))
    · exact List.mem_append.mpr (Or.inr (h2 _ _ z hz j x hx))
/-- each item has its place -/
theorem plc_each (l : List It) {y : It} (hy : y ∈ itemL l) : ∃ e ∈ plcL (-1) 0 l, e.1 = y := by
  have : y ∈ (plcL (-1) 0 l).map (·.1) := by rw [plc_items.2]; exact hy
  obtain ⟨e, he, e1⟩ := List.mem_map.mp this
  exact ⟨e, he, e1⟩

/-- what b has in p -/
def kidsB (b : List It) (p : Int) (K : List Nat) : Prop := (p = -1 ∧ K = topN b) ∨ ∃ y ∈ itemL b, p = (y.node : Int) ∧ K = topN y.kids
def keepB (b : List It) (n : Nat) : Bool := (nodesL b).contains n

theorem take_pre {K B : List Nat} (h : ∀ j < B.length, K[j]? = B[j]?) : K.take B.length = B := by
  apply List.ext_getElem?
  intro j
  rw [List.getElem?_take]
  split
  · rename_i hj; exact h j hj
  · rename_i hj; rw [List.getElem?_eq_none (by omega)]
/-- what stands there, but for what is not in b, is what b has there -/
theorem kept_kids {T b : List It} (hb : Unlike b) (h : Done T (plcL (-1) 0 b)) {p : Int} {B : List Nat} (hB : kidsB b p B) : (kidsAt T p).filter (keepB b) = B := by
  have at1 : ∀ j < B.length, (kidsAt T p)[j]? = B[j]? := fun j hj => by
    rcases hB with ⟨rfl, rfl⟩ | ⟨y, hy, rfl, rfl⟩
    · have hj2 : j < b.length := by simpa [topN] using hj
      have h1 := h.at_ _ (plc_top b (-1) 0 j b[j] (List.getElem?_eq_getElem hj2))
      rw [Nat.zero_add] at h1
      rw [h1]
      unfold topN
      rw [List.getElem?_map, List.getElem?_eq_getElem hj2]
      rfl
    · have hj2 : j < y.kids.length := by simpa [topN] using hj
      have h1 := h.at_ _ (plc_kid.2 b (-1) 0 y hy j y.kids[j] (List.getElem?_eq_getElem hj2))
      rw [h1]
      unfold topN
      rw [List.getElem?_map, List.getElem?_eq_getElem hj2]
      rfl
  have hpl : Place T p := by
    rcases hB with ⟨rfl, _⟩ | ⟨y, hy, rfl, _⟩
    · exact Or.inl rfl
    · obtain ⟨e, he, e1⟩ := plc_each b hy
      obtain ⟨x, hx, e2⟩ := in_node (h.in he)
      exact Or.inr ⟨x, hx, by rw [e2, e1]⟩
  have inB : ∀ k ∈ B, keepB b k = true := fun k hk => by
    unfold keepB
    rw [List.contains_eq_mem, decide_eq_true_eq]
    rcases hB with ⟨_, rfl⟩ | ⟨y, hy, _, rfl⟩
    · exact (top_sub b).subset hk
    · obtain ⟨z, hz, e⟩ := List.mem_map.mp hk
      rw [← e]
      exact node_inL (kid_item hy hz)
  have hlen : B.length ≤ (kidsAt T p).length := by
    rcases Nat.eq_zero_or_pos B.length with h0 | h0
    · omega
    · have h1 := at1 (B.length - 1) (by omega)
      rw [List.getElem?_eq_getElem (by omega : B.length - 1 < B.length)] at h1
      have := (List.getElem?_eq_some_iff.mp h1).1
      omega
  have hsplit : kidsAt T p = B ++ (kidsAt T p).drop B.length := by
    conv => lhs; rw [← List.take_append_drop B.length (kidsAt T p), take_pre at1]
  rw [hsplit, List.filter_append, List.filter_eq_self.mpr inB]
  have hnil : ((kidsAt T p).drop B.length).filter (keepB b) = [] := by
    rw [List.filter_eq_nil_iff]
    intro r hr hk
    unfold keepB at hk
    rw [List.contains_eq_mem, decide_eq_true_eq] at hk
    obtain ⟨y, hy, ey⟩ := in_node hk
    obtain ⟨e, he, e1⟩ := plc_each b hy
    have h1 := h.at_ e he
    rw [e1, ey] at h1
    have hrk : r ∈ kidsAt T p := List.mem_of_mem_drop hr
    have ep := kids_one h.un (h.place (h.anc e he)) hpl (List.mem_of_getElem? h1) hrk
    rw [ep] at h1
    -- its number there is one of b's
    have hlt : e.2.2 < B.length := by
      rcases plc_where.2 b (-1) 0 e he with ⟨g1, _, g3⟩ | ⟨z, hz, g1, g3⟩
      · rcases hB with ⟨_, rfl⟩ | ⟨y2, _, e2, _⟩
        · have := (List.getElem?_eq_some_iff.mp g3).1
          simpa [topN] using this
        · omega
      · rcases hB with ⟨e2, _⟩ | ⟨y2, hy2, e2, rfl⟩
        · omega
        · have : z = y2 := unlike_one hb hz hy2 (by omega)
          rw [this] at g3
          have := (List.getElem?_eq_some_iff.mp g3).1
          simpa [topN] using this
    obtain ⟨j, hj, ej⟩ := List.mem_iff_getElem.mp hr
    rw [List.getElem_drop] at ej
    obtain ⟨hi, ei⟩ := List.getElem?_eq_some_iff.mp h1
    rw [List.length_drop] at hj
    have hnd := kidsAt_nodup h.un p
    have := (List.getElem_inj (h₀ := hi) (h₁ := by omega) hnd).mp (ei.trans ej.symm)
    omega
  rw [hnil, List.append_nil]

/-! ### what is told -/
def tellAll (T : List It) (ys : List It) : List It := ys.foldl (fun T y => telL y.node (y.with []) T) T
theorem tell_one {T : List It} {y x' : It} (hx : x' ∈ itemL (telL y.node (y.with []) T)) : ∃ x ∈ itemL T, x'.node = x.node ∧ topN x'.kids = topN x.kids ∧ x'.says = if x.node = y.node then y.says else x.says := by
  have hy : (y.with []).node = y.node := with_node _ _
  rw [(tel_items y.node (y.with [])).2] at hx
  obtain ⟨x, h1, e⟩ := List.mem_map.mp hx
  refine ⟨x, h1, ?_, ?_, ?_⟩
  · rw [← e, tel1_node hy]
  · rw [← e, tel1_kids, tel_top hy]
  · rw [← e, tel1_says, with_says]
theorem tell_all : ∀ (ys T : List It), (ys.map It.node).Nodup → ∀ x' ∈ itemL (tellAll T ys), ∃ x ∈ itemL T, x'.node = x.node ∧ topN x'.kids = topN x.kids ∧ (∀ y ∈ ys, y.node = x.node → x'.says = y.says) ∧ ((∀ y ∈ ys, y.node ≠ x.node) → x'.says = x.says)
  | [], _, _, x', hx => ⟨x', hx, rfl, rfl, fun y hy => by simp at hy, fun _ => rfl⟩
  | y :: ys, T, hn, x', hx => by
    rw [List.map_cons, List.nodup_cons] at hn
    obtain ⟨x1, h1, e1, e2, e3, e4⟩ := tell_all ys (telL y.node (y.with []) T) hn.2 x' hx
    obtain ⟨x, h2, f1, f2, f3⟩ := tell_one h1
    refine ⟨x, h2, e1.trans f1, e2.trans f2, fun z hz ez => ?_, fun hno => ?_⟩
    · rcases List.mem_cons.mp hz with rfl | hz
      · have : x'.says = x1.says := e4 (fun z hz ez2 => hn.1 (List.mem_map.mpr ⟨z, hz, by rw [ez2, f1, ez]⟩))
        rw [this, f3, if_pos ez.symm]
      · exact e3 z hz (ez.trans f1.symm)
    · rw [e4 (fun z hz ez => hno z (by simp [hz]) (ez.trans f1)), f3, if_neg (fun e => hno y (by simp) e.symm)]
theorem tell_top : ∀ (ys T : List It), topN (tellAll T ys) = topN T
  | [], _ => rfl
  | y :: ys, T => by
    show topN (tellAll (telL y.node (y.with []) T) ys) = _
    rw [tell_top ys, tel_top (with_node _ _)]

/-- brought, purged, told: the other forest -/
theorem turned {T b ys : List It} (hb : Unlike b) (h : Done T (plcL (-1) 0 b)) (hys : (ys.map It.node).Nodup) (hyb : ∀ y ∈ ys, y ∈ itemL b)
    (hall : ∀ y ∈ itemL b, y ∉ ys → ∀ x ∈ itemL (cutL (fun x => !keepB b x.node) T), x.node = y.node → x.says = y.says) : tellAll (cutL (fun x => !keepB b x.node) T) ys = b := by
  have hf : (fun x : It => !(!keepB b x.node)) = fun x : It => keepB b x.node := funext (fun x => Bool.not_not _)
  have ftop : ∀ l : List It, topN (cutL (fun x => !keepB b x.node) l) = (topN l).filter (keepB b) := fun l => by
    rw [cut_top, hf]
    unfold topN
    rw [List.filter_map]
    rfl
  apply forest_same
  · rw [tell_top, ftop, ← kids_top]
    exact kept_kids hb h (Or.inl ⟨rfl, rfl⟩)
  · intro x' hx' y hy e
    obtain ⟨x, hx, e1, e2, e3, e4⟩ := tell_all ys _ hys x' hx'
    obtain ⟨w, hw, ew, hk⟩ := (cut_was _).2 T x hx
    have en : x.node = w.node := by rw [ew, cut1_eq, with_node]
    refine ⟨?_, ?_⟩
    · rw [e2, ew, cut1_eq, with_kids, ftop, ← kids_item h.un hw]
      refine kept_kids hb h (Or.inr ⟨y, hy, ?_, rfl⟩)
      rw [← en, ← e1, e]
    · by_cases hm : y ∈ ys
      · exact e3 y hm (by rw [← e1, e])
      · rw [e4 (fun z hz ez => hm (by
          have : z = y := unlike_one hb (hyb z hz) hy (by rw [ez, ← e1, e])
          rw [← this]
          exact hz))]
        exact hall y hy hm x hx (by rw [← e1, e])
end Go.Proofs.Ytgpckmolcdafcae

/-
  PLAIN MATHEMATICS of events: what an event does, or why it doesn't go; the events of two forests make the other one.
-/
namespace Go.Proofs.Ytgpckmolcdafcae

/-- an event -/
structure EvM where
  kind : Int
  node : Int
  tgt : Int
  at_ : Int
  item : It
def item0 : It := .mk 0 0 ⟨#[]⟩ ⟨#[]⟩ 0 0 false []
def hasI (T : List It) (n : Int) : Bool := decide (0 ≤ n) && (nodesL T).contains n.toNat
def toP (t : Int) : Int := if t < 0 then -1 else t
def findI (T : List It) (n : Int) : Option It := (itemL T).find? (fun x => decide ((x.node : Int) = n))

/-- what comes of it, or why it doesn't go -/
def applyM (T : List It) (e : EvM) : Except Int (List It) :=
  if e.kind = 5 then .ok [e.item]
  else if e.kind = 2 then
    if 0 ≤ e.tgt ∧ hasI T e.tgt = false then .error 6
    else if e.at_ < 0 ∨ ((kidsAt T (toP e.tgt)).length : Int) < e.at_ then .error 3
    else if e.item.kids.isEmpty = false then .error 8
    else if hasI T (e.item.node : Int) = true then .error 7
    else .ok (insP (toP e.tgt) e.at_.toNat e.item T)
  else if e.kind = 3 then
    match findI T e.node with
    | none => .error 6
    | some x =>
      if 0 ≤ e.tgt ∧ (nodes1 x).contains e.tgt.toNat = true then .error 9
      else if 0 ≤ e.tgt ∧ hasI T e.tgt = false then .error 6
      else if e.at_ < 0 ∨ ((kidsAt (rmL x.node T) (toP e.tgt)).length : Int) < e.at_ then .error 3
      else .ok (movP x (toP e.tgt) e.at_.toNat T)
  else if e.kind = 1 then (if hasI T e.node = true then .ok (rmL e.node.toNat T) else .error 6)
  else if e.kind = 4 then
    if hasI T e.node = false then .error 6
    else if (e.item.node : Int) ≠ e.node ∨ e.item.kids.isEmpty = false then .error 8
    else .ok (telL e.node.toNat e.item T)
  else .error 1
/-- event by event: all, or why the first one that doesn't go doesn't, and its number -/
def runM : Nat → List It → List EvM → Except (Int × Nat) (List It)
  | _, T, [] => .ok T
  | k, T, e :: es => match applyM T e with
    | .ok T2 => runM (k + 1) T2 es
    | .error w => .error (w, k)
theorem runM_app : ∀ (a b : List EvM) (k : Nat) (T T2 : List It), runM k T a = .ok T2 → runM k T (a ++ b) = runM (k + a.length) T2 b
  | [], b, k, T, T2, h => by
    have : T = T2 := by injection h
    rw [this]
    rfl
  | e :: a, b, k, T, T2, h => by
    rw [runM] at h
    rw [List.cons_append, runM]
    cases he : applyM T e with
    | error w => rw [he] at h; cases h
    | ok T1 =>
      rw [he] at h
      simp only at h ⊢
      rw [runM_app a b (k + 1) T1 T2 h, List.length_cons]
      congr 1
      omega

def evRm (n : Nat) : EvM := ⟨1, n, 0, 0, item0⟩
def evTell (y : It) : EvM := ⟨4, y.node, 0, 0, y.with []⟩
def evAdd (y : It) (p : Int) (i : Nat) : EvM := ⟨2, 0, p, i, y.with []⟩
def evMove (y : It) (p : Int) (i : Nat) : EvM := ⟨3, y.node, p, i, item0⟩
def evAll (y : It) : EvM := ⟨5, 0, 0, 0, y⟩

theorem app1 (T : List It) (n t a : Int) (x : It) : applyM T ⟨1, n, t, a, x⟩ = if hasI T n = true then .ok (rmL n.toNat T) else .error 6 := rfl
theorem app2 (T : List It) (n t a : Int) (x : It) : applyM T ⟨2, n, t, a, x⟩ = (if 0 ≤ t ∧ hasI T t = false then .error 6
    else if a < 0 ∨ ((kidsAt T (toP t)).length : Int) < a then .error 3
    else if x.kids.isEmpty = false then .error 8
    else if hasI T (x.node : Int) = true then .error 7
    else .ok (insP (toP t) a.toNat x T)) := rfl
theorem app3 (T : List It) (n t a : Int) (z : It) : applyM T ⟨3, n, t, a, z⟩ = (match findI T n with
    | none => .error 6
    | some x =>
      if 0 ≤ t ∧ (nodes1 x).contains t.toNat = true then .error 9
      else if 0 ≤ t ∧ hasI T t = false then .error 6
      else if a < 0 ∨ ((kidsAt (rmL x.node T) (toP t)).length : Int) < a then .error 3
      else .ok (movP x (toP t) a.toNat T)) := rfl
theorem app4 (T : List It) (n t a : Int) (x : It) : applyM T ⟨4, n, t, a, x⟩ = (if hasI T n = false then .error 6
    else if (x.node : Int) ≠ n ∨ x.kids.isEmpty = false then .error 8
    else .ok (telL n.toNat x T)) := rfl
theorem hasI_nat (T : List It) (n : Nat) : hasI T (n : Int) = (nodesL T).contains n := by unfold hasI; simp
theorem apply_rm {T : List It} {n : Nat} (h : n ∈ nodesL T) : applyM T (evRm n) = .ok (rmL n T) := by
  unfold evRm
  rw [app1, hasI_nat, if_pos (by simpa using h)]
  rfl
theorem run_rm : ∀ (ns : List Nat) (k : Nat) (T : List It), OkRm T ns → runM k T (ns.map evRm) = .ok (rmAll T ns)
  | [], _, _, _ => rfl
  | n :: ns, k, T, h => by
    rw [List.map_cons, runM, apply_rm h.1]
    exact run_rm ns (k + 1) (rmL n T) h.2
theorem apply_tell {T : List It} {y : It} (h : y.node ∈ nodesL T) : applyM T (evTell y) = .ok (telL y.node (y.with []) T) := by
  unfold evTell
  rw [app4, hasI_nat, if_neg (by simpa using h), if_neg (by
    rw [with_node, with_kids]
    simp)]
  rfl
theorem run_tell : ∀ (ys : List It) (k : Nat) (T : List It), (∀ y ∈ ys, y.node ∈ nodesL T) → runM k T (ys.map evTell) = .ok (tellAll T ys)
  | [], _, _, _ => rfl
  | y :: ys, k, T, h => by
    rw [List.map_cons, runM, apply_tell (h y (by simp))]
    exact run_tell ys (k + 1) _ (fun z hz => by rw [tel_nodes (with_node _ _)]; exact h z (by simp [hz]))

/-! ### what is brought -/
/-- the event that brings one, if there is need -/
def evBring (T : List It) (y : It) (p : Int) (i : Nat) : List EvM :=
  match (itemL T).find? (fun x => decide (x.node = y.node)) with
  | none => [evAdd y p i]
  | some _ => if (kidsAt T p)[i]? = some y.node then [] else [evMove y p i]
def evsBring : List It → List Plc → List EvM
  | _, [] => []
  | T, e :: D => evBring T e.1 e.2.1 e.2.2 ++ evsBring (bring T e.1 e.2.1 e.2.2) D
theorem toP_place {T : List It} {p : Int} (h : Place T p) : toP p = p := by
  unfold toP
  rcases h with rfl | ⟨x, _, rfl⟩
  · rfl
  · rw [if_neg (by omega)]
theorem place_has {T : List It} {p : Int} (h : Place T p) : ¬ (0 ≤ p ∧ hasI T p = false) := by
  rintro ⟨h1, h2⟩
  rcases h with rfl | ⟨x, hx, rfl⟩
  · omega
  · rw [hasI_nat] at h2
    have := node_inL hx
    simp [this] at h2
theorem find_cast (T : List It) (n : Nat) : findI T (n : Int) = (itemL T).find? (fun x => decide (x.node = n)) := by
  unfold findI
  congr 1
  funext x
  exact decide_eq_decide.mpr Int.ofNat_inj
theorem run_bring1 {T : List It} {D : List Plc} (h : Done T D) {y : It} {p : Int} {i : Nat} (hn : Next D y p i) (k : Nat) : runM k T (evBring T y p i) = .ok (bring T y p i) := by
  have hp := h.place hn.anc
  unfold evBring bring
  rcases find_item (T := T) (n := y.node) with ⟨x, hf, hx, e⟩ | ⟨hf, hno⟩
  · rw [hf]
    simp only
    split
    · rfl
    · have hM := next_moves h hn hx e
      have hle := hM.fits.le
      have : applyM T (evMove y p i) = .ok (movP x p i T) := by
        unfold evMove
        rw [app3, find_cast, hf]
        simp only
        rw [toP_place hp, if_neg, if_neg (place_has hp), if_neg (by omega)]
        · rfl
        · rintro ⟨g1, g2⟩
          rcases hM.place with rfl | ⟨q, rfl, _, g3⟩
          · omega
          · rw [Int.toNat_natCast] at g2
            exact g3 (by simpa using g2)
      rw [runM, this]
      rfl
  · rw [hf]
    simp only
    have hle := (hn.long h).1
    have : applyM T (evAdd y p i) = .ok (insP p i (y.with []) T) := by
      unfold evAdd
      rw [app2, if_neg (place_has hp), toP_place hp, if_neg (by omega), if_neg (by rw [with_kids]; simp), with_node, hasI_nat, if_neg (by simpa using hno)]
      rfl
    rw [runM, this]
    rfl

/-- each step is one that goes -/
def OkBr : List It → List Plc → Prop
  | _, [] => True
  | T, e :: D => (∃ E, Done T E ∧ Next E e.1 e.2.1 e.2.2) ∧ OkBr (bring T e.1 e.2.1 e.2.2) D
theorem okBr_app : ∀ {a b : List Plc} {T : List It}, OkBr T a → OkBr (bringAll T a) b → OkBr T (a ++ b)
  | [], _, _, _, h => h
  | _ :: _, _, _, h, g => ⟨h.1, okBr_app h.2 g⟩
theorem run_bring : ∀ (D : List Plc) (k : Nat) (T : List It), OkBr T D → runM k T (evsBring T D) = .ok (bringAll T D)
  | [], _, _, _ => rfl
  | e :: D, k, T, h => by
    obtain ⟨⟨E, h1, h2⟩, h3⟩ := h
    rw [evsBring, runM_app _ _ k T _ (run_bring1 h1 h2 k)]
    exact run_bring D _ _ h3
/-- and each step is one that goes -/
theorem bring_steps : (∀ y : It, ∀ (T : List It) (D : List Plc) (p : Int) (i : Nat), (nodes1 y).Nodup → (∀ k ∈ nodes1 y, ∀ e ∈ D, e.1.node ≠ k) → Done T D → Anc D p → (∀ m < i, ∃ e ∈ D, e.2.1 = p ∧ e.2.2 = m) → (∀ e ∈ D, e.2.1 = p → e.2.2 < i) →
      OkBr T (plc1 p i y)) ∧
    ∀ l : List It, ∀ (T : List It) (D : List Plc) (p : Int) (i : Nat), Unlike l → (∀ k ∈ nodesL l, ∀ e ∈ D, e.1.node ≠ k) → Done T D → Anc D p → (∀ m < i, ∃ e ∈ D, e.2.1 = p ∧ e.2.2 = m) → (∀ e ∈ D, e.2.1 = p → e.2.2 < i) →
      OkBr T (plcL p i l) := by
  refine It.ind (fun y h T D p i hn hnew hD hp hs hf => ?_) (fun T D p i _ _ _ _ _ _ => ?_) (fun y ys h1 h2 T D p i hn hnew hD hp hs hf => ?_)
  · have hyn : y.node ∈ nodes1 y := by rw [nodes1_eq]; simp
    have hnx : Next D y p i := ⟨hp, hnew y.node hyn, hs, hf⟩
    have hD1 := (bring_done hD hnx).1
    rw [nodes1_eq, List.nodup_cons] at hn
    rw [plc1_eq]
    have hm : (y, p, i) ∈ D ++ [(y, p, i)] := by simp
    refine ⟨⟨D, hD, hnx⟩, ?_⟩
    refine h (bring T y p i) (D ++ [(y, p, i)]) (y.node : Int) 0 hn.2 (fun k hk e he => ?_) hD1 (.step (y, p, i) hm (hp.more (fun e he => List.mem_append.mpr (Or.inl he)))) (fun m hm => by omega) (fun e he ep => ?_)
    · rcases List.mem_append.mp he with he | he
      · exact hnew k (by rw [nodes1_eq]; exact List.mem_cons_of_mem _ hk) e he
      · rw [List.mem_singleton] at he
        rw [he]
        intro e2
        have e2 : y.node = k := e2
        exact hn.1 (e2 ▸ hk)
    · exfalso
      have hpa : ∀ q : Int, Anc D q → q ≠ (y.node : Int) := fun q hq e2 => by
        rcases anc_cases hq with e3 | ⟨e', he', e3⟩
        · omega
        · exact hnew y.node hyn e' he' (by omega)
      rcases List.mem_append.mp he with he | he
      · exact hpa _ (hD.anc e he) ep
      · rw [List.mem_singleton] at he
        rw [he] at ep
        exact hpa p hp ep
  · exact trivial
  · unfold Unlike at hn
    rw [nodesL, List.nodup_append] at hn
    obtain ⟨n1, n2, n3⟩ := hn
    have hk1 : ∀ k ∈ nodes1 y, ∀ e ∈ D, e.1.node ≠ k := fun k hk => hnew k (by rw [nodesL]; exact List.mem_append.mpr (Or.inl hk))
    have hD1 := bring_all.1 y T D p i n1 hk1 hD hp hs hf
    rw [plcL]
    refine okBr_app (h1 T D p i n1 hk1 hD hp hs hf) ?_
    have hy1 : (y, p, i) ∈ plc1 p i y := by rw [plc1_eq]; simp
    refine h2 (bringAll T (plc1 p i y)) (D ++ plc1 p i y) p (i + 1) n2 (fun k hk e he => ?_) hD1 (hp.more (fun e he => List.mem_append.mpr (Or.inl he))) (fun m hm => ?_) (fun e he ep => ?_)
    · rcases List.mem_append.mp he with he | he
      · exact hnew k (by rw [nodesL]; exact List.mem_append.mpr (Or.inr hk)) e he
      · exact n3 _ (plc_node he) _ hk
    · rcases Nat.lt_or_ge m i with hlt | hge
      · obtain ⟨e, g1, g2⟩ := hs m hlt
        exact ⟨e, List.mem_append.mpr (Or.inl g1), g2⟩
      · exact ⟨(y, p, i), List.mem_append.mpr (Or.inr hy1), rfl, show i = m by omega⟩
    · rcases List.mem_append.mp he with he | he
      · have := hf e he ep
        omega
      · rcases plc_par.1 y p i e he with e2 | ⟨k, hk, e2⟩
        · rw [e2]
          exact Nat.lt_succ_self _
        · exfalso
          rcases anc_cases hp with e3 | ⟨e', he', e3⟩
          · omega
          · exact hnew k (by rw [nodesL]; exact List.mem_append.mpr (Or.inl hk)) e' he' (by omega)

theorem bring_ok {a b : List It} (ha : Unlike a) (hb : Unlike b) : OkBr a (plcL (-1) 0 b) :=
  bring_steps.2 b a [] (-1) 0 hb (fun k _ e he => by simp at he) ⟨ha, fun e he => by simp at he, fun e he => by simp at he, fun e he => by simp at he⟩ .top (fun m hm => by omega) (fun e he => by simp at he)

/-! ### the events of two forests -/
def badA (b : List It) (x : It) : Bool := !(nodes1 x).any (keepB b)
def badB (b : List It) (x : It) : Bool := !keepB b x.node
def saysAt (T : List It) (n : Nat) : Option (Int × ByteArray × ByteArray × Int × Int × Bool) := ((itemL T).find? (fun x => decide (x.node = n))).map It.says
/-- the items that are told otherwise -/
def toTell (T b : List It) : List It := (itemL b).filter (fun y => decide (saysAt T y.node ≠ some y.says))
def T1 (a b : List It) : List It := cutL (badA b) a
def T2 (a b : List It) : List It := bringAll (T1 a b) (plcL (-1) 0 b)
def T3 (a b : List It) : List It := cutL (badB b) (T2 a b)
def evsM (a b : List It) : List EvM := (maxL (badA b) a).map evRm ++ (evsBring (T1 a b) (plcL (-1) 0 b) ++ ((maxL (badB b) (T2 a b)).map evRm ++ (toTell (T3 a b) b).map evTell))
def ofM (a b : List It) : List EvM :=
  match b with
  | [y] => if a.isEmpty = true ∨ 20 < (evsM a b).length then [evAll y] else evsM a b
  | _ => evsM a b

theorem run_evs {a b : List It} (ha : Unlike a) (hb : Unlike b) (k : Nat) : runM k a (evsM a b) = .ok b := by
  obtain ⟨r1, r2⟩ := (rm_max (badA b)).2 a ha
  have u1 : Unlike (T1 a b) := cut_unlike _ ha
  have hD : Done (T2 a b) (plcL (-1) 0 b) := brought u1 hb
  obtain ⟨r3, r4⟩ := (rm_max (badB b)).2 (T2 a b) hD.un
  unfold evsM
  have s1 := run_rm (maxL (badA b) a) k a r2
  rw [r1] at s1
  rw [runM_app _ _ k a _ s1]
  have s2 := run_bring (plcL (-1) 0 b) (k + ((maxL (badA b) a).map evRm).length) (T1 a b) (bring_ok u1 hb)
  show runM _ (T1 a b) _ = _
  rw [runM_app _ _ _ _ _ s2]
  have s3 := run_rm (maxL (badB b) (T2 a b)) (k + ((maxL (badA b) a).map evRm).length + (evsBring (T1 a b) (plcL (-1) 0 b)).length) (T2 a b) r4
  rw [r3] at s3
  show runM _ (T2 a b) _ = _
  rw [runM_app _ _ _ _ _ s3]
  have u3 : Unlike (cutL (badB b) (T2 a b)) := cut_unlike _ hD.un
  have hsub : ∀ y ∈ toTell (T3 a b) b, y ∈ itemL b := fun y hy => (List.mem_filter.mp hy).1
  have hnd : ((toTell (T3 a b) b).map It.node).Nodup := by
    have h1 := hb
    unfold Unlike at h1
    rw [nodesL_items] at h1
    exact (List.Sublist.map It.node (List.filter_sublist (l := itemL b))).nodup h1
  have hall : ∀ y ∈ itemL b, y ∉ toTell (T3 a b) b → ∀ x ∈ itemL (cutL (fun x => !keepB b x.node) (T2 a b)), x.node = y.node → x.says = y.says := fun y hy hno x hx e => by
    have h1 : saysAt (T3 a b) y.node = some y.says := by
      apply Classical.byContradiction
      intro hne
      exact hno (List.mem_filter.mpr ⟨hy, by simpa using hne⟩)
    unfold saysAt at h1
    rcases find_item (T := T3 a b) (n := y.node) with ⟨z, hf, hz, ez⟩ | ⟨hf, hno2⟩
    · rw [hf] at h1
      have : z = x := unlike_one u3 hz hx (by rw [ez, e])
      rw [this] at h1
      simpa using h1
    · rw [hf] at h1
      simp at h1
  have e9 := turned hb hD hnd hsub hall
  -- each that is told is there
  have hin : ∀ y ∈ toTell (T3 a b) b, y.node ∈ nodesL (cutL (badB b) (T2 a b)) := fun y hy => by
    have h2 : b = tellAll (cutL (badB b) (T2 a b)) (toTell (T3 a b) b) := e9.symm
    have h3 := node_inL (hsub y hy)
    have key : ∀ (ys T : List It), nodesL (tellAll T ys) = nodesL T := fun ys => by
      induction ys with
      | nil => intro T; rfl
      | cons z ys ih => intro T; exact (ih _).trans (tel_nodes (with_node _ _) T)
    have h4 : nodesL b = nodesL (cutL (badB b) (T2 a b)) := by
      conv => lhs; rw [h2]
      exact key _ _
    rw [← h4]
    exact h3
  rw [run_tell _ _ _ hin]
  exact congrArg Except.ok e9
/-- IT COMES TO BE THE OTHER ONE -/
theorem run_of {a b : List It} (ha : Unlike a) (hb : Unlike b) : runM 0 a (ofM a b) = .ok b := by
  unfold ofM
  split
  · split
    · rfl
    · exact run_evs ha hb 0
  · exact run_evs ha hb 0
end Go.Proofs.Ytgpckmolcdafcae

/-
  PLAIN MATHEMATICS of events: few of them, where little is otherwise: none of a forest and itself, one where one is told otherwise, one where one goes.
-/
namespace Go.Proofs.Ytgpckmolcdafcae

theorem own_place {b : List It} (hb : Unlike b) : ∀ e ∈ plcL (-1) 0 b, (kidsAt b e.2.1)[e.2.2]? = some e.1.node := fun e he => by
  rcases plc_where.2 b (-1) 0 e he with ⟨g1, _, g3⟩ | ⟨z, hz, g1, g3⟩
  · rw [g1, kids_top]
    unfold topN
    rw [List.getElem?_map, show e.2.2 = e.2.2 - 0 from rfl, g3]
    rfl
  · rw [g1, kids_item hb hz]
    unfold topN
    rw [List.getElem?_map, g3]
    rfl
/-- the same stands in the same -/
structure Shape (T b : List It) : Prop where
  nodes : nodesL T = nodesL b
  kids : ∀ p, kidsAt T p = kidsAt b p
theorem stay_all : ∀ (D : List Plc) (T : List It), (∀ e ∈ D, (kidsAt T e.2.1)[e.2.2]? = some e.1.node) → evsBring T D = [] ∧ bringAll T D = T
  | [], _, _ => ⟨rfl, rfl⟩
  | e :: D, T, h => by
    have h1 := h e (by simp)
    have hb : evBring T e.1 e.2.1 e.2.2 = [] ∧ bring T e.1 e.2.1 e.2.2 = T := by
      unfold evBring bring
      rcases find_item (T := T) (n := e.1.node) with ⟨x, hf, _, _⟩ | ⟨_, hno⟩
      · rw [hf]
        simp only
        rw [if_pos h1, if_pos h1]
        exact ⟨rfl, rfl⟩
      · exact absurd (kids_in (List.mem_of_getElem? h1)) hno
    obtain ⟨i1, i2⟩ := stay_all D T (fun e he => h e (by simp [he]))
    rw [evsBring, hb.1, hb.2]
    refine ⟨i1, ?_⟩
    show bringAll (bring T e.1 e.2.1 e.2.2) D = T
    rw [hb.2]
    exact i2
theorem max_none (bad : It → Bool) : (∀ x, (∀ z ∈ item1 x, bad z = false) → max1 bad x = [] ∧ cut1 bad x = x) ∧ ∀ l, (∀ z ∈ itemL l, bad z = false) → maxL bad l = [] ∧ cutL bad l = l := by
  refine It.ind (fun x h hb => ?_) (fun _ => ⟨rfl, rfl⟩) (fun x xs h1 h2 hb => ?_)
  · obtain ⟨g1, g2⟩ := h (fun z hz => hb z (mem_item1.mpr (Or.inr hz)))
    have h0 := hb x (mem_item1.mpr (Or.inl rfl))
    rw [max1_eq, cut1_eq, g2, with_self]
    exact ⟨by rw [if_neg (by simp [h0])]; exact g1, rfl⟩
  · obtain ⟨a1, a2⟩ := h1 (fun z hz => hb z (by rw [itemL, List.mem_append]; exact Or.inl hz))
    obtain ⟨b1, b2⟩ := h2 (fun z hz => hb z (by rw [itemL, List.mem_append]; exact Or.inr hz))
    have h0 := hb x (by rw [itemL, List.mem_append]; exact Or.inl (mem_item1.mpr (Or.inl rfl)))
    rw [maxL, cutL, a1, b1, if_neg (by simp [h0]), a2, b2]
    exact ⟨rfl, rfl⟩
theorem keep_in {b : List It} {n : Nat} : keepB b n = true ↔ n ∈ nodesL b := by unfold keepB; rw [List.contains_eq_mem, decide_eq_true_eq]
/-- where the same stands in the same, only what is told is otherwise -/
theorem evs_shape {T b : List It} (hT : Unlike T) (h : Shape T b) : evsM T b = (toTell T b).map evTell := by
  have hb : Unlike b := by
    unfold Unlike at *
    rw [← h.nodes]
    exact hT
  have all : ∀ z ∈ itemL T, keepB b z.node = true := fun z hz => keep_in.mpr (h.nodes ▸ node_inL hz)
  have hA := (max_none (badA b)).2 T (fun z hz => by
    unfold badA
    rw [Bool.not_eq_false', List.any_eq_true]
    exact ⟨z.node, by rw [nodes1_eq]; simp, all z hz⟩)
  have hB := (max_none (badB b)).2 T (fun z hz => by
    unfold badB
    rw [all z hz]
    rfl)
  have e1 : T1 T b = T := hA.2
  obtain ⟨s1, s2⟩ := stay_all (plcL (-1) 0 b) T (fun e he => by rw [h.kids]; exact own_place hb e he)
  have e2 : T2 T b = T := by unfold T2; rw [e1]; exact s2
  have e3 : T3 T b = T := by unfold T3; rw [e2]; exact hB.2
  unfold evsM
  rw [hA.1, e1, s1, e2, hB.1, e3]
  rfl
theorem says_at {T : List It} (h : Unlike T) {x : It} (hx : x ∈ itemL T) : saysAt T x.node = some x.says := by
  unfold saysAt
  rcases find_item (T := T) (n := x.node) with ⟨z, hf, hz, ez⟩ | ⟨_, hno⟩
  · rw [hf, unlike_one h hz hx ez]
    rfl
  · exact absurd (node_inL hx) hno
/-- of one, and itself, there are none -/
theorem evs_self {a : List It} (h : Unlike a) : evsM a a = [] := by
  rw [evs_shape h ⟨rfl, fun _ => rfl⟩]
  unfold toTell
  rw [List.filter_eq_nil_iff.mpr (fun y hy => by
    rw [says_at h hy]
    simp)]
  rfl
theorem of_few {a b : List It} (ha : a ≠ []) (hl : (evsM a b).length ≤ 20) : ofM a b = evsM a b := by
  unfold ofM
  split
  · rw [if_neg]
    rintro (h | h)
    · cases a with
      | nil => exact ha rfl
      | cons => simp at h
    · omega
  · rfl
theorem of_self {a : List It} (h : Unlike a) (hl : a ≠ []) : ofM a a = [] := by
  rw [of_few hl (by rw [evs_self h]; exact Nat.zero_le _), evs_self h]
/-! ### one is told otherwise -/
/-! ### one goes -/
end Go.Proofs.Ytgpckmolcdafcae

/-
  PLAIN MATHEMATICS of stands: a forest as spots that have numbers; what an event does to them.
-/
namespace Go.Proofs.Ytgpckmolcdafcae

/-- a spot: its item (without what is in it), what it is in, what is in it -/
structure Sp where
  it : It
  up : Int
  kids : List Nat
abbrev Nm := Nat → Option Nat
def ixOf (nm : Nm) (n : Nat) : Nat := (nm n).getD 0
def ixP (nm : Nm) (p : Int) : Nat := if p < 0 then 0 else ixOf nm p.toNat
theorem ixP_nat (nm : Nm) (n : Nat) : ixP nm (n : Int) = ixOf nm n := by unfold ixP; rw [if_neg (by omega)]; simp
theorem ixP_top (nm : Nm) : ixP nm (-1) = 0 := by unfold ixP; rw [if_pos (by omega)]

/-- the spots and numbers of a forest -/
structure Rp (ar : List Sp) (nm : Nm) (T : List It) : Prop where
  un : Unlike T
  inn : ∀ n ∈ nodesL T, nm n = some (ixOf nm n) ∧ 0 < ixOf nm n ∧ ixOf nm n < ar.length
  out : ∀ n, n ∉ nodesL T → nm n = none
  inj : ∀ n ∈ nodesL T, ∀ m ∈ nodesL T, ixOf nm n = ixOf nm m → n = m
  root : ar[0]? = some ⟨item0, -1, (kidsAt T (-1)).map (ixOf nm)⟩
  spot : ∀ x ∈ itemL T, ∀ p, Place T p → x.node ∈ kidsAt T p → ar[ixOf nm x.node]? = some ⟨x.with [], (ixP nm p : Int), (kidsAt T (x.node : Int)).map (ixOf nm)⟩

def setUp (u : Int) (s : Sp) : Sp := { s with up := u }
def onKids (f : List Nat → List Nat) (s : Sp) : Sp := { s with kids := f s.kids }
def enterA (ar : List Sp) (k up i : Nat) : List Sp := (ar.modify k (setUp (up : Int))).modify up (onKids (fun l => l.insertIdx i k))
def leaveA (ar : List Sp) (k u : Nat) : List Sp := ar.modify u (onKids (fun l => l.filter (fun j => !(j == k))))
def updN (nm : Nm) (n : Nat) (v : Option Nat) : Nm := fun m => if m = n then v else nm m
def lessN (nm : Nm) (ns : List Nat) : Nm := fun m => if ns.contains m then none else nm m
theorem mod_eq {α : Type} {l : List α} {k : Nat} {a : α} (h : l[k]? = some a) (f : α → α) : l.modify k f = l.set k (f a) := by
  apply List.ext_getElem?
  intro j
  rw [List.getElem?_modify, List.getElem?_set]
  by_cases e : k = j
  · subst e
    obtain ⟨h1, h2⟩ := List.getElem?_eq_some_iff.mp h
    simp [h1, h2]
  · simp [e]
theorem at_mod {α : Type} {l : List α} {k j : Nat} {a : α} (f : α → α) (h : l[j]? = some a) : (l.modify k f)[j]? = some (if k = j then f a else a) := by
  rw [List.getElem?_modify, h]
  by_cases e : k = j <;> simp [e]
theorem enter_at {ar : List Sp} {k up i j : Nat} {s : Sp} (h : ar[j]? = some s) : (enterA ar k up i)[j]? = some ⟨s.it, if k = j then (up : Int) else s.up, if up = j then s.kids.insertIdx i k else s.kids⟩ := by
  unfold enterA
  rw [at_mod _ (at_mod _ h)]
  by_cases e1 : k = j <;> by_cases e2 : up = j <;> simp [e1, e2, setUp, onKids]
theorem leave_at {ar : List Sp} {k u j : Nat} {s : Sp} (h : ar[j]? = some s) : (leaveA ar k u)[j]? = some ⟨s.it, s.up, if u = j then s.kids.filter (fun j => !(j == k)) else s.kids⟩ := by
  unfold leaveA
  rw [at_mod _ h]
  by_cases e : u = j <;> simp [e, onKids]
theorem enter_len (ar : List Sp) (k up i : Nat) : (enterA ar k up i).length = ar.length := by unfold enterA; simp
theorem leave_len (ar : List Sp) (k u : Nat) : (leaveA ar k u).length = ar.length := by unfold leaveA; simp

theorem Rp.empty : Rp [⟨item0, -1, []⟩] (fun _ => none) [] :=
  ⟨List.nodup_nil, fun n hn => by simp [nodesL] at hn, fun _ _ => rfl, fun n hn => by simp [nodesL] at hn, rfl, fun x hx => by simp [itemL] at hx⟩
theorem with_same {x y : It} (h1 : x.node = y.node) (h2 : x.says = y.says) (ks : List It) : x.with ks = y.with ks := by
  refine It.same ?_ ?_ ?_
  · rw [with_node, with_node, h1]
  · rw [with_says, with_says, h2]
  · rw [with_kids, with_kids]
theorem Rp.place {ar : List Sp} {nm : Nm} {T : List It} (h : Rp ar nm T) {p : Int} (hp : Place T p) : ∃ s, ar[ixP nm p]? = some s ∧ s.kids = (kidsAt T p).map (ixOf nm) ∧ (p = -1 ∨ 0 < ixP nm p) := by
  rcases hp with rfl | ⟨x, hx, rfl⟩
  · exact ⟨_, by rw [ixP_top]; exact h.root, rfl, Or.inl rfl⟩
  · obtain ⟨q, hq, hk⟩ := in_place h.un (node_inL hx)
    exact ⟨_, by rw [ixP_nat]; exact h.spot x hx q hq hk, rfl, Or.inr (by rw [ixP_nat]; exact (h.inn _ (node_inL hx)).2.1)⟩
theorem Rp.lt {ar : List Sp} {nm : Nm} {T : List It} (h : Rp ar nm T) {p : Int} (hp : Place T p) : ixP nm p < ar.length := by
  obtain ⟨s, h1, _⟩ := h.place hp
  exact (List.getElem?_eq_some_iff.mp h1).1
theorem Rp.pinj {ar : List Sp} {nm : Nm} {T : List It} (h : Rp ar nm T) {p q : Int} (hp : Place T p) (hq : Place T q) (e : ixP nm p = ixP nm q) : p = q := by
  rcases hp with rfl | ⟨x, hx, rfl⟩ <;> rcases hq with rfl | ⟨y, hy, rfl⟩
  · rfl
  · rw [ixP_top, ixP_nat] at e
    have := (h.inn _ (node_inL hy)).2.1
    omega
  · rw [ixP_top, ixP_nat] at e
    have := (h.inn _ (node_inL hx)).2.1
    omega
  · rw [ixP_nat, ixP_nat] at e
    rw [h.inj _ (node_inL hx) _ (node_inL hy) e]
theorem place_mem {T : List It} {n : Nat} (h : n ∈ nodesL T) : Place T (n : Int) := by
  obtain ⟨y, hy, e⟩ := in_node h
  exact Or.inr ⟨y, hy, by rw [e]⟩
theorem place_of {T T' : List It} (h : ∀ n ∈ nodesL T, n ∈ nodesL T') {p : Int} (hp : Place T p) : Place T' p := by
  rcases hp with rfl | ⟨x, hx, rfl⟩
  · exact Or.inl rfl
  · exact place_mem (h _ (node_inL hx))
/-! ### put -/
theorem updN_same (nm : Nm) (n : Nat) (v : Option Nat) : updN nm n v n = v := by simp [updN]
theorem updN_other {nm : Nm} {n m : Nat} {v : Option Nat} (h : m ≠ n) : updN nm n v m = nm m := by simp [updN, h]
theorem ix_upd_same (nm : Nm) (n k : Nat) : ixOf (updN nm n (some k)) n = k := by simp [ixOf, updN]
theorem ix_upd_other {nm : Nm} {n m : Nat} {v : Option Nat} (h : m ≠ n) : ixOf (updN nm n v) m = ixOf nm m := by unfold ixOf; rw [updN_other h]
theorem map_ix {nm : Nm} {n k : Nat} {l : List Nat} (h : n ∉ l) : l.map (ixOf (updN nm n (some k))) = l.map (ixOf nm) := List.map_congr_left (fun _ hm => ix_upd_other (fun e => h (e ▸ hm)))
theorem ixP_upd {nm : Nm} {n k : Nat} {p : Int} (h : p ≠ (n : Int)) : ixP (updN nm n (some k)) p = ixP nm p := by
  unfold ixP
  split
  · rfl
  · rename_i h0
    exact ix_upd_other (fun e => h (by omega))

theorem Rp.put {ar : List Sp} {nm : Nm} {T : List It} (h : Rp ar nm T) {p : Int} {i : Nat} {y : It} (hF : Fits T p i (y.with [])) :
    Rp (enterA (ar ++ [⟨y.with [], 0, []⟩]) ar.length (ixP nm p) i) (updN nm y.node (some ar.length)) (insP p i (y.with []) T) := by
  have hyT : y.node ∉ nodesL T := hF.apart _ (by rw [nodes1_eq, with_node]; simp)
  have hmem : ∀ k, k ∈ nodesL (insP p i (y.with []) T) ↔ k ∈ nodesL T ∨ k = y.node := fun k => by
    rw [ins_mem hF, nodes1_eq, with_node, with_kids]; simp [nodesL]
  have hU := ins_unlike hF
  have hk1 : ∀ q, Place T q → kidsAt (insP p i (y.with []) T) q = if q = p then (kidsAt T p).insertIdx i y.node else kidsAt T q := fun q hq => by rw [ins_kids_at hF hq, with_node]
  have hky : kidsAt (insP p i (y.with []) T) (y.node : Int) = [] := by
    have := ins_kids_new hF (z := y.with []) (mem_item1.mpr (Or.inl rfl))
    rw [with_node, with_kids] at this
    exact this
  have old : ∀ {j : Nat} {s : Sp}, ar[j]? = some s → (ar ++ [⟨y.with [], 0, []⟩])[j]? = some s := fun {j s} hj => by
    rw [List.getElem?_append_left (List.getElem?_eq_some_iff.mp hj).1]
    exact hj
  have new : (ar ++ [(⟨y.with [], 0, []⟩ : Sp)])[ar.length]? = some ⟨y.with [], 0, []⟩ := by simp
  have hpl := hF.place
  have hplt := h.lt hpl
  have hpy : p ≠ (y.node : Int) := fun e => by
    rcases hpl with e2 | ⟨x, hx, e2⟩
    · omega
    · exact hyT (by have : x.node = y.node := by omega
                    rw [← this]; exact node_inL hx)
  -- what is in a place of T, as spots
  have kids : ∀ q, Place T q → (kidsAt (insP p i (y.with []) T) q).map (ixOf (updN nm y.node (some ar.length))) = if q = p then ((kidsAt T q).map (ixOf nm)).insertIdx i ar.length else (kidsAt T q).map (ixOf nm) := fun q hq => by
    have hno : ∀ r, y.node ∉ kidsAt T r := fun r hr => hyT (kids_in hr)
    rw [hk1 q hq]
    by_cases e : q = p
    · rw [if_pos e, if_pos e, map_insert, ix_upd_same, map_ix (hno _), e]
    · rw [if_neg e, if_neg e, map_ix (hno _)]
  refine ⟨hU, fun n hn => ?_, fun n hn => ?_, fun n hn m hm e => ?_, ?_, fun x hx q hq hxq => ?_⟩
  · rw [enter_len, List.length_append, List.length_singleton]
    by_cases e : n = y.node
    · subst e
      rw [ix_upd_same, updN_same]
      exact ⟨rfl, by have := (List.getElem?_eq_some_iff.mp h.root).1; omega, by omega⟩
    · rw [ix_upd_other e, updN_other e]
      have hn2 : n ∈ nodesL T := ((hmem n).mp hn).resolve_right e
      obtain ⟨h1, h2, h3⟩ := h.inn n hn2
      exact ⟨h1, h2, by omega⟩
  · rw [hmem] at hn
    rw [updN_other (fun e => hn (Or.inr e))]
    exact h.out n (fun h1 => hn (Or.inl h1))
  · by_cases e1 : n = y.node <;> by_cases e2 : m = y.node
    · rw [e1, e2]
    · have hm2 : m ∈ nodesL T := ((hmem m).mp hm).resolve_right e2
      rw [e1, ix_upd_same, ix_upd_other e2] at e
      have := (h.inn m hm2).2.2
      omega
    · have hn2 : n ∈ nodesL T := ((hmem n).mp hn).resolve_right e1
      rw [e2, ix_upd_same, ix_upd_other e1] at e
      have := (h.inn n hn2).2.2
      omega
    · rw [ix_upd_other e1, ix_upd_other e2] at e
      exact h.inj n (((hmem n).mp hn).resolve_right e1) m (((hmem m).mp hm).resolve_right e2) e
  · rw [enter_at (old h.root), kids (-1) (Or.inl rfl)]
    have h0 := (List.getElem?_eq_some_iff.mp h.root).1
    have e1 : ¬ ar.length = 0 := by omega
    rw [if_neg e1]
    by_cases e : (-1 : Int) = p
    · rw [if_pos e, if_pos (by rw [← e]; exact ixP_top nm)]
    · rw [if_neg e, if_neg (fun e2 => e (h.pinj (Or.inl rfl) hpl (by rw [ixP_top, e2])))]
  · by_cases en : x.node = y.node
    · have ex : x = y.with [] := unlike_one hU hx (ins_new hF (mem_item1.mpr (Or.inl rfl))) (by rw [with_node, en])
      have hyp : y.node ∈ kidsAt (insP p i (y.with []) T) p := by
        rw [hk1 p hpl, if_pos rfl, mem_insert _ _ _ _ hF.le]
        exact Or.inl rfl
      have hqp : q = p := kids_one hU hq (place_of (fun n hn => (hmem n).mpr (Or.inl hn)) hpl) hxq (by rw [en]; exact hyp)
      subst hqp
      rw [en, ix_upd_same, enter_at new, hky, ixP_upd hpy, if_pos rfl, if_neg (by omega), ex, with_with]
      rfl
    · have hxT : x.node ∈ nodesL T := ((hmem _).mp (node_inL hx)).resolve_right en
      obtain ⟨z, hz, ez⟩ := in_node hxT
      obtain ⟨w, hw, w1, w2, w3⟩ := ins_old hF hz
      have ewx : w = x := unlike_one hU hw hx (by rw [w1, ez])
      subst ewx
      have hqy : q ≠ (y.node : Int) := fun e => by rw [e, hky] at hxq; simp at hxq
      have hqT : Place T q := by
        rcases hq with e | ⟨v, hv, e⟩
        · exact Or.inl e
        · rw [e]
          exact place_mem (((hmem _).mp (node_inL hv)).resolve_right (fun e2 => hqy (by rw [e, e2])))
      have hxq2 : z.node ∈ kidsAt T q := by
        rw [hk1 q hqT, ← ez] at hxq
        by_cases e : q = p
        · rw [if_pos e, mem_insert _ _ _ _ hF.le] at hxq
          rw [e]
          exact hxq.resolve_left (by rw [ez]; exact en)
        · rw [if_neg e] at hxq
          exact hxq
      have hs := h.spot z hz q hqT hxq2
      have hlt := (List.getElem?_eq_some_iff.mp hs).1
      have ek : kidsAt (insP p i (y.with []) T) (w.node : Int) = if (w.node : Int) = p then (kidsAt T p).insertIdx i y.node else kidsAt T (w.node : Int) := hk1 _ (place_mem hxT)
      rw [ez] at hs hlt
      rw [ix_upd_other en, enter_at (old hs), if_neg (by omega), ixP_upd hqy, kids _ (place_mem hxT)]
      have e3 : z.with [] = w.with [] := with_same (by rw [ez]) w2.symm []
      rw [e3]
      by_cases e : (w.node : Int) = p
      · rw [if_pos e, if_pos (by rw [← e, ixP_nat])]
      · rw [if_neg e, if_neg (fun e2 => e ((h.pinj hpl (place_mem hxT) (by rw [ixP_nat]; exact e2)).symm))]
end Go.Proofs.Ytgpckmolcdafcae
