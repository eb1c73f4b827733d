/-
  OWN WORK: Hmb, Had, Vca, Nfr, Tit, Xia, Oas, Nst, Xib, Xid, Xie, Hsp.
-/
import Derived.Test.YtgpckmolcdafcaeP1
import Derived.Test.YtgpckmolcdafcaeP0
import Derived.Maps.OwnOps
import Derived.Maps.Views
import Derived.Test.YtgpckmolcdafcaeProg
import Derived.Test.YtgpckmolcdafcaeRows
import Derived.Maps.OwnSet
import Derived.Deep.AppendLies
import Derived.Deep.Strs
/-
  PLAIN MATHEMATICS of stands: what goes, what is moved, what is told otherwise.
-/
namespace Go.Proofs.Ytgpckmolcdafcae

theorem filter_not {l : List Nat} {n : Nat} (h : n ∉ l) : l.filter (fun k => decide (k ≠ n)) = l := by
  rw [List.filter_eq_self]
  intro a ha
  simp only [ne_eq, decide_not, Bool.not_eq_eq_eq_not, Bool.not_true, decide_eq_false_iff_not]
  intro e
  exact h (e ▸ ha)
theorem Rp.filt {ar : List Sp} {nm : Nm} {T : List It} (h : Rp ar nm T) {n : Nat} (hn : n ∈ nodesL T) : ∀ l : List Nat, (∀ k ∈ l, k ∈ nodesL T) → (l.map (ixOf nm)).filter (fun j => !(j == ixOf nm n)) = (l.filter (fun k => decide (k ≠ n))).map (ixOf nm)
  | [], _ => rfl
  | a :: l, hl => by
    have ih := h.filt hn l (fun k hk => hl k (by simp [hk]))
    rw [List.map_cons, List.filter_cons, List.filter_cons, ih]
    by_cases e : a = n
    · subst e
      simp
    · have e2 : ixOf nm a ≠ ixOf nm n := fun x => e (h.inj a (hl a (by simp)) n hn x)
      simp [e, e2]

/-- a spot, and all below it, as an item reads -/
def Subs (ar : List Sp) (ix : Nat → Nat) (x : It) : Prop := ∀ z ∈ item1 x, ∃ u, ar[ix z.node]? = some ⟨z.with [], u, (topN z.kids).map ix⟩
theorem Rp.sub {ar : List Sp} {nm : Nm} {T : List It} (h : Rp ar nm T) {x : It} (hx : x ∈ itemL T) : Subs ar (ixOf nm) x := fun z hz => by
  have hzT : z ∈ itemL T := by
    rcases mem_item1.mp hz with rfl | hz
    · exact hx
    · exact item_kids.2 T x hx z hz
  obtain ⟨q, hq, hk⟩ := in_place h.un (node_inL hzT)
  exact ⟨_, by rw [h.spot z hzT q hq hk, kids_item h.un hzT]⟩
theorem Subs.kid {ar : List Sp} {ix : Nat → Nat} {x y : It} (h : Subs ar ix x) (hy : y ∈ x.kids) : Subs ar ix y := fun z hz => h z (mem_item1.mpr (Or.inr (mem_itemL.mpr ⟨y, hy, hz⟩)))
theorem Subs.head {ar : List Sp} {ix : Nat → Nat} {x : It} (h : Subs ar ix x) : ∃ u, ar[ix x.node]? = some ⟨x.with [], u, (topN x.kids).map ix⟩ := h x (mem_item1.mpr (Or.inl rfl))

/-- what it is in is not in it -/
theorem up_out {T : List It} (h : Unlike T) {x : It} (hx : x ∈ itemL T) {p : Int} (hk : x.node ∈ kidsAt T p) : ∀ k : Nat, p = (k : Int) → k ∉ nodes1 x := fun k e hm => by
  subst e
  have hmT : k ∈ nodesL T := by
    rw [nodes1_eq] at hm
    rcases List.mem_cons.mp hm with e | hm
    · rw [e]; exact node_inL hx
    · obtain ⟨v, hv, ev⟩ := in_node hm
      rw [← ev]
      exact node_inL (item_kids.2 T x hx v hv)
  obtain ⟨y, hy, ey⟩ := in_node hmT
  subst ey
  have hy1 : y ∈ item1 x := by
    rw [nodes1_items] at hm
    obtain ⟨v, hv, ev⟩ := List.mem_map.mp hm
    have hvT : v ∈ itemL T := by
      rcases mem_item1.mp hv with rfl | hv
      · exact hx
      · exact item_kids.2 T x hx v hv
    rw [← unlike_one h hvT hy ev]
    exact hv
  rw [kids_item h hy] at hk
  have h1 := sub_nodup h hx
  rw [nodes1_eq, List.nodup_cons] at h1
  -- x's node would be below itself
  obtain ⟨v, hv, ev⟩ := List.mem_map.mp hk
  have hv1 : v ∈ itemL x.kids := by
    rcases mem_item1.mp hy1 with rfl | hy1
    · exact top_item hv
    · exact kid_item hy1 hv
  exact h1.1 (by rw [← ev]; exact node_inL hv1)

/-! ### remove -/
theorem lessN_in {nm : Nm} {ns : List Nat} {n : Nat} (h : n ∈ ns) : lessN nm ns n = none := by simp [lessN, h]
theorem lessN_out {nm : Nm} {ns : List Nat} {n : Nat} (h : n ∉ ns) : lessN nm ns n = nm n := by simp [lessN, h]
theorem ix_less {nm : Nm} {ns : List Nat} {n : Nat} (h : n ∉ ns) : ixOf (lessN nm ns) n = ixOf nm n := by unfold ixOf; rw [lessN_out h]
theorem Rp.remove {ar : List Sp} {nm : Nm} {T : List It} (h : Rp ar nm T) {x : It} (hx : x ∈ itemL T) {p : Int} (hp : Place T p) (hk : x.node ∈ kidsAt T p) :
    Rp (leaveA ar (ixOf nm x.node) (ixP nm p)) (lessN nm (nodes1 x)) (rmL x.node T) := by
  have hnT := node_inL hx
  have hund : ∀ k, k ∈ undN x.node T ↔ k ∈ nodes1 x := und_item h.un hx
  have hU : Unlike (rmL x.node T) := rm_unlike h.un
  have hmem : ∀ k, k ∈ nodesL (rmL x.node T) ↔ k ∈ nodesL T ∧ k ∉ nodes1 x := fun k => by
    constructor
    · intro hm
      exact ⟨(rm_less hm).1, fun hk => rm_und h.un ((hund k).mpr hk) hm⟩
    · rintro ⟨h1, h2⟩
      exact rm_nodes h1 (fun hk => h2 ((hund k).mp hk))
  have hpl : ∀ q, Place (rmL x.node T) q → Place T q ∧ (q = -1 ∨ ∃ r : Nat, q = (r : Int) ∧ r ∉ nodes1 x) := fun q hq => by
    rcases hq with e | ⟨v, hv, e⟩
    · exact ⟨Or.inl e, Or.inl e⟩
    · have := (hmem _).mp (node_inL hv)
      exact ⟨by rw [e]; exact place_mem this.1, Or.inr ⟨_, e, this.2⟩⟩
  have hka : ∀ q, Place (rmL x.node T) q → kidsAt (rmL x.node T) q = (kidsAt T q).filter (fun k => decide (k ≠ x.node)) := fun q hq => rm_kids_at h.un (by
    rcases (hpl q hq).2 with e | ⟨r, e, hr⟩
    · exact Or.inl e
    · exact Or.inr ⟨r, e, fun hm => hr ((hund r).mp hm)⟩)
  have hin : ∀ q, ∀ k ∈ kidsAt T q, k ∈ nodesL T := fun q k hk => kids_in hk
  have hixk : ∀ q, Place (rmL x.node T) q → (kidsAt (rmL x.node T) q).map (ixOf (lessN nm (nodes1 x))) = (kidsAt (rmL x.node T) q).map (ixOf nm) := fun q _ => List.map_congr_left (fun k hk => ix_less ((hmem k).mp (kids_in hk)).2)
  have hixp : ∀ q, Place (rmL x.node T) q → ixP (lessN nm (nodes1 x)) q = ixP nm q := fun q hq => by
    rcases (hpl q hq).2 with rfl | ⟨r, rfl, hr⟩
    · rw [ixP_top, ixP_top]
    · rw [ixP_nat, ixP_nat, ix_less hr]
  -- a place's kids, as spots
  have hks : ∀ q, Place (rmL x.node T) q → (if ixP nm p = ixP nm q then ((kidsAt T q).map (ixOf nm)).filter (fun j => !(j == ixOf nm x.node)) else (kidsAt T q).map (ixOf nm)) = (kidsAt (rmL x.node T) q).map (ixOf (lessN nm (nodes1 x))) := fun q hq => by
    rw [hixk q hq, hka q hq]
    by_cases e : ixP nm p = ixP nm q
    · rw [if_pos e, h.filt hnT _ (hin q)]
    · rw [if_neg e, filter_not (fun hm => e (by rw [kids_one h.un hp (hpl q hq).1 hk hm]))]
  refine ⟨hU, fun n hn => ?_, fun n hn => ?_, fun n hn m hm e => ?_, ?_, fun z hz q hq hzq => ?_⟩
  · obtain ⟨h1, h2⟩ := (hmem n).mp hn
    rw [leave_len, ix_less h2, lessN_out h2]
    exact h.inn n h1
  · by_cases h2 : n ∈ nodes1 x
    · exact lessN_in h2
    · rw [lessN_out h2]
      exact h.out n (fun h1 => hn ((hmem n).mpr ⟨h1, h2⟩))
  · obtain ⟨h1, h2⟩ := (hmem n).mp hn
    obtain ⟨h3, h4⟩ := (hmem m).mp hm
    rw [ix_less h2, ix_less h4] at e
    exact h.inj n h1 m h3 e
  · rw [leave_at h.root, ← hks (-1) (Or.inl rfl), ixP_top]
  · obtain ⟨w, hw, ezw, hwn⟩ := (rm_was x.node).2 T z hz
    have en : z.node = w.node := by rw [ezw, rm1_node]
    obtain ⟨h1, h2⟩ := (hmem _).mp (node_inL hz)
    rw [hka q hq, List.mem_filter] at hzq
    have hs := h.spot w hw q (hpl q hq).1 (by rw [← en]; exact hzq.1)
    rw [ix_less h2, en, leave_at hs, hixp q hq, ← hks _ (by rw [← en]; exact place_mem (node_inL hz)), ixP_nat]
    rw [with_same (x := z) (y := w) en (by rw [ezw, rm1_says])]

/-! ### move -/
theorem mov_says {T : List It} {x : It} {p : Int} {i : Nat} (h : Moves T x p i) {z : It} (hz : z ∈ itemL (movP x p i T)) : ∃ w ∈ itemL T, w.node = z.node ∧ w.says = z.says := by
  have hF := h.fits
  have hU := mov_unlike h
  have h1 : z.node ∈ nodesL (movP x p i T) := node_inL hz
  unfold movP at h1 hz hU
  rw [ins_mem hF] at h1
  rcases h1 with h1 | h1
  · obtain ⟨v, hv, ev⟩ := in_node h1
    obtain ⟨w, hw, w1, w2, _⟩ := ins_old hF hv
    have e : w = z := unlike_one hU hw hz (by rw [w1, ev])
    obtain ⟨y, hy, ey, _⟩ := (rm_was x.node).2 T v hv
    refine ⟨y, hy, ?_, ?_⟩
    · rw [← ev, ey, rm1_node]
    · rw [← e, w2, ey, rm1_says]
  · rw [nodes1_items] at h1
    obtain ⟨v, hv, ev⟩ := List.mem_map.mp h1
    have e : v = z := unlike_one hU (ins_new hF hv) hz ev
    refine ⟨v, ?_, ev, by rw [e]⟩
    rcases mem_item1.mp hv with e2 | hv2
    · rw [e2]; exact h.there
    · exact item_kids.2 T x h.there v hv2
theorem Rp.move {ar : List Sp} {nm : Nm} {T : List It} (h : Rp ar nm T) {x : It} {p : Int} {i : Nat} (hM : Moves T x p i) {p0 : Int} (hp0 : Place T p0) (hk0 : x.node ∈ kidsAt T p0) :
    Rp (enterA (leaveA ar (ixOf nm x.node) (ixP nm p0)) (ixOf nm x.node) (ixP nm p) i) nm (movP x p i T) := by
  have hx := hM.there
  have hnT := node_inL hx
  have hU := mov_unlike hM
  have hmem : ∀ k, k ∈ nodesL (movP x p i T) ↔ k ∈ nodesL T := mov_mem hM
  have hp : Place T p := by
    rcases hM.place with e | ⟨q, e, hq, _⟩
    · exact Or.inl e
    · rw [e]; exact place_mem hq
  have hpl : ∀ q, Place (movP x p i T) q → Place T q := fun q hq => place_of (fun n hn => (hmem n).mp hn) hq
  have hka : ∀ q, Place T q → kidsAt (movP x p i T) q = if q = p then ((kidsAt T p).filter (fun k => decide (k ≠ x.node))).insertIdx i x.node else (kidsAt T q).filter (fun k => decide (k ≠ x.node)) := fun q hq => mov_kids hM hq
  have hin : ∀ q, ∀ k ∈ kidsAt T q, k ∈ nodesL T := fun q k hk => kids_in hk
  have hks : ∀ q, Place T q → (if ixP nm p = ixP nm q then (if ixP nm p0 = ixP nm q then ((kidsAt T q).map (ixOf nm)).filter (fun j => !(j == ixOf nm x.node)) else (kidsAt T q).map (ixOf nm)).insertIdx i (ixOf nm x.node) else (if ixP nm p0 = ixP nm q then ((kidsAt T q).map (ixOf nm)).filter (fun j => !(j == ixOf nm x.node)) else (kidsAt T q).map (ixOf nm))) = (kidsAt (movP x p i T) q).map (ixOf nm) := fun q hq => by
    have e1 : (if ixP nm p0 = ixP nm q then ((kidsAt T q).map (ixOf nm)).filter (fun j => !(j == ixOf nm x.node)) else (kidsAt T q).map (ixOf nm)) = ((kidsAt T q).filter (fun k => decide (k ≠ x.node))).map (ixOf nm) := by
      by_cases e : ixP nm p0 = ixP nm q
      · rw [if_pos e, h.filt hnT _ (hin q)]
      · rw [if_neg e, filter_not (fun hm => e (by rw [kids_one h.un hp0 hq hk0 hm]))]
    rw [e1, hka q hq]
    by_cases e : q = p
    · rw [if_pos (by rw [e]), if_pos e, map_insert, e]
    · rw [if_neg (fun e2 => e (h.pinj hp hq e2).symm), if_neg e]
  refine ⟨hU, fun n hn => ?_, fun n hn => ?_, fun n hn m hm e => ?_, ?_, fun z hz q hq hzq => ?_⟩
  · rw [enter_len, leave_len]
    exact h.inn n ((hmem n).mp hn)
  · exact h.out n (fun h1 => hn ((hmem n).mpr h1))
  · exact h.inj n ((hmem n).mp hn) m ((hmem m).mp hm) e
  · have h1 := (h.inn _ hnT).2.1
    rw [enter_at (leave_at (k := ixOf nm x.node) (u := ixP nm p0) h.root)]
    simp only
    rw [if_neg (by omega)]
    have := hks (-1) (Or.inl rfl)
    rw [ixP_top] at this
    rw [← this]
  · obtain ⟨w, hw, w1, w2⟩ := mov_says hM hz
    have hzT : z.node ∈ nodesL T := (hmem _).mp (node_inL hz)
    have ez : z.with [] = w.with [] := with_same w1.symm w2.symm []
    have hk := hks _ (place_mem hzT)
    rw [ixP_nat] at hk
    by_cases en : z.node = x.node
    · have hxp : x.node ∈ kidsAt (movP x p i T) p := by
        rw [hka p hp, if_pos rfl, mem_insert _ _ _ _ hM.le]
        exact Or.inl rfl
      have hqp : q = p := kids_one hU hq (place_of (fun n hn => (hmem n).mpr hn) hp) hzq (by rw [en]; exact hxp)
      subst hqp
      have ewx : w = x := unlike_one h.un hw hx (by rw [w1, en])
      have hs := h.spot x hx p0 hp0 hk0
      rw [en, enter_at (leave_at (k := ixOf nm x.node) (u := ixP nm p0) hs)]
      simp only
      rw [if_pos trivial, ez, ewx]
      rw [en] at hk
      rw [hk]
    · have hzq2 : w.node ∈ kidsAt T q := by
        rw [hka q (hpl q hq), ← w1] at hzq
        by_cases e : q = p
        · rw [if_pos e, mem_insert _ _ _ _ hM.le] at hzq
          have := hzq.resolve_left (by rw [w1]; exact en)
          rw [e]
          exact (List.mem_filter.mp this).1
        · rw [if_neg e] at hzq
          exact (List.mem_filter.mp hzq).1
      have hs := h.spot w hw q (hpl q hq) hzq2
      have hne : ¬ ixOf nm x.node = ixOf nm z.node := fun e => en (h.inj _ hnT _ hzT e).symm
      rw [w1] at hs
      rw [enter_at (leave_at (k := ixOf nm x.node) (u := ixP nm p0) hs)]
      simp only
      rw [if_neg hne, ez, hk]

/-! ### tell -/
theorem tel_kids {n : Nat} {y : It} (hy : y.node = n) {T : List It} (h : Unlike T) (q : Int) (hq : Place T q) : kidsAt (telL n y T) q = kidsAt T q := by
  rcases hq with rfl | ⟨x, hx, rfl⟩
  · rw [kids_top, kids_top, tel_top hy]
  · have h1 : tel1 n y x ∈ itemL (telL n y T) := by rw [(tel_items n y).2]; exact List.mem_map.mpr ⟨x, hx, rfl⟩
    have hU : Unlike (telL n y T) := by unfold Unlike; rw [tel_nodes hy]; exact h
    have := kids_item hU h1
    rw [tel1_node hy] at this
    rw [this, kids_item h hx, tel1_kids, tel_top hy]
theorem Rp.tell {ar : List Sp} {nm : Nm} {T : List It} (h : Rp ar nm T) {y : It} (hy : y.node ∈ nodesL T) :
    Rp (ar.modify (ixOf nm y.node) (fun s => { s with it := y.with [] })) nm (telL y.node (y.with []) T) := by
  have hn : (y.with []).node = y.node := with_node _ _
  have hU : Unlike (telL y.node (y.with []) T) := by unfold Unlike; rw [tel_nodes hn]; exact h.un
  have hpl : ∀ q, Place (telL y.node (y.with []) T) q → Place T q := fun q hq => place_of (fun n hm => by rw [tel_nodes hn] at hm; exact hm) hq
  refine ⟨hU, fun n hm => ?_, fun n hm => ?_, fun n h1 m h2 e => ?_, ?_, fun z hz q hq hzq => ?_⟩
  · rw [tel_nodes hn] at hm
    rw [List.length_modify]
    exact h.inn n hm
  · rw [tel_nodes hn] at hm
    exact h.out n hm
  · rw [tel_nodes hn] at h1 h2
    exact h.inj n h1 m h2 e
  · have h1 := (h.inn _ hy).2.1
    rw [at_mod _ h.root, if_neg (by omega), tel_kids hn h.un _ (Or.inl rfl)]
  · have hz0 := hz
    rw [(tel_items y.node (y.with [])).2] at hz0
    obtain ⟨w, hw, ew⟩ := List.mem_map.mp hz0
    have en : z.node = w.node := by rw [← ew, tel1_node hn]
    rw [tel_kids hn h.un q (hpl q hq), en] at hzq
    have hs := h.spot w hw q (hpl q hq) hzq
    rw [en, at_mod _ hs, tel_kids hn h.un _ (place_mem (node_inL hw))]
    have hsay : z.says = if w.node = y.node then y.says else w.says := by rw [← ew, tel1_says, with_says]
    by_cases e : w.node = y.node
    · rw [if_pos (by rw [e])]
      rw [if_pos e] at hsay
      rw [with_same (x := z) (y := y) (by rw [en, e]) hsay]
    · rw [if_neg (fun e2 => e (h.inj _ hy _ (node_inL hw) e2).symm)]
      rw [if_neg e] at hsay
      rw [with_same (x := z) (y := w) en hsay]
end Go.Proofs.Ytgpckmolcdafcae

/-
  A SET OF NODES, AS A MAP OF THE CALL's OWN: what was put in is there, nothing else is.
-/
namespace Go.Proofs.Ytgpckmolcdafcae
open Go.RowKit Go.Maps

/-- how a bool reads -/
def rb : Value → Option (DataW Unit × List MemPlace)
  | .bool x => some (.lit (.bool x), [])
  | _ => none

theorem keyI : Keyed Try.prog 3 := int_keyed Try.underlying3

/-- block b is a map in which just the nodes of acc are true -/
def HadAt (w : World) (b : Nat) (acc : List Nat) : Prop :=
  ∃ D, w.ownsMap Try.prog 3 rb b acc.length D ∧ IsMap D ∧ ∀ k : Nat, D.atKey (.int .i64 (k : Int)) (.lit (.bool false)) = .lit (.bool (acc.contains k))

theorem HadAt.same {w w' : World} {b : Nat} {acc : List Nat} (h : HadAt w b acc) (hb : w'.heap[b]? = w.heap[b]?) : HadAt w' b acc := by
  obtain ⟨D, ⟨es, clock, h1, h2⟩, h3, h4⟩ := h
  exact ⟨D, ⟨es, clock, by rw [hb]; exact h1, h2⟩, h3, h4⟩
theorem HadAt.lt {w : World} {b : Nat} {acc : List Nat} (h : HadAt w b acc) : b < w.heap.size := by
  obtain ⟨D, h1, _⟩ := h
  exact h1.lt
theorem HadAt.below {w w' : World} {b : Nat} {acc : List Nat} (h : HadAt w b acc) (hb : Below w.heap.size w w') : HadAt w' b acc := h.same (hb.block b h.lt)

theorem HadAt.look {w : World} {b : Nat} {acc : List Nat} (h : HadAt w b acc) (k : Nat) (hk : k ≤ 1000) : (Instr.lookup 38 (.map (some b)) (.int .i64 (k : Int)) false).run Try.prog w = .ok (.bool (acc.contains k)) w := by
  obtain ⟨D, h1, _, h3⟩ := h
  obtain ⟨v, ps, hrun, hv⟩ := h1.lookup (t := 38) keyI Try.underlying38 (Try.zeroValue4 w) (zd := .lit (.bool false)) (zp := []) rfl (keyOf_int_mk Try.underlying3 (WalkArith.wf_i64 (n := (k : Int)) (by omega)))
  rw [h3 k] at hv
  rw [hrun]
  cases v with
  | bool x =>
    simp only [rb, Option.some.injEq, Prod.mk.injEq] at hv
    have : x = acc.contains k := by simpa using hv.1
    rw [this]
  | _ => cases hv

end Go.Proofs.Ytgpckmolcdafcae

/-
  CLAIMS in memory: how a slice of them reads, one of the call's own, append.
-/
namespace Go.Proofs.Ytgpckmolcdafcae
open Go.RowKit

theorem But.owns {A B : Nat} {w w' : World} (h : But B A w w') (hB : w.heap.size ≤ B) {C e k n : Nat} {v : Value} {xs : List Value} (ho : w.ownsRow C e k v n xs) (hA : A < C) : w'.ownsRow C e k v n xs := by
  have hlt := ho.lt
  obtain ⟨hl, hz⟩ := ho
  refine ⟨hl, ?_⟩
  rcases hz with h5 | ⟨g, cap, cur, rfl, h3, h6, h7⟩
  · exact Or.inl h5
  · refine Or.inr ⟨g, cap, cur, rfl, h3, ?_, h7⟩
    rw [h.block g (by have := (hlt g rfl).2; omega) (by omega)]
    exact h6
theorem owns_below {w w' : World} {C e k n : Nat} {v : Value} {xs : List Value} (ho : w.ownsRow C e k v n xs) (h : Below w.heap.size w w') : w'.ownsRow C e k v n xs := by
  have hlt := ho.lt
  obtain ⟨hl, hz⟩ := ho
  refine ⟨hl, ?_⟩
  rcases hz with h5 | ⟨g, cap, cur, rfl, h3, h6, h7⟩
  · exact Or.inl h5
  · refine Or.inr ⟨g, cap, cur, rfl, h3, ?_, h7⟩
    rw [h.block g (hlt g rfl).2]
    exact h6

end Go.Proofs.Ytgpckmolcdafcae

/-
  FRAMES: all blocks are as they were, but some that are maps; sets of nodes, as maps of the call's own.
-/
namespace Go.Proofs.Ytgpckmolcdafcae
open Go.RowKit Go.Maps

/-- all blocks are as they were, but those of S -/
structure Bt (S : List Nat) (w w' : World) : Prop where
  os : w'.os = w.os
  tape : w'.tape = w.tape
  output : w'.output = w.output
  size : w.heap.size ≤ w'.heap.size
  block : ∀ k, k < w.heap.size → k ∉ S → w'.heap[k]? = w.heap[k]?
theorem Bt.refl (S : List Nat) (w : World) : Bt S w w := ⟨rfl, rfl, rfl, Nat.le_refl _, fun _ _ _ => rfl⟩
theorem Bt.trans {S : List Nat} {a b c : World} (h : Bt S a b) (k : Bt S b c) : Bt S a c :=
  ⟨k.os.trans h.os, k.tape.trans h.tape, k.output.trans h.output, Nat.le_trans h.size k.size, fun i hi hn => (k.block i (Nat.lt_of_lt_of_le hi h.size) hn).trans (h.block i hi hn)⟩
theorem Bt.of {S : List Nat} {w w' : World} {C : Nat} (h : Below C w w') (hC : w.heap.size ≤ C) : Bt S w w' := ⟨h.os, h.tape, h.output, h.size, fun i hi _ => h.block i (by omega)⟩
theorem Bt.below {S : List Nat} {w w' : World} (h : Below w.heap.size w w') : Bt S w w' := Bt.of h (Nat.le_refl _)
theorem Bt.grow {S : List Nat} {w w' w'' : World} {A : Nat} (h : Bt S w w') (g : w'.grownBy w'' (some A)) (hA : A ∈ S) : Bt S w w'' :=
  ⟨g.os.trans h.os, g.tape.trans h.tape, g.output.trans h.output, Nat.le_trans h.size g.size, fun k hk hn => (g.block k (Nat.lt_of_lt_of_le hk h.size) (fun e => hn (by injection e with e; rw [e]; exact hA))).trans (h.block k hk hn)⟩
theorem Bt.grow1 {S : List Nat} {w w' : World} {A : Nat} (g : w.grownBy w' (some A)) (hA : A ∈ S) : Bt S w w' := (Bt.refl S w).grow g hA
theorem Bt.drew {S : List Nat} {w w' : World} (h : Bt S w w') : Bt S w w'.drew := ⟨h.os, h.tape, h.output, h.size, h.block⟩
theorem Bt.to_below {S : List Nat} {w w' : World} (h : Bt S w w') (hS : ∀ k ∈ S, w.heap.size ≤ k) : Below w.heap.size w w' :=
  ⟨h.os, h.tape, h.output, h.size, fun k hk => h.block k hk (fun hx => by have := hS k hx; omega)⟩
theorem Bt.cell {S : List Nat} {w w' : World} (h : Bt S w w') {p : Addr} {v : Value} (hv : w.cell? p = some v) (hp : p.block ∉ S) : w'.cell? p = some v := by
  rw [← hv]
  exact World.cell?_of_block (h.block p.block (lt_of_cell hv) hp)
theorem Bt.owns {S : List Nat} {w w' : World} (h : Bt S w w') {C e k n : Nat} {v : Value} {xs : List Value} (ho : w.ownsRow C e k v n xs) (hS : ∀ x ∈ S, x < C) : w'.ownsRow C e k v n xs := by
  have hlt := ho.lt
  obtain ⟨hl, hz⟩ := ho
  refine ⟨hl, ?_⟩
  rcases hz with h5 | ⟨g, cap, cur, rfl, h3, h6, h7⟩
  · exact Or.inl h5
  · refine Or.inr ⟨g, cap, cur, rfl, h3, ?_, h7⟩
    rw [h.block g (hlt g rfl).2 (fun hx => by have := hS g hx; omega)]
    exact h6

/-- these blocks are maps -/
def AreMaps (S : List Nat) (w : World) : Prop := ∀ k ∈ S, ∃ es c, w.heap[k]? = some (.map es c)
theorem AreMaps.below {S : List Nat} {w w' : World} (h : AreMaps S w) (hb : Below w.heap.size w w') : AreMaps S w' := fun k hk => by
  obtain ⟨es, c, e⟩ := h k hk
  exact ⟨es, c, by rw [hb.block k (Array.getElem?_eq_some_iff.1 e).1]; exact e⟩
theorem Bt.keeps {S : List Nat} {w w' : World} (h : Bt S w w') (hm : AreMaps S w) : Keeps w w' := by
  intro a v hv
  refine h.cell hv (fun hx => ?_)
  obtain ⟨es, c, e⟩ := hm _ hx
  simp [World.cell?, e] at hv
/-! ### sets -/
theorem keyU : Keyed Try.prog 3 := int_keyed Try.underlying3

/-- block b is a set that holds just the nodes of S -/
def SetAt (w : World) (b : Nat) (S : List Nat) : Prop :=
  ∃ D, w.ownsMap Try.prog 3 (unitElem (H := Unit)) b (S.length + 1) D ∧ ∀ kl, Maps.has D kl = true ↔ ∃ k ∈ S, kl = .int .i64 (k : Int)
/-- it holds those, and n at most -/
def PreAt (w : World) (b : Nat) (S : List Nat) (n : Nat) : Prop :=
  ∃ D, w.ownsMap Try.prog 3 (unitElem (H := Unit)) b (S.length + 1) D ∧ (∀ kl, Maps.has D kl = true → ∃ k, (k ∈ S ∨ k = n) ∧ kl = .int .i64 (k : Int)) ∧ ∀ k ∈ S, Maps.has D (.int .i64 (k : Int)) = true

theorem SetAt.pre {w : World} {b : Nat} {S : List Nat} (h : SetAt w b S) (n : Nat) : PreAt w b S n := by
  obtain ⟨D, h1, h2⟩ := h
  refine ⟨D, h1, fun kl hk => ?_, fun k hk => (h2 _).mpr ⟨k, hk, rfl⟩⟩
  obtain ⟨k, hk, e⟩ := (h2 kl).mp hk
  exact ⟨k, Or.inl hk, e⟩
theorem SetAt.same {w w' : World} {b : Nat} {S : List Nat} (h : SetAt w b S) (hb : w'.heap[b]? = w.heap[b]?) : SetAt w' b S := by
  obtain ⟨D, ⟨es, clock, h1, h2⟩, h4⟩ := h
  exact ⟨D, ⟨es, clock, by rw [hb]; exact h1, h2⟩, h4⟩
theorem PreAt.same {w w' : World} {b n : Nat} {S : List Nat} (h : PreAt w b S n) (hb : w'.heap[b]? = w.heap[b]?) : PreAt w' b S n := by
  obtain ⟨D, ⟨es, clock, h1, h2⟩, h4⟩ := h
  exact ⟨D, ⟨es, clock, by rw [hb]; exact h1, h2⟩, h4⟩
theorem SetAt.lt {w : World} {b : Nat} {S : List Nat} (h : SetAt w b S) : b < w.heap.size := by
  obtain ⟨D, h1, _⟩ := h
  exact h1.lt
theorem PreAt.lt {w : World} {b n : Nat} {S : List Nat} (h : PreAt w b S n) : b < w.heap.size := by
  obtain ⟨D, h1, _⟩ := h
  exact h1.lt
theorem SetAt.below {w w' : World} {b : Nat} {S : List Nat} (h : SetAt w b S) (hb : Below w.heap.size w w') : SetAt w' b S := h.same (hb.block b h.lt)
theorem PreAt.below {w w' : World} {b n : Nat} {S : List Nat} (h : PreAt w b S n) (hb : Below w.heap.size w w') : PreAt w' b S n := h.same (hb.block b h.lt)
theorem has_put {D : DataW Unit} (h : IsMap D) (k : Nat) (kl : Lit) : Maps.has (D.put (.int .i64 (k : Int)) (.agg [])) kl = true ↔ Maps.has D kl = true ∨ kl = .int .i64 (k : Int) := by
  by_cases e : kl = .int .i64 (k : Int)
  · subst e
    rw [has_put_same h (by trivial)]
    simp
  · rw [has_put_other e]
    simp [e]

theorem SetAt.look {w : World} {b : Nat} {S : List Nat} (h : SetAt w b S) (n : Int) (hn : -1000 ≤ n) (hn2 : n ≤ 1000) : (Instr.lookup 69 (.map (some b)) (.int .i64 n) true).run Try.prog w = .ok (.tuple #[.agg #[], .bool (decide (0 ≤ n ∧ n.toNat ∈ S))]) w := by
  obtain ⟨D, h1, h3⟩ := h
  obtain ⟨v, ps, hrun, hv⟩ := h1.look_ok (t := 69) keyU Try.underlying69 (Try.zeroValue72 w) (zd := .agg []) (zp := []) rfl (keyOf_int_mk Try.underlying3 (WalkArith.wf_i64 (n := n) (by omega)))
  have e := unitElem_inv hv
  rw [hrun, e.1]
  have eq : Maps.has D (.int .i64 n) = decide (0 ≤ n ∧ n.toNat ∈ S) := by
    rw [Bool.eq_iff_iff, h3]
    simp only [decide_eq_true_eq]
    constructor
    · rintro ⟨k, hk, e⟩
      injection e with _ e
      subst e
      exact ⟨by omega, by simpa using hk⟩
    · rintro ⟨h1, h2⟩
      exact ⟨n.toNat, h2, by rw [Int.toNat_of_nonneg h1]⟩
  rw [eq]

end Go.Proofs.Ytgpckmolcdafcae

/-
  ITEMS in memory: how a slice of them reads, all the way down; one of the call's own; append.
-/
namespace Go.Proofs.Ytgpckmolcdafcae
open Go.RowKit

theorem infoT : (Try.prog.info? 26).map (fun i => (i.zero, i.size, i.bytes)) = some (some (.agg #[.int .i64 0, .int .i64 0, .string ⟨#[]⟩, .string ⟨#[]⟩, .int .i64 0, .int .i64 0, .bool false, .slice none 0 0]), 8, 96) := by kernel_rfl

def itc (p : It × Value) : List Value := [iv p.1.node, .int .i64 p.1.role, .string p.1.name, .string p.1.about, .int .i64 p.1.level, .int .i64 p.1.checked, .bool p.1.off, p.2]
theorem itc_len (p : It × Value) : (itc p).length = 8 := rfl
/-- the cells of a row of items, whose lists of kids lie as kvs says -/
def cellsT (l : List It) (kvs : List Value) : List Value := (l.zip kvs).flatMap itc
theorem cellsT_len (l : List It) (kvs : List Value) (h : kvs.length = l.length) : (cellsT l kvs).length = l.length * 8 := by
  unfold cellsT
  rw [flat_len itc 8 itc_len, List.length_zip, h, Nat.min_self]
theorem cellsT_app (l m : List It) (ks ms : List Value) (h : ks.length = l.length) : cellsT (l ++ m) (ks ++ ms) = cellsT l ks ++ cellsT m ms := by
  unfold cellsT
  rw [List.zip_append h.symm, List.flatMap_append]
theorem cellsT_at (l : List It) (kvs : List Value) (h : kvs.length = l.length) (j i : Nat) (hj : j < l.length) (hi : i < 8) : (cellsT l kvs)[j * 8 + i]? = (itc (l[j], kvs[j]'(by omega)))[i]? := by
  unfold cellsT
  rw [flat_at itc 8 itc_len _ _ _ hi, List.getElem?_eq_getElem (by rw [List.length_zip]; omega), List.getElem_zip]
  rfl
theorem oneT (l : List It) (kvs : List Value) (hk : ∀ v ∈ kvs, v.oneCell' = true) : ∀ u ∈ cellsT l kvs, u.oneCell' = true := by
  intro u hu
  unfold cellsT at hu
  rw [List.mem_flatMap] at hu
  obtain ⟨p, hp, hm⟩ := hu
  simp only [itc, List.mem_cons, List.not_mem_nil, or_false] at hm
  rcases hm with rfl | rfl | rfl | rfl | rfl | rfl | rfl | rfl
  · rfl
  · rfl
  · rfl
  · rfl
  · rfl
  · rfl
  · rfl
  · exact hk _ (List.of_mem_zip hp).2

/-- a slice of items, as it reads; all that is in it lies in blocks of P -/
inductive ItsAt (w : World) (P : Nat → Prop) : Value → List It → Prop
  | mk (p : Option Addr) (c : Nat) (xs : List It) (kvs : List Value) (hl : kvs.length = xs.length) (hc : CellsAt w (.slice p xs.length c) xs.length (cellsT xs kvs))
      (hP : ∀ a, p = some a → xs ≠ [] → P a.block) (hk : ∀ j (h : j < xs.length) (h' : j < kvs.length), ItsAt w P kvs[j] xs[j].kids) : ItsAt w P (.slice p xs.length c) xs

theorem ItsAt.shape {w : World} {P : Nat → Prop} {v : Value} {l : List It} (h : ItsAt w P v l) : ∃ p c, v = .slice p l.length c := by
  cases h with
  | mk p c xs kvs => exact ⟨_, _, rfl⟩
theorem ItsAt.one {w : World} {P : Nat → Prop} {v : Value} {l : List It} (h : ItsAt w P v l) : v.oneCell' = true := by
  obtain ⟨p, c, rfl⟩ := h.shape
  rfl
theorem ItsAt.nil (w : World) (P : Nat → Prop) : ItsAt w P (.slice none 0 0) [] :=
  .mk none 0 [] [] rfl ⟨none, 0, rfl, Nat.le_refl _, by decide, Or.inl ⟨rfl, rfl⟩, fun j x h => by simp [cellsT] at h⟩ (fun a e => by cases e) (fun j h => by simp at h)

/-- what lies in blocks that are as they were reads as it read -/
theorem ItsAt.frame {w w' : World} {P : Nat → Prop} {v : Value} {l : List It} (h : ItsAt w P v l) {Q : Nat → Prop} (hf : ∀ g, P g → g < w.heap.size → w'.heap[g]? = w.heap[g]? ∧ Q g) : ItsAt w' Q v l := by
  induction h with
  | mk p c xs kvs hl hc hP hk ih =>
    obtain ⟨p', c', e, h1, h2, h3, h4⟩ := hc
    cases e
    have key : ∀ j x, (cellsT xs kvs)[j]? = some x → ∀ b o, p = some ⟨b, o, none⟩ → w.cell? ⟨b, o + j, none⟩ = some x → w'.heap[b]? = w.heap[b]? ∧ Q b := fun j x hx b o e he => by
      have hne : xs ≠ [] := by
        rintro rfl
        simp [cellsT] at hx
      exact hf b (hP _ e hne) (lt_of_cell he)
    refine .mk p c xs kvs hl ⟨p, c, rfl, h1, h2, h3, fun j x hx => ?_⟩ (fun a e hne => ?_) (fun j h h' => ih j h h')
    · obtain ⟨b, o, e1, e2⟩ := h4 j x hx
      exact ⟨b, o, e1, by rw [← e2]; exact World.cell?_of_block (key j x hx b o e1 e2).1⟩
    · have h0 : 0 < xs.length := List.length_pos_iff.mpr hne
      obtain ⟨x, hx⟩ : ∃ x, (cellsT xs kvs)[0]? = some x := ⟨_, List.getElem?_eq_getElem (by rw [cellsT_len _ _ hl]; omega)⟩
      obtain ⟨b, o, e1, e2⟩ := h4 0 x hx
      rw [e] at e1
      cases e1
      exact (key 0 x hx b o e e2).2
theorem ItsAt.under {w w' : World} {P : Nat → Prop} {v : Value} {l : List It} (h : ItsAt w P v l) (hb : Below w.heap.size w w') : ItsAt w' P v l := h.frame (fun g hg hlt => ⟨hb.block g hlt, hg⟩)
theorem ItsAt.any {w : World} {P : Nat → Prop} {v : Value} {l : List It} (h : ItsAt w P v l) {Q : Nat → Prop} (hQ : ∀ g, P g → g < w.heap.size → Q g) : ItsAt w Q v l := h.frame (fun g hg hlt => ⟨rfl, hQ g hg hlt⟩)

/-- an item of a row: its cells -/
structure ItAt (w : World) (b o : Nat) (x : It) (kv : Value) : Prop where
  c0 : w.cell? ⟨b, o, none⟩ = some (.int .i64 (x.node : Int))
  c1 : w.cell? ⟨b, o + 1, none⟩ = some (.int .i64 x.role)
  c2 : w.cell? ⟨b, o + 2, none⟩ = some (.string x.name)
  c3 : w.cell? ⟨b, o + 3, none⟩ = some (.string x.about)
  c4 : w.cell? ⟨b, o + 4, none⟩ = some (.int .i64 x.level)
  c5 : w.cell? ⟨b, o + 5, none⟩ = some (.int .i64 x.checked)
  c6 : w.cell? ⟨b, o + 6, none⟩ = some (.bool x.off)
  c7 : w.cell? ⟨b, o + 7, none⟩ = some kv
theorem ItAt.keeps {w w' : World} {b o : Nat} {x : It} {kv : Value} (h : ItAt w b o x kv) (k : Keeps w w') : ItAt w' b o x kv := ⟨k _ _ h.c0, k _ _ h.c1, k _ _ h.c2, k _ _ h.c3, k _ _ h.c4, k _ _ h.c5, k _ _ h.c6, k _ _ h.c7⟩

theorem ItsAt.at {w : World} {P : Nat → Prop} {v : Value} {l : List It} (h : ItsAt w P v l) : ∃ p c, v = .slice p l.length c ∧ l.length ≤ c ∧ c ≤ 9223372036854775807 ∧
    ∀ j (hj : j < l.length), ∃ b o kv, p = some ⟨b, o, none⟩ ∧ P b ∧ ItAt w b (o + j * 8) l[j] kv ∧ ItsAt w P kv l[j].kids := by
  cases h with
  | mk p c xs kvs hl hc hP hk =>
    obtain ⟨p', c', e, h1, h2, h3, h4⟩ := hc
    cases e
    refine ⟨p, c, rfl, h1, by unfold maxLen at h2; omega, fun j hj => ?_⟩
    have hj' : j < kvs.length := by omega
    have hx : ∀ i, i < 8 → ∀ x, (itc (l[j], kvs[j]))[i]? = some x → ∃ b o, p = some ⟨b, o, none⟩ ∧ w.cell? ⟨b, o + j * 8 + i, none⟩ = some x := fun i hi x hx => by
      obtain ⟨b, o, e1, e2⟩ := h4 (j * 8 + i) x (by rw [cellsT_at l kvs hl j i hj hi]; exact hx)
      exact ⟨b, o, e1, by rw [Nat.add_assoc]; exact e2⟩
    obtain ⟨b, o, rfl, e0⟩ := hx 0 (by decide) _ rfl
    have hy : ∀ i, i < 8 → ∀ x, (itc (l[j], kvs[j]))[i]? = some x → w.cell? ⟨b, o + j * 8 + i, none⟩ = some x := fun i hi x h => by
      obtain ⟨b', o', e1, e2⟩ := hx i hi x h
      cases e1
      exact e2
    exact ⟨b, o, kvs[j], rfl, hP _ rfl (fun h => by subst h; simp at hj), ⟨e0, hy 1 (by decide) _ rfl, hy 2 (by decide) _ rfl, hy 3 (by decide) _ rfl, hy 4 (by decide) _ rfl, hy 5 (by decide) _ rfl, hy 6 (by decide) _ rfl, hy 7 (by decide) _ rfl⟩, hk j hj hj'⟩

/-- a row of items of the call's own, and all that is in them -/
def OwnT (w : World) (B : Nat) (v : Value) (l : List It) : Prop :=
  (l = [] → v = .slice none 0 0) ∧ ∃ kvs, kvs.length = l.length ∧ w.ownsRow B 26 8 v l.length (cellsT l kvs) ∧ ∀ j (h : j < l.length) (h' : j < kvs.length), ItsAt w (fun g => B ≤ g ∧ some g ≠ v.ownBlock) kvs[j] l[j].kids

theorem OwnT.nil (w : World) (B : Nat) : OwnT w B (.slice none 0 0) [] := ⟨fun _ => rfl, [], rfl, World.ownsRow_nil _ _ _ _, fun j h => by simp at h⟩
theorem OwnT.shape {w : World} {B : Nat} {v : Value} {l : List It} (h : OwnT w B v l) : ∃ p c, v = .slice p l.length c := by
  obtain ⟨_, _, _, h, _⟩ := h
  exact owns_shape h
theorem OwnT.row {w : World} {B : Nat} {v : Value} {l : List It} (h : OwnT w B v l) : ItsAt w (fun g => B ≤ g) v l := by
  obtain ⟨_, kvs, hl, ho, hk⟩ := h
  have hlt := ho.lt
  have hc := cells_of_owns ho
  obtain ⟨p, c, rfl⟩ := owns_shape ho
  exact .mk p c l kvs hl hc (fun a e _ => (hlt a.block (by rw [e]; rfl)).1) (fun j h h' => (hk j h h').any (fun g hg _ => hg.1))
theorem OwnT.lt {w : World} {B : Nat} {v : Value} {l : List It} (h : OwnT w B v l) : ∀ g, v.ownBlock = some g → B ≤ g ∧ g < w.heap.size := by
  obtain ⟨_, kvs, hl, ho, hk⟩ := h
  exact ho.lt
theorem OwnT.mono {w : World} {B C : Nat} {v : Value} {l : List It} (h : OwnT w B v l) (hC : C ≤ B) : OwnT w C v l := by
  obtain ⟨hn, kvs, hl, ho, hk⟩ := h
  refine ⟨hn, kvs, hl, ?_, fun j h h' => (hk j h h').any (fun g hg _ => ⟨Nat.le_trans hC hg.1, hg.2⟩)⟩
  obtain ⟨h1, h2⟩ := ho
  refine ⟨h1, ?_⟩
  rcases h2 with h2 | ⟨g, cap, cur, e, h3, h4⟩
  · exact Or.inl h2
  · exact Or.inr ⟨g, cap, cur, e, Nat.le_trans hC h3, h4⟩
theorem OwnT.bt {S : List Nat} {w w' : World} {B : Nat} {v : Value} {l : List It} (h : OwnT w B v l) (hb : Bt S w w') (hS : ∀ x ∈ S, x < B) : OwnT w' B v l := by
  obtain ⟨hn, kvs, hl, ho, hk⟩ := h
  exact ⟨hn, kvs, hl, hb.owns ho hS, fun j h h' => (hk j h h').frame (fun g hg hlt => ⟨hb.block g hlt (fun hx => by have := hS g hx; omega), hg⟩)⟩
theorem OwnT.below {w w' : World} {B : Nat} {v : Value} {l : List It} (h : OwnT w B v l) (hb : Below w.heap.size w w') : OwnT w' B v l := h.bt (S := []) (Bt.below hb) (by simp)

/-- append a row that was made behind this one -/
theorem own_grown {wr w1 : World} {B C : Nat} {v u : Value} {l m : List It} {g cap : Nat} (hown : OwnT wr B v l) (hm0 : m ≠ []) (hBC : B ≤ C) (hvC : ∀ g, v.ownBlock = some g → g < C)
    {kvs kus : List Value} (hl : kvs.length = l.length) (hlu : kus.length = m.length) (hk : ∀ j (h : j < l.length) (h' : j < kvs.length), ItsAt wr (fun g => B ≤ g ∧ some g ≠ v.ownBlock) kvs[j] l[j].kids)
    (hku : ∀ j (h : j < m.length) (h' : j < kus.length), ItsAt wr (fun g => C ≤ g ∧ some g ≠ u.ownBlock) kus[j] m[j].kids)
    (h1 : w1.ownsRow B 26 8 (.slice (some ⟨g, 0, none⟩) (l.length + m.length) cap) (l.length + m.length) (cellsT l kvs ++ cellsT m kus)) (h2 : wr.grownBy w1 v.ownBlock) (h3 : v.ownBlock = some g ∨ g = wr.heap.size) :
    OwnT w1 B (.slice (some ⟨g, 0, none⟩) (l.length + m.length) cap) (l ++ m) := by
  have hlt := hown.lt
  refine ⟨fun e => absurd (List.append_eq_nil_iff.mp e).2 hm0, kvs ++ kus, by rw [List.length_append, List.length_append, hl, hlu], by rw [cellsT_app _ _ _ _ hl, List.length_append]; exact h1, fun j h h' => ?_⟩
  have far : ∀ q, q < wr.heap.size → some q ≠ v.ownBlock → some q ≠ (Value.slice (some ⟨g, 0, none⟩) (l.length + m.length) cap).ownBlock := fun q hq hne e => by
    have e : q = g := by simpa [Value.ownBlock] using e
    rcases h3 with h3 | h3
    · exact hne (by rw [h3, e])
    · omega
  by_cases hj : j < l.length
  · have e1 : (l ++ m)[j] = l[j] := List.getElem_append_left hj
    have e2 : (kvs ++ kus)[j] = kvs[j]'(by omega) := List.getElem_append_left (by omega)
    rw [e1, e2]
    exact (hk j hj (by omega)).frame (fun q hq hlt => ⟨h2.block q hlt hq.2, hq.1, far q hlt hq.2⟩)
  · have hj2 : j - l.length < m.length := by rw [List.length_append] at h; omega
    have e1 : (l ++ m)[j] = m[j - l.length] := List.getElem_append_right (by omega)
    have e2 : (kvs ++ kus)[j] = kus[j - l.length]'(by omega) := by rw [List.getElem_append_right (by omega)]; simp only [hl]
    rw [e1, e2]
    refine (hku (j - l.length) hj2 (by omega)).frame (fun q hq hlt => ?_)
    have hne : some q ≠ v.ownBlock := fun e => by have := hvC q e.symm; omega
    exact ⟨h2.block q hlt hne, Nat.le_trans hBC hq.1, far q hlt hne⟩

theorem wp_append_items {wr : World} {o : Oper} {a : Act} {K : Act → World → Prop} {Q : Exit → Act → World → Prop}
    (s x : Operand) (ho : o.op = Op.call { callee := Callee.builtin Builtin.append, args := #[s, x], argTypes := #[22, 22] }) {B C : Nat} {v u : Value} {l m : List It}
    (hs : a.eval s = v) (hx : a.eval x = u) (hown : OwnT wr B v l) (hm : OwnT wr C u m) (hBC : B ≤ C) (hvC : ∀ g, v.ownBlock = some g → g < C) (hB : B ≤ wr.heap.size) (hsz : l.length + m.length ≤ 1000000)
    (h : ∀ v' w1, OwnT w1 B v' (l ++ m) → Below B wr w1 → (∀ g, v'.ownBlock = some g → g < w1.heap.size) → K (a.put o.dst v') w1) : o.wp Try.prog a wr K Q := by
  obtain ⟨i0, hi, hz0, hz1, hz2⟩ := info_parts infoT
  have hown0 := hown
  obtain ⟨hn, kvs, hl, hown', hk⟩ := hown
  obtain ⟨hnu, kus, hlu, hownu, hku⟩ := hm
  have hlt := hown'.lt
  have hltu := hownu.lt
  by_cases hm0 : m = []
  · have hu := hnu hm0
    subst hm0
    rw [hu] at hx
    have hrun := run_append_owned_none (P := Try.prog) (w := wr) B 22 o.type 26 i0 8 Try.underlying22 hi v _ _ hown'
    have hk' := h v wr (by rw [List.append_nil]; exact hown0) (Below.refl _ _) (fun g e => (hlt g e).2)
    unfold Oper.wp
    simp [execOp, ho, resolve, invoke, builtin, hs, hx, hrun, Result.andThen]
    exact hk'
  · have hpos : 0 < m.length := List.length_pos_iff.mpr hm0
    obtain ⟨gu, cu, hue, _, _⟩ := hownu.form hpos
    rw [hue] at hx
    refine wp_append_lies wr s x 22 ho B 26 i0 _ 8 96 Try.underlying22 hi hz0 hz1 hz2 rfl (by decide) v _ _ hs hown' ⟨gu, 0, none⟩ m.length cu (cellsT m kus) hx (cellsT_len _ _ hlu) (World.ownsRow.cells hownu (by rw [hue]; rfl))
      (oneT m kus (fun y hy => by
        obtain ⟨j, hj, e⟩ := List.mem_iff_getElem.mp hy
        rw [← e]
        exact (hku j (by omega) hj).one)) hpos (by unfold maxLen; omega) (by omega) hB _ rfl ?_
    intro g cap w1 k1 k2 k3 k4
    exact h _ w1 (by
      have := own_grown hown0 hm0 hBC hvC hl hlu hk hku k1 k2 k3
      exact this) ((Below.refl B wr).grown k2 hB (fun j hj => (hlt j hj).1)) (fun q e => by
      have e : q = g := by simpa [Value.ownBlock] using e.symm
      omega)

/-- one item, in a block by itself -/
theorem own_item {w : World} {B : Nat} {x : It} {kv : Value} (hB : B ≤ w.heap.size) (hk : ItsAt w (fun g => B ≤ g) kv x.kids) :
    OwnT (w.alloc (.cells (itc (x, kv)).toArray 26)) B (.slice (some ⟨w.heap.size, 0, none⟩) 1 1) [x] := by
  refine ⟨fun e => (by cases e), [kv], rfl, ?_, fun j h h' => ?_⟩
  · have h := World.ownsRow_lit (base := B) (e := 26) (size := 8) w (itc (x, kv)).toArray 1 hB (by decide) rfl
    simpa [cellsT] using h
  · have hj : j = 0 := by simp at h; exact h
    subst hj
    refine ItsAt.frame hk (fun g hg hlt => ⟨heap_alloc_old w _ hlt, hg, fun e => ?_⟩)
    have e : g = w.heap.size := by simpa [Value.ownBlock] using e
    omega

theorem boxv8 (w : World) (x0 x1 x2 x3 x4 x5 x6 x7 : Value) (t : Nat) : (w.alloc (.cells #[x0, x1, x2, x3, x4, x5, x6, x7] t)).cell? ⟨w.heap.size, 0, none⟩ = some x0 ∧ (w.alloc (.cells #[x0, x1, x2, x3, x4, x5, x6, x7] t)).cell? ⟨w.heap.size, 7, none⟩ = some x7 := by
  constructor <;> rw [World.cell?_alloc_new] <;> simp
end Go.Proofs.Ytgpckmolcdafcae

/-
  ITEMS that came in: how they read, all the way down, whatever their nodes (below 0, too).
-/
namespace Go.Proofs.Ytgpckmolcdafcae
open Go.ChangeShapes Go.WideShapes Go.ChangeAt Go.RowKit

/-- an item with any number as its node -/
inductive Iz where
  | mk (node role : Int) (name about : ByteArray) (level checked : Int) (off : Bool) (kids : List Iz)
def Iz.node : Iz → Int | .mk n _ _ _ _ _ _ _ => n
def Iz.role : Iz → Int | .mk _ r _ _ _ _ _ _ => r
def Iz.name : Iz → ByteArray | .mk _ _ a _ _ _ _ _ => a
def Iz.about : Iz → ByteArray | .mk _ _ _ a _ _ _ _ => a
def Iz.level : Iz → Int | .mk _ _ _ _ l _ _ _ => l
def Iz.checked : Iz → Int | .mk _ _ _ _ _ c _ _ => c
def Iz.off : Iz → Bool | .mk _ _ _ _ _ _ o _ => o
def Iz.kids : Iz → List Iz | .mk _ _ _ _ _ _ _ k => k

/-! ### how much they hold -/
mutual
def bulk1 : Iz → Nat
  | .mk _ _ a b _ _ _ ks => 8 + a.size + b.size + bulkZ ks
def bulkZ : List Iz → Nat
  | [] => 0
  | x :: xs => bulk1 x + bulkZ xs
end
mutual
def nodes1Z : Iz → List Int
  | .mk n _ _ _ _ _ _ ks => n :: nodesZ ks
def nodesZ : List Iz → List Int
  | [] => []
  | x :: xs => nodes1Z x ++ nodesZ xs
end
theorem bulk1_eq (x : Iz) : bulk1 x = 8 + x.name.size + x.about.size + bulkZ x.kids := by cases x with | mk => rw [bulk1]; rfl
theorem nodes1Z_eq (x : Iz) : nodes1Z x = x.node :: nodesZ x.kids := by cases x with | mk => rw [nodes1Z]; rfl
theorem Iz.ind {P : Iz → Prop} {Q : List Iz → Prop} (h1 : ∀ x : Iz, Q x.kids → P x) (h2 : Q []) (h3 : ∀ x xs, P x → Q xs → Q (x :: xs)) : (∀ x, P x) ∧ ∀ l, Q l := by
  have key : ∀ m, (∀ x : Iz, bulk1 x ≤ m → P x) ∧ ∀ l : List Iz, bulkZ l ≤ m → Q l := by
    intro m
    induction m with
    | zero =>
      refine ⟨fun x hx => by rw [bulk1_eq] at hx; omega, fun l hl => ?_⟩
      cases l with
      | nil => exact h2
      | cons x l => rw [bulkZ, bulk1_eq] at hl; omega
    | succ m ih =>
      have hP : ∀ x : Iz, bulk1 x ≤ m + 1 → P x := fun x hx => h1 x (ih.2 x.kids (by rw [bulk1_eq] at hx; omega))
      refine ⟨hP, fun l => ?_⟩
      induction l with
      | nil => exact fun _ => h2
      | cons x xs ihl =>
        intro hl
        rw [bulkZ] at hl
        exact h3 x xs (hP x (by omega)) (ihl (by omega))
  exact ⟨fun x => (key _).1 x (Nat.le_refl _), fun l => (key _).2 l (Nat.le_refl _)⟩
theorem nodesZ_few : (∀ x, 8 * (nodes1Z x).length ≤ bulk1 x) ∧ ∀ l, 8 * (nodesZ l).length ≤ bulkZ l := by
  refine Iz.ind (fun x h => ?_) (Nat.le_refl _) (fun x xs h1 h2 => ?_)
  · rw [nodes1Z_eq, bulk1_eq, List.length_cons]
    omega
  · rw [nodesZ, bulkZ, List.length_append]
    omega
/-! ### in memory -/
def izc (p : Iz × Value) : List Value := [.int .i64 p.1.node, .int .i64 p.1.role, .string p.1.name, .string p.1.about, .int .i64 p.1.level, .int .i64 p.1.checked, .bool p.1.off, p.2]
/-- an item of a row: its cells -/
structure IzAt (w : World) (b o : Nat) (x : Iz) (kv : Value) : Prop where
  c0 : w.cell? ⟨b, o, none⟩ = some (.int .i64 x.node)
  c1 : w.cell? ⟨b, o + 1, none⟩ = some (.int .i64 x.role)
  c2 : w.cell? ⟨b, o + 2, none⟩ = some (.string x.name)
  c3 : w.cell? ⟨b, o + 3, none⟩ = some (.string x.about)
  c4 : w.cell? ⟨b, o + 4, none⟩ = some (.int .i64 x.level)
  c5 : w.cell? ⟨b, o + 5, none⟩ = some (.int .i64 x.checked)
  c6 : w.cell? ⟨b, o + 6, none⟩ = some (.bool x.off)
  c7 : w.cell? ⟨b, o + 7, none⟩ = some kv
theorem IzAt.block {w w' : World} {b o : Nat} {x : Iz} {kv : Value} (h : IzAt w b o x kv) (e : w'.heap[b]? = w.heap[b]?) : IzAt w' b o x kv :=
  ⟨by rw [← h.c0]; exact World.cell?_of_block e, by rw [← h.c1]; exact World.cell?_of_block e, by rw [← h.c2]; exact World.cell?_of_block e, by rw [← h.c3]; exact World.cell?_of_block e, by rw [← h.c4]; exact World.cell?_of_block e, by rw [← h.c5]; exact World.cell?_of_block e, by rw [← h.c6]; exact World.cell?_of_block e, by rw [← h.c7]; exact World.cell?_of_block e⟩
/-- a slice of items, as it reads; all that is in it lies in blocks of P -/
inductive IzsAt (w : World) (P : Nat → Prop) : Value → List Iz → Prop
  | mk (p : Option Addr) (c : Nat) (xs : List Iz) (kvs : List Value) (hl : kvs.length = xs.length) (h1 : xs.length ≤ c) (h2 : c ≤ maxLen)
      (hc : ∀ j (h : j < xs.length) (h' : j < kvs.length), ∃ b o, p = some ⟨b, o, none⟩ ∧ P b ∧ IzAt w b (o + j * 8) xs[j] kvs[j]) (hk : ∀ j (h : j < xs.length) (h' : j < kvs.length), IzsAt w P kvs[j] xs[j].kids) : IzsAt w P (.slice p xs.length c) xs
theorem IzsAt.shape {w : World} {P : Nat → Prop} {v : Value} {l : List Iz} (h : IzsAt w P v l) : ∃ p c, v = .slice p l.length c := by
  cases h with
  | mk p c xs kvs => exact ⟨_, _, rfl⟩
theorem IzsAt.nil (w : World) (P : Nat → Prop) : IzsAt w P (.slice none 0 0) [] := .mk none 0 [] [] rfl (Nat.le_refl _) (by decide) (fun j h => by simp at h) (fun j h => by simp at h)
theorem IzsAt.at {w : World} {P : Nat → Prop} {v : Value} {l : List Iz} (h : IzsAt w P v l) : ∃ p c, v = .slice p l.length c ∧ l.length ≤ c ∧ c ≤ 9223372036854775807 ∧
    ∀ j (hj : j < l.length), ∃ b o kv, p = some ⟨b, o, none⟩ ∧ P b ∧ IzAt w b (o + j * 8) l[j] kv ∧ IzsAt w P kv l[j].kids := by
  cases h with
  | mk p c xs kvs hl h1 h2 hc hk =>
    refine ⟨p, c, rfl, h1, by unfold maxLen at h2; omega, fun j hj => ?_⟩
    obtain ⟨b, o, e, hb, h3⟩ := hc j hj (by omega)
    exact ⟨b, o, kvs[j]'(by omega), e, hb, h3, hk j hj (by omega)⟩
/-- what lies in blocks that are as they were reads as it read -/
theorem IzsAt.frame {w w' : World} {P : Nat → Prop} {v : Value} {l : List Iz} (h : IzsAt w P v l) {Q : Nat → Prop} (hf : ∀ g, P g → g < w.heap.size → w'.heap[g]? = w.heap[g]? ∧ Q g) : IzsAt w' Q v l := by
  induction h with
  | mk p c xs kvs hl h1 h2 hc hk ih =>
    refine .mk p c xs kvs hl h1 h2 (fun j h h' => ?_) (fun j h h' => ih j h h')
    obtain ⟨b, o, e, hb, h3⟩ := hc j h h'
    obtain ⟨e2, hq⟩ := hf b hb (lt_of_cell h3.c0)
    exact ⟨b, o, e, hq, h3.block e2⟩
theorem IzsAt.under {w w' : World} {P : Nat → Prop} {v : Value} {l : List Iz} (h : IzsAt w P v l) (hb : Below w.heap.size w w') : IzsAt w' P v l := h.frame (fun g hg hlt => ⟨hb.block g hlt, hg⟩)

/-! ### items whose nodes are none below 0 -/
mutual
def ofIt : It → Iz
  | .mk n r a b l c o ks => .mk n r a b l c o (ofIts ks)
def ofIts : List It → List Iz
  | [] => []
  | x :: xs => ofIt x :: ofIts xs
end
mutual
def toIt : Iz → It
  | .mk n r a b l c o ks => .mk n.toNat r a b l c o (toIts ks)
def toIts : List Iz → List It
  | [] => []
  | x :: xs => toIt x :: toIts xs
end
theorem ofIts_map : ∀ l, ofIts l = l.map ofIt
  | [] => rfl
  | x :: l => by rw [ofIts, ofIts_map l]; rfl
theorem ofIt_kids (x : It) : (ofIt x).kids = ofIts x.kids := by cases x with | mk => rw [ofIt]; rfl
theorem of_to : (∀ x, (∀ n ∈ nodes1Z x, 0 ≤ n) → ofIt (toIt x) = x) ∧ ∀ l, (∀ n ∈ nodesZ l, 0 ≤ n) → ofIts (toIts l) = l := by
  refine Iz.ind (fun x h hn => ?_) (fun _ => rfl) (fun x xs h1 h2 hn => ?_)
  · rw [nodes1Z_eq] at hn
    have h0 := hn x.node (by simp)
    have hk := h (fun n hm => hn n (by simp [hm]))
    cases x with
    | mk n r a b l c o ks =>
      rw [toIt, ofIt]
      have e1 : ((n.toNat : Nat) : Int) = n := Int.toNat_of_nonneg h0
      have e2 : ofIts (toIts ks) = ks := hk
      rw [e1, e2]
  · rw [nodesZ] at hn
    rw [toIts, ofIts, h1 (fun n hm => hn n (List.mem_append.mpr (Or.inl hm))), h2 (fun n hm => hn n (List.mem_append.mpr (Or.inr hm)))]
theorem nodes_of : (∀ x, nodes1Z (ofIt x) = (nodes1 x).map (fun n : Nat => (n : Int))) ∧ ∀ l, nodesZ (ofIts l) = (nodesL l).map (fun n : Nat => (n : Int)) := by
  refine It.ind (fun x h => ?_) rfl (fun x xs h1 h2 => ?_)
  · rw [nodes1Z_eq, ofIt_kids, h, nodes1_eq, List.map_cons]
    cases x with
    | mk => rw [ofIt]; rfl
  · rw [ofIts, nodesZ, nodesL, List.map_append, h1, h2]
theorem ItAt.any {w : World} {b o : Nat} {x : It} {kv : Value} (h : ItAt w b o x kv) : IzAt w b o (ofIt x) kv := by
  cases x with
  | mk =>
    rw [ofIt]
    exact ⟨h.c0, h.c1, h.c2, h.c3, h.c4, h.c5, h.c6, h.c7⟩
/-- what reads as items reads as items of any nodes -/
theorem ItsAt.whatever {w : World} {P : Nat → Prop} {v : Value} {l : List It} (h : ItsAt w P v l) : IzsAt w P v (ofIts l) := by
  have key : (∀ x : It, ∀ v, ItsAt w P v x.kids → IzsAt w P v (ofIts x.kids)) ∧ ∀ l : List It, (∀ v, ItsAt w P v l → IzsAt w P v (ofIts l)) ∧ ∀ x ∈ l, ∀ v, ItsAt w P v x.kids → IzsAt w P v (ofIts x.kids) := by
    refine It.ind (fun x h => h.1) ⟨fun v hv => ?_, fun x hx => by simp at hx⟩ (fun x xs h1 h2 => ?_)
    · obtain ⟨p, c, rfl, g1, g2, _⟩ := hv.at
      exact .mk p c [] [] rfl g1 (by unfold maxLen; omega) (fun j h => by simp at h) (fun j h => by simp at h)
    · have all : ∀ y ∈ x :: xs, ∀ v, ItsAt w P v y.kids → IzsAt w P v (ofIts y.kids) := fun y hy => by
        rcases List.mem_cons.mp hy with rfl | hy
        · exact h1
        · exact h2.2 y hy
      refine ⟨fun v hv => ?_, all⟩
      obtain ⟨p, c, rfl, g1, g2, g3⟩ := hv.at
      have inh : Inhabited Value := ⟨.bool false⟩
      obtain ⟨K, hK⟩ := Deep.choose_lt (n := (x :: xs).length) (p := fun j kv => ∀ hj : j < (x :: xs).length, ∃ b o, p = some ⟨b, o, none⟩ ∧ P b ∧ ItAt w b (o + j * 8) (x :: xs)[j] kv ∧ ItsAt w P kv (x :: xs)[j].kids) (fun j hj => by
        obtain ⟨b, o, kv, h⟩ := g3 j hj
        exact ⟨kv, fun _ => ⟨b, o, h⟩⟩)
      have el : (ofIts (x :: xs)).length = (x :: xs).length := by rw [ofIts_map, List.length_map]
      have ex : ∀ j (hj : j < (x :: xs).length) (hj' : j < (ofIts (x :: xs)).length), (ofIts (x :: xs))[j] = ofIt (x :: xs)[j] := fun j hj hj' => by
        simp only [ofIts_map, List.getElem_map]
      rw [← el]
      refine .mk p c (ofIts (x :: xs)) ((List.range (x :: xs).length).map K) (by rw [List.length_map, List.length_range, el]) (by rw [el]; exact g1) (by unfold maxLen; omega) (fun j hj hj' => ?_) (fun j hj hj' => ?_)
      · obtain ⟨b, o, e1, e2, e3, _⟩ := hK j (by omega) (by omega)
        rw [ex j (by omega) hj]
        simp only [List.getElem_map, List.getElem_range]
        exact ⟨b, o, e1, e2, e3.any⟩
      · obtain ⟨b, o, e1, e2, e3, e4⟩ := hK j (by omega) (by omega)
        rw [ex j (by omega) hj, ofIt_kids]
        simp only [List.getElem_map, List.getElem_range]
        exact all _ (List.getElem_mem _) _ e4
  exact (key.2 l).1 v h

/-! ### what came in -/
theorem cellsT8 : Try.prog.cellsOf 26 = 8 := by kernel_rfl
theorem cellsTs : Try.prog.cellsOf 22 = 1 := by kernel_rfl
theorem cellsB1 : Try.prog.cellsOf 4 = 1 := by kernel_rfl
theorem bulk_all_mem {H : Type} {l : List (DataW H)} {d : DataW H} (h : d ∈ l) : Rows.uptoBulk d ≤ Rows.uptoBulkAll l := by
  induction l with
  | nil => simp at h
  | cons x l ih =>
    rw [Rows.uptoBulkAll]
    rcases List.mem_cons.mp h with rfl | h
    · omega
    · have := ih h
      omega
theorem bulk_range {H : Type} {D : Nat → DataW H} {X : Nat → Iz} : ∀ (js : List Nat), (∀ j ∈ js, bulk1 (X j) ≤ Rows.uptoBulk (D j)) → bulkZ (js.map X) ≤ Rows.uptoBulkAll (js.map D)
  | [], _ => Nat.le_refl _
  | j :: js, h => by
    rw [List.map_cons, List.map_cons, bulkZ, Rows.uptoBulkAll]
    have h1 := h j (by simp)
    have h2 := bulk_range js (fun i hi => h i (by simp [hi]))
    omega

/-- all nodes are numbers of 64 bits -/
def NodeOk (l : List Iz) : Prop := ∀ n ∈ nodesZ l, -9223372036854775808 ≤ n ∧ n ≤ 9223372036854775807
theorem in_nodesZ : ∀ {l : List Iz} {n : Int}, n ∈ nodesZ l → ∃ x ∈ l, n ∈ nodes1Z x
  | [], n, h => by simp [nodesZ] at h
  | x :: l, n, h => by
    rw [nodesZ] at h
    rcases List.mem_append.mp h with h | h
    · exact ⟨x, by simp, h⟩
    · obtain ⟨y, hy, hn⟩ := in_nodesZ h
      exact ⟨y, by simp [hy], hn⟩
set_option maxRecDepth 100000 in
theorem open_item {H : Type} {enc : TypeId × Value → H} {W : World} {base n : Nat} {sp : Nat → Bool} {held : Bool} {cs : List Value} {y : DataW H × List MemPlace} (h : DataW.trod enc Try.prog W base sp held n 26 cs = some y) :
    ∃ (z0 z1 : Int) (s2 s3 : ByteArray) (z4 z5 : Int) (b6 : Bool) (k : Value) (d : DataW H) (pl : List MemPlace) (m : Nat), cs = [.int .i64 z0, .int .i64 z1, .string s2, .string s3, .int .i64 z4, .int .i64 z5, .bool b6, k] ∧
      DataW.trod enc Try.prog W base sp held m 22 [k] = some (d, pl) ∧ Rows.uptoBulk d + 8 + s2.size + s3.size ≤ Rows.uptoBulk y.1 ∧ (-9223372036854775808 ≤ z0 ∧ z0 ≤ 9223372036854775807) := by
  obtain ⟨xs, k, _, hy, hl, hx, hf⟩ := DataW.trod_struct Try.underlying26 h
  rw [cellsT8] at hl
  have hx8 : xs.length = 8 := hx
  clear hx
  match cs, hl, xs, hx8 with
  | [c0, c1, c2, c3, c4, c5, c6, c7], _, [y0, y1, y2, y3, y4, y5, y6, y7], _ =>
    have g0 := hf 0 _ rfl
    have g1 := hf 1 _ rfl
    have g2 := hf 2 _ rfl
    have g3 := hf 3 _ rfl
    have g4 := hf 4 _ rfl
    have g5 := hf 5 _ rfl
    have g6 := hf 6 _ rfl
    have g7 := hf 7 _ rfl
    simp [cellsI, cellsS, cellsTs, cellsB1] at g0 g1 g2 g3 g4 g5 g6 g7
    obtain ⟨z0, e0, f0, w0⟩ := DataW.trod_int Try.underlying3 g0
    obtain ⟨z1, e1, f1, _⟩ := DataW.trod_int Try.underlying3 g1
    obtain ⟨s2, e2, f2, _⟩ := DataW.trod_string Try.underlying9 g2
    obtain ⟨s3, e3, f3, _⟩ := DataW.trod_string Try.underlying9 g3
    obtain ⟨z4, e4, f4, _⟩ := DataW.trod_int Try.underlying3 g4
    obtain ⟨z5, e5, f5, _⟩ := DataW.trod_int Try.underlying3 g5
    obtain ⟨b6, e6, f6⟩ := DataW.trod_bool Try.underlying4 g6
    simp at e0 e1 e2 e3 e4 e5 e6
    refine ⟨z0, z1, s2, s3, z4, z5, b6, c7, y7.1, y7.2, k, by rw [e0, e1, e2, e3, e4, e5, e6], g7, ?_, bounds_i64 w0⟩
    rw [hy, f0, f1, f2, f3, f4, f5, f6]
    simp only [List.map_cons, List.map_nil, Rows.uptoBulk, Rows.uptoBulkAll]
    have q2 := Lib.size_eq s2
    have q3 := Lib.size_eq s3
    omega

theorem open_its {H : Type} {enc : TypeId × Value → H} {W : World} : ∀ (m : Nat) (v : Value) (d : DataW H) (fuel : Nat) (pl : List MemPlace), Rows.uptoBulk d ≤ m → DataW.trod enc Try.prog W 0 (fun _ => true) true fuel 22 [v] = some (d, pl) →
    ∃ l : List Iz, IzsAt W (fun g => g < W.heap.size) v l ∧ bulkZ l ≤ Rows.uptoBulk d ∧ NodeOk l := by
  intro m
  induction m with
  | zero =>
    intro v d fuel pl hd hf
    rcases Deep.open_slice Try.underlying22 hf with ⟨hcs, hx⟩ | ⟨a, len, cap, mm, n, D, Pl, hcs, _, hl, hmx, hm, hx, hall⟩
    · simp only [Prod.mk.injEq] at hx
      rw [hx.1] at hd
      simp [Rows.uptoBulk] at hd
    · simp only [Prod.mk.injEq] at hx
      rw [hx.1] at hd
      simp [Rows.uptoBulk] at hd
  | succ m ih =>
    intro v d fuel pl hd hf
    rcases Deep.open_slice Try.underlying22 hf with ⟨hcs, hx⟩ | ⟨a, len, cap, mm, n, D, Pl, hcs, _, hl, hmx, hm, hx, hall⟩
    · simp only [List.cons.injEq, and_true] at hcs
      rw [hcs]
      exact ⟨[], .nil _ _, Nat.zero_le _, fun n hn => by simp [nodesZ] at hn⟩
    · simp only [List.cons.injEq, and_true] at hcs
      rw [hcs]
      simp only [if_true] at hm
      subst hm
      simp only [Prod.mk.injEq] at hx
      have hD : ∀ i, i < len → Rows.uptoBulk (D i) ≤ m := fun i hi => by
        have h1 : D i ∈ (List.range len).map D := List.mem_map.mpr ⟨i, List.mem_range.mpr hi, rfl⟩
        have h2 := bulk_all_mem h1
        rw [hx.1] at hd
        simp only [Rows.uptoBulk] at hd
        omega
      have each : ∀ i, i < len → ∃ p : Iz × Value, (∀ q, q < 8 → W.cell? ((a.add (i * 8)).add q) = (izc p)[q]?) ∧ IzsAt W (fun g => g < W.heap.size) p.2 p.1.kids ∧ bulk1 p.1 ≤ Rows.uptoBulk (D i) ∧ NodeOk [p.1] := by
        intro i hi
        obtain ⟨cs', h1, h2⟩ := hall i (by omega)
        obtain ⟨z0, z1, s2, s3, z4, z5, b6, k, dk, plk, mk, rfl, h3, h4, hw⟩ := open_item h2
        rw [cellsT8] at h1
        have h4 : Rows.uptoBulk dk + 8 + s2.size + s3.size ≤ Rows.uptoBulk (D i) := h4
        obtain ⟨lk, h5, h6, h7⟩ := ih k dk mk plk (by have := hD i hi; omega) h3
        refine ⟨(.mk z0 z1 s2 s3 z4 z5 b6 lk, k), fun q hq => (World.cells?_some h1).2.2 q hq, h5, ?_, ?_⟩
        · rw [bulk1]
          omega
        · intro n hn
          rw [nodesZ, nodes1Z, nodesZ, List.append_nil] at hn
          rcases List.mem_cons.mp hn with rfl | hn
          · exact hw
          · exact h7 n hn
      have inh : Inhabited (Iz × Value) := ⟨(.mk 0 0 ⟨#[]⟩ ⟨#[]⟩ 0 0 false [], .bool false)⟩
      obtain ⟨X, hX⟩ := Deep.choose_lt each
      have e1 : ((List.range len).map fun i => (X i).1).length = len := by rw [List.length_map, List.length_range]
      refine ⟨(List.range len).map fun i => (X i).1, ?_, ?_, ?_⟩
      · have hh : IzsAt W (fun g => g < W.heap.size) (.slice (some a) ((List.range len).map fun i => (X i).1).length mm) ((List.range len).map fun i => (X i).1) := by
          refine .mk (some a) mm _ ((List.range len).map fun i => (X i).2) (by rw [e1, List.length_map, List.length_range]) (by rw [e1]; exact hl) hmx (fun j hj hj' => ?_) (fun j hj hj' => ?_)
          · rw [e1] at hj
            obtain ⟨h1, _, _, _⟩ := hX j hj
            simp only [List.getElem_map, List.getElem_range]
            obtain ⟨b, o, spot⟩ := a
            have hs : spot = none := by
              have h0 := (hX 0 (by omega)).1 0 (by decide)
              have := World.cell?_spot (h0.trans rfl)
              simpa [Addr.add] using this
            subst hs
            have hcell : ∀ q, q < 8 → W.cell? ⟨b, o + j * 8 + q, none⟩ = (izc (X j))[q]? := fun q hq => by
              have := h1 q hq
              rw [add_at, add_at] at this
              exact this
            have k0 := hcell 0 (by decide)
            exact ⟨b, o, rfl, lt_of_cell (k0.trans rfl), ⟨k0.trans rfl, (hcell 1 (by decide)).trans rfl, (hcell 2 (by decide)).trans rfl, (hcell 3 (by decide)).trans rfl, (hcell 4 (by decide)).trans rfl, (hcell 5 (by decide)).trans rfl, (hcell 6 (by decide)).trans rfl, (hcell 7 (by decide)).trans rfl⟩⟩
          · rw [e1] at hj
            obtain ⟨_, h2, _, _⟩ := hX j hj
            simp only [List.getElem_map, List.getElem_range]
            exact h2
        rw [e1] at hh
        exact hh
      · have h1 := bulk_range (D := D) (X := fun i => (X i).1) (List.range len) (fun j hj => (hX j (List.mem_range.mp hj)).2.2.1)
        rw [hx.1]
        simp only [Rows.uptoBulk]
        omega
      · intro n hn
        obtain ⟨x, hx2, hn⟩ := in_nodesZ hn
        obtain ⟨i, hi, rfl⟩ := List.mem_map.mp hx2
        exact (hX i (List.mem_range.mp hi)).2.2.2 n (by rw [nodesZ, nodesZ, List.append_nil]; exact hn)
/-- a slice of items that came in, as it reads, and how much it holds -/
theorem open_items {H : Type} {enc : TypeId × Value → H} {W : World} {a0 : Option Addr} {len cap : Nat} {d : DataW H} {ps : List MemPlace} (h : DataW.Trod enc Try.prog W 0 (fun _ => true) true 22 (.slice a0 len cap) d ps) :
    ∃ l : List Iz, IzsAt W (fun g => g < W.heap.size) (.slice a0 len cap) l ∧ bulkZ l ≤ Rows.uptoBulk d ∧ NodeOk l := by
  obtain ⟨fuel, hf⟩ := h
  simp [Value.cells] at hf
  exact open_its _ _ _ _ _ (Nat.le_refl _) hf
end Go.Proofs.Ytgpckmolcdafcae

/-
  THE WALK of tnlaw5's RoleAsked; a slice of strings that came in, as it reads.
-/
namespace Go.Proofs.Ytgpckmolcdafcae
open Go.RowKit

section
open Go.ChangeShapes Go.WideShapes Go.ChangeAt
end

end Go.Proofs.Ytgpckmolcdafcae

/-
  ROWS of the call's own: texts, and numbers that may be below zero; append, with all other blocks as they were.
-/
namespace Go.Proofs.Ytgpckmolcdafcae
open Go.RowKit

def zv (k : Int) : Value := .int .i64 k
def OwnZ (w : World) (B : Nat) (v : Value) (l : List Int) : Prop := w.ownsRow B 3 1 v l.length (l.map zv)
def ZsAt (w : World) (v : Value) (l : List Int) : Prop := CellsAt w v l.length (l.map zv)
theorem OwnZ.nil (w : World) (B : Nat) : OwnZ w B (.slice none 0 0) [] := World.ownsRow_nil _ _ _ _
theorem zs_of_owns {w : World} {B : Nat} {v : Value} {l : List Int} (h : OwnZ w B v l) : ZsAt w v l := cells_of_owns h
theorem ZsAt.keeps {w w' : World} {v : Value} {l : List Int} (h : ZsAt w v l) (k : Keeps w w') : ZsAt w' v l := CellsAt.keeps h k
theorem ZsAt.at {w : World} {v : Value} {l : List Int} (h : ZsAt w v l) : ∃ p c, v = .slice p l.length c ∧ l.length ≤ c ∧ c ≤ 9223372036854775807 ∧
    ∀ j (hj : j < l.length), ∃ b o, p = some ⟨b, o, none⟩ ∧ w.cell? ⟨b, o + j, none⟩ = some (.int .i64 l[j]) := by
  obtain ⟨p, c, e, h1, h2, h3, h4⟩ := h
  refine ⟨p, c, e, h1, by unfold maxLen at h2; omega, fun j hj => ?_⟩
  obtain ⟨b, o, e1, e2⟩ := h4 j (zv l[j]) (by simp [hj])
  exact ⟨b, o, e1, e2⟩
theorem box2 (w : World) (x y : Value) (t : Nat) : (w.alloc (.cells #[x, y] t)).cell? ⟨w.heap.size, 0, none⟩ = some x ∧ (w.alloc (.cells #[x, y] t)).cell? ⟨w.heap.size, 1, none⟩ = some y := by
  constructor <;> rw [World.cell?_alloc_new] <;> simp
end Go.Proofs.Ytgpckmolcdafcae

/-
  THE WALK of the reference's Nodes, at items that came in.
-/
namespace Go.Proofs.Ytgpckmolcdafcae
open Go.RowKit

theorem append_zs {wr : World} {ops : Array Oper} {rest : List Oper} {o : Oper} {a : Act} {Q : Exit → Act → World → Prop} (hgd : o.guard = none)
    (s x : Operand) (ho : o.op = Op.call { callee := Callee.builtin Builtin.append, args := #[s, x], argTypes := #[39, 39] }) {B : Nat} {v u : Value} {l m : List Int}
    (hs : a.eval s = v) (hx : a.eval x = u) (hown : OwnZ wr B v l) (hm : ZsAt wr u m) (hB : B ≤ wr.heap.size) (hsz : l.length + m.length ≤ 1000000)
    (h : ∀ v' w1, OwnZ w1 B v' (l ++ m) → Below B wr w1 → wpList Try.prog ops Q rest (a.put o.dst v') w1) :
    wpList Try.prog ops Q (o :: rest) a wr := by
  refine wpList_plain hgd fun K hK => ?_
  obtain ⟨i0, hi, hz0, hz1, hz2⟩ := info_parts infoI
  unfold OwnZ at hown h
  obtain ⟨p, c, rfl, h1, h2, h3, h4⟩ := hm
  rcases h3 with ⟨rfl, rfl⟩ | ⟨b, off, rfl⟩
  · have hm0 : m = [] := List.length_eq_zero_iff.mp (by omega)
    subst hm0
    have hrun := run_append_owned_none (P := Try.prog) (w := wr) B 39 o.type 3 i0 1 Try.underlying39 hi v _ _ hown
    have hk' := hK _ _ (h v wr (by simpa using hown) (Below.refl _ _))
    unfold Oper.wp
    simp [execOp, ho, resolve, invoke, builtin, hs, hx, hrun, Result.andThen]
    exact hk'
  · refine wp_append_own _ s x 39 ho B 3 i0 (.int .i64 0) 1 8 Try.underlying39 hi hz0 hz1 hz2 rfl (by decide) v _ _ hs hown ⟨b, off, none⟩ m.length c (m.map zv) hx (by simp) (fun j y hy => by
        obtain ⟨b', o', e1, e2⟩ := h4 j y hy
        cases e1
        rw [add_at]
        exact e2)
      (fun y hy => by
        simp at hy
        obtain ⟨q, _, rfl⟩ := hy
        rfl) (by unfold maxLen; omega) (by omega) hB ?_
    intro v' w1 k1 k2 _
    exact hK _ _ (h v' w1 (by simpa using k1) ((Below.refl B wr).grown k2 hB (fun j hj => (hown.lt j hj).1)))

theorem append_z2 {wr : World} {ops : Array Oper} {rest : List Oper} {o : Oper} {a : Act} {Q : Exit → Act → World → Prop} (hgd : o.guard = none)
    (s x : Operand) (ho : o.op = Op.call { callee := Callee.builtin Builtin.append, args := #[s, x], argTypes := #[39, 39] }) {B : Nat} {v : Value} {l : List Int} (t : Int)
    (hs : a.eval s = v) (hx : a.eval x = .slice (some ⟨wr.heap.size, 0, none⟩) 1 1) (hown : OwnZ wr B v l) (hB : B ≤ wr.heap.size) (hsz : l.length ≤ 1000000000)
    (h : ∀ v' w1, OwnZ w1 B v' (l ++ [t]) → Below B wr w1 → wr.grownBy w1 v.ownBlock → wpList Try.prog ops Q rest (a.put o.dst v') w1) :
    wpList Try.prog ops Q (o :: rest) a (wr.alloc (.cells #[.int .i64 t] 3)) := by
  obtain ⟨i0, hi, hz0, hz1, hz2⟩ := info_parts infoI
  unfold OwnZ at hown h
  refine wpList_append_own _ hgd s x 39 ho B 3 i0 (.int .i64 0) 1 8 Try.underlying39 hi hz0 hz1 hz2 rfl (by decide) v _ _ hs (hown.alloc _) ⟨_, 0, none⟩ 1 1 [zv t] hx rfl ?_ ?_ ?_ ?_ ?_ ?_
  · exact cell_one_new _ _ _
  · intro u hu; simp at hu; subst hu; rfl
  · unfold maxLen; omega
  · omega
  · simp; omega
  · intro v' w1 h1 h3 _
    have h4 := World.grownBy_alloc wr (.cells #[.int .i64 t] 3) v.ownBlock
    exact h v' w1 (by simpa using h1) (((Below.refl B wr).alloc hB (.cells #[.int .i64 t] 3)).grown h3 (by simp; omega) (fun j hj => (hown.lt j hj).1))
      ⟨h3.os.trans h4.os, h3.tape.trans h4.tape, h3.output.trans h4.output, Nat.le_trans h4.size h3.size, fun q hq hr' => (h3.block q (Nat.lt_of_lt_of_le hq h4.size) hr').trans (h4.block q hq hr')⟩

theorem nodesZ_app : ∀ a b : List Iz, nodesZ (a ++ b) = nodesZ a ++ nodesZ b
  | [], _ => rfl
  | x :: a, b => by rw [List.cons_append, nodesZ, nodesZ, nodesZ_app a b, List.append_assoc]
theorem nodesZ_len (x : Iz) : 1 ≤ (nodes1Z x).length := by rw [nodes1Z_eq, List.length_cons]; omega
theorem topZ_few : ∀ l : List Iz, l.length ≤ (nodesZ l).length
  | [] => Nat.zero_le _
  | x :: l => by
    rw [nodesZ, List.length_append, List.length_cons]
    have h1 := nodesZ_len x
    have h2 := topZ_few l
    omega
theorem nodesZ_lt : ∀ (l : List Iz) (j : Nat) (h : j < l.length), (nodesZ l[j].kids).length < (nodesZ l).length
  | [], _, h => by simp at h
  | x :: l, 0, _ => by
    rw [nodesZ, List.length_append, List.getElem_cons_zero, nodes1Z_eq, List.length_cons]
    omega
  | x :: l, j + 1, h => by
    have := nodesZ_lt l j (by simpa using h)
    rw [nodesZ, List.length_append, List.getElem_cons_succ]
    omega
theorem nodesZ_take : ∀ (l : List Iz) (j : Nat) (h : j < l.length), nodesZ (l.take (j + 1)) = (nodesZ (l.take j) ++ [l[j].node]) ++ nodesZ l[j].kids
  | [], _, h => by simp at h
  | x :: l, 0, _ => by simp [nodesZ, nodes1Z_eq]
  | x :: l, j + 1, h => by
    rw [List.take_succ_cons, List.take_succ_cons, nodesZ, nodesZ, nodesZ_take l j (by simpa using h), List.getElem_cons_succ]
    simp
theorem nodesZ_take_le (l : List Iz) (j : Nat) : (nodesZ (l.take j)).length ≤ (nodesZ l).length := by
  have e : l = l.take j ++ l.drop j := (List.take_append_drop j l).symm
  have h : (nodesZ l).length = (nodesZ (l.take j)).length + (nodesZ (l.drop j)).length := by
    conv => lhs; rw [e, nodesZ_app, List.length_append]
  omega

set_option maxHeartbeats 3200000 in
set_option maxRecDepth 100000 in
theorem unodes_any {P : Nat → Prop} (m : Nat) : ∀ (v : Value) (l : List Iz) (w : World), IzsAt w P v l → (nodesZ l).length ≤ m → (nodesZ l).length ≤ 500000 →
    Calls Try.prog 11 #[v] w fun e w' => ∃ v', e = .returned v' ∧ OwnZ w' w.heap.size v' (nodesZ l) ∧ Below w.heap.size w w' := by
  induction m with
  | zero =>
    intro v l w hr hm hsz
    have hl : l = [] := by
      have := topZ_few l
      exact List.length_eq_zero_iff.mp (by omega)
    subst hl
    obtain ⟨p, c, rfl⟩ := hr.shape
    clear hr
    go_enter Try.func11, Try.ntmps11
    go_wp2_with fail
    refine wp_loop_rounds 1 ?_
    rw [rounds_succ]
    go_wp2_with fail
    go_ret
    exact ⟨_, rfl, OwnZ.nil _ _, Below.refl _ _⟩
  | succ m ih =>
    intro v l w hr hm hsz
    obtain ⟨p, c, rfl, y1, y2, hat⟩ := hr.at
    have T : Hid (∀ j (hj : j < l.length), ∃ b o kv, p = some ⟨b, o, none⟩ ∧ P b ∧ IzAt w b (o + j * 8) l[j] kv ∧ IzsAt w P kv l[j].kids) := hat
    have Z : Hid ((nodesZ l).length ≤ 500000) := hsz
    have ZM : Hid (∀ j (hj : j < l.length), (nodesZ l[j].kids).length ≤ m) := fun j hj => by have := nodesZ_lt l j hj; omega
    clear hr hat hsz hm
    generalize hB0 : w.heap.size = B
    have HB : Hid (w.heap.size = B) := hB0
    clear hB0
    go_enter Try.func11, Try.ntmps11
    go_wp2_with fail
    go_loopw [3, 8] (fun vo i wr => ∃ (j : Nat), j ≤ l.length ∧ i = .int .i64 j ∧ Below B w wr ∧ OwnZ wr B vo (nodesZ (l.take j)))
      (fun _ i _ => l.length - (intOf i).toNat)
    case atStart => exact ⟨0, Nat.zero_le _, rfl, Below.refl _ _, by simpa [nodesZ] using OwnZ.nil w B⟩
    case round =>
      obtain ⟨j, hj, rfl, hb, hv⟩ := hrel
      by_cases hlt : j < l.length
      · obtain ⟨b1, o1, kv, rfl, hb1, hc, hrow⟩ := T.out j hlt
        have KB : Keeps w wr := keeps_below hb (by rw [HB.out]; exact Nat.le_refl _)
        have c0 := KB _ _ hc.c0
        have c1 := KB _ _ hc.c1
        have c2 := KB _ _ hc.c2
        have c3 := KB _ _ hc.c3
        have c4 := KB _ _ hc.c4
        have c5 := KB _ _ hc.c5
        have c6 := KB _ _ hc.c6
        have c7 := KB _ _ hc.c7
        have F : Hid (nodesZ (l.take (j + 1)) = (nodesZ (l.take j) ++ [l[j].node]) ++ nodesZ l[j].kids) := nodesZ_take l j hlt
        have hZj : Hid (((nodesZ (l.take j) ++ [l[j].node]) ++ nodesZ l[j].kids).length ≤ 500000) := by
          show _ ≤ _
          rw [← F.out]
          have h1 := Z.out
          have h2 := nodesZ_take_le l (j + 1)
          omega
        have hsf : (nodesZ (l.take j)).length ≤ 500000 := by have h1 := hZj.out; rw [List.length_append, List.length_append] at h1; omega
        have RW : Hid (IzsAt w P kv l[j].kids) := hrow
        have ZJ : Hid ((nodesZ l[j].kids).length ≤ m) := ZM.out j hlt
        obtain ⟨pk, ck, rfl⟩ := hrow.shape
        clear hc hrow KB
        generalize nodesZ (l.take j) = sf at *
        generalize l[j].kids = ks at *
        generalize l[j].node = x at *
        generalize l[j].role = x1 at *
        generalize l[j].name = x2 at *
        generalize l[j].about = x3 at *
        generalize l[j].level = x4 at *
        generalize l[j].checked = x5 at *
        generalize l[j].off = x6 at *
        obtain ⟨po, co, rfl⟩ := owns_shape hv
        have hBw : B ≤ wr.heap.size := by have h1 := hb.size; rw [HB.out] at h1; exact h1
        go_upto_region 5 with fail
        have hNW := boxv8 wr (.int .i64 x) (.int .i64 x1) (.string x2) (.string x3) (.int .i64 x4) (.int .i64 x5) (.bool x6) (.slice pk ks.length ck) 26
        have BB : Below B w (wr.alloc (.cells #[.int .i64 x, .int .i64 x1, .string x2, .string x3, .int .i64 x4, .int .i64 x5, .bool x6, .slice pk ks.length ck] 26)) := hb.alloc hBw _
        have hv2 : OwnZ (wr.alloc (.cells #[.int .i64 x, .int .i64 x1, .string x2, .string x3, .int .i64 x4, .int .i64 x5, .bool x6, .slice pk ks.length ck] 26)) B (.slice po sf.length co) sf := World.ownsRow.alloc hv _
        have zB : (wr.alloc (.cells #[.int .i64 x, .int .i64 x1, .string x2, .string x3, .int .i64 x4, .int .i64 x5, .bool x6, .slice pk ks.length ck] 26)).heap.size = wr.heap.size + 1 := by simp
        have hvlt : some wr.heap.size ≠ (Value.slice po sf.length co).ownBlock := fun e => by have := (World.ownsRow.lt hv _ e.symm).2; omega
        clear c0 c1 c2 c3 c4 c5 c6 c7 hb hv
        generalize wr.heap.size = G at *
        generalize wr.alloc (.cells #[.int .i64 x, .int .i64 x1, .string x2, .string x3, .int .i64 x4, .int .i64 x5, .bool x6, .slice pk ks.length ck] 26) = wb at *
        have hGv : some G ≠ (Value.slice po sf.length co).ownBlock := hvlt
        go_upto_region 6 with (at_builtin; refine append_z2 (wr := wb) rfl _ _ rfl x rfl (by simp [Act.eval, zB]) hv2 (by omega) (by omega) ?_; intro v1 w1 hv3 n1 gr1; obtain ⟨pv, cv, rfl⟩ := owns_shape hv3)
        have e7 : w1.cell? ⟨G, 7, none⟩ = some (.slice pk ks.length ck) := gr1.cell hNW.2 (by exact hGv)
        have b1' : Below B w w1 := BB.trans n1
        have hw1 : B ≤ w1.heap.size := by have h1 := b1'.size; rw [HB.out] at h1; exact h1
        have CC := ih _ ks w1 (RW.out.under (by rw [HB.out]; exact b1')) ZJ.out (by have h1 := hZj.out; rw [List.length_append] at h1; omega)
        clear gr1 n1 BB hv2 hNW hGv hvlt
        simp only [List.length_append, List.length_singleton] at hv3
        go_wp2_with fail
        refine CC.mono ?_
        clear CC
        rintro e w6 ⟨vz, rfl, hz6, n6⟩
        have hv6 : OwnZ w6 B (.slice pv (sf.length + 1) cv) (sf ++ [x]) := owns_below hv3 n6
        have hB6 : B ≤ w6.heap.size := Nat.le_trans hw1 n6.size
        obtain ⟨pz, cz, rfl⟩ := owns_shape hz6
        have hsum : (sf ++ [x]).length + (nodesZ ks).length ≤ 1000000 := by have h1 := hZj.out; rw [List.length_append] at h1; omega
        go_wp2_with (at_builtin; refine append_zs (wr := w6) rfl _ _ rfl rfl rfl hv6 (zs_of_owns hz6) hB6 hsum ?_; intro v7 w7 hv7 n7; obtain ⟨p7, c7, rfl⟩ := owns_shape hv7)
        go_roundw
        case rel => exact ⟨j + 1, by omega, by go_num, b1'.trans ((n6.mono hw1).trans n7), by rw [F.out]; simpa [Nat.add_assoc, Nat.add_comm] using hv7⟩
        case measure => simp [intOf]; omega
      · obtain rfl : j = l.length := by omega
        rw [List.take_length] at hv
        obtain ⟨po, co, rfl⟩ := owns_shape hv
        go_wp2_with fail
        go_ret
        exact ⟨_, rfl, hv, hb⟩
end Go.Proofs.Ytgpckmolcdafcae

/-
  THE WALK of the reference's Has, at any numbers.
-/
namespace Go.Proofs.Ytgpckmolcdafcae
open Go.RowKit

end Go.Proofs.Ytgpckmolcdafcae

/-
  ITEMS that came in, whose nodes are unlike and none below 0: they read as items do.
-/
namespace Go.Proofs.Ytgpckmolcdafcae
open Go.RowKit

/-- a slice of items, as it reads (where its address points, if it has none, is not said) -/
def RdI (w : World) (P : Nat → Prop) (v : Value) (l : List It) : Prop := IzsAt w P v (ofIts l)
theorem ofIts_len (l : List It) : (ofIts l).length = l.length := by rw [ofIts_map, List.length_map]
theorem RdI.shape {w : World} {P : Nat → Prop} {v : Value} {l : List It} (h : RdI w P v l) : ∃ p c, v = .slice p l.length c := by
  obtain ⟨p, c, e⟩ := IzsAt.shape h
  rw [ofIts_len] at e
  exact ⟨p, c, e⟩
theorem RdI.nil (w : World) (P : Nat → Prop) : RdI w P (.slice none 0 0) [] := IzsAt.nil w P
theorem RdI.frame {w w' : World} {P : Nat → Prop} {v : Value} {l : List It} (h : RdI w P v l) {Q : Nat → Prop} (hf : ∀ g, P g → g < w.heap.size → w'.heap[g]? = w.heap[g]? ∧ Q g) : RdI w' Q v l := IzsAt.frame h hf
theorem RdI.under {w w' : World} {P : Nat → Prop} {v : Value} {l : List It} (h : RdI w P v l) (hb : Below w.heap.size w w') : RdI w' P v l := IzsAt.under h hb
theorem RdI.any {w : World} {P : Nat → Prop} {v : Value} {l : List It} (h : RdI w P v l) {Q : Nat → Prop} (hQ : ∀ g, P g → g < w.heap.size → Q g) : RdI w Q v l := h.frame (fun g hg hlt => ⟨rfl, hQ g hg hlt⟩)
theorem ItsAt.rd {w : World} {P : Nat → Prop} {v : Value} {l : List It} (h : ItsAt w P v l) : RdI w P v l := h.whatever
theorem IzAt.it {w : World} {b o : Nat} {x : It} {kv : Value} (h : IzAt w b o (ofIt x) kv) : ItAt w b o x kv := by
  cases x with
  | mk =>
    rw [ofIt] at h
    exact ⟨h.c0, h.c1, h.c2, h.c3, h.c4, h.c5, h.c6, h.c7⟩
theorem RdI.at {w : World} {P : Nat → Prop} {v : Value} {l : List It} (h : RdI w P v l) : ∃ p c, v = .slice p l.length c ∧ l.length ≤ c ∧ c ≤ 9223372036854775807 ∧
    ∀ j (hj : j < l.length), ∃ b o kv, p = some ⟨b, o, none⟩ ∧ P b ∧ ItAt w b (o + j * 8) l[j] kv ∧ RdI w P kv l[j].kids := by
  obtain ⟨p, c, e, h1, h2, h3⟩ := IzsAt.at h
  rw [ofIts_len] at e h1
  refine ⟨p, c, e, h1, h2, fun j hj => ?_⟩
  have hj' : j < (ofIts l).length := by rw [ofIts_len]; exact hj
  obtain ⟨b, o, kv, g1, g2, g3, g4⟩ := h3 j hj'
  have ex : (ofIts l)[j] = ofIt l[j] := by simp only [ofIts_map, List.getElem_map]
  rw [ex] at g3 g4
  rw [ofIt_kids] at g4
  exact ⟨b, o, kv, g1, g2, g3.it, g4⟩

theorem nodup_map {l : List Nat} (h : (l.map (fun n : Nat => (n : Int))).Nodup) : l.Nodup := by
  induction l with
  | nil => exact List.nodup_nil
  | cons x l ih =>
    rw [List.map_cons, List.nodup_cons] at h
    rw [List.nodup_cons]
    exact ⟨fun hm => h.1 (List.mem_map.mpr ⟨x, hm, rfl⟩), ih h.2⟩
/-- what Alike asks -/
def AlikeZ (l : List Iz) : Prop := (∀ n ∈ nodesZ l, 0 ≤ n) ∧ (nodesZ l).Nodup
theorem AlikeZ.unlike {l : List Iz} (h : AlikeZ l) : Unlike (toIts l) := by
  have e : nodesZ l = (nodesL (toIts l)).map (fun n : Nat => (n : Int)) := by rw [← nodes_of.2, of_to.2 l h.1]
  have h2 := h.2
  rw [e] at h2
  unfold Unlike
  exact nodup_map h2
theorem AlikeZ.rd {w : World} {P : Nat → Prop} {v : Value} {l : List Iz} (h : AlikeZ l) (hr : IzsAt w P v l) : RdI w P v (toIts l) := by
  unfold RdI
  rw [of_to.2 l h.1]
  exact hr
theorem AlikeZ.nodes {l : List Iz} (h : AlikeZ l) : nodesZ l = (nodesL (toIts l)).map (fun n : Nat => (n : Int)) := by rw [← nodes_of.2, of_to.2 l h.1]
end Go.Proofs.Ytgpckmolcdafcae

/-
  STANDS in memory: a box with a row of spots and a map; each spot's list of kids in a block by itself.
-/
namespace Go.Proofs.Ytgpckmolcdafcae
open Go.RowKit Go.Maps

theorem infoSp : (Try.prog.info? 59).map (fun i => (i.zero, i.size, i.bytes)) = some (some (.agg #[.int .i64 0, .int .i64 0, .string ⟨#[]⟩, .string ⟨#[]⟩, .int .i64 0, .int .i64 0, .bool false, .slice none 0 0, .int .i64 0, .slice none 0 0]), 10, 128) := by kernel_rfl

def spc (p : Sp × Value) : List Value := [iv p.1.it.node, .int .i64 p.1.it.role, .string p.1.it.name, .string p.1.it.about, .int .i64 p.1.it.level, .int .i64 p.1.it.checked, .bool p.1.it.off, .slice none 0 0, .int .i64 p.1.up, p.2]
theorem spc_len (p : Sp × Value) : (spc p).length = 10 := rfl
def cellsP (l : List Sp) (kvs : List Value) : List Value := (l.zip kvs).flatMap spc
theorem cellsP_len (l : List Sp) (kvs : List Value) (h : kvs.length = l.length) : (cellsP l kvs).length = l.length * 10 := by
  unfold cellsP
  rw [flat_len spc 10 spc_len, List.length_zip, h, Nat.min_self]
theorem cellsP_at (l : List Sp) (kvs : List Value) (h : kvs.length = l.length) (j i : Nat) (hj : j < l.length) (hi : i < 10) : (cellsP l kvs)[j * 10 + i]? = (spc (l[j], kvs[j]'(by omega)))[i]? := by
  unfold cellsP
  rw [flat_at spc 10 spc_len _ _ _ hi, List.getElem?_eq_getElem (by rw [List.length_zip]; omega), List.getElem_zip]
  rfl
theorem cellsP_app (l m : List Sp) (ks ms : List Value) (h : ks.length = l.length) : cellsP (l ++ m) (ks ++ ms) = cellsP l ks ++ cellsP m ms := by
  unfold cellsP
  rw [List.zip_append h.symm, List.flatMap_append]
/-- one spot is another one: its cells -/
theorem cellsP_set : ∀ (l : List Sp) (kvs : List Value) (j : Nat) (s : Sp) (v : Value), kvs.length = l.length → j < l.length → cellsP (l.set j s) (kvs.set j v) = (cellsP l kvs).take (j * 10) ++ spc (s, v) ++ (cellsP l kvs).drop (j * 10 + 10)
  | [], _, _, _, _, _, h => by simp at h
  | x :: l, [], _, _, _, h, _ => by simp at h
  | x :: l, k :: ks, 0, s, v, _, _ => by
    show spc (s, v) ++ cellsP l ks = (spc (x, k) ++ cellsP l ks).take 0 ++ spc (s, v) ++ (spc (x, k) ++ cellsP l ks).drop 10
    rw [List.drop_append_of_le_length (by rw [spc_len]; omega), List.drop_of_length_le (by rw [spc_len]; omega)]
    simp
  | x :: l, k :: ks, j + 1, s, v, h, hj => by
    have ih := cellsP_set l ks j s v (by simpa using h) (by simpa using hj)
    show spc (x, k) ++ cellsP (l.set j s) (ks.set j v) = (spc (x, k) ++ cellsP l ks).take ((j + 1) * 10) ++ spc (s, v) ++ (spc (x, k) ++ cellsP l ks).drop ((j + 1) * 10 + 10)
    have e1 : (j + 1) * 10 = (spc (x, k)).length + j * 10 := by rw [spc_len]; omega
    have e2 : (j + 1) * 10 + 10 = (spc (x, k)).length + (j * 10 + 10) := by rw [spc_len]; omega
    rw [ih, e2, e1, List.take_length_add_append, List.drop_length_add_append]
    simp
/-- one cell of one spot -/
theorem cellsP_one (l : List Sp) (kvs : List Value) (j : Nat) (s : Sp) (v : Value) (h : kvs.length = l.length) (hj : j < l.length) (i : Nat) (hi : i < 10) (u : Value) (e : spc (s, v) = (spc (l[j], kvs[j]'(by omega))).set i u) : cellsP (l.set j s) (kvs.set j v) = (cellsP l kvs).set (j * 10 + i) u := by
  rw [cellsP_set l kvs j s v h hj]
  apply List.ext_getElem?
  intro q
  have hl := cellsP_len l kvs h
  have hq : q < j * 10 ∨ (j * 10 ≤ q ∧ q < j * 10 + 10) ∨ j * 10 + 10 ≤ q := by omega
  have h10 : j * 10 + 10 ≤ (cellsP l kvs).length := by omega
  have ht : ((cellsP l kvs).take (j * 10)).length = j * 10 := by rw [List.length_take]; omega
  rcases hq with hq | ⟨h1, h2⟩ | hq
  · rw [List.append_assoc, List.getElem?_append_left (by omega), List.getElem?_take, if_pos hq, List.getElem?_set_ne (by omega)]
  · obtain ⟨r, rfl⟩ : ∃ r, q = j * 10 + r := ⟨q - j * 10, by omega⟩
    rw [List.append_assoc, List.getElem?_append_right (by omega), ht, List.getElem?_append_left (by rw [spc_len]; omega), e]
    by_cases hr : i = r
    · subst hr
      rw [List.getElem?_set_self (by omega)]
      rw [show j * 10 + i - j * 10 = i by omega, List.getElem?_set_self (by rw [spc_len]; omega)]
    · rw [show j * 10 + r - j * 10 = r by omega, List.getElem?_set_ne hr, List.getElem?_set_ne (by omega), cellsP_at l kvs h j r hj (by omega)]
  · rw [List.getElem?_append_right (by rw [List.length_append, ht, spc_len]; omega), List.length_append, ht, spc_len, List.getElem?_drop, List.getElem?_set_ne (by omega)]
    congr 1
    omega
/-! ### the map of numbers -/
theorem keyH : Keyed Try.prog 3 := int_keyed Try.underlying3
/-- how an int reads -/
def rj : Value → Option (DataW Unit × List MemPlace)
  | .int .i64 x => some (.lit (.int .i64 x), [])
  | _ => none
/-- block b is a map that holds just the numbers of nm -/
def NumAt (w : World) (b c : Nat) (nm : Nm) : Prop :=
  ∃ D, w.ownsMap Try.prog 3 rj b c D ∧ ∀ k : Nat, Maps.has D (.int .i64 (k : Int)) = (nm k).isSome ∧ D.atKey (.int .i64 (k : Int)) (.lit (.int .i64 0)) = .lit (.int .i64 (ixOf nm k : Nat))
theorem num_made (w : World) : NumAt (w.alloc (.map #[] 0)) w.heap.size 0 (fun _ => none) := ⟨.map [], World.ownsMap_made w Try.prog 3 rj, fun k => ⟨by simp [Maps.has], rfl⟩⟩
theorem NumAt.same {w w' : World} {b c : Nat} {nm : Nm} (h : NumAt w b c nm) (hb : w'.heap[b]? = w.heap[b]?) : NumAt w' b c nm := by
  obtain ⟨D, ⟨es, clock, h1, h2⟩, h4⟩ := h
  exact ⟨D, ⟨es, clock, by rw [hb]; exact h1, h2⟩, h4⟩
theorem NumAt.lt {w : World} {b c : Nat} {nm : Nm} (h : NumAt w b c nm) : b < w.heap.size := by
  obtain ⟨D, h1, _⟩ := h
  exact h1.lt
theorem NumAt.look {w : World} {b c : Nat} {nm : Nm} (h : NumAt w b c nm) (k : Nat) (hk : k < 9223372036854775808) : (Instr.lookup 42 (.map (some b)) (.int .i64 (k : Int)) true).run Try.prog w = .ok (.tuple #[.int .i64 (ixOf nm k : Nat), .bool (nm k).isSome]) w := by
  obtain ⟨D, h1, h3⟩ := h
  obtain ⟨v, ps, hrun, hv⟩ := h1.look_ok (t := 42) keyH Try.underlying42 (Try.zeroValue3 w) (zd := .lit (.int .i64 0)) (zp := []) rfl (keyOf_int_mk Try.underlying3 (WalkArith.wf_i64 (n := (k : Int)) (by omega)))
  rw [(h3 k).2] at hv
  rw [(h3 k).1] at hrun
  rw [hrun]
  cases v with
  | int K x =>
    cases K <;> first
      | (simp only [rj, Option.some.injEq, Prod.mk.injEq] at hv
         have : x = ((ixOf nm k : Nat) : Int) := by simpa using hv.1
         rw [this])
      | (simp [rj] at hv)
  | _ => cases hv
set_option maxRecDepth 100000 in
theorem NumAt.drop {w : World} {b c : Nat} {nm : Nm} (h : NumAt w b c nm) (k : Nat) (hk : k < 9223372036854775808) (ty : TypeId) :
    ∃ w', (Builtin.delete_ #[42, 3] ty #[.map (some b), .int .i64 (k : Int)]).run Try.prog w = .ok (.tuple #[]) w' ∧ NumAt w' b c (updN nm k none) ∧ w.grownBy w' (some b) := by
  obtain ⟨D, h1, h3⟩ := h
  obtain ⟨w', hrun, g1, g2⟩ := h1.drop (t := 42) (e := 3) keyH Try.underlying42 (keyOf_int_mk Try.underlying3 (WalkArith.wf_i64 (n := (k : Int)) (by omega))) ty
  refine ⟨w', hrun, ⟨_, g1, fun j => ?_⟩, g2.grown⟩
  by_cases e : j = k
  · subst e
    rw [has_del_same, atKey_del_same, updN_same]
    exact ⟨rfl, by rw [show ixOf (updN nm j none) j = 0 by simp [ixOf, updN]]; rfl⟩
  · have hne : (Lit.int .i64 (j : Int)) ≠ .int .i64 (k : Int) := fun x => e (by injection x with _ x; omega)
    rw [has_del_other hne, atKey_del_other hne, updN_other e, ix_upd_other e]
    exact h3 j
set_option maxRecDepth 100000 in
theorem NumAt.store {w : World} {b c : Nat} {nm : Nm} (h : NumAt w b c nm) (hc : c ≤ 1000000000) (k v : Nat) (hk : k < 9223372036854775808) :
    ∃ w', (Instr.mapUpdate 42 (.map (some b)) (.int .i64 (k : Int)) (.int .i64 (v : Int))).run Try.prog w = .ok () w' ∧ NumAt w' b (c + 1) (updN nm k (some v)) ∧ w.grownBy w' (some b) := by
  obtain ⟨D, h1, h3⟩ := h
  obtain ⟨w', hrun, g1, g2⟩ := h1.store (t := 42) (e := 3) keyH Try.underlying42 (by unfold maxLen; omega) (keyOf_int_mk Try.underlying3 (WalkArith.wf_i64 (n := (k : Int)) (by omega))) (val := .int .i64 (v : Int)) (d := .lit (.int .i64 (v : Int))) (ps := []) rfl
  refine ⟨w', hrun, ⟨_, g1, fun j => ?_⟩, g2.grown⟩
  by_cases e : j = k
  · subst e
    rw [has_put_same h1.isMap (by trivial), atKey_put_same h1.isMap (by trivial), updN_same, ix_upd_same]
    exact ⟨rfl, rfl⟩
  · have hne : (Lit.int .i64 (j : Int)) ≠ .int .i64 (k : Int) := fun x => e (by injection x with _ x; omega)
    rw [has_put_other hne, atKey_put_other hne, updN_other e, ix_upd_other e]
    exact h3 j

/-! ### a stand -/
structure Ax where
  S : Nat
  g : Nat
  M : Nat
  cap : Nat
  ar : List Sp
  kvs : List Value
  nm : Nm
/-- the blocks that it takes -/
def Ax.foot (x : Ax) (b : Nat) : Prop := b = x.S ∨ b = x.g ∨ b = x.M ∨ ∃ v ∈ x.kvs, v.ownBlock = some b
structure StAt (w : World) (x : Ax) : Prop where
  s0 : w.cell? ⟨x.S, 0, none⟩ = some (.slice (some ⟨x.g, 0, none⟩) x.ar.length x.cap)
  s1 : w.cell? ⟨x.S, 1, none⟩ = some (.map (some x.M))
  f0 : w.frozen? ⟨x.S, 0, none⟩ = false
  f1 : w.frozen? ⟨x.S, 1, none⟩ = false
  row : w.ownsRow 0 59 10 (.slice (some ⟨x.g, 0, none⟩) x.ar.length x.cap) x.ar.length (cellsP x.ar x.kvs)
  len : x.kvs.length = x.ar.length
  kids : ∀ j (h : j < x.ar.length) (h' : j < x.kvs.length), OwnI w 0 x.kvs[j] x.ar[j].kids
  map : NumAt w x.M x.ar.length x.nm
  sg : x.S ≠ x.g
  sM : x.S ≠ x.M
  gM : x.g ≠ x.M
  kS : ∀ v ∈ x.kvs, ∀ b, v.ownBlock = some b → b ≠ x.S ∧ b ≠ x.g ∧ b ≠ x.M
  one : ∀ i j (hi : i < x.kvs.length) (hj : j < x.kvs.length) b, x.kvs[i].ownBlock = some b → x.kvs[j].ownBlock = some b → i = j

/-- all blocks that it doesn't take are as they were; what it takes it took, or wasn't there -/
structure Fw (x x' : Ax) (w w' : World) : Prop where
  S : x'.S = x.S
  os : w'.os = w.os
  tape : w'.tape = w.tape
  output : w'.output = w.output
  size : w.heap.size ≤ w'.heap.size
  block : ∀ k, k < w.heap.size → ¬ x.foot k → w'.heap[k]? = w.heap[k]?
  foot : ∀ k, x'.foot k → x.foot k ∨ w.heap.size ≤ k
theorem Fw.refl (x : Ax) (w : World) : Fw x x w w := ⟨rfl, rfl, rfl, rfl, Nat.le_refl _, fun _ _ _ => rfl, fun _ h => Or.inl h⟩
theorem Fw.trans {x y z : Ax} {a b c : World} (h : Fw x y a b) (k : Fw y z b c) : Fw x z a c :=
  ⟨k.S.trans h.S, k.os.trans h.os, k.tape.trans h.tape, k.output.trans h.output, Nat.le_trans h.size k.size,
    fun i hi hn => (k.block i (Nat.lt_of_lt_of_le hi h.size) (fun hf => by rcases h.foot i hf with h1 | h1; exact hn h1; omega)).trans (h.block i hi hn),
    fun i hi => by
      rcases k.foot i hi with h1 | h1
      · exact h.foot i h1
      · exact Or.inr (Nat.le_trans h.size h1)⟩
theorem Fw.below {x : Ax} {w w' : World} (h : Below w.heap.size w w') : Fw x x w w' := ⟨rfl, h.os, h.tape, h.output, h.size, fun k hk _ => h.block k hk, fun _ h => Or.inl h⟩
theorem Fw.cell {x x' : Ax} {w w' : World} (h : Fw x x' w w') {p : Addr} {v : Value} (hv : w.cell? p = some v) (hp : ¬ x.foot p.block) : w'.cell? p = some v := by
  rw [← hv]
  exact World.cell?_of_block (h.block p.block (lt_of_cell hv) hp)
theorem Fw.to_below {x x' : Ax} {w w' : World} (h : Fw x x' w w') {C : Nat} (hC : C ≤ w.heap.size) (hf : ∀ k, x.foot k → C ≤ k) : Below C w w' :=
  ⟨h.os, h.tape, h.output, h.size, fun k hk => h.block k (by omega) (fun hx => by have := hf k hx; omega)⟩
theorem Fw.rd {x x' : Ax} {w w' : World} (h : Fw x x' w w') {v : Value} {l : List It} (hr : RdI w (fun g => ¬ x.foot g) v l) : RdI w' (fun g => ¬ x'.foot g) v l :=
  hr.frame (fun g hg hlt => ⟨h.block g hlt hg, fun hf => by rcases h.foot g hf with h1 | h1; exact hg h1; omega⟩)
theorem Fw.owns {x x' : Ax} {w w' : World} (h : Fw x x' w w') {C e k n : Nat} {v : Value} {xs : List Value} (ho : w.ownsRow C e k v n xs) (hv : ∀ b, v.ownBlock = some b → ¬ x.foot b) : w'.ownsRow C e k v n xs := by
  have hlt := ho.lt
  obtain ⟨hl, hz⟩ := ho
  refine ⟨hl, ?_⟩
  rcases hz with h5 | ⟨g, cap, cur, rfl, h3, h6, h7⟩
  · exact Or.inl h5
  · refine Or.inr ⟨g, cap, cur, rfl, h3, ?_, h7⟩
    rw [h.block g (hlt g rfl).2 (hv g rfl)]
    exact h6

theorem StAt.lt {w : World} {x : Ax} (h : StAt w x) : ∀ k, x.foot k → k < w.heap.size := fun k hk => by
  rcases hk with rfl | rfl | rfl | ⟨v, hv, e⟩
  · exact lt_of_cell h.s0
  · exact (h.row.lt _ rfl).2
  · exact h.map.lt
  · obtain ⟨j, hj, rfl⟩ := List.mem_iff_getElem.mp hv
    exact (World.ownsRow.lt (h.kids j (by rw [← h.len]; exact hj) hj) k e).2
theorem StAt.same {w w' : World} {x : Ax} (h : StAt w x) (hb : ∀ k, x.foot k → w'.heap[k]? = w.heap[k]?) : StAt w' x := by
  have own : ∀ {C e k n : Nat} {v : Value} {xs : List Value}, w.ownsRow C e k v n xs → (∀ b, v.ownBlock = some b → x.foot b) → w'.ownsRow C e k v n xs := fun {C e k n v xs} ho hf => by
    obtain ⟨hl, hz⟩ := ho
    refine ⟨hl, ?_⟩
    rcases hz with h5 | ⟨g, cap, cur, rfl, h3, h6, h7⟩
    · exact Or.inl h5
    · refine Or.inr ⟨g, cap, cur, rfl, h3, ?_, h7⟩
      rw [hb g (hf g rfl)]
      exact h6
  have fS := hb x.S (Or.inl rfl)
  refine ⟨?_, ?_, ?_, ?_, own h.row (fun b e => Or.inr (Or.inl ?_)), h.len, fun j hj hj' => own (h.kids j hj hj') (fun b e => Or.inr (Or.inr (Or.inr ⟨_, List.getElem_mem hj', e⟩))), h.map.same (hb _ (Or.inr (Or.inr (Or.inl rfl)))), h.sg, h.sM, h.gM, h.kS, h.one⟩
  · rw [← h.s0]; exact World.cell?_of_block fS
  · rw [← h.s1]; exact World.cell?_of_block fS
  · rw [← h.f0]; simp only [World.frozen?, fS]
  · rw [← h.f1]; simp only [World.frozen?, fS]
  · have e : x.g = b := by simpa [Value.ownBlock] using e
    exact e.symm
theorem StAt.below {w w' : World} {x : Ax} (h : StAt w x) (hb : Below w.heap.size w w') : StAt w' x := h.same (fun k hk => hb.block k (h.lt k hk))
theorem StAt.drew {w : World} {x : Ax} (h : StAt w x) : StAt w.drew x := h.same (fun _ _ => rfl)
end Go.Proofs.Ytgpckmolcdafcae
