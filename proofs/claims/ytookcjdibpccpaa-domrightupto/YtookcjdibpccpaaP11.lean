/-
  OWN WORK: Dbr, Dbs, Dch, Dmb, Dbc, Dbg, Dcy, Dlv, Neq.
-/
import Derived.Test.YtookcjdibpccpaaP9
import Derived.Test.YtookcjdibpccpaaP4
import Derived.Test.YtookcjdibpccpaaP10
import Derived.Test.YtookcjdibpccpaaP5
import Derived.Test.YtookcjdibpccpaaP6
import Derived.Test.YtookcjdibpccpaaP1
import Derived.Laws.StructEq
/-
  PLAIN MATHEMATICS: what dom makes of a good document is what the reference makes: a node is made.
-/
namespace Go.Proofs.Ytookcjdibpccpaa
open Tn

theorem lastAt_none {l : List Nat} {b : Int} (h : ∀ j (hj : j < l.length), ¬ ((l[j] : Int) = b)) : ∀ k, k ≤ l.length → lastAt l b k = -1
  | 0, _ => rfl
  | k + 1, hk => by
    rw [lastAt, if_neg (by rw [List.getElem?_eq_getElem (by omega)]; exact h k (by omega))]
    exact lastAt_none h k (by omega)
theorem lastAt_one {l : List Nat} {b : Int} {j : Nat} (hj : j < l.length) (e : (l[j] : Int) = b) (hn : l.Nodup) : ∀ k, k ≤ l.length → j < k → lastAt l b k = (j : Int)
  | 0, _, h => by omega
  | k + 1, hk, h => by
    rw [lastAt]
    by_cases ek : k = j
    · subst ek
      rw [if_pos (by rw [List.getElem?_eq_getElem hj]; exact e)]
    · rw [if_neg (by
        rw [List.getElem?_eq_getElem (by omega)]
        intro e2
        have e3 : l[k]'(by omega) = l[j] := by
          have : ((l[k]'(by omega) : Nat) : Int) = (l[j] : Int) := by rw [e]; exact e2
          omega
        exact ek ((List.getElem_inj hn).mp e3))]
      exact lastAt_one hj e hn k (by omega) (by omega)
theorem place_putAt {l : List Nat} (hn : l.Nodup) (b : Int) : place l b = putAt l b := by
  unfold place putAt
  split
  · rcases idx_cases2 (fun k => (k : Int) == b) l with ⟨e, hno⟩ | ⟨j, hj, e, hp, _⟩
    · rw [e]
      exact lastAt_none (fun j hj h => by have := hno l[j] (List.getElem_mem hj); simp [h] at this) _ (Nat.le_refl _)
    · rw [e]
      exact lastAt_one hj (by simpa using hp) hn _ (Nat.le_refl _) hj
  · rfl

theorem addIn_withd (d : Dc) (x : Chg) : addIn d x = withd d (free d) (newNd x) := by
  unfold addIn withd
  split
  · rename_i e
    rw [e, List.set_append_right _ _ (Nat.le_refl _)]
    simp
  · rfl
theorem addIn_nd (d : Dc) (x : Chg) (hf : free d ≤ d.length) (j : Nat) : nd (addIn d x) j = if j = free d then newNd x else nd d j := by
  rw [addIn_withd d x]
  exact nd_withd d (free d) (newNd x) hf j

/-- two documents of one length whose nodes are the same are one -/
theorem doc_ext {a b : Dc} (hl : a.length = b.length) (h : ∀ j, nd a j = nd b j) : a = b := by
  apply List.ext_getElem hl
  intro i h1 h2
  have := h i
  unfold nd at this
  rw [List.getElem?_eq_getElem h1, List.getElem?_eq_getElem h2] at this
  exact this

theorem nd_setL (d : Dc) (k : Nat) (n : Nd) (hk : k < d.length) (j : Nat) : nd (d.set k n) j = if j = k then n else nd d j := by
  unfold nd
  rw [List.getElem?_set]
  by_cases e : k = j
  · subst e
    rw [if_pos rfl, if_pos hk, if_pos rfl]
    rfl
  · rw [if_neg e, if_neg (fun h => e h.symm)]

theorem len_withd (d : Dc) (k : Nat) (n : Nd) (hk : k ≤ d.length) : (withd d k n).length = max d.length (k + 1) := by
  unfold withd
  split
  · simp; omega
  · simp; omega

theorem made_newNd (x : Chg) (hk : x.kind = 1 ∨ x.kind = 2) (m : Nat) : made (newN x) m false = { newNd x with up := (m : Int), inS := false } := by
  unfold made newN newNd isText
  rcases hk with h | h <;> rw [h] <;> rfl

theorem li_addIn {d : Dc} (h : Tn.Good d) (x : Chg) (j : Nat) (t : Bool) : liD (addIn d x) j t = liD d j t := by
  obtain ⟨hf1, hf2⟩ := free_spec d
  unfold liD
  rw [addIn_nd d x hf1]
  by_cases e : j = free d
  · rw [if_pos e, e, h.dead _ hf2]
    unfold newNd
    split <;> (cases t <;> rfl)
  · rw [if_neg e]

/-- the document in which the node was made -/
theorem put_make {d : Dc} (h : Tn.Good d) (x : Chg) (hk : x.kind = 1 ∨ x.kind = 2) {m : Nat} (hm : lvD d m = true) (b : Int) :
    putDoc (addIn d x) (free d) m b false = put1 (withd d (free d) (made (newN x) m false)) (free d) m b false := by
  obtain ⟨hf1, hf2⟩ := free_spec d
  obtain ⟨r, hr, hR⟩ := h.tr
  have hml := lv_lt hm
  have hmk : m ≠ free d := fun e => by rw [e, hf2] at hm; cases hm
  have hla : (addIn d x).length = max d.length (free d + 1) := by rw [addIn_withd d x]; exact len_withd _ _ _ hf1
  have hm1 : m < (addIn d x).length := by omega
  have hf3 : free d < (addIn d x).length := by omega
  have hm2 : m < (withd d (free d) (made (newN x) m false)).length := by rw [len_withd _ _ _ hf1]; omega
  have hlist : listOf (nd (withd d (free d) (made (newN x) m false)) m) false = listOf (nd d m) false := by rw [nd_withd _ _ _ hf1, if_neg hmk]
  have hlist2 : listOf (nd (addIn d x) m) false = listOf (nd d m) false := by rw [addIn_nd d x hf1, if_neg hmk]
  have hpl : place (listOf (nd d m) false) b = putAt (listOf (nd d m) false) b := place_putAt (hr.1.nodup m false) b
  refine doc_ext ?_ fun j => ?_
  · rw [put1_len _ _ _ _ _ hm2, len_withd _ _ _ hf1]
    unfold putDoc putIn
    rw [List.length_set, List.length_set, hla]
  · rw [put1_nd _ _ _ _ _ hm2, hlist, hpl, nd_withd _ _ _ hf1, nd_withd _ _ _ hf1, if_neg hmk, made_newNd x hk]
    unfold putDoc
    have hpi : ∀ i, nd (putIn (addIn d x) (free d) m b false) i = if i = m then setList (nd d m) false (insertAt (listOf (nd d m) false) (putAt (listOf (nd d m) false) b).toNat (free d)) else nd (addIn d x) i := by
      intro i
      unfold putIn
      rw [nd_setL _ _ _ hm1, hlist2, addIn_nd d x hf1 m, if_neg hmk]
    have hpk : nd (putIn (addIn d x) (free d) m b false) (free d) = newNd x := by
      rw [hpi, if_neg (fun e => hmk e.symm), addIn_nd d x hf1, if_pos rfl]
    rw [nd_setL _ _ _ (by unfold putIn; rw [List.length_set]; exact hf3), hpk]
    by_cases e : j = free d
    · skip
      simp only [e, if_true]
      rw [if_neg (fun e3 => hmk e3.symm)]
    · rw [if_neg e, hpi, addIn_nd d x hf1, if_neg e, if_neg e]
end Go.Proofs.Ytookcjdibpccpaa

/-
  PLAIN MATHEMATICS: the document in which a node was made; and what is left when it goes.
-/
namespace Go.Proofs.Ytookcjdibpccpaa
open Tn

/-- lists may lose nodes: all roads still end -/
theorem tame_sub {d d' : Dc} (h : Tame d) (hl : d'.length = d.length) (hv : ∀ k, (nd d' k).live = (nd d k).live) (hu : ∀ k, (nd d' k).up = (nd d k).up) (hs : ∀ k s, (liD d' k s).Sublist (liD d k s)) : Tame d' := by
  have hi : ∀ n, isN d' n false = isN d n false := by
    intro n
    unfold isN
    rw [hl, hv]
    simp
  have hp : ∀ f n, path f d' n = path f d n := by
    intro f
    induction f with
    | zero => intro n; rfl
    | succ f ih => intro n; rw [path, path, hi, hu, ih]
  have hsh : ∀ k, (nd d' k).shadow.Sublist (nd d k).shadow := fun k => hs k true
  have hki : ∀ k, (nd d' k).kids.Sublist (nd d k).kids := fun k => hs k false
  have ha : ∀ f n, (all f d' n).Sublist (all f d n) := by
    intro f
    induction f with
    | zero => intro n; exact List.Sublist.refl _
    | succ f ih =>
      intro n
      have fm : ∀ {l l' : List Nat}, l'.Sublist l → (l'.flatMap (all f d')).Sublist (l.flatMap (all f d)) := by
        intro l l' hll
        induction hll with
        | slnil => exact List.Sublist.refl _
        | cons a _ ih2 => rw [List.flatMap_cons]; exact ih2.trans (List.sublist_append_right _ _)
        | cons_cons a _ ih2 => rw [List.flatMap_cons, List.flatMap_cons]; exact (ih a).append ih2
      rw [all, all, hi]
      split
      · exact ((fm (hsh n)).append (fm (hki n))).cons_cons n
      · exact List.Sublist.refl _
  refine ⟨by rw [hl]; exact h.len, fun n => ?_, fun f n => ?_, fun k hk => ?_⟩
  · unfold pathOf
    rw [hl, hp]
    exact h.path n
  · rw [hl]
    exact Nat.le_trans (ha f n).length_le (h.few f n)
  · have he : ∀ f k, Tn.Ends f d k → Tn.Ends f d' k := by
      intro f
      induction f with
      | zero => intro k hk; exact hk
      | succ f ih =>
        intro k hk
        exact ⟨by rw [hl]; exact hk.1, fun j hj => ih j (hk.2.1 j ((hsh k).subset hj)), fun j hj => ih j (hk.2.2 j ((hki k).subset hj))⟩
    refine he _ k (h.ends k ?_)
    unfold lvD at hk ⊢
    rw [← hv]
    exact hk

variable {d : Dc} {x : Chg} {m : Nat} {b : Int}

theorem make_len (h : Tn.Good d) (hk : x.kind = 1 ∨ x.kind = 2) (hm : lvD d m = true) : (putDoc (addIn d x) (free d) m b false).length = max d.length (free d + 1) := by
  obtain ⟨hf1, _⟩ := free_spec d
  have hml := lv_lt hm
  rw [put_make h x hk hm b, put1_len _ _ _ _ _ (by rw [len_withd _ _ _ hf1]; omega), len_withd _ _ _ hf1]

theorem make_nd (h : Tn.Good d) (hk : x.kind = 1 ∨ x.kind = 2) (hm : lvD d m = true) (j : Nat) :
    nd (putDoc (addIn d x) (free d) m b false) j = if j = m then { nd d m with kids := insertAt (nd d m).kids (putAt (nd d m).kids b).toNat (free d) } else if j = free d then { newNd x with up := (m : Int), inS := false } else nd d j := by
  obtain ⟨hf1, hf2⟩ := free_spec d
  obtain ⟨r, hr, _⟩ := h.tr
  have hml := lv_lt hm
  have hmk : m ≠ free d := fun e => by rw [e, hf2] at hm; cases hm
  have hpl : place (nd d m).kids b = putAt (nd d m).kids b := place_putAt (hr.1.nodup m false) b
  rw [put_make h x hk hm b, put1_nd _ _ _ _ _ (by rw [len_withd _ _ _ hf1]; omega), nd_withd _ _ _ hf1, nd_withd _ _ _ hf1, if_neg hmk, made_newNd x hk]
  unfold setList listOf
  simp only [Bool.false_eq_true, if_false]
  rw [hpl]

theorem make_TrD (h : Tn.Good d) {r : Nat → Nat} (hr : TrD d r) (hk : x.kind = 1 ∨ x.kind = 2) (hm : lvD d m = true) : TrD (putDoc (addIn d x) (free d) m b false) (fun j => if j = free d then r m + 1 else r j) := by
  rw [put_make h x hk hm b]
  exact make_tr h hr (newN_new x) hm b false

theorem make_lv (h : Tn.Good d) (hk : x.kind = 1 ∨ x.kind = 2) (hm : lvD d m = true) : lvD (putDoc (addIn d x) (free d) m b false) (free d) = true := by
  obtain ⟨hf1, hf2⟩ := free_spec d
  have hmk : m ≠ free d := fun e => by rw [e, hf2] at hm; cases hm
  unfold lvD
  rw [make_nd h hk hm, if_neg (fun e => hmk e.symm), if_pos rfl]
  unfold newNd
  split <;> rfl

theorem make_li (h : Tn.Good d) (hk : x.kind = 1 ∨ x.kind = 2) (hm : lvD d m = true) (j : Nat) (t : Bool) : (liD (putDoc (addIn d x) (free d) m b false) j t).length ≤ 13 := by
  unfold liD
  rw [make_nd h hk hm]
  split
  · cases t
    · show (insertAt (nd d m).kids _ _).length ≤ 13
      rw [len_insertAt]
      have := h.small m false
      unfold liD at this
      simp only [listOf, Bool.false_eq_true, if_false] at this
      omega
    · have := h.small m true
      unfold liD at this
      simp only [listOf, if_true] at this ⊢
      omega
  · split
    · unfold newNd
      split <;> (cases t <;> simp [listOf, zero])
    · have := h.small j t
      unfold liD at this
      omega

theorem make_tame (h : Tn.Good d) (hk : x.kind = 1 ∨ x.kind = 2) (hm : lvD d m = true) : Tame (putDoc (addIn d x) (free d) m b false) := by
  obtain ⟨r, hr, hR⟩ := h.tr
  obtain ⟨hf1, hf2⟩ := free_spec d
  have hf0 : free d ≠ 0 := fun e => by rw [e, hr.1.root] at hf2; cases hf2
  have hmk : m ≠ free d := fun e => by rw [e, hf2] at hm; cases hm
  have hlen := h.len
  refine tame_of (make_TrD h hr hk hm) (fun k hk' => ?_) ?_ (by rw [make_len h hk hm]; omega)
  · by_cases e : k = free d
    · rw [if_pos e]
      have := hR m hm
      omega
    · rw [if_neg e]
      have hkd : lvD d k = true := by
        unfold lvD at hk' ⊢
        rw [make_nd h hk hm] at hk'
        by_cases e2 : k = m
        · rw [e2]; exact hm
        · rw [if_neg e2, if_neg e] at hk'; exact hk'
      have := hR k hkd
      omega
  · rw [make_nd h hk hm]
    by_cases e : 0 = m
    · rw [if_pos e]
      show (nd d m).up = -1
      rw [← e]
      exact h.rootUp
    · rw [if_neg e, if_neg (fun e2 => hf0 e2.symm)]
      exact h.rootUp

/-- a document that ends with a live node stays as it is -/
theorem trim_same {d : Dc} (h0 : 0 < d.length) (hl : lvD d (d.length - 1) = true) : trimD d = d := by
  unfold trimD
  obtain ⟨n, e⟩ : ∃ n, d.length = n + 1 := ⟨d.length - 1, by omega⟩
  have hl' : (nd d n).live = true := by
    unfold lvD at hl
    rw [e] at hl
    exact hl
  rw [e, last_here d n hl', ← e, List.take_length]

theorem trim_zero {d : Dc} (h0 : 0 < d.length) (hl : lvD d (d.length - 1) = true) : trimD (d ++ [zero]) = d := by
  unfold trimD
  have hlen : (d ++ [zero]).length = d.length + 1 := by simp
  have hnd : ∀ j, j < d.length → nd (d ++ [zero]) j = nd d j := by
    intro j hj
    unfold nd
    rw [List.getElem?_append_left hj]
  have hz : nd (d ++ [zero]) d.length = zero := by
    unfold nd
    rw [List.getElem?_append_right (Nat.le_refl _)]
    simp
  rw [hlen, lastLive, hz]
  simp only [zero, Bool.false_eq_true, false_and, if_false]
  obtain ⟨n, e⟩ : ∃ n, d.length = n + 1 := ⟨d.length - 1, by omega⟩
  have hl' : (nd (d ++ [zero]) n).live = true := by
    rw [hnd n (by omega)]
    unfold lvD at hl
    rw [e] at hl
    exact hl
  have := last_here (d ++ [zero]) n hl'
  rw [e]
  unfold zero at this
  rw [this, ← e]
  simp

theorem make_last (h : Tn.Good d) (hk : x.kind = 1 ∨ x.kind = 2) (hm : lvD d m = true) : trimD (putDoc (addIn d x) (free d) m b false) = putDoc (addIn d x) (free d) m b false := by
  obtain ⟨hf1, hf2⟩ := free_spec d
  have hlen := make_len (b := b) h hk hm
  have h0 := h.len
  refine trim_same (by rw [hlen]; omega) ?_
  rw [hlen]
  by_cases e : free d = d.length
  · rw [show max d.length (free d + 1) - 1 = free d by omega]
    exact make_lv h hk hm
  · rw [show max d.length (free d + 1) - 1 = d.length - 1 by omega]
    have hl := h.last
    unfold lvD at hl ⊢
    rw [make_nd h hk hm]
    by_cases e2 : d.length - 1 = m
    · rw [if_pos e2]; exact hm
    · rw [if_neg e2]
      by_cases e3 : d.length - 1 = free d
      · unfold lvD at hf2
        rw [← e3, hl] at hf2
        cases hf2
      · rw [if_neg e3]; exact hl

/-- what was made, taken out of its list again -/
theorem taken_nd (h : Tn.Good d) (hk : x.kind = 1 ∨ x.kind = 2) (hm : lvD d m = true) (j : Nat) :
    nd (moveIn (putDoc (addIn d x) (free d) m b false) (free d)) j = if j = free d then { newNd x with up := (m : Int), inS := false } else nd d j := by
  obtain ⟨hf1, hf2⟩ := free_spec d
  obtain ⟨r, hr, _⟩ := h.tr
  have hmk : m ≠ free d := fun e => by rw [e, hf2] at hm; cases hm
  have hml := lv_lt hm
  have hnk : nd (putDoc (addIn d x) (free d) m b false) (free d) = { newNd x with up := (m : Int), inS := false } := by
    rw [make_nd h hk hm, if_neg (fun e => hmk e.symm), if_pos rfl]
  have hup : upD (putDoc (addIn d x) (free d) m b false) (free d) = m := by
    unfold upD
    rw [hnk]
    simp
  unfold moveIn takeS
  rw [hup, hnk, nd_setL _ _ _ (by rw [make_len h hk hm]; omega)]
  have hno : free d ∉ (nd d m).kids := fun hmem => by
    have := (hr.1.mem m false (free d) hmem).2.1
    rw [hf2] at this
    cases this
  by_cases e : j = m
  · rw [if_pos e, if_neg (fun e2 => hmk (by rw [← e, e2])), e]
    rw [make_nd h hk hm, if_pos rfl]
    unfold setList listOf insertAt
    simp only [Bool.false_eq_true, if_false]
    have hflt : ∀ l : List Nat, free d ∉ l → l.filter (fun k => !(k == free d)) = l := by
      intro l hl
      rw [List.filter_eq_self]
      intro a ha
      simp
      intro e
      rw [e] at ha
      exact hl ha
    rw [List.filter_append, List.filter_append]
    have h1 : ([free d] : List Nat).filter (fun k => !(k == free d)) = [] := by simp
    rw [h1, List.append_nil, ← List.filter_append, List.take_append_drop, hflt _ hno]
  · rw [if_neg e]
    rw [make_nd h hk hm, if_neg e]

theorem taken_len (h : Tn.Good d) (hk : x.kind = 1 ∨ x.kind = 2) (hm : lvD d m = true) : (moveIn (putDoc (addIn d x) (free d) m b false) (free d)).length = max d.length (free d + 1) := by
  unfold moveIn takeS
  rw [List.length_set, make_len h hk hm]

theorem taken_all (h : Tn.Good d) (hk : x.kind = 1 ∨ x.kind = 2) (hm : lvD d m = true) : all fuel (moveIn (putDoc (addIn d x) (free d) m b false) (free d)) (free d) = [free d] := by
  have hn := taken_nd (b := b) h hk hm (free d)
  rw [if_pos rfl] at hn
  have hl := taken_len (b := b) h hk hm
  have hi : isN (moveIn (putDoc (addIn d x) (free d) m b false) (free d)) (free d : Int) false = true := by
    unfold isN
    rw [hl, Int.toNat_natCast, hn]
    have : (newNd x).live = true := by unfold newNd; split <;> rfl
    simp [this]
    omega
  have k1 : (newNd x).kids = [] := by unfold newNd; split <;> rfl
  have k2 : (newNd x).shadow = [] := by unfold newNd; split <;> rfl
  show all (63 + 1) _ _ = _
  rw [all, if_pos hi, hn]
  show free d :: ((newNd x).shadow.flatMap _ ++ (newNd x).kids.flatMap _) = _
  rw [k1, k2]
  rfl

theorem unmade (h : Tn.Good d) (hk : x.kind = 1 ∨ x.kind = 2) (hm : lvD d m = true) : trimD (killD (all fuel (moveIn (putDoc (addIn d x) (free d) m b false) (free d)) (free d)) (moveIn (putDoc (addIn d x) (free d) m b false) (free d))) = d := by
  obtain ⟨hf1, hf2⟩ := free_spec d
  have h0 := h.len
  have hl := taken_len (b := b) h hk hm
  rw [taken_all h hk hm]
  have hnd : ∀ j, nd (killD [free d] (moveIn (putDoc (addIn d x) (free d) m b false) (free d))) j = nd d j := by
    intro j
    show nd (List.set _ (free d) zero) j = _
    rw [nd_setL _ _ _ (by rw [hl]; omega), taken_nd h hk hm]
    by_cases e : j = free d
    · rw [if_pos e, e, h.dead _ hf2]
    · rw [if_neg e, if_neg e]
  have hkl : (killD [free d] (moveIn (putDoc (addIn d x) (free d) m b false) (free d))).length = max d.length (free d + 1) := by
    rw [killD_len, hl]
  by_cases e : free d = d.length
  · have : killD [free d] (moveIn (putDoc (addIn d x) (free d) m b false) (free d)) = d ++ [zero] := by
      refine doc_ext (by rw [hkl]; simp; omega) fun j => ?_
      rw [hnd]
      unfold nd
      by_cases hj : j < d.length
      · rw [List.getElem?_append_left hj]
      · rw [List.getElem?_eq_none (by omega), List.getElem?_append_right (by omega)]
        cases hjj : j - d.length with
        | zero => simp
        | succ n => simp
    rw [this]
    exact trim_zero h0.1 h.last
  · have : killD [free d] (moveIn (putDoc (addIn d x) (free d) m b false) (free d)) = d := doc_ext (by rw [hkl]; omega) hnd
    rw [this]
    exact trim_same h0.1 h.last
end Go.Proofs.Ytookcjdibpccpaa

/-
  WHAT dom.change makes of documents of the call's own: a node is made; and goes again.
-/
namespace Go.Proofs.Ytookcjdibpccpaa
open Go.RowKit

/-- the error of what is made -/
def makeCode (d : Tn.Dc) (x : Tn.Chg) (m : Nat) : Int := if Tn.isN d (m : Int) true = true then addCode d x m x.before false else 8

theorem chs_make {d : Tn.Dc} (h : Tn.Good d) {m : Nat} (hm : Tn.lvD d m = true) (kd tt bf : Int) (nm vl : ByteArray) (hkd : kd = 1 ∨ kd = 2) (hnm : nm.size ≤ 4194304) (hvl : vl.size ≤ 4194304) :
    Chs d ⟨kd, (m : Int), tt, bf, nm, vl⟩ (makeCode d ⟨kd, (m : Int), tt, bf, nm, vl⟩ m) (Tn.free d : Int) (putDoc (addIn d ⟨kd, (m : Int), tt, bf, nm, vl⟩) (Tn.free d) m bf false) := by
  intro B W g c rs hB hO
  have hl := hO.len
  have hlen := h.len
  have hml := Tn.lv_lt hm
  refine (dchange_make hO hB (by omega) kd hkd tt bf nm vl hnm hvl (m := m) (by omega) (fun s => ?_) (fun _ _ _ _ => ⟨make_tame h hkd hm, fun j t => ?_, make_lv h hkd hm⟩)).mono ?_
  · rw [li_addIn h]
    have := h.small m s
    omega
  · have := make_li (x := ⟨kd, (m : Int), tt, bf, nm, vl⟩) (b := bf) h hkd hm j t
    omega
  · rintro e w' ⟨dv, nv, cd, e1, e2, e3, e4⟩
    refine ⟨dv, nv, ?_, e2, ?_⟩
    · rw [e1, e3]; rfl
    · intro h0
      have : cd = 0 := by rw [e3]; exact h0
      obtain ⟨q1, g', c', rs', q2, q3⟩ := e4 this
      exact ⟨q1, g', c', rs', q2, q3⟩

theorem moveIn_tame {d : Tn.Dc} (h : Tame d) {n u : Nat} (hu : Tn.upD d n = u) (hul : u < d.length) : Tame (moveIn d n) ∧ (∀ j s, (Tn.liD (moveIn d n) j s).Sublist (Tn.liD d j s)) ∧ (∀ j, Tn.lvD (moveIn d n) j = Tn.lvD d j) ∧ (moveIn d n).length = d.length := by
  have hnd : ∀ j, Tn.nd (moveIn d n) j = if j = u then Tn.setList (Tn.nd d u) (Tn.nd d n).inS ((Tn.listOf (Tn.nd d u) (Tn.nd d n).inS).filter fun k => !(k == n)) else Tn.nd d j := by
    intro j
    unfold moveIn takeS
    rw [hu]
    exact nd_setL _ _ _ hul j
  have hl : (moveIn d n).length = d.length := by unfold moveIn takeS; rw [List.length_set]
  have hsl : ∀ (a : Tn.Nd) (s : Bool) (l : List Nat), (Tn.setList a s l).live = a.live ∧ (Tn.setList a s l).up = a.up := by
    intro a s l
    unfold Tn.setList
    cases s <;> exact ⟨rfl, rfl⟩
  have hv : ∀ k, (Tn.nd (moveIn d n) k).live = (Tn.nd d k).live := by
    intro k
    rw [hnd]
    split
    · rename_i e; rw [(hsl _ _ _).1, e]
    · rfl
  have hup : ∀ k, (Tn.nd (moveIn d n) k).up = (Tn.nd d k).up := by
    intro k
    rw [hnd]
    split
    · rename_i e; rw [(hsl _ _ _).2, e]
    · rfl
  have hs : ∀ j s, (Tn.liD (moveIn d n) j s).Sublist (Tn.liD d j s) := by
    intro j s
    unfold Tn.liD
    rw [hnd]
    split
    · rename_i e
      rw [e]
      unfold Tn.setList Tn.listOf
      cases s <;> cases (Tn.nd d n).inS <;> simp
    · exact List.Sublist.refl _
  exact ⟨tame_sub h hl hv hup hs, hs, hv, hl⟩

theorem chs_unmake {d : Tn.Dc} (h : Tn.Good d) {x : Tn.Chg} {m : Nat} {b : Int} (hm : Tn.lvD d m = true) (hkd : x.kind = 1 ∨ x.kind = 2) (tt bf : Int) (nm vl : ByteArray) :
    Chs (putDoc (addIn d x) (Tn.free d) m b false) ⟨4, (Tn.free d : Int), tt, bf, nm, vl⟩ 0 (Tn.free d : Int) (killD (Tn.all Tn.fuel (moveIn (putDoc (addIn d x) (Tn.free d) m b false) (Tn.free d)) (Tn.free d)) (moveIn (putDoc (addIn d x) (Tn.free d) m b false) (Tn.free d))) := by
  intro B W g c rs hB hO
  obtain ⟨hf1, hf2⟩ := Tn.free_spec d
  obtain ⟨r, hr, _⟩ := h.tr
  have hl := hO.len
  have hlen := make_len (x := x) (b := b) h hkd hm
  have hml := Tn.lv_lt hm
  have hf0 : Tn.free d ≠ 0 := fun e => by rw [e, hr.1.root] at hf2; cases hf2
  have hmk : m ≠ Tn.free d := fun e => by rw [e, hf2] at hm; cases hm
  have hup : (Tn.nd (putDoc (addIn d x) (Tn.free d) m b false) (Tn.free d)).up = (m : Int) := by
    rw [make_nd h hkd hm, if_neg (fun e => hmk e.symm), if_pos rfl]
  have hT := moveIn_tame (make_tame (x := x) (b := b) h hkd hm) (n := Tn.free d) (u := m) (by unfold Tn.upD; rw [hup]; simp) (by omega)
  refine (dchange_remove hO hB tt bf nm vl (m := Tn.free d) (by omega) hf0 ⟨m, hup, by omega⟩ (fun j s => ?_) ⟨hT.1, fun j s => ?_, ?_⟩ (fun k hk => ?_)).mono ?_
  · have := make_li (x := x) (b := b) h hkd hm j s
    omega
  · have h1 := (hT.2.1 j s).length_le
    have := make_li (x := x) (b := b) h hkd hm j s
    omega
  · rw [hT.2.2.1]
    exact make_lv h hkd hm
  · rw [taken_all h hkd hm] at hk
    simp at hk
    omega
  · rintro e w' ⟨rs', e1, e2, e3⟩
    exact ⟨_, _, e1, e2, fun _ => ⟨rfl, g, c, rs', rfl, e3⟩⟩
end Go.Proofs.Ytookcjdibpccpaa

/-
  PLAIN MATHEMATICS: a node moves; and back.
-/
namespace Go.Proofs.Ytookcjdibpccpaa
open Tn

variable {d : Dc} {n t : Nat} {b : Int}

theorem set_other (a : Nd) (s : Bool) (l : List Nat) : (setList a s l).live = a.live ∧ (setList a s l).up = a.up ∧ (setList a s l).inS = a.inS ∧ (setList a s l).attrs = a.attrs ∧ (setList a s l).tag = a.tag := by
  unfold setList
  cases s <;> exact ⟨rfl, rfl, rfl, rfl, rfl⟩

theorem up_live (h : Tn.Good d) (hn0 : 0 < n) (hn : lvD d n = true) : lvD d (upD d n) = true ∧ upD d n ≠ n ∧ (nd d n).up = ((upD d n : Nat) : Int) := by
  obtain ⟨r, hr, _⟩ := h.tr
  refine ⟨hr.1.upLive hn0 hn, fun e => ?_, ?_⟩
  · have := hr.1.rank n hn0 hn
    rw [e] at this
    omega
  · have := hr.2 n hn0 hn
    unfold upD
    omega

theorem mv_nd (h : Tn.Good d) (hn0 : 0 < n) (hn : lvD d n = true) (j : Nat) : nd (moveIn d n) j = if j = upD d n then setList (nd d (upD d n)) (nd d n).inS ((listOf (nd d (upD d n)) (nd d n).inS).filter fun k => !(k == n)) else nd d j := by
  unfold moveIn takeS
  exact nd_setL _ _ _ (lv_lt (up_live h hn0 hn).1) j

theorem mv_len : (moveIn d n).length = d.length := by unfold moveIn takeS; rw [List.length_set]

/-- behind put of a node that stands in no list -/
theorem put_nd {d : Dc} {n t : Nat} {b : Int} (hn : n < d.length) (ht : t < d.length) (hne : t ≠ n) (j : Nat) : nd (putDoc d n t b false) j = if j = n then { nd d n with up := (t : Int), inS := false } else if j = t then { nd d t with kids := insertAt (nd d t).kids (putAt (nd d t).kids b).toNat n } else nd d j := by
  have hpi : ∀ i, nd (putIn d n t b false) i = if i = t then { nd d t with kids := insertAt (nd d t).kids (putAt (nd d t).kids b).toNat n } else nd d i := by
    intro i
    unfold putIn
    exact nd_setL _ _ _ ht i
  have hpn : nd (putIn d n t b false) n = nd d n := by rw [hpi n, if_neg (fun e => hne e.symm)]
  unfold putDoc
  rw [nd_setL _ _ _ (by unfold putIn; rw [List.length_set]; exact hn), hpn, hpi]
theorem put_len {d : Dc} {n t : Nat} {b : Int} : (putDoc d n t b false).length = d.length := by unfold putDoc putIn; rw [List.length_set, List.length_set]

theorem filter_same {l : List Nat} (h : n ∉ l) : l.filter (fun k => !(k == n)) = l := by
  rw [List.filter_eq_self]
  intro a ha
  simp
  intro e
  rw [e] at ha
  exact h ha
theorem without_same {l : List Nat} (h : n ∉ l) : without l n = l := filter_same h

theorem in_one (h : Tn.Good d) {j : Nat} {s : Bool} (hm : n ∈ liD d j s) : j = upD d n ∧ s = (nd d n).inS := by
  obtain ⟨r, hr, _⟩ := h.tr
  have := hr.1.mem j s n hm
  exact ⟨this.2.2.2.1.symm, this.2.2.2.2.symm⟩

/-- what dom makes of a move is what the reference makes -/
theorem put_move (h : Tn.Good d) (hn0 : 0 < n) (hn : lvD d n = true) (ht : lvD d t = true) (hne : t ≠ n) :
    putDoc (moveIn d n) n t b false = put1 (withd (takeD d n) n { nd d n with up := (t : Int), inS := false }) n t b false := by
  obtain ⟨r, hr, _⟩ := h.tr
  obtain ⟨hu1, hu2, hu3⟩ := up_live h hn0 hn
  have hul := lv_lt hu1
  have hnl := lv_lt hn
  have htl := lv_lt ht
  have htu : (nd d n).up.toNat = upD d n := rfl
  have hlt : (takeD d n).length = d.length := by
    unfold takeD
    rw [htu, len_withd _ _ _ (Nat.le_of_lt hul)]
    omega
  have htk : ∀ j, nd (takeD d n) j = if j = upD d n then { nd d (upD d n) with kids := without (nd d (upD d n)).kids n, shadow := without (nd d (upD d n)).shadow n } else nd d j := by
    intro j
    unfold takeD
    rw [htu]
    exact nd_withd _ _ _ (Nat.le_of_lt hul) j
  have hsame : ∀ j, nd (takeD d n) j = nd (moveIn d n) j := by
    intro j
    rw [htk, mv_nd h hn0 hn]
    split
    · unfold setList listOf
      cases hs : (nd d n).inS with
      | false =>
        have : n ∉ (nd d (upD d n)).shadow := fun hm => by
          have := (in_one h (j := upD d n) (s := true) hm).2
          rw [hs] at this
          cases this
        simp only [Bool.false_eq_true, if_false]
        rw [without_same this]
        rfl
      | true =>
        have : n ∉ (nd d (upD d n)).kids := fun hm => by
          have := (in_one h (j := upD d n) (s := false) hm).2
          rw [hs] at this
          cases this
        simp only [if_true]
        rw [without_same this]
        rfl
    · rfl
  have hd2 : ∀ j, nd (withd (takeD d n) n { nd d n with up := (t : Int), inS := false }) j = if j = n then { nd d n with up := (t : Int), inS := false } else nd (moveIn d n) j := by
    intro j
    rw [nd_withd _ _ _ (by rw [hlt]; omega), hsame]
  have hl2 : (withd (takeD d n) n { nd d n with up := (t : Int), inS := false }).length = d.length := by
    rw [len_withd _ _ _ (by rw [hlt]; omega), hlt]
    omega
  have hnn : nd (moveIn d n) n = nd d n := by rw [mv_nd h hn0 hn, if_neg (fun e => hu2 e.symm)]
  have hnd : (nd (moveIn d n) t).kids.Nodup := by
    rw [mv_nd h hn0 hn]
    split
    · rename_i e
      unfold setList listOf
      cases (nd d n).inS with
      | false =>
        simp only [Bool.false_eq_true, if_false]
        exact (hr.1.nodup (upD d n) false).sublist List.filter_sublist
      | true => exact hr.1.nodup (upD d n) false
    · exact hr.1.nodup t false
  refine doc_ext ?_ fun j => ?_
  · rw [put1_len _ _ _ _ _ (by rw [hl2]; exact htl), hl2, put_len, mv_len]
  · rw [put_nd (by rw [mv_len]; exact hnl) (by rw [mv_len]; exact htl) hne, put1_nd _ _ _ _ _ (by rw [hl2]; exact htl), hd2, hd2, if_neg hne, hnn]
    unfold setList listOf
    simp only [Bool.false_eq_true, if_false]
    rw [place_putAt hnd]
    by_cases e : j = n
    · rw [if_pos e, if_neg (fun e2 => hne (by rw [← e2, e])), if_pos e]
    · rw [if_neg e, if_neg e]

theorem within_ne (h : Tn.Good d) (ht : lvD d t = true) (hw : within d (t : Int) (n : Int) = false) : t ≠ n := by
  obtain ⟨r, hr, _⟩ := h.tr
  have := (within_desc hr ht h.rootUp n).mp hw
  intro e
  exact this (by rw [e]; exact desc_refl _)

theorem moved_tame (h : Tn.Good d) (hn0 : 0 < n) (hn : lvD d n = true) (ht : lvD d t = true) (hw : within d (t : Int) (n : Int) = false) : Tame (putDoc (moveIn d n) n t b false) := by
  obtain ⟨r, hr, hR⟩ := h.tr
  have hne := within_ne h ht hw
  have hnd := (within_desc hr ht h.rootUp n).mp hw
  have hT := move_tr hr hn0 hn ht hnd (off_move h hn0 hn (t := t)) b
  rw [← put_move h hn0 hn ht hne] at hT
  have hlen := h.len
  have hnl := lv_lt hn
  have htl := lv_lt ht
  have hu := up_live h hn0 hn
  have hlv : ∀ j, lvD (putDoc (moveIn d n) n t b false) j = lvD d j := by
    intro j
    unfold lvD
    have hmv : ∀ i, (nd (moveIn d n) i).live = (nd d i).live := by
      intro i
      rw [mv_nd h hn0 hn]
      split
      · rename_i e; rw [(set_other _ _ _).1, e]
      · rfl
    rw [put_nd (by rw [mv_len]; exact hnl) (by rw [mv_len]; exact htl) hne]
    split
    · rename_i e; rw [e]; exact hmv n
    · split
      · rename_i e; rw [e]; exact hmv t
      · exact hmv j
  refine tame_of hT (fun k hk => ?_) ?_ (by rw [put_len, mv_len]; omega)
  · rw [hlv] at hk
    have h1 := hR k hk
    have h2 := hR t ht
    split <;> omega
  · rw [put_nd (by rw [mv_len]; exact hnl) (by rw [mv_len]; exact htl) hne, if_neg (by omega)]
    have h0 : (nd (moveIn d n) 0).up = -1 := by
      rw [mv_nd h hn0 hn]
      split
      · rename_i e; rw [(set_other _ _ _).2.1, ← e]; exact h.rootUp
      · exact h.rootUp
    split
    · rename_i e
      show (nd (moveIn d n) t).up = -1
      rw [← e]
      exact h0
    · exact h0

theorem mv_live (h : Tn.Good d) (hn0 : 0 < n) (hn : lvD d n = true) (j : Nat) : (nd (moveIn d n) j).live = (nd d j).live := by
  rw [mv_nd h hn0 hn]
  split
  · rename_i e; rw [(set_other _ _ _).1, e]
  · rfl

theorem moved_lv (h : Tn.Good d) (hn0 : 0 < n) (hn : lvD d n = true) (ht : lvD d t = true) (hne : t ≠ n) (j : Nat) : lvD (putDoc (moveIn d n) n t b false) j = lvD d j := by
  unfold lvD
  rw [put_nd (by rw [mv_len]; exact lv_lt hn) (by rw [mv_len]; exact lv_lt ht) hne]
  split
  · rename_i e; rw [e]; exact mv_live h hn0 hn n
  · split
    · rename_i e; rw [e]; exact mv_live h hn0 hn t
    · exact mv_live h hn0 hn j

theorem mv_li (h : Tn.Good d) (hn0 : 0 < n) (hn : lvD d n = true) (j : Nat) (s : Bool) : (liD (moveIn d n) j s).length ≤ 12 := by
  have h12 := h.small j s
  unfold liD at h12 ⊢
  rw [mv_nd h hn0 hn]
  split
  · rename_i e
    rw [e] at h12
    unfold setList listOf at *
    cases s <;> cases (nd d n).inS <;> simp only [Bool.false_eq_true, if_false, if_true] at h12 ⊢
    · exact Nat.le_trans (List.length_filter_le _ _) h12
    · exact h12
    · exact h12
    · exact Nat.le_trans (List.length_filter_le _ _) h12
  · exact h12

theorem moved_li (h : Tn.Good d) (hn0 : 0 < n) (hn : lvD d n = true) (ht : lvD d t = true) (hne : t ≠ n) (j : Nat) (s : Bool) : (liD (putDoc (moveIn d n) n t b false) j s).length ≤ 13 := by
  have hm := fun j s => mv_li h hn0 hn (d := d) j s
  unfold liD at hm ⊢
  rw [put_nd (by rw [mv_len]; exact lv_lt hn) (by rw [mv_len]; exact lv_lt ht) hne]
  split
  · have := hm n s
    unfold listOf at this ⊢
    cases s <;> simp only [Bool.false_eq_true, if_false, if_true] at this ⊢ <;> omega
  · split
    · have := hm t s
      unfold listOf at this ⊢
      cases s <;> simp only [Bool.false_eq_true, if_false, if_true] at this ⊢
      · rw [len_insertAt]; omega
      · omega
    · have := hm j s
      omega

theorem moved_last (h : Tn.Good d) (hn0 : 0 < n) (hn : lvD d n = true) (ht : lvD d t = true) (hne : t ≠ n) : trimD (putDoc (moveIn d n) n t b false) = putDoc (moveIn d n) n t b false := by
  have hl : (putDoc (moveIn d n) n t b false).length = d.length := by rw [put_len, mv_len]
  refine trim_same (by rw [hl]; exact h.len.1) ?_
  rw [hl, moved_lv h hn0 hn ht hne]
  exact h.last
end Go.Proofs.Ytookcjdibpccpaa

/-
  PLAIN MATHEMATICS: too deep, as dom tells it and as the reference does; a node moves.
-/
namespace Go.Proofs.Ytookcjdibpccpaa
open Tn

theorem deepL_att (g : Nat → Nat) : ∀ (l : List Nat) (m : Nat), deepL g l m = m ∨ ∃ k ∈ l, deepL g l m = 1 + g k
  | [], m => Or.inl rfl
  | a :: l, m => by
    have e : deepL g (a :: l) m = deepL g l (max m (1 + g a)) := rfl
    rw [e]
    rcases deepL_att g l (max m (1 + g a)) with h | ⟨k, hk, h⟩
    · rw [h]
      rcases Nat.le_total (1 + g a) m with h2 | h2
      · exact Or.inl (by omega)
      · exact Or.inr ⟨a, by simp, by omega⟩
    · exact Or.inr ⟨k, by simp [hk], h⟩

theorem deepest_att {d : Dc} {r : Nat → Nat} (h : TrD d r) : ∀ (f n : Nat), lvD d n = true → ∃ j, j ∈ all (f + 1) d n ∧ r j = r n + deepest f d n
  | 0, n, hn => ⟨n, by rw [all, if_pos (by rw [isN_iff]; exact hn)]; simp, rfl⟩
  | f + 1, n, hn => by
    have hi : isN d (n : Int) false = true := by rw [isN_iff]; exact hn
    have kid : ∀ s k, k ∈ liD d n s → ∃ j, j ∈ all (f + 2) d n ∧ r j = r n + (1 + deepest f d k) := by
      intro s k hk
      obtain ⟨_, h2, h3, h4, _⟩ := h.1.mem n s k hk
      obtain ⟨j, hj, e⟩ := deepest_att h f k h2
      have hr := h.1.rank k h3 h2
      rw [h4] at hr
      refine ⟨j, ?_, by omega⟩
      rw [all, if_pos hi, List.mem_cons, List.mem_append]
      right
      cases s with
      | false => right; exact List.mem_flatMap.mpr ⟨k, hk, hj⟩
      | true => left; exact List.mem_flatMap.mpr ⟨k, hk, hj⟩
    rw [deepest]
    rcases deepL_att (deepest f d) (nd d n).kids (deepL (deepest f d) (nd d n).shadow 0) with e | ⟨k, hk, e⟩
    · rw [e]
      rcases deepL_att (deepest f d) (nd d n).shadow 0 with e2 | ⟨k, hk, e2⟩
      · rw [e2]
        exact ⟨n, by rw [all, if_pos hi]; simp, rfl⟩
      · rw [e2]; exact kid true k hk
    · rw [e]; exact kid false k hk

theorem all_moreB (d : Dc) : ∀ (f n g : Nat), Tn.Ends f d n → f ≤ g → all g d n = all f d n
  | 0, _, _, h, _ => h.elim
  | f + 1, n, g, h, hg => by
    obtain ⟨g, rfl⟩ : ∃ g', g = g' + 1 := ⟨g - 1, by omega⟩
    have fm : ∀ l : List Nat, (∀ k ∈ l, Tn.Ends f d k) → l.flatMap (all g d) = l.flatMap (all f d) := by
      intro l hl
      induction l with
      | nil => rfl
      | cons a l ih => rw [List.flatMap_cons, List.flatMap_cons, all_moreB d f a g (hl a (by simp)) (by omega), ih (fun k hk => hl k (by simp [hk]))]
    rw [all, all, fm _ h.2.1, fm _ h.2.2]

theorem deep_any {d : Dc} {r : Nat → Nat} (h : TrD d r) (hT : Tame d) (hR : ∀ k, lvD d k = true → r k ≤ 50) (h0 : (nd d 0).up = -1) {n : Nat} (hn : lvD d n = true) :
    (all fuel d n).any (tooDeep d) = decide ((16 : Int) < ((pathOf d (n : Int)).length : Int) - 1 + (deepest fuel d n : Int)) := by
  rw [pathOf_len h hn h0, Bool.eq_iff_iff, List.any_eq_true, decide_eq_true_iff]
  constructor
  · rintro ⟨j, hj, ht⟩
    obtain ⟨hl, hd1, hd2⟩ := all_desc h fuel n j hj hn
    unfold tooDeep at ht
    rw [pathOf_len h hl h0] at ht
    have ht' := of_decide_eq_true ht
    have hj50 := hR j hl
    have := deepest_ge h (r j - r n) fuel n j (by omega) (by unfold fuel; omega) hl hd2
    omega
  · intro hlt
    obtain ⟨j, hj, e⟩ := deepest_att h fuel n hn
    rw [all_moreB d fuel n (fuel + 1) (hT.ends n hn) (by omega)] at hj
    obtain ⟨hl, _⟩ := all_desc h fuel n j hj hn
    refine ⟨j, hj, ?_⟩
    unfold tooDeep
    rw [pathOf_len h hl h0]
    apply decide_eq_true
    omega

variable {d : Dc} {n t : Nat} {b : Int}

theorem d2_nd (h : Tn.Good d) (hn0 : 0 < n) (hn : lvD d n = true) (j : Nat) : nd (withd (takeD d n) n { nd d n with up := (t : Int), inS := false }) j = if j = n then { nd d n with up := (t : Int), inS := false } else nd (moveIn d n) j := by
  obtain ⟨hu1, hu2, hu3⟩ := up_live h hn0 hn
  have hul := lv_lt hu1
  have hnl := lv_lt hn
  have htu : (nd d n).up.toNat = upD d n := rfl
  have hlt : (takeD d n).length = d.length := by
    unfold takeD
    rw [htu, len_withd _ _ _ (Nat.le_of_lt hul)]
    omega
  rw [nd_withd _ _ _ (by rw [hlt]; omega)]
  split
  · rfl
  · unfold takeD
    rw [htu, nd_withd _ _ _ (Nat.le_of_lt hul), mv_nd h hn0 hn]
    split
    · unfold setList listOf
      cases hs : (nd d n).inS with
      | false =>
        have : n ∉ (nd d (upD d n)).shadow := fun hm => by
          have := (in_one h (j := upD d n) (s := true) hm).2
          rw [hs] at this
          cases this
        simp only [Bool.false_eq_true, if_false]
        rw [without_same this]
        rfl
      | true =>
        have : n ∉ (nd d (upD d n)).kids := fun hm => by
          have := (in_one h (j := upD d n) (s := false) hm).2
          rw [hs] at this
          cases this
        simp only [if_true]
        rw [without_same this]
        rfl
    · rfl

theorem mv_nodup (h : Tn.Good d) (hn0 : 0 < n) (hn : lvD d n = true) (t : Nat) : (nd (moveIn d n) t).kids.Nodup := by
  obtain ⟨r, hr, _⟩ := h.tr
  rw [mv_nd h hn0 hn]
  split
  · unfold setList listOf
    cases (nd d n).inS with
    | false =>
      simp only [Bool.false_eq_true, if_false]
      exact (hr.1.nodup (upD d n) false).sublist List.filter_sublist
    | true => exact hr.1.nodup (upD d n) false
  · exact hr.1.nodup t false

theorem moved_up0 (h : Tn.Good d) (hn0 : 0 < n) (hn : lvD d n = true) (ht : lvD d t = true) (hne : t ≠ n) : (nd (putDoc (moveIn d n) n t b false) 0).up = -1 := by
  rw [put_nd (by rw [mv_len]; exact lv_lt hn) (by rw [mv_len]; exact lv_lt ht) hne, if_neg (by omega)]
  have h0 : (nd (moveIn d n) 0).up = -1 := by
    rw [mv_nd h hn0 hn]
    split
    · rename_i e; rw [(set_other _ _ _).2.1, ← e]; exact h.rootUp
    · exact h.rootUp
  split
  · rename_i e
    show (nd (moveIn d n) t).up = -1
    rw [← e]
    exact h0
  · exact h0

open Classical in
/-- the error of a move, where all else goes -/
theorem move_code (h : Tn.Good d) (hn0 : 0 < n) (hn : lvD d n = true) (ht : lvD d t = true) (hw : within d (t : Int) (n : Int) = false) (b : Int) :
    putCode (moveIn d n) n t b false = putE (withd (takeD d n) n { nd d n with up := (t : Int), inS := false }) n t b false := by
  obtain ⟨r, hr, hR⟩ := h.tr
  have hne := within_ne h ht hw
  have hnd := (within_desc hr ht h.rootUp n).mp hw
  have hT := move_tr hr hn0 hn ht hnd (off_move h hn0 hn (t := t)) b
  rw [← put_move h hn0 hn ht hne] at hT
  have hTm := moved_tame (b := b) h hn0 hn ht hw
  have hl : listOf (nd (withd (takeD d n) n { nd d n with up := (t : Int), inS := false }) t) false = listOf (nd (moveIn d n) t) false := by rw [d2_nd h hn0 hn, if_neg hne]
  have hpl : place (listOf (nd (moveIn d n) t) false) b = putAt (listOf (nd (moveIn d n) t) false) b := place_putAt (mv_nodup h hn0 hn t) b
  have hda := deep_any hT hTm (fun k hk => by
    rw [moved_lv h hn0 hn ht hne] at hk
    have h1 := hR k hk
    have h2 := hR t ht
    split <;> omega) (moved_up0 h hn0 hn ht hne) (n := n) (by rw [moved_lv h hn0 hn ht hne]; exact hn)
  unfold putCode putE
  rw [hl, hpl, hda, ← put_move h hn0 hn ht hne]
  simp only [decide_eq_true_eq]

theorem move_codeE (h : Tn.Good d) (hn : lvD d n = true) (x : Chg) (hx : x.node = (n : Int)) : moveCode d n x = moveE d x := by
  unfold moveCode moveE
  rw [hx, Int.toNat_natCast]
  by_cases hn0 : n = 0
  · rw [if_pos (Or.inl hn0), if_pos (Or.inl (by omega))]
  · cases ht : isN d x.to true with
    | false => rw [if_pos (Or.inr rfl), if_pos (Or.inr rfl)]
    | true =>
      have c1 : ¬ (n = 0 ∨ true = false) := by simp [hn0]
      have c2 : ¬ ((n : Int) = 0 ∨ true = false) := by simp [hn0]
      rw [if_neg c1, if_neg c2]
      cases hw : within d x.to (n : Int) with
      | true => rfl
      | false =>
        simp only [Bool.false_eq_true, if_false]
        split
        · rfl
        · obtain ⟨t, e, htl, hlv⟩ := isN_nat (isN_true ht)
          rw [e] at hw ⊢
          rw [Int.toNat_natCast]
          exact move_code h (by omega) hn hlv hw x.before

theorem move_docD (h : Tn.Good d) (hn : lvD d n = true) (x : Chg) (hx : x.node = (n : Int)) (he : moveE d x = 0) : n ≠ 0 ∧ isN d x.to true = true ∧ within d x.to (n : Int) = false ∧ x.before ≠ (n : Int) ∧ putDoc (moveIn d n) n x.to.toNat x.before false = moveD d x := by
  unfold moveE at he
  rw [hx, Int.toNat_natCast] at he
  by_cases hn0 : n = 0
  · rw [if_pos (Or.inl (by omega))] at he
    cases he
  · cases ht : isN d x.to true with
    | false => rw [if_pos (Or.inr ht)] at he; cases he
    | true =>
      rw [if_neg (by simp [ht]; omega)] at he
      cases hw : within d x.to (n : Int) with
      | true => rw [hw, if_pos rfl] at he; cases he
      | false =>
        rw [hw] at he
        simp only [Bool.false_eq_true, if_false] at he
        by_cases hb : x.before = (n : Int)
        · rw [if_pos hb] at he; cases he
        · refine ⟨hn0, rfl, rfl, hb, ?_⟩
          obtain ⟨t, e, htl, hlv⟩ := isN_nat (isN_true ht)
          unfold moveD
          rw [hx, Int.toNat_natCast, e, Int.toNat_natCast]
          rw [e] at hw
          exact put_move h (by omega) hn hlv (within_ne h hlv hw)

/-- all below a node is as it was when the node was taken out of its list -/
theorem all_moveIn (h : Tn.Good d) {r : Nat → Nat} (hr : TrD d r) (hn0 : 0 < n) (hn : lvD d n = true) : ∀ (f j : Nat), lvD d j = true → r n ≤ r j → all f (moveIn d n) j = all f d j
  | 0, _, _, _ => rfl
  | f + 1, j, hj, hrj => by
    have hu := up_live h hn0 hn
    have hrk := hr.1.rank n hn0 hn
    have hju : j ≠ upD d n := fun e => by rw [e] at hrj; omega
    have hnj : nd (moveIn d n) j = nd d j := by rw [mv_nd h hn0 hn, if_neg hju]
    have hi : isN (moveIn d n) (j : Int) false = isN d (j : Int) false := by
      rw [isN_iff, isN_iff]
      unfold lvD
      rw [hnj]
    have fm : ∀ s, (liD d j s).flatMap (all f (moveIn d n)) = (liD d j s).flatMap (all f d) := by
      intro s
      have : ∀ l : List Nat, (∀ k ∈ l, k ∈ liD d j s) → l.flatMap (all f (moveIn d n)) = l.flatMap (all f d) := by
        intro l hl
        induction l with
        | nil => rfl
        | cons a l ih =>
          obtain ⟨_, h2, h3, h4, _⟩ := hr.1.mem j s a (hl a (by simp))
          have hra := hr.1.rank a h3 h2
          rw [h4] at hra
          rw [List.flatMap_cons, List.flatMap_cons, all_moveIn h hr hn0 hn f a h2 (by omega), ih (fun k hk => hl k (by simp [hk]))]
      exact this _ (fun _ h => h)
    rw [all, all, hi, hnj]
    have f1 : (nd d j).shadow.flatMap (all f (moveIn d n)) = (nd d j).shadow.flatMap (all f d) := fm true
    have f2 : (nd d j).kids.flatMap (all f (moveIn d n)) = (nd d j).kids.flatMap (all f d) := fm false
    rw [f1, f2]

theorem kill_gone : ∀ (l : List Nat) (d : Dc), (∀ x ∈ l, x < d.length) → killD l d = l.foldl (fun d k => withd d k zero) d
  | [], _, _ => rfl
  | a :: l, d, h => by
    have ha := h a (by simp)
    show killD l (d.set a zero) = l.foldl _ (withd d a zero)
    have e : withd d a zero = d.set a zero := by unfold withd; rw [if_neg (by omega)]
    rw [e]
    exact kill_gone l _ (fun x hx => by rw [List.length_set]; exact h x (by simp [hx]))

theorem take_moveIn (h : Tn.Good d) (hn0 : 0 < n) (hn : lvD d n = true) : takeD d n = moveIn d n := by
  obtain ⟨hu1, hu2, hu3⟩ := up_live h hn0 hn
  have hul := lv_lt hu1
  have htu : (nd d n).up.toNat = upD d n := rfl
  have hlt : (takeD d n).length = d.length := by
    unfold takeD
    rw [htu, len_withd _ _ _ (Nat.le_of_lt hul)]
    omega
  refine doc_ext (by rw [hlt, mv_len]) fun j => ?_
  by_cases e : j = n
  · subst e
    unfold takeD
    rw [htu, nd_withd _ _ _ (Nat.le_of_lt hul), if_neg (fun e => hu2 e.symm), mv_nd h hn0 hn, if_neg (fun e => hu2 e.symm)]
  · have := d2_nd (t := 0) h hn0 hn j
    rw [if_neg e, nd_withd _ _ _ (by rw [hlt]; have := lv_lt hn; omega), if_neg e] at this
    exact this

theorem remove_docD (h : Tn.Good d) (hn0 : 0 < n) (hn : lvD d n = true) (x : Chg) (hx : x.node = (n : Int)) : killD (all fuel (moveIn d n) n) (moveIn d n) = removeD d x ∧ ∀ k ∈ all fuel (moveIn d n) n, k < d.length := by
  obtain ⟨r, hr, _⟩ := h.tr
  have ha := all_moveIn h hr hn0 hn fuel n hn (Nat.le_refl _)
  have hlt : ∀ k ∈ all fuel d n, k < d.length := fun k hk => lv_lt (all_desc hr fuel n k hk hn).1
  refine ⟨?_, by rw [ha]; exact hlt⟩
  unfold removeD
  rw [hx, Int.toNat_natCast, ha, kill_gone _ _ (fun k hk => by rw [mv_len]; exact hlt k hk), take_moveIn h hn0 hn]
end Go.Proofs.Ytookcjdibpccpaa

/-
  PLAIN MATHEMATICS: what dom makes is what the reference makes, in lists and in shadow trees.
-/
namespace Go.Proofs.Ytookcjdibpccpaa
open Tn

/-- a change that makes a node -/
def Mk (x : Chg) : Prop := x.kind = 1 ∨ x.kind = 2 ∨ x.kind = 9 ∨ x.kind = 10

theorem made_newS {x : Chg} (hk : Mk x) (m : Nat) (s : Bool) : made (newN x) m s = { newNd x with up := (m : Int), inS := s } := by
  unfold made newN newNd isText
  rcases hk with h | h | h | h <;> rw [h] <;> rfl

variable {d : Dc} {x : Chg} {m : Nat} {b : Int} {s : Bool}

theorem put_makeS (h : Tn.Good d) (hk : Mk x) (hm : lvD d m = true) (b : Int) (s : Bool) :
    putDoc (addIn d x) (free d) m b s = put1 (withd d (free d) (made (newN x) m s)) (free d) m b s := by
  obtain ⟨hf1, hf2⟩ := free_spec d
  obtain ⟨r, hr, hR⟩ := h.tr
  have hml := lv_lt hm
  have hmk : m ≠ free d := fun e => by rw [e, hf2] at hm; cases hm
  have hla : (addIn d x).length = max d.length (free d + 1) := by rw [addIn_withd d x]; exact len_withd _ _ _ hf1
  have hm1 : m < (addIn d x).length := by omega
  have hf3 : free d < (addIn d x).length := by omega
  have hm2 : m < (withd d (free d) (made (newN x) m s)).length := by rw [len_withd _ _ _ hf1]; omega
  have hlist : listOf (nd (withd d (free d) (made (newN x) m s)) m) s = listOf (nd d m) s := by rw [nd_withd _ _ _ hf1, if_neg hmk]
  have hlist2 : listOf (nd (addIn d x) m) s = listOf (nd d m) s := by rw [addIn_nd d x hf1, if_neg hmk]
  have hpl : place (listOf (nd d m) s) b = putAt (listOf (nd d m) s) b := place_putAt (hr.1.nodup m s) b
  refine doc_ext ?_ fun j => ?_
  · rw [put1_len _ _ _ _ _ hm2, len_withd _ _ _ hf1]
    unfold putDoc putIn
    rw [List.length_set, List.length_set, hla]
  · rw [put1_nd _ _ _ _ _ hm2, hlist, hpl, nd_withd _ _ _ hf1, nd_withd _ _ _ hf1, if_neg hmk, made_newS hk]
    unfold putDoc
    have hpi : ∀ i, nd (putIn (addIn d x) (free d) m b s) i = if i = m then setList (nd d m) s (insertAt (listOf (nd d m) s) (putAt (listOf (nd d m) s) b).toNat (free d)) else nd (addIn d x) i := by
      intro i
      unfold putIn
      rw [nd_setL _ _ _ hm1, hlist2, addIn_nd d x hf1 m, if_neg hmk]
    have hpk : nd (putIn (addIn d x) (free d) m b s) (free d) = newNd x := by
      rw [hpi, if_neg (fun e => hmk e.symm), addIn_nd d x hf1, if_pos rfl]
    rw [nd_setL _ _ _ (by unfold putIn; rw [List.length_set]; exact hf3), hpk]
    by_cases e : j = free d
    · skip
      simp only [e, if_true]
      rw [if_neg (fun e3 => hmk e3.symm)]
    · rw [if_neg e, hpi, addIn_nd d x hf1, if_neg e, if_neg e]

structure MadeF (d : Dc) (x : Chg) (m : Nat) (b : Int) (s : Bool) : Prop where
  tame : Tame (putDoc (addIn d x) (free d) m b s)
  li : ∀ j t, (liD (putDoc (addIn d x) (free d) m b s) j t).length ≤ 13
  lv : lvD (putDoc (addIn d x) (free d) m b s) (free d) = true
  root : lvD (putDoc (addIn d x) (free d) m b s) 0 = true
  code : putCode (addIn d x) (free d) m b s = putE (withd d (free d) (made (newN x) m s)) (free d) m b s

theorem madeF (h : Tn.Good d) (hk : Mk x) (hm : lvD d m = true) (b : Int) (s : Bool) : MadeF d x m b s := by
  obtain ⟨r, hr, hR⟩ := h.tr
  have hT := make_tr h hr (newN_new x) hm b s
  obtain ⟨hf1, hf2⟩ := free_spec d
  have hml := lv_lt hm
  have hnd := nd_withd d (free d) (made (newN x) m s) hf1
  have hml2 : m < (withd d (free d) (made (newN x) m s)).length := by rw [len_withd _ _ _ hf1]; omega
  have p := putF (withd d (free d) (made (newN x) m s)) (free d) m b s hml2
  have hf0 : free d ≠ 0 := fun e => by rw [e, hr.1.root] at hf2; cases hf2
  have hmk : m ≠ free d := fun e => by rw [e, hf2] at hm; cases hm
  have hup0 : (nd (put1 (withd d (free d) (made (newN x) m s)) (free d) m b s) 0).up = -1 := by rw [p.up, hnd, if_neg (Ne.symm hf0)]; exact h.rootUp
  have hlk : lvD (put1 (withd d (free d) (made (newN x) m s)) (free d) m b s) (free d) = true := by
    rw [p.lv]
    unfold lvD
    rw [hnd, if_pos rfl]
    rfl
  have hli : ∀ j t, liD (withd d (free d) (made (newN x) m s)) j t = liD d j t := by
    intro j t
    unfold liD
    rw [hnd]
    by_cases e : j = free d
    · rw [if_pos e, e, h.dead _ hf2, li_zero]
      unfold made listOf
      rw [(newN_new x).kids, (newN_new x).shadow]
      cases t <;> rfl
    · rw [if_neg e]
  have hR50 : ∀ j, lvD (put1 (withd d (free d) (made (newN x) m s)) (free d) m b s) j = true → (if j = free d then r m + 1 else r j) ≤ 50 := by
    intro j hj
    by_cases e : j = free d
    · rw [if_pos e]
      have := hR m hm
      omega
    · rw [if_neg e]
      rw [p.lv] at hj
      unfold lvD at hj
      rw [hnd, if_neg e] at hj
      have := hR j hj
      omega
  have hlen := h.len
  have hTm : Tame (put1 (withd d (free d) (made (newN x) m s)) (free d) m b s) := tame_of hT hR50 hup0 (by rw [put1_len _ _ _ _ _ hml2, len_withd _ _ _ hf1]; omega)
  have e := put_makeS h hk hm b s
  refine ⟨by rw [e]; exact hTm, ?_, by rw [e]; exact hlk, by rw [e]; exact hT.1.root, ?_⟩
  · intro j t
    rw [e, p.li]
    split
    · rw [len_insertAt, hli]
      have := h.small m s
      omega
    · rw [hli]
      have := h.small j t
      omega
  · have hda := deep_any hT hTm hR50 hup0 hlk
    have hlist : listOf (nd (withd d (free d) (made (newN x) m s)) m) s = listOf (nd d m) s := hli m s
    have hlist2 : listOf (nd (addIn d x) m) s = listOf (nd d m) s := by rw [addIn_nd d x hf1, if_neg hmk]
    have hpl : place (listOf (nd d m) s) b = putAt (listOf (nd d m) s) b := place_putAt (hr.1.nodup m s) b
    unfold putCode putE
    rw [hlist, hlist2, hpl, e, hda]
    simp only [decide_eq_true_eq]

theorem make_codeE (h : Tn.Good d) (hk : Mk x) (hx : x.node = (m : Int)) (hm : lvD d m = true) : addCode d x m (bef x) (isSh x) = makeE d x := by
  have hc := (madeF h hk hm (bef x) (isSh x)).code
  unfold addCode makeE mk1
  rw [hc, hx, Int.toNat_natCast]
  have hfr : freshE x = if isText x = true ∧ 60 < x.value.size then 4 else if isText x = false ∧ okName x.name = false then 7 else 0 := by
    unfold freshE isText okName
    rcases hk with e | e | e | e <;> rw [e]
    · cases nameL x.name.data.toList <;> simp
    · by_cases hs : 60 < x.value.size <;> simp [hs]
    · cases nameL x.name.data.toList <;> simp
    · by_cases hs : 60 < x.value.size <;> simp [hs]
  rw [hfr]
  by_cases h1 : isText x = true ∧ 60 < x.value.size
  · rw [if_pos h1, if_pos h1, if_pos (by decide)]
  · rw [if_neg h1, if_neg h1]
    by_cases h2 : isText x = false ∧ okName x.name = false
    · rw [if_pos h2, if_pos h2, if_pos (by decide)]
    · rw [if_neg h2, if_neg h2, if_neg (by simp)]

theorem make_docD (h : Tn.Good d) (hk : Mk x) (hx : x.node = (m : Int)) (hm : lvD d m = true) : putDoc (addIn d x) (free d) m (bef x) (isSh x) = makeD d x := by
  rw [put_makeS h hk hm]
  unfold makeD mk1
  rw [hx, Int.toNat_natCast]
end Go.Proofs.Ytookcjdibpccpaa

/-
  WHAT dom.change and dom.Apply make of any good document: what the reference makes.
-/
namespace Go.Proofs.Ytookcjdibpccpaa
open Go.RowKit

set_option maxHeartbeats 400000 in
set_option maxRecDepth 100000 in
theorem dremove_zero {w : World} (v : Value) :
    Calls Try.prog 68 #[v, .int .i64 0] w fun e w' => e = .returned (.int .i64 8) ∧ w' = w := by
  go_enter Try.func68, Try.ntmps68
  go_wp2_with fail
  go_ret
  exact ⟨rfl, rfl⟩

set_option maxHeartbeats 400000 in
set_option maxRecDepth 100000 in
theorem dchange_root {w : World} {B g c n : Nat} (hB : B ≤ w.heap.size) (tt bf : Int) (nm vl : ByteArray) :
    Calls Try.prog 57 #[.slice (some ⟨g, 0, none⟩) n c, chg6 ⟨4, 0, tt, bf, nm, vl⟩] w fun e w' => ∃ dv nv, e = .returned (.tuple #[dv, .int .i64 nv, .int .i64 8]) ∧ Below B w w' := by
  have S0 : (w.alloc (.cells #[.int .i64 4, .int .i64 0, .int .i64 tt, .int .i64 bf, .string nm, .string vl] 32)).cell? ⟨w.heap.size, 1, none⟩ = some (.int .i64 0) := by rw [World.cell?_alloc_new]; rfl
  have HB1 : Hid (Below B w (w.alloc (.cells #[.int .i64 4, .int .i64 0, .int .i64 tt, .int .i64 bf, .string nm, .string vl] 32))) := (Below.refl B w).alloc hB _
  unfold chg6
  simp only
  go_enter Try.func57, Try.ntmps57
  go_wp2_with fail
  have SS : ∀ w'', Keeps (w.alloc (.cells #[.int .i64 4, .int .i64 0, .int .i64 tt, .int .i64 bf, .string nm, .string vl] 32)) w'' → (fun w'' : World => w''.cell? ⟨w.heap.size, 1, none⟩ = some (.int .i64 0)) w'' := fun w'' hk => hk _ _ S0
  have HA : Hid (Calls Try.prog 68 #[.slice (some ⟨g, 0, none⟩) n c, .int .i64 0] (w.alloc (.cells #[.int .i64 4, .int .i64 0, .int .i64 tt, .int .i64 bf, .string nm, .string vl] 32)).drew fun e w' => e = .returned (.int .i64 8) ∧ Hid (Below B w w') ∧ w'.cell? ⟨w.heap.size, 1, none⟩ = some (.int .i64 0)) := by
    refine (dremove_zero _).mono ?_
    rintro e w' ⟨e1, rfl⟩
    exact ⟨e1, HB1.out.drew, by rw [World.cell?_drew]; exact S0⟩
  go_region_held3 (fun w'' : World => w''.cell? ⟨w.heap.size, 1, none⟩ = some (.int .i64 0))
    ((first | assumption | (apply SS; first | exact Keeps.refl _ | exact keeps_drew (Keeps.refl _))))
    (first
      | (go_at_call 68; refine HA.out.mono ?_; rintro e w2 ⟨rfl, b2, q2⟩))
  all_goals
    go_wp2_with fail
    go_ret3
    exact ⟨_, _, rfl, b2.out⟩

/-- good, and each node fits -/
structure Fine2 (d : Tn.Dc) : Prop where
  good : Tn.Good d
  fit : ∀ j, Fit j (Tn.nd d j)

theorem withd_set {d : Tn.Dc} {k : Nat} {n : Tn.Nd} (hk : k < d.length) : Tn.withd d k n = d.set k n := by
  unfold Tn.withd
  rw [if_neg (by omega)]

theorem el_of {d : Tn.Dc} {m : Nat} (hm : Tn.lvD d m = true) : Tn.isN d (m : Int) true = Tn.has (Tn.nd d m).tag := by
  have h1 := Tn.lv_lt hm
  unfold Tn.isN
  have h2 : (Tn.nd d m).live = true := hm
  rw [Int.toNat_natCast, h2]
  simp
  intro h
  omega

theorem chs_full {d : Tn.Dc} (hF : Fine2 d) (kd tt bf : Int) (nm vl : ByteArray) (hk1 : 1 ≤ kd) (hk2 : kd ≤ 10) (hnm : nm.size ≤ 4194304) (hvl : vl.size ≤ 4194304) {m : Nat} (hm : Tn.lvD d m = true) :
    Chs d ⟨kd, (m : Int), tt, bf, nm, vl⟩ (Tn.chgE d ⟨kd, (m : Int), tt, bf, nm, vl⟩) (Tn.chgN d ⟨kd, (m : Int), tt, bf, nm, vl⟩) (Tn.chgD d ⟨kd, (m : Int), tt, bf, nm, vl⟩) := by
  have h := hF.good
  intro B W g c rs hB hO
  have hl := hO.len
  have hlen := h.len
  have hml := Tn.lv_lt hm
  have hsm := h.small
  have hrise := (hF.fit m).rise
  have h8 := h.attrs m
  have hel := el_of hm
  have hif : ∀ (a : Int), (if Tn.isN d (m : Int) true = true then a else 8) = (if Tn.has (Tn.nd d m).tag = false then 8 else a) := by
    intro a
    rw [hel]
    cases Tn.has (Tn.nd d m).tag <;> rfl
  have hcase : kd = 1 ∨ kd = 2 ∨ kd = 3 ∨ kd = 4 ∨ kd = 5 ∨ kd = 6 ∨ kd = 7 ∨ kd = 8 ∨ kd = 9 ∨ kd = 10 := by omega
  have hmk : ∀ (x : Tn.Chg), Mk x → x.node = (m : Int) → ∀ s b, (∀ s, (Tn.liD (addIn d x) m s).length ≤ 1000) ∧ (freshE x = 0 → Tn.free d < 60 → 0 ≤ putAt (Tn.listOf (Tn.nd (addIn d x) m) s) b → (Tn.listOf (Tn.nd (addIn d x) m) s).length < 12 → Tame (putDoc (addIn d x) (Tn.free d) m b s) ∧ (∀ j t, (Tn.liD (putDoc (addIn d x) (Tn.free d) m b s) j t).length ≤ 1000) ∧ Tn.lvD (putDoc (addIn d x) (Tn.free d) m b s) (Tn.free d) = true) := by
    intro x hx _ s b
    have f := madeF h hx hm b s
    refine ⟨fun s => ?_, fun _ _ _ _ => ⟨f.tame, fun j t => ?_, f.lv⟩⟩
    · rw [li_addIn h]
      have := hsm m s
      omega
    · have := f.li j t
      omega
  rcases hcase with rfl | rfl | rfl | rfl | rfl | rfl | rfl | rfl | rfl | rfl
  · have hx : Mk ⟨1, (m : Int), tt, bf, nm, vl⟩ := Or.inl rfl
    obtain ⟨q1, q2⟩ := hmk _ hx rfl false bf
    refine (dchange_make hO hB (by omega) 1 (Or.inl rfl) tt bf nm vl hnm hvl (m := m) (by omega) q1 q2).mono ?_
    rintro e w' ⟨dv, nv, cd, e1, e2, e3, e4⟩
    have hc : cd = Tn.chgE d ⟨1, (m : Int), tt, bf, nm, vl⟩ := by
      rw [e3, hif]
      have := make_codeE h hx rfl hm
      exact congrArg (fun a => if Tn.has (Tn.nd d m).tag = false then (8 : Int) else a) this
    have hD : putDoc (addIn d ⟨1, (m : Int), tt, bf, nm, vl⟩) (Tn.free d) m bf false = Tn.chgD d ⟨1, (m : Int), tt, bf, nm, vl⟩ := make_docD h hx rfl hm
    rw [hD] at e4
    rw [hc] at e4 e1
    exact ⟨dv, nv, e1, e2, e4⟩
  · have hx : Mk ⟨2, (m : Int), tt, bf, nm, vl⟩ := Or.inr (Or.inl rfl)
    obtain ⟨q1, q2⟩ := hmk _ hx rfl false bf
    refine (dchange_make hO hB (by omega) 2 (Or.inr rfl) tt bf nm vl hnm hvl (m := m) (by omega) q1 q2).mono ?_
    rintro e w' ⟨dv, nv, cd, e1, e2, e3, e4⟩
    have hc : cd = Tn.chgE d ⟨2, (m : Int), tt, bf, nm, vl⟩ := by
      rw [e3, hif]
      have := make_codeE h hx rfl hm
      exact congrArg (fun a => if Tn.has (Tn.nd d m).tag = false then (8 : Int) else a) this
    have hD : putDoc (addIn d ⟨2, (m : Int), tt, bf, nm, vl⟩) (Tn.free d) m bf false = Tn.chgD d ⟨2, (m : Int), tt, bf, nm, vl⟩ := make_docD h hx rfl hm
    rw [hD] at e4
    rw [hc] at e4 e1
    exact ⟨dv, nv, e1, e2, e4⟩
  · have hce : moveCode d m ⟨3, (m : Int), tt, bf, nm, vl⟩ = Tn.chgE d ⟨3, (m : Int), tt, bf, nm, vl⟩ := move_codeE h hm _ rfl
    refine (dchange_move hO hB (tame_good h) tt bf nm vl (m := m) (by omega) (fun hm0 => ?_) (fun j s => ?_) (fun hm0 j s => ?_) (fun hm0 ht hw _ _ => ?_)).mono ?_
    · have := up_live h (by omega) hm
      exact ⟨Tn.upD d m, this.2.2, by have := Tn.lv_lt this.1; omega⟩
    · have := hsm j s
      omega
    · have := mv_li h (by omega) hm j s
      omega
    · obtain ⟨t, e, _, hlv⟩ := isN_nat (isN_true ht)
      rw [e] at hw ⊢
      rw [Int.toNat_natCast]
      have hne := within_ne h hlv hw
      refine ⟨moved_tame h (by omega) hm hlv hw, fun j s => ?_, ?_⟩
      · have := moved_li (b := bf) h (by omega) hm hlv hne j s
        omega
      · rw [moved_lv h (by omega) hm hlv hne]
        exact hm
    · rintro e w' ⟨rs', e1, e2, e3⟩
      rw [hce] at e1 e3
      refine ⟨_, _, e1, e2, fun h0 => ⟨rfl, g, c, rs', rfl, ?_⟩⟩
      have hd := (move_docD h hm ⟨3, (m : Int), tt, bf, nm, vl⟩ rfl h0).2.2.2.2
      have := e3 h0
      rw [hd] at this
      exact this
  · by_cases hm0 : m = 0
    · subst hm0
      refine (dchange_root hB tt bf nm vl).mono ?_
      rintro e w' ⟨dv, nv, e1, e2⟩
      refine ⟨dv, nv, e1, e2, fun h0 => ?_⟩
      have : Tn.chgE d ⟨4, ((0 : Nat) : Int), tt, bf, nm, vl⟩ = 8 := rfl
      rw [this] at h0
      cases h0
    · have hu := up_live h (by omega) hm
      have hT := moveIn_tame (tame_good h) (n := m) (u := Tn.upD d m) rfl (Tn.lv_lt hu.1)
      have hrd := remove_docD h (by omega) hm ⟨4, (m : Int), tt, bf, nm, vl⟩ rfl
      refine (dchange_remove hO hB tt bf nm vl (m := m) (by omega) hm0 ⟨Tn.upD d m, hu.2.2, by have := Tn.lv_lt hu.1; omega⟩ (fun j s => ?_) ⟨hT.1, fun j s => ?_, ?_⟩ (fun k hk => ?_)).mono ?_
      · have := hsm j s
        omega
      · have h1 := (hT.2.1 j s).length_le
        have := hsm j s
        omega
      · rw [hT.2.2.1]
        exact hm
      · rw [hl]
        exact hrd.2 k hk
      · rintro e w' ⟨rs', e1, e2, e3⟩
        have hc : Tn.chgE d ⟨4, (m : Int), tt, bf, nm, vl⟩ = 0 := by
          show (if (m : Int) = 0 then (8 : Int) else 0) = 0
          rw [if_neg (by omega)]
        rw [hrd.1] at e3
        refine ⟨_, _, by rw [hc]; exact e1, e2, fun _ => ⟨rfl, g, c, rs', rfl, e3⟩⟩
  · refine (dchange_attr5 hO hB tt bf nm vl (m := m) (by omega) (by omega) hrise h8 hnm hvl).mono ?_
    rintro e w' ⟨dv, nv, cd, e1, e2, e3, e4⟩
    have hc : cd = Tn.chgE d ⟨5, (m : Int), tt, bf, nm, vl⟩ := by rw [e3, hif]; rfl
    have hD : d.set m { Tn.nd d m with attrs := Tn.attrsD (Tn.nd d m).attrs nm vl } = Tn.chgD d ⟨5, (m : Int), tt, bf, nm, vl⟩ := (withd_set hml).symm
    rw [hD] at e4
    rw [hc] at e4 e1
    exact ⟨dv, nv, e1, e2, e4⟩
  · refine (dchange_clear6 hO hB tt bf nm vl (m := m) (by omega) (by omega) hrise h8).mono ?_
    rintro e w' ⟨dv, nv, cd, e1, e2, e3, e4⟩
    have hc : cd = Tn.chgE d ⟨6, (m : Int), tt, bf, nm, vl⟩ := by rw [e3, hif]; rfl
    have hD : d.set m { Tn.nd d m with attrs := Tn.attrsOff (Tn.nd d m).attrs nm } = Tn.chgD d ⟨6, (m : Int), tt, bf, nm, vl⟩ := (withd_set hml).symm
    rw [hD] at e4
    rw [hc] at e4 e1
    exact ⟨dv, nv, e1, e2, e4⟩
  · refine (dchange_say7 hO hB tt bf nm vl (m := m) (by omega) (by omega) hvl).mono ?_
    rintro e w' ⟨dv, nv, cd, e1, e2, e3, e4⟩
    have hc : cd = Tn.chgE d ⟨7, (m : Int), tt, bf, nm, vl⟩ := by rw [e3]; rfl
    have hD : d.set m { Tn.nd d m with text := vl } = Tn.chgD d ⟨7, (m : Int), tt, bf, nm, vl⟩ := (withd_set hml).symm
    rw [hD] at e4
    rw [hc] at e4 e1
    exact ⟨dv, nv, e1, e2, e4⟩
  · refine (dchange_shad8 hO hB tt bf nm vl (m := m) (by omega) (by omega)).mono ?_
    rintro e w' ⟨dv, nv, cd, e1, e2, e3, e4⟩
    have hc : cd = Tn.chgE d ⟨8, (m : Int), tt, bf, nm, vl⟩ := by
      rw [e3, hif]
      show (if Tn.has (Tn.nd d m).tag = false then (8 : Int) else shadC m (Tn.nd d m)) = (if Tn.has (Tn.nd d m).tag = false then (8 : Int) else if (m : Int) = 0 ∨ (Tn.nd d m).hasS = true ∨ (Tn.nd d m).tag.toList = Tn.slotT then 8 else 0)
      unfold shadC
      have : (m = 0 ∨ (Tn.nd d m).hasS = true ∨ (Tn.nd d m).tag.toList = Tn.slotT) ↔ ((m : Int) = 0 ∨ (Tn.nd d m).hasS = true ∨ (Tn.nd d m).tag.toList = Tn.slotT) := by
        constructor
        · rintro (h | h)
          · exact Or.inl (by omega)
          · exact Or.inr h
        · rintro (h | h)
          · exact Or.inl (by omega)
          · exact Or.inr h
      simp only [this]
    have hD : d.set m { Tn.nd d m with hasS := true } = Tn.chgD d ⟨8, (m : Int), tt, bf, nm, vl⟩ := (withd_set hml).symm
    rw [hD] at e4
    rw [hc] at e4 e1
    exact ⟨dv, nv, e1, e2, e4⟩
  · have hx : Mk ⟨9, (m : Int), tt, bf, nm, vl⟩ := Or.inr (Or.inr (Or.inl rfl))
    obtain ⟨q1, q2⟩ := hmk _ hx rfl true (-1)
    refine (dchange_Nine hO hB (by omega) tt bf nm vl hnm hvl (m := m) (by omega) q1 q2).mono ?_
    rintro e w' ⟨dv, nv, cd, e1, e2, e3, e4⟩
    have hc : cd = Tn.chgE d ⟨9, (m : Int), tt, bf, nm, vl⟩ := by
      rw [e3, hif]
      have := make_codeE h hx rfl hm
      exact congrArg (fun a => if Tn.has (Tn.nd d m).tag = false then (8 : Int) else a) this
    have hD : putDoc (addIn d ⟨9, (m : Int), tt, bf, nm, vl⟩) (Tn.free d) m (-1) true = Tn.chgD d ⟨9, (m : Int), tt, bf, nm, vl⟩ := make_docD h hx rfl hm
    rw [hD] at e4
    rw [hc] at e4 e1
    exact ⟨dv, nv, e1, e2, e4⟩
  · have hx : Mk ⟨10, (m : Int), tt, bf, nm, vl⟩ := Or.inr (Or.inr (Or.inr rfl))
    obtain ⟨q1, q2⟩ := hmk _ hx rfl true (-1)
    refine (dchange_Ten hO hB (by omega) tt bf nm vl hnm hvl (m := m) (by omega) q1 q2).mono ?_
    rintro e w' ⟨dv, nv, cd, e1, e2, e3, e4⟩
    have hc : cd = Tn.chgE d ⟨10, (m : Int), tt, bf, nm, vl⟩ := by
      rw [e3, hif]
      have := make_codeE h hx rfl hm
      exact congrArg (fun a => if Tn.has (Tn.nd d m).tag = false then (8 : Int) else a) this
    have hD : putDoc (addIn d ⟨10, (m : Int), tt, bf, nm, vl⟩) (Tn.free d) m (-1) true = Tn.chgD d ⟨10, (m : Int), tt, bf, nm, vl⟩ := make_docD h hx rfl hm
    rw [hD] at e4
    rw [hc] at e4 e1
    exact ⟨dv, nv, e1, e2, e4⟩
end Go.Proofs.Ytookcjdibpccpaa

/-
  THE WALK of tnlaw2's alive.
-/
namespace Go.Proofs.Ytookcjdibpccpaa
open Go.RowKit

def al1 : Tn.Chg := ⟨1, 0, 0, -1, ⟨#[112]⟩, ⟨#[]⟩⟩
def al2 : Tn.Chg := ⟨5, 1, 0, 0, ⟨#[105, 100]⟩, ⟨#[120]⟩⟩
theorem al_free : Tn.free [Tn.root] = 1 := by decide +kernel
theorem al_code : makeCode [Tn.root] al1 0 = 0 := by decide +kernel
theorem al_doc1 : putDoc (addIn [Tn.root] al1) (Tn.free [Tn.root]) 0 (-1) false = Tn.build [al1] := by kernel_rfl
theorem al_doc2 : (Tn.build [al1]).set 1 { Tn.nd (Tn.build [al1]) 1 with attrs := [(⟨#[105, 100]⟩, ⟨#[120]⟩)] } = Tn.build [al1, al2] := by kernel_rfl
theorem al_attr : Tn.attrOf (Tn.nd (Tn.build [al1, al2]) 1).attrs ⟨#[105, 100]⟩ = some ⟨#[120]⟩ := by kernel_rfl
theorem al_len : (Tn.build [al1, al2]).length = 2 := by decide +kernel
theorem al_find : findD (Tn.build [al1, al2]) 0 ⟨#[120]⟩ = 1 := by decide +kernel
theorem al_within : Tn.within (Tn.build [al1, al2]) 1 0 = true := by decide +kernel
theorem al_deep : (Tn.pathOf (Tn.build [al1, al2]) 1).length - 1 = 1 := by decide +kernel
theorem al_all : Tn.all Tn.fuel (Tn.build [al1, al2]) 0 = [0, 1] := by decide +kernel
theorem al_is : Tn.isN (Tn.build [al1, al2]) 1 true = true := by decide +kernel
theorem al_scope : scopeD (Tn.build [al1, al2]) 1 = 0 := by decide +kernel
theorem al_last1 : Tn.trimD (Tn.build [al1]) = Tn.build [al1] := by kernel_rfl
theorem al_last2 : Tn.trimD (Tn.build [al1, al2]) = Tn.build [al1, al2] := by kernel_rfl
theorem al_lv : Tn.lvD (Tn.build [al1, al2]) 0 = true := by decide +kernel
theorem al_is1 : Tn.isN (Tn.build [al1]) 1 true = true := by decide +kernel
theorem al_is0 : Tn.isN (Tn.build [al1]) 1 false = true := by decide +kernel
theorem al_lv1 : Tn.lvD (Tn.build [al1]) 0 = true := by decide +kernel
theorem al_at1 : (Tn.nd (Tn.build [al1]) 1).attrs = [] := by kernel_rfl
theorem al_val : valN (Tn.build [al1, al2]) 1 ⟨#[105, 100]⟩ = ⟨#[120]⟩ := by kernel_rfl
theorem al_attrN : attrN (Tn.build [al1, al2]) 1 ⟨#[105, 100]⟩ = some ⟨#[120]⟩ := by kernel_rfl

theorem chs_al2 : Chs (Tn.build [al1]) ⟨5, 1, 0, 0, ⟨#[105, 100]⟩, ⟨#[120]⟩⟩ 0 1 (Tn.build [al1, al2]) := by
  intro B W g c rs hB hO
  have hl : rs.length = 2 := hO.len.trans (by decide +kernel)
  refine (dchange_attr0 hO hB (by omega) 0 0 ⟨#[105, 100]⟩ ⟨#[120]⟩ (m := 1) (by omega) al_is1 al_at1 (by decide) (by decide) (by decide)).mono ?_
  rintro e w' ⟨rs', e1, e2, e3⟩
  rw [al_doc2] at e3
  exact ⟨_, _, e1, e2, fun _ => ⟨rfl, g, c, rs', rfl, e3⟩⟩

theorem chs_al1 : Chs [Tn.root] ⟨1, 0, 0, -1, ⟨#[112]⟩, ⟨#[]⟩⟩ 0 1 (Tn.build [al1]) := by
  have := chs_make good_root (m := 0) (by decide +kernel) 1 0 (-1) ⟨#[112]⟩ ⟨#[]⟩ (Or.inl rfl) (by decide) (by decide)
  have e1 : makeCode [Tn.root] ⟨1, ((0 : Nat) : Int), 0, -1, ⟨#[112]⟩, ⟨#[]⟩⟩ 0 = 0 := al_code
  have e2 : putDoc (addIn [Tn.root] ⟨1, ((0 : Nat) : Int), 0, -1, ⟨#[112]⟩, ⟨#[]⟩⟩) (Tn.free [Tn.root]) 0 (-1) false = Tn.build [al1] := al_doc1
  rw [e1, e2, al_free] at this
  exact this

theorem apply_al1 {w : World} {b o c : Nat} {rs : List Raw} (hd : DocAt w b o c rs [Tn.root]) : Calls Try.prog 41 #[.slice (some ⟨b, o, none⟩) rs.length c, chg6 ⟨1, 0, 0, -1, ⟨#[112]⟩, ⟨#[]⟩⟩] w fun e w' => ∃ (g' c' : Nat) (rs' : List Raw), e = .returned (.tuple #[.slice (some ⟨g', 0, none⟩) rs'.length c', .int .i64 1, .int .i64 0]) ∧ Hid (DocAt w' g' 0 c' rs' (Tn.build [al1])) ∧ Below w.heap.size w w' := by
  have hl : rs.length = 1 := hd.len
  refine (dapply_chs hd (by omega) (by decide) (fun j s => ?_) (fun k => ?_) 1 0 0 (-1) ⟨#[112]⟩ ⟨#[]⟩ (by omega) (by omega) (by decide +kernel) chs_al1 (fun _ => al_lv1)).mono ?_
  · have := good_root.small j s
    omega
  · have := good_root.attrs k
    omega
  · rintro e w' ⟨v, e1, e2, e3 | ⟨_, g', c', rs', e3, e4, _⟩⟩
    · exact absurd rfl e3.1
    · rw [al_last1] at e4
      exact ⟨g', c', rs', by rw [e1, e3], e4, e2⟩

theorem apply_al2 {w : World} {b o c : Nat} {rs : List Raw} (hd : DocAt w b o c rs (Tn.build [al1])) : Calls Try.prog 41 #[.slice (some ⟨b, o, none⟩) rs.length c, chg6 ⟨5, 1, 0, 0, ⟨#[105, 100]⟩, ⟨#[120]⟩⟩] w fun e w' => ∃ (g' c' : Nat) (rs' : List Raw), e = .returned (.tuple #[.slice (some ⟨g', 0, none⟩) rs'.length c', .int .i64 1, .int .i64 0]) ∧ Hid (DocAt w' g' 0 c' rs' (Tn.build [al1, al2])) ∧ Below w.heap.size w w' := by
  have hg := build_good [al1]
  have hl : rs.length = 2 := hd.len.trans (by decide +kernel)
  refine (dapply_chs hd (by omega) (by have := hg.len; omega) (fun j s => ?_) (fun k => ?_) 5 1 0 0 ⟨#[105, 100]⟩ ⟨#[120]⟩ (by omega) (by omega) al_is0 chs_al2 (fun _ => al_lv)).mono ?_
  · have := hg.small j s
    omega
  · have := hg.attrs k
    omega
  · rintro e w' ⟨v, e1, e2, e3 | ⟨_, g', c', rs', e3, e4, _⟩⟩
    · exact absurd rfl e3.1
    · rw [al_last2] at e4
      exact ⟨g', c', rs', by rw [e1, e3], e4, e2⟩

set_option maxHeartbeats 400000 in
set_option maxRecDepth 100000 in
theorem l2alive_any (w : World) : Calls Try.prog 43 #[] w fun e w' => e = .returned (.bool true) ∧ Below w.heap.size w w' := by
  go_enter Try.func43, Try.ntmps43
  go_wp2_with fail
  refine dnew_any.mono ?_
  rintro e w1 ⟨rfl, hd1, b1⟩
  have D1 : Hid (DocAt w1 w.heap.size 0 1 [rootR] [Tn.root]) := hd1
  clear hd1
  go_wp2_with fail
  refine (apply_al1 D1.out).mono ?_
  rintro e w2 ⟨g2, c2, rs2, rfl, D2, b2⟩
  have B2 : Hid (Below w.heap.size w w2) := b1.trans (b2.mono b1.size)
  clear b1 b2
  go_wp2_with fail
  refine (apply_al2 D2.out).mono ?_
  rintro e w3 ⟨g, c, rs, rfl, D3, b3⟩
  have B3 : Hid (Below w.heap.size w w3) := B2.out.trans (b3.mono B2.out.size)
  clear b3 D1 D2 B2
  have hok := build_okd [al1, al2]
  have hl : rs.length = 2 := D3.out.len.trans al_len
  have F0 : Hid (∀ W, DocAt W g 0 c rs (Tn.build [al1, al2]) → Calls Try.prog 37 #[.slice (some ⟨g, 0, none⟩) rs.length c, .int .i64 1, .string ⟨#[105, 100]⟩] W fun e w' => e = .returned (.tuple #[.string ⟨#[120]⟩, .bool true]) ∧ DocAt w' g 0 c rs (Tn.build [al1, al2]) ∧ Below W.heap.size W w') := fun W h => ((dattr_all h hok 1 ⟨#[105, 100]⟩).mono fun e w' ⟨a, b⟩ => ⟨by rw [a, al_val, al_attrN]; rfl, h.keeps (keeps_below b (Nat.le_refl _)), b⟩)
  have F1 : Hid (∀ W, DocAt W g 0 c rs (Tn.build [al1, al2]) → Calls Try.prog 30 #[.slice (some ⟨g, 0, none⟩) rs.length c, .int .i64 0, .string ⟨#[120]⟩] W fun e w' => e = .returned (.int .i64 1) ∧ DocAt w' g 0 c rs (Tn.build [al1, al2]) ∧ Below W.heap.size W w') := fun W h => ((dfind_any h hok.tame hok.small hok.root hok.rise hok.few 0 ⟨#[120]⟩).mono fun e w' ⟨a, b⟩ => ⟨by rw [a, al_find], h.keeps (keeps_below b (Nat.le_refl _)), b⟩)
  have F2 : Hid (∀ W, DocAt W g 0 c rs (Tn.build [al1, al2]) → Calls Try.prog 28 #[.slice (some ⟨g, 0, none⟩) rs.length c, .int .i64 1, .int .i64 0] W fun e w' => e = .returned (.bool true) ∧ DocAt w' g 0 c rs (Tn.build [al1, al2]) ∧ Below W.heap.size W w') := fun W h => ((dwithin_any h hok.tame 1 0).mono fun e w' ⟨a, b⟩ => ⟨by rw [a, al_within], h.keeps (keeps_below b (Nat.le_refl _)), b⟩)
  have F3 : Hid (∀ W, DocAt W g 0 c rs (Tn.build [al1, al2]) → Calls Try.prog 39 #[.slice (some ⟨g, 0, none⟩) rs.length c, .int .i64 1] W fun e w' => e = .returned (.int .i64 1) ∧ DocAt w' g 0 c rs (Tn.build [al1, al2]) ∧ Below W.heap.size W w') := fun W h => ((ddeep_any h hok.tame 1).mono fun e w' ⟨a, b⟩ => ⟨by rw [a, al_deep]; rfl, h.keeps (keeps_below b (Nat.le_refl _)), b⟩)
  have F4 : Hid (∀ W, DocAt W g 0 c rs (Tn.build [al1, al2]) → Calls Try.prog 26 #[.slice (some ⟨g, 0, none⟩) rs.length c, .int .i64 1, .bool true] W fun e w' => e = .returned (.bool true) ∧ DocAt w' g 0 c rs (Tn.build [al1, al2]) ∧ Below W.heap.size W w') := fun W h => ((dis_any h 1 true).mono fun e w' ⟨a, b⟩ => ⟨by rw [a, al_is], by rw [b]; exact h, by rw [b]; exact Below.refl _ _⟩)
  have F5 : Hid (∀ W, DocAt W g 0 c rs (Tn.build [al1, al2]) → Calls Try.prog 32 #[.slice (some ⟨g, 0, none⟩) rs.length c, .int .i64 1] W fun e w' => e = .returned (.int .i64 0) ∧ DocAt w' g 0 c rs (Tn.build [al1, al2]) ∧ Below W.heap.size W w') := fun W h => ((dscope_any h hok.tame 1).mono fun e w' ⟨a, b⟩ => ⟨by rw [a, al_scope], h.keeps (keeps_below b (Nat.le_refl _)), b⟩)
  have FA : Hid (∀ W, DocAt W g 0 c rs (Tn.build [al1, al2]) → Calls Try.prog 35 #[.slice (some ⟨g, 0, none⟩) rs.length c, .int .i64 0] W fun e w' => (∃ p c', e = .returned (.slice p 2 c')) ∧ DocAt w' g 0 c rs (Tn.build [al1, al2]) ∧ Below W.heap.size W w') := fun W h => (dall_any h hok.tame hok.small 0 hok.root).mono fun e w' ⟨v, a, o, b⟩ => by
    rw [al_all] at o
    obtain ⟨p, c', rfl⟩ := o.shape
    exact ⟨⟨p, c', a⟩, h.keeps (keeps_below b (Nat.le_refl _)), b⟩
  clear hok
  generalize Tn.build [al1, al2] = d at *
  rw [hl] at F0 F1 F2 F3 F4 F5 FA ⊢
  clear hl
  go_wp2_with fail
  refine (F0.out w3 D3.out).mono ?_
  rintro e w4 ⟨rfl, hd4, b4⟩
  have D4 : Hid (DocAt w4 g 0 c rs d) := hd4
  have B4 : Hid (Below w.heap.size w w4) := B3.out.trans (b4.mono B3.out.size)
  clear hd4 b4
  go_wp2_with fail
  refine (F1.out w4 D4.out).mono ?_
  rintro e w5 ⟨rfl, hd5, b5⟩
  have D5 : Hid (DocAt w5 g 0 c rs d) := hd5
  have B5 : Hid (Below w.heap.size w w5) := B4.out.trans (b5.mono B4.out.size)
  clear hd5 b5
  go_wp2_with fail
  refine (F2.out w5 D5.out).mono ?_
  rintro e w6 ⟨rfl, hd6, b6⟩
  have D6 : Hid (DocAt w6 g 0 c rs d) := hd6
  have B6 : Hid (Below w.heap.size w w6) := B5.out.trans (b6.mono B5.out.size)
  clear hd6 b6
  go_wp2_with fail
  refine (F3.out w6 D6.out).mono ?_
  rintro e w7 ⟨rfl, hd7, b7⟩
  have D7 : Hid (DocAt w7 g 0 c rs d) := hd7
  have B7 : Hid (Below w.heap.size w w7) := B6.out.trans (b7.mono B6.out.size)
  clear hd7 b7
  go_wp2_with fail
  refine (FA.out w7 D7.out).mono ?_
  rintro e w8 ⟨⟨p, c', rfl⟩, hd8, b8⟩
  have D8 : Hid (DocAt w8 g 0 c rs d) := hd8
  have B8 : Hid (Below w.heap.size w w8) := B7.out.trans (b8.mono B7.out.size)
  clear hd8 b8
  go_wp2_with fail
  refine (F4.out w8 D8.out).mono ?_
  rintro e w9 ⟨rfl, hd9, b9⟩
  have D9 : Hid (DocAt w9 g 0 c rs d) := hd9
  have B9 : Hid (Below w.heap.size w w9) := B8.out.trans (b9.mono B8.out.size)
  clear hd9 b9
  go_wp2_with fail
  refine (F5.out w9 D9.out).mono ?_
  rintro e wa ⟨rfl, hda, ba⟩
  have Da : Hid (DocAt wa g 0 c rs d) := hda
  have Ba : Hid (Below w.heap.size w wa) := B9.out.trans (ba.mono B9.out.size)
  clear hda ba
  go_wp2_with fail
  go_ret
  exact ⟨rfl, Ba.out⟩
end Go.Proofs.Ytookcjdibpccpaa

/-
  TWO ATTRIBUTES THAT ARE ONE ARE NOT UNLIKE.
-/
namespace Go.Proofs.Ytookcjdibpccpaa
open Go.RowKit
theorem attr_neq (W : World) (a b : ByteArray) : (binOp .neq 62 (.agg #[.string a, .string b]) (.agg #[.string a, .string b])).run Try.prog W = .ok (.bool false) W := by
  have u9 := Try.underlying9
  have hS : Try.prog.underlying 62 = some (.struct (Try.prog.fieldsOf 62)) := by kernel_rfl
  have hp : Try.prog.stoodInHeld 62 = false := by kernel_rfl
  rw [run_neq_struct, show (10000 : Nat) = 9999 + 1 from rfl, run_equalIn_agg W 9999 62 _ _ hS hp]
  simp only [Program.fieldsOf, Try.underlying62]
  go_simp
theorem attr_guard (W : World) (x y : Operand) (xs ys : Array Value) : (eqGuard .neq 62 x y (.agg xs) (.agg ys)).run Try.prog W = .ok () W := run_eqGuard_agg W .neq 62 x y xs ys (by kernel_rfl)
end Go.Proofs.Ytookcjdibpccpaa
