/-
  OWN WORK: Dbs, Dch, Dlv, Neq, Rsa, Dmd.
-/
import Derived.Test.YtookcjdibpccpabP9
import Derived.Test.YtookcjdibpccpabP8
import Derived.Test.YtookcjdibpccpabP5
import Derived.Test.YtookcjdibpccpabP6
import Derived.Test.YtookcjdibpccpabP1
import Derived.Laws.StructEq
import Derived.Test.YtookcjdibpccpabP2
import Derived.Deep.QuietTactic
import Derived.BigQuiet
import Derived.Deep.RegionHeld3
import Derived.Test.YtookcjdibpccpabP4
/-
  PLAIN MATHEMATICS: the document in which a node was made; and what is left when it goes.
-/
namespace Go.Proofs.Ytookcjdibpccpab
open Tn

/-- lists may lose nodes: all roads still end -/
theorem tame_sub {d d' : Dc} (h : Tame d) (hl : d'.length = d.length) (hv : ∀ k, (nd d' k).live = (nd d k).live) (hu : ∀ k, (nd d' k).up = (nd d k).up) (hs : ∀ k s, (liD d' k s).Sublist (liD d k s)) : Tame d' := by
  have hi : ∀ n, isN d' n false = isN d n false := by
    intro n
    unfold isN
    rw [hl, hv]
    simp
  have hp : ∀ f n, path f d' n = path f d n := by
    intro f
    induction f with
    | zero => intro n; rfl
    | succ f ih => intro n; rw [path, path, hi, hu, ih]
  have hsh : ∀ k, (nd d' k).shadow.Sublist (nd d k).shadow := fun k => hs k true
  have hki : ∀ k, (nd d' k).kids.Sublist (nd d k).kids := fun k => hs k false
  have ha : ∀ f n, (all f d' n).Sublist (all f d n) := by
    intro f
    induction f with
    | zero => intro n; exact List.Sublist.refl _
    | succ f ih =>
      intro n
      have fm : ∀ {l l' : List Nat}, l'.Sublist l → (l'.flatMap (all f d')).Sublist (l.flatMap (all f d)) := by
        intro l l' hll
        induction hll with
        | slnil => exact List.Sublist.refl _
        | cons a _ ih2 => rw [List.flatMap_cons]; exact ih2.trans (List.sublist_append_right _ _)
        | cons_cons a _ ih2 => rw [List.flatMap_cons, List.flatMap_cons]; exact (ih a).append ih2
      rw [all, all, hi]
      split
      · exact ((fm (hsh n)).append (fm (hki n))).cons_cons n
      · exact List.Sublist.refl _
  refine ⟨by rw [hl]; exact h.len, fun n => ?_, fun f n => ?_, fun k hk => ?_⟩
  · unfold pathOf
    rw [hl, hp]
    exact h.path n
  · rw [hl]
    exact Nat.le_trans (ha f n).length_le (h.few f n)
  · have he : ∀ f k, Tn.Ends f d k → Tn.Ends f d' k := by
      intro f
      induction f with
      | zero => intro k hk; exact hk
      | succ f ih =>
        intro k hk
        exact ⟨by rw [hl]; exact hk.1, fun j hj => ih j (hk.2.1 j ((hsh k).subset hj)), fun j hj => ih j (hk.2.2 j ((hki k).subset hj))⟩
    refine he _ k (h.ends k ?_)
    unfold lvD at hk ⊢
    rw [← hv]
    exact hk

variable {d : Dc} {x : Chg} {m : Nat} {b : Int}

theorem make_len (h : Tn.Good d) (hk : x.kind = 1 ∨ x.kind = 2) (hm : lvD d m = true) : (putDoc (addIn d x) (free d) m b false).length = max d.length (free d + 1) := by
  obtain ⟨hf1, _⟩ := free_spec d
  have hml := lv_lt hm
  rw [put_make h x hk hm b, put1_len _ _ _ _ _ (by rw [len_withd _ _ _ hf1]; omega), len_withd _ _ _ hf1]

theorem make_nd (h : Tn.Good d) (hk : x.kind = 1 ∨ x.kind = 2) (hm : lvD d m = true) (j : Nat) :
    nd (putDoc (addIn d x) (free d) m b false) j = if j = m then { nd d m with kids := insertAt (nd d m).kids (putAt (nd d m).kids b).toNat (free d) } else if j = free d then { newNd x with up := (m : Int), inS := false } else nd d j := by
  obtain ⟨hf1, hf2⟩ := free_spec d
  obtain ⟨r, hr, _⟩ := h.tr
  have hml := lv_lt hm
  have hmk : m ≠ free d := fun e => by rw [e, hf2] at hm; cases hm
  have hpl : place (nd d m).kids b = putAt (nd d m).kids b := place_putAt (hr.1.nodup m false) b
  rw [put_make h x hk hm b, put1_nd _ _ _ _ _ (by rw [len_withd _ _ _ hf1]; omega), nd_withd _ _ _ hf1, nd_withd _ _ _ hf1, if_neg hmk, made_newNd x hk]
  unfold setList listOf
  simp only [Bool.false_eq_true, if_false]
  rw [hpl]

theorem make_TrD (h : Tn.Good d) {r : Nat → Nat} (hr : TrD d r) (hk : x.kind = 1 ∨ x.kind = 2) (hm : lvD d m = true) : TrD (putDoc (addIn d x) (free d) m b false) (fun j => if j = free d then r m + 1 else r j) := by
  rw [put_make h x hk hm b]
  exact make_tr h hr (newN_new x) hm b false

theorem make_lv (h : Tn.Good d) (hk : x.kind = 1 ∨ x.kind = 2) (hm : lvD d m = true) : lvD (putDoc (addIn d x) (free d) m b false) (free d) = true := by
  obtain ⟨hf1, hf2⟩ := free_spec d
  have hmk : m ≠ free d := fun e => by rw [e, hf2] at hm; cases hm
  unfold lvD
  rw [make_nd h hk hm, if_neg (fun e => hmk e.symm), if_pos rfl]
  unfold newNd
  split <;> rfl

theorem make_li (h : Tn.Good d) (hk : x.kind = 1 ∨ x.kind = 2) (hm : lvD d m = true) (j : Nat) (t : Bool) : (liD (putDoc (addIn d x) (free d) m b false) j t).length ≤ 13 := by
  unfold liD
  rw [make_nd h hk hm]
  split
  · cases t
    · show (insertAt (nd d m).kids _ _).length ≤ 13
      rw [len_insertAt]
      have := h.small m false
      unfold liD at this
      simp only [listOf, Bool.false_eq_true, if_false] at this
      omega
    · have := h.small m true
      unfold liD at this
      simp only [listOf, if_true] at this ⊢
      omega
  · split
    · unfold newNd
      split <;> (cases t <;> simp [listOf, zero])
    · have := h.small j t
      unfold liD at this
      omega

theorem make_tame (h : Tn.Good d) (hk : x.kind = 1 ∨ x.kind = 2) (hm : lvD d m = true) : Tame (putDoc (addIn d x) (free d) m b false) := by
  obtain ⟨r, hr, hR⟩ := h.tr
  obtain ⟨hf1, hf2⟩ := free_spec d
  have hf0 : free d ≠ 0 := fun e => by rw [e, hr.1.root] at hf2; cases hf2
  have hmk : m ≠ free d := fun e => by rw [e, hf2] at hm; cases hm
  have hlen := h.len
  refine tame_of (make_TrD h hr hk hm) (fun k hk' => ?_) ?_ (by rw [make_len h hk hm]; omega)
  · by_cases e : k = free d
    · rw [if_pos e]
      have := hR m hm
      omega
    · rw [if_neg e]
      have hkd : lvD d k = true := by
        unfold lvD at hk' ⊢
        rw [make_nd h hk hm] at hk'
        by_cases e2 : k = m
        · rw [e2]; exact hm
        · rw [if_neg e2, if_neg e] at hk'; exact hk'
      have := hR k hkd
      omega
  · rw [make_nd h hk hm]
    by_cases e : 0 = m
    · rw [if_pos e]
      show (nd d m).up = -1
      rw [← e]
      exact h.rootUp
    · rw [if_neg e, if_neg (fun e2 => hf0 e2.symm)]
      exact h.rootUp

/-- a document that ends with a live node stays as it is -/
theorem trim_same {d : Dc} (h0 : 0 < d.length) (hl : lvD d (d.length - 1) = true) : trimD d = d := by
  unfold trimD
  obtain ⟨n, e⟩ : ∃ n, d.length = n + 1 := ⟨d.length - 1, by omega⟩
  have hl' : (nd d n).live = true := by
    unfold lvD at hl
    rw [e] at hl
    exact hl
  rw [e, last_here d n hl', ← e, List.take_length]

theorem trim_zero {d : Dc} (h0 : 0 < d.length) (hl : lvD d (d.length - 1) = true) : trimD (d ++ [zero]) = d := by
  unfold trimD
  have hlen : (d ++ [zero]).length = d.length + 1 := by simp
  have hnd : ∀ j, j < d.length → nd (d ++ [zero]) j = nd d j := by
    intro j hj
    unfold nd
    rw [List.getElem?_append_left hj]
  have hz : nd (d ++ [zero]) d.length = zero := by
    unfold nd
    rw [List.getElem?_append_right (Nat.le_refl _)]
    simp
  rw [hlen, lastLive, hz]
  simp only [zero, Bool.false_eq_true, false_and, if_false]
  obtain ⟨n, e⟩ : ∃ n, d.length = n + 1 := ⟨d.length - 1, by omega⟩
  have hl' : (nd (d ++ [zero]) n).live = true := by
    rw [hnd n (by omega)]
    unfold lvD at hl
    rw [e] at hl
    exact hl
  have := last_here (d ++ [zero]) n hl'
  rw [e]
  unfold zero at this
  rw [this, ← e]
  simp

theorem make_last (h : Tn.Good d) (hk : x.kind = 1 ∨ x.kind = 2) (hm : lvD d m = true) : trimD (putDoc (addIn d x) (free d) m b false) = putDoc (addIn d x) (free d) m b false := by
  obtain ⟨hf1, hf2⟩ := free_spec d
  have hlen := make_len (b := b) h hk hm
  have h0 := h.len
  refine trim_same (by rw [hlen]; omega) ?_
  rw [hlen]
  by_cases e : free d = d.length
  · rw [show max d.length (free d + 1) - 1 = free d by omega]
    exact make_lv h hk hm
  · rw [show max d.length (free d + 1) - 1 = d.length - 1 by omega]
    have hl := h.last
    unfold lvD at hl ⊢
    rw [make_nd h hk hm]
    by_cases e2 : d.length - 1 = m
    · rw [if_pos e2]; exact hm
    · rw [if_neg e2]
      by_cases e3 : d.length - 1 = free d
      · unfold lvD at hf2
        rw [← e3, hl] at hf2
        cases hf2
      · rw [if_neg e3]; exact hl

/-- what was made, taken out of its list again -/
theorem taken_nd (h : Tn.Good d) (hk : x.kind = 1 ∨ x.kind = 2) (hm : lvD d m = true) (j : Nat) :
    nd (moveIn (putDoc (addIn d x) (free d) m b false) (free d)) j = if j = free d then { newNd x with up := (m : Int), inS := false } else nd d j := by
  obtain ⟨hf1, hf2⟩ := free_spec d
  obtain ⟨r, hr, _⟩ := h.tr
  have hmk : m ≠ free d := fun e => by rw [e, hf2] at hm; cases hm
  have hml := lv_lt hm
  have hnk : nd (putDoc (addIn d x) (free d) m b false) (free d) = { newNd x with up := (m : Int), inS := false } := by
    rw [make_nd h hk hm, if_neg (fun e => hmk e.symm), if_pos rfl]
  have hup : upD (putDoc (addIn d x) (free d) m b false) (free d) = m := by
    unfold upD
    rw [hnk]
    simp
  unfold moveIn takeS
  rw [hup, hnk, nd_setL _ _ _ (by rw [make_len h hk hm]; omega)]
  have hno : free d ∉ (nd d m).kids := fun hmem => by
    have := (hr.1.mem m false (free d) hmem).2.1
    rw [hf2] at this
    cases this
  by_cases e : j = m
  · rw [if_pos e, if_neg (fun e2 => hmk (by rw [← e, e2])), e]
    rw [make_nd h hk hm, if_pos rfl]
    unfold setList listOf insertAt
    simp only [Bool.false_eq_true, if_false]
    have hflt : ∀ l : List Nat, free d ∉ l → l.filter (fun k => !(k == free d)) = l := by
      intro l hl
      rw [List.filter_eq_self]
      intro a ha
      simp
      intro e
      rw [e] at ha
      exact hl ha
    rw [List.filter_append, List.filter_append]
    have h1 : ([free d] : List Nat).filter (fun k => !(k == free d)) = [] := by simp
    rw [h1, List.append_nil, ← List.filter_append, List.take_append_drop, hflt _ hno]
  · rw [if_neg e]
    rw [make_nd h hk hm, if_neg e]

theorem taken_len (h : Tn.Good d) (hk : x.kind = 1 ∨ x.kind = 2) (hm : lvD d m = true) : (moveIn (putDoc (addIn d x) (free d) m b false) (free d)).length = max d.length (free d + 1) := by
  unfold moveIn takeS
  rw [List.length_set, make_len h hk hm]

theorem taken_all (h : Tn.Good d) (hk : x.kind = 1 ∨ x.kind = 2) (hm : lvD d m = true) : all fuel (moveIn (putDoc (addIn d x) (free d) m b false) (free d)) (free d) = [free d] := by
  have hn := taken_nd (b := b) h hk hm (free d)
  rw [if_pos rfl] at hn
  have hl := taken_len (b := b) h hk hm
  have hi : isN (moveIn (putDoc (addIn d x) (free d) m b false) (free d)) (free d : Int) false = true := by
    unfold isN
    rw [hl, Int.toNat_natCast, hn]
    have : (newNd x).live = true := by unfold newNd; split <;> rfl
    simp [this]
    omega
  have k1 : (newNd x).kids = [] := by unfold newNd; split <;> rfl
  have k2 : (newNd x).shadow = [] := by unfold newNd; split <;> rfl
  show all (63 + 1) _ _ = _
  rw [all, if_pos hi, hn]
  show free d :: ((newNd x).shadow.flatMap _ ++ (newNd x).kids.flatMap _) = _
  rw [k1, k2]
  rfl

theorem unmade (h : Tn.Good d) (hk : x.kind = 1 ∨ x.kind = 2) (hm : lvD d m = true) : trimD (killD (all fuel (moveIn (putDoc (addIn d x) (free d) m b false) (free d)) (free d)) (moveIn (putDoc (addIn d x) (free d) m b false) (free d))) = d := by
  obtain ⟨hf1, hf2⟩ := free_spec d
  have h0 := h.len
  have hl := taken_len (b := b) h hk hm
  rw [taken_all h hk hm]
  have hnd : ∀ j, nd (killD [free d] (moveIn (putDoc (addIn d x) (free d) m b false) (free d))) j = nd d j := by
    intro j
    show nd (List.set _ (free d) zero) j = _
    rw [nd_setL _ _ _ (by rw [hl]; omega), taken_nd h hk hm]
    by_cases e : j = free d
    · rw [if_pos e, e, h.dead _ hf2]
    · rw [if_neg e, if_neg e]
  have hkl : (killD [free d] (moveIn (putDoc (addIn d x) (free d) m b false) (free d))).length = max d.length (free d + 1) := by
    rw [killD_len, hl]
  by_cases e : free d = d.length
  · have : killD [free d] (moveIn (putDoc (addIn d x) (free d) m b false) (free d)) = d ++ [zero] := by
      refine doc_ext (by rw [hkl]; simp; omega) fun j => ?_
      rw [hnd]
      unfold nd
      by_cases hj : j < d.length
      · rw [List.getElem?_append_left hj]
      · rw [List.getElem?_eq_none (by omega), List.getElem?_append_right (by omega)]
        cases hjj : j - d.length with
        | zero => simp
        | succ n => simp
    rw [this]
    exact trim_zero h0.1 h.last
  · have : killD [free d] (moveIn (putDoc (addIn d x) (free d) m b false) (free d)) = d := doc_ext (by rw [hkl]; omega) hnd
    rw [this]
    exact trim_same h0.1 h.last
end Go.Proofs.Ytookcjdibpccpab

/-
  WHAT dom.change makes of documents of the call's own: a node is made; and goes again.
-/
namespace Go.Proofs.Ytookcjdibpccpab
open Go.RowKit

/-- the error of what is made -/
def makeCode (d : Tn.Dc) (x : Tn.Chg) (m : Nat) : Int := if Tn.isN d (m : Int) true = true then addCode d x m x.before false else 8

theorem chs_make {d : Tn.Dc} (h : Tn.Good d) {m : Nat} (hm : Tn.lvD d m = true) (kd tt bf : Int) (nm vl : ByteArray) (hkd : kd = 1 ∨ kd = 2) (hnm : nm.size ≤ 4194304) (hvl : vl.size ≤ 4194304) :
    Chs d ⟨kd, (m : Int), tt, bf, nm, vl⟩ (makeCode d ⟨kd, (m : Int), tt, bf, nm, vl⟩ m) (Tn.free d : Int) (putDoc (addIn d ⟨kd, (m : Int), tt, bf, nm, vl⟩) (Tn.free d) m bf false) := by
  intro B W g c rs hB hO
  have hl := hO.len
  have hlen := h.len
  have hml := Tn.lv_lt hm
  refine (dchange_make hO hB (by omega) kd hkd tt bf nm vl hnm hvl (m := m) (by omega) (fun s => ?_) (fun _ _ _ _ => ⟨make_tame h hkd hm, fun j t => ?_, make_lv h hkd hm⟩)).mono ?_
  · rw [li_addIn h]
    have := h.small m s
    omega
  · have := make_li (x := ⟨kd, (m : Int), tt, bf, nm, vl⟩) (b := bf) h hkd hm j t
    omega
  · rintro e w' ⟨dv, nv, cd, e1, e2, e3, e4⟩
    refine ⟨dv, nv, ?_, e2, ?_⟩
    · rw [e1, e3]; rfl
    · intro h0
      have : cd = 0 := by rw [e3]; exact h0
      obtain ⟨q1, g', c', rs', q2, q3⟩ := e4 this
      exact ⟨q1, g', c', rs', q2, q3⟩

theorem moveIn_tame {d : Tn.Dc} (h : Tame d) {n u : Nat} (hu : Tn.upD d n = u) (hul : u < d.length) : Tame (moveIn d n) ∧ (∀ j s, (Tn.liD (moveIn d n) j s).Sublist (Tn.liD d j s)) ∧ (∀ j, Tn.lvD (moveIn d n) j = Tn.lvD d j) ∧ (moveIn d n).length = d.length := by
  have hnd : ∀ j, Tn.nd (moveIn d n) j = if j = u then Tn.setList (Tn.nd d u) (Tn.nd d n).inS ((Tn.listOf (Tn.nd d u) (Tn.nd d n).inS).filter fun k => !(k == n)) else Tn.nd d j := by
    intro j
    unfold moveIn takeS
    rw [hu]
    exact nd_setL _ _ _ hul j
  have hl : (moveIn d n).length = d.length := by unfold moveIn takeS; rw [List.length_set]
  have hsl : ∀ (a : Tn.Nd) (s : Bool) (l : List Nat), (Tn.setList a s l).live = a.live ∧ (Tn.setList a s l).up = a.up := by
    intro a s l
    unfold Tn.setList
    cases s <;> exact ⟨rfl, rfl⟩
  have hv : ∀ k, (Tn.nd (moveIn d n) k).live = (Tn.nd d k).live := by
    intro k
    rw [hnd]
    split
    · rename_i e; rw [(hsl _ _ _).1, e]
    · rfl
  have hup : ∀ k, (Tn.nd (moveIn d n) k).up = (Tn.nd d k).up := by
    intro k
    rw [hnd]
    split
    · rename_i e; rw [(hsl _ _ _).2, e]
    · rfl
  have hs : ∀ j s, (Tn.liD (moveIn d n) j s).Sublist (Tn.liD d j s) := by
    intro j s
    unfold Tn.liD
    rw [hnd]
    split
    · rename_i e
      rw [e]
      unfold Tn.setList Tn.listOf
      cases s <;> cases (Tn.nd d n).inS <;> simp
    · exact List.Sublist.refl _
  exact ⟨tame_sub h hl hv hup hs, hs, hv, hl⟩

theorem chs_unmake {d : Tn.Dc} (h : Tn.Good d) {x : Tn.Chg} {m : Nat} {b : Int} (hm : Tn.lvD d m = true) (hkd : x.kind = 1 ∨ x.kind = 2) (tt bf : Int) (nm vl : ByteArray) :
    Chs (putDoc (addIn d x) (Tn.free d) m b false) ⟨4, (Tn.free d : Int), tt, bf, nm, vl⟩ 0 (Tn.free d : Int) (killD (Tn.all Tn.fuel (moveIn (putDoc (addIn d x) (Tn.free d) m b false) (Tn.free d)) (Tn.free d)) (moveIn (putDoc (addIn d x) (Tn.free d) m b false) (Tn.free d))) := by
  intro B W g c rs hB hO
  obtain ⟨hf1, hf2⟩ := Tn.free_spec d
  obtain ⟨r, hr, _⟩ := h.tr
  have hl := hO.len
  have hlen := make_len (x := x) (b := b) h hkd hm
  have hml := Tn.lv_lt hm
  have hf0 : Tn.free d ≠ 0 := fun e => by rw [e, hr.1.root] at hf2; cases hf2
  have hmk : m ≠ Tn.free d := fun e => by rw [e, hf2] at hm; cases hm
  have hup : (Tn.nd (putDoc (addIn d x) (Tn.free d) m b false) (Tn.free d)).up = (m : Int) := by
    rw [make_nd h hkd hm, if_neg (fun e => hmk e.symm), if_pos rfl]
  have hT := moveIn_tame (make_tame (x := x) (b := b) h hkd hm) (n := Tn.free d) (u := m) (by unfold Tn.upD; rw [hup]; simp) (by omega)
  refine (dchange_remove hO hB tt bf nm vl (m := Tn.free d) (by omega) hf0 ⟨m, hup, by omega⟩ (fun j s => ?_) ⟨hT.1, fun j s => ?_, ?_⟩ (fun k hk => ?_)).mono ?_
  · have := make_li (x := x) (b := b) h hkd hm j s
    omega
  · have h1 := (hT.2.1 j s).length_le
    have := make_li (x := x) (b := b) h hkd hm j s
    omega
  · rw [hT.2.2.1]
    exact make_lv h hkd hm
  · rw [taken_all h hkd hm] at hk
    simp at hk
    omega
  · rintro e w' ⟨rs', e1, e2, e3⟩
    exact ⟨_, _, e1, e2, fun _ => ⟨rfl, g, c, rs', rfl, e3⟩⟩
end Go.Proofs.Ytookcjdibpccpab

/-
  THE WALK of tnlaw2's alive.
-/
namespace Go.Proofs.Ytookcjdibpccpab
open Go.RowKit

def al1 : Tn.Chg := ⟨1, 0, 0, -1, ⟨#[112]⟩, ⟨#[]⟩⟩
def al2 : Tn.Chg := ⟨5, 1, 0, 0, ⟨#[105, 100]⟩, ⟨#[120]⟩⟩
theorem al_free : Tn.free [Tn.root] = 1 := by decide +kernel
theorem al_code : makeCode [Tn.root] al1 0 = 0 := by decide +kernel
theorem al_doc1 : putDoc (addIn [Tn.root] al1) (Tn.free [Tn.root]) 0 (-1) false = Tn.build [al1] := by kernel_rfl
theorem al_doc2 : (Tn.build [al1]).set 1 { Tn.nd (Tn.build [al1]) 1 with attrs := [(⟨#[105, 100]⟩, ⟨#[120]⟩)] } = Tn.build [al1, al2] := by kernel_rfl
theorem al_attr : Tn.attrOf (Tn.nd (Tn.build [al1, al2]) 1).attrs ⟨#[105, 100]⟩ = some ⟨#[120]⟩ := by kernel_rfl
theorem al_len : (Tn.build [al1, al2]).length = 2 := by decide +kernel
theorem al_find : findD (Tn.build [al1, al2]) 0 ⟨#[120]⟩ = 1 := by decide +kernel
theorem al_within : Tn.within (Tn.build [al1, al2]) 1 0 = true := by decide +kernel
theorem al_deep : (Tn.pathOf (Tn.build [al1, al2]) 1).length - 1 = 1 := by decide +kernel
theorem al_all : Tn.all Tn.fuel (Tn.build [al1, al2]) 0 = [0, 1] := by decide +kernel
theorem al_is : Tn.isN (Tn.build [al1, al2]) 1 true = true := by decide +kernel
theorem al_scope : scopeD (Tn.build [al1, al2]) 1 = 0 := by decide +kernel
theorem al_last1 : Tn.trimD (Tn.build [al1]) = Tn.build [al1] := by kernel_rfl
theorem al_last2 : Tn.trimD (Tn.build [al1, al2]) = Tn.build [al1, al2] := by kernel_rfl
theorem al_lv : Tn.lvD (Tn.build [al1, al2]) 0 = true := by decide +kernel
theorem al_is1 : Tn.isN (Tn.build [al1]) 1 true = true := by decide +kernel
theorem al_is0 : Tn.isN (Tn.build [al1]) 1 false = true := by decide +kernel
theorem al_lv1 : Tn.lvD (Tn.build [al1]) 0 = true := by decide +kernel
theorem al_at1 : (Tn.nd (Tn.build [al1]) 1).attrs = [] := by kernel_rfl
theorem al_val : valN (Tn.build [al1, al2]) 1 ⟨#[105, 100]⟩ = ⟨#[120]⟩ := by kernel_rfl
theorem al_attrN : attrN (Tn.build [al1, al2]) 1 ⟨#[105, 100]⟩ = some ⟨#[120]⟩ := by kernel_rfl

theorem chs_al2 : Chs (Tn.build [al1]) ⟨5, 1, 0, 0, ⟨#[105, 100]⟩, ⟨#[120]⟩⟩ 0 1 (Tn.build [al1, al2]) := by
  intro B W g c rs hB hO
  have hl : rs.length = 2 := hO.len.trans (by decide +kernel)
  refine (dchange_attr0 hO hB (by omega) 0 0 ⟨#[105, 100]⟩ ⟨#[120]⟩ (m := 1) (by omega) al_is1 al_at1 (by decide) (by decide) (by decide)).mono ?_
  rintro e w' ⟨rs', e1, e2, e3⟩
  rw [al_doc2] at e3
  exact ⟨_, _, e1, e2, fun _ => ⟨rfl, g, c, rs', rfl, e3⟩⟩

theorem chs_al1 : Chs [Tn.root] ⟨1, 0, 0, -1, ⟨#[112]⟩, ⟨#[]⟩⟩ 0 1 (Tn.build [al1]) := by
  have := chs_make good_root (m := 0) (by decide +kernel) 1 0 (-1) ⟨#[112]⟩ ⟨#[]⟩ (Or.inl rfl) (by decide) (by decide)
  have e1 : makeCode [Tn.root] ⟨1, ((0 : Nat) : Int), 0, -1, ⟨#[112]⟩, ⟨#[]⟩⟩ 0 = 0 := al_code
  have e2 : putDoc (addIn [Tn.root] ⟨1, ((0 : Nat) : Int), 0, -1, ⟨#[112]⟩, ⟨#[]⟩⟩) (Tn.free [Tn.root]) 0 (-1) false = Tn.build [al1] := al_doc1
  rw [e1, e2, al_free] at this
  exact this

theorem apply_al1 {w : World} {b o c : Nat} {rs : List Raw} (hd : DocAt w b o c rs [Tn.root]) : Calls Try.prog 9 #[.slice (some ⟨b, o, none⟩) rs.length c, chg6 ⟨1, 0, 0, -1, ⟨#[112]⟩, ⟨#[]⟩⟩] w fun e w' => ∃ (g' c' : Nat) (rs' : List Raw), e = .returned (.tuple #[.slice (some ⟨g', 0, none⟩) rs'.length c', .int .i64 1, .int .i64 0]) ∧ Hid (DocAt w' g' 0 c' rs' (Tn.build [al1])) ∧ Below w.heap.size w w' := by
  have hl : rs.length = 1 := hd.len
  refine (dapply_chs hd (by omega) (by decide) (fun j s => ?_) (fun k => ?_) 1 0 0 (-1) ⟨#[112]⟩ ⟨#[]⟩ (by omega) (by omega) (by decide +kernel) chs_al1 (fun _ => al_lv1)).mono ?_
  · have := good_root.small j s
    omega
  · have := good_root.attrs k
    omega
  · rintro e w' ⟨v, e1, e2, e3 | ⟨_, g', c', rs', e3, e4, _⟩⟩
    · exact absurd rfl e3.1
    · rw [al_last1] at e4
      exact ⟨g', c', rs', by rw [e1, e3], e4, e2⟩

theorem apply_al2 {w : World} {b o c : Nat} {rs : List Raw} (hd : DocAt w b o c rs (Tn.build [al1])) : Calls Try.prog 9 #[.slice (some ⟨b, o, none⟩) rs.length c, chg6 ⟨5, 1, 0, 0, ⟨#[105, 100]⟩, ⟨#[120]⟩⟩] w fun e w' => ∃ (g' c' : Nat) (rs' : List Raw), e = .returned (.tuple #[.slice (some ⟨g', 0, none⟩) rs'.length c', .int .i64 1, .int .i64 0]) ∧ Hid (DocAt w' g' 0 c' rs' (Tn.build [al1, al2])) ∧ Below w.heap.size w w' := by
  have hg := build_good [al1]
  have hl : rs.length = 2 := hd.len.trans (by decide +kernel)
  refine (dapply_chs hd (by omega) (by have := hg.len; omega) (fun j s => ?_) (fun k => ?_) 5 1 0 0 ⟨#[105, 100]⟩ ⟨#[120]⟩ (by omega) (by omega) al_is0 chs_al2 (fun _ => al_lv)).mono ?_
  · have := hg.small j s
    omega
  · have := hg.attrs k
    omega
  · rintro e w' ⟨v, e1, e2, e3 | ⟨_, g', c', rs', e3, e4, _⟩⟩
    · exact absurd rfl e3.1
    · rw [al_last2] at e4
      exact ⟨g', c', rs', by rw [e1, e3], e4, e2⟩

set_option maxHeartbeats 400000 in
set_option maxRecDepth 100000 in
theorem l2alive_any (w : World) : Calls Try.prog 7 #[] w fun e w' => e = .returned (.bool true) ∧ Below w.heap.size w w' := by
  go_enter Try.func7, Try.ntmps7
  go_wp2_with fail
  refine dnew_any.mono ?_
  rintro e w1 ⟨rfl, hd1, b1⟩
  have D1 : Hid (DocAt w1 w.heap.size 0 1 [rootR] [Tn.root]) := hd1
  clear hd1
  go_wp2_with fail
  refine (apply_al1 D1.out).mono ?_
  rintro e w2 ⟨g2, c2, rs2, rfl, D2, b2⟩
  have B2 : Hid (Below w.heap.size w w2) := b1.trans (b2.mono b1.size)
  clear b1 b2
  go_wp2_with fail
  refine (apply_al2 D2.out).mono ?_
  rintro e w3 ⟨g, c, rs, rfl, D3, b3⟩
  have B3 : Hid (Below w.heap.size w w3) := B2.out.trans (b3.mono B2.out.size)
  clear b3 D1 D2 B2
  have hok := build_okd [al1, al2]
  have hl : rs.length = 2 := D3.out.len.trans al_len
  have F0 : Hid (∀ W, DocAt W g 0 c rs (Tn.build [al1, al2]) → Calls Try.prog 29 #[.slice (some ⟨g, 0, none⟩) rs.length c, .int .i64 1, .string ⟨#[105, 100]⟩] W fun e w' => e = .returned (.tuple #[.string ⟨#[120]⟩, .bool true]) ∧ DocAt w' g 0 c rs (Tn.build [al1, al2]) ∧ Below W.heap.size W w') := fun W h => ((dattr_all h hok 1 ⟨#[105, 100]⟩).mono fun e w' ⟨a, b⟩ => ⟨by rw [a, al_val, al_attrN]; rfl, h.keeps (keeps_below b (Nat.le_refl _)), b⟩)
  have F1 : Hid (∀ W, DocAt W g 0 c rs (Tn.build [al1, al2]) → Calls Try.prog 30 #[.slice (some ⟨g, 0, none⟩) rs.length c, .int .i64 0, .string ⟨#[120]⟩] W fun e w' => e = .returned (.int .i64 1) ∧ DocAt w' g 0 c rs (Tn.build [al1, al2]) ∧ Below W.heap.size W w') := fun W h => ((dfind_any h hok.tame hok.small hok.root hok.rise hok.few 0 ⟨#[120]⟩).mono fun e w' ⟨a, b⟩ => ⟨by rw [a, al_find], h.keeps (keeps_below b (Nat.le_refl _)), b⟩)
  have F2 : Hid (∀ W, DocAt W g 0 c rs (Tn.build [al1, al2]) → Calls Try.prog 11 #[.slice (some ⟨g, 0, none⟩) rs.length c, .int .i64 1, .int .i64 0] W fun e w' => e = .returned (.bool true) ∧ DocAt w' g 0 c rs (Tn.build [al1, al2]) ∧ Below W.heap.size W w') := fun W h => ((dwithin_any h hok.tame 1 0).mono fun e w' ⟨a, b⟩ => ⟨by rw [a, al_within], h.keeps (keeps_below b (Nat.le_refl _)), b⟩)
  have F3 : Hid (∀ W, DocAt W g 0 c rs (Tn.build [al1, al2]) → Calls Try.prog 12 #[.slice (some ⟨g, 0, none⟩) rs.length c, .int .i64 1] W fun e w' => e = .returned (.int .i64 1) ∧ DocAt w' g 0 c rs (Tn.build [al1, al2]) ∧ Below W.heap.size W w') := fun W h => ((ddeep_any h hok.tame 1).mono fun e w' ⟨a, b⟩ => ⟨by rw [a, al_deep]; rfl, h.keeps (keeps_below b (Nat.le_refl _)), b⟩)
  have F4 : Hid (∀ W, DocAt W g 0 c rs (Tn.build [al1, al2]) → Calls Try.prog 10 #[.slice (some ⟨g, 0, none⟩) rs.length c, .int .i64 1, .bool true] W fun e w' => e = .returned (.bool true) ∧ DocAt w' g 0 c rs (Tn.build [al1, al2]) ∧ Below W.heap.size W w') := fun W h => ((dis_any h 1 true).mono fun e w' ⟨a, b⟩ => ⟨by rw [a, al_is], by rw [b]; exact h, by rw [b]; exact Below.refl _ _⟩)
  have F5 : Hid (∀ W, DocAt W g 0 c rs (Tn.build [al1, al2]) → Calls Try.prog 32 #[.slice (some ⟨g, 0, none⟩) rs.length c, .int .i64 1] W fun e w' => e = .returned (.int .i64 0) ∧ DocAt w' g 0 c rs (Tn.build [al1, al2]) ∧ Below W.heap.size W w') := fun W h => ((dscope_any h hok.tame 1).mono fun e w' ⟨a, b⟩ => ⟨by rw [a, al_scope], h.keeps (keeps_below b (Nat.le_refl _)), b⟩)
  have FA : Hid (∀ W, DocAt W g 0 c rs (Tn.build [al1, al2]) → Calls Try.prog 31 #[.slice (some ⟨g, 0, none⟩) rs.length c, .int .i64 0] W fun e w' => (∃ p c', e = .returned (.slice p 2 c')) ∧ DocAt w' g 0 c rs (Tn.build [al1, al2]) ∧ Below W.heap.size W w') := fun W h => (dall_any h hok.tame hok.small 0 hok.root).mono fun e w' ⟨v, a, o, b⟩ => by
    rw [al_all] at o
    obtain ⟨p, c', rfl⟩ := o.shape
    exact ⟨⟨p, c', a⟩, h.keeps (keeps_below b (Nat.le_refl _)), b⟩
  clear hok
  generalize Tn.build [al1, al2] = d at *
  rw [hl] at F0 F1 F2 F3 F4 F5 FA ⊢
  clear hl
  go_wp2_with fail
  refine (F0.out w3 D3.out).mono ?_
  rintro e w4 ⟨rfl, hd4, b4⟩
  have D4 : Hid (DocAt w4 g 0 c rs d) := hd4
  have B4 : Hid (Below w.heap.size w w4) := B3.out.trans (b4.mono B3.out.size)
  clear hd4 b4
  go_wp2_with fail
  refine (F1.out w4 D4.out).mono ?_
  rintro e w5 ⟨rfl, hd5, b5⟩
  have D5 : Hid (DocAt w5 g 0 c rs d) := hd5
  have B5 : Hid (Below w.heap.size w w5) := B4.out.trans (b5.mono B4.out.size)
  clear hd5 b5
  go_wp2_with fail
  refine (F2.out w5 D5.out).mono ?_
  rintro e w6 ⟨rfl, hd6, b6⟩
  have D6 : Hid (DocAt w6 g 0 c rs d) := hd6
  have B6 : Hid (Below w.heap.size w w6) := B5.out.trans (b6.mono B5.out.size)
  clear hd6 b6
  go_wp2_with fail
  refine (F3.out w6 D6.out).mono ?_
  rintro e w7 ⟨rfl, hd7, b7⟩
  have D7 : Hid (DocAt w7 g 0 c rs d) := hd7
  have B7 : Hid (Below w.heap.size w w7) := B6.out.trans (b7.mono B6.out.size)
  clear hd7 b7
  go_wp2_with fail
  refine (FA.out w7 D7.out).mono ?_
  rintro e w8 ⟨⟨p, c', rfl⟩, hd8, b8⟩
  have D8 : Hid (DocAt w8 g 0 c rs d) := hd8
  have B8 : Hid (Below w.heap.size w w8) := B7.out.trans (b8.mono B7.out.size)
  clear hd8 b8
  go_wp2_with fail
  refine (F4.out w8 D8.out).mono ?_
  rintro e w9 ⟨rfl, hd9, b9⟩
  have D9 : Hid (DocAt w9 g 0 c rs d) := hd9
  have B9 : Hid (Below w.heap.size w w9) := B8.out.trans (b9.mono B8.out.size)
  clear hd9 b9
  go_wp2_with fail
  refine (F5.out w9 D9.out).mono ?_
  rintro e wa ⟨rfl, hda, ba⟩
  have Da : Hid (DocAt wa g 0 c rs d) := hda
  have Ba : Hid (Below w.heap.size w wa) := B9.out.trans (ba.mono B9.out.size)
  clear hda ba
  go_wp2_with fail
  go_ret
  exact ⟨rfl, Ba.out⟩
end Go.Proofs.Ytookcjdibpccpab

/-
  TWO ATTRIBUTES THAT ARE ONE ARE NOT UNLIKE.
-/
namespace Go.Proofs.Ytookcjdibpccpab
open Go.RowKit
theorem attr_neq (W : World) (a b : ByteArray) : (binOp .neq 55 (.agg #[.string a, .string b]) (.agg #[.string a, .string b])).run Try.prog W = .ok (.bool false) W := by
  have u9 := Try.underlying9
  have hS : Try.prog.underlying 55 = some (.struct (Try.prog.fieldsOf 55)) := by kernel_rfl
  have hp : Try.prog.stoodInHeld 55 = false := by kernel_rfl
  rw [run_neq_struct, show (10000 : Nat) = 9999 + 1 from rfl, run_equalIn_agg W 9999 55 _ _ hS hp]
  simp only [Program.fieldsOf, Try.underlying55]
  go_simp
theorem attr_guard (W : World) (x y : Operand) (xs ys : Array Value) : (eqGuard .neq 55 x y (.agg xs) (.agg ys)).run Try.prog W = .ok () W := run_eqGuard_agg W .neq 55 x y xs ys (by kernel_rfl)
end Go.Proofs.Ytookcjdibpccpab

/-
  THE WALKS of the reference's SameInts and Same, at what reads the same.
-/
namespace Go.Proofs.Ytookcjdibpccpab
open Go.RowKit

set_option maxHeartbeats 800000 in
set_option maxRecDepth 100000 in
theorem rsameints_true {w : World} {v1 v2 : Value} {l : List Nat} (h1 : IntsAt w v1 l) (h2 : IntsAt w v2 l) :
    Calls Try.prog 16 #[v1, v2] w fun e w' => e = .returned (.bool true) ∧ Below w.heap.size w w' := by
  obtain ⟨p1, c1, rfl, a1, a2, _, at1⟩ := h1.at
  obtain ⟨p2, c2, rfl, b1, b2, _, at2⟩ := h2.at
  have T1 : Hid (∀ j (hj : j < l.length), ∃ b o, p1 = some ⟨b, o, none⟩ ∧ w.cell? ⟨b, o + j, none⟩ = some (.int .i64 (l[j] : Int))) := at1
  have T2 : Hid (∀ j (hj : j < l.length), ∃ b o, p2 = some ⟨b, o, none⟩ ∧ w.cell? ⟨b, o + j, none⟩ = some (.int .i64 (l[j] : Int))) := at2
  clear at1 at2 h1 h2
  go_enter Try.func16, Try.ntmps16
  go_wp2_with fail
  go_loopw [13] (fun i wr => ∃ j : Nat, j ≤ l.length ∧ i = .int .i64 j ∧ Below w.heap.size w wr) (fun i _ => l.length - (intOf i).toNat)
  case atStart => exact ⟨0, Nat.zero_le _, rfl, Below.refl _ _⟩
  case round =>
    obtain ⟨j, hj, rfl, hnx⟩ := hrel
    by_cases hlt : j < l.length
    · obtain ⟨e1, o1, rfl, k1⟩ := T1.out j hlt
      obtain ⟨e2, o2, rfl, k2⟩ := T2.out j hlt
      have y1 := keeps_below hnx (Nat.le_refl _) _ _ k1
      have y2 := keeps_below hnx (Nat.le_refl _) _ _ k2
      clear k1 k2
      generalize l[j] = x at *
      have hq : (((x : Nat) : Int) == (x : Int)) = true := by simp
      have hj2 : (j : Int) < (l.length : Int) := by omega
      go_wp2_with fail
      go_quiet (fail)
      go_wp2_with fail
      go_roundw
      case rel => exact ⟨j + 1, by omega, by go_num, hnx.trans ⟨rfl, rfl, rfl, Nat.le_refl _, fun _ _ => rfl⟩⟩
      case measure => simp [intOf]; omega
    · obtain rfl : j = l.length := by omega
      go_wp2_with fail
      go_ret
      exact ⟨rfl, hnx⟩

set_option maxHeartbeats 1600000 in
set_option maxRecDepth 100000 in
theorem rsame_true {w : World} {b1 o1 c1 b2 o2 c2 : Nat} {rs1 rs2 : List Raw} {d : Tn.Dc} (h1 : DocAt w b1 o1 c1 rs1 d) (h2 : DocAt w b2 o2 c2 rs2 d) (hs : d.length ≤ 1000) :
    Calls Try.prog 13 #[.slice (some ⟨b1, o1, none⟩) rs1.length c1, .slice (some ⟨b2, o2, none⟩) rs2.length c2] w fun e w' => e = .returned (.bool true) ∧ Below w.heap.size w w' := by
  have H1 : Hid (DocAt w b1 o1 c1 rs1 d) := h1
  have H2 : Hid (DocAt w b2 o2 c2 rs2 d) := h2
  rw [h1.len, h2.len]
  clear h1 h2
  go_enter Try.func13, Try.ntmps13
  go_wp2_with fail
  go_loopw [16] (fun i wr => ∃ j : Nat, j ≤ d.length ∧ i = .int .i64 j ∧ Below w.heap.size w wr) (fun i _ => d.length - (intOf i).toNat)
  case atStart => exact ⟨0, Nat.zero_le _, rfl, Below.refl _ _⟩
  case round =>
    obtain ⟨j, hj, rfl, hnx⟩ := hrel
    have hbz := hnx.size
    by_cases hlt : j < d.length
    · have hj1 : j < rs1.length := by rw [H1.out.len]; exact hlt
      have hj2 : j < rs2.length := by rw [H2.out.len]; exact hlt
      have R1 := H1.out.row.keeps (keeps_below hnx (Nat.le_refl _))
      have R2 := H2.out.row.keeps (keeps_below hnx (Nat.le_refl _))
      have N1 := (H1.out.nds j hj1 hlt).keeps (keeps_below hnx (Nat.le_refl _))
      have N2 := (H2.out.nds j hj2 hlt).keeps (keeps_below hnx (Nat.le_refl _))
      have x0 := R1.c0 j hj1
      have x1 := R1.c1 j hj1
      have x2 := R1.c2 j hj1
      have x3 := R1.c3 j hj1
      have x4 := R1.c4 j hj1
      have x5 := R1.c5 j hj1
      have x6 := R1.c6 j hj1
      have x7 := R1.c7 j hj1
      have x8 := R1.c8 j hj1
      have y0 := R2.c0 j hj2
      have y1 := R2.c1 j hj2
      have y2 := R2.c2 j hj2
      have y3 := R2.c3 j hj2
      have y4 := R2.c4 j hj2
      have y5 := R2.c5 j hj2
      have y6 := R2.c6 j hj2
      have y7 := R2.c7 j hj2
      have y8 := R2.c8 j hj2
      clear R1 R2
      generalize rs1[j] = r1 at *
      generalize rs2[j] = r2 at *
      generalize d[j] = nn at *
      obtain ⟨lv1, tg1, tx1, ⟨ap1, an1, ac1⟩, up1, ⟨kp1, kn1, kc1⟩, hs1, ⟨sp1, sn1, sc1⟩, is1⟩ := r1
      obtain ⟨lv2, tg2, tx2, ⟨ap2, an2, ac2⟩, up2, ⟨kp2, kn2, kc2⟩, hs2, ⟨sp2, sn2, sc2⟩, is2⟩ := r2
      obtain ⟨m1, m2, m3, m4, m5, m6, A1, K1, S1⟩ := N1
      obtain ⟨n1, n2, n3, n4, n5, n6, A2, K2, S2⟩ := N2
      simp only at *
      subst m1 m2 m3 m4 m5 m6 n1 n2 n3 n4 n5 n6
      obtain rfl := al_of A1
      obtain rfl := al_of A2
      go_wp2_with fail
      have SS : ∀ w'', Keeps wr w'' → (fun w'' => w''.cell? ⟨b1, o1 + j * 9, none⟩ = some (.bool nn.live) ∧ w''.cell? ⟨b1, o1 + j * 9 + 1, none⟩ = some (.string nn.tag) ∧ w''.cell? ⟨b1, o1 + j * 9 + 2, none⟩ = some (.string nn.text) ∧ w''.cell? ⟨b1, o1 + j * 9 + 3, none⟩ = some (.slice ap1 nn.attrs.length ac1) ∧ w''.cell? ⟨b1, o1 + j * 9 + 4, none⟩ = some (.int .i64 nn.up) ∧ w''.cell? ⟨b1, o1 + j * 9 + 5, none⟩ = some (.slice kp1 kn1 kc1) ∧ w''.cell? ⟨b1, o1 + j * 9 + 6, none⟩ = some (.bool nn.hasS) ∧ w''.cell? ⟨b1, o1 + j * 9 + 7, none⟩ = some (.slice sp1 sn1 sc1) ∧ w''.cell? ⟨b1, o1 + j * 9 + 8, none⟩ = some (.bool nn.inS) ∧ w''.cell? ⟨b2, o2 + j * 9, none⟩ = some (.bool nn.live) ∧ w''.cell? ⟨b2, o2 + j * 9 + 1, none⟩ = some (.string nn.tag) ∧ w''.cell? ⟨b2, o2 + j * 9 + 2, none⟩ = some (.string nn.text) ∧ w''.cell? ⟨b2, o2 + j * 9 + 3, none⟩ = some (.slice ap2 nn.attrs.length ac2) ∧ w''.cell? ⟨b2, o2 + j * 9 + 4, none⟩ = some (.int .i64 nn.up) ∧ w''.cell? ⟨b2, o2 + j * 9 + 5, none⟩ = some (.slice kp2 kn2 kc2) ∧ w''.cell? ⟨b2, o2 + j * 9 + 6, none⟩ = some (.bool nn.hasS) ∧ w''.cell? ⟨b2, o2 + j * 9 + 7, none⟩ = some (.slice sp2 sn2 sc2) ∧ w''.cell? ⟨b2, o2 + j * 9 + 8, none⟩ = some (.bool nn.inS)) w'' := fun w'' hk => ⟨hk _ _ x0, hk _ _ x1, hk _ _ x2, hk _ _ x3, hk _ _ x4, hk _ _ x5, hk _ _ x6, hk _ _ x7, hk _ _ x8, hk _ _ y0, hk _ _ y1, hk _ _ y2, hk _ _ y3, hk _ _ y4, hk _ _ y5, hk _ _ y6, hk _ _ y7, hk _ _ y8⟩
      go_region_held3 (fun w'' => w''.cell? ⟨b1, o1 + j * 9, none⟩ = some (.bool nn.live) ∧ w''.cell? ⟨b1, o1 + j * 9 + 1, none⟩ = some (.string nn.tag) ∧ w''.cell? ⟨b1, o1 + j * 9 + 2, none⟩ = some (.string nn.text) ∧ w''.cell? ⟨b1, o1 + j * 9 + 3, none⟩ = some (.slice ap1 nn.attrs.length ac1) ∧ w''.cell? ⟨b1, o1 + j * 9 + 4, none⟩ = some (.int .i64 nn.up) ∧ w''.cell? ⟨b1, o1 + j * 9 + 5, none⟩ = some (.slice kp1 kn1 kc1) ∧ w''.cell? ⟨b1, o1 + j * 9 + 6, none⟩ = some (.bool nn.hasS) ∧ w''.cell? ⟨b1, o1 + j * 9 + 7, none⟩ = some (.slice sp1 sn1 sc1) ∧ w''.cell? ⟨b1, o1 + j * 9 + 8, none⟩ = some (.bool nn.inS) ∧ w''.cell? ⟨b2, o2 + j * 9, none⟩ = some (.bool nn.live) ∧ w''.cell? ⟨b2, o2 + j * 9 + 1, none⟩ = some (.string nn.tag) ∧ w''.cell? ⟨b2, o2 + j * 9 + 2, none⟩ = some (.string nn.text) ∧ w''.cell? ⟨b2, o2 + j * 9 + 3, none⟩ = some (.slice ap2 nn.attrs.length ac2) ∧ w''.cell? ⟨b2, o2 + j * 9 + 4, none⟩ = some (.int .i64 nn.up) ∧ w''.cell? ⟨b2, o2 + j * 9 + 5, none⟩ = some (.slice kp2 kn2 kc2) ∧ w''.cell? ⟨b2, o2 + j * 9 + 6, none⟩ = some (.bool nn.hasS) ∧ w''.cell? ⟨b2, o2 + j * 9 + 7, none⟩ = some (.slice sp2 sn2 sc2) ∧ w''.cell? ⟨b2, o2 + j * 9 + 8, none⟩ = some (.bool nn.inS))
        ((apply SS; repeat (first | exact Keeps.refl _ | apply keeps_drew | apply keeps_alloc')))
        (fail)
      · have bX : BoxAt ((wr.alloc (.cells (Raw.cells (⟨nn.live, nn.tag, nn.text, ⟨ap1, nn.attrs.length, ac1⟩, nn.up, ⟨kp1, kn1, kc1⟩, nn.hasS, ⟨sp1, sn1, sc1⟩, nn.inS⟩ : Raw)).toArray 50)).alloc (.cells (Raw.cells (⟨nn.live, nn.tag, nn.text, ⟨ap2, nn.attrs.length, ac2⟩, nn.up, ⟨kp2, kn2, kc2⟩, nn.hasS, ⟨sp2, sn2, sc2⟩, nn.inS⟩ : Raw)).toArray 50)).drew wr.heap.size (⟨nn.live, nn.tag, nn.text, ⟨ap1, nn.attrs.length, ac1⟩, nn.up, ⟨kp1, kn1, kc1⟩, nn.hasS, ⟨sp1, sn1, sc1⟩, nn.inS⟩ : Raw) := (box_new wr (⟨nn.live, nn.tag, nn.text, ⟨ap1, nn.attrs.length, ac1⟩, nn.up, ⟨kp1, kn1, kc1⟩, nn.hasS, ⟨sp1, sn1, sc1⟩, nn.inS⟩ : Raw) 50).keeps (keeps_drew (keeps_alloc _ _))
        have bY : BoxAt ((wr.alloc (.cells (Raw.cells (⟨nn.live, nn.tag, nn.text, ⟨ap1, nn.attrs.length, ac1⟩, nn.up, ⟨kp1, kn1, kc1⟩, nn.hasS, ⟨sp1, sn1, sc1⟩, nn.inS⟩ : Raw)).toArray 50)).alloc (.cells (Raw.cells (⟨nn.live, nn.tag, nn.text, ⟨ap2, nn.attrs.length, ac2⟩, nn.up, ⟨kp2, kn2, kc2⟩, nn.hasS, ⟨sp2, sn2, sc2⟩, nn.inS⟩ : Raw)).toArray 50)).drew (wr.heap.size + 1) (⟨nn.live, nn.tag, nn.text, ⟨ap2, nn.attrs.length, ac2⟩, nn.up, ⟨kp2, kn2, kc2⟩, nn.hasS, ⟨sp2, sn2, sc2⟩, nn.inS⟩ : Raw) := by
          have h := (box_new (wr.alloc (.cells (Raw.cells (⟨nn.live, nn.tag, nn.text, ⟨ap1, nn.attrs.length, ac1⟩, nn.up, ⟨kp1, kn1, kc1⟩, nn.hasS, ⟨sp1, sn1, sc1⟩, nn.inS⟩ : Raw)).toArray 50)) (⟨nn.live, nn.tag, nn.text, ⟨ap2, nn.attrs.length, ac2⟩, nn.up, ⟨kp2, kn2, kc2⟩, nn.hasS, ⟨sp2, sn2, sc2⟩, nn.inS⟩ : Raw) 50).keeps (keeps_drew (Keeps.refl _))
          rw [show (wr.alloc (.cells (Raw.cells (⟨nn.live, nn.tag, nn.text, ⟨ap1, nn.attrs.length, ac1⟩, nn.up, ⟨kp1, kn1, kc1⟩, nn.hasS, ⟨sp1, sn1, sc1⟩, nn.inS⟩ : Raw)).toArray 50)).heap.size = wr.heap.size + 1 by simp] at h
          exact h
        have KQ : Keeps wr ((wr.alloc (.cells (Raw.cells (⟨nn.live, nn.tag, nn.text, ⟨ap1, nn.attrs.length, ac1⟩, nn.up, ⟨kp1, kn1, kc1⟩, nn.hasS, ⟨sp1, sn1, sc1⟩, nn.inS⟩ : Raw)).toArray 50)).alloc (.cells (Raw.cells (⟨nn.live, nn.tag, nn.text, ⟨ap2, nn.attrs.length, ac2⟩, nn.up, ⟨kp2, kn2, kc2⟩, nn.hasS, ⟨sp2, sn2, sc2⟩, nn.inS⟩ : Raw)).toArray 50)).drew := keeps_drew (keeps_alloc' _ (keeps_alloc _ _))
        have BQ : Below w.heap.size w ((wr.alloc (.cells (Raw.cells (⟨nn.live, nn.tag, nn.text, ⟨ap1, nn.attrs.length, ac1⟩, nn.up, ⟨kp1, kn1, kc1⟩, nn.hasS, ⟨sp1, sn1, sc1⟩, nn.inS⟩ : Raw)).toArray 50)).alloc (.cells (Raw.cells (⟨nn.live, nn.tag, nn.text, ⟨ap2, nn.attrs.length, ac2⟩, nn.up, ⟨kp2, kn2, kc2⟩, nn.hasS, ⟨sp2, sn2, sc2⟩, nn.inS⟩ : Raw)).toArray 50)).drew := ((hnx.alloc hbz _).alloc (by simp; omega) _).drew
        simp only [Raw.cells] at bX bY KQ BQ
        generalize hWQ : (World.alloc _ _).drew = W at bX bY KQ BQ ⊢
        generalize wr.heap.size + 1 = Y at *
        generalize wr.heap.size = X at *
        clear x0 x1 x2 x3 x4 x5 x6 x7 x8 y0 y1 y2 y3 y4 y5 y6 y7 y8 SS
        have K1 := K1.keeps KQ
        have K2 := K2.keeps KQ
        have S1 := S1.keeps KQ
        have S2 := S2.keeps KQ
        have A1 := A1.keeps KQ
        have A2 := A2.keeps KQ
        clear KQ hWQ hnx hbz
        have CX := bX
        have CY := bY
        obtain ⟨e0, e1, e2, e3, e4, e5, e6, e7, e8⟩ := bX
        obtain ⟨g0, g1, g2, g3, g4, g5, g6, g7, g8⟩ := bY
        simp only at e0 e1 e2 e3 e4 e5 e6 e7 e8 g0 g1 g2 g3 g4 g5 g6 g7 g8
        have q1 : (nn.tag.toList == nn.tag.toList) = true := by simp
        have q2 : (nn.text.toList == nn.text.toList) = true := by simp
        have q3 : (nn.up == nn.up) = true := by simp
        have AX : Hid (AttrsAt W (.slice ap1 nn.attrs.length ac1) nn.attrs) := A1
        have AY : Hid (AttrsAt W (.slice ap2 nn.attrs.length ac2) nn.attrs) := A2
        clear A1 A2
        go_wp2_with (first
          | (go_at_call_of 16 kc1; refine (rsameints_true K1 K2).mono ?_; rintro e w5 ⟨rfl, hb5⟩; have J5 := keeps_below hb5 (Nat.le_refl _); have e75 := J5 _ _ e7; have g75 := J5 _ _ g7; have e35 := J5 _ _ e3; have g35 := J5 _ _ g3; have S15 := S1.keeps J5; have S25 := S2.keeps J5)
          | (go_at_call_of 16 sc1; refine (rsameints_true S15 S25).mono ?_; rintro e w6 ⟨rfl, hb6⟩; have J6 := J5.trans (keeps_below hb6 (Nat.le_refl _)); have e36 := J6 _ _ e3; have g36 := J6 _ _ g3; have B6 := (BQ.trans (hb5.mono BQ.size)).trans (hb6.mono (Nat.le_trans BQ.size hb5.size)); have AX6 : Hid (AttrsAt w6 (.slice ap1 nn.attrs.length ac1) nn.attrs) := AX.out.keeps J6; have AY6 : Hid (AttrsAt w6 (.slice ap2 nn.attrs.length ac2) nn.attrs) := AY.out.keeps J6))
        obtain ⟨_, _, he1, hx1, hx2, _, at1⟩ := AX6.out.at
        cases he1
        obtain ⟨_, _, he2, hy1, hy2, _, at2⟩ := AY6.out.at
        cases he2
        have T1 : Hid (∀ i (hi : i < nn.attrs.length), ∃ b o, ap1 = some ⟨b, o, none⟩ ∧ w6.cell? ⟨b, o + i * 2, none⟩ = some (.string nn.attrs[i].1) ∧ w6.cell? ⟨b, o + i * 2 + 1, none⟩ = some (.string nn.attrs[i].2)) := at1
        have T2 : Hid (∀ i (hi : i < nn.attrs.length), ∃ b o, ap2 = some ⟨b, o, none⟩ ∧ w6.cell? ⟨b, o + i * 2, none⟩ = some (.string nn.attrs[i].1) ∧ w6.cell? ⟨b, o + i * 2 + 1, none⟩ = some (.string nn.attrs[i].2)) := at2
        clear at1 at2 AX6 AY6 AX AY J5 J6 hb5 hb6 e75 g75 e35 g35 S15 S25 K1 K2 S1 S2 BQ CX CY e0 e1 e2 e3 e4 e5 e6 e7 e8 g0 g1 g2 g3 g4 g5 g6 g7 g8 q1 q2 q3
        go_loopw [95] (fun iv wq => ∃ i : Nat, i ≤ nn.attrs.length ∧ iv = .int .i64 i ∧ Below w6.heap.size w6 wq) (fun i _ => nn.attrs.length - (intOf i).toNat)
        case atStart => exact ⟨0, Nat.zero_le _, rfl, Below.refl _ _⟩
        case round =>
          obtain ⟨i, hi, rfl, hq6⟩ := hrel
          have J7 := keeps_below hq6 (Nat.le_refl _)
          have e37 := J7 _ _ e36
          have g37 := J7 _ _ g36
          by_cases hil : i < nn.attrs.length
          · obtain ⟨f1, p1, rfl, k1, k2⟩ := T1.out i hil
            obtain ⟨f2, p2, rfl, k3, k4⟩ := T2.out i hil
            have z1 := J7 _ _ k1
            have z2 := J7 _ _ k2
            have z3 := J7 _ _ k3
            have z4 := J7 _ _ k4
            clear k1 k2 k3 k4
            generalize nn.attrs[i] = at0 at *
            obtain ⟨nm, vl⟩ := at0
            simp only at z1 z2 z3 z4
            have hne := fun W => attr_neq W nm vl
            have hgd := attr_guard
            have hii : (i : Int) < (nn.attrs.length : Int) := by omega
            go_wp2_with fail
            go_quiet (fail)
            go_wp2_with fail
            go_roundw
            case rel => exact ⟨i + 1, by omega, by go_num, hq6.trans ⟨rfl, rfl, rfl, Nat.le_refl _, fun _ _ => rfl⟩⟩
            case measure => simp [intOf]; omega
          · obtain rfl : i = nn.attrs.length := by omega
            go_wp2_with fail
            go_roundw
            case rel => exact ⟨j + 1, by omega, by go_num, B6.trans (hq6.mono B6.size)⟩
            case measure => simp [intOf]; omega
      · have bY : BoxAt ((wr.alloc (.cells (Raw.cells (⟨nn.live, nn.tag, nn.text, ⟨ap2, nn.attrs.length, ac2⟩, nn.up, ⟨kp2, kn2, kc2⟩, nn.hasS, ⟨sp2, sn2, sc2⟩, nn.inS⟩ : Raw)).toArray 50)).alloc (.cells (Raw.cells (⟨nn.live, nn.tag, nn.text, ⟨ap1, nn.attrs.length, ac1⟩, nn.up, ⟨kp1, kn1, kc1⟩, nn.hasS, ⟨sp1, sn1, sc1⟩, nn.inS⟩ : Raw)).toArray 50)).drew wr.heap.size (⟨nn.live, nn.tag, nn.text, ⟨ap2, nn.attrs.length, ac2⟩, nn.up, ⟨kp2, kn2, kc2⟩, nn.hasS, ⟨sp2, sn2, sc2⟩, nn.inS⟩ : Raw) := (box_new wr (⟨nn.live, nn.tag, nn.text, ⟨ap2, nn.attrs.length, ac2⟩, nn.up, ⟨kp2, kn2, kc2⟩, nn.hasS, ⟨sp2, sn2, sc2⟩, nn.inS⟩ : Raw) 50).keeps (keeps_drew (keeps_alloc _ _))
        have bX : BoxAt ((wr.alloc (.cells (Raw.cells (⟨nn.live, nn.tag, nn.text, ⟨ap2, nn.attrs.length, ac2⟩, nn.up, ⟨kp2, kn2, kc2⟩, nn.hasS, ⟨sp2, sn2, sc2⟩, nn.inS⟩ : Raw)).toArray 50)).alloc (.cells (Raw.cells (⟨nn.live, nn.tag, nn.text, ⟨ap1, nn.attrs.length, ac1⟩, nn.up, ⟨kp1, kn1, kc1⟩, nn.hasS, ⟨sp1, sn1, sc1⟩, nn.inS⟩ : Raw)).toArray 50)).drew (wr.heap.size + 1) (⟨nn.live, nn.tag, nn.text, ⟨ap1, nn.attrs.length, ac1⟩, nn.up, ⟨kp1, kn1, kc1⟩, nn.hasS, ⟨sp1, sn1, sc1⟩, nn.inS⟩ : Raw) := by
          have h := (box_new (wr.alloc (.cells (Raw.cells (⟨nn.live, nn.tag, nn.text, ⟨ap2, nn.attrs.length, ac2⟩, nn.up, ⟨kp2, kn2, kc2⟩, nn.hasS, ⟨sp2, sn2, sc2⟩, nn.inS⟩ : Raw)).toArray 50)) (⟨nn.live, nn.tag, nn.text, ⟨ap1, nn.attrs.length, ac1⟩, nn.up, ⟨kp1, kn1, kc1⟩, nn.hasS, ⟨sp1, sn1, sc1⟩, nn.inS⟩ : Raw) 50).keeps (keeps_drew (Keeps.refl _))
          rw [show (wr.alloc (.cells (Raw.cells (⟨nn.live, nn.tag, nn.text, ⟨ap2, nn.attrs.length, ac2⟩, nn.up, ⟨kp2, kn2, kc2⟩, nn.hasS, ⟨sp2, sn2, sc2⟩, nn.inS⟩ : Raw)).toArray 50)).heap.size = wr.heap.size + 1 by simp] at h
          exact h
        have KQ : Keeps wr ((wr.alloc (.cells (Raw.cells (⟨nn.live, nn.tag, nn.text, ⟨ap2, nn.attrs.length, ac2⟩, nn.up, ⟨kp2, kn2, kc2⟩, nn.hasS, ⟨sp2, sn2, sc2⟩, nn.inS⟩ : Raw)).toArray 50)).alloc (.cells (Raw.cells (⟨nn.live, nn.tag, nn.text, ⟨ap1, nn.attrs.length, ac1⟩, nn.up, ⟨kp1, kn1, kc1⟩, nn.hasS, ⟨sp1, sn1, sc1⟩, nn.inS⟩ : Raw)).toArray 50)).drew := keeps_drew (keeps_alloc' _ (keeps_alloc _ _))
        have BQ : Below w.heap.size w ((wr.alloc (.cells (Raw.cells (⟨nn.live, nn.tag, nn.text, ⟨ap2, nn.attrs.length, ac2⟩, nn.up, ⟨kp2, kn2, kc2⟩, nn.hasS, ⟨sp2, sn2, sc2⟩, nn.inS⟩ : Raw)).toArray 50)).alloc (.cells (Raw.cells (⟨nn.live, nn.tag, nn.text, ⟨ap1, nn.attrs.length, ac1⟩, nn.up, ⟨kp1, kn1, kc1⟩, nn.hasS, ⟨sp1, sn1, sc1⟩, nn.inS⟩ : Raw)).toArray 50)).drew := ((hnx.alloc hbz _).alloc (by simp; omega) _).drew
        simp only [Raw.cells] at bX bY KQ BQ
        generalize hWQ : (World.alloc _ _).drew = W at bX bY KQ BQ ⊢
        generalize wr.heap.size + 1 = X at *
        generalize wr.heap.size = Y at *
        clear x0 x1 x2 x3 x4 x5 x6 x7 x8 y0 y1 y2 y3 y4 y5 y6 y7 y8 SS
        have K1 := K1.keeps KQ
        have K2 := K2.keeps KQ
        have S1 := S1.keeps KQ
        have S2 := S2.keeps KQ
        have A1 := A1.keeps KQ
        have A2 := A2.keeps KQ
        clear KQ hWQ hnx hbz
        have CX := bX
        have CY := bY
        obtain ⟨e0, e1, e2, e3, e4, e5, e6, e7, e8⟩ := bX
        obtain ⟨g0, g1, g2, g3, g4, g5, g6, g7, g8⟩ := bY
        simp only at e0 e1 e2 e3 e4 e5 e6 e7 e8 g0 g1 g2 g3 g4 g5 g6 g7 g8
        have q1 : (nn.tag.toList == nn.tag.toList) = true := by simp
        have q2 : (nn.text.toList == nn.text.toList) = true := by simp
        have q3 : (nn.up == nn.up) = true := by simp
        have AX : Hid (AttrsAt W (.slice ap1 nn.attrs.length ac1) nn.attrs) := A1
        have AY : Hid (AttrsAt W (.slice ap2 nn.attrs.length ac2) nn.attrs) := A2
        clear A1 A2
        go_wp2_with (first
          | (go_at_call_of 16 kc1; refine (rsameints_true K1 K2).mono ?_; rintro e w5 ⟨rfl, hb5⟩; have J5 := keeps_below hb5 (Nat.le_refl _); have e75 := J5 _ _ e7; have g75 := J5 _ _ g7; have e35 := J5 _ _ e3; have g35 := J5 _ _ g3; have S15 := S1.keeps J5; have S25 := S2.keeps J5)
          | (go_at_call_of 16 sc1; refine (rsameints_true S15 S25).mono ?_; rintro e w6 ⟨rfl, hb6⟩; have J6 := J5.trans (keeps_below hb6 (Nat.le_refl _)); have e36 := J6 _ _ e3; have g36 := J6 _ _ g3; have B6 := (BQ.trans (hb5.mono BQ.size)).trans (hb6.mono (Nat.le_trans BQ.size hb5.size)); have AX6 : Hid (AttrsAt w6 (.slice ap1 nn.attrs.length ac1) nn.attrs) := AX.out.keeps J6; have AY6 : Hid (AttrsAt w6 (.slice ap2 nn.attrs.length ac2) nn.attrs) := AY.out.keeps J6))
        obtain ⟨_, _, he1, hx1, hx2, _, at1⟩ := AX6.out.at
        cases he1
        obtain ⟨_, _, he2, hy1, hy2, _, at2⟩ := AY6.out.at
        cases he2
        have T1 : Hid (∀ i (hi : i < nn.attrs.length), ∃ b o, ap1 = some ⟨b, o, none⟩ ∧ w6.cell? ⟨b, o + i * 2, none⟩ = some (.string nn.attrs[i].1) ∧ w6.cell? ⟨b, o + i * 2 + 1, none⟩ = some (.string nn.attrs[i].2)) := at1
        have T2 : Hid (∀ i (hi : i < nn.attrs.length), ∃ b o, ap2 = some ⟨b, o, none⟩ ∧ w6.cell? ⟨b, o + i * 2, none⟩ = some (.string nn.attrs[i].1) ∧ w6.cell? ⟨b, o + i * 2 + 1, none⟩ = some (.string nn.attrs[i].2)) := at2
        clear at1 at2 AX6 AY6 AX AY J5 J6 hb5 hb6 e75 g75 e35 g35 S15 S25 K1 K2 S1 S2 BQ CX CY e0 e1 e2 e3 e4 e5 e6 e7 e8 g0 g1 g2 g3 g4 g5 g6 g7 g8 q1 q2 q3
        go_loopw [95] (fun iv wq => ∃ i : Nat, i ≤ nn.attrs.length ∧ iv = .int .i64 i ∧ Below w6.heap.size w6 wq) (fun i _ => nn.attrs.length - (intOf i).toNat)
        case atStart => exact ⟨0, Nat.zero_le _, rfl, Below.refl _ _⟩
        case round =>
          obtain ⟨i, hi, rfl, hq6⟩ := hrel
          have J7 := keeps_below hq6 (Nat.le_refl _)
          have e37 := J7 _ _ e36
          have g37 := J7 _ _ g36
          by_cases hil : i < nn.attrs.length
          · obtain ⟨f1, p1, rfl, k1, k2⟩ := T1.out i hil
            obtain ⟨f2, p2, rfl, k3, k4⟩ := T2.out i hil
            have z1 := J7 _ _ k1
            have z2 := J7 _ _ k2
            have z3 := J7 _ _ k3
            have z4 := J7 _ _ k4
            clear k1 k2 k3 k4
            generalize nn.attrs[i] = at0 at *
            obtain ⟨nm, vl⟩ := at0
            simp only at z1 z2 z3 z4
            have hne := fun W => attr_neq W nm vl
            have hgd := attr_guard
            have hii : (i : Int) < (nn.attrs.length : Int) := by omega
            go_wp2_with fail
            go_quiet (fail)
            go_wp2_with fail
            go_roundw
            case rel => exact ⟨i + 1, by omega, by go_num, hq6.trans ⟨rfl, rfl, rfl, Nat.le_refl _, fun _ _ => rfl⟩⟩
            case measure => simp [intOf]; omega
          · obtain rfl : i = nn.attrs.length := by omega
            go_wp2_with fail
            go_roundw
            case rel => exact ⟨j + 1, by omega, by go_num, B6.trans (hq6.mono B6.size)⟩
            case measure => simp [intOf]; omega
    · obtain rfl : j = d.length := by omega
      go_wp2_with fail
      go_ret
      exact ⟨rfl, hnx⟩
end Go.Proofs.Ytookcjdibpccpab

/-
  THE WALK of tnlaw2.DomMade.
-/
namespace Go.Proofs.Ytookcjdibpccpab
open Go.RowKit

set_option maxHeartbeats 400000 in
set_option maxRecDepth 100000 in
/-- a change of a node that is not there -/
theorem dapply_none {w : World} {b o c : Nat} {rs : List Raw} {d : Tn.Dc} (hd : DocAt w b o c rs d) (kd nn tt bf : Int) (nm vl : ByteArray) (hk1 : 1 ≤ kd) (hk2 : kd ≤ 10) (hi : Tn.isN d nn false = false) :
    Calls Try.prog 9 #[.slice (some ⟨b, o, none⟩) rs.length c, chg6 ⟨kd, nn, tt, bf, nm, vl⟩] w fun e w' => e = .returned (.tuple #[.slice none 0 0, .int .i64 0, .int .i64 6]) ∧ Below w.heap.size w w' := by
  have B1 : Below w.heap.size w (w.alloc (.cells #[.int .i64 kd, .int .i64 nn, .int .i64 tt, .int .i64 bf, .string nm, .string vl] 28)) := (Below.refl _ _).alloc (Nat.le_refl _) _
  have HD : Hid (DocAt (w.alloc (.cells #[.int .i64 kd, .int .i64 nn, .int .i64 tt, .int .i64 bf, .string nm, .string vl] 28)) b o c rs d) := hd.keeps (keeps_below B1 (Nat.le_refl _))
  clear hd
  unfold chg6
  simp only
  go_enter Try.func9, Try.ntmps9
  go_wp2_with fail
  refine (dis_any HD.out nn false).mono ?_
  rintro e w1 ⟨rfl, hw1⟩
  subst hw1
  rw [hi]
  go_wp2_with fail
  go_ret3
  exact ⟨rfl, B1⟩

theorem chgs_keeps {w w' : World} {v : Value} {l : List Tn.Chg} (h : ChgsAt w v l) (k : Keeps w w') : ChgsAt w' v l := by
  obtain ⟨p, c, e, h1, h2, h4⟩ := h
  refine ⟨p, c, e, h1, h2, fun j x hx => ?_⟩
  obtain ⟨b, o, e1, e2⟩ := h4 j x hx
  exact ⟨b, o, e1, k _ _ e2⟩

variable {d : Tn.Dc} {x : Tn.Chg} {m : Nat} {b : Int}

theorem made_path (h : Tn.Good d) (hk : x.kind = 1 ∨ x.kind = 2) (hm : Tn.lvD d m = true) : (Tn.pathOf (putDoc (addIn d x) (Tn.free d) m b false) (Tn.free d : Int)).length - 1 = (Tn.pathOf d (m : Int)).length ∧ Tn.within (putDoc (addIn d x) (Tn.free d) m b false) (Tn.free d : Int) (m : Int) = true := by
  obtain ⟨r, hr, hR⟩ := h.tr
  obtain ⟨hf1, hf2⟩ := Tn.free_spec d
  have hf0 : Tn.free d ≠ 0 := fun e => by rw [e, hr.1.root] at hf2; cases hf2
  have hmk : m ≠ Tn.free d := fun e => by rw [e, hf2] at hm; cases hm
  have hT := make_TrD (x := x) (b := b) h hr hk hm
  have hu0 : (Tn.nd (putDoc (addIn d x) (Tn.free d) m b false) 0).up = -1 := by
    rw [make_nd h hk hm]
    by_cases e : 0 = m
    · rw [if_pos e]
      show (Tn.nd d m).up = -1
      rw [← e]
      exact h.rootUp
    · rw [if_neg e, if_neg (fun e2 => hf0 e2.symm)]
      exact h.rootUp
  have hlv := make_lv (x := x) (b := b) h hk hm
  have hnk : Tn.nd (putDoc (addIn d x) (Tn.free d) m b false) (Tn.free d) = { newNd x with up := (m : Int), inS := false } := by
    rw [make_nd h hk hm, if_neg (fun e => hmk e.symm), if_pos rfl]
  refine ⟨?_, ?_⟩
  · rw [Tn.pathOf_len hT hlv hu0, Tn.pathOf_len hr hm h.rootUp, if_pos rfl]
    rfl
  · have hlen := make_len (x := x) (b := b) h hk hm
    have hml := Tn.lv_lt hm
    unfold Tn.within Tn.pathOf
    rw [path_succ_yes _ _ _ (by rw [Tn.isN_iff]; exact hlv), hnk]
    obtain ⟨L, hL⟩ : ∃ L, (putDoc (addIn d x) (Tn.free d) m b false).length = L + 1 := ⟨(putDoc (addIn d x) (Tn.free d) m b false).length - 1, by omega⟩
    rw [hL]
    show (Tn.free d :: Tn.path (L + 1) _ (m : Int)).any _ = true
    rw [path_succ_yes _ _ _ (by
      rw [Tn.isN_iff]
      unfold Tn.lvD
      rw [make_nd h hk hm, if_pos rfl]
      exact hm)]
    simp

theorem apply_make {W : World} {g o c : Nat} {rs : List Raw} {d : Tn.Dc} (hd : DocAt W g o c rs d) (h : Tn.Good d) (kd n tt bf : Int) (nm vl : ByteArray) (hkd : kd = 1 ∨ kd = 2) (hnm : nm.size ≤ 4194304) (hvl : vl.size ≤ 4194304) :
    Calls Try.prog 9 #[.slice (some ⟨g, o, none⟩) rs.length c, .agg #[.int .i64 kd, .int .i64 n, .int .i64 tt, .int .i64 bf, .string nm, .string vl]] W fun e w' => Below W.heap.size W w' ∧ ((∃ cd : Int, (cd != 0) = true ∧ e = .returned (.tuple #[.slice none 0 0, .int .i64 0, .int .i64 cd])) ∨
      ∃ (m g' c' : Nat) (rs' : List Raw), n = (m : Int) ∧ Tn.lvD d m = true ∧ e = .returned (.tuple #[.slice (some ⟨g', 0, none⟩) rs'.length c', .int .i64 (Tn.free d : Int), .int .i64 0]) ∧ DocAt w' g' 0 c' rs' (putDoc (addIn d ⟨kd, (m : Int), tt, bf, nm, vl⟩) (Tn.free d) m bf false)) := by
  cases hi : Tn.isN d n false with
  | false =>
    refine (dapply_none hd kd n tt bf nm vl (by omega) (by omega) hi).mono ?_
    rintro e w' ⟨e1, e2⟩
    exact ⟨e2, Or.inl ⟨6, by decide, e1⟩⟩
  | true =>
    obtain ⟨m, rfl, hml, hlv⟩ := isN_nat hi
    have hm : Tn.lvD d m = true := hlv
    have hlen := h.len
    have hl := hd.len
    refine (dapply_chs hd (by omega) (by omega) (fun j s => ?_) (fun k => ?_) kd (m : Int) tt bf nm vl (by omega) (by omega) hi (chs_make h hm kd tt bf nm vl hkd hnm hvl) (fun _ => ?_)).mono ?_
    · have := h.small j s
      omega
    · have := h.attrs k
      omega
    · obtain ⟨r, hr, _⟩ := h.tr
      exact (make_TrD (x := ⟨kd, (m : Int), tt, bf, nm, vl⟩) (b := bf) h hr hkd hm).1.root
    · rintro e w' ⟨v, e1, e2, ⟨e3, e4⟩ | ⟨_, g', c', rs', e3, e4, _⟩⟩
      · exact ⟨e2, Or.inl ⟨_, by simpa using e3, by rw [e1, e4]⟩⟩
      · rw [make_last h hkd hm] at e4
        exact ⟨e2, Or.inr ⟨m, g', c', rs', rfl, hm, by rw [e1, e3], e4⟩⟩

theorem apply_unmake {W : World} {g o c : Nat} {rs : List Raw} {d : Tn.Dc} {x : Tn.Chg} {m : Nat} {b : Int} (hd : DocAt W g o c rs (putDoc (addIn d x) (Tn.free d) m b false)) (h : Tn.Good d) (hm : Tn.lvD d m = true) (hkd : x.kind = 1 ∨ x.kind = 2) :
    Calls Try.prog 9 #[.slice (some ⟨g, o, none⟩) rs.length c, .agg #[.int .i64 4, .int .i64 (Tn.free d : Int), .int .i64 0, .int .i64 0, .string ⟨#[]⟩, .string ⟨#[]⟩]] W fun e w' => Below W.heap.size W w' ∧ ∃ (g' c' : Nat) (rs' : List Raw), e = .returned (.tuple #[.slice (some ⟨g', 0, none⟩) rs'.length c', .int .i64 (Tn.free d : Int), .int .i64 0]) ∧ DocAt w' g' 0 c' rs' d := by
  have hlen := make_len (x := x) (b := b) h hkd hm
  have h60 := h.len
  have hf := (Tn.free_spec d).1
  have hl := hd.len
  refine (dapply_chs hd (by omega) (by omega) (fun j s => ?_) (fun k => ?_) 4 (Tn.free d : Int) 0 0 ⟨#[]⟩ ⟨#[]⟩ (by omega) (by omega) (by rw [Tn.isN_iff]; exact make_lv h hkd hm) (chs_unmake h hm hkd 0 0 ⟨#[]⟩ ⟨#[]⟩) (fun _ => ?_)).mono ?_
  · have := make_li (x := x) (b := b) h hkd hm j s
    omega
  · rw [make_nd h hkd hm]
    split
    · have := h.attrs m
      show (Tn.nd d m).attrs.length ≤ 1000
      omega
    · split
      · unfold newNd
        split <;> simp [Tn.zero]
      · have := h.attrs k
        omega
  · obtain ⟨r, hr, _⟩ := h.tr
    obtain ⟨hf1, hf2⟩ := Tn.free_spec d
    have hf0 : Tn.free d ≠ 0 := fun e => by rw [e, hr.1.root] at hf2; cases hf2
    rw [taken_all h hkd hm]
    unfold Tn.lvD
    show (Tn.nd (List.set _ (Tn.free d) Tn.zero) 0).live = true
    rw [nd_setL _ _ _ (by rw [taken_len h hkd hm]; omega), if_neg (fun e => hf0 e.symm), taken_nd h hkd hm, if_neg (fun e => hf0 e.symm)]
    exact hr.1.root
  · rintro e w' ⟨v, e1, e2, ⟨e3, e4⟩ | ⟨_, g', c', rs', e3, e4, _⟩⟩
    · exact absurd rfl e3
    · rw [unmade h hkd hm] at e4
      exact ⟨e2, g', c', rs', by rw [e1, e3], e4⟩

set_option maxHeartbeats 400000 in
set_option maxRecDepth 100000 in
theorem made_walk {w : World} {vl : Value} {l : List Tn.Chg} (hl : ChgsAt w vl l) (hsz : ∀ x ∈ l, x.value.size ≤ 4194304 ∧ x.name.size ≤ 4194304) (n bf : Int) (text : Bool) :
    Calls Try.prog 3 #[vl, .int .i64 n, .int .i64 bf, .bool text] w fun e w' => e = .returned (.bool true) ∧ Below w.heap.size w w' := by
  have HL : Hid (ChgsAt w vl l) := hl
  have HZ : Hid (∀ x ∈ l, x.value.size ≤ 4194304 ∧ x.name.size ≤ 4194304) := hsz
  clear hl hsz
  go_enter Try.func3, Try.ntmps3
  go_wp2_with fail
  refine (l2alive_any w).mono ?_
  rintro e w1 ⟨rfl, b1⟩
  go_wp2_with fail
  refine (rbuild_good (chgs_keeps HL.out (keeps_below b1 (Nat.le_refl _))) HZ.out).mono ?_
  rintro e w2 ⟨g, c, rs, rfl, hd2, b2⟩
  have D2 : Hid (DocAt w2 g 0 c rs (Tn.build l)) := hd2
  have B2 : Hid (Below w.heap.size w w2) := b1.trans (b2.mono b1.size)
  have hG : Hid (Tn.Good (Tn.build l)) := build_good l
  clear hd2 b1 b2 HL HZ
  generalize Tn.build l = d at *
  cases text with
  | false =>
    have D3 : Hid (DocAt (w2.alloc (.cells #[.int .i64 1, .int .i64 n, .int .i64 0, .int .i64 bf, .string ⟨#[98]⟩, .string ⟨#[]⟩] 28)) g 0 c rs d) := D2.out.keeps (keeps_alloc _ _)
    have B3 : Hid (Below w.heap.size w (w2.alloc (.cells #[.int .i64 1, .int .i64 n, .int .i64 0, .int .i64 bf, .string ⟨#[98]⟩, .string ⟨#[]⟩] 28))) := B2.out.alloc B2.out.size _
    have hAp := apply_make D3.out hG.out 1 n 0 bf ⟨#[98]⟩ ⟨#[]⟩ (by omega) (by decide) (by decide)
    have HAp : Hid (Calls Try.prog 9 #[.slice (some ⟨g, 0, none⟩) rs.length c, .agg #[.int .i64 1, .int .i64 n, .int .i64 0, .int .i64 bf, .string ⟨#[98]⟩, .string ⟨#[]⟩]] (w2.alloc (.cells #[.int .i64 1, .int .i64 n, .int .i64 0, .int .i64 bf, .string ⟨#[98]⟩, .string ⟨#[]⟩] 28)) fun e w' => Hid (Below (w2.alloc (.cells #[.int .i64 1, .int .i64 n, .int .i64 0, .int .i64 bf, .string ⟨#[98]⟩, .string ⟨#[]⟩] 28)).heap.size (w2.alloc (.cells #[.int .i64 1, .int .i64 n, .int .i64 0, .int .i64 bf, .string ⟨#[98]⟩, .string ⟨#[]⟩] 28)) w') ∧ ((∃ cd : Int, (cd != 0) = true ∧ e = .returned (.tuple #[.slice none 0 0, .int .i64 0, .int .i64 cd])) ∨
      ∃ (m g' c' : Nat) (rs' : List Raw), n = (m : Int) ∧ Hid (Tn.lvD d m = true) ∧ e = .returned (.tuple #[.slice (some ⟨g', 0, none⟩) rs'.length c', .int .i64 (Tn.free d : Int), .int .i64 0]) ∧ Hid (DocAt w' g' 0 c' rs' (putDoc (addIn d ⟨1, (m : Int), 0, bf, ⟨#[98]⟩, ⟨#[]⟩⟩) (Tn.free d) m bf false)))) := hAp
    clear hAp
    go_wp2_with fail
    refine HAp.out.mono ?_
    rintro e w3 ⟨b3, ⟨cd, hcd, rfl⟩ | ⟨m, g', c', rs', rfl, hm, rfl, hY⟩⟩
    · have B4 : Hid (Below w.heap.size w w3) := B3.out.trans (b3.out.mono B3.out.size)
      clear b3
      go_wp2_with fail
      go_ret
      exact ⟨rfl, B4.out⟩
    · have B4 : Hid (Below w.heap.size w w3) := B3.out.trans (b3.out.mono B3.out.size)
      have D4 : Hid (DocAt w3 g 0 c rs d) := D3.out.keeps (keeps_below b3.out (Nat.le_refl _))
      have hfr : Hid (Tn.isN d (Tn.free d : Int) false = false) := by show _ = _; rw [Tn.isN_iff]; exact (Tn.free_spec d).2
      have hpt := made_path (x := ⟨1, (m : Int), 0, bf, ⟨#[98]⟩, ⟨#[]⟩⟩) (b := bf) hG.out (by simp) hm.out
      have HP1 := hpt.1
      have HP2 : Hid (Tn.within (putDoc (addIn d ⟨1, (m : Int), 0, bf, ⟨#[98]⟩, ⟨#[]⟩⟩) (Tn.free d) m bf false) (Tn.free d : Int) (m : Int) = true) := hpt.2
      have HTY : Hid (Tame (putDoc (addIn d ⟨1, (m : Int), 0, bf, ⟨#[98]⟩, ⟨#[]⟩⟩) (Tn.free d) m bf false)) := make_tame hG.out (by simp) hm.out
      have HTd : Hid (Tame d) := tame_good hG.out
      have HU : Hid (∀ (W : World), DocAt W g' 0 c' rs' (putDoc (addIn d ⟨1, (m : Int), 0, bf, ⟨#[98]⟩, ⟨#[]⟩⟩) (Tn.free d) m bf false) → Calls Try.prog 9 #[.slice (some ⟨g', 0, none⟩) rs'.length c', .agg #[.int .i64 4, .int .i64 (Tn.free d : Int), .int .i64 0, .int .i64 0, .string ⟨#[]⟩, .string ⟨#[]⟩]] W fun e w' => Below W.heap.size W w' ∧ ∃ (g' c' : Nat) (rs' : List Raw), e = .returned (.tuple #[.slice (some ⟨g', 0, none⟩) rs'.length c', .int .i64 (Tn.free d : Int), .int .i64 0]) ∧ DocAt w' g' 0 c' rs' d) := fun W hW => apply_unmake hW hG.out hm.out (by simp)
      have hL : Hid (d.length ≤ 1000) := by have := hG.out.len; show _ ≤ _; omega
      have HPL : Hid ((Tn.pathOf (putDoc (addIn d ⟨1, (m : Int), 0, bf, ⟨#[98]⟩, ⟨#[]⟩⟩) (Tn.free d) m bf false) (Tn.free d : Int)).length - 1 = (Tn.pathOf d (m : Int)).length) := HP1
      have HP0 : Hid (0 < (Tn.pathOf d (m : Int)).length ∧ (Tn.pathOf d (m : Int)).length ≤ 100) := by
        obtain ⟨r, hr, _⟩ := hG.out.tr
        have h1 := Tn.pathOf_len hr hm.out hG.out.rootUp
        have h2 := HTd.out.path (m : Int)
        have h3 := HTd.out.len
        exact ⟨by omega, by omega⟩
      clear b3 D3 B3 HAp hpt HP1 hG hm
      generalize putDoc (addIn d ⟨1, (m : Int), 0, bf, ⟨#[98]⟩, ⟨#[]⟩⟩) (Tn.free d) m bf false = Y at *
      generalize Tn.free d = k at *
      go_wp2_with fail
      refine (dis_any D4.out (k : Int) false).mono ?_
      rintro e w4 ⟨rfl, hw4⟩
      subst hw4
      rw [hfr.out]
      go_wp2_with fail
      refine (dwithin_any hY.out HTY.out (k : Int) (m : Int)).mono ?_
      rintro e w5 ⟨rfl, b5⟩
      rw [HP2.out]
      have B5 : Hid (Below w.heap.size w w5) := B4.out.trans (b5.mono B4.out.size)
      have D5 : Hid (DocAt w5 g 0 c rs d) := D4.out.keeps (keeps_below b5 (Nat.le_refl _))
      have Y5 : Hid (DocAt w5 g' 0 c' rs' Y) := hY.out.keeps (keeps_below b5 (Nat.le_refl _))
      clear b5 B4 D4 hY HP2 hfr
      obtain ⟨p, hp⟩ : ∃ p : Nat, (Tn.pathOf d (m : Int)).length = p + 1 := ⟨(Tn.pathOf d (m : Int)).length - 1, by have := HP0.out.1; omega⟩
      have hp100 : p ≤ 100 := by have := HP0.out.2; omega
      have HY1 : Hid ((Tn.pathOf Y (k : Int)).length - 1 = p + 1) := HPL.out.trans hp
      have HD1 : Hid ((Tn.pathOf d (m : Int)).length - 1 = p) := by show _ = _; omega
      clear hp HPL HP0
      go_wp2_with fail
      refine (ddeep_any Y5.out HTY.out (k : Int)).mono ?_
      rintro e w6 ⟨rfl, b6⟩
      rw [HY1.out]
      have B6 : Hid (Below w.heap.size w w6) := B5.out.trans (b6.mono B5.out.size)
      have D6 : Hid (DocAt w6 g 0 c rs d) := D5.out.keeps (keeps_below b6 (Nat.le_refl _))
      have Y6 : Hid (DocAt w6 g' 0 c' rs' Y) := Y5.out.keeps (keeps_below b6 (Nat.le_refl _))
      clear b6 B5 D5 Y5 HY1
      go_wp2_with fail
      refine (ddeep_any D6.out HTd.out (m : Int)).mono ?_
      rintro e w7 ⟨rfl, b7⟩
      rw [HD1.out]
      have B7 : Hid (Below w.heap.size w w7) := B6.out.trans (b7.mono B6.out.size)
      have D7 : Hid (DocAt w7 g 0 c rs d) := D6.out.keeps (keeps_below b7 (Nat.le_refl _))
      have Y7 : Hid (DocAt w7 g' 0 c' rs' Y) := Y6.out.keeps (keeps_below b7 (Nat.le_refl _))
      clear b7 B6 D6 Y6 HD1
      have hpp : ((((p + 1 : Nat) : Int) - 1) != (p : Int)) = false := by simp
      go_wp2_with fail
      refine (HU.out w7 Y7.out).mono ?_
      rintro e w8 ⟨b8, g8, c8, rs8, rfl, hd8⟩
      have B8 : Hid (Below w.heap.size w w8) := B7.out.trans (b8.mono B7.out.size)
      have D8 : Hid (DocAt w8 g 0 c rs d) := D7.out.keeps (keeps_below b8 (Nat.le_refl _))
      have Z8 : Hid (DocAt w8 g8 0 c8 rs8 d) := hd8
      clear b8 B7 D7 Y7 hd8 HU
      go_wp2_with fail
      refine (rsame_true Z8.out D8.out hL.out).mono ?_
      rintro e w9 ⟨rfl, b9⟩
      have B9 : Hid (Below w.heap.size w w9) := B8.out.trans (b9.mono B8.out.size)
      clear b9 B8 D8 Z8
      go_wp2_with fail
      go_ret
      exact ⟨rfl, B9.out⟩
  | true =>
    have D3 : Hid (DocAt (w2.alloc (.cells #[.int .i64 2, .int .i64 n, .int .i64 0, .int .i64 bf, .string ⟨#[]⟩, .string ⟨#[98]⟩] 28)) g 0 c rs d) := D2.out.keeps (keeps_alloc _ _)
    have B3 : Hid (Below w.heap.size w (w2.alloc (.cells #[.int .i64 2, .int .i64 n, .int .i64 0, .int .i64 bf, .string ⟨#[]⟩, .string ⟨#[98]⟩] 28))) := B2.out.alloc B2.out.size _
    have hAp := apply_make D3.out hG.out 2 n 0 bf ⟨#[]⟩ ⟨#[98]⟩ (by omega) (by decide) (by decide)
    have HAp : Hid (Calls Try.prog 9 #[.slice (some ⟨g, 0, none⟩) rs.length c, .agg #[.int .i64 2, .int .i64 n, .int .i64 0, .int .i64 bf, .string ⟨#[]⟩, .string ⟨#[98]⟩]] (w2.alloc (.cells #[.int .i64 2, .int .i64 n, .int .i64 0, .int .i64 bf, .string ⟨#[]⟩, .string ⟨#[98]⟩] 28)) fun e w' => Hid (Below (w2.alloc (.cells #[.int .i64 2, .int .i64 n, .int .i64 0, .int .i64 bf, .string ⟨#[]⟩, .string ⟨#[98]⟩] 28)).heap.size (w2.alloc (.cells #[.int .i64 2, .int .i64 n, .int .i64 0, .int .i64 bf, .string ⟨#[]⟩, .string ⟨#[98]⟩] 28)) w') ∧ ((∃ cd : Int, (cd != 0) = true ∧ e = .returned (.tuple #[.slice none 0 0, .int .i64 0, .int .i64 cd])) ∨
      ∃ (m g' c' : Nat) (rs' : List Raw), n = (m : Int) ∧ Hid (Tn.lvD d m = true) ∧ e = .returned (.tuple #[.slice (some ⟨g', 0, none⟩) rs'.length c', .int .i64 (Tn.free d : Int), .int .i64 0]) ∧ Hid (DocAt w' g' 0 c' rs' (putDoc (addIn d ⟨2, (m : Int), 0, bf, ⟨#[]⟩, ⟨#[98]⟩⟩) (Tn.free d) m bf false)))) := hAp
    clear hAp
    go_wp2_with fail
    refine HAp.out.mono ?_
    rintro e w3 ⟨b3, ⟨cd, hcd, rfl⟩ | ⟨m, g', c', rs', rfl, hm, rfl, hY⟩⟩
    · have B4 : Hid (Below w.heap.size w w3) := B3.out.trans (b3.out.mono B3.out.size)
      clear b3
      go_wp2_with fail
      go_ret
      exact ⟨rfl, B4.out⟩
    · have B4 : Hid (Below w.heap.size w w3) := B3.out.trans (b3.out.mono B3.out.size)
      have D4 : Hid (DocAt w3 g 0 c rs d) := D3.out.keeps (keeps_below b3.out (Nat.le_refl _))
      have hfr : Hid (Tn.isN d (Tn.free d : Int) false = false) := by show _ = _; rw [Tn.isN_iff]; exact (Tn.free_spec d).2
      have hpt := made_path (x := ⟨2, (m : Int), 0, bf, ⟨#[]⟩, ⟨#[98]⟩⟩) (b := bf) hG.out (by simp) hm.out
      have HP1 := hpt.1
      have HP2 : Hid (Tn.within (putDoc (addIn d ⟨2, (m : Int), 0, bf, ⟨#[]⟩, ⟨#[98]⟩⟩) (Tn.free d) m bf false) (Tn.free d : Int) (m : Int) = true) := hpt.2
      have HTY : Hid (Tame (putDoc (addIn d ⟨2, (m : Int), 0, bf, ⟨#[]⟩, ⟨#[98]⟩⟩) (Tn.free d) m bf false)) := make_tame hG.out (by simp) hm.out
      have HTd : Hid (Tame d) := tame_good hG.out
      have HU : Hid (∀ (W : World), DocAt W g' 0 c' rs' (putDoc (addIn d ⟨2, (m : Int), 0, bf, ⟨#[]⟩, ⟨#[98]⟩⟩) (Tn.free d) m bf false) → Calls Try.prog 9 #[.slice (some ⟨g', 0, none⟩) rs'.length c', .agg #[.int .i64 4, .int .i64 (Tn.free d : Int), .int .i64 0, .int .i64 0, .string ⟨#[]⟩, .string ⟨#[]⟩]] W fun e w' => Below W.heap.size W w' ∧ ∃ (g' c' : Nat) (rs' : List Raw), e = .returned (.tuple #[.slice (some ⟨g', 0, none⟩) rs'.length c', .int .i64 (Tn.free d : Int), .int .i64 0]) ∧ DocAt w' g' 0 c' rs' d) := fun W hW => apply_unmake hW hG.out hm.out (by simp)
      have hL : Hid (d.length ≤ 1000) := by have := hG.out.len; show _ ≤ _; omega
      have HPL : Hid ((Tn.pathOf (putDoc (addIn d ⟨2, (m : Int), 0, bf, ⟨#[]⟩, ⟨#[98]⟩⟩) (Tn.free d) m bf false) (Tn.free d : Int)).length - 1 = (Tn.pathOf d (m : Int)).length) := HP1
      have HP0 : Hid (0 < (Tn.pathOf d (m : Int)).length ∧ (Tn.pathOf d (m : Int)).length ≤ 100) := by
        obtain ⟨r, hr, _⟩ := hG.out.tr
        have h1 := Tn.pathOf_len hr hm.out hG.out.rootUp
        have h2 := HTd.out.path (m : Int)
        have h3 := HTd.out.len
        exact ⟨by omega, by omega⟩
      clear b3 D3 B3 HAp hpt HP1 hG hm
      generalize putDoc (addIn d ⟨2, (m : Int), 0, bf, ⟨#[]⟩, ⟨#[98]⟩⟩) (Tn.free d) m bf false = Y at *
      generalize Tn.free d = k at *
      go_wp2_with fail
      refine (dis_any D4.out (k : Int) false).mono ?_
      rintro e w4 ⟨rfl, hw4⟩
      subst hw4
      rw [hfr.out]
      go_wp2_with fail
      refine (dwithin_any hY.out HTY.out (k : Int) (m : Int)).mono ?_
      rintro e w5 ⟨rfl, b5⟩
      rw [HP2.out]
      have B5 : Hid (Below w.heap.size w w5) := B4.out.trans (b5.mono B4.out.size)
      have D5 : Hid (DocAt w5 g 0 c rs d) := D4.out.keeps (keeps_below b5 (Nat.le_refl _))
      have Y5 : Hid (DocAt w5 g' 0 c' rs' Y) := hY.out.keeps (keeps_below b5 (Nat.le_refl _))
      clear b5 B4 D4 hY HP2 hfr
      obtain ⟨p, hp⟩ : ∃ p : Nat, (Tn.pathOf d (m : Int)).length = p + 1 := ⟨(Tn.pathOf d (m : Int)).length - 1, by have := HP0.out.1; omega⟩
      have hp100 : p ≤ 100 := by have := HP0.out.2; omega
      have HY1 : Hid ((Tn.pathOf Y (k : Int)).length - 1 = p + 1) := HPL.out.trans hp
      have HD1 : Hid ((Tn.pathOf d (m : Int)).length - 1 = p) := by show _ = _; omega
      clear hp HPL HP0
      go_wp2_with fail
      refine (ddeep_any Y5.out HTY.out (k : Int)).mono ?_
      rintro e w6 ⟨rfl, b6⟩
      rw [HY1.out]
      have B6 : Hid (Below w.heap.size w w6) := B5.out.trans (b6.mono B5.out.size)
      have D6 : Hid (DocAt w6 g 0 c rs d) := D5.out.keeps (keeps_below b6 (Nat.le_refl _))
      have Y6 : Hid (DocAt w6 g' 0 c' rs' Y) := Y5.out.keeps (keeps_below b6 (Nat.le_refl _))
      clear b6 B5 D5 Y5 HY1
      go_wp2_with fail
      refine (ddeep_any D6.out HTd.out (m : Int)).mono ?_
      rintro e w7 ⟨rfl, b7⟩
      rw [HD1.out]
      have B7 : Hid (Below w.heap.size w w7) := B6.out.trans (b7.mono B6.out.size)
      have D7 : Hid (DocAt w7 g 0 c rs d) := D6.out.keeps (keeps_below b7 (Nat.le_refl _))
      have Y7 : Hid (DocAt w7 g' 0 c' rs' Y) := Y6.out.keeps (keeps_below b7 (Nat.le_refl _))
      clear b7 B6 D6 Y6 HD1
      have hpp : ((((p + 1 : Nat) : Int) - 1) != (p : Int)) = false := by simp
      go_wp2_with fail
      refine (HU.out w7 Y7.out).mono ?_
      rintro e w8 ⟨b8, g8, c8, rs8, rfl, hd8⟩
      have B8 : Hid (Below w.heap.size w w8) := B7.out.trans (b8.mono B7.out.size)
      have D8 : Hid (DocAt w8 g 0 c rs d) := D7.out.keeps (keeps_below b8 (Nat.le_refl _))
      have Z8 : Hid (DocAt w8 g8 0 c8 rs8 d) := hd8
      clear b8 B7 D7 Y7 hd8 HU
      go_wp2_with fail
      refine (rsame_true Z8.out D8.out hL.out).mono ?_
      rintro e w9 ⟨rfl, b9⟩
      have B9 : Hid (Below w.heap.size w w9) := B8.out.trans (b9.mono B8.out.size)
      clear b9 B8 D8 Z8
      go_wp2_with fail
      go_ret
      exact ⟨rfl, B9.out⟩
end Go.Proofs.Ytookcjdibpccpab
