/-
  OWN WORK: Dbc, Dbg, Dcy, Dlv, Dmd, Dya, Dtw.
-/
import Derived.Test.YtookcjdibpccpaaP11
import Derived.Test.YtookcjdibpccpaaP10
import Derived.Test.YtookcjdibpccpaaP5
import Derived.Test.YtookcjdibpccpaaP6
import Derived.Test.YtookcjdibpccpaaP4
/-
  PLAIN MATHEMATICS: too deep, as dom tells it and as the reference does; a node moves.
-/
namespace Go.Proofs.Ytookcjdibpccpaa
open Tn

theorem deepL_att (g : Nat → Nat) : ∀ (l : List Nat) (m : Nat), deepL g l m = m ∨ ∃ k ∈ l, deepL g l m = 1 + g k
  | [], m => Or.inl rfl
  | a :: l, m => by
    have e : deepL g (a :: l) m = deepL g l (max m (1 + g a)) := rfl
    rw [e]
    rcases deepL_att g l (max m (1 + g a)) with h | ⟨k, hk, h⟩
    · rw [h]
      rcases Nat.le_total (1 + g a) m with h2 | h2
      · exact Or.inl (by omega)
      · exact Or.inr ⟨a, by simp, by omega⟩
    · exact Or.inr ⟨k, by simp [hk], h⟩

theorem deepest_att {d : Dc} {r : Nat → Nat} (h : TrD d r) : ∀ (f n : Nat), lvD d n = true → ∃ j, j ∈ all (f + 1) d n ∧ r j = r n + deepest f d n
  | 0, n, hn => ⟨n, by rw [all, if_pos (by rw [isN_iff]; exact hn)]; simp, rfl⟩
  | f + 1, n, hn => by
    have hi : isN d (n : Int) false = true := by rw [isN_iff]; exact hn
    have kid : ∀ s k, k ∈ liD d n s → ∃ j, j ∈ all (f + 2) d n ∧ r j = r n + (1 + deepest f d k) := by
      intro s k hk
      obtain ⟨_, h2, h3, h4, _⟩ := h.1.mem n s k hk
      obtain ⟨j, hj, e⟩ := deepest_att h f k h2
      have hr := h.1.rank k h3 h2
      rw [h4] at hr
      refine ⟨j, ?_, by omega⟩
      rw [all, if_pos hi, List.mem_cons, List.mem_append]
      right
      cases s with
      | false => right; exact List.mem_flatMap.mpr ⟨k, hk, hj⟩
      | true => left; exact List.mem_flatMap.mpr ⟨k, hk, hj⟩
    rw [deepest]
    rcases deepL_att (deepest f d) (nd d n).kids (deepL (deepest f d) (nd d n).shadow 0) with e | ⟨k, hk, e⟩
    · rw [e]
      rcases deepL_att (deepest f d) (nd d n).shadow 0 with e2 | ⟨k, hk, e2⟩
      · rw [e2]
        exact ⟨n, by rw [all, if_pos hi]; simp, rfl⟩
      · rw [e2]; exact kid true k hk
    · rw [e]; exact kid false k hk

theorem all_moreB (d : Dc) : ∀ (f n g : Nat), Tn.Ends f d n → f ≤ g → all g d n = all f d n
  | 0, _, _, h, _ => h.elim
  | f + 1, n, g, h, hg => by
    obtain ⟨g, rfl⟩ : ∃ g', g = g' + 1 := ⟨g - 1, by omega⟩
    have fm : ∀ l : List Nat, (∀ k ∈ l, Tn.Ends f d k) → l.flatMap (all g d) = l.flatMap (all f d) := by
      intro l hl
      induction l with
      | nil => rfl
      | cons a l ih => rw [List.flatMap_cons, List.flatMap_cons, all_moreB d f a g (hl a (by simp)) (by omega), ih (fun k hk => hl k (by simp [hk]))]
    rw [all, all, fm _ h.2.1, fm _ h.2.2]

theorem deep_any {d : Dc} {r : Nat → Nat} (h : TrD d r) (hT : Tame d) (hR : ∀ k, lvD d k = true → r k ≤ 50) (h0 : (nd d 0).up = -1) {n : Nat} (hn : lvD d n = true) :
    (all fuel d n).any (tooDeep d) = decide ((16 : Int) < ((pathOf d (n : Int)).length : Int) - 1 + (deepest fuel d n : Int)) := by
  rw [pathOf_len h hn h0, Bool.eq_iff_iff, List.any_eq_true, decide_eq_true_iff]
  constructor
  · rintro ⟨j, hj, ht⟩
    obtain ⟨hl, hd1, hd2⟩ := all_desc h fuel n j hj hn
    unfold tooDeep at ht
    rw [pathOf_len h hl h0] at ht
    have ht' := of_decide_eq_true ht
    have hj50 := hR j hl
    have := deepest_ge h (r j - r n) fuel n j (by omega) (by unfold fuel; omega) hl hd2
    omega
  · intro hlt
    obtain ⟨j, hj, e⟩ := deepest_att h fuel n hn
    rw [all_moreB d fuel n (fuel + 1) (hT.ends n hn) (by omega)] at hj
    obtain ⟨hl, _⟩ := all_desc h fuel n j hj hn
    refine ⟨j, hj, ?_⟩
    unfold tooDeep
    rw [pathOf_len h hl h0]
    apply decide_eq_true
    omega

variable {d : Dc} {n t : Nat} {b : Int}

theorem d2_nd (h : Tn.Good d) (hn0 : 0 < n) (hn : lvD d n = true) (j : Nat) : nd (withd (takeD d n) n { nd d n with up := (t : Int), inS := false }) j = if j = n then { nd d n with up := (t : Int), inS := false } else nd (moveIn d n) j := by
  obtain ⟨hu1, hu2, hu3⟩ := up_live h hn0 hn
  have hul := lv_lt hu1
  have hnl := lv_lt hn
  have htu : (nd d n).up.toNat = upD d n := rfl
  have hlt : (takeD d n).length = d.length := by
    unfold takeD
    rw [htu, len_withd _ _ _ (Nat.le_of_lt hul)]
    omega
  rw [nd_withd _ _ _ (by rw [hlt]; omega)]
  split
  · rfl
  · unfold takeD
    rw [htu, nd_withd _ _ _ (Nat.le_of_lt hul), mv_nd h hn0 hn]
    split
    · unfold setList listOf
      cases hs : (nd d n).inS with
      | false =>
        have : n ∉ (nd d (upD d n)).shadow := fun hm => by
          have := (in_one h (j := upD d n) (s := true) hm).2
          rw [hs] at this
          cases this
        simp only [Bool.false_eq_true, if_false]
        rw [without_same this]
        rfl
      | true =>
        have : n ∉ (nd d (upD d n)).kids := fun hm => by
          have := (in_one h (j := upD d n) (s := false) hm).2
          rw [hs] at this
          cases this
        simp only [if_true]
        rw [without_same this]
        rfl
    · rfl

theorem mv_nodup (h : Tn.Good d) (hn0 : 0 < n) (hn : lvD d n = true) (t : Nat) : (nd (moveIn d n) t).kids.Nodup := by
  obtain ⟨r, hr, _⟩ := h.tr
  rw [mv_nd h hn0 hn]
  split
  · unfold setList listOf
    cases (nd d n).inS with
    | false =>
      simp only [Bool.false_eq_true, if_false]
      exact (hr.1.nodup (upD d n) false).sublist List.filter_sublist
    | true => exact hr.1.nodup (upD d n) false
  · exact hr.1.nodup t false

theorem moved_up0 (h : Tn.Good d) (hn0 : 0 < n) (hn : lvD d n = true) (ht : lvD d t = true) (hne : t ≠ n) : (nd (putDoc (moveIn d n) n t b false) 0).up = -1 := by
  rw [put_nd (by rw [mv_len]; exact lv_lt hn) (by rw [mv_len]; exact lv_lt ht) hne, if_neg (by omega)]
  have h0 : (nd (moveIn d n) 0).up = -1 := by
    rw [mv_nd h hn0 hn]
    split
    · rename_i e; rw [(set_other _ _ _).2.1, ← e]; exact h.rootUp
    · exact h.rootUp
  split
  · rename_i e
    show (nd (moveIn d n) t).up = -1
    rw [← e]
    exact h0
  · exact h0

open Classical in
/-- the error of a move, where all else goes -/
theorem move_code (h : Tn.Good d) (hn0 : 0 < n) (hn : lvD d n = true) (ht : lvD d t = true) (hw : within d (t : Int) (n : Int) = false) (b : Int) :
    putCode (moveIn d n) n t b false = putE (withd (takeD d n) n { nd d n with up := (t : Int), inS := false }) n t b false := by
  obtain ⟨r, hr, hR⟩ := h.tr
  have hne := within_ne h ht hw
  have hnd := (within_desc hr ht h.rootUp n).mp hw
  have hT := move_tr hr hn0 hn ht hnd (off_move h hn0 hn (t := t)) b
  rw [← put_move h hn0 hn ht hne] at hT
  have hTm := moved_tame (b := b) h hn0 hn ht hw
  have hl : listOf (nd (withd (takeD d n) n { nd d n with up := (t : Int), inS := false }) t) false = listOf (nd (moveIn d n) t) false := by rw [d2_nd h hn0 hn, if_neg hne]
  have hpl : place (listOf (nd (moveIn d n) t) false) b = putAt (listOf (nd (moveIn d n) t) false) b := place_putAt (mv_nodup h hn0 hn t) b
  have hda := deep_any hT hTm (fun k hk => by
    rw [moved_lv h hn0 hn ht hne] at hk
    have h1 := hR k hk
    have h2 := hR t ht
    split <;> omega) (moved_up0 h hn0 hn ht hne) (n := n) (by rw [moved_lv h hn0 hn ht hne]; exact hn)
  unfold putCode putE
  rw [hl, hpl, hda, ← put_move h hn0 hn ht hne]
  simp only [decide_eq_true_eq]

theorem move_codeE (h : Tn.Good d) (hn : lvD d n = true) (x : Chg) (hx : x.node = (n : Int)) : moveCode d n x = moveE d x := by
  unfold moveCode moveE
  rw [hx, Int.toNat_natCast]
  by_cases hn0 : n = 0
  · rw [if_pos (Or.inl hn0), if_pos (Or.inl (by omega))]
  · cases ht : isN d x.to true with
    | false => rw [if_pos (Or.inr rfl), if_pos (Or.inr rfl)]
    | true =>
      have c1 : ¬ (n = 0 ∨ true = false) := by simp [hn0]
      have c2 : ¬ ((n : Int) = 0 ∨ true = false) := by simp [hn0]
      rw [if_neg c1, if_neg c2]
      cases hw : within d x.to (n : Int) with
      | true => rfl
      | false =>
        simp only [Bool.false_eq_true, if_false]
        split
        · rfl
        · obtain ⟨t, e, htl, hlv⟩ := isN_nat (isN_true ht)
          rw [e] at hw ⊢
          rw [Int.toNat_natCast]
          exact move_code h (by omega) hn hlv hw x.before

theorem move_docD (h : Tn.Good d) (hn : lvD d n = true) (x : Chg) (hx : x.node = (n : Int)) (he : moveE d x = 0) : n ≠ 0 ∧ isN d x.to true = true ∧ within d x.to (n : Int) = false ∧ x.before ≠ (n : Int) ∧ putDoc (moveIn d n) n x.to.toNat x.before false = moveD d x := by
  unfold moveE at he
  rw [hx, Int.toNat_natCast] at he
  by_cases hn0 : n = 0
  · rw [if_pos (Or.inl (by omega))] at he
    cases he
  · cases ht : isN d x.to true with
    | false => rw [if_pos (Or.inr ht)] at he; cases he
    | true =>
      rw [if_neg (by simp [ht]; omega)] at he
      cases hw : within d x.to (n : Int) with
      | true => rw [hw, if_pos rfl] at he; cases he
      | false =>
        rw [hw] at he
        simp only [Bool.false_eq_true, if_false] at he
        by_cases hb : x.before = (n : Int)
        · rw [if_pos hb] at he; cases he
        · refine ⟨hn0, rfl, rfl, hb, ?_⟩
          obtain ⟨t, e, htl, hlv⟩ := isN_nat (isN_true ht)
          unfold moveD
          rw [hx, Int.toNat_natCast, e, Int.toNat_natCast]
          rw [e] at hw
          exact put_move h (by omega) hn hlv (within_ne h hlv hw)

/-- all below a node is as it was when the node was taken out of its list -/
theorem all_moveIn (h : Tn.Good d) {r : Nat → Nat} (hr : TrD d r) (hn0 : 0 < n) (hn : lvD d n = true) : ∀ (f j : Nat), lvD d j = true → r n ≤ r j → all f (moveIn d n) j = all f d j
  | 0, _, _, _ => rfl
  | f + 1, j, hj, hrj => by
    have hu := up_live h hn0 hn
    have hrk := hr.1.rank n hn0 hn
    have hju : j ≠ upD d n := fun e => by rw [e] at hrj; omega
    have hnj : nd (moveIn d n) j = nd d j := by rw [mv_nd h hn0 hn, if_neg hju]
    have hi : isN (moveIn d n) (j : Int) false = isN d (j : Int) false := by
      rw [isN_iff, isN_iff]
      unfold lvD
      rw [hnj]
    have fm : ∀ s, (liD d j s).flatMap (all f (moveIn d n)) = (liD d j s).flatMap (all f d) := by
      intro s
      have : ∀ l : List Nat, (∀ k ∈ l, k ∈ liD d j s) → l.flatMap (all f (moveIn d n)) = l.flatMap (all f d) := by
        intro l hl
        induction l with
        | nil => rfl
        | cons a l ih =>
          obtain ⟨_, h2, h3, h4, _⟩ := hr.1.mem j s a (hl a (by simp))
          have hra := hr.1.rank a h3 h2
          rw [h4] at hra
          rw [List.flatMap_cons, List.flatMap_cons, all_moveIn h hr hn0 hn f a h2 (by omega), ih (fun k hk => hl k (by simp [hk]))]
      exact this _ (fun _ h => h)
    rw [all, all, hi, hnj]
    have f1 : (nd d j).shadow.flatMap (all f (moveIn d n)) = (nd d j).shadow.flatMap (all f d) := fm true
    have f2 : (nd d j).kids.flatMap (all f (moveIn d n)) = (nd d j).kids.flatMap (all f d) := fm false
    rw [f1, f2]

theorem kill_gone : ∀ (l : List Nat) (d : Dc), (∀ x ∈ l, x < d.length) → killD l d = l.foldl (fun d k => withd d k zero) d
  | [], _, _ => rfl
  | a :: l, d, h => by
    have ha := h a (by simp)
    show killD l (d.set a zero) = l.foldl _ (withd d a zero)
    have e : withd d a zero = d.set a zero := by unfold withd; rw [if_neg (by omega)]
    rw [e]
    exact kill_gone l _ (fun x hx => by rw [List.length_set]; exact h x (by simp [hx]))

theorem take_moveIn (h : Tn.Good d) (hn0 : 0 < n) (hn : lvD d n = true) : takeD d n = moveIn d n := by
  obtain ⟨hu1, hu2, hu3⟩ := up_live h hn0 hn
  have hul := lv_lt hu1
  have htu : (nd d n).up.toNat = upD d n := rfl
  have hlt : (takeD d n).length = d.length := by
    unfold takeD
    rw [htu, len_withd _ _ _ (Nat.le_of_lt hul)]
    omega
  refine doc_ext (by rw [hlt, mv_len]) fun j => ?_
  by_cases e : j = n
  · subst e
    unfold takeD
    rw [htu, nd_withd _ _ _ (Nat.le_of_lt hul), if_neg (fun e => hu2 e.symm), mv_nd h hn0 hn, if_neg (fun e => hu2 e.symm)]
  · have := d2_nd (t := 0) h hn0 hn j
    rw [if_neg e, nd_withd _ _ _ (by rw [hlt]; have := lv_lt hn; omega), if_neg e] at this
    exact this

theorem remove_docD (h : Tn.Good d) (hn0 : 0 < n) (hn : lvD d n = true) (x : Chg) (hx : x.node = (n : Int)) : killD (all fuel (moveIn d n) n) (moveIn d n) = removeD d x ∧ ∀ k ∈ all fuel (moveIn d n) n, k < d.length := by
  obtain ⟨r, hr, _⟩ := h.tr
  have ha := all_moveIn h hr hn0 hn fuel n hn (Nat.le_refl _)
  have hlt : ∀ k ∈ all fuel d n, k < d.length := fun k hk => lv_lt (all_desc hr fuel n k hk hn).1
  refine ⟨?_, by rw [ha]; exact hlt⟩
  unfold removeD
  rw [hx, Int.toNat_natCast, ha, kill_gone _ _ (fun k hk => by rw [mv_len]; exact hlt k hk), take_moveIn h hn0 hn]
end Go.Proofs.Ytookcjdibpccpaa

/-
  PLAIN MATHEMATICS: what dom makes is what the reference makes, in lists and in shadow trees.
-/
namespace Go.Proofs.Ytookcjdibpccpaa
open Tn

/-- a change that makes a node -/
def Mk (x : Chg) : Prop := x.kind = 1 ∨ x.kind = 2 ∨ x.kind = 9 ∨ x.kind = 10

theorem made_newS {x : Chg} (hk : Mk x) (m : Nat) (s : Bool) : made (newN x) m s = { newNd x with up := (m : Int), inS := s } := by
  unfold made newN newNd isText
  rcases hk with h | h | h | h <;> rw [h] <;> rfl

variable {d : Dc} {x : Chg} {m : Nat} {b : Int} {s : Bool}

theorem put_makeS (h : Tn.Good d) (hk : Mk x) (hm : lvD d m = true) (b : Int) (s : Bool) :
    putDoc (addIn d x) (free d) m b s = put1 (withd d (free d) (made (newN x) m s)) (free d) m b s := by
  obtain ⟨hf1, hf2⟩ := free_spec d
  obtain ⟨r, hr, hR⟩ := h.tr
  have hml := lv_lt hm
  have hmk : m ≠ free d := fun e => by rw [e, hf2] at hm; cases hm
  have hla : (addIn d x).length = max d.length (free d + 1) := by rw [addIn_withd d x]; exact len_withd _ _ _ hf1
  have hm1 : m < (addIn d x).length := by omega
  have hf3 : free d < (addIn d x).length := by omega
  have hm2 : m < (withd d (free d) (made (newN x) m s)).length := by rw [len_withd _ _ _ hf1]; omega
  have hlist : listOf (nd (withd d (free d) (made (newN x) m s)) m) s = listOf (nd d m) s := by rw [nd_withd _ _ _ hf1, if_neg hmk]
  have hlist2 : listOf (nd (addIn d x) m) s = listOf (nd d m) s := by rw [addIn_nd d x hf1, if_neg hmk]
  have hpl : place (listOf (nd d m) s) b = putAt (listOf (nd d m) s) b := place_putAt (hr.1.nodup m s) b
  refine doc_ext ?_ fun j => ?_
  · rw [put1_len _ _ _ _ _ hm2, len_withd _ _ _ hf1]
    unfold putDoc putIn
    rw [List.length_set, List.length_set, hla]
  · rw [put1_nd _ _ _ _ _ hm2, hlist, hpl, nd_withd _ _ _ hf1, nd_withd _ _ _ hf1, if_neg hmk, made_newS hk]
    unfold putDoc
    have hpi : ∀ i, nd (putIn (addIn d x) (free d) m b s) i = if i = m then setList (nd d m) s (insertAt (listOf (nd d m) s) (putAt (listOf (nd d m) s) b).toNat (free d)) else nd (addIn d x) i := by
      intro i
      unfold putIn
      rw [nd_setL _ _ _ hm1, hlist2, addIn_nd d x hf1 m, if_neg hmk]
    have hpk : nd (putIn (addIn d x) (free d) m b s) (free d) = newNd x := by
      rw [hpi, if_neg (fun e => hmk e.symm), addIn_nd d x hf1, if_pos rfl]
    rw [nd_setL _ _ _ (by unfold putIn; rw [List.length_set]; exact hf3), hpk]
    by_cases e : j = free d
    · skip
      simp only [e, if_true]
      rw [if_neg (fun e3 => hmk e3.symm)]
    · rw [if_neg e, hpi, addIn_nd d x hf1, if_neg e, if_neg e]

structure MadeF (d : Dc) (x : Chg) (m : Nat) (b : Int) (s : Bool) : Prop where
  tame : Tame (putDoc (addIn d x) (free d) m b s)
  li : ∀ j t, (liD (putDoc (addIn d x) (free d) m b s) j t).length ≤ 13
  lv : lvD (putDoc (addIn d x) (free d) m b s) (free d) = true
  root : lvD (putDoc (addIn d x) (free d) m b s) 0 = true
  code : putCode (addIn d x) (free d) m b s = putE (withd d (free d) (made (newN x) m s)) (free d) m b s

theorem madeF (h : Tn.Good d) (hk : Mk x) (hm : lvD d m = true) (b : Int) (s : Bool) : MadeF d x m b s := by
  obtain ⟨r, hr, hR⟩ := h.tr
  have hT := make_tr h hr (newN_new x) hm b s
  obtain ⟨hf1, hf2⟩ := free_spec d
  have hml := lv_lt hm
  have hnd := nd_withd d (free d) (made (newN x) m s) hf1
  have hml2 : m < (withd d (free d) (made (newN x) m s)).length := by rw [len_withd _ _ _ hf1]; omega
  have p := putF (withd d (free d) (made (newN x) m s)) (free d) m b s hml2
  have hf0 : free d ≠ 0 := fun e => by rw [e, hr.1.root] at hf2; cases hf2
  have hmk : m ≠ free d := fun e => by rw [e, hf2] at hm; cases hm
  have hup0 : (nd (put1 (withd d (free d) (made (newN x) m s)) (free d) m b s) 0).up = -1 := by rw [p.up, hnd, if_neg (Ne.symm hf0)]; exact h.rootUp
  have hlk : lvD (put1 (withd d (free d) (made (newN x) m s)) (free d) m b s) (free d) = true := by
    rw [p.lv]
    unfold lvD
    rw [hnd, if_pos rfl]
    rfl
  have hli : ∀ j t, liD (withd d (free d) (made (newN x) m s)) j t = liD d j t := by
    intro j t
    unfold liD
    rw [hnd]
    by_cases e : j = free d
    · rw [if_pos e, e, h.dead _ hf2, li_zero]
      unfold made listOf
      rw [(newN_new x).kids, (newN_new x).shadow]
      cases t <;> rfl
    · rw [if_neg e]
  have hR50 : ∀ j, lvD (put1 (withd d (free d) (made (newN x) m s)) (free d) m b s) j = true → (if j = free d then r m + 1 else r j) ≤ 50 := by
    intro j hj
    by_cases e : j = free d
    · rw [if_pos e]
      have := hR m hm
      omega
    · rw [if_neg e]
      rw [p.lv] at hj
      unfold lvD at hj
      rw [hnd, if_neg e] at hj
      have := hR j hj
      omega
  have hlen := h.len
  have hTm : Tame (put1 (withd d (free d) (made (newN x) m s)) (free d) m b s) := tame_of hT hR50 hup0 (by rw [put1_len _ _ _ _ _ hml2, len_withd _ _ _ hf1]; omega)
  have e := put_makeS h hk hm b s
  refine ⟨by rw [e]; exact hTm, ?_, by rw [e]; exact hlk, by rw [e]; exact hT.1.root, ?_⟩
  · intro j t
    rw [e, p.li]
    split
    · rw [len_insertAt, hli]
      have := h.small m s
      omega
    · rw [hli]
      have := h.small j t
      omega
  · have hda := deep_any hT hTm hR50 hup0 hlk
    have hlist : listOf (nd (withd d (free d) (made (newN x) m s)) m) s = listOf (nd d m) s := hli m s
    have hlist2 : listOf (nd (addIn d x) m) s = listOf (nd d m) s := by rw [addIn_nd d x hf1, if_neg hmk]
    have hpl : place (listOf (nd d m) s) b = putAt (listOf (nd d m) s) b := place_putAt (hr.1.nodup m s) b
    unfold putCode putE
    rw [hlist, hlist2, hpl, e, hda]
    simp only [decide_eq_true_eq]

theorem make_codeE (h : Tn.Good d) (hk : Mk x) (hx : x.node = (m : Int)) (hm : lvD d m = true) : addCode d x m (bef x) (isSh x) = makeE d x := by
  have hc := (madeF h hk hm (bef x) (isSh x)).code
  unfold addCode makeE mk1
  rw [hc, hx, Int.toNat_natCast]
  have hfr : freshE x = if isText x = true ∧ 60 < x.value.size then 4 else if isText x = false ∧ okName x.name = false then 7 else 0 := by
    unfold freshE isText okName
    rcases hk with e | e | e | e <;> rw [e]
    · cases nameL x.name.data.toList <;> simp
    · by_cases hs : 60 < x.value.size <;> simp [hs]
    · cases nameL x.name.data.toList <;> simp
    · by_cases hs : 60 < x.value.size <;> simp [hs]
  rw [hfr]
  by_cases h1 : isText x = true ∧ 60 < x.value.size
  · rw [if_pos h1, if_pos h1, if_pos (by decide)]
  · rw [if_neg h1, if_neg h1]
    by_cases h2 : isText x = false ∧ okName x.name = false
    · rw [if_pos h2, if_pos h2, if_pos (by decide)]
    · rw [if_neg h2, if_neg h2, if_neg (by simp)]

theorem make_docD (h : Tn.Good d) (hk : Mk x) (hx : x.node = (m : Int)) (hm : lvD d m = true) : putDoc (addIn d x) (free d) m (bef x) (isSh x) = makeD d x := by
  rw [put_makeS h hk hm]
  unfold makeD mk1
  rw [hx, Int.toNat_natCast]
end Go.Proofs.Ytookcjdibpccpaa

/-
  WHAT dom.change and dom.Apply make of any good document: what the reference makes.
-/
namespace Go.Proofs.Ytookcjdibpccpaa
open Go.RowKit

set_option maxHeartbeats 400000 in
set_option maxRecDepth 100000 in
theorem dremove_zero {w : World} (v : Value) :
    Calls Try.prog 68 #[v, .int .i64 0] w fun e w' => e = .returned (.int .i64 8) ∧ w' = w := by
  go_enter Try.func68, Try.ntmps68
  go_wp2_with fail
  go_ret
  exact ⟨rfl, rfl⟩

set_option maxHeartbeats 400000 in
set_option maxRecDepth 100000 in
theorem dchange_root {w : World} {B g c n : Nat} (hB : B ≤ w.heap.size) (tt bf : Int) (nm vl : ByteArray) :
    Calls Try.prog 57 #[.slice (some ⟨g, 0, none⟩) n c, chg6 ⟨4, 0, tt, bf, nm, vl⟩] w fun e w' => ∃ dv nv, e = .returned (.tuple #[dv, .int .i64 nv, .int .i64 8]) ∧ Below B w w' := by
  have S0 : (w.alloc (.cells #[.int .i64 4, .int .i64 0, .int .i64 tt, .int .i64 bf, .string nm, .string vl] 32)).cell? ⟨w.heap.size, 1, none⟩ = some (.int .i64 0) := by rw [World.cell?_alloc_new]; rfl
  have HB1 : Hid (Below B w (w.alloc (.cells #[.int .i64 4, .int .i64 0, .int .i64 tt, .int .i64 bf, .string nm, .string vl] 32))) := (Below.refl B w).alloc hB _
  unfold chg6
  simp only
  go_enter Try.func57, Try.ntmps57
  go_wp2_with fail
  have SS : ∀ w'', Keeps (w.alloc (.cells #[.int .i64 4, .int .i64 0, .int .i64 tt, .int .i64 bf, .string nm, .string vl] 32)) w'' → (fun w'' : World => w''.cell? ⟨w.heap.size, 1, none⟩ = some (.int .i64 0)) w'' := fun w'' hk => hk _ _ S0
  have HA : Hid (Calls Try.prog 68 #[.slice (some ⟨g, 0, none⟩) n c, .int .i64 0] (w.alloc (.cells #[.int .i64 4, .int .i64 0, .int .i64 tt, .int .i64 bf, .string nm, .string vl] 32)).drew fun e w' => e = .returned (.int .i64 8) ∧ Hid (Below B w w') ∧ w'.cell? ⟨w.heap.size, 1, none⟩ = some (.int .i64 0)) := by
    refine (dremove_zero _).mono ?_
    rintro e w' ⟨e1, rfl⟩
    exact ⟨e1, HB1.out.drew, by rw [World.cell?_drew]; exact S0⟩
  go_region_held3 (fun w'' : World => w''.cell? ⟨w.heap.size, 1, none⟩ = some (.int .i64 0))
    ((first | assumption | (apply SS; first | exact Keeps.refl _ | exact keeps_drew (Keeps.refl _))))
    (first
      | (go_at_call 68; refine HA.out.mono ?_; rintro e w2 ⟨rfl, b2, q2⟩))
  all_goals
    go_wp2_with fail
    go_ret3
    exact ⟨_, _, rfl, b2.out⟩

/-- good, and each node fits -/
structure Fine2 (d : Tn.Dc) : Prop where
  good : Tn.Good d
  fit : ∀ j, Fit j (Tn.nd d j)

theorem withd_set {d : Tn.Dc} {k : Nat} {n : Tn.Nd} (hk : k < d.length) : Tn.withd d k n = d.set k n := by
  unfold Tn.withd
  rw [if_neg (by omega)]

theorem el_of {d : Tn.Dc} {m : Nat} (hm : Tn.lvD d m = true) : Tn.isN d (m : Int) true = Tn.has (Tn.nd d m).tag := by
  have h1 := Tn.lv_lt hm
  unfold Tn.isN
  have h2 : (Tn.nd d m).live = true := hm
  rw [Int.toNat_natCast, h2]
  simp
  intro h
  omega

theorem chs_full {d : Tn.Dc} (hF : Fine2 d) (kd tt bf : Int) (nm vl : ByteArray) (hk1 : 1 ≤ kd) (hk2 : kd ≤ 10) (hnm : nm.size ≤ 4194304) (hvl : vl.size ≤ 4194304) {m : Nat} (hm : Tn.lvD d m = true) :
    Chs d ⟨kd, (m : Int), tt, bf, nm, vl⟩ (Tn.chgE d ⟨kd, (m : Int), tt, bf, nm, vl⟩) (Tn.chgN d ⟨kd, (m : Int), tt, bf, nm, vl⟩) (Tn.chgD d ⟨kd, (m : Int), tt, bf, nm, vl⟩) := by
  have h := hF.good
  intro B W g c rs hB hO
  have hl := hO.len
  have hlen := h.len
  have hml := Tn.lv_lt hm
  have hsm := h.small
  have hrise := (hF.fit m).rise
  have h8 := h.attrs m
  have hel := el_of hm
  have hif : ∀ (a : Int), (if Tn.isN d (m : Int) true = true then a else 8) = (if Tn.has (Tn.nd d m).tag = false then 8 else a) := by
    intro a
    rw [hel]
    cases Tn.has (Tn.nd d m).tag <;> rfl
  have hcase : kd = 1 ∨ kd = 2 ∨ kd = 3 ∨ kd = 4 ∨ kd = 5 ∨ kd = 6 ∨ kd = 7 ∨ kd = 8 ∨ kd = 9 ∨ kd = 10 := by omega
  have hmk : ∀ (x : Tn.Chg), Mk x → x.node = (m : Int) → ∀ s b, (∀ s, (Tn.liD (addIn d x) m s).length ≤ 1000) ∧ (freshE x = 0 → Tn.free d < 60 → 0 ≤ putAt (Tn.listOf (Tn.nd (addIn d x) m) s) b → (Tn.listOf (Tn.nd (addIn d x) m) s).length < 12 → Tame (putDoc (addIn d x) (Tn.free d) m b s) ∧ (∀ j t, (Tn.liD (putDoc (addIn d x) (Tn.free d) m b s) j t).length ≤ 1000) ∧ Tn.lvD (putDoc (addIn d x) (Tn.free d) m b s) (Tn.free d) = true) := by
    intro x hx _ s b
    have f := madeF h hx hm b s
    refine ⟨fun s => ?_, fun _ _ _ _ => ⟨f.tame, fun j t => ?_, f.lv⟩⟩
    · rw [li_addIn h]
      have := hsm m s
      omega
    · have := f.li j t
      omega
  rcases hcase with rfl | rfl | rfl | rfl | rfl | rfl | rfl | rfl | rfl | rfl
  · have hx : Mk ⟨1, (m : Int), tt, bf, nm, vl⟩ := Or.inl rfl
    obtain ⟨q1, q2⟩ := hmk _ hx rfl false bf
    refine (dchange_make hO hB (by omega) 1 (Or.inl rfl) tt bf nm vl hnm hvl (m := m) (by omega) q1 q2).mono ?_
    rintro e w' ⟨dv, nv, cd, e1, e2, e3, e4⟩
    have hc : cd = Tn.chgE d ⟨1, (m : Int), tt, bf, nm, vl⟩ := by
      rw [e3, hif]
      have := make_codeE h hx rfl hm
      exact congrArg (fun a => if Tn.has (Tn.nd d m).tag = false then (8 : Int) else a) this
    have hD : putDoc (addIn d ⟨1, (m : Int), tt, bf, nm, vl⟩) (Tn.free d) m bf false = Tn.chgD d ⟨1, (m : Int), tt, bf, nm, vl⟩ := make_docD h hx rfl hm
    rw [hD] at e4
    rw [hc] at e4 e1
    exact ⟨dv, nv, e1, e2, e4⟩
  · have hx : Mk ⟨2, (m : Int), tt, bf, nm, vl⟩ := Or.inr (Or.inl rfl)
    obtain ⟨q1, q2⟩ := hmk _ hx rfl false bf
    refine (dchange_make hO hB (by omega) 2 (Or.inr rfl) tt bf nm vl hnm hvl (m := m) (by omega) q1 q2).mono ?_
    rintro e w' ⟨dv, nv, cd, e1, e2, e3, e4⟩
    have hc : cd = Tn.chgE d ⟨2, (m : Int), tt, bf, nm, vl⟩ := by
      rw [e3, hif]
      have := make_codeE h hx rfl hm
      exact congrArg (fun a => if Tn.has (Tn.nd d m).tag = false then (8 : Int) else a) this
    have hD : putDoc (addIn d ⟨2, (m : Int), tt, bf, nm, vl⟩) (Tn.free d) m bf false = Tn.chgD d ⟨2, (m : Int), tt, bf, nm, vl⟩ := make_docD h hx rfl hm
    rw [hD] at e4
    rw [hc] at e4 e1
    exact ⟨dv, nv, e1, e2, e4⟩
  · have hce : moveCode d m ⟨3, (m : Int), tt, bf, nm, vl⟩ = Tn.chgE d ⟨3, (m : Int), tt, bf, nm, vl⟩ := move_codeE h hm _ rfl
    refine (dchange_move hO hB (tame_good h) tt bf nm vl (m := m) (by omega) (fun hm0 => ?_) (fun j s => ?_) (fun hm0 j s => ?_) (fun hm0 ht hw _ _ => ?_)).mono ?_
    · have := up_live h (by omega) hm
      exact ⟨Tn.upD d m, this.2.2, by have := Tn.lv_lt this.1; omega⟩
    · have := hsm j s
      omega
    · have := mv_li h (by omega) hm j s
      omega
    · obtain ⟨t, e, _, hlv⟩ := isN_nat (isN_true ht)
      rw [e] at hw ⊢
      rw [Int.toNat_natCast]
      have hne := within_ne h hlv hw
      refine ⟨moved_tame h (by omega) hm hlv hw, fun j s => ?_, ?_⟩
      · have := moved_li (b := bf) h (by omega) hm hlv hne j s
        omega
      · rw [moved_lv h (by omega) hm hlv hne]
        exact hm
    · rintro e w' ⟨rs', e1, e2, e3⟩
      rw [hce] at e1 e3
      refine ⟨_, _, e1, e2, fun h0 => ⟨rfl, g, c, rs', rfl, ?_⟩⟩
      have hd := (move_docD h hm ⟨3, (m : Int), tt, bf, nm, vl⟩ rfl h0).2.2.2.2
      have := e3 h0
      rw [hd] at this
      exact this
  · by_cases hm0 : m = 0
    · subst hm0
      refine (dchange_root hB tt bf nm vl).mono ?_
      rintro e w' ⟨dv, nv, e1, e2⟩
      refine ⟨dv, nv, e1, e2, fun h0 => ?_⟩
      have : Tn.chgE d ⟨4, ((0 : Nat) : Int), tt, bf, nm, vl⟩ = 8 := rfl
      rw [this] at h0
      cases h0
    · have hu := up_live h (by omega) hm
      have hT := moveIn_tame (tame_good h) (n := m) (u := Tn.upD d m) rfl (Tn.lv_lt hu.1)
      have hrd := remove_docD h (by omega) hm ⟨4, (m : Int), tt, bf, nm, vl⟩ rfl
      refine (dchange_remove hO hB tt bf nm vl (m := m) (by omega) hm0 ⟨Tn.upD d m, hu.2.2, by have := Tn.lv_lt hu.1; omega⟩ (fun j s => ?_) ⟨hT.1, fun j s => ?_, ?_⟩ (fun k hk => ?_)).mono ?_
      · have := hsm j s
        omega
      · have h1 := (hT.2.1 j s).length_le
        have := hsm j s
        omega
      · rw [hT.2.2.1]
        exact hm
      · rw [hl]
        exact hrd.2 k hk
      · rintro e w' ⟨rs', e1, e2, e3⟩
        have hc : Tn.chgE d ⟨4, (m : Int), tt, bf, nm, vl⟩ = 0 := by
          show (if (m : Int) = 0 then (8 : Int) else 0) = 0
          rw [if_neg (by omega)]
        rw [hrd.1] at e3
        refine ⟨_, _, by rw [hc]; exact e1, e2, fun _ => ⟨rfl, g, c, rs', rfl, e3⟩⟩
  · refine (dchange_attr5 hO hB tt bf nm vl (m := m) (by omega) (by omega) hrise h8 hnm hvl).mono ?_
    rintro e w' ⟨dv, nv, cd, e1, e2, e3, e4⟩
    have hc : cd = Tn.chgE d ⟨5, (m : Int), tt, bf, nm, vl⟩ := by rw [e3, hif]; rfl
    have hD : d.set m { Tn.nd d m with attrs := Tn.attrsD (Tn.nd d m).attrs nm vl } = Tn.chgD d ⟨5, (m : Int), tt, bf, nm, vl⟩ := (withd_set hml).symm
    rw [hD] at e4
    rw [hc] at e4 e1
    exact ⟨dv, nv, e1, e2, e4⟩
  · refine (dchange_clear6 hO hB tt bf nm vl (m := m) (by omega) (by omega) hrise h8).mono ?_
    rintro e w' ⟨dv, nv, cd, e1, e2, e3, e4⟩
    have hc : cd = Tn.chgE d ⟨6, (m : Int), tt, bf, nm, vl⟩ := by rw [e3, hif]; rfl
    have hD : d.set m { Tn.nd d m with attrs := Tn.attrsOff (Tn.nd d m).attrs nm } = Tn.chgD d ⟨6, (m : Int), tt, bf, nm, vl⟩ := (withd_set hml).symm
    rw [hD] at e4
    rw [hc] at e4 e1
    exact ⟨dv, nv, e1, e2, e4⟩
  · refine (dchange_say7 hO hB tt bf nm vl (m := m) (by omega) (by omega) hvl).mono ?_
    rintro e w' ⟨dv, nv, cd, e1, e2, e3, e4⟩
    have hc : cd = Tn.chgE d ⟨7, (m : Int), tt, bf, nm, vl⟩ := by rw [e3]; rfl
    have hD : d.set m { Tn.nd d m with text := vl } = Tn.chgD d ⟨7, (m : Int), tt, bf, nm, vl⟩ := (withd_set hml).symm
    rw [hD] at e4
    rw [hc] at e4 e1
    exact ⟨dv, nv, e1, e2, e4⟩
  · refine (dchange_shad8 hO hB tt bf nm vl (m := m) (by omega) (by omega)).mono ?_
    rintro e w' ⟨dv, nv, cd, e1, e2, e3, e4⟩
    have hc : cd = Tn.chgE d ⟨8, (m : Int), tt, bf, nm, vl⟩ := by
      rw [e3, hif]
      show (if Tn.has (Tn.nd d m).tag = false then (8 : Int) else shadC m (Tn.nd d m)) = (if Tn.has (Tn.nd d m).tag = false then (8 : Int) else if (m : Int) = 0 ∨ (Tn.nd d m).hasS = true ∨ (Tn.nd d m).tag.toList = Tn.slotT then 8 else 0)
      unfold shadC
      have : (m = 0 ∨ (Tn.nd d m).hasS = true ∨ (Tn.nd d m).tag.toList = Tn.slotT) ↔ ((m : Int) = 0 ∨ (Tn.nd d m).hasS = true ∨ (Tn.nd d m).tag.toList = Tn.slotT) := by
        constructor
        · rintro (h | h)
          · exact Or.inl (by omega)
          · exact Or.inr h
        · rintro (h | h)
          · exact Or.inl (by omega)
          · exact Or.inr h
      simp only [this]
    have hD : d.set m { Tn.nd d m with hasS := true } = Tn.chgD d ⟨8, (m : Int), tt, bf, nm, vl⟩ := (withd_set hml).symm
    rw [hD] at e4
    rw [hc] at e4 e1
    exact ⟨dv, nv, e1, e2, e4⟩
  · have hx : Mk ⟨9, (m : Int), tt, bf, nm, vl⟩ := Or.inr (Or.inr (Or.inl rfl))
    obtain ⟨q1, q2⟩ := hmk _ hx rfl true (-1)
    refine (dchange_Nine hO hB (by omega) tt bf nm vl hnm hvl (m := m) (by omega) q1 q2).mono ?_
    rintro e w' ⟨dv, nv, cd, e1, e2, e3, e4⟩
    have hc : cd = Tn.chgE d ⟨9, (m : Int), tt, bf, nm, vl⟩ := by
      rw [e3, hif]
      have := make_codeE h hx rfl hm
      exact congrArg (fun a => if Tn.has (Tn.nd d m).tag = false then (8 : Int) else a) this
    have hD : putDoc (addIn d ⟨9, (m : Int), tt, bf, nm, vl⟩) (Tn.free d) m (-1) true = Tn.chgD d ⟨9, (m : Int), tt, bf, nm, vl⟩ := make_docD h hx rfl hm
    rw [hD] at e4
    rw [hc] at e4 e1
    exact ⟨dv, nv, e1, e2, e4⟩
  · have hx : Mk ⟨10, (m : Int), tt, bf, nm, vl⟩ := Or.inr (Or.inr (Or.inr rfl))
    obtain ⟨q1, q2⟩ := hmk _ hx rfl true (-1)
    refine (dchange_Ten hO hB (by omega) tt bf nm vl hnm hvl (m := m) (by omega) q1 q2).mono ?_
    rintro e w' ⟨dv, nv, cd, e1, e2, e3, e4⟩
    have hc : cd = Tn.chgE d ⟨10, (m : Int), tt, bf, nm, vl⟩ := by
      rw [e3, hif]
      have := make_codeE h hx rfl hm
      exact congrArg (fun a => if Tn.has (Tn.nd d m).tag = false then (8 : Int) else a) this
    have hD : putDoc (addIn d ⟨10, (m : Int), tt, bf, nm, vl⟩) (Tn.free d) m (-1) true = Tn.chgD d ⟨10, (m : Int), tt, bf, nm, vl⟩ := make_docD h hx rfl hm
    rw [hD] at e4
    rw [hc] at e4 e1
    exact ⟨dv, nv, e1, e2, e4⟩
end Go.Proofs.Ytookcjdibpccpaa

/-
  THE WALK of tnlaw2's alive.
-/
namespace Go.Proofs.Ytookcjdibpccpaa
open Go.RowKit

def al1 : Tn.Chg := ⟨1, 0, 0, -1, ⟨#[112]⟩, ⟨#[]⟩⟩
def al2 : Tn.Chg := ⟨5, 1, 0, 0, ⟨#[105, 100]⟩, ⟨#[120]⟩⟩
theorem al_free : Tn.free [Tn.root] = 1 := by decide +kernel
theorem al_code : makeCode [Tn.root] al1 0 = 0 := by decide +kernel
theorem al_doc1 : putDoc (addIn [Tn.root] al1) (Tn.free [Tn.root]) 0 (-1) false = Tn.build [al1] := by kernel_rfl
theorem al_doc2 : (Tn.build [al1]).set 1 { Tn.nd (Tn.build [al1]) 1 with attrs := [(⟨#[105, 100]⟩, ⟨#[120]⟩)] } = Tn.build [al1, al2] := by kernel_rfl
theorem al_attr : Tn.attrOf (Tn.nd (Tn.build [al1, al2]) 1).attrs ⟨#[105, 100]⟩ = some ⟨#[120]⟩ := by kernel_rfl
theorem al_len : (Tn.build [al1, al2]).length = 2 := by decide +kernel
theorem al_find : findD (Tn.build [al1, al2]) 0 ⟨#[120]⟩ = 1 := by decide +kernel
theorem al_within : Tn.within (Tn.build [al1, al2]) 1 0 = true := by decide +kernel
theorem al_deep : (Tn.pathOf (Tn.build [al1, al2]) 1).length - 1 = 1 := by decide +kernel
theorem al_all : Tn.all Tn.fuel (Tn.build [al1, al2]) 0 = [0, 1] := by decide +kernel
theorem al_is : Tn.isN (Tn.build [al1, al2]) 1 true = true := by decide +kernel
theorem al_scope : scopeD (Tn.build [al1, al2]) 1 = 0 := by decide +kernel
theorem al_last1 : Tn.trimD (Tn.build [al1]) = Tn.build [al1] := by kernel_rfl
theorem al_last2 : Tn.trimD (Tn.build [al1, al2]) = Tn.build [al1, al2] := by kernel_rfl
theorem al_lv : Tn.lvD (Tn.build [al1, al2]) 0 = true := by decide +kernel
theorem al_is1 : Tn.isN (Tn.build [al1]) 1 true = true := by decide +kernel
theorem al_is0 : Tn.isN (Tn.build [al1]) 1 false = true := by decide +kernel
theorem al_lv1 : Tn.lvD (Tn.build [al1]) 0 = true := by decide +kernel
theorem al_at1 : (Tn.nd (Tn.build [al1]) 1).attrs = [] := by kernel_rfl
theorem al_val : valN (Tn.build [al1, al2]) 1 ⟨#[105, 100]⟩ = ⟨#[120]⟩ := by kernel_rfl
theorem al_attrN : attrN (Tn.build [al1, al2]) 1 ⟨#[105, 100]⟩ = some ⟨#[120]⟩ := by kernel_rfl

theorem chs_al2 : Chs (Tn.build [al1]) ⟨5, 1, 0, 0, ⟨#[105, 100]⟩, ⟨#[120]⟩⟩ 0 1 (Tn.build [al1, al2]) := by
  intro B W g c rs hB hO
  have hl : rs.length = 2 := hO.len.trans (by decide +kernel)
  refine (dchange_attr0 hO hB (by omega) 0 0 ⟨#[105, 100]⟩ ⟨#[120]⟩ (m := 1) (by omega) al_is1 al_at1 (by decide) (by decide) (by decide)).mono ?_
  rintro e w' ⟨rs', e1, e2, e3⟩
  rw [al_doc2] at e3
  exact ⟨_, _, e1, e2, fun _ => ⟨rfl, g, c, rs', rfl, e3⟩⟩

theorem chs_al1 : Chs [Tn.root] ⟨1, 0, 0, -1, ⟨#[112]⟩, ⟨#[]⟩⟩ 0 1 (Tn.build [al1]) := by
  have := chs_make good_root (m := 0) (by decide +kernel) 1 0 (-1) ⟨#[112]⟩ ⟨#[]⟩ (Or.inl rfl) (by decide) (by decide)
  have e1 : makeCode [Tn.root] ⟨1, ((0 : Nat) : Int), 0, -1, ⟨#[112]⟩, ⟨#[]⟩⟩ 0 = 0 := al_code
  have e2 : putDoc (addIn [Tn.root] ⟨1, ((0 : Nat) : Int), 0, -1, ⟨#[112]⟩, ⟨#[]⟩⟩) (Tn.free [Tn.root]) 0 (-1) false = Tn.build [al1] := al_doc1
  rw [e1, e2, al_free] at this
  exact this

theorem apply_al1 {w : World} {b o c : Nat} {rs : List Raw} (hd : DocAt w b o c rs [Tn.root]) : Calls Try.prog 41 #[.slice (some ⟨b, o, none⟩) rs.length c, chg6 ⟨1, 0, 0, -1, ⟨#[112]⟩, ⟨#[]⟩⟩] w fun e w' => ∃ (g' c' : Nat) (rs' : List Raw), e = .returned (.tuple #[.slice (some ⟨g', 0, none⟩) rs'.length c', .int .i64 1, .int .i64 0]) ∧ Hid (DocAt w' g' 0 c' rs' (Tn.build [al1])) ∧ Below w.heap.size w w' := by
  have hl : rs.length = 1 := hd.len
  refine (dapply_chs hd (by omega) (by decide) (fun j s => ?_) (fun k => ?_) 1 0 0 (-1) ⟨#[112]⟩ ⟨#[]⟩ (by omega) (by omega) (by decide +kernel) chs_al1 (fun _ => al_lv1)).mono ?_
  · have := good_root.small j s
    omega
  · have := good_root.attrs k
    omega
  · rintro e w' ⟨v, e1, e2, e3 | ⟨_, g', c', rs', e3, e4, _⟩⟩
    · exact absurd rfl e3.1
    · rw [al_last1] at e4
      exact ⟨g', c', rs', by rw [e1, e3], e4, e2⟩

theorem apply_al2 {w : World} {b o c : Nat} {rs : List Raw} (hd : DocAt w b o c rs (Tn.build [al1])) : Calls Try.prog 41 #[.slice (some ⟨b, o, none⟩) rs.length c, chg6 ⟨5, 1, 0, 0, ⟨#[105, 100]⟩, ⟨#[120]⟩⟩] w fun e w' => ∃ (g' c' : Nat) (rs' : List Raw), e = .returned (.tuple #[.slice (some ⟨g', 0, none⟩) rs'.length c', .int .i64 1, .int .i64 0]) ∧ Hid (DocAt w' g' 0 c' rs' (Tn.build [al1, al2])) ∧ Below w.heap.size w w' := by
  have hg := build_good [al1]
  have hl : rs.length = 2 := hd.len.trans (by decide +kernel)
  refine (dapply_chs hd (by omega) (by have := hg.len; omega) (fun j s => ?_) (fun k => ?_) 5 1 0 0 ⟨#[105, 100]⟩ ⟨#[120]⟩ (by omega) (by omega) al_is0 chs_al2 (fun _ => al_lv)).mono ?_
  · have := hg.small j s
    omega
  · have := hg.attrs k
    omega
  · rintro e w' ⟨v, e1, e2, e3 | ⟨_, g', c', rs', e3, e4, _⟩⟩
    · exact absurd rfl e3.1
    · rw [al_last2] at e4
      exact ⟨g', c', rs', by rw [e1, e3], e4, e2⟩

set_option maxHeartbeats 400000 in
set_option maxRecDepth 100000 in
theorem l2alive_any (w : World) : Calls Try.prog 43 #[] w fun e w' => e = .returned (.bool true) ∧ Below w.heap.size w w' := by
  go_enter Try.func43, Try.ntmps43
  go_wp2_with fail
  refine dnew_any.mono ?_
  rintro e w1 ⟨rfl, hd1, b1⟩
  have D1 : Hid (DocAt w1 w.heap.size 0 1 [rootR] [Tn.root]) := hd1
  clear hd1
  go_wp2_with fail
  refine (apply_al1 D1.out).mono ?_
  rintro e w2 ⟨g2, c2, rs2, rfl, D2, b2⟩
  have B2 : Hid (Below w.heap.size w w2) := b1.trans (b2.mono b1.size)
  clear b1 b2
  go_wp2_with fail
  refine (apply_al2 D2.out).mono ?_
  rintro e w3 ⟨g, c, rs, rfl, D3, b3⟩
  have B3 : Hid (Below w.heap.size w w3) := B2.out.trans (b3.mono B2.out.size)
  clear b3 D1 D2 B2
  have hok := build_okd [al1, al2]
  have hl : rs.length = 2 := D3.out.len.trans al_len
  have F0 : Hid (∀ W, DocAt W g 0 c rs (Tn.build [al1, al2]) → Calls Try.prog 37 #[.slice (some ⟨g, 0, none⟩) rs.length c, .int .i64 1, .string ⟨#[105, 100]⟩] W fun e w' => e = .returned (.tuple #[.string ⟨#[120]⟩, .bool true]) ∧ DocAt w' g 0 c rs (Tn.build [al1, al2]) ∧ Below W.heap.size W w') := fun W h => ((dattr_all h hok 1 ⟨#[105, 100]⟩).mono fun e w' ⟨a, b⟩ => ⟨by rw [a, al_val, al_attrN]; rfl, h.keeps (keeps_below b (Nat.le_refl _)), b⟩)
  have F1 : Hid (∀ W, DocAt W g 0 c rs (Tn.build [al1, al2]) → Calls Try.prog 30 #[.slice (some ⟨g, 0, none⟩) rs.length c, .int .i64 0, .string ⟨#[120]⟩] W fun e w' => e = .returned (.int .i64 1) ∧ DocAt w' g 0 c rs (Tn.build [al1, al2]) ∧ Below W.heap.size W w') := fun W h => ((dfind_any h hok.tame hok.small hok.root hok.rise hok.few 0 ⟨#[120]⟩).mono fun e w' ⟨a, b⟩ => ⟨by rw [a, al_find], h.keeps (keeps_below b (Nat.le_refl _)), b⟩)
  have F2 : Hid (∀ W, DocAt W g 0 c rs (Tn.build [al1, al2]) → Calls Try.prog 28 #[.slice (some ⟨g, 0, none⟩) rs.length c, .int .i64 1, .int .i64 0] W fun e w' => e = .returned (.bool true) ∧ DocAt w' g 0 c rs (Tn.build [al1, al2]) ∧ Below W.heap.size W w') := fun W h => ((dwithin_any h hok.tame 1 0).mono fun e w' ⟨a, b⟩ => ⟨by rw [a, al_within], h.keeps (keeps_below b (Nat.le_refl _)), b⟩)
  have F3 : Hid (∀ W, DocAt W g 0 c rs (Tn.build [al1, al2]) → Calls Try.prog 39 #[.slice (some ⟨g, 0, none⟩) rs.length c, .int .i64 1] W fun e w' => e = .returned (.int .i64 1) ∧ DocAt w' g 0 c rs (Tn.build [al1, al2]) ∧ Below W.heap.size W w') := fun W h => ((ddeep_any h hok.tame 1).mono fun e w' ⟨a, b⟩ => ⟨by rw [a, al_deep]; rfl, h.keeps (keeps_below b (Nat.le_refl _)), b⟩)
  have F4 : Hid (∀ W, DocAt W g 0 c rs (Tn.build [al1, al2]) → Calls Try.prog 26 #[.slice (some ⟨g, 0, none⟩) rs.length c, .int .i64 1, .bool true] W fun e w' => e = .returned (.bool true) ∧ DocAt w' g 0 c rs (Tn.build [al1, al2]) ∧ Below W.heap.size W w') := fun W h => ((dis_any h 1 true).mono fun e w' ⟨a, b⟩ => ⟨by rw [a, al_is], by rw [b]; exact h, by rw [b]; exact Below.refl _ _⟩)
  have F5 : Hid (∀ W, DocAt W g 0 c rs (Tn.build [al1, al2]) → Calls Try.prog 32 #[.slice (some ⟨g, 0, none⟩) rs.length c, .int .i64 1] W fun e w' => e = .returned (.int .i64 0) ∧ DocAt w' g 0 c rs (Tn.build [al1, al2]) ∧ Below W.heap.size W w') := fun W h => ((dscope_any h hok.tame 1).mono fun e w' ⟨a, b⟩ => ⟨by rw [a, al_scope], h.keeps (keeps_below b (Nat.le_refl _)), b⟩)
  have FA : Hid (∀ W, DocAt W g 0 c rs (Tn.build [al1, al2]) → Calls Try.prog 35 #[.slice (some ⟨g, 0, none⟩) rs.length c, .int .i64 0] W fun e w' => (∃ p c', e = .returned (.slice p 2 c')) ∧ DocAt w' g 0 c rs (Tn.build [al1, al2]) ∧ Below W.heap.size W w') := fun W h => (dall_any h hok.tame hok.small 0 hok.root).mono fun e w' ⟨v, a, o, b⟩ => by
    rw [al_all] at o
    obtain ⟨p, c', rfl⟩ := o.shape
    exact ⟨⟨p, c', a⟩, h.keeps (keeps_below b (Nat.le_refl _)), b⟩
  clear hok
  generalize Tn.build [al1, al2] = d at *
  rw [hl] at F0 F1 F2 F3 F4 F5 FA ⊢
  clear hl
  go_wp2_with fail
  refine (F0.out w3 D3.out).mono ?_
  rintro e w4 ⟨rfl, hd4, b4⟩
  have D4 : Hid (DocAt w4 g 0 c rs d) := hd4
  have B4 : Hid (Below w.heap.size w w4) := B3.out.trans (b4.mono B3.out.size)
  clear hd4 b4
  go_wp2_with fail
  refine (F1.out w4 D4.out).mono ?_
  rintro e w5 ⟨rfl, hd5, b5⟩
  have D5 : Hid (DocAt w5 g 0 c rs d) := hd5
  have B5 : Hid (Below w.heap.size w w5) := B4.out.trans (b5.mono B4.out.size)
  clear hd5 b5
  go_wp2_with fail
  refine (F2.out w5 D5.out).mono ?_
  rintro e w6 ⟨rfl, hd6, b6⟩
  have D6 : Hid (DocAt w6 g 0 c rs d) := hd6
  have B6 : Hid (Below w.heap.size w w6) := B5.out.trans (b6.mono B5.out.size)
  clear hd6 b6
  go_wp2_with fail
  refine (F3.out w6 D6.out).mono ?_
  rintro e w7 ⟨rfl, hd7, b7⟩
  have D7 : Hid (DocAt w7 g 0 c rs d) := hd7
  have B7 : Hid (Below w.heap.size w w7) := B6.out.trans (b7.mono B6.out.size)
  clear hd7 b7
  go_wp2_with fail
  refine (FA.out w7 D7.out).mono ?_
  rintro e w8 ⟨⟨p, c', rfl⟩, hd8, b8⟩
  have D8 : Hid (DocAt w8 g 0 c rs d) := hd8
  have B8 : Hid (Below w.heap.size w w8) := B7.out.trans (b8.mono B7.out.size)
  clear hd8 b8
  go_wp2_with fail
  refine (F4.out w8 D8.out).mono ?_
  rintro e w9 ⟨rfl, hd9, b9⟩
  have D9 : Hid (DocAt w9 g 0 c rs d) := hd9
  have B9 : Hid (Below w.heap.size w w9) := B8.out.trans (b9.mono B8.out.size)
  clear hd9 b9
  go_wp2_with fail
  refine (F5.out w9 D9.out).mono ?_
  rintro e wa ⟨rfl, hda, ba⟩
  have Da : Hid (DocAt wa g 0 c rs d) := hda
  have Ba : Hid (Below w.heap.size w wa) := B9.out.trans (ba.mono B9.out.size)
  clear hda ba
  go_wp2_with fail
  go_ret
  exact ⟨rfl, Ba.out⟩
end Go.Proofs.Ytookcjdibpccpaa

/-
  THE WALK of tnlaw2.DomMade.
-/
namespace Go.Proofs.Ytookcjdibpccpaa
open Go.RowKit

set_option maxHeartbeats 400000 in
set_option maxRecDepth 100000 in
/-- a change of a node that is not there -/
theorem dapply_none {w : World} {b o c : Nat} {rs : List Raw} {d : Tn.Dc} (hd : DocAt w b o c rs d) (kd nn tt bf : Int) (nm vl : ByteArray) (hk1 : 1 ≤ kd) (hk2 : kd ≤ 10) (hi : Tn.isN d nn false = false) :
    Calls Try.prog 41 #[.slice (some ⟨b, o, none⟩) rs.length c, chg6 ⟨kd, nn, tt, bf, nm, vl⟩] w fun e w' => e = .returned (.tuple #[.slice none 0 0, .int .i64 0, .int .i64 6]) ∧ Below w.heap.size w w' := by
  have B1 : Below w.heap.size w (w.alloc (.cells #[.int .i64 kd, .int .i64 nn, .int .i64 tt, .int .i64 bf, .string nm, .string vl] 32)) := (Below.refl _ _).alloc (Nat.le_refl _) _
  have HD : Hid (DocAt (w.alloc (.cells #[.int .i64 kd, .int .i64 nn, .int .i64 tt, .int .i64 bf, .string nm, .string vl] 32)) b o c rs d) := hd.keeps (keeps_below B1 (Nat.le_refl _))
  clear hd
  unfold chg6
  simp only
  go_enter Try.func41, Try.ntmps41
  go_wp2_with fail
  refine (dis_any HD.out nn false).mono ?_
  rintro e w1 ⟨rfl, hw1⟩
  subst hw1
  rw [hi]
  go_wp2_with fail
  go_ret3
  exact ⟨rfl, B1⟩

theorem chgs_keeps {w w' : World} {v : Value} {l : List Tn.Chg} (h : ChgsAt w v l) (k : Keeps w w') : ChgsAt w' v l := by
  obtain ⟨p, c, e, h1, h2, h4⟩ := h
  refine ⟨p, c, e, h1, h2, fun j x hx => ?_⟩
  obtain ⟨b, o, e1, e2⟩ := h4 j x hx
  exact ⟨b, o, e1, k _ _ e2⟩

variable {d : Tn.Dc} {x : Tn.Chg} {m : Nat} {b : Int}

theorem made_path (h : Tn.Good d) (hk : x.kind = 1 ∨ x.kind = 2) (hm : Tn.lvD d m = true) : (Tn.pathOf (putDoc (addIn d x) (Tn.free d) m b false) (Tn.free d : Int)).length - 1 = (Tn.pathOf d (m : Int)).length ∧ Tn.within (putDoc (addIn d x) (Tn.free d) m b false) (Tn.free d : Int) (m : Int) = true := by
  obtain ⟨r, hr, hR⟩ := h.tr
  obtain ⟨hf1, hf2⟩ := Tn.free_spec d
  have hf0 : Tn.free d ≠ 0 := fun e => by rw [e, hr.1.root] at hf2; cases hf2
  have hmk : m ≠ Tn.free d := fun e => by rw [e, hf2] at hm; cases hm
  have hT := make_TrD (x := x) (b := b) h hr hk hm
  have hu0 : (Tn.nd (putDoc (addIn d x) (Tn.free d) m b false) 0).up = -1 := by
    rw [make_nd h hk hm]
    by_cases e : 0 = m
    · rw [if_pos e]
      show (Tn.nd d m).up = -1
      rw [← e]
      exact h.rootUp
    · rw [if_neg e, if_neg (fun e2 => hf0 e2.symm)]
      exact h.rootUp
  have hlv := make_lv (x := x) (b := b) h hk hm
  have hnk : Tn.nd (putDoc (addIn d x) (Tn.free d) m b false) (Tn.free d) = { newNd x with up := (m : Int), inS := false } := by
    rw [make_nd h hk hm, if_neg (fun e => hmk e.symm), if_pos rfl]
  refine ⟨?_, ?_⟩
  · rw [Tn.pathOf_len hT hlv hu0, Tn.pathOf_len hr hm h.rootUp, if_pos rfl]
    rfl
  · have hlen := make_len (x := x) (b := b) h hk hm
    have hml := Tn.lv_lt hm
    unfold Tn.within Tn.pathOf
    rw [path_succ_yes _ _ _ (by rw [Tn.isN_iff]; exact hlv), hnk]
    obtain ⟨L, hL⟩ : ∃ L, (putDoc (addIn d x) (Tn.free d) m b false).length = L + 1 := ⟨(putDoc (addIn d x) (Tn.free d) m b false).length - 1, by omega⟩
    rw [hL]
    show (Tn.free d :: Tn.path (L + 1) _ (m : Int)).any _ = true
    rw [path_succ_yes _ _ _ (by
      rw [Tn.isN_iff]
      unfold Tn.lvD
      rw [make_nd h hk hm, if_pos rfl]
      exact hm)]
    simp

theorem apply_make {W : World} {g o c : Nat} {rs : List Raw} {d : Tn.Dc} (hd : DocAt W g o c rs d) (h : Tn.Good d) (kd n tt bf : Int) (nm vl : ByteArray) (hkd : kd = 1 ∨ kd = 2) (hnm : nm.size ≤ 4194304) (hvl : vl.size ≤ 4194304) :
    Calls Try.prog 41 #[.slice (some ⟨g, o, none⟩) rs.length c, .agg #[.int .i64 kd, .int .i64 n, .int .i64 tt, .int .i64 bf, .string nm, .string vl]] W fun e w' => Below W.heap.size W w' ∧ ((∃ cd : Int, (cd != 0) = true ∧ e = .returned (.tuple #[.slice none 0 0, .int .i64 0, .int .i64 cd])) ∨
      ∃ (m g' c' : Nat) (rs' : List Raw), n = (m : Int) ∧ Tn.lvD d m = true ∧ e = .returned (.tuple #[.slice (some ⟨g', 0, none⟩) rs'.length c', .int .i64 (Tn.free d : Int), .int .i64 0]) ∧ DocAt w' g' 0 c' rs' (putDoc (addIn d ⟨kd, (m : Int), tt, bf, nm, vl⟩) (Tn.free d) m bf false)) := by
  cases hi : Tn.isN d n false with
  | false =>
    refine (dapply_none hd kd n tt bf nm vl (by omega) (by omega) hi).mono ?_
    rintro e w' ⟨e1, e2⟩
    exact ⟨e2, Or.inl ⟨6, by decide, e1⟩⟩
  | true =>
    obtain ⟨m, rfl, hml, hlv⟩ := isN_nat hi
    have hm : Tn.lvD d m = true := hlv
    have hlen := h.len
    have hl := hd.len
    refine (dapply_chs hd (by omega) (by omega) (fun j s => ?_) (fun k => ?_) kd (m : Int) tt bf nm vl (by omega) (by omega) hi (chs_make h hm kd tt bf nm vl hkd hnm hvl) (fun _ => ?_)).mono ?_
    · have := h.small j s
      omega
    · have := h.attrs k
      omega
    · obtain ⟨r, hr, _⟩ := h.tr
      exact (make_TrD (x := ⟨kd, (m : Int), tt, bf, nm, vl⟩) (b := bf) h hr hkd hm).1.root
    · rintro e w' ⟨v, e1, e2, ⟨e3, e4⟩ | ⟨_, g', c', rs', e3, e4, _⟩⟩
      · exact ⟨e2, Or.inl ⟨_, by simpa using e3, by rw [e1, e4]⟩⟩
      · rw [make_last h hkd hm] at e4
        exact ⟨e2, Or.inr ⟨m, g', c', rs', rfl, hm, by rw [e1, e3], e4⟩⟩

theorem apply_unmake {W : World} {g o c : Nat} {rs : List Raw} {d : Tn.Dc} {x : Tn.Chg} {m : Nat} {b : Int} (hd : DocAt W g o c rs (putDoc (addIn d x) (Tn.free d) m b false)) (h : Tn.Good d) (hm : Tn.lvD d m = true) (hkd : x.kind = 1 ∨ x.kind = 2) :
    Calls Try.prog 41 #[.slice (some ⟨g, o, none⟩) rs.length c, .agg #[.int .i64 4, .int .i64 (Tn.free d : Int), .int .i64 0, .int .i64 0, .string ⟨#[]⟩, .string ⟨#[]⟩]] W fun e w' => Below W.heap.size W w' ∧ ∃ (g' c' : Nat) (rs' : List Raw), e = .returned (.tuple #[.slice (some ⟨g', 0, none⟩) rs'.length c', .int .i64 (Tn.free d : Int), .int .i64 0]) ∧ DocAt w' g' 0 c' rs' d := by
  have hlen := make_len (x := x) (b := b) h hkd hm
  have h60 := h.len
  have hf := (Tn.free_spec d).1
  have hl := hd.len
  refine (dapply_chs hd (by omega) (by omega) (fun j s => ?_) (fun k => ?_) 4 (Tn.free d : Int) 0 0 ⟨#[]⟩ ⟨#[]⟩ (by omega) (by omega) (by rw [Tn.isN_iff]; exact make_lv h hkd hm) (chs_unmake h hm hkd 0 0 ⟨#[]⟩ ⟨#[]⟩) (fun _ => ?_)).mono ?_
  · have := make_li (x := x) (b := b) h hkd hm j s
    omega
  · rw [make_nd h hkd hm]
    split
    · have := h.attrs m
      show (Tn.nd d m).attrs.length ≤ 1000
      omega
    · split
      · unfold newNd
        split <;> simp [Tn.zero]
      · have := h.attrs k
        omega
  · obtain ⟨r, hr, _⟩ := h.tr
    obtain ⟨hf1, hf2⟩ := Tn.free_spec d
    have hf0 : Tn.free d ≠ 0 := fun e => by rw [e, hr.1.root] at hf2; cases hf2
    rw [taken_all h hkd hm]
    unfold Tn.lvD
    show (Tn.nd (List.set _ (Tn.free d) Tn.zero) 0).live = true
    rw [nd_setL _ _ _ (by rw [taken_len h hkd hm]; omega), if_neg (fun e => hf0 e.symm), taken_nd h hkd hm, if_neg (fun e => hf0 e.symm)]
    exact hr.1.root
  · rintro e w' ⟨v, e1, e2, ⟨e3, e4⟩ | ⟨_, g', c', rs', e3, e4, _⟩⟩
    · exact absurd rfl e3
    · rw [unmade h hkd hm] at e4
      exact ⟨e2, g', c', rs', by rw [e1, e3], e4⟩

end Go.Proofs.Ytookcjdibpccpaa

/-
  dom.Apply at any good document: what the reference makes.
-/
namespace Go.Proofs.Ytookcjdibpccpaa
open Go.RowKit

set_option maxHeartbeats 400000 in
set_option maxRecDepth 100000 in
/-- a kind that there is not -/
theorem dapply_kind {w : World} {v : Value} (kd nn tt bf : Int) (nm vl : ByteArray) (hk : kd < 1 ∨ 10 < kd) :
    Calls Try.prog 41 #[v, chg6 ⟨kd, nn, tt, bf, nm, vl⟩] w fun e w' => e = .returned (.tuple #[.slice none 0 0, .int .i64 0, .int .i64 1]) ∧ Below w.heap.size w w' := by
  have B1 : Below w.heap.size w (w.alloc (.cells #[.int .i64 kd, .int .i64 nn, .int .i64 tt, .int .i64 bf, .string nm, .string vl] 32)) := (Below.refl _ _).alloc (Nat.le_refl _) _
  unfold chg6
  simp only
  by_cases h1 : kd < 1
  · go_enter Try.func41, Try.ntmps41
    go_wp2_with fail
    go_ret3
    exact ⟨rfl, B1⟩
  · have h2 : 10 < kd := by omega
    go_enter Try.func41, Try.ntmps41
    go_wp2_with fail
    go_ret3
    exact ⟨rfl, B1⟩

theorem dapply_any {w : World} {b o c : Nat} {rs : List Raw} {d : Tn.Dc} (hd : DocAt w b o c rs d) (hF : Fine2 d) (kd nn tt bf : Int) (nm vl : ByteArray) (hnm : nm.size ≤ 4194304) (hvl : vl.size ≤ 4194304) :
    Calls Try.prog 41 #[.slice (some ⟨b, o, none⟩) rs.length c, chg6 ⟨kd, nn, tt, bf, nm, vl⟩] w fun e w' => Below w.heap.size w w' ∧
      ((Tn.applyE d ⟨kd, nn, tt, bf, nm, vl⟩ ≠ 0 ∧ e = .returned (.tuple #[.slice none 0 0, .int .i64 0, .int .i64 (Tn.applyE d ⟨kd, nn, tt, bf, nm, vl⟩)])) ∨
      (Tn.applyE d ⟨kd, nn, tt, bf, nm, vl⟩ = 0 ∧ ∃ (g' c' : Nat) (rs' : List Raw), e = .returned (.tuple #[.slice (some ⟨g', 0, none⟩) rs'.length c', .int .i64 (Tn.chgN d ⟨kd, nn, tt, bf, nm, vl⟩), .int .i64 0]) ∧ DocAt w' g' 0 c' rs' (Tn.applyD d ⟨kd, nn, tt, bf, nm, vl⟩) ∧ 0 < rs'.length)) := by
  by_cases hk : kd < 1 ∨ 10 < kd
  · have E : Tn.applyE d ⟨kd, nn, tt, bf, nm, vl⟩ = 1 := by unfold Tn.applyE; exact if_pos hk
    refine (dapply_kind kd nn tt bf nm vl hk).mono ?_
    rintro e w' ⟨e1, e2⟩
    exact ⟨e2, Or.inl ⟨by rw [E]; decide, by rw [E, e1]⟩⟩
  · cases hi : Tn.isN d nn false with
    | false =>
      have E : Tn.applyE d ⟨kd, nn, tt, bf, nm, vl⟩ = 6 := by unfold Tn.applyE; rw [if_neg hk]; exact if_pos hi
      refine (dapply_none hd kd nn tt bf nm vl (by omega) (by omega) hi).mono ?_
      rintro e w' ⟨e1, e2⟩
      exact ⟨e2, Or.inl ⟨by rw [E]; decide, by rw [E, e1]⟩⟩
    | true =>
      obtain ⟨m, rfl, hml, hlv⟩ := isN_nat hi
      have hm : Tn.lvD d m = true := hlv
      have h := hF.good
      have hlen := h.len
      have hl := hd.len
      have E : Tn.applyE d ⟨kd, (m : Int), tt, bf, nm, vl⟩ = Tn.chgE d ⟨kd, (m : Int), tt, bf, nm, vl⟩ := by
        unfold Tn.applyE
        rw [if_neg hk]
        exact if_neg (by rw [hi]; simp)
      refine (dapply_chs hd (by omega) (by omega) (fun j s => ?_) (fun k => ?_) kd (m : Int) tt bf nm vl (by omega) (by omega) hi (chs_full hF kd tt bf nm vl (by omega) (by omega) hnm hvl hm) (fun h0 => ?_)).mono ?_
      · have := h.small j s
        omega
      · have := h.attrs k
        omega
      · obtain ⟨r, hr, _⟩ := (chg_mid h ⟨kd, (m : Int), tt, bf, nm, vl⟩ hi h0).tr
        exact hr.1.root
      · rintro e w' ⟨v, e1, e2, ⟨e3, e4⟩ | ⟨e0, g', c', rs', e3, e4, e5⟩⟩
        · exact ⟨e2, Or.inl ⟨by rw [E]; exact e3, by rw [E, e1, e4]⟩⟩
        · exact ⟨e2, Or.inr ⟨by rw [E]; exact e0, g', c', rs', by rw [e1, e3], e4, e5⟩⟩

theorem fine_step {d : Tn.Dc} (h : Fine2 d) (x : Tn.Chg) : Fine2 (Tn.step d x) := ⟨good_step h.good x, step_stays (fit_stays x) h.good h.fit⟩
theorem fine_apply {d : Tn.Dc} (h : Fine2 d) (x : Tn.Chg) (he : Tn.applyE d x = 0) : Fine2 (Tn.applyD d x) := by
  have := fine_step h x
  unfold Tn.step at this
  rw [if_pos he] at this
  exact this
theorem fine_build (l : List Tn.Chg) : Fine2 (Tn.build l) := ⟨build_good l, build_fit l⟩
end Go.Proofs.Ytookcjdibpccpaa

/-
  THE WALK of tnlaw2.DomTells.
-/
namespace Go.Proofs.Ytookcjdibpccpaa
open Go.RowKit

theorem Fine2.fine {d : Tn.Dc} (h : Fine2 d) : Fine d := ⟨h.good, h.fit⟩

/-- all below a node, or nothing -/
def allN (d : Tn.Dc) (n : Int) : List Nat := if Tn.isN d n false then Tn.all Tn.fuel d n.toNat else []

theorem dall_N {w : World} {b o c : Nat} {rs : List Raw} {d : Tn.Dc} (hd : DocAt w b o c rs d) (hF : Fine2 d) (n : Int) :
    Calls Try.prog 35 #[.slice (some ⟨b, o, none⟩) rs.length c, .int .i64 n] w fun e w' => ∃ v, e = .returned v ∧ OwnI w' w.heap.size v (allN d n) ∧ Below w.heap.size w w' := by
  unfold allN
  cases hi : Tn.isN d n false with
  | true =>
    obtain ⟨k, rfl, _, hlv⟩ := isN_nat hi
    rw [if_pos rfl, Int.toNat_natCast]
    exact dall_any hd (tame_good hF.good) (fun j s => by have := hF.good.small j s; omega) k hlv
  | false =>
    rw [if_neg (by simp)]
    refine (dall_no hd n hi).mono ?_
    rintro e w' ⟨e1, e2⟩
    exact ⟨_, e1, OwnI.nil _ _, e2⟩
theorem rall_N {w : World} {b o c : Nat} {rs : List Raw} {d : Tn.Dc} (hd : DocAt w b o c rs d) (hF : Fine2 d) (n : Int) :
    Calls Try.prog 36 #[.slice (some ⟨b, o, none⟩) rs.length c, .int .i64 n] w fun e w' => ∃ v, e = .returned v ∧ OwnI w' w.heap.size v (allN d n) ∧ Below w.heap.size w w' := by
  unfold allN
  cases hi : Tn.isN d n false with
  | true =>
    obtain ⟨k, rfl, _, hlv⟩ := isN_nat hi
    rw [if_pos rfl, Int.toNat_natCast]
    exact rall_own (fun f n => few_of hF.good f n) Tn.fuel k w hd ((tame_good hF.good).ends k hlv)
  | false =>
    rw [if_neg (by simp)]
    refine (rall_no hd n hi).mono ?_
    rintro e w' ⟨e1, e2⟩
    exact ⟨_, e1, OwnI.nil _ _, by rw [e2]; exact Below.refl _ _⟩

theorem rapply_fine {w : World} {b o c : Nat} {rs : List Raw} {d : Tn.Dc} (hd : DocAt w b o c rs d) (hF : Fine2 d) (x : Tn.Chg) (hv : x.value.size ≤ 4194304) (hnm : x.name.size ≤ 4194304) :
    Calls Try.prog 42 #[.slice (some ⟨b, o, none⟩) rs.length c, chv x] w fun e w' => ApPost w w' e d x := by
  have h := hF.good
  have hl := hd.len
  have hlen := h.len
  exact rapply_any hd (by omega) (by omega) x hv hnm (fun k hk hi => good_ok h x k hk hi) (fun hi he => (chg_mid h x hi he).len.1)

theorem chgs_nil (w : World) : ChgsAt w (.slice none 0 0) [] := by
  refine ⟨none, 0, rfl, by simp, by decide, fun j x hx => by simp at hx⟩

set_option maxHeartbeats 3200000 in
set_option maxRecDepth 100000 in
theorem tellsD_walk {w : World} {vl : Value} {l : List Tn.Chg} (hl : ChgsAt w vl l) (hsz : ∀ x ∈ l, x.value.size ≤ 4194304 ∧ x.name.size ≤ 4194304) (kd nn tt bf : Int) (nm vv : ByteArray) (hnm : nm.size ≤ 4194304) (hvv : vv.size ≤ 4194304) (n inn : Int) (s : ByteArray) :
    Calls Try.prog 6 #[vl, .agg #[.int .i64 kd, .int .i64 nn, .int .i64 tt, .int .i64 bf, .string nm, .string vv], .int .i64 n, .int .i64 inn, .string s] w fun e w' => e = .returned (.bool true) ∧ Below w.heap.size w w' := by
  have HB0 : Hid (∀ W, Keeps w W → Calls Try.prog 22 #[vl] W fun e w' => ∃ (g c : Nat) (rs : List Raw), e = .returned (.slice (some ⟨g, 0, none⟩) rs.length c) ∧ DocAt w' g 0 c rs (Tn.build l) ∧ Below W.heap.size W w') := fun W hk => rbuild_good (chgs_keeps hl hk) hsz
  have hF := fine_build l
  obtain ⟨p, cc, rfl, _⟩ := hl
  clear hsz
  generalize Tn.build l = d at *
  have hf := hF.fine
  have hO := hf.okd
  have hG := hF.good
  have hL : Hid (d.length ≤ 1000) := by have := hG.len; show _ ≤ _; omega
  have HN : Hid (∀ W : World, Calls Try.prog 22 #[.slice none 0 0] W fun e w' => ∃ (g c : Nat) (rs : List Raw), e = .returned (.slice (some ⟨g, 0, none⟩) rs.length c) ∧ DocAt w' g 0 c rs [Tn.root] ∧ Below W.heap.size W w') := fun W => rbuild_good (chgs_nil W) (fun x hx => by simp at hx)
  have HO : Hid (∀ (W : World) (g c : Nat) (rs : List Raw), DocAt W g 0 c rs d → Calls Try.prog 25 #[.slice (some ⟨g, 0, none⟩) rs.length c] W fun e w' => ∃ (g' c' : Nat) (rs' : List Raw), e = .returned (.slice (some ⟨g', 0, none⟩) rs'.length c') ∧ DocAt w' g' 0 c' rs' d ∧ Below W.heap.size W w') := by
    intro W g c rs h
    have hl := h.len
    have h0 := hG.len
    refine (down_any h (by omega) (by omega) hO.small hO.few).mono ?_
    rintro e w' ⟨g', c', rs', e1, e2, e3⟩
    exact ⟨g', c', rs', e1, e2.owned.doc (by have := e2.owned.len; omega), e3⟩
  have A1 : Hid (∀ (W : World) (g c : Nat) (rs : List Raw), DocAt W g 0 c rs d → Calls Try.prog 28 #[.slice (some ⟨g, 0, none⟩) rs.length c, .int .i64 n, .int .i64 inn] W fun e w' => e = .returned (.bool (Tn.within d n inn)) ∧ Below W.heap.size W w') := fun W g c rs h => dwithin_any h hO.tame n inn
  have A2 : Hid (∀ (W : World) (g c : Nat) (rs : List Raw), DocAt W g 0 c rs d → Calls Try.prog 29 #[.slice (some ⟨g, 0, none⟩) rs.length c, .int .i64 n, .int .i64 inn] W fun e w' => e = .returned (.bool (Tn.within d n inn)) ∧ Below W.heap.size W w') := fun W g c rs h => rwithin_any h (by have := h.len; have := hG.len; omega) n inn
  have A3 : Hid (∀ (W : World) (g c : Nat) (rs : List Raw), DocAt W g 0 c rs d → Calls Try.prog 30 #[.slice (some ⟨g, 0, none⟩) rs.length c, .int .i64 n, .string s] W fun e w' => e = .returned (.int .i64 (findD d n s)) ∧ Below W.heap.size W w') := fun W g c rs h => dfind_any h hO.tame hO.small hO.root hO.rise hO.few n s
  have A4 : Hid (∀ (W : World) (g c : Nat) (rs : List Raw), DocAt W g 0 c rs d → Calls Try.prog 31 #[.slice (some ⟨g, 0, none⟩) rs.length c, .int .i64 n, .string s] W fun e w' => e = .returned (.int .i64 (findD d n s)) ∧ Below W.heap.size W w') := fun W g c rs h => rfind_any h hf n s
  have A5 : Hid (∀ (W : World) (g c : Nat) (rs : List Raw), DocAt W g 0 c rs d → Calls Try.prog 32 #[.slice (some ⟨g, 0, none⟩) rs.length c, .int .i64 n] W fun e w' => e = .returned (.int .i64 (scopeD d n)) ∧ Below W.heap.size W w') := fun W g c rs h => dscope_any h hO.tame n
  have A6 : Hid (∀ (W : World) (g c : Nat) (rs : List Raw), DocAt W g 0 c rs d → Calls Try.prog 33 #[.slice (some ⟨g, 0, none⟩) rs.length c, .int .i64 n] W fun e w' => e = .returned (.int .i64 (scopeD d n)) ∧ Below W.heap.size W w') := fun W g c rs h => rscope_any h hf n
  have A7 : Hid (∀ (W : World) (g c : Nat) (rs : List Raw), DocAt W g 0 c rs d → Calls Try.prog 35 #[.slice (some ⟨g, 0, none⟩) rs.length c, .int .i64 n] W fun e w' => ∃ v, e = .returned v ∧ OwnI w' W.heap.size v (allN d n) ∧ Below W.heap.size W w') := fun W g c rs h => dall_N h hF n
  have A8 : Hid (∀ (W : World) (g c : Nat) (rs : List Raw), DocAt W g 0 c rs d → Calls Try.prog 36 #[.slice (some ⟨g, 0, none⟩) rs.length c, .int .i64 n] W fun e w' => ∃ v, e = .returned v ∧ OwnI w' W.heap.size v (allN d n) ∧ Below W.heap.size W w') := fun W g c rs h => rall_N h hF n
  have A9 : Hid (∀ (W : World) (g c : Nat) (rs : List Raw), DocAt W g 0 c rs d → Calls Try.prog 37 #[.slice (some ⟨g, 0, none⟩) rs.length c, .int .i64 n, .string s] W fun e w' => e = .returned (.tuple #[.string (valN d n s), .bool (attrN d n s).isSome]) ∧ Below W.heap.size W w') := fun W g c rs h => dattr_all h hO n s
  have Aa : Hid (∀ (W : World) (g c : Nat) (rs : List Raw), DocAt W g 0 c rs d → Calls Try.prog 38 #[.slice (some ⟨g, 0, none⟩) rs.length c, .int .i64 n, .string s] W fun e w' => e = .returned (.tuple #[.string (valN d n s), .bool (attrN d n s).isSome]) ∧ Below W.heap.size W w') := fun W g c rs h => rattr_all h n s
  have Ab : Hid (∀ (W : World) (g c : Nat) (rs : List Raw), DocAt W g 0 c rs d → Calls Try.prog 39 #[.slice (some ⟨g, 0, none⟩) rs.length c, .int .i64 n] W fun e w' => e = .returned (.int .i64 (((Tn.pathOf d n).length - 1 : Nat) : Int)) ∧ Below W.heap.size W w') := fun W g c rs h => ddeep_any h hO.tame n
  have Ac : Hid (∀ (W : World) (g c : Nat) (rs : List Raw), DocAt W g 0 c rs d → Calls Try.prog 40 #[.slice (some ⟨g, 0, none⟩) rs.length c, .int .i64 n] W fun e w' => ∃ v, e = .returned v ∧ OwnI w' W.heap.size v (Tn.pathOf d n) ∧ Below W.heap.size W w') := fun W g c rs h => rpath_own h (by have := h.len; have := hG.len; omega) n
  have Ad : Hid (∀ (W : World) (g c : Nat) (rs : List Raw), DocAt W g 0 c rs d → Calls Try.prog 41 #[.slice (some ⟨g, 0, none⟩) rs.length c, .agg #[.int .i64 kd, .int .i64 nn, .int .i64 tt, .int .i64 bf, .string nm, .string vv]] W fun e w' => Below W.heap.size W w' ∧ ((Tn.applyE d ⟨kd, nn, tt, bf, nm, vv⟩ ≠ 0 ∧ e = .returned (.tuple #[.slice none 0 0, .int .i64 0, .int .i64 (Tn.applyE d ⟨kd, nn, tt, bf, nm, vv⟩)])) ∨ (Tn.applyE d ⟨kd, nn, tt, bf, nm, vv⟩ = 0 ∧ ∃ (g' c' : Nat) (rs' : List Raw), e = .returned (.tuple #[.slice (some ⟨g', 0, none⟩) rs'.length c', .int .i64 (Tn.chgN d ⟨kd, nn, tt, bf, nm, vv⟩), .int .i64 0]) ∧ DocAt w' g' 0 c' rs' (Tn.applyD d ⟨kd, nn, tt, bf, nm, vv⟩) ∧ 0 < rs'.length))) := fun W g c rs h => dapply_any h hF kd nn tt bf nm vv hnm hvv
  have Ae : Hid (∀ (W : World) (g c : Nat) (rs : List Raw), DocAt W g 0 c rs d → Calls Try.prog 42 #[.slice (some ⟨g, 0, none⟩) rs.length c, .agg #[.int .i64 kd, .int .i64 nn, .int .i64 tt, .int .i64 bf, .string nm, .string vv]] W fun e w' => ApPost W w' e d ⟨kd, nn, tt, bf, nm, vv⟩) := fun W g c rs h => rapply_fine h hF ⟨kd, nn, tt, bf, nm, vv⟩ hvv hnm
  have HYL : Hid (Tn.applyE d ⟨kd, nn, tt, bf, nm, vv⟩ = 0 → (Tn.applyD d ⟨kd, nn, tt, bf, nm, vv⟩).length ≤ 1000) := fun h0 => by have := (fine_apply hF _ h0).good.len; omega
  have HPL : Hid (Tn.isN d n false = true → ∃ p : Nat, (Tn.pathOf d n).length = p + 1 ∧ p ≤ 1000) := by
    intro hi
    obtain ⟨k, rfl, _, hlv⟩ := isN_nat hi
    obtain ⟨r, hr, hR⟩ := hG.tr
    exact ⟨r k, Tn.pathOf_len hr hlv hG.rootUp, by have := hR k hlv; omega⟩
  have HI1 : Hid (∀ (W : World) (g c : Nat) (rs : List Raw) (el : Bool), DocAt W g 0 c rs d → Calls Try.prog 26 #[.slice (some ⟨g, 0, none⟩) rs.length c, .int .i64 n, .bool el] W fun e w' => e = .returned (.bool (Tn.isN d n el)) ∧ w' = W) := fun W g c rs el h => dis_any h n el
  have HI2 : Hid (∀ (W : World) (g c : Nat) (rs : List Raw) (el : Bool), DocAt W g 0 c rs d → Calls Try.prog 27 #[.slice (some ⟨g, 0, none⟩) rs.length c, .int .i64 n, .bool el] W fun e w' => e = .returned (.bool (Tn.isN d n el)) ∧ w' = W) := fun W g c rs el h => ris_any h n el
  clear hf hO hG hF
  generalize Tn.within d n inn = bw at *
  generalize findD d n s = sf at *
  generalize scopeD d n = ss at *
  generalize allN d n = la at *
  generalize valN d n s = va at *
  generalize (attrN d n s).isSome = vb at *
  generalize Tn.pathOf d n = pa at *
  generalize hex : Tn.applyE d ⟨kd, nn, tt, bf, nm, vv⟩ = ex at *
  generalize hcn : Tn.chgN d ⟨kd, nn, tt, bf, nm, vv⟩ = cn at *
  generalize hyy : Tn.applyD d ⟨kd, nn, tt, bf, nm, vv⟩ = Y at *
  have HEX : Hid (Tn.applyE d ⟨kd, nn, tt, bf, nm, vv⟩ = ex) := hex
  have HCN : Hid (Tn.chgN d ⟨kd, nn, tt, bf, nm, vv⟩ = cn) := hcn
  have HYY : Hid (Tn.applyD d ⟨kd, nn, tt, bf, nm, vv⟩ = Y) := hyy
  clear hex hcn hyy
  have q1 : (sf == sf) = true := by simp
  have q2 : (ss == ss) = true := by simp
  have q3 : (va.toList == va.toList) = true := by simp
  have q4 : (bw == bw) = true := by simp
  have q5 : (vb == vb) = true := by simp
  have q6 : (ex == ex) = true := by simp
  have q7 : (cn == cn) = true := by simp
  go_enter Try.func6, Try.ntmps6
  go_wp2_with fail
  have BA : Hid (Below w.heap.size w (w.alloc (.cells #[.int .i64 kd, .int .i64 nn, .int .i64 tt, .int .i64 bf, .string nm, .string vv] 32))) := (Below.refl _ _).alloc (Nat.le_refl _) _
  have HK : Hid (Keeps w (w.alloc (.cells #[.int .i64 kd, .int .i64 nn, .int .i64 tt, .int .i64 bf, .string nm, .string vv] 32))) := keeps_alloc _ _
  have HX0 : Hid ((w.alloc (.cells #[.int .i64 kd, .int .i64 nn, .int .i64 tt, .int .i64 bf, .string nm, .string vv] 32)).cell? ⟨w.heap.size, 0, none⟩ = some (.int .i64 kd) ∧ (w.alloc (.cells #[.int .i64 kd, .int .i64 nn, .int .i64 tt, .int .i64 bf, .string nm, .string vv] 32)).cell? ⟨w.heap.size, 1, none⟩ = some (.int .i64 nn) ∧ (w.alloc (.cells #[.int .i64 kd, .int .i64 nn, .int .i64 tt, .int .i64 bf, .string nm, .string vv] 32)).cell? ⟨w.heap.size, 2, none⟩ = some (.int .i64 tt) ∧ (w.alloc (.cells #[.int .i64 kd, .int .i64 nn, .int .i64 tt, .int .i64 bf, .string nm, .string vv] 32)).cell? ⟨w.heap.size, 3, none⟩ = some (.int .i64 bf) ∧ (w.alloc (.cells #[.int .i64 kd, .int .i64 nn, .int .i64 tt, .int .i64 bf, .string nm, .string vv] 32)).cell? ⟨w.heap.size, 4, none⟩ = some (.string nm) ∧ (w.alloc (.cells #[.int .i64 kd, .int .i64 nn, .int .i64 tt, .int .i64 bf, .string nm, .string vv] 32)).cell? ⟨w.heap.size, 5, none⟩ = some (.string vv)) := by
    refine ⟨?_, ?_, ?_, ?_, ?_, ?_⟩ <;> (rw [World.cell?_alloc_new]; rfl)
  generalize w.alloc (.cells #[.int .i64 kd, .int .i64 nn, .int .i64 tt, .int .i64 bf, .string nm, .string vv] 32) = w0 at *
  have HX : Hid (∀ W, Below w0.heap.size w0 W → W.cell? ⟨w.heap.size, 0, none⟩ = some (.int .i64 kd) ∧ W.cell? ⟨w.heap.size, 1, none⟩ = some (.int .i64 nn) ∧ W.cell? ⟨w.heap.size, 2, none⟩ = some (.int .i64 tt) ∧ W.cell? ⟨w.heap.size, 3, none⟩ = some (.int .i64 bf) ∧ W.cell? ⟨w.heap.size, 4, none⟩ = some (.string nm) ∧ W.cell? ⟨w.heap.size, 5, none⟩ = some (.string vv)) := fun W hb => by
    have k := keeps_below hb (Nat.le_refl _)
    obtain ⟨x0, x1, x2, x3, x4, x5⟩ := HX0.out
    exact ⟨k _ _ x0, k _ _ x1, k _ _ x2, k _ _ x3, k _ _ x4, k _ _ x5⟩
  refine (HB0.out w0 HK.out).mono ?_
  rintro e w1 ⟨g, c, rs, rfl, hd1, b1⟩
  have D1 : Hid (DocAt w1 g 0 c rs d) := hd1
  have B1 : Hid (Below w0.heap.size w0 w1) := b1
  clear hd1 b1
  go_wp2_with fail
  refine dnew_any.mono ?_
  rintro e w2 ⟨rfl, hn2, b2⟩
  have N2 : Hid (DocAt w2 w1.heap.size 0 1 [rootR] [Tn.root]) := hn2
  have D2 : Hid (DocAt w2 g 0 c rs d) := D1.out.keeps (keeps_below b2 (Nat.le_refl _))
  have B2 : Hid (Below w0.heap.size w0 w2) := B1.out.trans (b2.mono B1.out.size)
  clear hn2 b2 D1 B1
  go_wp2_with fail
  refine (HN.out w2).mono ?_
  rintro e w3 ⟨g3, c3, rs3, rfl, hd3, b3⟩
  have M3 : Hid (DocAt w3 g3 0 c3 rs3 [Tn.root]) := hd3
  have N3 : Hid (DocAt w3 w1.heap.size 0 1 [rootR] [Tn.root]) := N2.out.keeps (keeps_below b3 (Nat.le_refl _))
  have D3 : Hid (DocAt w3 g 0 c rs d) := D2.out.keeps (keeps_below b3 (Nat.le_refl _))
  have B3 : Hid (Below w0.heap.size w0 w3) := B2.out.trans (b3.mono B2.out.size)
  clear hd3 b3 D2 B2 N2
  go_wp2_with fail
  refine (rsame_true N3.out M3.out (by decide)).mono ?_
  rintro e w4 ⟨rfl, b4⟩
  have D4 : Hid (DocAt w4 g 0 c rs d) := D3.out.keeps (keeps_below b4 (Nat.le_refl _))
  have B4 : Hid (Below w0.heap.size w0 w4) := B3.out.trans (b4.mono B3.out.size)
  clear b4 D3 B3 N3 M3
  go_wp2_with fail
  refine (HO.out w4 g c rs D4.out).mono ?_
  rintro e w5 ⟨g5, c5, rs5, rfl, hd5, b5⟩
  have M5 : Hid (DocAt w5 g5 0 c5 rs5 d) := hd5
  have D5 : Hid (DocAt w5 g 0 c rs d) := D4.out.keeps (keeps_below b5 (Nat.le_refl _))
  have B5 : Hid (Below w0.heap.size w0 w5) := B4.out.trans (b5.mono B4.out.size)
  clear hd5 b5 D4 B4
  go_wp2_with fail
  refine (rsame_true M5.out D5.out hL.out).mono ?_
  rintro e w6 ⟨rfl, b6⟩
  have D6 : Hid (DocAt w6 g 0 c rs d) := D5.out.keeps (keeps_below b6 (Nat.le_refl _))
  have B6 : Hid (Below w0.heap.size w0 w6) := B5.out.trans (b6.mono B5.out.size)
  clear b6 D5 B5 M5
  have q8 : ∀ b : Bool, (b == b) = true := fun b => by cases b <;> rfl
  have q8f := q8 (Tn.isN d n false)
  have q8t := q8 (Tn.isN d n true)
  clear q8
  go_wp2_with fail
  refine (HI1.out _ g c rs false D6.out).mono ?_
  rintro e ww ⟨rfl, hww⟩
  subst hww
  go_wp2_with fail
  refine (HI2.out _ g c rs false D6.out).mono ?_
  rintro e ww ⟨rfl, hww⟩
  subst hww
  go_wp2_with fail
  refine (HI1.out _ g c rs true D6.out).mono ?_
  rintro e ww ⟨rfl, hww⟩
  subst hww
  go_wp2_with fail
  refine (HI2.out _ g c rs true D6.out).mono ?_
  rintro e ww ⟨rfl, hww⟩
  subst hww
  go_wp2_with fail
  refine (A1.out _ g c rs D6.out).mono ?_
  rintro e w7 ⟨rfl, b7⟩
  have D7 : Hid (DocAt w7 g 0 c rs d) := D6.out.keeps (keeps_below b7 (Nat.le_refl _))
  have B7 : Hid (Below w0.heap.size w0 w7) := B6.out.trans (b7.mono B6.out.size)
  clear b7 D6 B6
  go_wp2_with fail
  refine (A2.out _ g c rs D7.out).mono ?_
  rintro e w8 ⟨rfl, b8⟩
  have D8 : Hid (DocAt w8 g 0 c rs d) := D7.out.keeps (keeps_below b8 (Nat.le_refl _))
  have B8 : Hid (Below w0.heap.size w0 w8) := B7.out.trans (b8.mono B7.out.size)
  clear b8 D7 B7
  go_wp2_with fail
  refine (A3.out _ g c rs D8.out).mono ?_
  rintro e w9 ⟨rfl, b9⟩
  have D9 : Hid (DocAt w9 g 0 c rs d) := D8.out.keeps (keeps_below b9 (Nat.le_refl _))
  have B9 : Hid (Below w0.heap.size w0 w9) := B8.out.trans (b9.mono B8.out.size)
  clear b9 D8 B8
  go_wp2_with fail
  refine (A4.out _ g c rs D9.out).mono ?_
  rintro e w10 ⟨rfl, b10⟩
  have D10 : Hid (DocAt w10 g 0 c rs d) := D9.out.keeps (keeps_below b10 (Nat.le_refl _))
  have B10 : Hid (Below w0.heap.size w0 w10) := B9.out.trans (b10.mono B9.out.size)
  clear b10 D9 B9
  go_wp2_with fail
  refine (A5.out _ g c rs D10.out).mono ?_
  rintro e w11 ⟨rfl, b11⟩
  have D11 : Hid (DocAt w11 g 0 c rs d) := D10.out.keeps (keeps_below b11 (Nat.le_refl _))
  have B11 : Hid (Below w0.heap.size w0 w11) := B10.out.trans (b11.mono B10.out.size)
  clear b11 D10 B10
  go_wp2_with fail
  refine (A6.out _ g c rs D11.out).mono ?_
  rintro e w12 ⟨rfl, b12⟩
  have D12 : Hid (DocAt w12 g 0 c rs d) := D11.out.keeps (keeps_below b12 (Nat.le_refl _))
  have B12 : Hid (Below w0.heap.size w0 w12) := B11.out.trans (b12.mono B11.out.size)
  clear b12 D11 B11
  go_wp2_with fail
  refine (A7.out _ g c rs D12.out).mono ?_
  rintro e w13 ⟨v13, rfl, o13, b13⟩
  have D13 : Hid (DocAt w13 g 0 c rs d) := D12.out.keeps (keeps_below b13 (Nat.le_refl _))
  have B13 : Hid (Below w0.heap.size w0 w13) := B12.out.trans (b13.mono B12.out.size)
  clear b13 D12 B12
  go_wp2_with fail
  refine (A8.out _ g c rs D13.out).mono ?_
  rintro e w14 ⟨v14, rfl, o14, b14⟩
  have D14 : Hid (DocAt w14 g 0 c rs d) := D13.out.keeps (keeps_below b14 (Nat.le_refl _))
  have B14 : Hid (Below w0.heap.size w0 w14) := B13.out.trans (b14.mono B13.out.size)
  have o13b := o13.below b14 (Nat.le_refl _)
  clear b14 D13 B13
  go_wp2_with fail
  refine (rsameints_true (ints_of_owns o13b) (ints_of_owns o14)).mono ?_
  rintro e w15 ⟨rfl, b15⟩
  have D15 : Hid (DocAt w15 g 0 c rs d) := D14.out.keeps (keeps_below b15 (Nat.le_refl _))
  have B15 : Hid (Below w0.heap.size w0 w15) := B14.out.trans (b15.mono B14.out.size)
  clear b15 D14 B14 o13 o13b o14
  go_wp2_with fail
  refine (A9.out _ g c rs D15.out).mono ?_
  rintro e w16 ⟨rfl, b16⟩
  have D16 : Hid (DocAt w16 g 0 c rs d) := D15.out.keeps (keeps_below b16 (Nat.le_refl _))
  have B16 : Hid (Below w0.heap.size w0 w16) := B15.out.trans (b16.mono B15.out.size)
  clear b16 D15 B15
  go_wp2_with fail
  refine (Aa.out _ g c rs D16.out).mono ?_
  rintro e w17 ⟨rfl, b17⟩
  have D17 : Hid (DocAt w17 g 0 c rs d) := D16.out.keeps (keeps_below b17 (Nat.le_refl _))
  have B17 : Hid (Below w0.heap.size w0 w17) := B16.out.trans (b17.mono B16.out.size)
  clear b17 D16 B16
  go_wp2_with fail
  refine (HI2.out _ g c rs false D17.out).mono ?_
  rintro e ww ⟨rfl, hww⟩
  subst hww
  have TAIL : Hid (∀ W : World, DocAt W g 0 c rs d → Below w0.heap.size w0 W → Calls Try.prog 41 #[.slice (some ⟨g, 0, none⟩) rs.length c, .agg #[.int .i64 kd, .int .i64 nn, .int .i64 tt, .int .i64 bf, .string nm, .string vv]] W fun e w' => Below w0.heap.size w0 w' ∧ DocAt w' g 0 c rs d ∧ ((Hid (ex ≠ 0) ∧ e = .returned (.tuple #[.slice none 0 0, .int .i64 0, .int .i64 ex])) ∨ (ex = 0 ∧ ∃ (g' c' : Nat) (rs' : List Raw), e = .returned (.tuple #[.slice (some ⟨g', 0, none⟩) rs'.length c', .int .i64 cn, .int .i64 0]) ∧ Hid (DocAt w' g' 0 c' rs' Y)))) := by
    intro W hW hBW
    refine (Ad.out W g c rs hW).mono ?_
    rintro e w' ⟨e1, h⟩
    refine ⟨hBW.trans (e1.mono hBW.size), hW.keeps (keeps_below e1 (Nat.le_refl _)), ?_⟩
    rcases h with ⟨e2, e3⟩ | ⟨e2, g', c', rs', e3, e4, _⟩
    · exact Or.inl ⟨e2, e3⟩
    · exact Or.inr ⟨e2, g', c', rs', e3, e4⟩
  cases hi : Tn.isN d n false with
  | true =>
    obtain ⟨pn, hpn, hp1⟩ := HPL.out hi
    have HP : Hid (pa.length = pn + 1) := hpn
    have HP1 : Hid (pa.length - 1 = pn) := by show _ = _; omega
    clear hpn
    have AbN : Hid (∀ (W : World) (g c : Nat) (rs : List Raw), DocAt W g 0 c rs d → Calls Try.prog 39 #[.slice (some ⟨g, 0, none⟩) rs.length c, .int .i64 n] W fun e w' => e = .returned (.int .i64 (pn : Int)) ∧ Below W.heap.size W w') := fun W g c rs h => by
      have := Ab.out W g c rs h
      rw [HP1.out] at this
      exact this
    go_wp2_with fail
    refine (AbN.out _ g c rs D17.out).mono ?_
    rintro e w18 ⟨rfl, b18⟩
    have D18 : Hid (DocAt w18 g 0 c rs d) := D17.out.keeps (keeps_below b18 (Nat.le_refl _))
    have B18 : Hid (Below w0.heap.size w0 w18) := B17.out.trans (b18.mono B17.out.size)
    clear b18 D17 B17
    go_wp2_with fail
    refine (Ac.out _ g c rs D18.out).mono ?_
    rintro e w19 ⟨v19, rfl, o19, b19⟩
    have D19 : Hid (DocAt w19 g 0 c rs d) := D18.out.keeps (keeps_below b19 (Nat.le_refl _))
    have B19 : Hid (Below w0.heap.size w0 w19) := B18.out.trans (b19.mono B18.out.size)
    clear b19 D18 B18
    obtain ⟨pp, pc, rfl⟩ := o19.shape
    rw [HP.out]
    clear o19
    have hpq : (((pn + 1 : Nat) : Int) - 1) = (pn : Int) := by omega
    have hpr : ((pn : Int) == (pn : Int)) = true := by simp
    obtain ⟨y0, y1, y2, y3, y4, y5⟩ := HX.out _ B19.out
    go_wp2_with fail
    clear y0 y1 y2 y3 y4 y5
    refine (TAIL.out _ D19.out B19.out).mono ?_
    rintro e wy ⟨by1, dy, ⟨hne, rfl⟩ | ⟨he0, gy, cy, rsy, rfl, hdy⟩⟩
    · have DY : Hid (DocAt wy g 0 c rs d) := dy
      have BY : Hid (Below w0.heap.size w0 wy) := by1
      clear dy by1
      obtain ⟨y0, y1, y2, y3, y4, y5⟩ := HX.out wy BY.out
      go_wp2_with fail
      clear y0 y1 y2 y3 y4 y5
      refine (Ae.out wy g c rs DY.out).mono ?_
      rintro e wz ⟨bz, ⟨_, rfl⟩ | ⟨h0, _⟩⟩
      · rw [HEX.out]
        have BZ : Hid (Below w0.heap.size w0 wz) := BY.out.trans (bz.mono BY.out.size)
        clear bz
        go_wp2_with fail
        refine rsame_nil.mono ?_
        rintro e we ⟨rfl, hwe⟩
        subst hwe
        go_wp2_with fail
        go_ret
        exact ⟨rfl, BA.out.trans (BZ.out.mono BA.out.size)⟩
      · exact absurd (HEX.out.symm.trans h0.out) hne.out
    · have DY : Hid (DocAt wy g 0 c rs d) := dy
      have BY : Hid (Below w0.heap.size w0 wy) := by1
      clear dy by1
      obtain ⟨y0, y1, y2, y3, y4, y5⟩ := HX.out wy BY.out
      go_wp2_with fail
      clear y0 y1 y2 y3 y4 y5
      refine (Ae.out wy g c rs DY.out).mono ?_
      rintro e wz ⟨bz, ⟨h0, _⟩ | ⟨_, gz, cz, rsz, rfl, hdz⟩⟩
      · exact absurd (HEX.out.trans he0) h0.out
      · rw [HCN.out]
        rw [HYY.out] at hdz
        have BZ : Hid (Below w0.heap.size w0 wz) := BY.out.trans (bz.mono BY.out.size)
        have YZ : Hid (DocAt wz gy 0 cy rsy Y) := hdy.out.keeps (keeps_below bz (Nat.le_refl _))
        have ZZ : Hid (DocAt wz gz 0 cz rsz Y) := hdz
        clear bz hdz
        go_wp2_with fail
        refine (rsame_true YZ.out ZZ.out (HYL.out he0)).mono ?_
        rintro e we ⟨rfl, be⟩
        have BE : Hid (Below w0.heap.size w0 we) := BZ.out.trans (be.mono BZ.out.size)
        clear be
        go_wp2_with fail
        go_ret
        exact ⟨rfl, BA.out.trans (BE.out.mono BA.out.size)⟩
  | false =>
    obtain ⟨y0, y1, y2, y3, y4, y5⟩ := HX.out _ B17.out
    go_wp2_with fail
    clear y0 y1 y2 y3 y4 y5
    refine (TAIL.out _ D17.out B17.out).mono ?_
    rintro e wy ⟨by1, dy, ⟨hne, rfl⟩ | ⟨he0, gy, cy, rsy, rfl, hdy⟩⟩
    · have DY : Hid (DocAt wy g 0 c rs d) := dy
      have BY : Hid (Below w0.heap.size w0 wy) := by1
      clear dy by1
      obtain ⟨y0, y1, y2, y3, y4, y5⟩ := HX.out wy BY.out
      go_wp2_with fail
      clear y0 y1 y2 y3 y4 y5
      refine (Ae.out wy g c rs DY.out).mono ?_
      rintro e wz ⟨bz, ⟨_, rfl⟩ | ⟨h0, _⟩⟩
      · rw [HEX.out]
        have BZ : Hid (Below w0.heap.size w0 wz) := BY.out.trans (bz.mono BY.out.size)
        clear bz
        go_wp2_with fail
        refine rsame_nil.mono ?_
        rintro e we ⟨rfl, hwe⟩
        subst hwe
        go_wp2_with fail
        go_ret
        exact ⟨rfl, BA.out.trans (BZ.out.mono BA.out.size)⟩
      · exact absurd (HEX.out.symm.trans h0.out) hne.out
    · have DY : Hid (DocAt wy g 0 c rs d) := dy
      have BY : Hid (Below w0.heap.size w0 wy) := by1
      clear dy by1
      obtain ⟨y0, y1, y2, y3, y4, y5⟩ := HX.out wy BY.out
      go_wp2_with fail
      clear y0 y1 y2 y3 y4 y5
      refine (Ae.out wy g c rs DY.out).mono ?_
      rintro e wz ⟨bz, ⟨h0, _⟩ | ⟨_, gz, cz, rsz, rfl, hdz⟩⟩
      · exact absurd (HEX.out.trans he0) h0.out
      · rw [HCN.out]
        rw [HYY.out] at hdz
        have BZ : Hid (Below w0.heap.size w0 wz) := BY.out.trans (bz.mono BY.out.size)
        have YZ : Hid (DocAt wz gy 0 cy rsy Y) := hdy.out.keeps (keeps_below bz (Nat.le_refl _))
        have ZZ : Hid (DocAt wz gz 0 cz rsz Y) := hdz
        clear bz hdz
        go_wp2_with fail
        refine (rsame_true YZ.out ZZ.out (HYL.out he0)).mono ?_
        rintro e we ⟨rfl, be⟩
        have BE : Hid (Below w0.heap.size w0 we) := BZ.out.trans (be.mono BZ.out.size)
        clear be
        go_wp2_with fail
        go_ret
        exact ⟨rfl, BA.out.trans (BE.out.mono BA.out.size)⟩
end Go.Proofs.Ytookcjdibpccpaa
