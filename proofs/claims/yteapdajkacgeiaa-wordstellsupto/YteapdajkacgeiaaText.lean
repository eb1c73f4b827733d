/-
  PLAIN MATHEMATICS OF TEXTS, without any program: blanks, the tokens of a text by a scan from the left, joined tokens. Used by the walks.
-/
import Derived.Lib.Strings
import Derived.Lib.Join
namespace Go.Proofs.Yteapdajkacgeiaa.Tx

def blank (c : UInt8) : Bool := c == 32 || c == 9 || c == 10 || c == 13
def bs (l : List UInt8) : ByteArray := ⟨l.toArray⟩
def fin (a : List (List UInt8)) (c : List UInt8) : List (List UInt8) := if c.isEmpty then a else a ++ [c]
def step (st : List (List UInt8) × List UInt8) (c : UInt8) : List (List UInt8) × List UInt8 := if blank c then (fin st.1 st.2, []) else (st.1, st.2 ++ [c])
def scan (l : List UInt8) : List (List UInt8) × List UInt8 := l.foldl step ([], [])
def toks (l : List UInt8) : List (List UInt8) := fin (scan l).1 (scan l).2

theorem scan_snoc (l : List UInt8) (c : UInt8) : scan (l ++ [c]) = step (scan l) c := by
  unfold scan
  rw [List.foldl_append]
  rfl

/-- a list grown at its end -/
theorem snoc_ind {P : List UInt8 → Prop} (h0 : P []) (h1 : ∀ l c, P l → P (l ++ [c])) (l : List UInt8) : P l := by
  have h : ∀ r : List UInt8, P r.reverse := by
    intro r
    induction r with
    | nil => exact h0
    | cons x r ih => rw [List.reverse_cons]; exact h1 _ _ ih
  have := h l.reverse
  rwa [List.reverse_reverse] at this

theorem scan_suffix (l : List UInt8) : ∃ p, l = p ++ (scan l).2 := by
  induction l using snoc_ind with
  | h0 => exact ⟨[], rfl⟩
  | h1 l c ih =>
    obtain ⟨p, hp⟩ := ih
    rw [scan_snoc]
    unfold step
    split
    · exact ⟨l ++ [c], by simp⟩
    · refine ⟨p, ?_⟩
      show l ++ [c] = p ++ ((scan l).2 ++ [c])
      rw [← List.append_assoc, ← hp]

theorem cur_le (l : List UInt8) : (scan l).2.length ≤ l.length := by
  obtain ⟨p, hp⟩ := scan_suffix l
  have := congrArg List.length hp
  rw [List.length_append] at this
  omega

theorem cur_drop (l : List UInt8) : (scan l).2 = l.drop (l.length - (scan l).2.length) := by
  obtain ⟨p, hp⟩ := scan_suffix l
  have hl := congrArg List.length hp
  rw [List.length_append] at hl
  have e : l.length - (scan l).2.length = p.length := by omega
  rw [e]
  generalize (scan l).2 = c at *
  subst hp
  simp

theorem fin_len (a : List (List UInt8)) (c : List UInt8) : (fin a c).length = a.length + if c.isEmpty then 0 else 1 := by
  unfold fin
  split <;> simp

theorem toks_len (l : List UInt8) : (toks l).length ≤ l.length := by
  unfold toks
  induction l using snoc_ind with
  | h0 => simp [scan, fin]
  | h1 l c ih =>
    rw [scan_snoc, List.length_append]
    rw [fin_len] at ih ⊢
    unfold step
    split
    · simp only [fin_len]
      simp
      split at ih <;> simp_all <;> omega
    · simp
      split at ih <;> omega


theorem fold_front (a b : List (List UInt8)) (c r : List UInt8) : r.foldl step (a ++ b, c) = (a ++ (r.foldl step (b, c)).1, (r.foldl step (b, c)).2) := by
  induction r generalizing b c with
  | nil => rfl
  | cons x r ih =>
    simp only [List.foldl_cons]
    have e : step (a ++ b, c) x = (a ++ (step (b, c) x).1, (step (b, c) x).2) := by
      unfold step
      split
      · unfold fin
        simp only
        split <;> simp
      · rfl
    rw [e, ih]

theorem scan_blank (l : List UInt8) (b : UInt8) (hb : blank b = true) : scan (l ++ [b]) = (toks l, []) := by
  rw [scan_snoc]
  unfold step toks
  rw [if_pos hb]

/-- THE TOKENS OF TWO TEXTS WITH A BLANK BETWEEN ARE THOSE OF BOTH -/
theorem toks_between (l r : List UInt8) (b : UInt8) (hb : blank b = true) : toks (l ++ b :: r) = toks l ++ toks r := by
  have e : l ++ b :: r = (l ++ [b]) ++ r := by simp
  have h : scan (l ++ b :: r) = (toks l ++ (scan r).1, (scan r).2) := by
    rw [e]
    unfold scan
    rw [List.foldl_append]
    have := scan_blank l b hb
    unfold scan at this
    rw [this]
    have f := fold_front (toks l) [] [] r
    rw [List.append_nil] at f
    exact f
  show fin (scan (l ++ b :: r)).1 (scan (l ++ b :: r)).2 = toks l ++ fin (scan r).1 (scan r).2
  rw [h]
  unfold fin
  simp only
  split <;> simp

/-- a word: not empty, nothing in it is blank -/
def word (t : List UInt8) : Prop := t ≠ [] ∧ ∀ c ∈ t, blank c = false

theorem scan_words (l : List UInt8) : (∀ t ∈ (scan l).1, word t) ∧ ∀ c ∈ (scan l).2, blank c = false := by
  induction l using snoc_ind with
  | h0 => exact ⟨fun t (h : t ∈ []) => (by cases h), fun c (h : c ∈ []) => (by cases h)⟩
  | h1 l c ih =>
    rw [scan_snoc]
    unfold step
    split
    · refine ⟨?_, fun c h => by cases h⟩
      unfold fin
      simp only
      intro t ht
      split at ht
      · exact ih.1 t ht
      · rcases List.mem_append.1 ht with h | h
        · exact ih.1 t h
        · rw [List.mem_singleton] at h
          subst h
          refine ⟨?_, ih.2⟩
          intro h
          rename_i hne
          rw [h] at hne
          exact hne rfl
    · rename_i hb
      refine ⟨ih.1, ?_⟩
      intro d hd
      rcases List.mem_append.1 hd with h | h
      · exact ih.2 d h
      · rw [List.mem_singleton] at h
        subst h
        simpa using hb

theorem toks_words (l : List UInt8) : ∀ t ∈ toks l, word t := by
  have h := scan_words l
  intro t ht
  unfold toks fin at ht
  split at ht
  · exact h.1 t ht
  · rcases List.mem_append.1 ht with h' | h'
    · exact h.1 t h'
    · rw [List.mem_singleton] at h'
      subst h'
      refine ⟨?_, h.2⟩
      intro e
      rename_i hne
      rw [e] at hne
      exact hne rfl

theorem scan_word (a : List (List UInt8)) (c t : List UInt8) (h : ∀ x ∈ t, blank x = false) : t.foldl step (a, c) = (a, c ++ t) := by
  induction t generalizing c with
  | nil => simp
  | cons x t ih =>
    have hx := h x (by simp)
    rw [List.foldl_cons]
    have e : step (a, c) x = (a, c ++ [x]) := by
      unfold step
      rw [if_neg (by simp [hx])]
    rw [e, ih _ (fun y hy => h y (by simp [hy]))]
    simp

theorem toks_word (t : List UInt8) (h : word t) : toks t = [t] := by
  unfold toks scan
  rw [scan_word [] [] t h.2]
  unfold fin
  have : t.isEmpty = false := by
    cases t with
    | nil => exact absurd rfl h.1
    | cons x r => rfl
  simp [this]

theorem toks_nil : toks [] = [] := rfl

/-- joined by blanks -/
def joined (ts : List (List UInt8)) : List UInt8 := Lib.join ts [32]
theorem joined_nil : joined [] = [] := rfl
theorem joined_one (t : List UInt8) : joined [t] = t := Lib.join_one t [32]
theorem joined_cons (t u : List UInt8) (r : List (List UInt8)) : joined (t :: u :: r) = t ++ 32 :: joined (u :: r) := by
  unfold joined
  rw [Lib.join_cons, Lib.join_cons]
  unfold Lib.joinTail
  simp

/-- THE TOKENS OF JOINED WORDS ARE THE WORDS -/
theorem toks_joined (ts : List (List UInt8)) (h : ∀ t ∈ ts, word t) : toks (joined ts) = ts := by
  induction ts with
  | nil => rfl
  | cons t r ih =>
    cases r with
    | nil => rw [joined_one]; exact toks_word t (h t (by simp))
    | cons u r =>
      rw [joined_cons, toks_between _ _ 32 (by decide), toks_word t (h t (by simp)), ih (fun x hx => h x (by simp [hx]))]
      rfl

def squeeze (l : List UInt8) : List UInt8 := joined (toks l)
theorem toks_squeeze (l : List UInt8) : toks (squeeze l) = toks l := toks_joined _ (toks_words l)
theorem squeeze_twice (l : List UInt8) : squeeze (squeeze l) = squeeze l := by
  show joined (toks (squeeze l)) = joined (toks l)
  rw [toks_squeeze]

/-- joined, one word more behind -/
theorem joined_snoc (ts : List (List UInt8)) (t : List UInt8) : joined (ts ++ [t]) = if ts.isEmpty then t else joined ts ++ 32 :: t := by
  induction ts with
  | nil => exact joined_one t
  | cons x r ih =>
    cases r with
    | nil => show joined (x :: t :: []) = _; rw [joined_cons, joined_one, joined_one]; rfl
    | cons u r =>
      have e : (x :: u :: r) ++ [t] = x :: u :: (r ++ [t]) := rfl
      have e2 : (u :: r) ++ [t] = u :: (r ++ [t]) := rfl
      rw [e, joined_cons, ← e2, ih, joined_cons]
      simp

theorem squeeze_len_aux (l : List UInt8) :
    (joined (toks l)).length ≤ l.length ∧ ((scan l).2 = [] → (scan l).1 ≠ [] → (joined (scan l).1).length + 1 ≤ l.length) := by
  unfold toks
  induction l using snoc_ind with
  | h0 => exact ⟨Nat.le_refl _, fun _ h => absurd rfl h⟩
  | h1 l c ih =>
    rw [scan_snoc, List.length_append]
    generalize scan l = st at ih ⊢
    obtain ⟨a, k⟩ := st
    simp only at ih ⊢
    unfold step
    split
    · simp only
      have e : fin (fin a k) [] = fin a k := rfl
      rw [e]
      refine ⟨by have := ih.1; simp; omega, fun _ _ => by have := ih.1; simp; omega⟩
    · simp only
      refine ⟨?_, fun h => by simp at h⟩
      have e : fin a (k ++ [c]) = a ++ [k ++ [c]] := by unfold fin; simp
      rw [e, joined_snoc]
      cases k with
      | nil =>
        cases a with
        | nil => simp
        | cons x r =>
          have := ih.2 rfl (by simp)
          simp
          omega
      | cons y s =>
        have h1 := ih.1
        have e2 : fin a (y :: s) = a ++ [y :: s] := rfl
        rw [e2, joined_snoc] at h1
        cases a with
        | nil => simp at h1 ⊢; omega
        | cons x r => simp at h1 ⊢; omega

theorem squeeze_len (l : List UInt8) : (squeeze l).length ≤ l.length := (squeeze_len_aux l).1

/-- a blank stands alone, between words -/
def plain (q : List UInt8) : Prop := ∀ i c, q[i]? = some c → blank c = true → c = 32 ∧ 0 < i ∧ i + 1 < q.length ∧ ∃ d, q[i - 1]? = some d ∧ blank d = false

theorem joined_ne (t : List UInt8) (r : List (List UInt8)) (ht : t ≠ []) : joined (t :: r) ≠ [] := by
  cases r with
  | nil => rw [joined_one]; exact ht
  | cons u r => rw [joined_cons]; simp

theorem joined_plain (ts : List (List UInt8)) (h : ∀ t ∈ ts, word t) : plain (joined ts) := by
  induction ts with
  | nil => intro i c hc; simp [joined_nil] at hc
  | cons t r ih =>
    have ht := h t (by simp)
    cases r with
    | nil =>
      rw [joined_one]
      intro i c hc hb
      have := ht.2 c (List.mem_of_getElem? hc)
      rw [this] at hb
      cases hb
    | cons u r =>
      have ih' := ih (fun x hx => h x (by simp [hx]))
      rw [joined_cons]
      have hne := joined_ne u r (h u (by simp)).1
      have hpos : 0 < (joined (u :: r)).length := List.length_pos_iff.2 hne
      have htp : 0 < t.length := List.length_pos_iff.2 ht.1
      intro i c hc hb
      rcases Nat.lt_trichotomy i t.length with hlt | heq | hgt
      · rw [List.getElem?_append_left hlt] at hc
        have := ht.2 c (List.mem_of_getElem? hc)
        rw [this] at hb
        cases hb
      · subst heq
        rw [List.getElem?_append_right (Nat.le_refl _)] at hc
        simp at hc
        subst hc
        refine ⟨rfl, htp, by simp; omega, ?_⟩
        have hl : t.length - 1 < t.length := by omega
        refine ⟨t[t.length - 1], ?_, ht.2 _ (List.getElem_mem hl)⟩
        rw [List.getElem?_append_left hl]
        exact List.getElem?_eq_getElem hl
      · obtain ⟨j, rfl⟩ : ∃ j, i = t.length + 1 + j := ⟨i - t.length - 1, by omega⟩
        rw [List.getElem?_append_right (by omega)] at hc
        have e1 : t.length + 1 + j - t.length = j + 1 := by omega
        rw [e1, List.getElem?_cons_succ] at hc
        obtain ⟨a1, a2, a3, d, a4, a5⟩ := ih' j c hc hb
        refine ⟨a1, by omega, by simp; omega, d, ?_, a5⟩
        rw [List.getElem?_append_right (by omega)]
        have e2 : t.length + 1 + j - 1 - t.length = (j - 1) + 1 := by omega
        rw [e2, List.getElem?_cons_succ]
        exact a4

theorem squeeze_plain (l : List UInt8) : plain (squeeze l) := joined_plain _ (toks_words l)

end Go.Proofs.Yteapdajkacgeiaa.Tx
