/-
  THE WALKS of words.Squeeze, digit, letter, Num and Name.
-/
import Derived.Test.YteapdajkacgeiaaLow
import Derived.Test.YteapdajkacgeiaaShelf
namespace Go.Proofs.Yteapdajkacgeiaa
open Go.RowKit

/-- a slice that lies at the head of block g, of room c, holds these tokens -/
def Words (B : Nat) (ts : List (List UInt8)) (g c : Nat) (w : World) : Prop :=
  B ≤ g ∧ g < w.heap.size ∧ ts.length ≤ c ∧ ∀ j t, ts[j]? = some t → w.cell? ⟨g, j, none⟩ = some (tv t)

theorem words_of {w : World} {B : Nat} {v : Value} {ts : List (List UInt8)} (h : w.ownsRow B 9 1 v ts.length (ts.map tv)) (hne : ts ≠ []) :
    ∃ g c, v = .slice (some ⟨g, 0, none⟩) ts.length c ∧ Words B ts g c w := by
  have hpos : 0 < ts.length := List.length_pos_iff.2 hne
  rcases h.2 with ⟨_, hn⟩ | ⟨g, cap, cur, rfl, hb, hg, hc, _⟩
  · omega
  · refine ⟨g, cap, rfl, hb, (Array.getElem?_eq_some_iff.1 hg).1, hc, ?_⟩
    intro j t hj
    have hjl : j < ts.length := (List.getElem?_eq_some_iff.1 hj).1
    rw [h.cellAt j (by omega), List.getElem?_map, hj]
    rfl

theorem words_below {B g c : Nat} {ts : List (List UInt8)} {w w' : World} (h : Words B ts g c w) (hb : Below w.heap.size w w') : Words B ts g c w' :=
  ⟨h.1, Nat.lt_of_lt_of_le h.2.1 hb.size, h.2.2.1, fun j t hj => (hb.cell (p := ⟨g, j, none⟩) h.2.1).trans (h.2.2.2 j t hj)⟩

theorem tokens_some (s : ByteArray) (w : World) (hs : s.size ≤ 4194304) (hne : toksOf s ≠ []) : Calls Try.prog 6 #[.string s] w fun e w' =>
    ∃ g c, e = .returned (.slice (some ⟨g, 0, none⟩) (toksOf s).length c) ∧ Words w.heap.size (toksOf s) g c w' ∧ Below w.heap.size w w' := by
  refine (tokens_own s w hs).mono ?_
  rintro e w' ⟨v, rfl, hown, hbel, _⟩
  obtain ⟨g, c, rfl, hW⟩ := words_of hown hne
  exact ⟨g, c, rfl, hW, hbel⟩

theorem tokens_none (s : ByteArray) (w : World) (hs : s.size ≤ 4194304) (hne : toksOf s = []) : Calls Try.prog 6 #[.string s] w fun e w' =>
    e = .returned (.slice none 0 0) ∧ Below w.heap.size w w' := by
  refine (tokens_own s w hs).mono ?_
  rintro e w' ⟨v, rfl, _, hbel, hnil⟩
  rw [hnil hne]
  exact ⟨rfl, hbel⟩

theorem join_words (ts : List (List UInt8)) (B g c : Nat) (w : World) (h : Words B ts g c w) (hN : ts.length ≤ 4194304) (hlen : (Tx.joined ts).length ≤ 4194304) :
    Calls Try.prog 19 #[.slice (some ⟨g, 0, none⟩) ts.length c, .string ⟨#[32]⟩] w fun e w' => e = .returned (.string (Tx.bs (Tx.joined ts))) ∧ Below w.heap.size w w' := by
  have hm : (ts.map Tx.bs).map (·.data.toList) = ts := by
    rw [List.map_map]
    conv => rhs; rw [← List.map_id ts]
    apply List.map_congr_left
    intro t _
    rfl
  have e : (Lib.join ((ts.map Tx.bs).map (·.data.toList)) (⟨#[32]⟩ : ByteArray).data.toList) = Tx.joined ts := by rw [hm]; rfl
  have h1 := Try.strings_Join g 0 c (ts.map Tx.bs) ⟨#[32]⟩ w (fun j x hx => by
    rw [List.getElem?_map] at hx
    cases ht : ts[j]? with
    | none => rw [ht] at hx; cases hx
    | some t =>
      rw [ht] at hx
      cases hx
      rw [Nat.zero_add]
      exact h.2.2.2 j t ht) h.2.1 (by rw [List.length_map]; omega) (by rw [List.length_map]; exact h.2.2.1) (by rw [e]; omega)
  rw [e, List.length_map] at h1
  exact h1

def sqz (s : ByteArray) : ByteArray := Tx.bs (Tx.squeeze s.data.toList)

theorem toksOf_len (s : ByteArray) : (toksOf s).length ≤ s.size := by
  rw [Lib.size_eq]
  exact Tx.toks_len _
theorem joined_len (s : ByteArray) : (Tx.joined (toksOf s)).length ≤ s.size := by
  rw [Lib.size_eq]
  exact Tx.squeeze_len _

set_option maxHeartbeats 400000 in
theorem squeeze_any (s : ByteArray) (w : World) (hs : s.size ≤ 4194304) : Calls Try.prog 10 #[.string s] w fun e w' =>
    e = .returned (.string (sqz s)) ∧ Below w.heap.size w w' := by
  have h1 := toksOf_len s
  have h2 := joined_len s
  by_cases hne : toksOf s = []
  · have e : sqz s = ⟨#[]⟩ := by
      unfold sqz Tx.squeeze
      have : Tx.toks s.data.toList = [] := hne
      rw [this]
      rfl
    rw [e]
    go_enter Try.func10, Try.ntmps10
    go_wp2_with fail
    refine (tokens_none s _ hs hne).mono ?_
    rintro e w1 ⟨rfl, hb1⟩
    go_wp2_with fail
    refine (Try.strings_Join_none none 0 _ _).mono ?_
    rintro e w2 ⟨rfl, rfl⟩
    go_wp2
    go_ret
    exact ⟨rfl, hb1⟩
  · go_enter Try.func10, Try.ntmps10
    go_wp2_with fail
    refine (tokens_some s _ hs hne).mono ?_
    rintro e w1 ⟨g, c, rfl, hW, hb1⟩
    go_wp2_with fail
    refine (join_words (toksOf s) w.heap.size g c w1 hW (by omega) (by omega)).mono ?_
    rintro e w2 ⟨rfl, hb2⟩
    go_wp2
    go_ret
    exact ⟨rfl, hb1.trans (hb2.mono hb1.size)⟩

end Go.Proofs.Yteapdajkacgeiaa
