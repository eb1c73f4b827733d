/-
  THE WALK of words.Lower: the text is made bytes, each capital letter is turned in place, the bytes are made a text again.
-/
import Derived.Test.YteapdajkacgeiaaTok
import Derived.Laws.IdiomStrings
namespace Go.Proofs.Yteapdajkacgeiaa
open Go.RowKit

def lowB (c : UInt8) : UInt8 := if 65 ≤ c.toNat ∧ c.toNat ≤ 90 then c + 32 else c
def lowL (l : List UInt8) : List UInt8 := l.map lowB

theorem lowB_twice (c : UInt8) : lowB (lowB c) = lowB c := by
  unfold lowB
  by_cases h : 65 ≤ c.toNat ∧ c.toNat ≤ 90
  · rw [if_pos h]
    have e : (c + 32).toNat = c.toNat + 32 := by
      rw [UInt8.toNat_add]
      have : (32 : UInt8).toNat = 32 := rfl
      omega
    rw [if_neg (by omega)]
  · rw [if_neg h, if_neg h]
theorem lowL_twice (l : List UInt8) : lowL (lowL l) = lowL l := by
  unfold lowL
  rw [List.map_map]
  apply List.map_congr_left
  intro c _
  exact lowB_twice c
theorem lowL_len (l : List UInt8) : (lowL l).length = l.length := List.length_map _
theorem lowB_yes (c : UInt8) (h : 65 ≤ c.toNat ∧ c.toNat ≤ 90) : ((lowB c).toNat : Int) = (c.toNat : Int) - 65 + 97 := by
  unfold lowB
  rw [if_pos h, UInt8.toNat_add]
  have : (32 : UInt8).toNat = 32 := rfl
  omega
theorem lowB_no (c : UInt8) (h : ¬ (65 ≤ c.toNat ∧ c.toNat ≤ 90)) : lowB c = c := by
  unfold lowB
  rw [if_neg h]

/-- what a text made bytes leaves: a new row that holds them -/
def Row8 (B : Nat) (l : List UInt8) (w w' : World) : Prop :=
  (∀ j c, l[j]? = some c → w'.cell? ⟨B, j, none⟩ = some (.int .u8 (c.toNat : Int))) ∧ (∀ j, j < l.length → w'.frozen? ⟨B, j, none⟩ = false) ∧ Below B w w' ∧ B < w'.heap.size

theorem conv_bytes (s : ByteArray) (w : World) : ∃ cap w1, (convert 9 30 (.string s)).run Try.prog w = .ok (.slice (some ⟨w.heap.size, 0, none⟩) s.size cap) w1 ∧ Row8 w.heap.size s.data.toList w w1 := by
  refine ⟨_, _, run_bytes_of_string w 9 30 5 s Try.underlying9 Try.underlying30 Try.underlying5, ?_, ?_, ?_, ?_⟩
  · intro j c hc
    have hs : w.heap.size = w.drew.heap.size := rfl
    rw [hs, World.cell?_alloc_mark]
    unfold bytesRow
    have hj : j < s.data.toList.length := (List.getElem?_eq_some_iff.1 hc).1
    rw [Array.getElem?_append_left (by simpa using hj), Array.getElem?_map]
    rw [Array.getElem?_toList] at hc
    rw [hc]
    rfl
  · intro j hj
    have hs : w.heap.size = w.drew.heap.size := rfl
    rw [hs, World.frozen?_alloc_mark]
    have hz : j < (bytesRow s (grownCap w s.size 0 5)).size := by
      unfold bytesRow
      rw [Array.size_append, Array.size_map]
      have : s.data.toList.length = s.data.size := Array.length_toList
      omega
    rw [decide_eq_false (by omega)]
    rfl
  · exact ((Below.refl _ _).drew).alloc (Nat.le_refl _) _
  · simp

theorem row8_set {B : Nat} {l : List UInt8} {w w' : World} (h : Row8 B l w w') (k : Nat) (c : UInt8) (hk : k < l.length) : Row8 B (l.set k c) w (w'.setCell ⟨B, k, none⟩ (.int .u8 (c.toNat : Int))) := by
  obtain ⟨h1, h2, h3, h4⟩ := h
  refine ⟨?_, ?_, h3.setCell (Nat.le_refl _) _, by simpa using h4⟩
  · intro j d hd
    rw [List.getElem?_set] at hd
    by_cases e : k = j
    · subst e
      rw [if_pos rfl, if_pos hk] at hd
      cases hd
      exact World.cell?_setCell_same _ _ _ (h1 k _ (List.getElem?_eq_getElem hk))
    · rw [if_neg e] at hd
      rw [World.cell?_setCell_other _ _ _ _ (by intro h; cases h; exact e rfl)]
      exact h1 j d hd
  · intro j hj
    rw [List.length_set] at hj
    rw [World.frozen?_setCell]
    exact h2 j hj

/-- the first k letters lowered -/
def lowTo (l : List UInt8) (k : Nat) : List UInt8 := lowL (l.take k) ++ l.drop k
theorem lowTo_zero (l : List UInt8) : lowTo l 0 = l := rfl
theorem lowTo_len (l : List UInt8) (k : Nat) : (lowTo l k).length = l.length := by
  unfold lowTo
  rw [List.length_append, lowL_len, ← List.length_append, List.take_append_drop]
theorem lowTo_all (l : List UInt8) : lowTo l l.length = lowL l := by
  unfold lowTo
  simp
theorem lowTo_at (l : List UInt8) (k : Nat) : (lowTo l k)[k]? = l[k]? := by
  unfold lowTo
  by_cases h : k ≤ l.length
  · have e : (lowL (l.take k)).length = k := by rw [lowL_len, List.length_take]; omega
    rw [List.getElem?_append_right (by omega), e, Nat.sub_self, List.getElem?_drop]
    rfl
  · rw [List.getElem?_eq_none (by rw [List.length_append, lowL_len, List.length_take, List.length_drop]; omega), List.getElem?_eq_none (by omega)]
theorem lowTo_succ (l : List UInt8) (k : Nat) (c : UInt8) (hc : l[k]? = some c) : lowTo l (k + 1) = (lowTo l k).set k (lowB c) := by
  have hk : k < l.length := (List.getElem?_eq_some_iff.1 hc).1
  have e : (lowL (l.take k)).length = k := by rw [lowL_len, List.length_take]; omega
  unfold lowTo
  rw [List.set_append_right _ _ (by omega), e, Nat.sub_self]
  have ht : l.take (k + 1) = l.take k ++ [c] := by rw [List.take_add_one, hc]; rfl
  have hd : l.drop k = c :: l.drop (k + 1) := by
    rw [← List.getElem_cons_drop hk]
    rw [List.getElem?_eq_getElem hk] at hc
    cases hc
    rfl
  rw [ht, hd]
  unfold lowL
  simp
theorem lowTo_same (l : List UInt8) (k : Nat) (c : UInt8) (hc : l[k]? = some c) (h : lowB c = c) : lowTo l (k + 1) = lowTo l k := by
  rw [lowTo_succ l k c hc, h]
  have := lowTo_at l k
  rw [hc] at this
  obtain ⟨h1, h2⟩ := List.getElem?_eq_some_iff.1 this
  rw [← h2]
  exact List.set_getElem_self h1
theorem byte_at (s : ByteArray) (k : Nat) (h : k < s.size) : s.data.toList[k]? = some s[k] := by
  rw [List.getElem?_eq_getElem (by rw [← Lib.size_eq]; exact h)]
  rfl

set_option maxHeartbeats 800000 in
set_option maxRecDepth 100000 in
theorem lower_any (s : ByteArray) (w : World) (hs : s.size ≤ 4194304) : Calls Try.prog 8 #[.string s] w fun e w' =>
    e = .returned (.string (Tx.bs (lowL s.data.toList))) ∧ Below w.heap.size w w' := by
  obtain ⟨cap, w1, hconv, hrow⟩ := conv_bytes s w
  go_enter Try.func8, Try.ntmps8
  go_wp2
  go_loopw [10] (fun i wr => ∃ k : Nat, k ≤ s.size ∧ i = .int .i64 k ∧ Row8 w.heap.size (lowTo s.data.toList k) w wr)
    (fun i _ => s.size - (intOf i).toNat)
  case atStart => exact ⟨0, Nat.zero_le _, rfl, hrow⟩
  case round =>
    clear hconv hrow
    obtain ⟨k, hk, rfl, hr⟩ := hrel
    by_cases hlt : k < s.size
    · have hb := byte_at s k hlt
      have hcell : wr.cell? ⟨w.heap.size, k, none⟩ = some (.int .u8 (s[k].toNat : Int)) := hr.1 k _ ((lowTo_at _ k).trans hb)
      have hfro : wr.frozen? ⟨w.heap.size, k, none⟩ = false := hr.2.1 k (by rw [lowTo_len, ← Lib.size_eq]; exact hlt)
      by_cases hc : 65 ≤ s[k].toNat ∧ s[k].toNat ≤ 90
      · have E : Hid (Row8 w.heap.size (lowTo s.data.toList (k + 1)) w (wr.setCell ⟨w.heap.size, k, none⟩ (.int .u8 ((s[k].toNat : Int) - 65 + 97)))) := by
          have := row8_set hr k (lowB s[k]) (by rw [lowTo_len, ← Lib.size_eq]; exact hlt)
          rw [← lowTo_succ _ k _ hb, lowB_yes _ hc] at this
          exact this
        obtain ⟨hc1, hc2⟩ := hc
        clear hb
        go_wp2
        go_roundw
        case rel => exact ⟨k + 1, by omega, by go_num, E.out⟩
        case measure => simp [intOf]; omega
      · have E : Hid (lowTo s.data.toList (k + 1) = lowTo s.data.toList k) := lowTo_same _ k _ hb (lowB_no _ hc)
        clear hb
        go_wp2
        all_goals
          go_roundw
          case rel => exact ⟨k + 1, by omega, by go_num, by rw [E.out]; exact hr⟩
          case measure => simp [intOf]; omega
    · obtain rfl : k = s.size := by omega
      have hl : lowTo s.data.toList s.size = lowL s.data.toList := by
        have := lowTo_all s.data.toList
        rw [← Lib.size_eq] at this
        exact this
      rw [hl] at hr
      have hz : (lowL s.data.toList).length = s.size := by rw [lowL_len, ← Lib.size_eq]
      have hback := run_convert_bytes_back (P := Try.prog) wr 30 9 5 ⟨w.heap.size, 0, none⟩ cap (lowL s.data.toList) Try.underlying30 Try.underlying5 Try.underlying9 (fun j hj => by
        have ha : (⟨w.heap.size, 0, none⟩ : Addr).add j = ⟨w.heap.size, j, none⟩ := by unfold Addr.add; split <;> simp_all
        rw [ha]
        exact hr.1 j _ (List.getElem?_eq_getElem hj))
      rw [hz] at hback
      clear hl hz
      go_wp2
      go_ret
      exact ⟨rfl, hr.2.2.1⟩

end Go.Proofs.Yteapdajkacgeiaa
