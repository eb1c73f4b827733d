/-
  THE WALK of WordsJoined: the words of two texts, with a tab between, are those of both.
-/
import Derived.Test.YteapdajkacgeiaaAliv
namespace Go.Proofs.Yteapdajkacgeiaa
open Go.RowKit

def both (s t : ByteArray) : ByteArray := s ++ ⟨#[9]⟩ ++ t
theorem both_size (s t : ByteArray) : (both s t).size = s.size + 1 + t.size := by
  unfold both
  rw [ByteArray.size_append, ByteArray.size_append]
  rfl
theorem both_toks (s t : ByteArray) : toksOf (both s t) = toksOf s ++ toksOf t := by
  unfold toksOf both
  have e : (s ++ ⟨#[9]⟩ ++ t).data.toList = s.data.toList ++ 9 :: t.data.toList := by
    rw [ByteArray.data_append, ByteArray.data_append]
    simp
  rw [e]
  exact Tx.toks_between _ _ 9 (by decide)

/-- the contract of Tokens, the number of words by a name -/
theorem tokens_n (s : ByteArray) (n : Nat) (ts : List (List UInt8)) (w : World) (hs : s.size ≤ 4194304) (ht : toksOf s = ts) (hn : ts.length = n) (hne : 0 < n) : Calls Try.prog 6 #[.string s] w fun e w' =>
    ∃ g c, e = .returned (.slice (some ⟨g, 0, none⟩) n c) ∧ Words w.heap.size ts g c w' ∧ Below w.heap.size w w' := by
  subst hn
  subst ht
  exact tokens_some s w hs (List.length_pos_iff.1 hne)

set_option maxHeartbeats 800000 in
set_option maxRecDepth 100000 in
theorem joined_walk (s t : ByteArray) (w : World) (hs : s.size ≤ 1048576) (ht : t.size ≤ 1048576) :
    Calls Try.prog 5 #[.string s, .string t] w fun e w' => e = .returned (.bool true) ∧ Below w.heap.size w w' := by
  obtain ⟨la, hla⟩ : ∃ la, (toksOf s).length = la := ⟨_, rfl⟩
  obtain ⟨lb, hlb⟩ : ∃ lb, (toksOf t).length = lb := ⟨_, rfl⟩
  have l1 := toksOf_len s
  have l2 := toksOf_len t
  have H : Hid ((toksOf s).length = la ∧ (toksOf t).length = lb ∧ toksOf (both s t) = toksOf s ++ toksOf t ∧ (toksOf s ++ toksOf t).length = la + lb ∧ (both s t).size ≤ 4194304) :=
    ⟨hla, hlb, both_toks s t, by rw [List.length_append, hla, hlb], by rw [both_size]; omega⟩
  have b1 : la ≤ 1048576 := by omega
  have b2 : lb ≤ 1048576 := by omega
  clear hla hlb l1 l2
  have d1 : decide ((la : Int) + (lb : Int) < (la : Int)) = false := decide_eq_false (by omega)
  have d2 : ((la : Int) + (lb : Int) - (la : Int) != (lb : Int)) = false := bne_eq_false_iff_eq.2 (by omega)
  by_cases ha : 0 < la
  · by_cases hb : 0 < lb
    · go_enter Try.func5, Try.ntmps5
      go_wp2_with fail
      refine (alive_any _).mono ?_
      rintro e w0 ⟨rfl, hb0⟩
      go_wp2_with fail
      refine (tokens_n s la _ _ (by omega) rfl H.out.1 ha).mono ?_
      rintro e w1 ⟨g1, c1, rfl, hW1, hb1⟩
      go_wp2_with fail
      refine (tokens_n t lb _ _ (by omega) rfl H.out.2.1 hb).mono ?_
      rintro e w2 ⟨g2, c2, rfl, hW2, hb2⟩
      go_wp2_with fail
      refine (tokens_n (both s t) (la + lb) _ _ H.out.2.2.2.2 H.out.2.2.1 H.out.2.2.2.1 (by omega)).mono ?_
      rintro e w3 ⟨g3, c3, rfl, hW3, hb3⟩
      go_wp2
      have HW : Hid (Words w2.heap.size (toksOf s ++ toksOf t) g3 c3 w3 ∧ Words w0.heap.size (toksOf s) g1 c1 w3 ∧ Words w1.heap.size (toksOf t) g2 c2 w3) :=
        ⟨hW3, words_below (words_below hW1 hb2) hb3, words_below hW2 hb3⟩
      have HB : Hid (Below w.heap.size w w3) := by
        have s0 := hb0.size
        have s1 := hb1.size
        have s2 := hb2.size
        exact ((hb0.trans (hb1.mono s0)).trans (hb2.mono (by omega))).trans (hb3.mono (by omega))
      clear hW1 hW2 hW3 hb0 hb1 hb2 hb3
      go_loop [38] (fun i => ∃ k : Nat, k ≤ la + lb ∧ i = .int .i64 k) (fun i => la + lb - (intOf i).toNat)
      case atStart => exact ⟨0, Nat.zero_le _, rfl⟩
      case round =>
        obtain ⟨k, hk, rfl⟩ := hrel
        by_cases hlt : k < la
        · obtain ⟨x, hx⟩ : ∃ x, (toksOf s)[k]? = some x := ⟨_, List.getElem?_eq_getElem (by rw [H.out.1]; exact hlt)⟩
          have q1 : w3.cell? ⟨g1, k, none⟩ = some (.string (Tx.bs x)) := HW.out.2.1.2.2.2 k x hx
          have q3 : w3.cell? ⟨g3, k, none⟩ = some (.string (Tx.bs x)) := HW.out.1.2.2.2 k x (by rw [List.getElem?_append_left (by rw [H.out.1]; exact hlt)]; exact hx)
          clear hx
          go_wp2
          go_round
          case rel => exact ⟨k + 1, by omega, by go_num⟩
          case measure => simp [intOf]; omega
        · by_cases hlt2 : k < la + lb
          · obtain ⟨j, rfl⟩ : ∃ j, k = la + j := ⟨k - la, by omega⟩
            obtain ⟨x, hx⟩ : ∃ x, (toksOf t)[j]? = some x := ⟨_, List.getElem?_eq_getElem (by rw [H.out.2.1]; omega)⟩
            have q2 : w3.cell? ⟨g2, j, none⟩ = some (.string (Tx.bs x)) := HW.out.2.2.2.2.2 j x hx
            have q3 : w3.cell? ⟨g3, la + j, none⟩ = some (.string (Tx.bs x)) := HW.out.1.2.2.2 (la + j) x (by rw [List.getElem?_append_right (by rw [H.out.1]; omega), H.out.1, Nat.add_sub_cancel_left]; exact hx)
            clear hx
            go_wp2
            go_round
            case rel => exact ⟨la + j + 1, by omega, by go_num⟩
            case measure => simp [intOf]; omega
          · go_wp2
            go_ret
            exact ⟨rfl, HB.out⟩
    · obtain rfl : lb = 0 := by omega
      have hn2 : toksOf t = [] := List.length_eq_zero_iff.1 H.out.2.1
      have HT : Hid (toksOf t = []) := hn2
      clear hn2 d1 d2
      go_enter Try.func5, Try.ntmps5
      go_wp2_with fail
      refine (alive_any _).mono ?_
      rintro e w0 ⟨rfl, hb0⟩
      go_wp2_with fail
      refine (tokens_n s la _ _ (by omega) rfl H.out.1 ha).mono ?_
      rintro e w1 ⟨g1, c1, rfl, hW1, hb1⟩
      go_wp2_with fail
      refine (tokens_none t _ (by omega) HT.out).mono ?_
      rintro e w2 ⟨rfl, hb2⟩
      go_wp2_with fail
      refine (tokens_n (both s t) la _ _ H.out.2.2.2.2 H.out.2.2.1 H.out.2.2.2.1 ha).mono ?_
      rintro e w3 ⟨g3, c3, rfl, hW3, hb3⟩
      go_wp2
      have HW : Hid (Words w2.heap.size (toksOf s ++ toksOf t) g3 c3 w3 ∧ Words w0.heap.size (toksOf s) g1 c1 w3) :=
        ⟨hW3, words_below (words_below hW1 hb2) hb3⟩
      have HB : Hid (Below w.heap.size w w3) := by
        have s0 := hb0.size
        have s1 := hb1.size
        have s2 := hb2.size
        exact ((hb0.trans (hb1.mono s0)).trans (hb2.mono (by omega))).trans (hb3.mono (by omega))
      clear hW1 hW3 hb0 hb1 hb2 hb3
      go_loop [38] (fun i => ∃ k : Nat, k ≤ la ∧ i = .int .i64 k) (fun i => la - (intOf i).toNat)
      case atStart => exact ⟨0, Nat.zero_le _, rfl⟩
      case round =>
        obtain ⟨k, hk, rfl⟩ := hrel
        by_cases hlt : k < la
        · obtain ⟨x, hx⟩ : ∃ x, (toksOf s)[k]? = some x := ⟨_, List.getElem?_eq_getElem (by rw [H.out.1]; exact hlt)⟩
          have q1 : w3.cell? ⟨g1, k, none⟩ = some (.string (Tx.bs x)) := HW.out.2.2.2.2 k x hx
          have q3 : w3.cell? ⟨g3, k, none⟩ = some (.string (Tx.bs x)) := HW.out.1.2.2.2 k x (by rw [List.getElem?_append_left (by rw [H.out.1]; exact hlt)]; exact hx)
          clear hx
          go_wp2
          go_round
          case rel => exact ⟨k + 1, by omega, by go_num⟩
          case measure => simp [intOf]; omega
        · go_wp2
          go_ret
          exact ⟨rfl, HB.out⟩
  · obtain rfl : la = 0 := by omega
    have hn1 : toksOf s = [] := List.length_eq_zero_iff.1 H.out.1
    have HT : Hid (toksOf s = [] ∧ toksOf (both s t) = toksOf t) := ⟨hn1, by rw [H.out.2.2.1, hn1]; rfl⟩
    clear hn1 d1 d2
    by_cases hb : 0 < lb
    · go_enter Try.func5, Try.ntmps5
      go_wp2_with fail
      refine (alive_any _).mono ?_
      rintro e w0 ⟨rfl, hb0⟩
      go_wp2_with fail
      refine (tokens_none s _ (by omega) HT.out.1).mono ?_
      rintro e w1 ⟨rfl, hb1⟩
      go_wp2_with fail
      refine (tokens_n t lb _ _ (by omega) rfl H.out.2.1 hb).mono ?_
      rintro e w2 ⟨g2, c2, rfl, hW2, hb2⟩
      go_wp2_with fail
      refine (tokens_n (both s t) lb _ _ H.out.2.2.2.2 HT.out.2 H.out.2.1 hb).mono ?_
      rintro e w3 ⟨g3, c3, rfl, hW3, hb3⟩
      go_wp2
      have HW : Hid (Words w2.heap.size (toksOf t) g3 c3 w3 ∧ Words w1.heap.size (toksOf t) g2 c2 w3) :=
        ⟨hW3, words_below hW2 hb3⟩
      have HB : Hid (Below w.heap.size w w3) := by
        have s0 := hb0.size
        have s1 := hb1.size
        have s2 := hb2.size
        exact ((hb0.trans (hb1.mono s0)).trans (hb2.mono (by omega))).trans (hb3.mono (by omega))
      clear hW2 hW3 hb0 hb1 hb2 hb3
      go_loop [38] (fun i => ∃ k : Nat, k ≤ lb ∧ i = .int .i64 k) (fun i => lb - (intOf i).toNat)
      case atStart => exact ⟨0, Nat.zero_le _, rfl⟩
      case round =>
        obtain ⟨k, hk, rfl⟩ := hrel
        by_cases hlt : k < lb
        · obtain ⟨x, hx⟩ : ∃ x, (toksOf t)[k]? = some x := ⟨_, List.getElem?_eq_getElem (by rw [H.out.2.1]; exact hlt)⟩
          have q2 : w3.cell? ⟨g2, k, none⟩ = some (.string (Tx.bs x)) := HW.out.2.2.2.2 k x hx
          have q3 : w3.cell? ⟨g3, k, none⟩ = some (.string (Tx.bs x)) := HW.out.1.2.2.2 k x hx
          clear hx
          go_wp2
          go_round
          case rel => exact ⟨k + 1, by omega, by go_num⟩
          case measure => simp [intOf]; omega
        · go_wp2
          go_ret
          exact ⟨rfl, HB.out⟩
    · obtain rfl : lb = 0 := by omega
      have hn2 : toksOf t = [] := List.length_eq_zero_iff.1 H.out.2.1
      have HT2 : Hid (toksOf t = [] ∧ toksOf (both s t) = []) := ⟨hn2, by rw [HT.out.2, hn2]⟩
      clear hn2
      go_enter Try.func5, Try.ntmps5
      go_wp2_with fail
      refine (alive_any _).mono ?_
      rintro e w0 ⟨rfl, hb0⟩
      go_wp2_with fail
      refine (tokens_none s _ (by omega) HT.out.1).mono ?_
      rintro e w1 ⟨rfl, hb1⟩
      go_wp2_with fail
      refine (tokens_none t _ (by omega) HT2.out.1).mono ?_
      rintro e w2 ⟨rfl, hb2⟩
      go_wp2_with fail
      refine (tokens_none (both s t) _ H.out.2.2.2.2 HT2.out.2).mono ?_
      rintro e w3 ⟨rfl, hb3⟩
      have HB : Hid (Below w.heap.size w w3) := by
        have s0 := hb0.size
        have s1 := hb1.size
        have s2 := hb2.size
        exact ((hb0.trans (hb1.mono s0)).trans (hb2.mono (by omega))).trans (hb3.mono (by omega))
      clear hb0 hb1 hb2 hb3
      go_wp2
      refine wp_loop_rounds 1 ?_
      rw [rounds_succ]
      go_wp2
      go_ret
      exact ⟨rfl, HB.out⟩

end Go.Proofs.Yteapdajkacgeiaa
