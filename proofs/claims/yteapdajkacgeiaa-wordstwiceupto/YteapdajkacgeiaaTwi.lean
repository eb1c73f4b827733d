/-
  THE WALK of WordsTwice: what is squeezed, or lowered, is so; squeezed, all words are there, and nothing else is blank.
-/
import Derived.Test.YteapdajkacgeiaaAliv
namespace Go.Proofs.Yteapdajkacgeiaa
open Go.RowKit

def low (s : ByteArray) : ByteArray := Tx.bs (lowL s.data.toList)
theorem low_size (s : ByteArray) : (low s).size = s.size := by
  rw [Lib.size_eq, Lib.size_eq s]
  exact lowL_len _
theorem sqz_data (s : ByteArray) : (sqz s).data.toList = Tx.squeeze s.data.toList := rfl
theorem sqz_size (s : ByteArray) : (sqz s).size ≤ s.size := by
  rw [Lib.size_eq, Lib.size_eq s, sqz_data]
  exact Tx.squeeze_len _
theorem sqz_toks (s : ByteArray) : toksOf (sqz s) = toksOf s := by
  unfold toksOf
  rw [sqz_data]
  exact Tx.toks_squeeze _
theorem sqz_plain (s : ByteArray) : Tx.plain (sqz s).data.toList := by
  rw [sqz_data]
  exact Tx.squeeze_plain _

theorem squeeze_again (s : ByteArray) (w : World) (hs : s.size ≤ 4194304) : Calls Try.prog 10 #[.string (sqz s)] w fun e w' =>
    e = .returned (.string (sqz s)) ∧ Below w.heap.size w w' := by
  have h := squeeze_any (sqz s) w (Nat.le_trans (sqz_size s) hs)
  have e : sqz (sqz s) = sqz s := by
    show Tx.bs (Tx.squeeze (sqz s).data.toList) = Tx.bs (Tx.squeeze s.data.toList)
    rw [sqz_data, Tx.squeeze_twice]
  rw [e] at h
  exact h
theorem lower_first (s : ByteArray) (w : World) (hs : s.size ≤ 4194304) : Calls Try.prog 8 #[.string s] w fun e w' =>
    e = .returned (.string (low s)) ∧ Below w.heap.size w w' := lower_any s w hs
theorem lower_again (s : ByteArray) (w : World) (hs : s.size ≤ 4194304) : Calls Try.prog 8 #[.string (low s)] w fun e w' =>
    e = .returned (.string (low s)) ∧ Below w.heap.size w w' := by
  have h := lower_any (low s) w (by rw [low_size]; exact hs)
  have e : Tx.bs (lowL (low s).data.toList) = low s := by
    show Tx.bs (lowL (lowL s.data.toList)) = Tx.bs (lowL s.data.toList)
    rw [lowL_twice]
  rw [e] at h
  exact h

/-- the words of a text as a slice, empty or not: a length by a name -/
theorem tokens_any (s : ByteArray) (n : Nat) (w : World) (hs : s.size ≤ 4194304) (hn : (toksOf s).length = n) : Calls Try.prog 6 #[.string s] w fun e w' =>
    ∃ a c, e = .returned (.slice a n c) ∧ Below w.heap.size w w' := by
  subst hn
  by_cases h : toksOf s = []
  · refine (tokens_none s w hs h).mono ?_
    rintro e w' ⟨rfl, hb⟩
    rw [h]
    exact ⟨none, 0, rfl, hb⟩
  · refine (tokens_some s w hs h).mono ?_
    rintro e w' ⟨g, c, rfl, _, hb⟩
    exact ⟨_, c, rfl, hb⟩

/-- what stands at a blank of a squeezed text -/
theorem plain_at (q : ByteArray) (h : Tx.plain q.data.toList) (k : Nat) (hk : k < q.size) (hb : Tx.blank q[k] = true) :
    ∃ j, k = j + 1 ∧ k + 1 < q.size ∧ q[k] = 32 ∧ ∃ hj : j < q.size, q[j] ≠ 32 := by
  obtain ⟨h1, h2, h3, d, h4, h5⟩ := h k q[k] (byte_at q k hk) hb
  rw [← Lib.size_eq] at h3
  refine ⟨k - 1, by omega, h3, h1, by omega, ?_⟩
  rw [byte_at q (k - 1) (by omega)] at h4
  cases h4
  intro e
  rw [e] at h5
  exact absurd h5 (by decide)

set_option maxHeartbeats 800000 in
set_option maxRecDepth 100000 in
theorem twice_walk (s : ByteArray) (w : World) (hs : s.size ≤ 1048576) :
    Calls Try.prog 4 #[.string s] w fun e w' => e = .returned (.bool true) ∧ Below w.heap.size w w' := by
  obtain ⟨n, hn⟩ : ∃ n, (toksOf s).length = n := ⟨_, rfl⟩
  have hls := low_size s
  have hqs := sqz_size s
  have H : Hid ((toksOf s).length = n ∧ (toksOf (sqz s)).length = n ∧ Tx.plain (sqz s).data.toList) := ⟨hn, by rw [sqz_toks, hn], sqz_plain s⟩
  have hnl := toksOf_len s
  rw [hn] at hnl
  clear hn
  have d2 : ¬ s.size < (sqz s).size := by omega
  go_enter Try.func4, Try.ntmps4
  go_wp2_with fail
  refine (alive_any _).mono ?_
  rintro e w0 ⟨rfl, hb0⟩
  go_wp2_with fail
  refine (squeeze_any s _ (by omega)).mono ?_
  rintro e w1 ⟨rfl, hb1⟩
  go_wp2_with fail
  refine (lower_first s _ (by omega)).mono ?_
  rintro e w2 ⟨rfl, hb2⟩
  go_wp2_with fail
  refine (squeeze_again s _ (by omega)).mono ?_
  rintro e w3 ⟨rfl, hb3⟩
  go_wp2_with fail
  refine (lower_again s _ (by omega)).mono ?_
  rintro e w4 ⟨rfl, hb4⟩
  go_wp2_with fail
  refine (tokens_any (sqz s) n _ (by omega) H.out.2.1).mono ?_
  rintro e w5 ⟨a5, c5, rfl, hb5⟩
  go_wp2_with fail
  refine (tokens_any s n _ (by omega) H.out.1).mono ?_
  rintro e w6 ⟨a6, c6, rfl, hb6⟩
  go_wp2
  have HB : Hid (Below w.heap.size w w6) := by
    have s0 := hb0.size
    have s1 := hb1.size
    have s2 := hb2.size
    have s3 := hb3.size
    have s4 := hb4.size
    have s5 := hb5.size
    exact (((((hb0.trans (hb1.mono s0)).trans (hb2.mono (by omega))).trans (hb3.mono (by omega))).trans (hb4.mono (by omega))).trans (hb5.mono (by omega))).trans (hb6.mono (by omega))
  clear hb0 hb1 hb2 hb3 hb4 hb5 hb6
  go_loop [47] (fun i => ∃ k : Nat, k ≤ (sqz s).size ∧ i = .int .i64 k) (fun i => (sqz s).size - (intOf i).toNat)
  case atStart => exact ⟨0, Nat.zero_le _, rfl⟩
  case round =>
    obtain ⟨k, hk, rfl⟩ := hrel
    by_cases hlt : k < (sqz s).size
    · cases hb : Tx.blank (sqz s)[k] with
      | false =>
        go_wp2_with (go_at_call 16; refine (blank_any _ _).mono ?_; rintro e w' ⟨rfl, hww⟩; subst hww)
        go_round
        case rel => exact ⟨k + 1, by omega, by go_num⟩
        case measure => simp [intOf]; omega
      | true =>
        obtain ⟨j, rfl, hj1, hj2, hj3, hj4⟩ := plain_at (sqz s) H.out.2.2 k hlt hb
        have p1 : (((sqz s)[j + 1].toNat : Int) != 32) = false := by rw [hj2]; rfl
        have p2 : (((sqz s)[j].toNat : Int) == 32) = false := by
          rw [beq_eq_false_iff_ne]
          intro e
          apply hj4
          apply UInt8.toNat_inj.1
          show (sqz s)[j].toNat = 32
          omega
        have p3 : ((j : Int) + 1 == 0) = false := beq_eq_false_iff_ne.2 (by omega)
        have p4 : ((j : Int) + 1 == ((sqz s).size : Int) - 1) = false := beq_eq_false_iff_ne.2 (by omega)
        clear hj2 hj4
        go_wp2_with (go_at_call 16; refine (blank_any _ _).mono ?_; rintro e w' ⟨rfl, hww⟩; subst hww)
        go_round
        case rel => exact ⟨j + 1 + 1, by omega, by go_num⟩
        case measure => simp [intOf]; omega
    · go_wp2
      go_ret
      exact ⟨rfl, HB.out⟩

end Go.Proofs.Yteapdajkacgeiaa
