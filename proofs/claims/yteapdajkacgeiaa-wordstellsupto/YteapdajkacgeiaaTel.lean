/-
  THE WALK of WordsTells: words answers as the reference does.
-/
import Derived.Test.YteapdajkacgeiaaRnum
import Derived.Deep.QuietTactic
import Derived.BigQuiet
namespace Go.Proofs.Yteapdajkacgeiaa
open Go.RowKit

theorem words_drewN {B g c : Nat} {ts : List (List UInt8)} {w : World} (h : Words B ts g c w) (q : Nat) : Words B ts g c (w.drewN q) :=
  ⟨h.1, by simpa using h.2.1, h.2.2.1, fun j t hj => by simpa using h.2.2.2 j t hj⟩

set_option maxHeartbeats 1600000 in
set_option maxRecDepth 100000 in
theorem tells_walk (s : ByteArray) (w : World) (hs : s.size ≤ 1048576) :
    Calls Try.prog 3 #[.string s] w fun e w' => e = .returned (.bool true) ∧ Below w.heap.size w w' := by
  obtain ⟨n, hn⟩ : ∃ n, (toksOf s).length = n := ⟨_, rfl⟩
  have hnl := toksOf_len s
  rw [hn] at hnl
  by_cases hne : toksOf s = []
  · have H : Hid (toksOf s = []) := hne
    clear hn hne hnl
    go_enter Try.func3, Try.ntmps3
    go_wp2_with fail
    refine (tokens_none s _ (by omega) H.out).mono ?_
    rintro e w1 ⟨rfl, hb1⟩
    go_wp2_with fail
    refine (rtokens_none s _ (by omega) H.out).mono ?_
    rintro e w2 ⟨rfl, hb2⟩
    go_wp2_with fail
    refine (lower_any s _ (by omega)).mono ?_
    rintro e w3 ⟨rfl, hb3⟩
    go_wp2_with fail
    refine (rlower_any s _ (by omega)).mono ?_
    rintro e w4 ⟨rfl, hb4⟩
    go_wp2_with fail
    refine (squeeze_any s _ (by omega)).mono ?_
    rintro e w5 ⟨rfl, hb5⟩
    go_wp2_with fail
    refine (rsqueeze_any s _ (by omega)).mono ?_
    rintro e w6 ⟨rfl, hb6⟩
    go_wp2_with fail
    refine (num_any s _ (by omega)).mono ?_
    rintro e w7 ⟨rfl, hb7⟩
    go_wp2_with fail
    refine (rnum_any s _ (by omega)).mono ?_
    rintro e w8 ⟨rfl, hb8⟩
    go_wp2_with fail
    refine (name_any s _ (by omega)).mono ?_
    rintro e w9 ⟨rfl, hb9⟩
    go_wp2_with fail
    refine (rname_any s _ (by omega)).mono ?_
    rintro e w10 ⟨rfl, hw10⟩
    subst hw10
    go_wp2
    have HB : Hid (Below w.heap.size w w10) := by
      have s1 := hb1.size
      have s2 := hb2.size
      have s3 := hb3.size
      have s4 := hb4.size
      have s5 := hb5.size
      have s6 := hb6.size
      have s7 := hb7.size
      have s8 := hb8.size
      exact (((((((hb1.trans (hb2.mono s1)).trans (hb3.mono (by omega))).trans (hb4.mono (by omega))).trans (hb5.mono (by omega))).trans (hb6.mono (by omega))).trans (hb7.mono (by omega))).trans (hb8.mono (by omega))).trans (hb9.mono (by omega))
    clear hb1 hb2 hb3 hb4 hb5 hb6 hb7 hb8 hb9
    refine wp_loop_rounds 1 ?_
    rw [rounds_succ]
    go_wp2
    go_loopw [61] (fun i wr => ∃ k : Nat, k ≤ s.size ∧ i = .int .i64 k ∧ Below w.heap.size w wr) (fun i _ => s.size - (intOf i).toNat)
    case atStart => exact ⟨0, Nat.zero_le _, rfl, HB.out⟩
    case round =>
      clear HB
      obtain ⟨k, hk, rfl, hVb⟩ := hrel
      by_cases hlt : k < s.size
      · have hlz : (k : Int) < (s.size : Int) := by omega
        go_wp2
        go_quiet ((first | (go_at_call 16; exact Calls.quiet_of_same (blank_any _ _)) | (go_at_call 17; exact Calls.quiet_of_same (rblank_any _ _))))
        go_wp2
        go_roundw
        case rel => exact ⟨k + 1, by omega, by go_num, below_drewN hVb _⟩
        case measure => simp [intOf]; omega
      · go_wp2
        go_ret
        exact ⟨rfl, hVb⟩
  · have cT := tokens_some s
    have cR := rtokens_some s
    rw [hn] at cT cR
    have H : Hid ((toksOf s).length = n ∧ toksOf s ≠ []) := ⟨hn, hne⟩
    clear hn hne
    go_enter Try.func3, Try.ntmps3
    go_wp2_with fail
    refine (cT _ (by omega) H.out.2).mono ?_
    rintro e w1 ⟨g1, c1, rfl, hW1, hb1⟩
    go_wp2_with fail
    refine (cR _ (by omega) H.out.2).mono ?_
    rintro e w2 ⟨g2, c2, rfl, hW2, hb2⟩
    go_wp2_with fail
    refine (lower_any s _ (by omega)).mono ?_
    rintro e w3 ⟨rfl, hb3⟩
    go_wp2_with fail
    refine (rlower_any s _ (by omega)).mono ?_
    rintro e w4 ⟨rfl, hb4⟩
    go_wp2_with fail
    refine (squeeze_any s _ (by omega)).mono ?_
    rintro e w5 ⟨rfl, hb5⟩
    go_wp2_with fail
    refine (rsqueeze_any s _ (by omega)).mono ?_
    rintro e w6 ⟨rfl, hb6⟩
    go_wp2_with fail
    refine (num_any s _ (by omega)).mono ?_
    rintro e w7 ⟨rfl, hb7⟩
    go_wp2_with fail
    refine (rnum_any s _ (by omega)).mono ?_
    rintro e w8 ⟨rfl, hb8⟩
    go_wp2_with fail
    refine (name_any s _ (by omega)).mono ?_
    rintro e w9 ⟨rfl, hb9⟩
    go_wp2_with fail
    refine (rname_any s _ (by omega)).mono ?_
    rintro e w10 ⟨rfl, hw10⟩
    subst hw10
    go_wp2
    have HW : Hid (Words w.heap.size (toksOf s) g1 c1 w10 ∧ Words w1.heap.size (toksOf s) g2 c2 w10) :=
      ⟨words_below (words_below (words_below (words_below (words_below (words_below (words_below (words_below hW1 hb2) hb3) hb4) hb5) hb6) hb7) hb8) hb9,
        words_below (words_below (words_below (words_below (words_below (words_below (words_below hW2 hb3) hb4) hb5) hb6) hb7) hb8) hb9⟩
    have HB : Hid (Below w.heap.size w w10) := by
      have s1 := hb1.size
      have s2 := hb2.size
      have s3 := hb3.size
      have s4 := hb4.size
      have s5 := hb5.size
      have s6 := hb6.size
      have s7 := hb7.size
      have s8 := hb8.size
      exact (((((((hb1.trans (hb2.mono s1)).trans (hb3.mono (by omega))).trans (hb4.mono (by omega))).trans (hb5.mono (by omega))).trans (hb6.mono (by omega))).trans (hb7.mono (by omega))).trans (hb8.mono (by omega))).trans (hb9.mono (by omega))
    clear hW1 hW2 hb1 hb2 hb3 hb4 hb5 hb6 hb7 hb8 hb9
    go_loopw [46] (fun i wr => ∃ k : Nat, k ≤ n ∧ i = .int .i64 k ∧ Words w.heap.size (toksOf s) g1 c1 wr ∧ Words w1.heap.size (toksOf s) g2 c2 wr ∧ Below w.heap.size w wr) (fun i _ => n - (intOf i).toNat)
    case atStart => exact ⟨0, Nat.zero_le _, rfl, HW.out.1, HW.out.2, HB.out⟩
    case round =>
      clear HW HB
      obtain ⟨k, hk, rfl, hV1, hV2, hVb⟩ := hrel
      by_cases hlt : k < n
      · obtain ⟨x, hx⟩ : ∃ x, (toksOf s)[k]? = some x := ⟨_, List.getElem?_eq_getElem (by rw [H.out.1]; exact hlt)⟩
        have q1 : wr.cell? ⟨g1, k, none⟩ = some (.string (Tx.bs x)) := hV1.2.2.2 k x hx
        have q2 : wr.cell? ⟨g2, k, none⟩ = some (.string (Tx.bs x)) := hV2.2.2.2 k x hx
        have hlz : (k : Int) < (n : Int) := by omega
        clear hx
        go_wp2
        go_quiet (fail)
        go_wp2
        go_roundw
        case rel => exact ⟨k + 1, by omega, by go_num, words_drewN hV1 _, words_drewN hV2 _, below_drewN hVb _⟩
        case measure => simp [intOf]; omega
      · go_wp2
        go_loopw [61] (fun i wr => ∃ k : Nat, k ≤ s.size ∧ i = .int .i64 k ∧ Below w.heap.size w wr) (fun i _ => s.size - (intOf i).toNat)
        case atStart => exact ⟨0, Nat.zero_le _, rfl, hVb⟩
        case round =>
          clear hV1 hV2 hVb
          obtain ⟨k, hk, rfl, hVb⟩ := hrel
          by_cases hlt : k < s.size
          · have hlz : (k : Int) < (s.size : Int) := by omega
            go_wp2
            go_quiet ((first | (go_at_call 16; exact Calls.quiet_of_same (blank_any _ _)) | (go_at_call 17; exact Calls.quiet_of_same (rblank_any _ _))))
            go_wp2
            go_roundw
            case rel => exact ⟨k + 1, by omega, by go_num, below_drewN hVb _⟩
            case measure => simp [intOf]; omega
          · go_wp2
            go_ret
            exact ⟨rfl, hVb⟩

end Go.Proofs.Yteapdajkacgeiaa
