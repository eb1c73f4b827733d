/-
  THE WALKS of the reference's Num and Name.
-/
import Derived.Test.YteapdajkacgeiaaRsqz
namespace Go.Proofs.Yteapdajkacgeiaa
open Go.RowKit

theorem digit_yes (c : UInt8) (h : digitB c = true) : 48 ≤ c.toNat ∧ c.toNat ≤ 57 := by simpa [digitB] using h
theorem digit_no (c : UInt8) (h : digitB c = false) : c.toNat < 48 ∨ 57 < c.toNat := by
  by_cases h1 : 48 ≤ c.toNat
  · by_cases h2 : c.toNat ≤ 57
    · simp [digitB, h1, h2] at h
    · omega
  · omega
theorem letter_yes (c : UInt8) (h : letterB c = true) : 97 ≤ c.toNat ∧ c.toNat ≤ 122 := by simpa [letterB] using h
theorem letter_no (c : UInt8) (h : letterB c = false) : c.toNat < 97 ∨ 122 < c.toNat := by
  by_cases h1 : 97 ≤ c.toNat
  · by_cases h2 : c.toNat ≤ 122
    · simp [letterB, h1, h2] at h
    · omega
  · omega

set_option maxHeartbeats 800000 in
set_option maxRecDepth 100000 in
theorem rnum_any (s : ByteArray) (w : World) (hs : s.size ≤ 4194304) : Calls Try.prog 13 #[.string s] w fun e w' =>
    e = .returned (.int .i64 (numL (toksOf s))) ∧ Below w.heap.size w w' := by
  have hl := toksOf_len s
  rcases Nat.lt_trichotomy (toksOf s).length 1 with h0 | h1 | h2
  · have hn : toksOf s = [] := List.length_eq_zero_iff.1 (by omega)
    have e : numL (toksOf s) = 0 := num_nil s hn
    rw [e]
    go_enter Try.func13, Try.ntmps13
    go_wp2_with fail
    refine (rtokens_none s _ hs hn).mono ?_
    rintro e w1 ⟨rfl, hb1⟩
    go_wp2
    go_ret
    exact ⟨rfl, hb1⟩
  · obtain ⟨t, ht⟩ := List.length_eq_one_iff.1 h1
    have hne : toksOf s ≠ [] := by rw [ht]; simp
    have hnum : numL (toksOf s) = numT t := by rw [ht]; rfl
    rw [hnum]
    have cT := rtokens_some s w hs hne
    rw [ht] at cT
    clear hnum h1 hne hl
    obtain ⟨b, hbt⟩ : ∃ b, b = Tx.bs t := ⟨_, rfl⟩
    have hbd : b.data.toList = t := by rw [hbt]; rfl
    have hbz : b.size = t.length := by rw [hbt]; rfl
    have HT : Hid (b = Tx.bs t ∧ b.data.toList = t ∧ b.size = t.length) := ⟨hbt, hbd, hbz⟩
    by_cases hlen : 2 < t.length
    · rw [numT_long t hlen]
      have hlz : (2 : Int) < (b.size : Int) := by omega
      clear hbt hbd hbz
      go_enter Try.func13, Try.ntmps13
      go_wp2_with fail
      refine cT.mono ?_
      rintro e w1 ⟨g, c, rfl, hW, hb1⟩
      have hcell : w1.cell? ⟨g, 0, none⟩ = some (.string b) := by rw [HT.out.1]; exact hW.2.2.2 0 t rfl
      go_wp2
      go_ret
      exact ⟨rfl, hb1⟩
    · have HL : Hid (¬ 2 < t.length) := hlen
      have hlz : ¬ (2 : Int) < (b.size : Int) := by omega
      have hb2 : b.size ≤ 2 := by omega
      clear hbt hbd hbz hlen
      go_enter Try.func13, Try.ntmps13
      go_wp2_with fail
      refine cT.mono ?_
      rintro e w1 ⟨g, c, rfl, hW, hb1⟩
      have hcell : w1.cell? ⟨g, 0, none⟩ = some (.string b) := by rw [HT.out.1]; exact hW.2.2.2 0 t rfl
      clear hW
      go_wp2
      go_loop [4, 23] (fun n i => ∃ k : Nat, k ≤ b.size ∧ i = .int .i64 k ∧ n = .int .i64 (valL (t.take k)) ∧ (∀ d ∈ t.take k, digitB d = true)) (fun _ i => b.size - (intOf i).toNat)
      case atStart => exact ⟨0, Nat.zero_le _, rfl, rfl, fun d hd => by cases hd⟩
      case round =>
        obtain ⟨k, hk, rfl, rfl, hall⟩ := hrel
        have HA : Hid (∀ d ∈ t.take k, digitB d = true) := hall
        have hv := val_le (t.take k) hall
        have htl : (t.take k).length = k := by rw [List.length_take, ← HT.out.2.2]; omega
        rw [htl] at hv
        clear hall htl
        by_cases hlt : k < b.size
        · have hk2 : k = 0 ∨ k = 1 := by omega
          have hv9 : valL (t.take k) ≤ 9 := by
            rcases hk2 with rfl | rfl
            · rw [Nat.pow_zero] at hv; omega
            · rw [Nat.pow_one] at hv; omega
          clear hv hk2
          have HD : Hid (t[k]? = some b[k]) := by
            have := byte_at b k hlt
            rw [HT.out.2.1] at this
            exact this
          have h256 : b[k].toNat < 256 := b[k].toNat_lt
          cases hb : digitB b[k] with
          | true =>
            obtain ⟨h48, h57⟩ := digit_yes _ hb
            go_wp2
            go_round
            case rel => exact ⟨k + 1, by omega, by go_num, by rw [tk_snoc t k _ HD.out, val_snoc]; go_num, take_step HA.out HD.out hb⟩
            case measure => simp [intOf]; omega
          | false =>
            have hno := digit_no _ hb
            rcases hno with h48 | h57
            · go_wp2
              go_ret
              exact ⟨ret_int (by rw [numT_bad t (all_false HD.out hb)]; rfl), hb1⟩
            · go_wp2
              go_ret
              exact ⟨ret_int (by rw [numT_bad t (all_false HD.out hb)]; rfl), hb1⟩
        · obtain rfl : k = b.size := by omega
          go_wp2
          go_ret
          have ha := HA.out
          rw [HT.out.2.2] at ha
          exact ⟨ret_int (by rw [numT_good t HL.out (all_true ha), HT.out.2.2, List.take_length]), hb1⟩
  · have e : numL (toksOf s) = 0 := num_two s h2
    have hne : toksOf s ≠ [] := by intro h; rw [h] at h2; simp at h2
    rw [e]
    have hb : (((toksOf s).length : Int) == 1) = false := by simp; omega
    go_enter Try.func13, Try.ntmps13
    go_wp2_with fail
    refine (rtokens_some s _ hs hne).mono ?_
    rintro e w1 ⟨g, c, rfl, hW, hb1⟩
    go_wp2
    go_ret
    exact ⟨rfl, hb1⟩

theorem ok_45 (c : UInt8) (h : c.toNat = 45) : okB c = true := by
  have : c = 45 := UInt8.toNat_inj.1 h
  rw [this]
  decide
theorem ok_digit (c : UInt8) (h1 : 48 ≤ c.toNat) (h2 : c.toNat ≤ 57) : okB c = true := by simp [okB, digitB, h1, h2]
theorem ok_no (c : UInt8) (h : letterB c = false) (h1 : ¬ c.toNat = 45) (h2 : c.toNat < 48 ∨ 57 < c.toNat) : okB c = false := by
  have hd : digitB c = false := by
    unfold digitB
    rcases h2 with h2 | h2
    · rw [decide_eq_false (by omega)]
      rfl
    · rw [decide_eq_false (p := c.toNat ≤ 57) (by omega)]
      simp
  have hc : (c == 45) = false := beq_eq_false_iff_ne.2 (fun e => h1 (by rw [e]; rfl))
  simp [okB, h, hd, hc]

set_option maxHeartbeats 2000000 in
set_option maxRecDepth 100000 in
theorem rname_any (s : ByteArray) (w : World) (hs : s.size ≤ 4194304) : Calls Try.prog 15 #[.string s] w fun e w' =>
    e = .returned (.bool (nameL s.data.toList)) ∧ w' = w := by
  have HS : Hid (s.size = s.data.toList.length) := Lib.size_eq s
  go_enter Try.func15, Try.ntmps15
  go_wp2
  go_loop [8] (fun i => ∃ k : Nat, k ≤ s.size ∧ i = .int .i64 k ∧ (∀ d ∈ s.data.toList.take k, okB d = true) ∧ (0 < k → ∃ c, s.data.toList[0]? = some c ∧ letterB c = true)) (fun i => s.size - (intOf i).toNat)
  case atStart => exact ⟨0, Nat.zero_le _, rfl, fun d hd => (by cases hd), fun h => (by omega)⟩
  case round =>
    obtain ⟨k, hk, rfl, hall, hfst⟩ := hrel
    have HA : Hid ((∀ d ∈ s.data.toList.take k, okB d = true) ∧ (0 < k → ∃ c, s.data.toList[0]? = some c ∧ letterB c = true)) := ⟨hall, hfst⟩
    clear hall hfst
    by_cases hlt : k < s.size
    · have HD : Hid (s.data.toList[k]? = some s[k]) := byte_at s k hlt
      have hok : okB s[k] = (letterB s[k] || digitB s[k] || s[k] == 45) := rfl
      cases hl : letterB s[k] with
      | true =>
        obtain ⟨h97, h122⟩ := letter_yes _ hl
        have H2 : Hid (okB s[k] = true ∧ letterB s[k] = true) := ⟨by rw [hl] at hok; exact hok, hl⟩
        clear hok hl
        go_wp2
        go_round
        case rel => exact ⟨k + 1, by omega, by go_num, take_step HA.out.1 HD.out H2.out.1, fun _ => by
          cases k with
          | zero => exact ⟨_, HD.out, H2.out.2⟩
          | succ j => exact HA.out.2 (by omega)⟩
        case measure => simp [intOf]; omega
      | false =>
        have hno := letter_no _ hl
        have HL : Hid (letterB s[k] = false) := hl
        clear hok hl
        cases k with
        | zero =>
          rcases hno with h97 | h122
          · go_wp2
            go_ret
            exact ⟨ret_bool (name_head _ _ HD.out HL.out).symm, rfl⟩
          · have g97 : (97 : Int) ≤ (s[0].toNat : Int) := by omega
            go_wp2
            go_ret
            exact ⟨ret_bool (name_head _ _ HD.out HL.out).symm, rfl⟩
        | succ j =>
          have hj0 : ((j : Int) + 1 == 0) = false := beq_eq_false_iff_ne.2 (by omega)
          by_cases e45 : s[j + 1].toNat = 45
          · have H2 : Hid (okB s[j + 1] = true) := ok_45 _ e45
            clear hno
            go_wp2
            go_round
            case rel => exact ⟨j + 1 + 1, by omega, by go_num, take_step HA.out.1 HD.out H2.out, fun _ => HA.out.2 (by omega)⟩
            case measure => simp [intOf]; omega
          · by_cases hdg : 48 ≤ s[j + 1].toNat ∧ s[j + 1].toNat ≤ 57
            · obtain ⟨h48, h57⟩ := hdg
              have H2 : Hid (okB s[j + 1] = true) := ok_digit _ h48 h57
              clear hno
              go_wp2
              go_round
              case rel => exact ⟨j + 1 + 1, by omega, by go_num, take_step HA.out.1 HD.out H2.out, fun _ => HA.out.2 (by omega)⟩
              case measure => simp [intOf]; omega
            · have hd2 : s[j + 1].toNat < 48 ∨ 57 < s[j + 1].toNat := by omega
              have H2 : Hid (okB s[j + 1] = false) := ok_no _ HL.out e45 hd2
              have n45 : ((s[j + 1].toNat : Int) != 45) = true := by rw [bne_iff_ne]; omega
              clear e45 hdg
              rcases hno with h97 | h122
              · rcases hd2 with h48 | h57
                · go_wp2
                  go_ret
                  exact ⟨ret_bool (name_bad _ (all_false HD.out H2.out)).symm, rfl⟩
                · go_wp2
                  go_ret
                  exact ⟨ret_bool (name_bad _ (all_false HD.out H2.out)).symm, rfl⟩
              · have h57 : 57 < s[j + 1].toNat := by omega
                have n122 : decide ((s[j + 1].toNat : Int) ≤ 122) = false := decide_eq_false (by omega)
                clear hd2
                go_wp2
                go_ret
                exact ⟨ret_bool (name_bad _ (all_false HD.out H2.out)).symm, rfl⟩
    · obtain rfl : k = s.size := by omega
      by_cases h0 : 0 < s.size
      · obtain ⟨c, hc, hcl⟩ := HA.out.2 h0
        have ha := HA.out.1
        rw [HS.out] at ha
        by_cases h20 : s.size ≤ 20
        · have hg : nameL s.data.toList = true := name_good _ _ hc hcl (by rw [← HS.out]; omega) (all_true ha)
          have HG : Hid (nameL s.data.toList = true) := hg
          clear hg ha hc hcl
          go_wp2
          go_ret
          exact ⟨ret_bool (by rw [HG.out]; simp; omega), rfl⟩
        · have hg : nameL s.data.toList = false := name_long _ (by rw [← HS.out]; omega)
          have HG : Hid (nameL s.data.toList = false) := hg
          clear hg ha hc hcl
          go_wp2
          go_ret
          exact ⟨ret_bool (by rw [HG.out]; simp; omega), rfl⟩
      · have hl : s.data.toList = [] := List.length_eq_zero_iff.1 (by rw [← HS.out]; omega)
        have HG : Hid (nameL s.data.toList = false) := by rw [hl]; exact name_nil
        clear hl
        go_wp2
        go_ret
        exact ⟨ret_bool (by rw [HG.out]), rfl⟩

end Go.Proofs.Yteapdajkacgeiaa
