/-
  THE WALK of words.Name.
-/
import Derived.Test.YteapdajkacgeiaaNum
namespace Go.Proofs.Yteapdajkacgeiaa
open Go.RowKit

theorem name_nil : nameL [] = false := rfl
theorem name_long (l : List UInt8) (h : 20 < l.length) : nameL l = false := by
  unfold nameL
  rw [decide_eq_false (by omega)]
  simp
theorem name_head (l : List UInt8) (c : UInt8) (hc : l[0]? = some c) (h : letterB c = false) : nameL l = false := by
  cases l with
  | nil => cases hc
  | cons x r =>
    simp at hc
    subst hc
    simp [nameL, h]
theorem name_bad (l : List UInt8) (h : l.all okB = false) : nameL l = false := by
  unfold nameL
  rw [h]
  simp
theorem name_good (l : List UInt8) (c : UInt8) (hc : l[0]? = some c) (h : letterB c = true) (hl : ¬ 20 < l.length) (ha : l.all okB = true) : nameL l = true := by
  cases l with
  | nil => cases hc
  | cons x r =>
    simp at hc
    subst hc
    unfold nameL
    rw [ha, decide_eq_true (by omega)]
    simp [h]

set_option maxHeartbeats 800000 in
set_option maxRecDepth 100000 in
theorem name_any (s : ByteArray) (w : World) (hs : s.size ≤ 4194304) : Calls Try.prog 14 #[.string s] w fun e w' =>
    e = .returned (.bool (nameL s.data.toList)) ∧ Below w.heap.size w w' := by
  have hsz := Lib.size_eq s
  by_cases h0 : s.size = 0
  · have hl : s.data.toList = [] := List.length_eq_zero_iff.1 (by omega)
    have hem : s.toList.isEmpty = true := by rw [Lib.toList_data, hl]; rfl
    rw [hl, name_nil]
    clear hsz hl
    go_enter Try.func14, Try.ntmps14
    go_wp2
    go_ret
    exact ⟨rfl, Below.refl _ _⟩
  · have hem : s.toList.isEmpty = false := by
      rw [Lib.toList_data]
      cases hc : s.data.toList with
      | nil => rw [hc] at hsz; exact absurd hsz h0
      | cons x r => rfl
    by_cases h20 : 20 < s.size
    · rw [name_long _ (by omega)]
      clear hsz
      go_enter Try.func14, Try.ntmps14
      go_wp2
      go_ret
      exact ⟨rfl, Below.refl _ _⟩
    · have hp : 0 < s.size := by omega
      have hb0 := byte_at s 0 hp
      cases hlet : letterB s[0] with
      | false =>
        rw [name_head _ _ hb0 hlet]
        clear hsz hb0
        go_enter Try.func14, Try.ntmps14
        go_wp2_with (go_at_call 22; refine (letter_any _ _).mono ?_; rintro e w' ⟨rfl, hww⟩; subst hww)
        go_ret
        exact ⟨rfl, Below.refl _ _⟩
      | true =>
        have HG : Hid (s.data.toList.all okB = true → nameL s.data.toList = true) := name_good _ _ hb0 hlet (by omega)
        obtain ⟨cap, w1, hconv, hrow⟩ := conv_bytes s w
        clear hsz hb0
        go_enter Try.func14, Try.ntmps14
        go_wp2_with (go_at_call 22; refine (letter_any _ _).mono ?_; rintro e w' ⟨rfl, hww⟩; subst hww)
        have HR : Hid (Row8 _ s.data.toList _ w1) := hrow
        clear hconv hrow
        go_loop [21] (fun i => ∃ k : Nat, k ≤ s.size ∧ i = .int .i64 k ∧ (∀ d ∈ s.data.toList.take k, okB d = true)) (fun i => s.size - (intOf i).toNat)
        case atStart => exact ⟨0, Nat.zero_le _, rfl, fun d hd => by cases hd⟩
        case round =>
          obtain ⟨k, hk, rfl, hall⟩ := hrel
          have HA : Hid (∀ d ∈ s.data.toList.take k, okB d = true) := hall
          clear hall
          by_cases hlt : k < s.size
          · have HD : Hid (s.data.toList[k]? = some s[k]) := byte_at s k hlt
            have hcell := HR.out.1 k s[k] HD.out
            have hok : okB s[k] = (letterB s[k] || digitB s[k] || s[k] == 45) := rfl
            cases hl : letterB s[k] with
            | true =>
              have H2 : Hid (okB s[k] = true) := by rw [hl] at hok; exact hok
              clear hok
              go_wp2_with (first | (go_at_call 22; refine (letter_any _ _).mono ?_; rintro e w' ⟨rfl, hww⟩; subst hww) | (go_at_call 21; refine (digit_any _ _).mono ?_; rintro e w' ⟨rfl, hww⟩; subst hww))
              go_round
              case rel => exact ⟨k + 1, by omega, by go_num, take_step HA.out HD.out H2.out⟩
              case measure => simp [intOf]; omega
            | false =>
              cases hd : digitB s[k] with
              | true =>
                have H2 : Hid (okB s[k] = true) := by rw [hl, hd] at hok; exact hok
                clear hok
                go_wp2_with (first | (go_at_call 22; refine (letter_any _ _).mono ?_; rintro e w' ⟨rfl, hww⟩; subst hww) | (go_at_call 21; refine (digit_any _ _).mono ?_; rintro e w' ⟨rfl, hww⟩; subst hww))
                go_round
                case rel => exact ⟨k + 1, by omega, by go_num, take_step HA.out HD.out H2.out⟩
                case measure => simp [intOf]; omega
              | false =>
                have H2 : Hid (okB s[k] = (s[k] == 45)) := by rw [hl, hd] at hok; exact hok
                clear hok
                go_wp2_with (first | (go_at_call 22; refine (letter_any _ _).mono ?_; rintro e w' ⟨rfl, hww⟩; subst hww) | (go_at_call 21; refine (digit_any _ _).mono ?_; rintro e w' ⟨rfl, hww⟩; subst hww))
                · have hx : ((s[k].toNat : Int) != 45) = true := by assumption
                  have hne : okB s[k] = false := by
                    rw [H2.out, beq_eq_false_iff_ne]
                    intro h
                    rw [h] at hx
                    simp at hx
                  go_ret
                  exact ⟨ret_bool (by rw [name_bad _ (all_false HD.out hne)]), HR.out.2.2.1⟩
                · have hx : ((s[k].toNat : Int) != 45) = false := by assumption
                  have hne : okB s[k] = true := by
                    rw [H2.out, beq_iff_eq]
                    rw [bne_eq_false_iff_eq] at hx
                    apply UInt8.toNat_inj.1
                    show s[k].toNat = 45
                    omega
                  go_round
                  case rel => exact ⟨k + 1, by omega, by go_num, take_step HA.out HD.out hne⟩
                  case measure => simp [intOf]; omega
          · obtain rfl : k = s.size := by omega
            go_wp2
            go_ret
            have ha := HA.out
            rw [Lib.size_eq s] at ha
            exact ⟨ret_bool (HG.out (all_true ha)).symm, HR.out.2.2.1⟩

end Go.Proofs.Yteapdajkacgeiaa
