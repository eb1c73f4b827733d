/-
  THE WALK of the statements' own closed question 'alive': it says yes.
-/
import Derived.Test.YteapdajkacgeiaaNam
namespace Go.Proofs.Yteapdajkacgeiaa
open Go.RowKit

theorem al_blank (w : World) : Calls Try.prog 16 #[.int .u8 32] w fun e w' => e = .returned (.bool true) ∧ w' = w := blank_any 32 w
theorem al_lower (w : World) : Calls Try.prog 8 #[.string ⟨#[65, 98]⟩] w fun e w' => e = .returned (.string ⟨#[97, 98]⟩) ∧ Below w.heap.size w w' := lower_any ⟨#[65, 98]⟩ w (by decide)
theorem al_tok_eq : toksOf ⟨#[32, 97, 32, 32, 98, 32]⟩ = [[97], [98]] := by decide
theorem al_tokens (w : World) : Calls Try.prog 6 #[.string ⟨#[32, 97, 32, 32, 98, 32]⟩] w fun e w' => ∃ g c, e = .returned (.slice (some ⟨g, 0, none⟩) 2 c) ∧ Below w.heap.size w w' := by
  refine (tokens_some ⟨#[32, 97, 32, 32, 98, 32]⟩ w (by decide) (by rw [al_tok_eq]; simp)).mono ?_
  rintro e w' ⟨g, c, rfl, _, hb⟩
  rw [al_tok_eq]
  exact ⟨g, c, rfl, hb⟩
theorem al_sq_eq : sqz ⟨#[32, 97, 32, 10, 32, 98]⟩ = ⟨#[97, 32, 98]⟩ := by decide
theorem al_squeeze (w : World) : Calls Try.prog 10 #[.string ⟨#[32, 97, 32, 10, 32, 98]⟩] w fun e w' => e = .returned (.string ⟨#[97, 32, 98]⟩) ∧ Below w.heap.size w w' := by
  have h := squeeze_any ⟨#[32, 97, 32, 10, 32, 98]⟩ w (by decide)
  rw [al_sq_eq] at h
  exact h
theorem al_num_eq : numL (toksOf ⟨#[32, 55, 32]⟩) = 7 := by decide
theorem al_num (w : World) : Calls Try.prog 12 #[.string ⟨#[32, 55, 32]⟩] w fun e w' => e = .returned (.int .i64 7) ∧ Below w.heap.size w w' := by
  have h := num_any ⟨#[32, 55, 32]⟩ w (by decide)
  rw [al_num_eq] at h
  exact h
theorem al_name_eq : nameL [104, 49] = true := by decide
theorem al_name (w : World) : Calls Try.prog 14 #[.string ⟨#[104, 49]⟩] w fun e w' => e = .returned (.bool true) ∧ Below w.heap.size w w' := by
  have h := name_any ⟨#[104, 49]⟩ w (by decide)
  have e : nameL (⟨#[104, 49]⟩ : ByteArray).data.toList = true := al_name_eq
  rw [e] at h
  exact h
theorem al_name_no_eq : nameL [49, 104] = false := by decide
theorem al_name_no (w : World) : Calls Try.prog 14 #[.string ⟨#[49, 104]⟩] w fun e w' => e = .returned (.bool false) ∧ Below w.heap.size w w' := by
  have h := name_any ⟨#[49, 104]⟩ w (by decide)
  have e : nameL (⟨#[49, 104]⟩ : ByteArray).data.toList = false := al_name_no_eq
  rw [e] at h
  exact h

set_option maxHeartbeats 400000 in
theorem alive_any (w : World) : Calls Try.prog 18 #[] w fun e w' => e = .returned (.bool true) ∧ Below w.heap.size w w' := by
  go_enter Try.func18, Try.ntmps18
  go_wp2_with fail
  refine (al_blank _).mono ?_
  rintro e w' ⟨rfl, hww⟩
  subst hww
  go_wp2_with fail
  refine (al_lower _).mono ?_
  rintro e w1 ⟨rfl, hb1⟩
  go_wp2_with fail
  refine (al_tokens _).mono ?_
  rintro e w2 ⟨g, c, rfl, hb2⟩
  go_wp2_with fail
  refine (al_squeeze _).mono ?_
  rintro e w3 ⟨rfl, hb3⟩
  go_wp2_with fail
  refine (al_num _).mono ?_
  rintro e w4 ⟨rfl, hb4⟩
  go_wp2_with fail
  refine (al_name _).mono ?_
  rintro e w5 ⟨rfl, hb5⟩
  go_wp2_with fail
  refine (al_name_no _).mono ?_
  rintro e w6 ⟨rfl, hb6⟩
  go_wp2
  go_ret
  refine ⟨rfl, ?_⟩
  have s1 := hb1.size
  have s2 := hb2.size
  have s3 := hb3.size
  have s4 := hb4.size
  have s5 := hb5.size
  exact ((((hb1.trans (hb2.mono s1)).trans (hb3.mono (by omega))).trans (hb4.mono (by omega))).trans (hb5.mono (by omega))).trans (hb6.mono (by omega))

end Go.Proofs.Yteapdajkacgeiaa
