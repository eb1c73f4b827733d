/-
  OWN WORK: Qhi, Ote.
-/
import Derived.Test.YtkdmmnpcoegenacDoorP9
/-
  THE WALK of the reference's Hidden.
-/
namespace Go.Proofs.YtkdmmnpcoegenacDoor
open Go.RowKit

set_option maxHeartbeats 6400000 in
set_option maxRecDepth 100000 in
theorem qhid_any {b o c : Nat} {rs : List Raw} {d : Tn.Dc} : ∀ (f : Nat) (n : Int) (w : World), Cx w b o c rs d → (∀ k : Nat, n = (k : Int) → Tn.lvD d k = true → posD d k < f) →
    Calls Tryd.prog 16 #[.slice (some ⟨b, o, none⟩) rs.length c, .int .i64 n] w fun e w' => e = .returned (.bool (hidD d n)) ∧ Below w.heap.size w w' := by
  intro f
  induction f with
  | zero =>
    intro n w hc hf
    have his : Tn.isN d n false = false := by
      cases hi : Tn.isN d n false with
      | false => rfl
      | true =>
        obtain ⟨k, rfl, _, hl⟩ := isN_nat hi
        exact absurd (hf k rfl hl) (by omega)
    have E : Hid (hidD d n = true) := hid_nil hc.fine his
    have SI := ris_any hc.doc n false
    rw [his] at SI
    clear hc hf his
    go_enter Tryd.func16, Tryd.ntmps16
    go_wp2_with (go_at_call 36; refine SI.mono ?_; rintro e w1 ⟨rfl, hw1⟩; subst hw1)
    go_ret
    exact ⟨by rw [E.out]; rfl, Below.refl _ _⟩
  | succ f ih =>
    intro n w hc hf
    have SI := ris_any hc.doc n false
    cases his : Tn.isN d n false with
    | false =>
      have E : Hid (hidD d n = true) := hid_nil hc.fine his
      rw [his] at SI
      clear hc hf his ih
      go_enter Tryd.func16, Tryd.ntmps16
      go_wp2_with (go_at_call 36; refine SI.mono ?_; rintro e w1 ⟨rfl, hw1⟩; subst hw1)
      go_ret
      exact ⟨by rw [E.out]; rfl, Below.refl _ _⟩
    | true =>
      obtain ⟨k, rfl, hkl, hlv⟩ := isN_nat his
      have hF := hc.fine
      have HC := hid_cons hF his
      have hpk := hf k rfl hlv
      rw [his] at SI
      have S1 := rattr_all hc.doc (k : Int) ⟨#[104, 105, 100, 100, 101, 110]⟩
      have S2 : ∀ W, Below w.heap.size w W → Calls Tryd.prog 31 #[.slice (some ⟨b, o, none⟩) rs.length c, .int .i64 (k : Int), .string ⟨#[97, 114, 105, 97, 45, 104, 105, 100, 100, 101, 110]⟩] W fun e w' => e = .returned (.string (saidN d (k : Int) ⟨#[97, 114, 105, 97, 45, 104, 105, 100, 100, 101, 110]⟩)) ∧ Below W.heap.size W w' := fun W hb => qsaid_any (hc.below hb).doc hc.vn _ _
      have hz := said_size hc.vn (k : Int) ⟨#[97, 114, 105, 97, 45, 104, 105, 100, 100, 101, 110]⟩
      have S3 : ∀ W, Calls Tryd.prog 27 #[.string (saidN d (k : Int) ⟨#[97, 114, 105, 97, 45, 104, 105, 100, 100, 101, 110]⟩)] W fun e w' => e = .returned (.string (lowS (saidN d (k : Int) ⟨#[97, 114, 105, 97, 45, 104, 105, 100, 100, 101, 110]⟩))) ∧ Below W.heap.size W w' := fun W => Wd.rlower_any _ W hz
      have SU : ∀ W, Below w.heap.size w W → Calls Tryd.prog 20 #[.slice (some ⟨b, o, none⟩) rs.length c, .int .i64 (k : Int)] W fun e w' => e = .returned (.int .i64 (upF d (k : Int))) ∧ Below W.heap.size W w' := fun W hb => qup_any (hc.below hb).doc hF _
      have CE : concD d (k : Int) = ((attrN d (k : Int) ⟨#[104, 105, 100, 100, 101, 110]⟩).isSome || ((lowS (saidN d (k : Int) ⟨#[97, 114, 105, 97, 45, 104, 105, 100, 100, 101, 110]⟩)).toList == [116, 114, 117, 101])) := rfl
      rw [CE] at HC
      clear CE hz
      have SH : ∀ m : Nat, upF d (k : Int) = (m : Int) → ∀ W, Below w.heap.size w W → Calls Tryd.prog 16 #[.slice (some ⟨b, o, none⟩) rs.length c, .int .i64 (m : Int)] W fun e w' => e = .returned (.bool (hidD d (m : Int))) ∧ Below W.heap.size W w' := fun m hm W hb => ih (m : Int) W (hc.below hb) (fun k' e _ => by
        rcases up_cases hF (k : Int) with e1 | ⟨m2, k2, e1, e2, _, _, e5⟩
        · omega
        · have a1 : m = m2 := by omega
          have a2 : k = k2 := by omega
          have a3 : k' = m2 := by omega
          rw [a3]
          rw [a2] at hpk
          omega)
      have UC : upF d (k : Int) = -1 ∨ ∃ m : Nat, upF d (k : Int) = (m : Int) := by
        rcases up_cases hF (k : Int) with e1 | ⟨m2, k2, e1, _⟩
        · exact Or.inl e1
        · exact Or.inr ⟨m2, e1⟩
      clear hc hf ih
      have E : Hid (hidD d (k : Int) = ((attrN d (k : Int) ⟨#[104, 105, 100, 100, 101, 110]⟩).isSome || ((lowS (saidN d (k : Int) ⟨#[97, 114, 105, 97, 45, 104, 105, 100, 100, 101, 110]⟩)).toList == [116, 114, 117, 101]) || (decide (k ≠ 0) && (decide (upF d (k : Int) < 0) || hidD d (upF d (k : Int)))))) := HC
      clear HC
      generalize hidD d (k : Int) = res at *
      generalize lowS (saidN d (k : Int) ⟨#[97, 114, 105, 97, 45, 104, 105, 100, 100, 101, 110]⟩) = z at *
      generalize saidN d (k : Int) ⟨#[97, 114, 105, 97, 45, 104, 105, 100, 100, 101, 110]⟩ = y at *
      generalize valN d (k : Int) ⟨#[104, 105, 100, 100, 101, 110]⟩ = v at *
      generalize (attrN d (k : Int) ⟨#[104, 105, 100, 100, 101, 110]⟩).isSome = q at *
      cases q with
      | true =>
        have E2 : Hid (res = true) := by show _ = _; rw [E.out]; rfl
        clear E UC SH SU S2 S3
        go_enter Tryd.func16, Tryd.ntmps16
        go_wp2_with (first
          | (go_at_call 36; refine SI.mono ?_; rintro e w1 ⟨rfl, hw1⟩; subst hw1)
          | (go_at_call 21; refine S1.mono ?_; rintro e w2 ⟨rfl, hb2⟩))
        go_ret
        exact ⟨by rw [E2.out]; rfl, hb2⟩
      | false =>
        cases hzt : (z.toList == [116, 114, 117, 101]) with
        | true =>
          have E2 : Hid (res = true) := by show _ = _; rw [E.out, hzt]; rfl
          clear E UC SH SU
          go_enter Tryd.func16, Tryd.ntmps16
          go_wp2_with (first
            | (go_at_call 36; refine SI.mono ?_; rintro e w1 ⟨rfl, hw1⟩; subst hw1)
            | (go_at_call 21; refine S1.mono ?_; rintro e w2 ⟨rfl, hb2⟩)
            | (go_at_call 31; refine (S2 _ hb2).mono ?_; rintro e w3 ⟨rfl, hb3⟩; have B3 := hb2.trans (hb3.mono hb2.size))
            | (go_at_call 27; refine (S3 _).mono ?_; rintro e w4 ⟨rfl, hb4⟩; have B4 := B3.trans (hb4.mono B3.size)))
          go_ret
          exact ⟨by rw [E2.out]; rfl, B4⟩
        | false =>
          by_cases hk0 : k = 0
          · have E2 : Hid (res = false) := by show _ = _; rw [E.out, hzt, hk0]; rfl
            subst hk0
            clear E UC SH SU
            go_enter Tryd.func16, Tryd.ntmps16
            go_wp2_with (first
              | (go_at_call 36; refine SI.mono ?_; rintro e w1 ⟨rfl, hw1⟩; subst hw1)
              | (go_at_call 21; refine S1.mono ?_; rintro e w2 ⟨rfl, hb2⟩)
              | (go_at_call 31; refine (S2 _ hb2).mono ?_; rintro e w3 ⟨rfl, hb3⟩; have B3 := hb2.trans (hb3.mono hb2.size))
              | (go_at_call 27; refine (S3 _).mono ?_; rintro e w4 ⟨rfl, hb4⟩; have B4 := B3.trans (hb4.mono B3.size)))
            go_ret
            exact ⟨by rw [E2.out]; rfl, B4⟩
          · have hkq : ((k : Int) != 0) = true := by simp; omega
            have SU2 := SU
            rcases UC with hu | ⟨m, hu⟩
            · have E2 : Hid (res = true) := by show _ = _; rw [E.out, hzt, hu]; simp [hk0]
              rw [hu] at SU
              clear E SH hu hk0 SU2
              go_enter Tryd.func16, Tryd.ntmps16
              go_wp2_with (first
                | (go_at_call 36; refine SI.mono ?_; rintro e w1 ⟨rfl, hw1⟩; subst hw1)
                | (go_at_call 21; refine S1.mono ?_; rintro e w2 ⟨rfl, hb2⟩)
                | (go_at_call 31; refine (S2 _ hb2).mono ?_; rintro e w3 ⟨rfl, hb3⟩; have B3 := hb2.trans (hb3.mono hb2.size))
                | (go_at_call 27; refine (S3 _).mono ?_; rintro e w4 ⟨rfl, hb4⟩; have B4 := B3.trans (hb4.mono B3.size))
                | (go_at_call 20; refine (SU _ B4).mono ?_; rintro e w5 ⟨rfl, hb5⟩; have B5 := B4.trans (hb5.mono B4.size)))
              go_ret
              exact ⟨by rw [E2.out]; rfl, B5⟩
            · have hS := SH m hu
              have E2 : Hid (res = hidD d (m : Int)) := by
                show _ = _
                rw [E.out, hzt, hu]
                have : ¬ ((m : Int) < 0) := by omega
                simp [hk0, this]
              rw [hu] at SU SU2
              clear E SH hu hk0
              generalize hidD d (m : Int) = hm at *
              go_enter Tryd.func16, Tryd.ntmps16
              go_wp2_with (first
                | (go_at_call 36; refine SI.mono ?_; rintro e w1 ⟨rfl, hw1⟩; subst hw1)
                | (go_at_call 21; refine S1.mono ?_; rintro e w2 ⟨rfl, hb2⟩)
                | (go_at_call 31; refine (S2 _ hb2).mono ?_; rintro e w3 ⟨rfl, hb3⟩; have B3 := hb2.trans (hb3.mono hb2.size))
                | (go_at_call 27; refine (S3 _).mono ?_; rintro e w4 ⟨rfl, hb4⟩; have B4 := B3.trans (hb4.mono B3.size))
                | (go_at_call 20; refine (SU _ B4).mono ?_; clear SU; rintro e w5 ⟨rfl, hb5⟩; have B5 := B4.trans (hb5.mono B4.size); have J2 := SU2 w5 B5)
                | (go_at_call 20; refine J2.mono ?_; rintro e w6 ⟨rfl, hb6⟩; have B6 := B5.trans (hb6.mono B5.size))
                | (go_at_call 16; refine (hS _ B6).mono ?_; rintro e w7 ⟨rfl, hb7⟩; have B7 := B6.trans (hb7.mono B6.size)))
              go_ret
              exact ⟨by rw [E2.out]; rfl, B7⟩
end Go.Proofs.YtkdmmnpcoegenacDoor

/-
  THE WALKS of RoleTells, and of tnlaw5.alive.
-/
namespace Go.Proofs.YtkdmmnpcoegenacDoor
open Go.RowKit

theorem cx_build {w : World} {g c : Nat} {rs : List Raw} {l : List Tn.Chg} (hd : DocAt w g 0 c rs (Tn.build l)) (T : Kn.TabAt w) (hsz : ∀ x ∈ l, x.value.size ≤ 4194304 ∧ x.name.size ≤ 4194304) : Cx w g 0 c rs (Tn.build l) := ⟨hd, T, build_fine l, build_vn hsz⟩

theorem qrole_all {w : World} {b o c : Nat} {rs : List Raw} {d : Tn.Dc} (hc : Cx w b o c rs d) (n : Int) :
    Calls Tryd.prog 14 #[.slice (some ⟨b, o, none⟩) rs.length c, .int .i64 n] w fun e w' => e = .returned (.int .i64 (roleD d n)) ∧ Below w.heap.size w w' := qrole_any 60 n w hc (fun _ _ hk => pos_60 hc.fine hk)
theorem qhid_all {w : World} {b o c : Nat} {rs : List Raw} {d : Tn.Dc} (hc : Cx w b o c rs d) (n : Int) :
    Calls Tryd.prog 16 #[.slice (some ⟨b, o, none⟩) rs.length c, .int .i64 n] w fun e w' => e = .returned (.bool (hidD d n)) ∧ Below w.heap.size w w' := qhid_any 60 n w hc (fun _ _ hk => pos_60 hc.fine hk)

set_option maxHeartbeats 1600000 in
theorem rtells_walk {w : World} (T : Kn.TabAt w) {vl : Value} {l : List Tn.Chg} (hl : ChgsAt w vl l) (hsz : ∀ x ∈ l, x.value.size ≤ 4194304 ∧ x.name.size ≤ 4194304) (n : Int) :
    Calls Tryd.prog 4 #[vl, .int .i64 n] w fun e w' => e = .returned (.bool true) ∧ Below w.heap.size w w' := by
  have hB := rbuild_good hl hsz
  have C : ∀ w1 g c rs, DocAt w1 g 0 c rs (Tn.build l) → Below w.heap.size w w1 → Cx w1 g 0 c rs (Tn.build l) := fun w1 g c rs h hb => cx_build h (T.below hb) hsz
  obtain ⟨p, cp, rfl, _, _, _⟩ := hl.at
  clear hl
  generalize Tn.build l = d at *
  go_enter Tryd.func4, Tryd.ntmps4
  go_wp2_with (first
    | (go_at_call 10; refine hB.mono ?_; rintro e w1 ⟨g, c, rs, rfl, hd1, hb1⟩; have C1 : Hid (Cx w1 g 0 c rs d) := C _ _ _ _ hd1 hb1; clear hd1)
    | (go_at_call 11; refine (olab_any C1.out.doc C1.out.fine.okd C1.out.vn n).mono ?_; rintro e w2 ⟨rfl, hb2⟩; have C2 : Hid (Cx w2 g 0 c rs d) := C1.out.below hb2)
    | (go_at_call 12; refine (qlab_any C2.out.doc C2.out.vn n).mono ?_; rintro e w3 ⟨rfl, hb3⟩; have C3 : Hid (Cx w3 g 0 c rs d) := C2.out.below hb3)
    | (go_at_call 13; refine (oof_any C3.out n).mono ?_; rintro e w4 ⟨rfl, hb4⟩; have C4 : Hid (Cx w4 g 0 c rs d) := C3.out.below hb4)
    | (go_at_call 14; refine (qrole_all C4.out n).mono ?_; rintro e w5 ⟨rfl, hb5⟩; have C5 : Hid (Cx w5 g 0 c rs d) := C4.out.below hb5)
    | (go_at_call 15; refine (ohid_any C5.out n).mono ?_; rintro e w6 ⟨rfl, hb6⟩; have C6 : Hid (Cx w6 g 0 c rs d) := C5.out.below hb6)
    | (go_at_call 16; refine (qhid_all C6.out n).mono ?_; rintro e w7 ⟨rfl, hb7⟩))
  go_ret
  have B2 := hb1.trans (hb2.mono hb1.size)
  have B3 := B2.trans (hb3.mono B2.size)
  have B4 := B3.trans (hb4.mono B3.size)
  have B5 := B4.trans (hb5.mono B4.size)
  have B6 := B5.trans (hb6.mono B5.size)
  exact ⟨by simp, B6.trans (hb7.mono B6.size)⟩
end Go.Proofs.YtkdmmnpcoegenacDoor
