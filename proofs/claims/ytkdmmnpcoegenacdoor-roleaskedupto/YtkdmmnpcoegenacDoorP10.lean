/-
  OWN WORK: Qhi, Ote, Oal, One, Ohd, Oas, Oat, Oaw.
-/
import Derived.Test.YtkdmmnpcoegenacDoorP9
import Derived.Deep.CutRange
import Derived.Deep.Strs
import Derived.Test.YtkdmmnpcoegenacDoorP3
/-
  THE WALK of the reference's Hidden.
-/
namespace Go.Proofs.YtkdmmnpcoegenacDoor
open Go.RowKit

set_option maxHeartbeats 6400000 in
set_option maxRecDepth 100000 in
theorem qhid_any {b o c : Nat} {rs : List Raw} {d : Tn.Dc} : ∀ (f : Nat) (n : Int) (w : World), Cx w b o c rs d → (∀ k : Nat, n = (k : Int) → Tn.lvD d k = true → posD d k < f) →
    Calls Tryd.prog 16 #[.slice (some ⟨b, o, none⟩) rs.length c, .int .i64 n] w fun e w' => e = .returned (.bool (hidD d n)) ∧ Below w.heap.size w w' := by
  intro f
  induction f with
  | zero =>
    intro n w hc hf
    have his : Tn.isN d n false = false := by
      cases hi : Tn.isN d n false with
      | false => rfl
      | true =>
        obtain ⟨k, rfl, _, hl⟩ := isN_nat hi
        exact absurd (hf k rfl hl) (by omega)
    have E : Hid (hidD d n = true) := hid_nil hc.fine his
    have SI := ris_any hc.doc n false
    rw [his] at SI
    clear hc hf his
    go_enter Tryd.func16, Tryd.ntmps16
    go_wp2_with (go_at_call 36; refine SI.mono ?_; rintro e w1 ⟨rfl, hw1⟩; subst hw1)
    go_ret
    exact ⟨by rw [E.out]; rfl, Below.refl _ _⟩
  | succ f ih =>
    intro n w hc hf
    have SI := ris_any hc.doc n false
    cases his : Tn.isN d n false with
    | false =>
      have E : Hid (hidD d n = true) := hid_nil hc.fine his
      rw [his] at SI
      clear hc hf his ih
      go_enter Tryd.func16, Tryd.ntmps16
      go_wp2_with (go_at_call 36; refine SI.mono ?_; rintro e w1 ⟨rfl, hw1⟩; subst hw1)
      go_ret
      exact ⟨by rw [E.out]; rfl, Below.refl _ _⟩
    | true =>
      obtain ⟨k, rfl, hkl, hlv⟩ := isN_nat his
      have hF := hc.fine
      have HC := hid_cons hF his
      have hpk := hf k rfl hlv
      rw [his] at SI
      have S1 := rattr_all hc.doc (k : Int) ⟨#[104, 105, 100, 100, 101, 110]⟩
      have S2 : ∀ W, Below w.heap.size w W → Calls Tryd.prog 31 #[.slice (some ⟨b, o, none⟩) rs.length c, .int .i64 (k : Int), .string ⟨#[97, 114, 105, 97, 45, 104, 105, 100, 100, 101, 110]⟩] W fun e w' => e = .returned (.string (saidN d (k : Int) ⟨#[97, 114, 105, 97, 45, 104, 105, 100, 100, 101, 110]⟩)) ∧ Below W.heap.size W w' := fun W hb => qsaid_any (hc.below hb).doc hc.vn _ _
      have hz := said_size hc.vn (k : Int) ⟨#[97, 114, 105, 97, 45, 104, 105, 100, 100, 101, 110]⟩
      have S3 : ∀ W, Calls Tryd.prog 27 #[.string (saidN d (k : Int) ⟨#[97, 114, 105, 97, 45, 104, 105, 100, 100, 101, 110]⟩)] W fun e w' => e = .returned (.string (lowS (saidN d (k : Int) ⟨#[97, 114, 105, 97, 45, 104, 105, 100, 100, 101, 110]⟩))) ∧ Below W.heap.size W w' := fun W => Wd.rlower_any _ W hz
      have SU : ∀ W, Below w.heap.size w W → Calls Tryd.prog 20 #[.slice (some ⟨b, o, none⟩) rs.length c, .int .i64 (k : Int)] W fun e w' => e = .returned (.int .i64 (upF d (k : Int))) ∧ Below W.heap.size W w' := fun W hb => qup_any (hc.below hb).doc hF _
      have CE : concD d (k : Int) = ((attrN d (k : Int) ⟨#[104, 105, 100, 100, 101, 110]⟩).isSome || ((lowS (saidN d (k : Int) ⟨#[97, 114, 105, 97, 45, 104, 105, 100, 100, 101, 110]⟩)).toList == [116, 114, 117, 101])) := rfl
      rw [CE] at HC
      clear CE hz
      have SH : ∀ m : Nat, upF d (k : Int) = (m : Int) → ∀ W, Below w.heap.size w W → Calls Tryd.prog 16 #[.slice (some ⟨b, o, none⟩) rs.length c, .int .i64 (m : Int)] W fun e w' => e = .returned (.bool (hidD d (m : Int))) ∧ Below W.heap.size W w' := fun m hm W hb => ih (m : Int) W (hc.below hb) (fun k' e _ => by
        rcases up_cases hF (k : Int) with e1 | ⟨m2, k2, e1, e2, _, _, e5⟩
        · omega
        · have a1 : m = m2 := by omega
          have a2 : k = k2 := by omega
          have a3 : k' = m2 := by omega
          rw [a3]
          rw [a2] at hpk
          omega)
      have UC : upF d (k : Int) = -1 ∨ ∃ m : Nat, upF d (k : Int) = (m : Int) := by
        rcases up_cases hF (k : Int) with e1 | ⟨m2, k2, e1, _⟩
        · exact Or.inl e1
        · exact Or.inr ⟨m2, e1⟩
      clear hc hf ih
      have E : Hid (hidD d (k : Int) = ((attrN d (k : Int) ⟨#[104, 105, 100, 100, 101, 110]⟩).isSome || ((lowS (saidN d (k : Int) ⟨#[97, 114, 105, 97, 45, 104, 105, 100, 100, 101, 110]⟩)).toList == [116, 114, 117, 101]) || (decide (k ≠ 0) && (decide (upF d (k : Int) < 0) || hidD d (upF d (k : Int)))))) := HC
      clear HC
      generalize hidD d (k : Int) = res at *
      generalize lowS (saidN d (k : Int) ⟨#[97, 114, 105, 97, 45, 104, 105, 100, 100, 101, 110]⟩) = z at *
      generalize saidN d (k : Int) ⟨#[97, 114, 105, 97, 45, 104, 105, 100, 100, 101, 110]⟩ = y at *
      generalize valN d (k : Int) ⟨#[104, 105, 100, 100, 101, 110]⟩ = v at *
      generalize (attrN d (k : Int) ⟨#[104, 105, 100, 100, 101, 110]⟩).isSome = q at *
      cases q with
      | true =>
        have E2 : Hid (res = true) := by show _ = _; rw [E.out]; rfl
        clear E UC SH SU S2 S3
        go_enter Tryd.func16, Tryd.ntmps16
        go_wp2_with (first
          | (go_at_call 36; refine SI.mono ?_; rintro e w1 ⟨rfl, hw1⟩; subst hw1)
          | (go_at_call 21; refine S1.mono ?_; rintro e w2 ⟨rfl, hb2⟩))
        go_ret
        exact ⟨by rw [E2.out]; rfl, hb2⟩
      | false =>
        cases hzt : (z.toList == [116, 114, 117, 101]) with
        | true =>
          have E2 : Hid (res = true) := by show _ = _; rw [E.out, hzt]; rfl
          clear E UC SH SU
          go_enter Tryd.func16, Tryd.ntmps16
          go_wp2_with (first
            | (go_at_call 36; refine SI.mono ?_; rintro e w1 ⟨rfl, hw1⟩; subst hw1)
            | (go_at_call 21; refine S1.mono ?_; rintro e w2 ⟨rfl, hb2⟩)
            | (go_at_call 31; refine (S2 _ hb2).mono ?_; rintro e w3 ⟨rfl, hb3⟩; have B3 := hb2.trans (hb3.mono hb2.size))
            | (go_at_call 27; refine (S3 _).mono ?_; rintro e w4 ⟨rfl, hb4⟩; have B4 := B3.trans (hb4.mono B3.size)))
          go_ret
          exact ⟨by rw [E2.out]; rfl, B4⟩
        | false =>
          by_cases hk0 : k = 0
          · have E2 : Hid (res = false) := by show _ = _; rw [E.out, hzt, hk0]; rfl
            subst hk0
            clear E UC SH SU
            go_enter Tryd.func16, Tryd.ntmps16
            go_wp2_with (first
              | (go_at_call 36; refine SI.mono ?_; rintro e w1 ⟨rfl, hw1⟩; subst hw1)
              | (go_at_call 21; refine S1.mono ?_; rintro e w2 ⟨rfl, hb2⟩)
              | (go_at_call 31; refine (S2 _ hb2).mono ?_; rintro e w3 ⟨rfl, hb3⟩; have B3 := hb2.trans (hb3.mono hb2.size))
              | (go_at_call 27; refine (S3 _).mono ?_; rintro e w4 ⟨rfl, hb4⟩; have B4 := B3.trans (hb4.mono B3.size)))
            go_ret
            exact ⟨by rw [E2.out]; rfl, B4⟩
          · have hkq : ((k : Int) != 0) = true := by simp; omega
            have SU2 := SU
            rcases UC with hu | ⟨m, hu⟩
            · have E2 : Hid (res = true) := by show _ = _; rw [E.out, hzt, hu]; simp [hk0]
              rw [hu] at SU
              clear E SH hu hk0 SU2
              go_enter Tryd.func16, Tryd.ntmps16
              go_wp2_with (first
                | (go_at_call 36; refine SI.mono ?_; rintro e w1 ⟨rfl, hw1⟩; subst hw1)
                | (go_at_call 21; refine S1.mono ?_; rintro e w2 ⟨rfl, hb2⟩)
                | (go_at_call 31; refine (S2 _ hb2).mono ?_; rintro e w3 ⟨rfl, hb3⟩; have B3 := hb2.trans (hb3.mono hb2.size))
                | (go_at_call 27; refine (S3 _).mono ?_; rintro e w4 ⟨rfl, hb4⟩; have B4 := B3.trans (hb4.mono B3.size))
                | (go_at_call 20; refine (SU _ B4).mono ?_; rintro e w5 ⟨rfl, hb5⟩; have B5 := B4.trans (hb5.mono B4.size)))
              go_ret
              exact ⟨by rw [E2.out]; rfl, B5⟩
            · have hS := SH m hu
              have E2 : Hid (res = hidD d (m : Int)) := by
                show _ = _
                rw [E.out, hzt, hu]
                have : ¬ ((m : Int) < 0) := by omega
                simp [hk0, this]
              rw [hu] at SU SU2
              clear E SH hu hk0
              generalize hidD d (m : Int) = hm at *
              go_enter Tryd.func16, Tryd.ntmps16
              go_wp2_with (first
                | (go_at_call 36; refine SI.mono ?_; rintro e w1 ⟨rfl, hw1⟩; subst hw1)
                | (go_at_call 21; refine S1.mono ?_; rintro e w2 ⟨rfl, hb2⟩)
                | (go_at_call 31; refine (S2 _ hb2).mono ?_; rintro e w3 ⟨rfl, hb3⟩; have B3 := hb2.trans (hb3.mono hb2.size))
                | (go_at_call 27; refine (S3 _).mono ?_; rintro e w4 ⟨rfl, hb4⟩; have B4 := B3.trans (hb4.mono B3.size))
                | (go_at_call 20; refine (SU _ B4).mono ?_; clear SU; rintro e w5 ⟨rfl, hb5⟩; have B5 := B4.trans (hb5.mono B4.size); have J2 := SU2 w5 B5)
                | (go_at_call 20; refine J2.mono ?_; rintro e w6 ⟨rfl, hb6⟩; have B6 := B5.trans (hb6.mono B5.size))
                | (go_at_call 16; refine (hS _ B6).mono ?_; rintro e w7 ⟨rfl, hb7⟩; have B7 := B6.trans (hb7.mono B6.size)))
              go_ret
              exact ⟨by rw [E2.out]; rfl, B7⟩
end Go.Proofs.YtkdmmnpcoegenacDoor

/-
  THE WALKS of RoleTells, and of tnlaw5.alive.
-/
namespace Go.Proofs.YtkdmmnpcoegenacDoor
open Go.RowKit

theorem cx_build {w : World} {g c : Nat} {rs : List Raw} {l : List Tn.Chg} (hd : DocAt w g 0 c rs (Tn.build l)) (T : Kn.TabAt w) (hsz : ∀ x ∈ l, x.value.size ≤ 4194304 ∧ x.name.size ≤ 4194304) : Cx w g 0 c rs (Tn.build l) := ⟨hd, T, build_fine l, build_vn hsz⟩

theorem qrole_all {w : World} {b o c : Nat} {rs : List Raw} {d : Tn.Dc} (hc : Cx w b o c rs d) (n : Int) :
    Calls Tryd.prog 14 #[.slice (some ⟨b, o, none⟩) rs.length c, .int .i64 n] w fun e w' => e = .returned (.int .i64 (roleD d n)) ∧ Below w.heap.size w w' := qrole_any 60 n w hc (fun _ _ hk => pos_60 hc.fine hk)
theorem qhid_all {w : World} {b o c : Nat} {rs : List Raw} {d : Tn.Dc} (hc : Cx w b o c rs d) (n : Int) :
    Calls Tryd.prog 16 #[.slice (some ⟨b, o, none⟩) rs.length c, .int .i64 n] w fun e w' => e = .returned (.bool (hidD d n)) ∧ Below w.heap.size w w' := qhid_any 60 n w hc (fun _ _ hk => pos_60 hc.fine hk)

set_option maxHeartbeats 1600000 in
theorem rtells_walk {w : World} (T : Kn.TabAt w) {vl : Value} {l : List Tn.Chg} (hl : ChgsAt w vl l) (hsz : ∀ x ∈ l, x.value.size ≤ 4194304 ∧ x.name.size ≤ 4194304) (n : Int) :
    Calls Tryd.prog 4 #[vl, .int .i64 n] w fun e w' => e = .returned (.bool true) ∧ Below w.heap.size w w' := by
  have hB := rbuild_good hl hsz
  have C : ∀ w1 g c rs, DocAt w1 g 0 c rs (Tn.build l) → Below w.heap.size w w1 → Cx w1 g 0 c rs (Tn.build l) := fun w1 g c rs h hb => cx_build h (T.below hb) hsz
  obtain ⟨p, cp, rfl, _, _, _⟩ := hl.at
  clear hl
  generalize Tn.build l = d at *
  go_enter Tryd.func4, Tryd.ntmps4
  go_wp2_with (first
    | (go_at_call 10; refine hB.mono ?_; rintro e w1 ⟨g, c, rs, rfl, hd1, hb1⟩; have C1 : Hid (Cx w1 g 0 c rs d) := C _ _ _ _ hd1 hb1; clear hd1)
    | (go_at_call 11; refine (olab_any C1.out.doc C1.out.fine.okd C1.out.vn n).mono ?_; rintro e w2 ⟨rfl, hb2⟩; have C2 : Hid (Cx w2 g 0 c rs d) := C1.out.below hb2)
    | (go_at_call 12; refine (qlab_any C2.out.doc C2.out.vn n).mono ?_; rintro e w3 ⟨rfl, hb3⟩; have C3 : Hid (Cx w3 g 0 c rs d) := C2.out.below hb3)
    | (go_at_call 13; refine (oof_any C3.out n).mono ?_; rintro e w4 ⟨rfl, hb4⟩; have C4 : Hid (Cx w4 g 0 c rs d) := C3.out.below hb4)
    | (go_at_call 14; refine (qrole_all C4.out n).mono ?_; rintro e w5 ⟨rfl, hb5⟩; have C5 : Hid (Cx w5 g 0 c rs d) := C4.out.below hb5)
    | (go_at_call 15; refine (ohid_any C5.out n).mono ?_; rintro e w6 ⟨rfl, hb6⟩; have C6 : Hid (Cx w6 g 0 c rs d) := C5.out.below hb6)
    | (go_at_call 16; refine (qhid_all C6.out n).mono ?_; rintro e w7 ⟨rfl, hb7⟩))
  go_ret
  have B2 := hb1.trans (hb2.mono hb1.size)
  have B3 := B2.trans (hb3.mono B2.size)
  have B4 := B3.trans (hb4.mono B3.size)
  have B5 := B4.trans (hb5.mono B4.size)
  have B6 := B5.trans (hb6.mono B5.size)
  exact ⟨by simp, B6.trans (hb7.mono B6.size)⟩
end Go.Proofs.YtkdmmnpcoegenacDoor

/-
  THE WALK of tnlaw5.alive.
-/
namespace Go.Proofs.YtkdmmnpcoegenacDoor
open Go.RowKit

def al5L : List Tn.Chg := [⟨1, 0, 0, -1, ⟨#[108, 105]⟩, ⟨#[]⟩⟩, ⟨1, 0, 0, -1, ⟨#[117, 108]⟩, ⟨#[]⟩⟩, ⟨1, 2, 0, -1, ⟨#[108, 105]⟩, ⟨#[]⟩⟩, ⟨5, 2, 0, 0, ⟨#[104, 105, 100, 100, 101, 110]⟩, ⟨#[]⟩⟩, ⟨5, 1, 0, 0, ⟨#[97, 114, 105, 97, 45, 108, 97, 98, 101, 108]⟩, ⟨#[120]⟩⟩]
theorem al5_1 : roleD (Tn.build al5L) 1 = 18 := by decide +kernel
theorem al5_2 : roleD (Tn.build al5L) 3 = 6 := by decide +kernel
theorem al5_3 : hidD (Tn.build al5L) 3 = true := by decide +kernel
theorem al5_4 : hidD (Tn.build al5L) 1 = false := by decide +kernel
theorem al5_5 : labD (Tn.build al5L) 1 = true := by decide +kernel
theorem al5_6 : labD (Tn.build al5L) 2 = false := by decide +kernel
theorem al5_sz : ∀ x ∈ al5L, x.value.size ≤ 4194304 ∧ x.name.size ≤ 4194304 := by decide

set_option maxHeartbeats 1600000 in
theorem l5alive_any {w : World} (T : Kn.TabAt w) : Calls Tryd.prog 17 #[] w fun e w' => e = .returned (.bool true) ∧ Below w.heap.size w w' := by
  have hC := rbuild_good (chgs_new w al5L (by decide)) al5_sz
  have e : (al5L.flatMap chc).toArray = #[.int .i64 1, .int .i64 0, .int .i64 0, .int .i64 (-1), .string ⟨#[108, 105]⟩, .string ⟨#[]⟩, .int .i64 1, .int .i64 0, .int .i64 0, .int .i64 (-1), .string ⟨#[117, 108]⟩, .string ⟨#[]⟩, .int .i64 1, .int .i64 2, .int .i64 0, .int .i64 (-1), .string ⟨#[108, 105]⟩, .string ⟨#[]⟩, .int .i64 5, .int .i64 2, .int .i64 0, .int .i64 0, .string ⟨#[104, 105, 100, 100, 101, 110]⟩, .string ⟨#[]⟩, .int .i64 5, .int .i64 1, .int .i64 0, .int .i64 0, .string ⟨#[97, 114, 105, 97, 45, 108, 97, 98, 101, 108]⟩, .string ⟨#[120]⟩] := rfl
  have e4 : al5L.length = 5 := rfl
  rw [e, e4] at hC
  have B1 := (Below.refl w.heap.size w).alloc (Nat.le_refl _) (.cells #[.int .i64 1, .int .i64 0, .int .i64 0, .int .i64 (-1), .string ⟨#[108, 105]⟩, .string ⟨#[]⟩, .int .i64 1, .int .i64 0, .int .i64 0, .int .i64 (-1), .string ⟨#[117, 108]⟩, .string ⟨#[]⟩, .int .i64 1, .int .i64 2, .int .i64 0, .int .i64 (-1), .string ⟨#[108, 105]⟩, .string ⟨#[]⟩, .int .i64 5, .int .i64 2, .int .i64 0, .int .i64 0, .string ⟨#[104, 105, 100, 100, 101, 110]⟩, .string ⟨#[]⟩, .int .i64 5, .int .i64 1, .int .i64 0, .int .i64 0, .string ⟨#[97, 114, 105, 97, 45, 108, 97, 98, 101, 108]⟩, .string ⟨#[120]⟩] 45)
  have CX : Hid (∀ W g c rs, DocAt W g 0 c rs (Tn.build al5L) → Below w.heap.size w W → Cx W g 0 c rs (Tn.build al5L)) := fun W g c rs h hb => cx_build h (T.below hb) al5_sz
  clear e e4
  have p1 := al5_1
  have p2 := al5_2
  have p3 := al5_3
  have p4 := al5_4
  have p5 := al5_5
  have p6 := al5_6
  generalize Tn.build al5L = d at *
  have S1 : ∀ W g c rs, Cx W g 0 c rs d → Calls Tryd.prog 13 #[.slice (some ⟨g, 0, none⟩) rs.length c, .int .i64 1] W fun e w' => e = .returned (.int .i64 18) ∧ Below W.heap.size W w' := fun W g c rs h => by have := oof_any h 1; rw [p1] at this; exact this
  have S2 : ∀ W g c rs, Cx W g 0 c rs d → Calls Tryd.prog 13 #[.slice (some ⟨g, 0, none⟩) rs.length c, .int .i64 3] W fun e w' => e = .returned (.int .i64 6) ∧ Below W.heap.size W w' := fun W g c rs h => by have := oof_any h 3; rw [p2] at this; exact this
  have S3 : ∀ W g c rs, Cx W g 0 c rs d → Calls Tryd.prog 15 #[.slice (some ⟨g, 0, none⟩) rs.length c, .int .i64 3] W fun e w' => e = .returned (.bool true) ∧ Below W.heap.size W w' := fun W g c rs h => by have := ohid_any h 3; rw [p3] at this; exact this
  have S4 : ∀ W g c rs, Cx W g 0 c rs d → Calls Tryd.prog 15 #[.slice (some ⟨g, 0, none⟩) rs.length c, .int .i64 1] W fun e w' => e = .returned (.bool false) ∧ Below W.heap.size W w' := fun W g c rs h => by have := ohid_any h 1; rw [p4] at this; exact this
  have S5 : ∀ W g c rs, Cx W g 0 c rs d → Calls Tryd.prog 11 #[.slice (some ⟨g, 0, none⟩) rs.length c, .int .i64 1] W fun e w' => e = .returned (.bool true) ∧ Below W.heap.size W w' := fun W g c rs h => by have := olab_any h.doc h.fine.okd h.vn 1; rw [p5] at this; exact this
  have S6 : ∀ W g c rs, Cx W g 0 c rs d → Calls Tryd.prog 11 #[.slice (some ⟨g, 0, none⟩) rs.length c, .int .i64 2] W fun e w' => e = .returned (.bool false) ∧ Below W.heap.size W w' := fun W g c rs h => by have := olab_any h.doc h.fine.okd h.vn 2; rw [p6] at this; exact this
  clear p1 p2 p3 p4 p5 p6
  go_enter Tryd.func17, Tryd.ntmps17
  go_wp2_with (first
    | (go_at_call 10; refine hC.mono ?_; rintro e w1 ⟨g, c, rs, rfl, hd1, hb0⟩; have hb1 := B1.trans (hb0.mono B1.size); have C1 : Hid (Cx w1 g 0 c rs d) := CX.out _ _ _ _ hd1 hb1; clear hd1; have J1 := S1 _ _ _ _ C1.out)
    | (go_at_call 13; refine J1.mono ?_; clear J1; rintro e w2 ⟨rfl, hb2⟩; have C2 : Hid (Cx w2 g 0 c rs d) := C1.out.below hb2; have J2 := S2 _ _ _ _ C2.out)
    | (go_at_call 13; refine J2.mono ?_; clear J2; rintro e w3 ⟨rfl, hb3⟩; have C3 : Hid (Cx w3 g 0 c rs d) := C2.out.below hb3; have J3 := S3 _ _ _ _ C3.out)
    | (go_at_call 15; refine J3.mono ?_; clear J3; rintro e w4 ⟨rfl, hb4⟩; have C4 : Hid (Cx w4 g 0 c rs d) := C3.out.below hb4; have J4 := S4 _ _ _ _ C4.out)
    | (go_at_call 15; refine J4.mono ?_; clear J4; rintro e w5 ⟨rfl, hb5⟩; have C5 : Hid (Cx w5 g 0 c rs d) := C4.out.below hb5; have J5 := S5 _ _ _ _ C5.out)
    | (go_at_call 11; refine J5.mono ?_; clear J5; rintro e w6 ⟨rfl, hb6⟩; have C6 : Hid (Cx w6 g 0 c rs d) := C5.out.below hb6; have J6 := S6 _ _ _ _ C6.out)
    | (go_at_call 11; refine J6.mono ?_; clear J6; rintro e w7 ⟨rfl, hb7⟩))
  go_ret
  refine ⟨rfl, ?_⟩
  have B2 := hb1.trans (hb2.mono hb1.size)
  have B3 := B2.trans (hb3.mono B2.size)
  have B4 := B3.trans (hb4.mono B3.size)
  have B5 := B4.trans (hb5.mono B4.size)
  have B6 := B5.trans (hb6.mono B5.size)
  exact B6.trans (hb7.mono B6.size)
end Go.Proofs.YtkdmmnpcoegenacDoor

/-
  THE WALK of tnlaw5's RoleNeed.
-/
namespace Go.Proofs.YtkdmmnpcoegenacDoor
open Go.RowKit

theorem need_around {d : Tn.Dc} (h : Fine d) {k : Nat} (hk : Tn.isN d (k : Int) false = true) (hn : needI (roleD d (k : Int)) ≠ 0) : aroundD d (upF d (k : Int)) = needI (roleD d (k : Int)) := by
  have e := (role_cons h hk).1
  by_cases h0 : needI (aloneD d (k : Int)) = 0
  · rw [fit_zero h0] at e
    rw [e] at hn
    exact absurd h0 hn
  · by_cases h1 : needI (aloneD d (k : Int)) = aroundD d (upF d (k : Int))
    · rw [fit_yes h1] at e
      rw [e, h1]
    · rw [fit_no h0 h1] at e
      rw [e] at hn
      exact absurd need_gen hn

set_option maxHeartbeats 6400000 in
set_option maxRecDepth 100000 in
theorem rneed_walk {w : World} (T : Kn.TabAt w) {vl : Value} {l : List Tn.Chg} (hl : ChgsAt w vl l) (hsz : ∀ x ∈ l, x.value.size ≤ 4194304 ∧ x.name.size ≤ 4194304) :
    Calls Tryd.prog 5 #[vl] w fun e w' => e = .returned (.bool true) ∧ Below w.heap.size w w' := by
  have hA := l5alive_any T
  have QB : Hid (∀ W, Below w.heap.size w W → Calls Tryd.prog 10 #[vl] W fun e w' => ∃ g c rs, e = .returned (.slice (some ⟨g, 0, none⟩) rs.length c) ∧ DocAt w' g 0 c rs (Tn.build l) ∧ Below W.heap.size W w') := fun W hW => rbuild_good (hl.keeps (keeps_below hW (Nat.le_refl _))) hsz
  have C : Hid (∀ w1 g c rs, DocAt w1 g 0 c rs (Tn.build l) → Below w.heap.size w w1 → Cx w1 g 0 c rs (Tn.build l)) := fun w1 g c rs h hb => cx_build h (T.below hb) hsz
  have hF := build_fine l
  obtain ⟨p, cp, rfl, _, _, _⟩ := hl.at
  clear hl hsz T
  generalize Tn.build l = d at *
  obtain ⟨r, hr, _⟩ := hF.good.tr
  have hlv : Tn.lvD d 0 = true := hr.1.root
  have hsf := shown_few hF Tn.fuel hlv
  have LV : Hid (∀ x ∈ shownF Tn.fuel d 0, Tn.lvD d x = true) := fun x hx => (shown_live hF Tn.fuel 0 x hlv hx).1
  have QS : Hid (∀ W g c rs, Cx W g 0 c rs d → Calls Tryd.prog 18 #[.slice (some ⟨g, 0, none⟩) rs.length c, .int .i64 0] W fun e w' => ∃ v, e = .returned v ∧ OwnI w' W.heap.size v (shownF Tn.fuel d 0) ∧ Below W.heap.size W w') := fun W g c rs h => qshown_any hF Tn.fuel 0 W h.doc (fine_end hF) (by omega)
  have SK : ∀ (r : Int) W, Calls Tryd.prog 19 #[.int .i64 r] W fun e w' => (∃ (a0 : ByteArray) (a1 a2 a3 a4 a5 : Bool), e = .returned (.agg #[.string a0, .bool a1, .bool a2, .bool a3, .bool a4, .bool a5, .int .i64 (needI r)])) ∧ Below W.heap.size W w' := fun r W => (Kn.qkind_any (w := W) r).mono (by
    rintro e w' ⟨rfl, hb⟩
    exact ⟨⟨_, _, _, _, _, _, rfl⟩, hb⟩)
  have hfl := Kn.field_need
  have ARO : Hid (∀ m : Nat, Tn.lvD d m = true → aroundD d (m : Int) = keepA (roleD d (m : Int)) (aroundD d (upF d (m : Int)))) := fun m hm => (role_cons hF (by rw [Tn.isN_iff]; exact hm)).2
  have ARN : Hid (aroundD d (-1) = 0) := (role_nil hF (by unfold Tn.isN; simp)).2
  have NA : Hid (∀ k : Nat, Tn.lvD d k = true → needI (roleD d (k : Int)) ≠ 0 → aroundD d (upF d (k : Int)) = needI (roleD d (k : Int))) := fun k hk hn => need_around hF (by rw [Tn.isN_iff]; exact hk) hn
  have UC : Hid (∀ m : Nat, upF d (m : Int) = -1 ∨ ∃ m' : Nat, upF d (m : Int) = (m' : Int) ∧ Tn.lvD d m' = true ∧ posD d m' < posD d m) := fun m => by
    rcases up_cases hF (m : Int) with e | ⟨m', k', e1, e2, _, e4, e5⟩
    · exact Or.inl e
    · rw [Int.ofNat.inj e2]
      exact Or.inr ⟨m', by rw [← Int.ofNat.inj e2]; exact e1, e4, e5⟩
  clear hr hlv
  generalize shownF Tn.fuel d 0 = sh at *
  go_enter Tryd.func5, Tryd.ntmps5
  go_upto_region 5 with (first
    | (go_at_call 17; refine hA.mono ?_; rintro e w1 ⟨rfl, hb1⟩)
    | (go_at_call 10; refine (QB.out _ hb1).mono ?_; rintro e w2 ⟨g, c, rs, rfl, hd2, hb2⟩; have B2 := hb1.trans (hb2.mono hb1.size); have C2 : Hid (Cx w2 g 0 c rs d) := C.out _ _ _ _ hd2 B2; clear hd2)
    | (go_at_call 18; refine (QS.out _ _ _ _ C2.out).mono ?_; rintro e w4 ⟨v4, rfl, ho4, hb4⟩; obtain ⟨ps, cs, rfl, z1, z2, _, hat⟩ := (ints_of_owns ho4).at))
  have TK : Hid (∀ j (hj : j < sh.length), ∃ b o, ps = some ⟨b, o, none⟩ ∧ w4.cell? ⟨b, o + j, none⟩ = some (.int .i64 (sh[j] : Int))) := hat
  have C4 : Hid (Cx w4 g 0 c rs d) := C2.out.below hb4
  have B4 : Below w.heap.size w w4 := B2.trans (hb4.mono B2.size)
  have SO : Hid (∀ W (n : Int), Below w4.heap.size w4 W → Calls Tryd.prog 13 #[.slice (some ⟨g, 0, none⟩) rs.length c, .int .i64 n] W fun e w' => e = .returned (.int .i64 (roleD d n)) ∧ Below W.heap.size W w') := fun W n h => oof_any (C4.out.below h) n
  have SU : Hid (∀ W (n : Int), Below w4.heap.size w4 W → Calls Tryd.prog 20 #[.slice (some ⟨g, 0, none⟩) rs.length c, .int .i64 n] W fun e w' => e = .returned (.int .i64 (upF d n)) ∧ Below W.heap.size W w') := fun W n h => qup_any (C4.out.below h).doc hF n
  clear hat ho4 hb4 C2 QS C QB hA hb1 hb2 B2
  go_loopw [15] (fun iv wr => ∃ j : Nat, j ≤ sh.length ∧ iv = .int .i64 j ∧ Below w4.heap.size w4 wr) (fun i _ => sh.length - (intOf i).toNat)
  case atStart => exact ⟨0, Nat.zero_le _, rfl, Below.refl _ _⟩
  case round =>
    obtain ⟨j, hj, rfl, BR⟩ := hrel
    by_cases hlt : j < sh.length
    · obtain ⟨b1, o1, rfl, hc⟩ := TK.out j hlt
      have hcr := keeps_below BR (Nat.le_refl _) _ _ hc
      have hnl := LV.out _ (List.getElem_mem hlt)
      clear hc
      generalize sh[j] = n at *
      have I1 := SO.out wr (n : Int) BR
      have I2 := SK (roleD d (n : Int))
      have N1 : Hid _ := NA.out n hnl
      have U1 := SU.out
      have UC1 := UC.out n
      generalize roleD d (n : Int) = r1 at *
      by_cases h0 : needI r1 = 0
      · rw [h0] at I2
        clear N1 h0 U1 UC1
        go_wp2_with (first
          | (go_at_call 13; refine I1.mono ?_; rintro e w5 ⟨rfl, hb5⟩; have B5 := BR.trans (hb5.mono BR.size))
          | (go_at_call 19; refine (I2 _).mono ?_; rintro e w6 ⟨⟨a0, a1, a2, a3, a4, a5, rfl⟩, hb6⟩; have B6 := B5.trans (hb6.mono B5.size)))
        go_roundw
        case rel => exact ⟨j + 1, by omega, by go_num, B6⟩
        case measure => simp [intOf]; omega
      · have h0q : (needI r1 == 0) = false := by simpa using h0
        have N0 : Hid (needI r1 ≠ 0) := h0
        have A0 : Hid (aroundD d (upF d (n : Int)) = needI r1) := N1.out h0
        have U2 := fun W hb => U1 W (n : Int) hb
        clear N1 h0 U1
        generalize needI r1 = nd at *
        generalize upF d (n : Int) = u0 at *
        go_upto_region 10 with (first
          | (go_at_call 13; refine I1.mono ?_; rintro e w5 ⟨rfl, hb5⟩; have B5 := BR.trans (hb5.mono BR.size))
          | (go_at_call 19; refine (I2 _).mono ?_; rintro e w6 ⟨⟨a0, a1, a2, a3, a4, a5, rfl⟩, hb6⟩; have B6 := B5.trans (hb6.mono B5.size))
          | (go_at_call 20; refine (U2 _ B6).mono ?_; rintro e w7 ⟨rfl, hb7⟩; have B7 := B6.trans (hb7.mono B6.size)))
        have UC2 : u0 = -1 ∨ ∃ m : Nat, u0 = (m : Int) ∧ Tn.lvD d m = true := by
          rcases UC1 with e | ⟨m', e1, e2, _⟩
          · exact Or.inl e
          · exact Or.inr ⟨m', e1, e2⟩
        clear I1 I2 U2 hb5 hb6 hb7 B5 B6 UC1 BR
        go_loopw [7] (fun v wq => ∃ u : Int, v = .int .i64 u ∧ Hid (aroundD d u = nd) ∧ (u = -1 ∨ ∃ m : Nat, u = (m : Int) ∧ Tn.lvD d m = true) ∧ Below w4.heap.size w4 wq) (fun v _ => upM d v)
        case atStart => exact ⟨u0, rfl, A0, UC2, B7⟩
        case round =>
          obtain ⟨u, rfl, AE, hu, BQ⟩ := hrel
          rcases hu with rfl | ⟨m, rfl, hm⟩
          · exact absurd (AE.out.symm.trans ARN.out) N0.out
          · have I1 := SO.out wr (m : Int) BQ
            have I2 := fun W hb => SO.out W (m : Int) hb
            have I3 := I2
            have AM := ARO.out m hm
            have hU2 := fun W hb => SU.out W (m : Int) hb
            have NX1 := UC.out m
            generalize upF d (m : Int) = u1 at *
            have HAM : Hid (aroundD d (m : Int) = keepA (roleD d (m : Int)) (aroundD d u1)) := AM
            clear AM
            generalize roleD d (m : Int) = r2 at *
            have NM : (∀ W, Below w4.heap.size w4 W → Hid (aroundD d u1 = nd) → ∃ u : Int, (Value.int .i64 u1) = .int .i64 u ∧ Hid (aroundD d u = nd) ∧ (u = -1 ∨ ∃ m : Nat, u = (m : Int) ∧ Tn.lvD d m = true) ∧ Below w4.heap.size w4 W) := fun W hW hA => ⟨u1, rfl, hA, by
              rcases NX1 with e | ⟨m', e1, e2, e3⟩
              · exact Or.inl e
              · exact Or.inr ⟨m', e1, e2⟩, hW⟩
            have MS : Hid (upM d (.int .i64 u1) < upM d (.int .i64 (m : Int))) := by
              show _ < _
              rw [upM_nat]
              rcases NX1 with e | ⟨m', e1, e2, e3⟩
              · rw [e, upM_no]; omega
              · rw [e1, upM_nat]; omega
            clear NX1
            by_cases g0 : r2 = 0
            · have A1 : Hid (aroundD d u1 = nd) := by show _ = _; rw [← AE.out, HAM.out, g0]; rfl
              subst g0
              go_wp2_with (first
                | (go_at_call 13; refine I1.mono ?_; clear I1; rintro e w5 ⟨rfl, hb5⟩; have B5 := BQ.trans (hb5.mono BQ.size))
                | (go_at_call 20; refine (hU2 _ B5).mono ?_; rintro e w6 ⟨rfl, hb6⟩; have B6 := B5.trans (hb6.mono B5.size)))
              go_roundw
              case rel => exact NM _ B6 A1
              case measure => exact MS.out
            · have g0q : (r2 == 0) = false := by simpa using g0
              by_cases g1 : r2 = 18
              · have A1 : Hid (aroundD d u1 = nd) := by show _ = _; rw [← AE.out, HAM.out, g1]; rfl
                subst g1
                go_wp2_with (first
                  | (go_at_call 13; refine I1.mono ?_; clear I1; rintro e w5 ⟨rfl, hb5⟩; have B5 := BQ.trans (hb5.mono BQ.size); have J2 := I2 w5 B5)
                  | (go_at_call 13; refine J2.mono ?_; clear J2; rintro e w7 ⟨rfl, hb7⟩; have B7 := B5.trans (hb7.mono B5.size))
                  | (go_at_call 20; refine (hU2 _ B7).mono ?_; rintro e w6 ⟨rfl, hb6⟩; have B6 := B7.trans (hb6.mono B7.size)))
                go_roundw
                case rel => exact NM _ B6 A1
                case measure => exact MS.out
              · have g1q : (r2 == 18) = false := by simpa using g1
                have A1 : r2 = nd := by rw [← AE.out, HAM.out]; unfold keepA; rw [if_pos ⟨g0, g1⟩]
                subst A1
                clear g0 g1 NM MS
                go_wp2_with (first
                  | (go_at_call 13; refine I1.mono ?_; clear I1; rintro e w5 ⟨rfl, hb5⟩; have B5 := BQ.trans (hb5.mono BQ.size); have J2 := I2 w5 B5)
                  | (go_at_call 13; refine J2.mono ?_; clear J2; rintro e w7 ⟨rfl, hb7⟩; have B7 := B5.trans (hb7.mono B5.size); have J3 := I3 w7 B7)
                  | (go_at_call 13; refine J3.mono ?_; clear J3; rintro e w8 ⟨rfl, hb8⟩; have B8 := B7.trans (hb8.mono B7.size)))
                go_roundw
                case rel => exact ⟨j + 1, by omega, by go_num, B8⟩
                case measure => simp [intOf]; omega
    · obtain rfl : j = sh.length := by omega
      go_wp2_with fail
      go_ret
      exact ⟨rfl, B4.trans (BR.mono B4.size)⟩
end Go.Proofs.YtkdmmnpcoegenacDoor

/-
  THE WALK of tnlaw5's RoleHidden.
-/
namespace Go.Proofs.YtkdmmnpcoegenacDoor
open Go.RowKit

/-- no node ahead of this one is hidden by itself -/
def plainD (d : Tn.Dc) : Nat → Bool
  | 0 => true
  | j + 1 => plainD d j && !hasN d (j : Int) ⟨#[104, 105, 100, 100, 101, 110]⟩ && !hasN d (j : Int) ⟨#[97, 114, 105, 97, 45, 104, 105, 100, 100, 101, 110]⟩

theorem plain_at {d : Tn.Dc} : ∀ j, plainD d j = true → ∀ k, k < j → hasN d (k : Int) ⟨#[104, 105, 100, 100, 101, 110]⟩ = false ∧ hasN d (k : Int) ⟨#[97, 114, 105, 97, 45, 104, 105, 100, 100, 101, 110]⟩ = false
  | 0, _, k, hk => by omega
  | j + 1, h, k, hk => by
    rw [plainD] at h
    simp at h
    by_cases e : k = j
    · subst e
      exact ⟨h.1.2, h.2⟩
    · exact plain_at j h.1.1 k (by omega)

theorem plain_conc {d : Tn.Dc} {k : Nat} (h1 : hasN d (k : Int) ⟨#[104, 105, 100, 100, 101, 110]⟩ = false) (h2 : hasN d (k : Int) ⟨#[97, 114, 105, 97, 45, 104, 105, 100, 100, 101, 110]⟩ = false) : concD d (k : Int) = false := by
  have hv : valN d (k : Int) ⟨#[97, 114, 105, 97, 45, 104, 105, 100, 100, 101, 110]⟩ = ⟨#[]⟩ := by
    unfold valN
    unfold hasN at h2
    cases h : attrN d (k : Int) ⟨#[97, 114, 105, 97, 45, 104, 105, 100, 100, 101, 110]⟩ with
    | none => rfl
    | some a => rw [h] at h2; cases h2
  unfold concD saidN
  rw [h1, hv]
  decide +kernel

theorem hid_kid {d : Tn.Dc} (h : Fine d) {n k : Nat} (hk : k ∈ kidsD d (n : Int)) (hh : hidD d (n : Int) = true) : hidD d (k : Int) = true := by
  obtain ⟨_, h2, h3, _⟩ := kid_par h hk
  rw [hid_cons h (by rw [Tn.isN_iff]; exact h2), up_of_kid h hk, hh]
  have : k ≠ 0 := by omega
  simp [this]

theorem hid_has {d : Tn.Dc} (h : Fine d) {k : Nat} (hh : hasN d (k : Int) ⟨#[104, 105, 100, 100, 101, 110]⟩ = true) : hidD d (k : Int) = true := by
  have hi : Tn.isN d (k : Int) true = true := by
    unfold hasN attrN at hh
    split at hh
    · assumption
    · cases hh
  rw [hid_cons h (isN_true hi)]
  have : concD d (k : Int) = true := by unfold concD; rw [hh]; rfl
  rw [this]
  rfl

theorem hid_plain {d : Tn.Dc} (h : Fine d) (hp : plainD d d.length = true) : ∀ (m x : Nat), posD d x ≤ m → x ∈ shownF Tn.fuel d 0 → hidD d (x : Int) = false := by
  obtain ⟨r, hr, _⟩ := h.good.tr
  have hlv : Tn.lvD d 0 = true := hr.1.root
  intro m
  induction m with
  | zero =>
    intro x hm hx
    have hl := (shown_live h Tn.fuel 0 x hlv hx).1
    obtain ⟨p1, p2⟩ := plain_at _ hp x (Tn.lv_lt hl)
    rw [hid_cons h (by rw [Tn.isN_iff]; exact hl), plain_conc p1 p2]
    by_cases h0 : x = 0
    · subst h0; rfl
    · obtain ⟨y, hy, _⟩ := shown_par Tn.fuel 0 x hx h0
      have := kid_pos h hy
      omega
  | succ m ih =>
    intro x hm hx
    have hl := (shown_live h Tn.fuel 0 x hlv hx).1
    obtain ⟨p1, p2⟩ := plain_at _ hp x (Tn.lv_lt hl)
    rw [hid_cons h (by rw [Tn.isN_iff]; exact hl), plain_conc p1 p2]
    by_cases h0 : x = 0
    · subst h0; rfl
    · obtain ⟨y, hy, hs⟩ := shown_par Tn.fuel 0 x hx h0
      have hpos := kid_pos h hy
      have hyh := ih y (by omega) (hs.subset (by simp))
      rw [up_of_kid h hy, hyh]
      have : ¬ ((y : Int) < 0) := by omega
      simp [h0, this]

set_option maxHeartbeats 6400000 in
set_option maxRecDepth 100000 in
theorem rhid_walk {w : World} (T : Kn.TabAt w) {vl : Value} {l : List Tn.Chg} (hl : ChgsAt w vl l) (hsz : ∀ x ∈ l, x.value.size ≤ 4194304 ∧ x.name.size ≤ 4194304) :
    Calls Tryd.prog 6 #[vl] w fun e w' => e = .returned (.bool true) ∧ Below w.heap.size w w' := by
  have hA := l5alive_any T
  have QB : Hid (∀ W, Below w.heap.size w W → Calls Tryd.prog 10 #[vl] W fun e w' => ∃ g c rs, e = .returned (.slice (some ⟨g, 0, none⟩) rs.length c) ∧ DocAt w' g 0 c rs (Tn.build l) ∧ Below W.heap.size W w') := fun W hW => rbuild_good (hl.keeps (keeps_below hW (Nat.le_refl _))) hsz
  have C : Hid (∀ w1 g c rs, DocAt w1 g 0 c rs (Tn.build l) → Below w.heap.size w w1 → Cx w1 g 0 c rs (Tn.build l)) := fun w1 g c rs h hb => cx_build h (T.below hb) hsz
  have hF := build_fine l
  obtain ⟨p, cp, rfl, _, _, _⟩ := hl.at
  clear hl hsz T
  generalize Tn.build l = d at *
  obtain ⟨r, hr, _⟩ := hF.good.tr
  have hlv : Tn.lvD d 0 = true := hr.1.root
  have hsf := shown_few hF Tn.fuel hlv
  have HP : Hid (plainD d d.length = true → ∀ x ∈ shownF Tn.fuel d 0, hidD d (x : Int) = false) := fun hp x hx => hid_plain hF hp _ x (Nat.le_refl _) hx
  have QS : Hid (∀ W g c rs, Cx W g 0 c rs d → Calls Tryd.prog 18 #[.slice (some ⟨g, 0, none⟩) rs.length c, .int .i64 0] W fun e w' => ∃ v, e = .returned v ∧ OwnI w' W.heap.size v (shownF Tn.fuel d 0) ∧ Below W.heap.size W w') := fun W g c rs h => qshown_any hF Tn.fuel 0 W h.doc (fine_end hF) (by omega)
  have HH : Hid (∀ k : Nat, hasN d (k : Int) ⟨#[104, 105, 100, 100, 101, 110]⟩ = true → hidD d (k : Int) = true) := fun k h => hid_has hF h
  have HK : Hid (∀ k : Nat, hidD d (k : Int) = true → ∀ x ∈ kidsD d (k : Int), hidD d (x : Int) = true) := fun k h x hx => hid_kid hF hx h
  clear hr hlv
  generalize shownF Tn.fuel d 0 = sh at *
  go_enter Tryd.func6, Tryd.ntmps6
  go_upto_region 6 with (first
    | (go_at_call 17; refine hA.mono ?_; rintro e w1 ⟨rfl, hb1⟩)
    | (go_at_call 10; refine (QB.out _ hb1).mono ?_; rintro e w2 ⟨g, c, rs, rfl, hd2, hb2⟩; have B2 := hb1.trans (hb2.mono hb1.size); have C2 : Hid (Cx w2 g 0 c rs d) := C.out _ _ _ _ hd2 B2; clear hd2))
  have L : Hid (rs.length = d.length) := C2.out.doc.len
  have hrl : rs.length ≤ 1000 := by have h1 := L.out; have := hF.good.len.2; omega
  have SH : Hid (∀ W (n : Int), Below w2.heap.size w2 W → Calls Tryd.prog 15 #[.slice (some ⟨g, 0, none⟩) rs.length c, .int .i64 n] W fun e w' => e = .returned (.bool (hidD d n)) ∧ Below W.heap.size W w') := fun W n h => ohid_any (C2.out.below h) n
  have SA : Hid (∀ W (n : Int) (name : ByteArray), Below w2.heap.size w2 W → Calls Tryd.prog 21 #[.slice (some ⟨g, 0, none⟩) rs.length c, .int .i64 n, .string name] W fun e w' => e = .returned (.tuple #[.string (valN d n name), .bool (hasN d n name)]) ∧ Below W.heap.size W w') := fun W n name h => rattr_all (C2.out.below h).doc n name
  have SKi : Hid (∀ W (n : Int), Below w2.heap.size w2 W → Calls Tryd.prog 22 #[.slice (some ⟨g, 0, none⟩) rs.length c, .int .i64 n] W fun e w' => ∃ p cc, e = .returned (.slice p (kidsD d n).length cc) ∧ IntsAt w' (.slice p (kidsD d n).length cc) (kidsD d n) ∧ Below W.heap.size W w') := fun W n h => qkids_any (C2.out.below h).doc hF n
  have QS2 : Hid (∀ W, Below w2.heap.size w2 W → Calls Tryd.prog 18 #[.slice (some ⟨g, 0, none⟩) rs.length c, .int .i64 0] W fun e w' => ∃ v, e = .returned v ∧ OwnI w' W.heap.size v sh ∧ Below W.heap.size W w') := fun W h => QS.out _ _ _ _ (C2.out.below h)
  clear QS C QB hA hb1 hb2 C2
  go_loopw [4, 20] (fun pv iv wr => ∃ j : Nat, j ≤ rs.length ∧ iv = .int .i64 j ∧ pv = .bool (plainD d j) ∧ Below w2.heap.size w2 wr) (fun _ i _ => rs.length - (intOf i).toNat)
  case atStart => exact ⟨0, Nat.zero_le _, rfl, rfl, Below.refl _ _⟩
  case round =>
    obtain ⟨j, hj, rfl, rfl, BR⟩ := hrel
    by_cases hlt : j < rs.length
    · have J1 := SA.out wr (j : Int) ⟨#[104, 105, 100, 100, 101, 110]⟩ BR
      have J2 := fun W hb => SA.out W (j : Int) ⟨#[97, 114, 105, 97, 45, 104, 105, 100, 100, 101, 110]⟩ hb
      have K1 := fun W hb => SKi.out W (j : Int) hb
      have H1 := fun W hb => SH.out W (j : Int) hb
      have HJ := HH.out j
      have HX := HK.out j
      have F : Hid (plainD d (j + 1) = (plainD d j && !hasN d (j : Int) ⟨#[104, 105, 100, 100, 101, 110]⟩ && !hasN d (j : Int) ⟨#[97, 114, 105, 97, 45, 104, 105, 100, 100, 101, 110]⟩)) := rfl
      have hjl : (j : Int) < (rs.length : Int) := by omega
      obtain ⟨pn, hpn⟩ : ∃ pn, plainD d (j + 1) = pn := ⟨_, rfl⟩
      rw [hpn] at F
      have PN : Hid (plainD d (j + 1) = pn) := hpn
      clear hpn
      generalize plainD d j = pl at *
      generalize hasN d (j : Int) ⟨#[104, 105, 100, 100, 101, 110]⟩ = q1 at *
      generalize hasN d (j : Int) ⟨#[97, 114, 105, 97, 45, 104, 105, 100, 100, 101, 110]⟩ = q2 at *
      generalize hidD d (j : Int) = hk at *
      generalize kidsD d (j : Int) = kl at *
      cases q1 with
      | true =>
        obtain rfl : hk = true := HJ rfl
        have F2 : Hid (pn = false) := by show _ = _; rw [F.out]; simp
        clear HJ F
        have HX2 : Hid (∀ x ∈ kl, hidD d (x : Int) = true) := HX rfl
        clear HX
        go_upto_region 12 with (first
          | (go_at_call 21; refine J1.mono ?_; clear J1; rintro e w3 ⟨rfl, hb3⟩; have B3 := BR.trans (hb3.mono BR.size); have J3 := J2 _ B3)
          | (go_at_call 21; refine J3.mono ?_; clear J3; rintro e w4 ⟨rfl, hb4⟩; have B4 := B3.trans (hb4.mono B3.size))
          | (go_at_call 15; refine (H1 _ B4).mono ?_; rintro e w5 ⟨rfl, hb5⟩; have B5 := B4.trans (hb5.mono B4.size)))
        go_cut [4, 20] from 20 to 69 (fun pv iv wc => pv = .bool pn ∧ iv = .int .i64 (j : Int) ∧ wc = w5)
        case first =>
          cases pl <;> cases q2 <;> (go_wp2_with fail; go_meet; exact ⟨congrArg Value.bool F2.out.symm, rfl, rfl⟩)
        case rest =>
          obtain ⟨rfl, rfl, rfl⟩ := hcut
          go_upto_region 14 with (go_at_call 22; refine (K1 _ B5).mono ?_; rintro e w6 ⟨p6, c6, rfl, hi6, hb6⟩; have B6 := B5.trans (hb6.mono B5.size))
          obtain ⟨_, _, he, k1, k2, _, hat⟩ := hi6.at
          cases he
          have TK : Hid (∀ j (hj : j < kl.length), ∃ b o, p6 = some ⟨b, o, none⟩ ∧ w6.cell? ⟨b, o + j, none⟩ = some (.int .i64 (kl[j] : Int))) := hat
          clear hat hi6 K1 J2
          go_loopw [55] (fun i wq => ∃ q : Nat, q ≤ kl.length ∧ i = .int .i64 q ∧ Below w6.heap.size w6 wq) (fun i _ => kl.length - (intOf i).toNat)
          case atStart => exact ⟨0, Nat.zero_le _, rfl, Below.refl _ _⟩
          case round =>
            obtain ⟨q, hq, rfl, hbq⟩ := hrel
            have BQ : Below w2.heap.size w2 wr := B6.trans (hbq.mono B6.size)
            by_cases hql : q < kl.length
            · obtain ⟨b3, o3, rfl, hc3⟩ := TK.out q hql
              have hcq := keeps_below hbq (Nat.le_refl _) _ _ hc3
              have X1 := HX2.out kl[q] (List.getElem_mem hql)
              have M1 := H1 _ BQ
              have M2 := fun W hb => SH.out W (kl[q] : Int) hb
              rw [X1] at M2
              clear hc3 X1
              generalize kl[q] = x at *
              go_wp2_with (first
                | (go_at_call 15; refine M1.mono ?_; clear M1; rintro e w7 ⟨rfl, hb7⟩; have B7 := BQ.trans (hb7.mono BQ.size); have M3 := M2 _ B7)
                | (go_at_call 15; refine M3.mono ?_; clear M3; rintro e w8 ⟨rfl, hb8⟩))
              go_roundw
              case rel => exact ⟨q + 1, by omega, by go_num, (hbq.trans (hb7.mono hbq.size)).trans (hb8.mono (Nat.le_trans hbq.size hb7.size))⟩
              case measure => simp [intOf]; omega
            · obtain rfl : q = kl.length := by omega
              go_wp2_with fail
              go_roundw
              case rel => exact ⟨j + 1, by omega, by go_num, by rw [PN.out], BQ⟩
              case measure => simp [intOf]; omega
      | false =>
        have F2 : Hid (pn = (pl && !q2)) := by show _ = _; rw [F.out]; simp
        clear HJ F
        have HX2 : Hid (hk = true → ∀ x ∈ kl, hidD d (x : Int) = true) := HX
        clear HX
        go_upto_region 12 with (first
          | (go_at_call 21; refine J1.mono ?_; clear J1; rintro e w3 ⟨rfl, hb3⟩; have B3 := BR.trans (hb3.mono BR.size); have J3 := J2 _ B3)
          | (go_at_call 21; refine J3.mono ?_; clear J3; rintro e w4 ⟨rfl, hb4⟩; have B4 := B3.trans (hb4.mono B3.size)))
        go_cut [4, 20] from 20 to 69 (fun pv iv wc => pv = .bool pn ∧ iv = .int .i64 (j : Int) ∧ wc = w4)
        case first =>
          cases pl <;> cases q2 <;> (go_wp2_with fail; go_meet; exact ⟨congrArg Value.bool F2.out.symm, rfl, rfl⟩)
        case rest =>
          obtain ⟨rfl, rfl, rfl⟩ := hcut
          go_upto_region 14 with (go_at_call 22; refine (K1 _ B4).mono ?_; rintro e w6 ⟨p6, c6, rfl, hi6, hb6⟩; have B6 := B4.trans (hb6.mono B4.size))
          obtain ⟨_, _, he, k1, k2, _, hat⟩ := hi6.at
          cases he
          have TK : Hid (∀ j (hj : j < kl.length), ∃ b o, p6 = some ⟨b, o, none⟩ ∧ w6.cell? ⟨b, o + j, none⟩ = some (.int .i64 (kl[j] : Int))) := hat
          clear hat hi6 K1 J2
          go_loopw [55] (fun i wq => ∃ q : Nat, q ≤ kl.length ∧ i = .int .i64 q ∧ Below w6.heap.size w6 wq) (fun i _ => kl.length - (intOf i).toNat)
          case atStart => exact ⟨0, Nat.zero_le _, rfl, Below.refl _ _⟩
          case round =>
            obtain ⟨q, hq, rfl, hbq⟩ := hrel
            have BQ : Below w2.heap.size w2 wr := B6.trans (hbq.mono B6.size)
            by_cases hql : q < kl.length
            · obtain ⟨b3, o3, rfl, hc3⟩ := TK.out q hql
              have hcq := keeps_below hbq (Nat.le_refl _) _ _ hc3
              have M1 := H1 _ BQ
              have M2 := fun W hb => SH.out W (kl[q] : Int) hb
              have X1 := fun h => HX2.out h kl[q] (List.getElem_mem hql)
              clear hc3
              generalize kl[q] = x at *
              cases hk with
              | true =>
                rw [X1 rfl] at M2
                clear X1
                go_wp2_with (first
                  | (go_at_call 15; refine M1.mono ?_; clear M1; rintro e w7 ⟨rfl, hb7⟩; have B7 := BQ.trans (hb7.mono BQ.size); have M3 := M2 _ B7)
                  | (go_at_call 15; refine M3.mono ?_; clear M3; rintro e w8 ⟨rfl, hb8⟩))
                go_roundw
                case rel => exact ⟨q + 1, by omega, by go_num, (hbq.trans (hb7.mono hbq.size)).trans (hb8.mono (Nat.le_trans hbq.size hb7.size))⟩
                case measure => simp [intOf]; omega
              | false =>
                clear X1 M2
                go_wp2_with (go_at_call 15; refine M1.mono ?_; clear M1; rintro e w7 ⟨rfl, hb7⟩)
                go_roundw
                case rel => exact ⟨q + 1, by omega, by go_num, hbq.trans (hb7.mono hbq.size)⟩
                case measure => simp [intOf]; omega
            · obtain rfl : q = kl.length := by omega
              go_wp2_with fail
              go_roundw
              case rel => exact ⟨j + 1, by omega, by go_num, by rw [PN.out], BQ⟩
              case measure => simp [intOf]; omega
    · obtain rfl : j = rs.length := by omega
      have HP2 : Hid (plainD d rs.length = true → ∀ x ∈ sh, hidD d (x : Int) = false) := by
        have := HP.out
        rw [← L.out] at this
        exact this
      generalize plainD d rs.length = pl at *
      go_upto_region 21 with (go_at_call 18; refine (QS2.out _ BR).mono ?_; rintro e w4 ⟨v4, rfl, ho4, hb4⟩; obtain ⟨ps, cs, rfl, z1, z2, _, hat⟩ := (ints_of_owns ho4).at)
      have TK : Hid (∀ j (hj : j < sh.length), ∃ b o, ps = some ⟨b, o, none⟩ ∧ w4.cell? ⟨b, o + j, none⟩ = some (.int .i64 (sh[j] : Int))) := hat
      have B4 : Below w2.heap.size w2 w4 := BR.trans (hb4.mono BR.size)
      clear hat ho4 hb4 BR
      go_loopw [73] (fun i wq => ∃ q : Nat, q ≤ sh.length ∧ i = .int .i64 q ∧ Below w4.heap.size w4 wq) (fun i _ => sh.length - (intOf i).toNat)
      case atStart => exact ⟨0, Nat.zero_le _, rfl, Below.refl _ _⟩
      case round =>
        obtain ⟨q, hq, rfl, hbq⟩ := hrel
        have BQ : Below w2.heap.size w2 wr := B4.trans (hbq.mono B4.size)
        by_cases hql : q < sh.length
        · obtain ⟨b3, o3, rfl, hc3⟩ := TK.out q hql
          have hcq := keeps_below hbq (Nat.le_refl _) _ _ hc3
          have M1 := SH.out wr (sh[q] : Int) BQ
          have X1 := fun h => HP2.out h sh[q] (List.getElem_mem hql)
          clear hc3
          generalize sh[q] = x at *
          cases pl with
          | true =>
            rw [X1 rfl] at M1
            clear X1
            go_wp2_with (go_at_call 15; refine M1.mono ?_; clear M1; rintro e w7 ⟨rfl, hb7⟩)
            go_roundw
            case rel => exact ⟨q + 1, by omega, by go_num, hbq.trans (hb7.mono hbq.size)⟩
            case measure => simp [intOf]; omega
          | false =>
            clear X1 M1
            go_wp2_with fail
            go_roundw
            case rel => exact ⟨q + 1, by omega, by go_num, hbq⟩
            case measure => simp [intOf]; omega
        · obtain rfl : q = sh.length := by omega
          go_wp2_with fail
          go_ret
          exact ⟨rfl, B2.trans (BQ.mono B2.size)⟩
end Go.Proofs.YtkdmmnpcoegenacDoor

/-
  THE WALK of tnlaw5's RoleAsked; a slice of strings that came in, as it reads.
-/
namespace Go.Proofs.YtkdmmnpcoegenacDoor
open Go.RowKit

def StrsAt (w : World) (v : Value) (l : List ByteArray) : Prop :=
  ∃ p c, v = .slice p l.length c ∧ l.length ≤ c ∧ c ≤ 9223372036854775807 ∧ ∀ j (h : j < l.length), ∃ b o, p = some ⟨b, o, none⟩ ∧ w.cell? ⟨b, o + j, none⟩ = some (.string l[j])
theorem StrsAt.keeps {w w' : World} {v : Value} {l : List ByteArray} (h : StrsAt w v l) (k : Keeps w w') : StrsAt w' v l := by
  obtain ⟨p, c, e, h1, h2, h4⟩ := h
  refine ⟨p, c, e, h1, h2, fun j hj => ?_⟩
  obtain ⟨b, o, e1, e2⟩ := h4 j hj
  exact ⟨b, o, e1, k _ _ e2⟩

def txs (l : List ByteArray) : List (List UInt8) := l.map (·.data.toList)
def joinB (l : List ByteArray) : ByteArray := Tx.bs (Tx.joined (txs l))

section
open Go.ChangeShapes Go.WideShapes Go.ChangeAt
theorem open_strs {H : Type} {enc : TypeId × Value → H} {W : World} {a0 : Option Addr} {len cap : Nat} {d : DataW H} {ps : List MemPlace} (h : DataW.Trod enc Tryd.prog W 0 (fun _ => true) true 39 (.slice a0 len cap) d ps) :
    ∃ l : List ByteArray, StrsAt W (.slice a0 len cap) l ∧ (l = [] ∨ ∃ spare, d = .slice (l.map fun s => .lit (.string s.data.toList)) spare) := by
  obtain ⟨fuel, hf⟩ := h
  rcases Deep.open_strs Tryd.underlying39 Tryd.underlying9 cellsS hf with ⟨hcs, hx⟩ | ⟨a, len', cap', m, Sx, hcs, _, hl, hmx, hm, hx, hall⟩
  · simp [Value.cells] at hcs
    obtain ⟨rfl, rfl, rfl⟩ := hcs
    exact ⟨[], ⟨none, 0, rfl, Nat.le_refl _, by decide, fun j h => absurd h (by simp)⟩, Or.inl rfl⟩
  · simp [Value.cells] at hcs
    obtain ⟨rfl, rfl, rfl⟩ := hcs
    simp only [if_true] at hm
    subst hm
    simp only [Prod.mk.injEq] at hx
    refine ⟨(List.range len).map Sx, ⟨some a, m, by simp, by simpa using hl, hmx, fun j hj => ?_⟩, Or.inr ⟨_, by rw [hx.1, List.map_map]; rfl⟩⟩
    have hj' : j < len := by simpa using hj
    have h1 := (hall j (by omega)).1
    obtain ⟨b, o, spot⟩ := a
    have hs : spot = none := by
      have := World.cell?_spot (hall 0 (by omega)).1
      simpa [Addr.add] using this
    subst hs
    refine ⟨b, o, rfl, ?_⟩
    rw [← add_at]
    simpa using h1

theorem bulk_app {H : Type} : ∀ (a b : List (DataW H)), Rows.uptoBulkAll (a ++ b) = Rows.uptoBulkAll a + Rows.uptoBulkAll b
  | [], b => by simp [Rows.uptoBulkAll]
  | x :: a, b => by rw [List.cons_append, Rows.uptoBulkAll, Rows.uptoBulkAll, bulk_app a b]; omega

theorem joined_bulk {H : Type} : ∀ (l : List ByteArray), (Tx.joined (txs l)).length ≤ Rows.uptoBulkAll (l.map fun s => (.lit (.string s.data.toList) : DataW H)) ∧ l.length ≤ Rows.uptoBulkAll (l.map fun s => (.lit (.string s.data.toList) : DataW H))
  | [] => ⟨Nat.zero_le _, Nat.zero_le _⟩
  | [a] => by
    have e : Tx.joined (txs [a]) = a.data.toList := Tx.joined_one _
    rw [e, List.map_cons, Rows.uptoBulkAll, Rows.uptoBulk]
    simp
    omega
  | a :: b :: l => by
    obtain ⟨h1, h2⟩ := joined_bulk (b :: l)
    have e : Tx.joined (txs (a :: b :: l)) = a.data.toList ++ 32 :: Tx.joined (txs (b :: l)) := Tx.joined_cons _ _ _
    rw [e, List.map_cons, Rows.uptoBulkAll, Rows.uptoBulk]
    simp only [List.length_append, List.length_cons] at *
    omega

theorem bulk_strs_bound {H : Type} {l : List ByteArray} {d : DataW H} {pre post : List (DataW H)} (hd : l = [] ∨ ∃ spare, d = .slice (l.map fun s => .lit (.string s.data.toList)) spare) (hk : Rows.uptoSmall H (pre ++ d :: post) = true) :
    (Tx.joined (txs l)).length ≤ 4194304 ∧ l.length ≤ 4194304 := by
  have h : Rows.uptoBulkAll (pre ++ d :: post) ≤ 1048576 := of_decide_eq_true hk
  rw [bulk_app, Rows.uptoBulkAll] at h
  rcases hd with rfl | ⟨spare, rfl⟩
  · exact ⟨Nat.zero_le _, Nat.zero_le _⟩
  · rw [Rows.uptoBulk] at h
    obtain ⟨h1, h2⟩ := joined_bulk (H := H) l
    omega
end

theorem bs_self (s : ByteArray) : Tx.bs s.data.toList = s := rfl

set_option maxHeartbeats 800000 in
set_option maxRecDepth 100000 in
theorem rjoin_strs {w : World} {v : Value} {l : List ByteArray} (h : StrsAt w v l) (hlen : (Tx.joined (txs l)).length ≤ 4194304) (hN : l.length ≤ 4194304) :
    Calls Tryd.prog 23 #[v] w fun e w' => e = .returned (.string (joinB l)) ∧ w' = w := by
  obtain ⟨p, c, rfl, hc1, hc2, hat⟩ := h
  have HW : Hid (∀ j (h : j < l.length), ∃ b o, p = some ⟨b, o, none⟩ ∧ w.cell? ⟨b, o + j, none⟩ = some (.string l[j])) := hat
  have TL : Hid ((txs l).length = l.length) := by show _ = _; simp [txs]
  have E0 : Hid (joinB l = Tx.bs (Tx.joined ((txs l).take l.length))) := by show _ = _; rw [List.take_of_length_le (by rw [TL.out]; exact Nat.le_refl _)]; rfl
  have TT : Hid (∀ j (h : j < l.length), (txs l)[j]? = some l[j].data.toList) := fun j h => by simp [txs, h]
  have JF : Hid (∀ t, (txs l)[0]? = some t → Tx.bs (Tx.joined []) ++ Tx.bs t = Tx.bs (Tx.joined ((txs l).take 1))) := fun t h => Wd.join_first (txs l) t h
  have JN : Hid (∀ k t, 0 < k → (txs l)[k]? = some t → Tx.bs (Tx.joined ((txs l).take k)) ++ ⟨#[32]⟩ ++ Tx.bs t = Tx.bs (Tx.joined ((txs l).take (k + 1)))) := fun k t hk h => Wd.join_next (txs l) k t hk h
  have JR : Hid (∀ k t, (txs l)[k]? = some t → (Tx.bs (Tx.joined ((txs l).take k))).size + (Tx.bs t).size ≤ (Tx.joined (txs l)).length) := fun k t h => Wd.join_room (txs l) k t h
  clear hat
  generalize joinB l = res at *
  generalize hts : txs l = ts at *
  clear hts
  go_enter Tryd.func23, Tryd.ntmps23
  go_wp2
  go_loop [3, 8] (fun st i => ∃ k : Nat, k ≤ l.length ∧ i = .int .i64 k ∧ st = .string (Tx.bs (Tx.joined (ts.take k)))) (fun _ i => l.length - (intOf i).toNat)
  case atStart => exact ⟨0, Nat.zero_le _, rfl, rfl⟩
  case round =>
    obtain ⟨k, hk, rfl, rfl⟩ := hrel
    by_cases hlt : k < l.length
    · obtain ⟨b, o, rfl, hcell⟩ := HW.out k hlt
      have ht := TT.out k hlt
      have hroom := JR.out k _ ht
      rw [bs_self] at hroom
      cases k with
      | zero =>
        have E : Hid (Tx.bs (Tx.joined []) ++ l[0] = Tx.bs (Tx.joined (ts.take 1))) := JF.out _ ht
        have hroom0 : (Tx.bs (Tx.joined [])).size + l[0].size ≤ (Tx.joined ts).length := hroom
        have hcell0 : w.cell? ⟨b, o, none⟩ = some (.string l[0]) := hcell
        clear ht hroom hcell
        generalize l[0] = tb at *
        go_wp2
        go_round
        case rel => exact ⟨1, by omega, rfl, by rw [E.out]⟩
        case measure => simp [intOf]; omega
      | succ k =>
        have E : Hid (Tx.bs (Tx.joined (ts.take (k + 1))) ++ ⟨#[32]⟩ ++ l[k + 1] = Tx.bs (Tx.joined (ts.take (k + 1 + 1)))) := JN.out (k + 1) _ (by omega) ht
        clear ht
        generalize l[k + 1] = tb at *
        go_wp2
        go_round
        case rel => exact ⟨k + 1 + 1, by omega, by go_num, by rw [E.out]⟩
        case measure => simp [intOf]; omega
    · obtain rfl : k = l.length := by omega
      go_wp2
      go_ret
      exact ⟨by rw [E0.out]; rfl, rfl⟩
end Go.Proofs.YtkdmmnpcoegenacDoor

/-
  PLAIN MATHEMATICS: who asks for a role that needs nothing has it.
-/
namespace Go.Proofs.YtkdmmnpcoegenacDoor
open Tn

theorem fold_asked (name value : ByteArray) : ∀ (l : List At) (out : List At) (dn : Bool), (dn = true → attrOf out name = some value) → (dn = false → out.find? (fun a => eqS a.1 name) = none) →
    ((l.foldl (aStep name value) (out, dn)).2 = true → attrOf (l.foldl (aStep name value) (out, dn)).1 name = some value) ∧ ((l.foldl (aStep name value) (out, dn)).2 = false → (l.foldl (aStep name value) (out, dn)).1.find? (fun a => eqS a.1 name) = none)
  | [], out, dn, h1, h2 => ⟨h1, h2⟩
  | x :: l, out, dn, h1, h2 => by
    have hself : eqS name name = true := by unfold eqS; simp
    have keep : ∀ (m : List At), attrOf out name = some value → attrOf (out ++ m) name = some value := by
      intro m h
      unfold attrOf at *
      rw [List.find?_append]
      cases hf : out.find? (fun a => eqS a.1 name) with
      | none => rw [hf] at h; cases h
      | some a => rw [hf] at h; exact h
    have new : ∀ (y : At) (m : List At), out.find? (fun a => eqS a.1 name) = none → eqS y.1 name = true → attrOf (out ++ y :: m) name = some y.2 := by
      intro y m h hy
      unfold attrOf
      rw [List.find?_append, h]
      simp [hy]
    rw [List.foldl_cons]
    have e : aStep name value (out, dn) x = ((aStep name value (out, dn) x).1, (aStep name value (out, dn) x).2) := rfl
    rw [e]
    refine fold_asked name value l _ _ ?_ ?_
    · unfold aStep
      split
      · rename_i hx
        intro _
        cases dn with
        | true => exact keep _ (h1 rfl)
        | false => exact new (x.1, value) [] (h2 rfl) hx
      · split
        · rename_i hx2
          intro _
          cases dn with
          | true => simp at hx2
          | false =>
            have := new (name, value) [x] (h2 rfl) hself
            rw [List.append_assoc]
            exact this
        · intro hd
          exact keep _ (h1 hd)
    · unfold aStep
      split
      · intro hd; cases hd
      · split
        · intro hd; cases hd
        · rename_i hx _
          intro hd
          rw [List.find?_append, h2 hd]
          have : eqS x.1 name = false := by simpa using hx
          simp [this]

theorem attrs_asked (l : List At) (name value : ByteArray) : attrOf (attrsD l name value) name = some value := by
  obtain ⟨h1, h2⟩ := fold_asked name value l [] false (by simp) (fun _ => rfl)
  unfold attrsD
  split
  · rename_i h; exact h1 h
  · rename_i h
    have hf : (aFold name value l).2 = false := by simpa using h
    have := h2 hf
    unfold attrOf aFold
    rw [List.find?_append, this]
    have hself : eqS name name = true := by unfold eqS; simp
    simp [hself]

theorem lk_mem : ∀ (ps : List (List UInt8 × Nat)) (s : List UInt8) (a : Option Nat) (n : Nat), ps.foldl (fun a p => if p.1 = s then some p.2 else a) a = some n → a = none → ∃ p ∈ ps, p.1 = s
  | [], s, a, n, h, ha => by rw [List.foldl_nil, ha] at h; cases h
  | p :: ps, s, a, n, h, ha => by
    by_cases hp : p.1 = s
    · exact ⟨p, by simp, hp⟩
    · rw [List.foldl_cons, if_neg hp] at h
      obtain ⟨q, hq, e⟩ := lk_mem ps s a n h ha
      exact ⟨q, by simp [hq], e⟩

theorem names_low : ∀ p ∈ Kn.nmL 19, Wd.lowL p.1 = p.1 := by decide +kernel

/-- a role's name is in small letters -/
theorem find_low {t : List UInt8} (h : 0 ≤ Kn.findD t) : Wd.lowL t = t := by
  unfold Kn.findD at h
  split at h
  · rename_i n hn
    obtain ⟨p, hp, e⟩ := lk_mem _ t none n hn rfl
    rw [← e]
    exact names_low p hp
  · omega

theorem build_snoc {l : List Chg} {x : Chg} (h : applyE (build l) x = 0) : build (l ++ [x]) = applyD (build l) x := by
  have e : build (l ++ [x]) = Tn.step (build l) x := by unfold build; rw [List.foldl_append]; rfl
  rw [e]
  exact if_pos h

/-- behind the change the node is an element, and asks for that -/
theorem asked_doc {l : List Chg} {n : Int} {s : ByteArray} (h : applyE (build l) ⟨5, n, 0, 0, ⟨#[114, 111, 108, 101]⟩, s⟩ = 0) : ∃ k : Nat, n = (k : Int) ∧ isN (applyD (build l) ⟨5, n, 0, 0, ⟨#[114, 111, 108, 101]⟩, s⟩) (k : Int) true = true ∧ valN (applyD (build l) ⟨5, n, 0, 0, ⟨#[114, 111, 108, 101]⟩, s⟩) (k : Int) ⟨#[114, 111, 108, 101]⟩ = s := by
  have hg := build_good l
  generalize build l = d at *
  unfold applyE at h
  rw [if_neg (by simp)] at h
  cases hi : isN d n false with
  | false => simp [hi] at h
  | true =>
    obtain ⟨k, rfl, hkl, hlv⟩ := isN_nat hi
    simp only [hi] at h
    rw [if_neg (by simp)] at h
    have hm := chg_mid hg ⟨5, (k : Int), 0, 0, ⟨#[114, 111, 108, 101]⟩, s⟩ hi h
    unfold chgE at h
    rw [if_neg (by simp), if_neg (by simp), if_neg (by simp)] at h
    simp only [Int.toNat_natCast] at h
    have ht : has (nd d k).tag = true := by
      cases ht : has (nd d k).tag with
      | true => rfl
      | false => simp [ht] at h
    have e : chgD d ⟨5, (k : Int), 0, 0, ⟨#[114, 111, 108, 101]⟩, s⟩ = withd d k { nd d k with attrs := attrsD (nd d k).attrs ⟨#[114, 111, 108, 101]⟩ s } := by
      unfold chgD
      rw [if_neg (by simp), if_neg (by simp), if_neg (by simp), if_pos rfl]
      unfold attrD
      simp only [Int.toNat_natCast]
    have hn : nd (applyD d ⟨5, (k : Int), 0, 0, ⟨#[114, 111, 108, 101]⟩, s⟩) k = { nd d k with attrs := attrsD (nd d k).attrs ⟨#[114, 111, 108, 101]⟩ s } := by
      unfold applyD
      rw [nd_trim hm, e, nd_withd _ _ _ (by omega), if_pos rfl]
    have hl : lvD (applyD d ⟨5, (k : Int), 0, 0, ⟨#[114, 111, 108, 101]⟩, s⟩) k = true := by
      unfold lvD
      rw [hn]
      exact hlv
    have hE : isN (applyD d ⟨5, (k : Int), 0, 0, ⟨#[114, 111, 108, 101]⟩, s⟩) (k : Int) true = true := by
      rw [isN_el (by rw [isN_iff]; exact hl), hn]
      exact ht
    refine ⟨k, rfl, hE, ?_⟩
    unfold valN attrN
    rw [if_pos hE, Int.toNat_natCast, hn]
    simp only
    rw [attrs_asked]
    rfl

/-- who asks gets it -/
theorem asked_role {d : Dc} (h : Fine d) {k : Nat} (hi : isN d (k : Int) true = true) {r : Int} (hr : 0 < r) (hw : wantD d (k : Int) = r) (hn : needI r = 0) : roleD d (k : Int) = r := by
  rw [(role_cons h (isN_true hi)).1]
  have : aloneD d (k : Int) = r := by
    unfold aloneD
    rw [if_pos hi, hw, if_pos (by omega)]
  rw [this, fit_zero hn]
end Go.Proofs.YtkdmmnpcoegenacDoor

/-
  THE WALK of tnlaw5's RoleAsked.
-/
namespace Go.Proofs.YtkdmmnpcoegenacDoor
open Go.RowKit

theorem rapply_build {w : World} {b o c : Nat} {rs : List Raw} {l : List Tn.Chg} (hd : DocAt w b o c rs (Tn.build l)) (x : Tn.Chg) (hv : x.value.size ≤ 4194304) (hnm : x.name.size ≤ 4194304) :
    Calls Tryd.prog 24 #[.slice (some ⟨b, o, none⟩) rs.length c, chv x] w fun e w' => ApPost w w' e (Tn.build l) x := by
  have h := build_good l
  have hl := hd.len
  have hlen := h.len
  exact rapply_any hd (by omega) (by omega) x hv hnm (fun k hk hi => good_ok h x k hk hi) (fun hi he => (chg_mid h x hi he).len.1)

theorem role_size : (⟨#[114, 111, 108, 101]⟩ : ByteArray).size ≤ 4194304 := by decide

set_option maxHeartbeats 3200000 in
set_option maxRecDepth 100000 in
theorem rasked_walk {w : World} (T : Kn.TabAt w) {vl : Value} {l : List Tn.Chg} (hl : ChgsAt w vl l) (hsz : ∀ x ∈ l, x.value.size ≤ 4194304 ∧ x.name.size ≤ 4194304) (n : Int)
    {vs : Value} {sl : List ByteArray} (hs : StrsAt w vs sl) (hsb : (Tx.joined (txs sl)).length ≤ 4194304 ∧ sl.length ≤ 4194304) :
    Calls Tryd.prog 7 #[vl, .int .i64 n, vs] w fun e w' => e = .returned (.bool true) ∧ Below w.heap.size w w' := by
  have hA := l5alive_any T
  have HJ : Hid (∀ W, Below w.heap.size w W → Calls Tryd.prog 23 #[vs] W fun e w' => e = .returned (.string (joinB sl)) ∧ w' = W) := fun W hW => rjoin_strs (hs.keeps (keeps_below hW (Nat.le_refl _))) hsb.1 hsb.2
  have hz : (joinB sl).size ≤ 4194304 := hsb.1
  generalize joinB sl = s at *
  have QB : Hid (∀ W, Below w.heap.size w W → Calls Tryd.prog 10 #[vl] W fun e w' => ∃ g c rs, e = .returned (.slice (some ⟨g, 0, none⟩) rs.length c) ∧ DocAt w' g 0 c rs (Tn.build l) ∧ Below W.heap.size W w') := fun W hW => rbuild_good (hl.keeps (keeps_below hW (Nat.le_refl _))) hsz
  have QA : Hid (∀ W g c rs, DocAt W g 0 c rs (Tn.build l) → Calls Tryd.prog 24 #[.slice (some ⟨g, 0, none⟩) rs.length c, .agg #[.int .i64 5, .int .i64 n, .int .i64 0, .int .i64 0, .string ⟨#[114, 111, 108, 101]⟩, .string s]] W fun e w' => ApPost W w' e (Tn.build l) ⟨5, n, 0, 0, ⟨#[114, 111, 108, 101]⟩, s⟩) := fun W g c rs h => rapply_build h ⟨5, n, 0, 0, ⟨#[114, 111, 108, 101]⟩, s⟩ hz role_size
  obtain ⟨pc, cc, rfl, _⟩ := hl
  obtain ⟨ps, cs, rfl, _⟩ := hs
  by_cases hE : Tn.applyE (Tn.build l) ⟨5, n, 0, 0, ⟨#[114, 111, 108, 101]⟩, s⟩ = 0
  · obtain ⟨k, hnk, hiD, hval⟩ := asked_doc hE
    have CX : Hid (∀ W g c rs, DocAt W g 0 c rs (Tn.applyD (Tn.build l) ⟨5, n, 0, 0, ⟨#[114, 111, 108, 101]⟩, s⟩) → Below w.heap.size w W → Cx W g 0 c rs (Tn.applyD (Tn.build l) ⟨5, n, 0, 0, ⟨#[114, 111, 108, 101]⟩, s⟩)) := fun W g c rs h hb => by
      rw [← build_snoc hE] at h ⊢
      refine cx_build h (T.below hb) (fun x hx => ?_)
      rw [List.mem_append, List.mem_singleton] at hx
      rcases hx with hx | rfl
      · exact hsz x hx
      · exact ⟨hz, role_size⟩
    have hF : Fine (Tn.applyD (Tn.build l) ⟨5, n, 0, 0, ⟨#[114, 111, 108, 101]⟩, s⟩) := by rw [← build_snoc hE]; exact build_fine _
    have QA2 : Hid (∀ W g c rs, DocAt W g 0 c rs (Tn.build l) → Calls Tryd.prog 24 #[.slice (some ⟨g, 0, none⟩) rs.length c, .agg #[.int .i64 5, .int .i64 n, .int .i64 0, .int .i64 0, .string ⟨#[114, 111, 108, 101]⟩, .string s]] W fun e w' => (∃ (g' c' : Nat) (rs' : List Raw) (m : Int), e = .returned (.tuple #[.slice (some ⟨g', 0, none⟩) rs'.length c', .int .i64 m, .int .i64 0]) ∧ DocAt w' g' 0 c' rs' (Tn.applyD (Tn.build l) ⟨5, n, 0, 0, ⟨#[114, 111, 108, 101]⟩, s⟩)) ∧ Below W.heap.size W w') := fun W g c rs h => (QA.out W g c rs h).mono (by
      rintro e w' ⟨hb, ⟨hne, _⟩ | ⟨_, g', c', rs', e1, hd⟩⟩
      · exact absurd hE hne.out
      · exact ⟨⟨g', c', rs', _, e1, hd⟩, hb⟩)
    clear QA hE hsz T hsb
    generalize Tn.applyD (Tn.build l) ⟨5, n, 0, 0, ⟨#[114, 111, 108, 101]⟩, s⟩ = d at *
    generalize Tn.build l = d0 at *
    have hWD : wantD d (k : Int) = wantL (labD d (k : Int)) (Wd.toksOf s) := by unfold wantD; rw [hval]
    have RO : Hid (∀ r : Int, 0 < r → wantD d (k : Int) = r → needI r = 0 → roleD d (k : Int) = r) := fun r hr hw hn => asked_role hF hiD hr hw hn
    subst hnk
    have SK : ∀ (r : Int) W, Calls Tryd.prog 19 #[.int .i64 r] W fun e w' => (∃ (a0 : ByteArray) (a1 a2 a3 a4 a5 : Bool), e = .returned (.agg #[.string a0, .bool a1, .bool a2, .bool a3, .bool a4, .bool a5, .int .i64 (needI r)])) ∧ Below W.heap.size W w' := fun r W => (Kn.qkind_any (w := W) r).mono (by
      rintro e w' ⟨rfl, hb⟩
      exact ⟨⟨_, _, _, _, _, _, rfl⟩, hb⟩)
    have hfl := Kn.field_need
    have SO : Hid (∀ W g c rs, Cx W g 0 c rs d → Calls Tryd.prog 13 #[.slice (some ⟨g, 0, none⟩) rs.length c, .int .i64 (k : Int)] W fun e w' => e = .returned (.int .i64 (roleD d (k : Int))) ∧ Below W.heap.size W w') := fun W g c rs h => oof_any h (k : Int)
    clear hiD hval hF
    generalize roleD d (k : Int) = ro at *
    generalize labD d (k : Int) = lab at *
    generalize wantD d (k : Int) = wa at *
    by_cases hne : Wd.toksOf s = []
    · have hT : ∀ W, Calls Tryd.prog 25 #[.string s] W fun e w' => e = .returned (.slice none 0 0) ∧ Below W.heap.size W w' := fun W => Wd.rtokens_none s W hz hne
      clear SO RO hWD hne SK
      go_enter Tryd.func7, Tryd.ntmps7
      go_wp2_with (first
        | (go_at_call 17; refine hA.mono ?_; rintro e w1 ⟨rfl, hb1⟩)
        | (go_at_call 23; refine (HJ.out _ hb1).mono ?_; rintro e wj ⟨rfl, hwj⟩; subst hwj)
        | (go_at_call 10; refine (QB.out _ hb1).mono ?_; rintro e w2 ⟨g, c, rs, rfl, hd2, hb2⟩; have B2 := hb1.trans (hb2.mono hb1.size); have D2 : Hid (DocAt w2 g 0 c rs d0) := hd2; clear hd2)
        | (go_at_call 24; refine (QA2.out _ _ _ _ D2.out).mono ?_; rintro e w3 ⟨⟨g3, c3, rs3, m3, rfl, hd3⟩, hb3⟩; have B3 := B2.trans (hb3.mono B2.size); clear hd3)
        | (go_at_call 25; refine (hT _).mono ?_; rintro e w4 ⟨rfl, hb4⟩; have B4 := B3.trans (hb4.mono B3.size)))
      refine wp_loop_rounds 1 ?_
      rw [rounds_succ]
      go_wp2_with fail
      go_ret
      exact ⟨rfl, B4⟩
    · have hT : ∀ W, Calls Tryd.prog 25 #[.string s] W fun e w' => ∃ g c, e = .returned (.slice (some ⟨g, 0, none⟩) (Wd.toksOf s).length c) ∧ Wd.Words W.heap.size (Wd.toksOf s) g c w' ∧ Below W.heap.size W w' := fun W => Wd.rtokens_some s W hz hne
      have hlt := Wd.toksOf_len s
      have TS : Hid (∀ t ∈ Wd.toksOf s, t.length ≤ 4194304) := fun t ht => tok_size hz ht
      have hlen : (Wd.toksOf s).length ≤ 4194304 := by omega
      have E : Hid (wa = wantL lab (Wd.toksOf s)) := hWD
      clear hne hlt hWD
      generalize Wd.toksOf s = ts at *
      go_enter Tryd.func7, Tryd.ntmps7
      go_upto_region 8 with (first
        | (go_at_call 17; refine hA.mono ?_; rintro e w1 ⟨rfl, hb1⟩)
        | (go_at_call 23; refine (HJ.out _ hb1).mono ?_; rintro e wj ⟨rfl, hwj⟩; subst hwj)
        | (go_at_call 10; refine (QB.out _ hb1).mono ?_; rintro e w2 ⟨g, c, rs, rfl, hd2, hb2⟩; have B2 := hb1.trans (hb2.mono hb1.size); have D2 : Hid (DocAt w2 g 0 c rs d0) := hd2; clear hd2)
        | (go_at_call 24; refine (QA2.out _ _ _ _ D2.out).mono ?_; rintro e w3 ⟨⟨g3, c3, rs3, m3, rfl, hd3⟩, hb3⟩; have B3 := B2.trans (hb3.mono B2.size); have C3 : Hid (Cx w3 g3 0 c3 rs3 d) := CX.out _ _ _ _ hd3 B3; clear hd3)
        | (go_at_call 25; refine (hT _).mono ?_; rintro e w4 ⟨g4, c4, rfl, hW4, hb4⟩; have B4 := B3.trans (hb4.mono B3.size)))
      have TW : Hid (∀ j t, ts[j]? = some t → w4.cell? ⟨g4, j, none⟩ = some (.string (Tx.bs t))) := hW4.2.2.2
      have hcap := hW4.2.2.1
      have C4 : Hid (Cx w4 g3 0 c3 rs3 d) := C3.out.below hb4
      clear hW4 hT hA HJ QB QA2 D2 hb1 hb2 hb3 hb4 C3 B2 B3 CX
      go_loopw [33] (fun i wr => ∃ j : Nat, j ≤ ts.length ∧ i = .int .i64 j ∧ Hid (wa = wantL lab (ts.drop j)) ∧ Below w4.heap.size w4 wr) (fun i _ => ts.length - (intOf i).toNat)
      case atStart => exact ⟨0, Nat.zero_le _, rfl, by show _ = _; rw [E.out]; rfl, Below.refl _ _⟩
      case round =>
        obtain ⟨j, hj, rfl, R, hnx⟩ := hrel
        have BR : Below w.heap.size w wr := B4.trans (hnx.mono B4.size)
        by_cases hlt : j < ts.length
        · have hjt := List.getElem?_eq_getElem hlt
          have hc1 := keeps_below hnx (Nat.le_refl _) _ _ (TW.out j _ hjt)
          have hts := TS.out ts[j] (List.getElem_mem hlt)
          have hAs : Calls Tryd.prog 26 #[.string (Tx.bs ts[j])] wr fun e w' => e = .returned (.int .i64 (Kn.findD ts[j])) ∧ Below wr.heap.size wr w' := by rw [Kn.ask_find]; exact Kn.qasked_any (Tx.bs ts[j])
          have hLo : ∀ W, Calls Tryd.prog 27 #[.string (Tx.bs ts[j])] W fun e w' => e = .returned (.string (Tx.bs (Wd.lowL ts[j]))) ∧ Below W.heap.size W w' := fun W => Wd.rlower_any (Tx.bs ts[j]) W hts
          have R1 : Hid (wa = if Kn.findD (Wd.lowL ts[j]) = 0 ∧ lab = true then -1 else if 0 ≤ Kn.findD (Wd.lowL ts[j]) then Kn.findD (Wd.lowL ts[j]) else wantL lab (ts.drop (j + 1))) := by
            show _ = _
            rw [R.out, want_at lab ts j hlt]
          have FL : Hid (0 ≤ Kn.findD ts[j] → Wd.lowL ts[j] = ts[j]) := fun h => find_low h
          have EQ : Hid (((Tx.bs ts[j]).toList == (Tx.bs (Wd.lowL ts[j])).toList) = decide (ts[j] = Wd.lowL ts[j])) := by
            show _ = _
            rw [Wd.bs_toList, Wd.bs_toList, Bool.eq_iff_iff]
            simp
          clear R hjt hts
          generalize ts[j] = t at *
          have fc := find_cases t
          rcases fc with hf | ⟨r, hf⟩
          · by_cases hq : Wd.lowL t = t
            · have R2 : Hid (wa = wantL lab (ts.drop (j + 1))) := by show _ = _; rw [R1.out, hq, hf, if_neg (by omega), if_neg (by omega)]
              have eq : ((Tx.bs t).toList == (Tx.bs (Wd.lowL t)).toList) = true := by rw [EQ.out, hq]; simp
              rw [hf] at hAs
              clear R1 FL EQ hf hq
              generalize Tx.bs (Wd.lowL t) = lb at *
              generalize Tx.bs t = tb at *
              go_wp2_with (first
                | (go_at_call 26; refine hAs.mono ?_; rintro e w5 ⟨rfl, hb5⟩)
                | (go_at_call 27; refine (hLo _).mono ?_; rintro e w6 ⟨rfl, hb6⟩))
              go_roundw
              case rel => exact ⟨j + 1, by omega, by go_num, R2, (hnx.trans (hb5.mono hnx.size)).trans (hb6.mono (Nat.le_trans hnx.size hb5.size))⟩
              case measure => simp [intOf]; omega
            · have eq : ((Tx.bs t).toList == (Tx.bs (Wd.lowL t)).toList) = false := by rw [EQ.out]; simp; exact fun h => hq h.symm
              rw [hf] at hAs
              clear R1 FL EQ hf hq
              generalize Tx.bs (Wd.lowL t) = lb at *
              generalize Tx.bs t = tb at *
              go_wp2_with (first
                | (go_at_call 26; refine hAs.mono ?_; rintro e w5 ⟨rfl, hb5⟩; have B5 := BR.trans (hb5.mono BR.size))
                | (go_at_call 27; refine (hLo _).mono ?_; rintro e w6 ⟨rfl, hb6⟩; have B6 := B5.trans (hb6.mono B5.size)))
              go_ret
              exact ⟨rfl, B6⟩
          · rw [hf] at hAs
            cases r with
            | zero =>
              clear R1 FL EQ hf hLo
              generalize Tx.bs t = tb at *
              go_wp2_with (go_at_call 26; refine hAs.mono ?_; rintro e w5 ⟨rfl, hb5⟩)
              go_ret
              exact ⟨rfl, BR.trans (hb5.mono BR.size)⟩
            | succ r =>
              have R2 : wa = ((r + 1 : Nat) : Int) := by
                have hq := FL.out (by rw [hf]; omega)
                rw [R1.out, hq, hf, if_neg (by omega), if_pos (by omega)]
              have RO2 := RO.out ((r + 1 : Nat) : Int) (by omega) R2
              have hK := SK ((r + 1 : Nat) : Int)
              clear R1 FL EQ hf hLo R2
              generalize Tx.bs t = tb at *
              generalize hr : r + 1 = r1 at *
              have hr1 : 0 < r1 := by omega
              have hr2 : (0 : Int) < (r1 : Int) := by omega
              clear hr
              by_cases hn : needI (r1 : Int) = 0
              · have hro : Hid (ro = (r1 : Int)) := RO2 hn
                rw [hn] at hK
                have hO := SO.out
                clear RO2 hn
                go_wp2_with (first
                  | (go_at_call 26; refine hAs.mono ?_; rintro e w5 ⟨rfl, hb5⟩; have B5 := BR.trans (hb5.mono BR.size))
                  | (go_at_call 19; refine (hK _).mono ?_; rintro e w6 ⟨⟨a0, a1, a2, a3, a4, a5, rfl⟩, hb6⟩; have B6 := B5.trans (hb6.mono B5.size); have C6 : Hid (Cx w6 g3 0 c3 rs3 d) := C4.out.below ((hnx.trans (hb5.mono hnx.size)).trans (hb6.mono (Nat.le_trans hnx.size hb5.size))))
                  | (go_at_call 13; refine (hO _ _ _ _ C6.out).mono ?_; rintro e w7 ⟨rfl, hb7⟩))
                go_ret
                exact ⟨by rw [hro.out]; simp, B6.trans (hb7.mono B6.size)⟩
              · have hnq : (needI (r1 : Int) != 0) = true := by simpa using hn
                clear RO2 hn
                generalize needI (r1 : Int) = nd at *
                go_wp2_with (first
                  | (go_at_call 26; refine hAs.mono ?_; rintro e w5 ⟨rfl, hb5⟩; have B5 := BR.trans (hb5.mono BR.size))
                  | (go_at_call 19; refine (hK _).mono ?_; rintro e w6 ⟨⟨a0, a1, a2, a3, a4, a5, rfl⟩, hb6⟩; have B6 := B5.trans (hb6.mono B5.size)))
                go_ret
                exact ⟨rfl, B6⟩
        · obtain rfl : j = ts.length := by omega
          go_wp2_with fail
          go_ret
          exact ⟨rfl, BR⟩
  · have QA2 : Hid (∀ W g c rs, DocAt W g 0 c rs (Tn.build l) → Calls Tryd.prog 24 #[.slice (some ⟨g, 0, none⟩) rs.length c, .agg #[.int .i64 5, .int .i64 n, .int .i64 0, .int .i64 0, .string ⟨#[114, 111, 108, 101]⟩, .string s]] W fun e w' => e = .returned (.tuple #[.slice none 0 0, .int .i64 0, .int .i64 (Tn.applyE (Tn.build l) ⟨5, n, 0, 0, ⟨#[114, 111, 108, 101]⟩, s⟩)]) ∧ Below W.heap.size W w') := fun W g c rs h => (QA.out W g c rs h).mono (by
      rintro e w' ⟨hb, ⟨hne, e1⟩ | ⟨he, _⟩⟩
      · exact ⟨e1, hb⟩
      · exact absurd he.out hE)
    have hq : (Tn.applyE (Tn.build l) ⟨5, n, 0, 0, ⟨#[114, 111, 108, 101]⟩, s⟩ != 0) = true := by simpa using hE
    clear QA hE hsz T hsb
    generalize Tn.applyE (Tn.build l) ⟨5, n, 0, 0, ⟨#[114, 111, 108, 101]⟩, s⟩ = er at *
    generalize Tn.build l = d0 at *
    go_enter Tryd.func7, Tryd.ntmps7
    go_wp2_with (first
      | (go_at_call 17; refine hA.mono ?_; rintro e w1 ⟨rfl, hb1⟩)
      | (go_at_call 23; refine (HJ.out _ hb1).mono ?_; rintro e wj ⟨rfl, hwj⟩; subst hwj)
      | (go_at_call 10; refine (QB.out _ hb1).mono ?_; rintro e w2 ⟨g, c, rs, rfl, hd2, hb2⟩; have B2 := hb1.trans (hb2.mono hb1.size); have D2 : Hid (DocAt w2 g 0 c rs d0) := hd2; clear hd2)
      | (go_at_call 24; refine (QA2.out _ _ _ _ D2.out).mono ?_; rintro e w3 ⟨rfl, hb3⟩; have B3 := B2.trans (hb3.mono B2.size)))
    go_ret
    exact ⟨rfl, B3⟩
end Go.Proofs.YtkdmmnpcoegenacDoor
