/-
  OWN WORK: Qhi, Ote, Oal, One.
-/
import Derived.Test.YtkdmmnpcoegenacDoorP9
/-
  THE WALK of the reference's Hidden.
-/
namespace Go.Proofs.YtkdmmnpcoegenacDoor
open Go.RowKit

set_option maxHeartbeats 6400000 in
set_option maxRecDepth 100000 in
theorem qhid_any {b o c : Nat} {rs : List Raw} {d : Tn.Dc} : ∀ (f : Nat) (n : Int) (w : World), Cx w b o c rs d → (∀ k : Nat, n = (k : Int) → Tn.lvD d k = true → posD d k < f) →
    Calls Tryd.prog 16 #[.slice (some ⟨b, o, none⟩) rs.length c, .int .i64 n] w fun e w' => e = .returned (.bool (hidD d n)) ∧ Below w.heap.size w w' := by
  intro f
  induction f with
  | zero =>
    intro n w hc hf
    have his : Tn.isN d n false = false := by
      cases hi : Tn.isN d n false with
      | false => rfl
      | true =>
        obtain ⟨k, rfl, _, hl⟩ := isN_nat hi
        exact absurd (hf k rfl hl) (by omega)
    have E : Hid (hidD d n = true) := hid_nil hc.fine his
    have SI := ris_any hc.doc n false
    rw [his] at SI
    clear hc hf his
    go_enter Tryd.func16, Tryd.ntmps16
    go_wp2_with (go_at_call 36; refine SI.mono ?_; rintro e w1 ⟨rfl, hw1⟩; subst hw1)
    go_ret
    exact ⟨by rw [E.out]; rfl, Below.refl _ _⟩
  | succ f ih =>
    intro n w hc hf
    have SI := ris_any hc.doc n false
    cases his : Tn.isN d n false with
    | false =>
      have E : Hid (hidD d n = true) := hid_nil hc.fine his
      rw [his] at SI
      clear hc hf his ih
      go_enter Tryd.func16, Tryd.ntmps16
      go_wp2_with (go_at_call 36; refine SI.mono ?_; rintro e w1 ⟨rfl, hw1⟩; subst hw1)
      go_ret
      exact ⟨by rw [E.out]; rfl, Below.refl _ _⟩
    | true =>
      obtain ⟨k, rfl, hkl, hlv⟩ := isN_nat his
      have hF := hc.fine
      have HC := hid_cons hF his
      have hpk := hf k rfl hlv
      rw [his] at SI
      have S1 := rattr_all hc.doc (k : Int) ⟨#[104, 105, 100, 100, 101, 110]⟩
      have S2 : ∀ W, Below w.heap.size w W → Calls Tryd.prog 31 #[.slice (some ⟨b, o, none⟩) rs.length c, .int .i64 (k : Int), .string ⟨#[97, 114, 105, 97, 45, 104, 105, 100, 100, 101, 110]⟩] W fun e w' => e = .returned (.string (saidN d (k : Int) ⟨#[97, 114, 105, 97, 45, 104, 105, 100, 100, 101, 110]⟩)) ∧ Below W.heap.size W w' := fun W hb => qsaid_any (hc.below hb).doc hc.vn _ _
      have hz := said_size hc.vn (k : Int) ⟨#[97, 114, 105, 97, 45, 104, 105, 100, 100, 101, 110]⟩
      have S3 : ∀ W, Calls Tryd.prog 27 #[.string (saidN d (k : Int) ⟨#[97, 114, 105, 97, 45, 104, 105, 100, 100, 101, 110]⟩)] W fun e w' => e = .returned (.string (lowS (saidN d (k : Int) ⟨#[97, 114, 105, 97, 45, 104, 105, 100, 100, 101, 110]⟩))) ∧ Below W.heap.size W w' := fun W => Wd.rlower_any _ W hz
      have SU : ∀ W, Below w.heap.size w W → Calls Tryd.prog 20 #[.slice (some ⟨b, o, none⟩) rs.length c, .int .i64 (k : Int)] W fun e w' => e = .returned (.int .i64 (upF d (k : Int))) ∧ Below W.heap.size W w' := fun W hb => qup_any (hc.below hb).doc hF _
      have CE : concD d (k : Int) = ((attrN d (k : Int) ⟨#[104, 105, 100, 100, 101, 110]⟩).isSome || ((lowS (saidN d (k : Int) ⟨#[97, 114, 105, 97, 45, 104, 105, 100, 100, 101, 110]⟩)).toList == [116, 114, 117, 101])) := rfl
      rw [CE] at HC
      clear CE hz
      have SH : ∀ m : Nat, upF d (k : Int) = (m : Int) → ∀ W, Below w.heap.size w W → Calls Tryd.prog 16 #[.slice (some ⟨b, o, none⟩) rs.length c, .int .i64 (m : Int)] W fun e w' => e = .returned (.bool (hidD d (m : Int))) ∧ Below W.heap.size W w' := fun m hm W hb => ih (m : Int) W (hc.below hb) (fun k' e _ => by
        rcases up_cases hF (k : Int) with e1 | ⟨m2, k2, e1, e2, _, _, e5⟩
        · omega
        · have a1 : m = m2 := by omega
          have a2 : k = k2 := by omega
          have a3 : k' = m2 := by omega
          rw [a3]
          rw [a2] at hpk
          omega)
      have UC : upF d (k : Int) = -1 ∨ ∃ m : Nat, upF d (k : Int) = (m : Int) := by
        rcases up_cases hF (k : Int) with e1 | ⟨m2, k2, e1, _⟩
        · exact Or.inl e1
        · exact Or.inr ⟨m2, e1⟩
      clear hc hf ih
      have E : Hid (hidD d (k : Int) = ((attrN d (k : Int) ⟨#[104, 105, 100, 100, 101, 110]⟩).isSome || ((lowS (saidN d (k : Int) ⟨#[97, 114, 105, 97, 45, 104, 105, 100, 100, 101, 110]⟩)).toList == [116, 114, 117, 101]) || (decide (k ≠ 0) && (decide (upF d (k : Int) < 0) || hidD d (upF d (k : Int)))))) := HC
      clear HC
      generalize hidD d (k : Int) = res at *
      generalize lowS (saidN d (k : Int) ⟨#[97, 114, 105, 97, 45, 104, 105, 100, 100, 101, 110]⟩) = z at *
      generalize saidN d (k : Int) ⟨#[97, 114, 105, 97, 45, 104, 105, 100, 100, 101, 110]⟩ = y at *
      generalize valN d (k : Int) ⟨#[104, 105, 100, 100, 101, 110]⟩ = v at *
      generalize (attrN d (k : Int) ⟨#[104, 105, 100, 100, 101, 110]⟩).isSome = q at *
      cases q with
      | true =>
        have E2 : Hid (res = true) := by show _ = _; rw [E.out]; rfl
        clear E UC SH SU S2 S3
        go_enter Tryd.func16, Tryd.ntmps16
        go_wp2_with (first
          | (go_at_call 36; refine SI.mono ?_; rintro e w1 ⟨rfl, hw1⟩; subst hw1)
          | (go_at_call 21; refine S1.mono ?_; rintro e w2 ⟨rfl, hb2⟩))
        go_ret
        exact ⟨by rw [E2.out]; rfl, hb2⟩
      | false =>
        cases hzt : (z.toList == [116, 114, 117, 101]) with
        | true =>
          have E2 : Hid (res = true) := by show _ = _; rw [E.out, hzt]; rfl
          clear E UC SH SU
          go_enter Tryd.func16, Tryd.ntmps16
          go_wp2_with (first
            | (go_at_call 36; refine SI.mono ?_; rintro e w1 ⟨rfl, hw1⟩; subst hw1)
            | (go_at_call 21; refine S1.mono ?_; rintro e w2 ⟨rfl, hb2⟩)
            | (go_at_call 31; refine (S2 _ hb2).mono ?_; rintro e w3 ⟨rfl, hb3⟩; have B3 := hb2.trans (hb3.mono hb2.size))
            | (go_at_call 27; refine (S3 _).mono ?_; rintro e w4 ⟨rfl, hb4⟩; have B4 := B3.trans (hb4.mono B3.size)))
          go_ret
          exact ⟨by rw [E2.out]; rfl, B4⟩
        | false =>
          by_cases hk0 : k = 0
          · have E2 : Hid (res = false) := by show _ = _; rw [E.out, hzt, hk0]; rfl
            subst hk0
            clear E UC SH SU
            go_enter Tryd.func16, Tryd.ntmps16
            go_wp2_with (first
              | (go_at_call 36; refine SI.mono ?_; rintro e w1 ⟨rfl, hw1⟩; subst hw1)
              | (go_at_call 21; refine S1.mono ?_; rintro e w2 ⟨rfl, hb2⟩)
              | (go_at_call 31; refine (S2 _ hb2).mono ?_; rintro e w3 ⟨rfl, hb3⟩; have B3 := hb2.trans (hb3.mono hb2.size))
              | (go_at_call 27; refine (S3 _).mono ?_; rintro e w4 ⟨rfl, hb4⟩; have B4 := B3.trans (hb4.mono B3.size)))
            go_ret
            exact ⟨by rw [E2.out]; rfl, B4⟩
          · have hkq : ((k : Int) != 0) = true := by simp; omega
            have SU2 := SU
            rcases UC with hu | ⟨m, hu⟩
            · have E2 : Hid (res = true) := by show _ = _; rw [E.out, hzt, hu]; simp [hk0]
              rw [hu] at SU
              clear E SH hu hk0 SU2
              go_enter Tryd.func16, Tryd.ntmps16
              go_wp2_with (first
                | (go_at_call 36; refine SI.mono ?_; rintro e w1 ⟨rfl, hw1⟩; subst hw1)
                | (go_at_call 21; refine S1.mono ?_; rintro e w2 ⟨rfl, hb2⟩)
                | (go_at_call 31; refine (S2 _ hb2).mono ?_; rintro e w3 ⟨rfl, hb3⟩; have B3 := hb2.trans (hb3.mono hb2.size))
                | (go_at_call 27; refine (S3 _).mono ?_; rintro e w4 ⟨rfl, hb4⟩; have B4 := B3.trans (hb4.mono B3.size))
                | (go_at_call 20; refine (SU _ B4).mono ?_; rintro e w5 ⟨rfl, hb5⟩; have B5 := B4.trans (hb5.mono B4.size)))
              go_ret
              exact ⟨by rw [E2.out]; rfl, B5⟩
            · have hS := SH m hu
              have E2 : Hid (res = hidD d (m : Int)) := by
                show _ = _
                rw [E.out, hzt, hu]
                have : ¬ ((m : Int) < 0) := by omega
                simp [hk0, this]
              rw [hu] at SU SU2
              clear E SH hu hk0
              generalize hidD d (m : Int) = hm at *
              go_enter Tryd.func16, Tryd.ntmps16
              go_wp2_with (first
                | (go_at_call 36; refine SI.mono ?_; rintro e w1 ⟨rfl, hw1⟩; subst hw1)
                | (go_at_call 21; refine S1.mono ?_; rintro e w2 ⟨rfl, hb2⟩)
                | (go_at_call 31; refine (S2 _ hb2).mono ?_; rintro e w3 ⟨rfl, hb3⟩; have B3 := hb2.trans (hb3.mono hb2.size))
                | (go_at_call 27; refine (S3 _).mono ?_; rintro e w4 ⟨rfl, hb4⟩; have B4 := B3.trans (hb4.mono B3.size))
                | (go_at_call 20; refine (SU _ B4).mono ?_; clear SU; rintro e w5 ⟨rfl, hb5⟩; have B5 := B4.trans (hb5.mono B4.size); have J2 := SU2 w5 B5)
                | (go_at_call 20; refine J2.mono ?_; rintro e w6 ⟨rfl, hb6⟩; have B6 := B5.trans (hb6.mono B5.size))
                | (go_at_call 16; refine (hS _ B6).mono ?_; rintro e w7 ⟨rfl, hb7⟩; have B7 := B6.trans (hb7.mono B6.size)))
              go_ret
              exact ⟨by rw [E2.out]; rfl, B7⟩
end Go.Proofs.YtkdmmnpcoegenacDoor

/-
  THE WALKS of RoleTells, and of tnlaw5.alive.
-/
namespace Go.Proofs.YtkdmmnpcoegenacDoor
open Go.RowKit

theorem cx_build {w : World} {g c : Nat} {rs : List Raw} {l : List Tn.Chg} (hd : DocAt w g 0 c rs (Tn.build l)) (T : Kn.TabAt w) (hsz : ∀ x ∈ l, x.value.size ≤ 4194304 ∧ x.name.size ≤ 4194304) : Cx w g 0 c rs (Tn.build l) := ⟨hd, T, build_fine l, build_vn hsz⟩

theorem qrole_all {w : World} {b o c : Nat} {rs : List Raw} {d : Tn.Dc} (hc : Cx w b o c rs d) (n : Int) :
    Calls Tryd.prog 14 #[.slice (some ⟨b, o, none⟩) rs.length c, .int .i64 n] w fun e w' => e = .returned (.int .i64 (roleD d n)) ∧ Below w.heap.size w w' := qrole_any 60 n w hc (fun _ _ hk => pos_60 hc.fine hk)
theorem qhid_all {w : World} {b o c : Nat} {rs : List Raw} {d : Tn.Dc} (hc : Cx w b o c rs d) (n : Int) :
    Calls Tryd.prog 16 #[.slice (some ⟨b, o, none⟩) rs.length c, .int .i64 n] w fun e w' => e = .returned (.bool (hidD d n)) ∧ Below w.heap.size w w' := qhid_any 60 n w hc (fun _ _ hk => pos_60 hc.fine hk)

set_option maxHeartbeats 1600000 in
theorem rtells_walk {w : World} (T : Kn.TabAt w) {vl : Value} {l : List Tn.Chg} (hl : ChgsAt w vl l) (hsz : ∀ x ∈ l, x.value.size ≤ 4194304 ∧ x.name.size ≤ 4194304) (n : Int) :
    Calls Tryd.prog 4 #[vl, .int .i64 n] w fun e w' => e = .returned (.bool true) ∧ Below w.heap.size w w' := by
  have hB := rbuild_good hl hsz
  have C : ∀ w1 g c rs, DocAt w1 g 0 c rs (Tn.build l) → Below w.heap.size w w1 → Cx w1 g 0 c rs (Tn.build l) := fun w1 g c rs h hb => cx_build h (T.below hb) hsz
  obtain ⟨p, cp, rfl, _, _, _⟩ := hl.at
  clear hl
  generalize Tn.build l = d at *
  go_enter Tryd.func4, Tryd.ntmps4
  go_wp2_with (first
    | (go_at_call 10; refine hB.mono ?_; rintro e w1 ⟨g, c, rs, rfl, hd1, hb1⟩; have C1 : Hid (Cx w1 g 0 c rs d) := C _ _ _ _ hd1 hb1; clear hd1)
    | (go_at_call 11; refine (olab_any C1.out.doc C1.out.fine.okd C1.out.vn n).mono ?_; rintro e w2 ⟨rfl, hb2⟩; have C2 : Hid (Cx w2 g 0 c rs d) := C1.out.below hb2)
    | (go_at_call 12; refine (qlab_any C2.out.doc C2.out.vn n).mono ?_; rintro e w3 ⟨rfl, hb3⟩; have C3 : Hid (Cx w3 g 0 c rs d) := C2.out.below hb3)
    | (go_at_call 13; refine (oof_any C3.out n).mono ?_; rintro e w4 ⟨rfl, hb4⟩; have C4 : Hid (Cx w4 g 0 c rs d) := C3.out.below hb4)
    | (go_at_call 14; refine (qrole_all C4.out n).mono ?_; rintro e w5 ⟨rfl, hb5⟩; have C5 : Hid (Cx w5 g 0 c rs d) := C4.out.below hb5)
    | (go_at_call 15; refine (ohid_any C5.out n).mono ?_; rintro e w6 ⟨rfl, hb6⟩; have C6 : Hid (Cx w6 g 0 c rs d) := C5.out.below hb6)
    | (go_at_call 16; refine (qhid_all C6.out n).mono ?_; rintro e w7 ⟨rfl, hb7⟩))
  go_ret
  have B2 := hb1.trans (hb2.mono hb1.size)
  have B3 := B2.trans (hb3.mono B2.size)
  have B4 := B3.trans (hb4.mono B3.size)
  have B5 := B4.trans (hb5.mono B4.size)
  have B6 := B5.trans (hb6.mono B5.size)
  exact ⟨by simp, B6.trans (hb7.mono B6.size)⟩
end Go.Proofs.YtkdmmnpcoegenacDoor

/-
  THE WALK of tnlaw5.alive.
-/
namespace Go.Proofs.YtkdmmnpcoegenacDoor
open Go.RowKit

def al5L : List Tn.Chg := [⟨1, 0, 0, -1, ⟨#[108, 105]⟩, ⟨#[]⟩⟩, ⟨1, 0, 0, -1, ⟨#[117, 108]⟩, ⟨#[]⟩⟩, ⟨1, 2, 0, -1, ⟨#[108, 105]⟩, ⟨#[]⟩⟩, ⟨5, 2, 0, 0, ⟨#[104, 105, 100, 100, 101, 110]⟩, ⟨#[]⟩⟩, ⟨5, 1, 0, 0, ⟨#[97, 114, 105, 97, 45, 108, 97, 98, 101, 108]⟩, ⟨#[120]⟩⟩]
theorem al5_1 : roleD (Tn.build al5L) 1 = 18 := by decide +kernel
theorem al5_2 : roleD (Tn.build al5L) 3 = 6 := by decide +kernel
theorem al5_3 : hidD (Tn.build al5L) 3 = true := by decide +kernel
theorem al5_4 : hidD (Tn.build al5L) 1 = false := by decide +kernel
theorem al5_5 : labD (Tn.build al5L) 1 = true := by decide +kernel
theorem al5_6 : labD (Tn.build al5L) 2 = false := by decide +kernel
theorem al5_sz : ∀ x ∈ al5L, x.value.size ≤ 4194304 ∧ x.name.size ≤ 4194304 := by decide

set_option maxHeartbeats 1600000 in
theorem l5alive_any {w : World} (T : Kn.TabAt w) : Calls Tryd.prog 17 #[] w fun e w' => e = .returned (.bool true) ∧ Below w.heap.size w w' := by
  have hC := rbuild_good (chgs_new w al5L (by decide)) al5_sz
  have e : (al5L.flatMap chc).toArray = #[.int .i64 1, .int .i64 0, .int .i64 0, .int .i64 (-1), .string ⟨#[108, 105]⟩, .string ⟨#[]⟩, .int .i64 1, .int .i64 0, .int .i64 0, .int .i64 (-1), .string ⟨#[117, 108]⟩, .string ⟨#[]⟩, .int .i64 1, .int .i64 2, .int .i64 0, .int .i64 (-1), .string ⟨#[108, 105]⟩, .string ⟨#[]⟩, .int .i64 5, .int .i64 2, .int .i64 0, .int .i64 0, .string ⟨#[104, 105, 100, 100, 101, 110]⟩, .string ⟨#[]⟩, .int .i64 5, .int .i64 1, .int .i64 0, .int .i64 0, .string ⟨#[97, 114, 105, 97, 45, 108, 97, 98, 101, 108]⟩, .string ⟨#[120]⟩] := rfl
  have e4 : al5L.length = 5 := rfl
  rw [e, e4] at hC
  have B1 := (Below.refl w.heap.size w).alloc (Nat.le_refl _) (.cells #[.int .i64 1, .int .i64 0, .int .i64 0, .int .i64 (-1), .string ⟨#[108, 105]⟩, .string ⟨#[]⟩, .int .i64 1, .int .i64 0, .int .i64 0, .int .i64 (-1), .string ⟨#[117, 108]⟩, .string ⟨#[]⟩, .int .i64 1, .int .i64 2, .int .i64 0, .int .i64 (-1), .string ⟨#[108, 105]⟩, .string ⟨#[]⟩, .int .i64 5, .int .i64 2, .int .i64 0, .int .i64 0, .string ⟨#[104, 105, 100, 100, 101, 110]⟩, .string ⟨#[]⟩, .int .i64 5, .int .i64 1, .int .i64 0, .int .i64 0, .string ⟨#[97, 114, 105, 97, 45, 108, 97, 98, 101, 108]⟩, .string ⟨#[120]⟩] 45)
  have CX : Hid (∀ W g c rs, DocAt W g 0 c rs (Tn.build al5L) → Below w.heap.size w W → Cx W g 0 c rs (Tn.build al5L)) := fun W g c rs h hb => cx_build h (T.below hb) al5_sz
  clear e e4
  have p1 := al5_1
  have p2 := al5_2
  have p3 := al5_3
  have p4 := al5_4
  have p5 := al5_5
  have p6 := al5_6
  generalize Tn.build al5L = d at *
  have S1 : ∀ W g c rs, Cx W g 0 c rs d → Calls Tryd.prog 13 #[.slice (some ⟨g, 0, none⟩) rs.length c, .int .i64 1] W fun e w' => e = .returned (.int .i64 18) ∧ Below W.heap.size W w' := fun W g c rs h => by have := oof_any h 1; rw [p1] at this; exact this
  have S2 : ∀ W g c rs, Cx W g 0 c rs d → Calls Tryd.prog 13 #[.slice (some ⟨g, 0, none⟩) rs.length c, .int .i64 3] W fun e w' => e = .returned (.int .i64 6) ∧ Below W.heap.size W w' := fun W g c rs h => by have := oof_any h 3; rw [p2] at this; exact this
  have S3 : ∀ W g c rs, Cx W g 0 c rs d → Calls Tryd.prog 15 #[.slice (some ⟨g, 0, none⟩) rs.length c, .int .i64 3] W fun e w' => e = .returned (.bool true) ∧ Below W.heap.size W w' := fun W g c rs h => by have := ohid_any h 3; rw [p3] at this; exact this
  have S4 : ∀ W g c rs, Cx W g 0 c rs d → Calls Tryd.prog 15 #[.slice (some ⟨g, 0, none⟩) rs.length c, .int .i64 1] W fun e w' => e = .returned (.bool false) ∧ Below W.heap.size W w' := fun W g c rs h => by have := ohid_any h 1; rw [p4] at this; exact this
  have S5 : ∀ W g c rs, Cx W g 0 c rs d → Calls Tryd.prog 11 #[.slice (some ⟨g, 0, none⟩) rs.length c, .int .i64 1] W fun e w' => e = .returned (.bool true) ∧ Below W.heap.size W w' := fun W g c rs h => by have := olab_any h.doc h.fine.okd h.vn 1; rw [p5] at this; exact this
  have S6 : ∀ W g c rs, Cx W g 0 c rs d → Calls Tryd.prog 11 #[.slice (some ⟨g, 0, none⟩) rs.length c, .int .i64 2] W fun e w' => e = .returned (.bool false) ∧ Below W.heap.size W w' := fun W g c rs h => by have := olab_any h.doc h.fine.okd h.vn 2; rw [p6] at this; exact this
  clear p1 p2 p3 p4 p5 p6
  go_enter Tryd.func17, Tryd.ntmps17
  go_wp2_with (first
    | (go_at_call 10; refine hC.mono ?_; rintro e w1 ⟨g, c, rs, rfl, hd1, hb0⟩; have hb1 := B1.trans (hb0.mono B1.size); have C1 : Hid (Cx w1 g 0 c rs d) := CX.out _ _ _ _ hd1 hb1; clear hd1; have J1 := S1 _ _ _ _ C1.out)
    | (go_at_call 13; refine J1.mono ?_; clear J1; rintro e w2 ⟨rfl, hb2⟩; have C2 : Hid (Cx w2 g 0 c rs d) := C1.out.below hb2; have J2 := S2 _ _ _ _ C2.out)
    | (go_at_call 13; refine J2.mono ?_; clear J2; rintro e w3 ⟨rfl, hb3⟩; have C3 : Hid (Cx w3 g 0 c rs d) := C2.out.below hb3; have J3 := S3 _ _ _ _ C3.out)
    | (go_at_call 15; refine J3.mono ?_; clear J3; rintro e w4 ⟨rfl, hb4⟩; have C4 : Hid (Cx w4 g 0 c rs d) := C3.out.below hb4; have J4 := S4 _ _ _ _ C4.out)
    | (go_at_call 15; refine J4.mono ?_; clear J4; rintro e w5 ⟨rfl, hb5⟩; have C5 : Hid (Cx w5 g 0 c rs d) := C4.out.below hb5; have J5 := S5 _ _ _ _ C5.out)
    | (go_at_call 11; refine J5.mono ?_; clear J5; rintro e w6 ⟨rfl, hb6⟩; have C6 : Hid (Cx w6 g 0 c rs d) := C5.out.below hb6; have J6 := S6 _ _ _ _ C6.out)
    | (go_at_call 11; refine J6.mono ?_; clear J6; rintro e w7 ⟨rfl, hb7⟩))
  go_ret
  refine ⟨rfl, ?_⟩
  have B2 := hb1.trans (hb2.mono hb1.size)
  have B3 := B2.trans (hb3.mono B2.size)
  have B4 := B3.trans (hb4.mono B3.size)
  have B5 := B4.trans (hb5.mono B4.size)
  have B6 := B5.trans (hb6.mono B5.size)
  exact B6.trans (hb7.mono B6.size)
end Go.Proofs.YtkdmmnpcoegenacDoor

/-
  THE WALK of tnlaw5's RoleNeed.
-/
namespace Go.Proofs.YtkdmmnpcoegenacDoor
open Go.RowKit

theorem need_around {d : Tn.Dc} (h : Fine d) {k : Nat} (hk : Tn.isN d (k : Int) false = true) (hn : needI (roleD d (k : Int)) ≠ 0) : aroundD d (upF d (k : Int)) = needI (roleD d (k : Int)) := by
  have e := (role_cons h hk).1
  by_cases h0 : needI (aloneD d (k : Int)) = 0
  · rw [fit_zero h0] at e
    rw [e] at hn
    exact absurd h0 hn
  · by_cases h1 : needI (aloneD d (k : Int)) = aroundD d (upF d (k : Int))
    · rw [fit_yes h1] at e
      rw [e, h1]
    · rw [fit_no h0 h1] at e
      rw [e] at hn
      exact absurd need_gen hn

set_option maxHeartbeats 6400000 in
set_option maxRecDepth 100000 in
theorem rneed_walk {w : World} (T : Kn.TabAt w) {vl : Value} {l : List Tn.Chg} (hl : ChgsAt w vl l) (hsz : ∀ x ∈ l, x.value.size ≤ 4194304 ∧ x.name.size ≤ 4194304) :
    Calls Tryd.prog 5 #[vl] w fun e w' => e = .returned (.bool true) ∧ Below w.heap.size w w' := by
  have hA := l5alive_any T
  have QB : Hid (∀ W, Below w.heap.size w W → Calls Tryd.prog 10 #[vl] W fun e w' => ∃ g c rs, e = .returned (.slice (some ⟨g, 0, none⟩) rs.length c) ∧ DocAt w' g 0 c rs (Tn.build l) ∧ Below W.heap.size W w') := fun W hW => rbuild_good (hl.keeps (keeps_below hW (Nat.le_refl _))) hsz
  have C : Hid (∀ w1 g c rs, DocAt w1 g 0 c rs (Tn.build l) → Below w.heap.size w w1 → Cx w1 g 0 c rs (Tn.build l)) := fun w1 g c rs h hb => cx_build h (T.below hb) hsz
  have hF := build_fine l
  obtain ⟨p, cp, rfl, _, _, _⟩ := hl.at
  clear hl hsz T
  generalize Tn.build l = d at *
  obtain ⟨r, hr, _⟩ := hF.good.tr
  have hlv : Tn.lvD d 0 = true := hr.1.root
  have hsf := shown_few hF Tn.fuel hlv
  have LV : Hid (∀ x ∈ shownF Tn.fuel d 0, Tn.lvD d x = true) := fun x hx => (shown_live hF Tn.fuel 0 x hlv hx).1
  have QS : Hid (∀ W g c rs, Cx W g 0 c rs d → Calls Tryd.prog 18 #[.slice (some ⟨g, 0, none⟩) rs.length c, .int .i64 0] W fun e w' => ∃ v, e = .returned v ∧ OwnI w' W.heap.size v (shownF Tn.fuel d 0) ∧ Below W.heap.size W w') := fun W g c rs h => qshown_any hF Tn.fuel 0 W h.doc (fine_end hF) (by omega)
  have SK : ∀ (r : Int) W, Calls Tryd.prog 19 #[.int .i64 r] W fun e w' => (∃ (a0 : ByteArray) (a1 a2 a3 a4 a5 : Bool), e = .returned (.agg #[.string a0, .bool a1, .bool a2, .bool a3, .bool a4, .bool a5, .int .i64 (needI r)])) ∧ Below W.heap.size W w' := fun r W => (Kn.qkind_any (w := W) r).mono (by
    rintro e w' ⟨rfl, hb⟩
    exact ⟨⟨_, _, _, _, _, _, rfl⟩, hb⟩)
  have hfl := Kn.field_need
  have ARO : Hid (∀ m : Nat, Tn.lvD d m = true → aroundD d (m : Int) = keepA (roleD d (m : Int)) (aroundD d (upF d (m : Int)))) := fun m hm => (role_cons hF (by rw [Tn.isN_iff]; exact hm)).2
  have ARN : Hid (aroundD d (-1) = 0) := (role_nil hF (by unfold Tn.isN; simp)).2
  have NA : Hid (∀ k : Nat, Tn.lvD d k = true → needI (roleD d (k : Int)) ≠ 0 → aroundD d (upF d (k : Int)) = needI (roleD d (k : Int))) := fun k hk hn => need_around hF (by rw [Tn.isN_iff]; exact hk) hn
  have UC : Hid (∀ m : Nat, upF d (m : Int) = -1 ∨ ∃ m' : Nat, upF d (m : Int) = (m' : Int) ∧ Tn.lvD d m' = true ∧ posD d m' < posD d m) := fun m => by
    rcases up_cases hF (m : Int) with e | ⟨m', k', e1, e2, _, e4, e5⟩
    · exact Or.inl e
    · rw [Int.ofNat.inj e2]
      exact Or.inr ⟨m', by rw [← Int.ofNat.inj e2]; exact e1, e4, e5⟩
  clear hr hlv
  generalize shownF Tn.fuel d 0 = sh at *
  go_enter Tryd.func5, Tryd.ntmps5
  go_upto_region 5 with (first
    | (go_at_call 17; refine hA.mono ?_; rintro e w1 ⟨rfl, hb1⟩)
    | (go_at_call 10; refine (QB.out _ hb1).mono ?_; rintro e w2 ⟨g, c, rs, rfl, hd2, hb2⟩; have B2 := hb1.trans (hb2.mono hb1.size); have C2 : Hid (Cx w2 g 0 c rs d) := C.out _ _ _ _ hd2 B2; clear hd2)
    | (go_at_call 18; refine (QS.out _ _ _ _ C2.out).mono ?_; rintro e w4 ⟨v4, rfl, ho4, hb4⟩; obtain ⟨ps, cs, rfl, z1, z2, _, hat⟩ := (ints_of_owns ho4).at))
  have TK : Hid (∀ j (hj : j < sh.length), ∃ b o, ps = some ⟨b, o, none⟩ ∧ w4.cell? ⟨b, o + j, none⟩ = some (.int .i64 (sh[j] : Int))) := hat
  have C4 : Hid (Cx w4 g 0 c rs d) := C2.out.below hb4
  have B4 : Below w.heap.size w w4 := B2.trans (hb4.mono B2.size)
  have SO : Hid (∀ W (n : Int), Below w4.heap.size w4 W → Calls Tryd.prog 13 #[.slice (some ⟨g, 0, none⟩) rs.length c, .int .i64 n] W fun e w' => e = .returned (.int .i64 (roleD d n)) ∧ Below W.heap.size W w') := fun W n h => oof_any (C4.out.below h) n
  have SU : Hid (∀ W (n : Int), Below w4.heap.size w4 W → Calls Tryd.prog 20 #[.slice (some ⟨g, 0, none⟩) rs.length c, .int .i64 n] W fun e w' => e = .returned (.int .i64 (upF d n)) ∧ Below W.heap.size W w') := fun W n h => qup_any (C4.out.below h).doc hF n
  clear hat ho4 hb4 C2 QS C QB hA hb1 hb2 B2
  go_loopw [15] (fun iv wr => ∃ j : Nat, j ≤ sh.length ∧ iv = .int .i64 j ∧ Below w4.heap.size w4 wr) (fun i _ => sh.length - (intOf i).toNat)
  case atStart => exact ⟨0, Nat.zero_le _, rfl, Below.refl _ _⟩
  case round =>
    obtain ⟨j, hj, rfl, BR⟩ := hrel
    by_cases hlt : j < sh.length
    · obtain ⟨b1, o1, rfl, hc⟩ := TK.out j hlt
      have hcr := keeps_below BR (Nat.le_refl _) _ _ hc
      have hnl := LV.out _ (List.getElem_mem hlt)
      clear hc
      generalize sh[j] = n at *
      have I1 := SO.out wr (n : Int) BR
      have I2 := SK (roleD d (n : Int))
      have N1 : Hid _ := NA.out n hnl
      have U1 := SU.out
      have UC1 := UC.out n
      generalize roleD d (n : Int) = r1 at *
      by_cases h0 : needI r1 = 0
      · rw [h0] at I2
        clear N1 h0 U1 UC1
        go_wp2_with (first
          | (go_at_call 13; refine I1.mono ?_; rintro e w5 ⟨rfl, hb5⟩; have B5 := BR.trans (hb5.mono BR.size))
          | (go_at_call 19; refine (I2 _).mono ?_; rintro e w6 ⟨⟨a0, a1, a2, a3, a4, a5, rfl⟩, hb6⟩; have B6 := B5.trans (hb6.mono B5.size)))
        go_roundw
        case rel => exact ⟨j + 1, by omega, by go_num, B6⟩
        case measure => simp [intOf]; omega
      · have h0q : (needI r1 == 0) = false := by simpa using h0
        have N0 : Hid (needI r1 ≠ 0) := h0
        have A0 : Hid (aroundD d (upF d (n : Int)) = needI r1) := N1.out h0
        have U2 := fun W hb => U1 W (n : Int) hb
        clear N1 h0 U1
        generalize needI r1 = nd at *
        generalize upF d (n : Int) = u0 at *
        go_upto_region 10 with (first
          | (go_at_call 13; refine I1.mono ?_; rintro e w5 ⟨rfl, hb5⟩; have B5 := BR.trans (hb5.mono BR.size))
          | (go_at_call 19; refine (I2 _).mono ?_; rintro e w6 ⟨⟨a0, a1, a2, a3, a4, a5, rfl⟩, hb6⟩; have B6 := B5.trans (hb6.mono B5.size))
          | (go_at_call 20; refine (U2 _ B6).mono ?_; rintro e w7 ⟨rfl, hb7⟩; have B7 := B6.trans (hb7.mono B6.size)))
        have UC2 : u0 = -1 ∨ ∃ m : Nat, u0 = (m : Int) ∧ Tn.lvD d m = true := by
          rcases UC1 with e | ⟨m', e1, e2, _⟩
          · exact Or.inl e
          · exact Or.inr ⟨m', e1, e2⟩
        clear I1 I2 U2 hb5 hb6 hb7 B5 B6 UC1 BR
        go_loopw [7] (fun v wq => ∃ u : Int, v = .int .i64 u ∧ Hid (aroundD d u = nd) ∧ (u = -1 ∨ ∃ m : Nat, u = (m : Int) ∧ Tn.lvD d m = true) ∧ Below w4.heap.size w4 wq) (fun v _ => upM d v)
        case atStart => exact ⟨u0, rfl, A0, UC2, B7⟩
        case round =>
          obtain ⟨u, rfl, AE, hu, BQ⟩ := hrel
          rcases hu with rfl | ⟨m, rfl, hm⟩
          · exact absurd (AE.out.symm.trans ARN.out) N0.out
          · have I1 := SO.out wr (m : Int) BQ
            have I2 := fun W hb => SO.out W (m : Int) hb
            have I3 := I2
            have AM := ARO.out m hm
            have hU2 := fun W hb => SU.out W (m : Int) hb
            have NX1 := UC.out m
            generalize upF d (m : Int) = u1 at *
            have HAM : Hid (aroundD d (m : Int) = keepA (roleD d (m : Int)) (aroundD d u1)) := AM
            clear AM
            generalize roleD d (m : Int) = r2 at *
            have NM : (∀ W, Below w4.heap.size w4 W → Hid (aroundD d u1 = nd) → ∃ u : Int, (Value.int .i64 u1) = .int .i64 u ∧ Hid (aroundD d u = nd) ∧ (u = -1 ∨ ∃ m : Nat, u = (m : Int) ∧ Tn.lvD d m = true) ∧ Below w4.heap.size w4 W) := fun W hW hA => ⟨u1, rfl, hA, by
              rcases NX1 with e | ⟨m', e1, e2, e3⟩
              · exact Or.inl e
              · exact Or.inr ⟨m', e1, e2⟩, hW⟩
            have MS : Hid (upM d (.int .i64 u1) < upM d (.int .i64 (m : Int))) := by
              show _ < _
              rw [upM_nat]
              rcases NX1 with e | ⟨m', e1, e2, e3⟩
              · rw [e, upM_no]; omega
              · rw [e1, upM_nat]; omega
            clear NX1
            by_cases g0 : r2 = 0
            · have A1 : Hid (aroundD d u1 = nd) := by show _ = _; rw [← AE.out, HAM.out, g0]; rfl
              subst g0
              go_wp2_with (first
                | (go_at_call 13; refine I1.mono ?_; clear I1; rintro e w5 ⟨rfl, hb5⟩; have B5 := BQ.trans (hb5.mono BQ.size))
                | (go_at_call 20; refine (hU2 _ B5).mono ?_; rintro e w6 ⟨rfl, hb6⟩; have B6 := B5.trans (hb6.mono B5.size)))
              go_roundw
              case rel => exact NM _ B6 A1
              case measure => exact MS.out
            · have g0q : (r2 == 0) = false := by simpa using g0
              by_cases g1 : r2 = 18
              · have A1 : Hid (aroundD d u1 = nd) := by show _ = _; rw [← AE.out, HAM.out, g1]; rfl
                subst g1
                go_wp2_with (first
                  | (go_at_call 13; refine I1.mono ?_; clear I1; rintro e w5 ⟨rfl, hb5⟩; have B5 := BQ.trans (hb5.mono BQ.size); have J2 := I2 w5 B5)
                  | (go_at_call 13; refine J2.mono ?_; clear J2; rintro e w7 ⟨rfl, hb7⟩; have B7 := B5.trans (hb7.mono B5.size))
                  | (go_at_call 20; refine (hU2 _ B7).mono ?_; rintro e w6 ⟨rfl, hb6⟩; have B6 := B7.trans (hb6.mono B7.size)))
                go_roundw
                case rel => exact NM _ B6 A1
                case measure => exact MS.out
              · have g1q : (r2 == 18) = false := by simpa using g1
                have A1 : r2 = nd := by rw [← AE.out, HAM.out]; unfold keepA; rw [if_pos ⟨g0, g1⟩]
                subst A1
                clear g0 g1 NM MS
                go_wp2_with (first
                  | (go_at_call 13; refine I1.mono ?_; clear I1; rintro e w5 ⟨rfl, hb5⟩; have B5 := BQ.trans (hb5.mono BQ.size); have J2 := I2 w5 B5)
                  | (go_at_call 13; refine J2.mono ?_; clear J2; rintro e w7 ⟨rfl, hb7⟩; have B7 := B5.trans (hb7.mono B5.size); have J3 := I3 w7 B7)
                  | (go_at_call 13; refine J3.mono ?_; clear J3; rintro e w8 ⟨rfl, hb8⟩; have B8 := B7.trans (hb8.mono B7.size)))
                go_roundw
                case rel => exact ⟨j + 1, by omega, by go_num, B8⟩
                case measure => simp [intOf]; omega
    · obtain rfl : j = sh.length := by omega
      go_wp2_with fail
      go_ret
      exact ⟨rfl, B4.trans (BR.mono B4.size)⟩
end Go.Proofs.YtkdmmnpcoegenacDoor
