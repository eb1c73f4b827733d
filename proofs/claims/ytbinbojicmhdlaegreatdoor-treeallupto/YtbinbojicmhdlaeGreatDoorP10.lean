/-
  OWN WORK: Qfi, Oli, Ohi, Oba, Oof, Qro.
-/
import Derived.Test.YtbinbojicmhdlaeGreatDoorP9
import Derived.RangeFuncNested
import Derived.RangeFuncBound
import Derived.RangeFuncCalls
import Derived.RangeFuncLeaves
import Derived.RangeFuncBox
import Derived.Shelf.Abstract
import Derived.Shelf.RegionOpen
import Derived.WalkKit
import Derived.OwnWalkIn
import Derived.TacticsInMore
import Derived.LoopNIn
import Derived.LoopIn
/-
  THE WALK of the reference's first.
-/
namespace Go.Proofs.YtbinbojicmhdlaeGreatDoor
open Go.RowKit

set_option maxHeartbeats 6400000 in
set_option maxRecDepth 100000 in
theorem qfirst_any {w : World} {b o c : Nat} {rs : List Raw} {d : Tn.Dc} (hc : Cx w b o c rs d) (k : Nat) (hk : Tn.isN d (k : Int) true = true) :
    Calls Tryz.prog 56 #[.slice (some ⟨b, o, none⟩) rs.length c, .int .i64 (k : Int)] w fun e w' => e = .returned (.int .i64 (aloneD d (k : Int))) ∧ Below w.heap.size w w' := by
  have hd := hc.doc
  have hkl : k < d.length := by obtain ⟨k', e, h, _⟩ := isN_nat (isN_true hk); omega
  have hk' : k < rs.length := by rw [hd.len]; exact hkl
  have h1 := hd.row.c1 k hk'
  have ht : rs[k].tag = (Tn.nd d k).tag := by rw [(hd.nds k hk' hkl).tag, nd_at hkl]
  rw [ht] at h1
  have HT : Hid (∀ W, Below w.heap.size w W → W.cell? ⟨b, o + k * 9 + 1, none⟩ = some (.string (Tn.nd d k).tag)) := fun W hb => keeps_below hb (Nat.le_refl _) _ _ h1
  have SR := qsaid_any hd hc.vn (k : Int) ⟨#[114, 111, 108, 101]⟩
  have rz := said_size hc.vn (k : Int) ⟨#[114, 111, 108, 101]⟩
  have SRL : ∀ W, Calls Tryz.prog 49 #[.string (saidN d (k : Int) ⟨#[114, 111, 108, 101]⟩)] W fun e w' => e = .returned (.string (lowS (saidN d (k : Int) ⟨#[114, 111, 108, 101]⟩))) ∧ Below W.heap.size W w' := fun W => Wd.rlower_any _ W rz
  have lz : (lowS (saidN d (k : Int) ⟨#[114, 111, 108, 101]⟩)).size ≤ 4194304 := by rw [low_size]; exact rz
  have SH : ∀ W, Below w.heap.size w W → Calls Tryz.prog 30 #[.slice (some ⟨b, o, none⟩) rs.length c, .int .i64 (k : Int), .string ⟨#[104, 114, 101, 102]⟩] W fun e w' => e = .returned (.tuple #[.string (valN d (k : Int) ⟨#[104, 114, 101, 102]⟩), .bool (hasN d (k : Int) ⟨#[104, 114, 101, 102]⟩)]) ∧ Below W.heap.size W w' := fun W hb => rattr_all (hc.below hb).doc _ _
  have SA : ∀ W, Below w.heap.size w W → Calls Tryz.prog 30 #[.slice (some ⟨b, o, none⟩) rs.length c, .int .i64 (k : Int), .string ⟨#[97, 108, 116]⟩] W fun e w' => e = .returned (.tuple #[.string (valN d (k : Int) ⟨#[97, 108, 116]⟩), .bool (hasN d (k : Int) ⟨#[97, 108, 116]⟩)]) ∧ Below W.heap.size W w' := fun W hb => rattr_all (hc.below hb).doc _ _
  have az := val_size hc.vn (k : Int) ⟨#[97, 108, 116]⟩
  have SQ : ∀ W, Calls Tryz.prog 24 #[.string (valN d (k : Int) ⟨#[97, 108, 116]⟩)] W fun e w' => e = .returned (.string (saidN d (k : Int) ⟨#[97, 108, 116]⟩)) ∧ Below W.heap.size W w' := fun W => Wd.rsqueeze_any _ W az
  have SY : ∀ W, Below w.heap.size w W → Calls Tryz.prog 53 #[.slice (some ⟨b, o, none⟩) rs.length c, .int .i64 (k : Int), .string ⟨#[116, 121, 112, 101]⟩] W fun e w' => e = .returned (.string (saidN d (k : Int) ⟨#[116, 121, 112, 101]⟩)) ∧ Below W.heap.size W w' := fun W hb => qsaid_any (hc.below hb).doc hc.vn _ _
  have ST : ∀ W, Below w.heap.size w W → Calls Tryz.prog 53 #[.slice (some ⟨b, o, none⟩) rs.length c, .int .i64 (k : Int), .string ⟨#[116, 105, 116, 108, 101]⟩] W fun e w' => e = .returned (.string (saidN d (k : Int) ⟨#[116, 105, 116, 108, 101]⟩)) ∧ Below W.heap.size W w' := fun W hb => qsaid_any (hc.below hb).doc hc.vn _ _
  have yz := said_size hc.vn (k : Int) ⟨#[116, 121, 112, 101]⟩
  have SW : ∀ W, Calls Tryz.prog 49 #[.string (saidN d (k : Int) ⟨#[116, 121, 112, 101]⟩)] W fun e w' => e = .returned (.string (lowS (saidN d (k : Int) ⟨#[116, 121, 112, 101]⟩))) ∧ Below W.heap.size W w' := fun W => Wd.rlower_any _ W yz
  have SL : ∀ W, Below w.heap.size w W → Calls Tryz.prog 87 #[.slice (some ⟨b, o, none⟩) rs.length c, .int .i64 (k : Int)] W fun e w' => e = .returned (.bool (labD d (k : Int))) ∧ Below W.heap.size W w' := fun W hb => qlab_any (hc.below hb).doc hc.vn _
  have SG : ∀ W, Calls Tryz.prog 88 #[.string (Tn.nd d k).tag] W fun e w' => e = .returned (.int .i64 (Kn.tagD (Tn.nd d k).tag.data.toList)) ∧ Below W.heap.size W w' := fun W => Kn.qtag_any _
  have HS : Hid (∀ W s, Calls Tryz.prog 86 #[.string s] W fun e w' => e = .returned (.int .i64 (Kn.findD s.data.toList)) ∧ Below W.heap.size W w') := fun W s => by rw [Kn.ask_find]; exact Kn.qasked_any s
  have E0 : Hid (aloneD d (k : Int) = if 0 ≤ refL (labD d (k : Int)) (Wd.toksOf (lowS (saidN d (k : Int) ⟨#[114, 111, 108, 101]⟩))) then refL (labD d (k : Int)) (Wd.toksOf (lowS (saidN d (k : Int) ⟨#[114, 111, 108, 101]⟩))) else natD d (k : Int)) := by
    show _ = _
    rw [← want_ref]
    unfold aloneD
    rw [hk]
    rfl
  have EN : Hid (natD d (k : Int) = natT (labD d (k : Int)) (hasN d (k : Int) ⟨#[104, 114, 101, 102]⟩) ((lowS (saidN d (k : Int) ⟨#[116, 121, 112, 101]⟩)).toList == [99, 104, 101, 99, 107, 98, 111, 120]) (hasN d (k : Int) ⟨#[97, 108, 116]⟩ && (saidN d (k : Int) ⟨#[97, 108, 116]⟩).toList.isEmpty) (!(saidN d (k : Int) ⟨#[116, 105, 116, 108, 101]⟩).toList.isEmpty) (Tn.nd d k).tag) := rfl
  clear hc hd hk hkl ht yz h1 rz az
  generalize aloneD d (k : Int) = res at *
  generalize natD d (k : Int) = nat at *
  generalize labD d (k : Int) = lab at *
  generalize hasN d (k : Int) ⟨#[104, 114, 101, 102]⟩ = hr at *
  generalize hasN d (k : Int) ⟨#[97, 108, 116]⟩ = al at *
  generalize valN d (k : Int) ⟨#[104, 114, 101, 102]⟩ = vh at *
  generalize valN d (k : Int) ⟨#[97, 108, 116]⟩ = va at *
  generalize lowS (saidN d (k : Int) ⟨#[116, 121, 112, 101]⟩) = ylow at *
  generalize saidN d (k : Int) ⟨#[116, 121, 112, 101]⟩ = ysay at *
  generalize saidN d (k : Int) ⟨#[97, 108, 116]⟩ = asay at *
  generalize saidN d (k : Int) ⟨#[116, 105, 116, 108, 101]⟩ = tsay at *
  generalize lowS (saidN d (k : Int) ⟨#[114, 111, 108, 101]⟩) = rlow at *
  generalize saidN d (k : Int) ⟨#[114, 111, 108, 101]⟩ = rsay at *
  generalize (Tn.nd d k).tag = tag at *
  generalize hTG : Kn.tagD tag.data.toList = tg at *
  by_cases hne : Wd.toksOf rlow = []
  · have E1 : Hid (res = nat) := by show _ = _; rw [E0.out, hne]; rfl
    have hT : ∀ W, Calls Tryz.prog 31 #[.string rlow] W fun e w' => e = .returned (.slice none 0 0) ∧ Below W.heap.size W w' := fun W => Wd.rtokens_none rlow W lz hne
    clear E0 hne lz HS
    go_enter Tryz.func56, Tryz.ntmps56
    go_wp2_with (first
      | (go_at_call 53; refine SR.mono ?_; rintro e x1 ⟨rfl, hx1⟩)
      | (go_at_call 49; refine (SRL _).mono ?_; rintro e x2 ⟨rfl, hx2⟩)
      | (go_at_call 31; refine (hT _).mono ?_; rintro e x3 ⟨rfl, hx3⟩))
    have A2 := hx1.trans (hx2.mono hx1.size)
    have B0 := A2.trans (hx3.mono A2.size)
    have htag := HT.out _ B0
    clear HT SR SRL hT hx1 hx2 hx3 A2
    refine wp_loop_rounds 1 ?_
    rw [rounds_succ]
    cases ha : isA tag [97] with
    | true =>
      have hi := isA_one ha (b := [105, 110, 112, 117, 116]) (by decide)
      have hm := isA_one ha (b := [105, 109, 103]) (by decide)
      have hs := isA_one ha (b := [115, 101, 99, 116, 105, 111, 110]) (by decide)
      cases hr with
      | true =>
        have E2 : Hid (res = 7) := by show _ = _; rw [E1.out, EN.out]; unfold natT; simp [ha]
        clear E1 EN hTG
        simp only [isA] at *
        go_wp2_with (first
          | (go_at_call 30; refine (SH _ B0).mono ?_; clear SH; rintro e w1 ⟨rfl, hb1⟩; have B1 := B0.trans (hb1.mono B0.size))
          | (go_at_call 30; refine (SA _ B1).mono ?_; clear SA; rintro e w2 ⟨rfl, hb2⟩; have B2 := B1.trans (hb2.mono B1.size)))
        go_ret
        exact ⟨by rw [E2.out]; rfl, B2⟩
      | false =>
        have E2 : Hid (res = tg) := by show _ = _; rw [E1.out, EN.out]; unfold natT; simp [ha, hi, hm, hs, hTG]
        clear E1 EN hTG
        simp only [isA] at *
        go_wp2_with (first
          | (go_at_call 30; refine (SH _ B0).mono ?_; clear SH; rintro e w1 ⟨rfl, hb1⟩; have B1 := B0.trans (hb1.mono B0.size))
          | (go_at_call 30; refine (SA _ B1).mono ?_; clear SA; rintro e w2 ⟨rfl, hb2⟩; have B2 := B1.trans (hb2.mono B1.size))
          | (go_at_call 88; refine (SG _).mono ?_; rintro e w3 ⟨rfl, hb3⟩; have B3 := B2.trans (hb3.mono B2.size)))
        go_ret
        exact ⟨by rw [E2.out]; rfl, B3⟩
    | false =>
      cases hi : isA tag [105, 110, 112, 117, 116] with
      | true =>
        cases hy : (ylow.toList == [99, 104, 101, 99, 107, 98, 111, 120]) with
        | true =>
          have E2 : Hid (res = 9) := by show _ = _; rw [E1.out, EN.out]; unfold natT; simp [ha, hi, hy]
          clear E1 EN hTG
          simp only [isA] at *
          go_wp2_with (first
            | (go_at_call 30; refine (SH _ B0).mono ?_; clear SH; rintro e w1 ⟨rfl, hb1⟩; have B1 := B0.trans (hb1.mono B0.size))
            | (go_at_call 30; refine (SA _ B1).mono ?_; clear SA; rintro e w2 ⟨rfl, hb2⟩; have B2 := B1.trans (hb2.mono B1.size))
            | (go_at_call 53; refine (SY _ B2).mono ?_; clear SY; rintro e w3 ⟨rfl, hb3⟩; have B3 := B2.trans (hb3.mono B2.size))
            | (go_at_call 49; refine (SW _).mono ?_; clear SW; rintro e w4 ⟨rfl, hb4⟩; have B4 := B3.trans (hb4.mono B3.size)))
          go_ret
          exact ⟨by rw [E2.out]; rfl, B4⟩
        | false =>
          have E2 : Hid (res = 12) := by show _ = _; rw [E1.out, EN.out]; unfold natT; simp [ha, hi, hy]
          clear E1 EN hTG
          simp only [isA] at *
          go_wp2_with (first
            | (go_at_call 30; refine (SH _ B0).mono ?_; clear SH; rintro e w1 ⟨rfl, hb1⟩; have B1 := B0.trans (hb1.mono B0.size))
            | (go_at_call 30; refine (SA _ B1).mono ?_; clear SA; rintro e w2 ⟨rfl, hb2⟩; have B2 := B1.trans (hb2.mono B1.size))
            | (go_at_call 53; refine (SY _ B2).mono ?_; clear SY; rintro e w3 ⟨rfl, hb3⟩; have B3 := B2.trans (hb3.mono B2.size))
            | (go_at_call 49; refine (SW _).mono ?_; clear SW; rintro e w4 ⟨rfl, hb4⟩; have B4 := B3.trans (hb4.mono B3.size)))
          go_ret
          exact ⟨by rw [E2.out]; rfl, B4⟩
      | false =>
        cases hm : isA tag [105, 109, 103] with
        | true =>
          cases al with
          | false =>
            have E2 : Hid (res = 11) := by show _ = _; rw [E1.out, EN.out]; unfold natT; simp [ha, hi, hm]
            clear E1 EN hTG
            simp only [isA] at *
            go_wp2_with (first
              | (go_at_call 30; refine (SH _ B0).mono ?_; clear SH; rintro e w1 ⟨rfl, hb1⟩; have B1 := B0.trans (hb1.mono B0.size))
              | (go_at_call 30; refine (SA _ B1).mono ?_; clear SA; rintro e w2 ⟨rfl, hb2⟩; have B2 := B1.trans (hb2.mono B1.size)))
            go_ret
            exact ⟨by rw [E2.out]; rfl, B2⟩
          | true =>
            cases he : asay.toList.isEmpty with
            | false =>
              have E2 : Hid (res = 11) := by show _ = _; rw [E1.out, EN.out]; unfold natT; simp [ha, hi, hm, he]
              clear E1 EN hTG
              simp only [isA] at *
              go_wp2_with (first
                | (go_at_call 30; refine (SH _ B0).mono ?_; clear SH; rintro e w1 ⟨rfl, hb1⟩; have B1 := B0.trans (hb1.mono B0.size))
                | (go_at_call 30; refine (SA _ B1).mono ?_; clear SA; rintro e w2 ⟨rfl, hb2⟩; have B2 := B1.trans (hb2.mono B1.size))
                | (go_at_call 24; refine (SQ _).mono ?_; clear SQ; rintro e w3 ⟨rfl, hb3⟩; have B3 := B2.trans (hb3.mono B2.size)))
              go_ret
              exact ⟨by rw [E2.out]; rfl, B3⟩
            | true =>
              cases lab with
              | true =>
                have E2 : Hid (res = 11) := by show _ = _; rw [E1.out, EN.out]; unfold natT; simp [ha, hi, hm, he]
                clear E1 EN hTG
                simp only [isA] at *
                go_wp2_with (first
                  | (go_at_call 30; refine (SH _ B0).mono ?_; clear SH; rintro e w1 ⟨rfl, hb1⟩; have B1 := B0.trans (hb1.mono B0.size))
                  | (go_at_call 30; refine (SA _ B1).mono ?_; clear SA; rintro e w2 ⟨rfl, hb2⟩; have B2 := B1.trans (hb2.mono B1.size))
                  | (go_at_call 24; refine (SQ _).mono ?_; clear SQ; rintro e w3 ⟨rfl, hb3⟩; have B3 := B2.trans (hb3.mono B2.size))
                  | (go_at_call 87; refine (SL _ B3).mono ?_; clear SL; rintro e w4 ⟨rfl, hb4⟩; have B4 := B3.trans (hb4.mono B3.size)))
                go_ret
                exact ⟨by rw [E2.out]; rfl, B4⟩
              | false =>
                have E2 : Hid (res = 0) := by show _ = _; rw [E1.out, EN.out]; unfold natT; simp [ha, hi, hm, he]
                clear E1 EN hTG
                simp only [isA] at *
                go_wp2_with (first
                  | (go_at_call 30; refine (SH _ B0).mono ?_; clear SH; rintro e w1 ⟨rfl, hb1⟩; have B1 := B0.trans (hb1.mono B0.size))
                  | (go_at_call 30; refine (SA _ B1).mono ?_; clear SA; rintro e w2 ⟨rfl, hb2⟩; have B2 := B1.trans (hb2.mono B1.size))
                  | (go_at_call 24; refine (SQ _).mono ?_; clear SQ; rintro e w3 ⟨rfl, hb3⟩; have B3 := B2.trans (hb3.mono B2.size))
                  | (go_at_call 87; refine (SL _ B3).mono ?_; clear SL; rintro e w4 ⟨rfl, hb4⟩; have B4 := B3.trans (hb4.mono B3.size)))
                go_ret
                exact ⟨by rw [E2.out]; rfl, B4⟩
        | false =>
          cases hs : isA tag [115, 101, 99, 116, 105, 111, 110] with
          | false =>
            have E2 : Hid (res = tg) := by show _ = _; rw [E1.out, EN.out]; unfold natT; simp [ha, hi, hm, hs, hTG]
            clear E1 EN hTG
            simp only [isA] at *
            go_wp2_with (first
              | (go_at_call 30; refine (SH _ B0).mono ?_; clear SH; rintro e w1 ⟨rfl, hb1⟩; have B1 := B0.trans (hb1.mono B0.size))
              | (go_at_call 30; refine (SA _ B1).mono ?_; clear SA; rintro e w2 ⟨rfl, hb2⟩; have B2 := B1.trans (hb2.mono B1.size))
              | (go_at_call 88; refine (SG _).mono ?_; rintro e w3 ⟨rfl, hb3⟩; have B3 := B2.trans (hb3.mono B2.size)))
            go_ret
            exact ⟨by rw [E2.out]; rfl, B3⟩
          | true =>
            cases lab with
            | true =>
              have E2 : Hid (res = 16) := by show _ = _; rw [E1.out, EN.out]; unfold natT; simp [ha, hi, hm, hs]
              clear E1 EN hTG
              simp only [isA] at *
              go_wp2_with (first
                | (go_at_call 30; refine (SH _ B0).mono ?_; clear SH; rintro e w1 ⟨rfl, hb1⟩; have B1 := B0.trans (hb1.mono B0.size))
                | (go_at_call 30; refine (SA _ B1).mono ?_; clear SA; rintro e w2 ⟨rfl, hb2⟩; have B2 := B1.trans (hb2.mono B1.size))
                | (go_at_call 87; refine (SL _ B2).mono ?_; clear SL; rintro e w3 ⟨rfl, hb3⟩; have B3 := B2.trans (hb3.mono B2.size)))
              go_ret
              exact ⟨by rw [E2.out]; rfl, B3⟩
            | false =>
              cases he : tsay.toList.isEmpty with
              | false =>
                have E2 : Hid (res = 16) := by show _ = _; rw [E1.out, EN.out]; unfold natT; simp [ha, hi, hm, hs, he]
                clear E1 EN hTG
                simp only [isA] at *
                go_wp2_with (first
                  | (go_at_call 30; refine (SH _ B0).mono ?_; clear SH; rintro e w1 ⟨rfl, hb1⟩; have B1 := B0.trans (hb1.mono B0.size))
                  | (go_at_call 30; refine (SA _ B1).mono ?_; clear SA; rintro e w2 ⟨rfl, hb2⟩; have B2 := B1.trans (hb2.mono B1.size))
                  | (go_at_call 87; refine (SL _ B2).mono ?_; clear SL; rintro e w3 ⟨rfl, hb3⟩; have B3 := B2.trans (hb3.mono B2.size))
                  | (go_at_call 53; refine (ST _ B3).mono ?_; clear ST; rintro e w4 ⟨rfl, hb4⟩; have B4 := B3.trans (hb4.mono B3.size)))
                go_ret
                exact ⟨by rw [E2.out]; rfl, B4⟩
              | true =>
                have E2 : Hid (res = tg) := by show _ = _; rw [E1.out, EN.out]; unfold natT; simp [ha, hi, hm, hs, he, hTG]
                clear E1 EN hTG
                simp only [isA] at *
                go_wp2_with (first
                  | (go_at_call 30; refine (SH _ B0).mono ?_; clear SH; rintro e w1 ⟨rfl, hb1⟩; have B1 := B0.trans (hb1.mono B0.size))
                  | (go_at_call 30; refine (SA _ B1).mono ?_; clear SA; rintro e w2 ⟨rfl, hb2⟩; have B2 := B1.trans (hb2.mono B1.size))
                  | (go_at_call 87; refine (SL _ B2).mono ?_; clear SL; rintro e w3 ⟨rfl, hb3⟩; have B3 := B2.trans (hb3.mono B2.size))
                  | (go_at_call 53; refine (ST _ B3).mono ?_; clear ST; rintro e w4 ⟨rfl, hb4⟩; have B4 := B3.trans (hb4.mono B3.size))
                  | (go_at_call 88; refine (SG _).mono ?_; rintro e w5 ⟨rfl, hb5⟩; have B5 := B4.trans (hb5.mono B4.size)))
                go_ret
                exact ⟨by rw [E2.out]; rfl, B5⟩
  · have hT : ∀ W, Calls Tryz.prog 31 #[.string rlow] W fun e w' => ∃ g c, e = .returned (.slice (some ⟨g, 0, none⟩) (Wd.toksOf rlow).length c) ∧ Wd.Words W.heap.size (Wd.toksOf rlow) g c w' ∧ Below W.heap.size W w' := fun W => Wd.rtokens_some rlow W lz hne
    have hl := Wd.toksOf_len rlow
    have hlen : (Wd.toksOf rlow).length ≤ 4194304 := by omega
    clear hne hl lz
    generalize Wd.toksOf rlow = ts at *
    go_enter Tryz.func56, Tryz.ntmps56
    go_wp2_with (first
      | (go_at_call 53; refine SR.mono ?_; rintro e x1 ⟨rfl, hx1⟩)
      | (go_at_call 49; refine (SRL _).mono ?_; rintro e x2 ⟨rfl, hx2⟩)
      | (go_at_call 31; refine (hT _).mono ?_; rintro e x3 ⟨g2, c2, rfl, hW2, hx3⟩))
    have TW : Hid (∀ j t, ts[j]? = some t → x3.cell? ⟨g2, j, none⟩ = some (.string (Tx.bs t))) := hW2.2.2.2
    have hcap := hW2.2.2.1
    have A2 := hx1.trans (hx2.mono hx1.size)
    have B2 := A2.trans (hx3.mono A2.size)
    clear hW2 hT SR SRL hx1 hx2 hx3 A2
    go_loopw [19] (fun i wr => ∃ j : Nat, j ≤ ts.length ∧ i = .int .i64 j ∧ Hid (refL lab ts = refL lab (ts.drop j)) ∧ Below x3.heap.size x3 wr) (fun i _ => ts.length - (intOf i).toNat)
    case atStart => exact ⟨0, Nat.zero_le _, rfl, by show _ = _; rfl, Below.refl _ _⟩
    case round =>
      obtain ⟨j, hj, rfl, R, hnx⟩ := hrel
      have BR : Below w.heap.size w wr := B2.trans (hnx.mono B2.size)
      by_cases hlt : j < ts.length
      · have hjt := List.getElem?_eq_getElem hlt
        have hc1 := keeps_below hnx (Nat.le_refl _) _ _ (TW.out j _ hjt)
        have R1 : Hid (refL lab ts = if Kn.findD ts[j] = 0 ∧ lab = true then -1 else if 0 ≤ Kn.findD ts[j] then Kn.findD ts[j] else refL lab (ts.drop (j + 1))) := by
          show _ = _
          rw [R.out, ref_at lab ts j hlt]
        have hFi : Calls Tryz.prog 86 #[.string (Tx.bs ts[j])] wr fun e w' => e = .returned (.int .i64 (Kn.findD ts[j])) ∧ Below wr.heap.size wr w' := HS.out wr (Tx.bs ts[j])
        have fc := find_cases ts[j]
        clear R hjt HS
        generalize Tx.bs ts[j] = tb at *
        generalize Kn.findD ts[j] = f at *
        rcases fc with rfl | ⟨r, rfl⟩
        · have R2 : Hid (refL lab ts = refL lab (ts.drop (j + 1))) := by show _ = _; rw [R1.out, if_neg (by omega), if_neg (by omega)]
          clear R1
          go_wp2_with (go_at_call 86; refine hFi.mono ?_; rintro e w4 ⟨rfl, hb4⟩)
          go_roundw
          case rel => exact ⟨j + 1, by omega, by go_num, R2, hnx.trans (hb4.mono hnx.size)⟩
          case measure => simp [intOf]; omega
        · cases r with
          | zero =>
            cases lab with
            | true =>
              have R9 : refL true ts = -1 := by rw [R1.out, if_pos ⟨rfl, rfl⟩]
              have E1 : Hid (res = nat) := by show _ = _; rw [E0.out, R9]; rfl
              clear R9
              clear R1 E0
              have SL2 := SL
              go_upto_region 9 with (first
                | (go_at_call 86; refine hFi.mono ?_; rintro e w4 ⟨rfl, hb4⟩; have A4 := BR.trans (hb4.mono BR.size))
                | (go_at_call 87; refine (SL2 _ A4).mono ?_; rintro e w5 ⟨rfl, hb5⟩; have B0 := A4.trans (hb5.mono A4.size)))
              have htag := HT.out _ B0
              clear HT hc1 TW SL2
              cases ha : isA tag [97] with
              | true =>
                have hi := isA_one ha (b := [105, 110, 112, 117, 116]) (by decide)
                have hm := isA_one ha (b := [105, 109, 103]) (by decide)
                have hs := isA_one ha (b := [115, 101, 99, 116, 105, 111, 110]) (by decide)
                cases hr with
                | true =>
                  have E2 : Hid (res = 7) := by show _ = _; rw [E1.out, EN.out]; unfold natT; simp [ha]
                  clear E1 EN hTG
                  simp only [isA] at *
                  go_wp2_with (first
                    | (go_at_call 30; refine (SH _ B0).mono ?_; clear SH; rintro e w1 ⟨rfl, hb1⟩; have B1 := B0.trans (hb1.mono B0.size))
                    | (go_at_call 30; refine (SA _ B1).mono ?_; clear SA; rintro e w2 ⟨rfl, hb2⟩; have B2 := B1.trans (hb2.mono B1.size)))
                  go_ret
                  exact ⟨by rw [E2.out]; rfl, B2⟩
                | false =>
                  have E2 : Hid (res = tg) := by show _ = _; rw [E1.out, EN.out]; unfold natT; simp [ha, hi, hm, hs, hTG]
                  clear E1 EN hTG
                  simp only [isA] at *
                  go_wp2_with (first
                    | (go_at_call 30; refine (SH _ B0).mono ?_; clear SH; rintro e w1 ⟨rfl, hb1⟩; have B1 := B0.trans (hb1.mono B0.size))
                    | (go_at_call 30; refine (SA _ B1).mono ?_; clear SA; rintro e w2 ⟨rfl, hb2⟩; have B2 := B1.trans (hb2.mono B1.size))
                    | (go_at_call 88; refine (SG _).mono ?_; rintro e w3 ⟨rfl, hb3⟩; have B3 := B2.trans (hb3.mono B2.size)))
                  go_ret
                  exact ⟨by rw [E2.out]; rfl, B3⟩
              | false =>
                cases hi : isA tag [105, 110, 112, 117, 116] with
                | true =>
                  cases hy : (ylow.toList == [99, 104, 101, 99, 107, 98, 111, 120]) with
                  | true =>
                    have E2 : Hid (res = 9) := by show _ = _; rw [E1.out, EN.out]; unfold natT; simp [ha, hi, hy]
                    clear E1 EN hTG
                    simp only [isA] at *
                    go_wp2_with (first
                      | (go_at_call 30; refine (SH _ B0).mono ?_; clear SH; rintro e w1 ⟨rfl, hb1⟩; have B1 := B0.trans (hb1.mono B0.size))
                      | (go_at_call 30; refine (SA _ B1).mono ?_; clear SA; rintro e w2 ⟨rfl, hb2⟩; have B2 := B1.trans (hb2.mono B1.size))
                      | (go_at_call 53; refine (SY _ B2).mono ?_; clear SY; rintro e w3 ⟨rfl, hb3⟩; have B3 := B2.trans (hb3.mono B2.size))
                      | (go_at_call 49; refine (SW _).mono ?_; clear SW; rintro e w4 ⟨rfl, hb4⟩; have B4 := B3.trans (hb4.mono B3.size)))
                    go_ret
                    exact ⟨by rw [E2.out]; rfl, B4⟩
                  | false =>
                    have E2 : Hid (res = 12) := by show _ = _; rw [E1.out, EN.out]; unfold natT; simp [ha, hi, hy]
                    clear E1 EN hTG
                    simp only [isA] at *
                    go_wp2_with (first
                      | (go_at_call 30; refine (SH _ B0).mono ?_; clear SH; rintro e w1 ⟨rfl, hb1⟩; have B1 := B0.trans (hb1.mono B0.size))
                      | (go_at_call 30; refine (SA _ B1).mono ?_; clear SA; rintro e w2 ⟨rfl, hb2⟩; have B2 := B1.trans (hb2.mono B1.size))
                      | (go_at_call 53; refine (SY _ B2).mono ?_; clear SY; rintro e w3 ⟨rfl, hb3⟩; have B3 := B2.trans (hb3.mono B2.size))
                      | (go_at_call 49; refine (SW _).mono ?_; clear SW; rintro e w4 ⟨rfl, hb4⟩; have B4 := B3.trans (hb4.mono B3.size)))
                    go_ret
                    exact ⟨by rw [E2.out]; rfl, B4⟩
                | false =>
                  cases hm : isA tag [105, 109, 103] with
                  | true =>
                    cases al with
                    | false =>
                      have E2 : Hid (res = 11) := by show _ = _; rw [E1.out, EN.out]; unfold natT; simp [ha, hi, hm]
                      clear E1 EN hTG
                      simp only [isA] at *
                      go_wp2_with (first
                        | (go_at_call 30; refine (SH _ B0).mono ?_; clear SH; rintro e w1 ⟨rfl, hb1⟩; have B1 := B0.trans (hb1.mono B0.size))
                        | (go_at_call 30; refine (SA _ B1).mono ?_; clear SA; rintro e w2 ⟨rfl, hb2⟩; have B2 := B1.trans (hb2.mono B1.size)))
                      go_ret
                      exact ⟨by rw [E2.out]; rfl, B2⟩
                    | true =>
                      cases he : asay.toList.isEmpty with
                      | false =>
                        have E2 : Hid (res = 11) := by show _ = _; rw [E1.out, EN.out]; unfold natT; simp [ha, hi, hm, he]
                        clear E1 EN hTG
                        simp only [isA] at *
                        go_wp2_with (first
                          | (go_at_call 30; refine (SH _ B0).mono ?_; clear SH; rintro e w1 ⟨rfl, hb1⟩; have B1 := B0.trans (hb1.mono B0.size))
                          | (go_at_call 30; refine (SA _ B1).mono ?_; clear SA; rintro e w2 ⟨rfl, hb2⟩; have B2 := B1.trans (hb2.mono B1.size))
                          | (go_at_call 24; refine (SQ _).mono ?_; clear SQ; rintro e w3 ⟨rfl, hb3⟩; have B3 := B2.trans (hb3.mono B2.size)))
                        go_ret
                        exact ⟨by rw [E2.out]; rfl, B3⟩
                      | true =>
                        have E2 : Hid (res = 11) := by show _ = _; rw [E1.out, EN.out]; unfold natT; simp [ha, hi, hm, he]
                        clear E1 EN hTG
                        simp only [isA] at *
                        go_wp2_with (first
                          | (go_at_call 30; refine (SH _ B0).mono ?_; clear SH; rintro e w1 ⟨rfl, hb1⟩; have B1 := B0.trans (hb1.mono B0.size))
                          | (go_at_call 30; refine (SA _ B1).mono ?_; clear SA; rintro e w2 ⟨rfl, hb2⟩; have B2 := B1.trans (hb2.mono B1.size))
                          | (go_at_call 24; refine (SQ _).mono ?_; clear SQ; rintro e w3 ⟨rfl, hb3⟩; have B3 := B2.trans (hb3.mono B2.size))
                          | (go_at_call 87; refine (SL _ B3).mono ?_; clear SL; rintro e w4 ⟨rfl, hb4⟩; have B4 := B3.trans (hb4.mono B3.size)))
                        go_ret
                        exact ⟨by rw [E2.out]; rfl, B4⟩
                  | false =>
                    cases hs : isA tag [115, 101, 99, 116, 105, 111, 110] with
                    | false =>
                      have E2 : Hid (res = tg) := by show _ = _; rw [E1.out, EN.out]; unfold natT; simp [ha, hi, hm, hs, hTG]
                      clear E1 EN hTG
                      simp only [isA] at *
                      go_wp2_with (first
                        | (go_at_call 30; refine (SH _ B0).mono ?_; clear SH; rintro e w1 ⟨rfl, hb1⟩; have B1 := B0.trans (hb1.mono B0.size))
                        | (go_at_call 30; refine (SA _ B1).mono ?_; clear SA; rintro e w2 ⟨rfl, hb2⟩; have B2 := B1.trans (hb2.mono B1.size))
                        | (go_at_call 88; refine (SG _).mono ?_; rintro e w3 ⟨rfl, hb3⟩; have B3 := B2.trans (hb3.mono B2.size)))
                      go_ret
                      exact ⟨by rw [E2.out]; rfl, B3⟩
                    | true =>
                      have E2 : Hid (res = 16) := by show _ = _; rw [E1.out, EN.out]; unfold natT; simp [ha, hi, hm, hs]
                      clear E1 EN hTG
                      simp only [isA] at *
                      go_wp2_with (first
                        | (go_at_call 30; refine (SH _ B0).mono ?_; clear SH; rintro e w1 ⟨rfl, hb1⟩; have B1 := B0.trans (hb1.mono B0.size))
                        | (go_at_call 30; refine (SA _ B1).mono ?_; clear SA; rintro e w2 ⟨rfl, hb2⟩; have B2 := B1.trans (hb2.mono B1.size))
                        | (go_at_call 87; refine (SL _ B2).mono ?_; clear SL; rintro e w3 ⟨rfl, hb3⟩; have B3 := B2.trans (hb3.mono B2.size)))
                      go_ret
                      exact ⟨by rw [E2.out]; rfl, B3⟩
            | false =>
              have R9 : refL false ts = 0 := by rw [R1.out, if_neg (by simp), if_pos (by omega)]; rfl
              have R2 : Hid (res = 0) := by show _ = _; rw [E0.out, R9]; rfl
              clear R9
              clear R1
              go_wp2_with (first
                | (go_at_call 86; refine hFi.mono ?_; rintro e w4 ⟨rfl, hb4⟩; have B4 := BR.trans (hb4.mono BR.size))
                | (go_at_call 87; refine (SL _ B4).mono ?_; rintro e w5 ⟨rfl, hb5⟩))
              go_ret
              exact ⟨by rw [R2.out]; rfl, B4.trans (hb5.mono B4.size)⟩
          | succ r =>
            have R9 : refL lab ts = ((r + 1 : Nat) : Int) := by rw [R1.out, if_neg (by omega), if_pos (by omega)]
            have R2 : Hid (res = ((r + 1 : Nat) : Int)) := by show _ = _; rw [E0.out, R9, if_pos (by omega)]
            clear R9
            clear R1
            generalize hr1 : r + 1 = r1 at *
            have hr2 : 0 < r1 := by omega
            have hq : ((r1 : Int) == 0) = false := by simp; omega
            clear hr1
            go_wp2_with (go_at_call 86; refine hFi.mono ?_; rintro e w4 ⟨rfl, hb4⟩; have B4 := BR.trans (hb4.mono BR.size))
            go_ret
            exact ⟨by rw [R2.out]; rfl, B4⟩
      · obtain rfl : j = ts.length := by omega
        have E1 : Hid (res = nat) := by show _ = _; rw [E0.out, R.out, List.drop_length]; rfl
        have B0 := BR
        have htag := HT.out _ B0
        clear HT E0 R HS TW
        cases ha : isA tag [97] with
        | true =>
          have hi := isA_one ha (b := [105, 110, 112, 117, 116]) (by decide)
          have hm := isA_one ha (b := [105, 109, 103]) (by decide)
          have hs := isA_one ha (b := [115, 101, 99, 116, 105, 111, 110]) (by decide)
          cases hr with
          | true =>
            have E2 : Hid (res = 7) := by show _ = _; rw [E1.out, EN.out]; unfold natT; simp [ha]
            clear E1 EN hTG
            simp only [isA] at *
            go_wp2_with (first
              | (go_at_call 30; refine (SH _ B0).mono ?_; clear SH; rintro e w1 ⟨rfl, hb1⟩; have B1 := B0.trans (hb1.mono B0.size))
              | (go_at_call 30; refine (SA _ B1).mono ?_; clear SA; rintro e w2 ⟨rfl, hb2⟩; have B2 := B1.trans (hb2.mono B1.size)))
            go_ret
            exact ⟨by rw [E2.out]; rfl, B2⟩
          | false =>
            have E2 : Hid (res = tg) := by show _ = _; rw [E1.out, EN.out]; unfold natT; simp [ha, hi, hm, hs, hTG]
            clear E1 EN hTG
            simp only [isA] at *
            go_wp2_with (first
              | (go_at_call 30; refine (SH _ B0).mono ?_; clear SH; rintro e w1 ⟨rfl, hb1⟩; have B1 := B0.trans (hb1.mono B0.size))
              | (go_at_call 30; refine (SA _ B1).mono ?_; clear SA; rintro e w2 ⟨rfl, hb2⟩; have B2 := B1.trans (hb2.mono B1.size))
              | (go_at_call 88; refine (SG _).mono ?_; rintro e w3 ⟨rfl, hb3⟩; have B3 := B2.trans (hb3.mono B2.size)))
            go_ret
            exact ⟨by rw [E2.out]; rfl, B3⟩
        | false =>
          cases hi : isA tag [105, 110, 112, 117, 116] with
          | true =>
            cases hy : (ylow.toList == [99, 104, 101, 99, 107, 98, 111, 120]) with
            | true =>
              have E2 : Hid (res = 9) := by show _ = _; rw [E1.out, EN.out]; unfold natT; simp [ha, hi, hy]
              clear E1 EN hTG
              simp only [isA] at *
              go_wp2_with (first
                | (go_at_call 30; refine (SH _ B0).mono ?_; clear SH; rintro e w1 ⟨rfl, hb1⟩; have B1 := B0.trans (hb1.mono B0.size))
                | (go_at_call 30; refine (SA _ B1).mono ?_; clear SA; rintro e w2 ⟨rfl, hb2⟩; have B2 := B1.trans (hb2.mono B1.size))
                | (go_at_call 53; refine (SY _ B2).mono ?_; clear SY; rintro e w3 ⟨rfl, hb3⟩; have B3 := B2.trans (hb3.mono B2.size))
                | (go_at_call 49; refine (SW _).mono ?_; clear SW; rintro e w4 ⟨rfl, hb4⟩; have B4 := B3.trans (hb4.mono B3.size)))
              go_ret
              exact ⟨by rw [E2.out]; rfl, B4⟩
            | false =>
              have E2 : Hid (res = 12) := by show _ = _; rw [E1.out, EN.out]; unfold natT; simp [ha, hi, hy]
              clear E1 EN hTG
              simp only [isA] at *
              go_wp2_with (first
                | (go_at_call 30; refine (SH _ B0).mono ?_; clear SH; rintro e w1 ⟨rfl, hb1⟩; have B1 := B0.trans (hb1.mono B0.size))
                | (go_at_call 30; refine (SA _ B1).mono ?_; clear SA; rintro e w2 ⟨rfl, hb2⟩; have B2 := B1.trans (hb2.mono B1.size))
                | (go_at_call 53; refine (SY _ B2).mono ?_; clear SY; rintro e w3 ⟨rfl, hb3⟩; have B3 := B2.trans (hb3.mono B2.size))
                | (go_at_call 49; refine (SW _).mono ?_; clear SW; rintro e w4 ⟨rfl, hb4⟩; have B4 := B3.trans (hb4.mono B3.size)))
              go_ret
              exact ⟨by rw [E2.out]; rfl, B4⟩
          | false =>
            cases hm : isA tag [105, 109, 103] with
            | true =>
              cases al with
              | false =>
                have E2 : Hid (res = 11) := by show _ = _; rw [E1.out, EN.out]; unfold natT; simp [ha, hi, hm]
                clear E1 EN hTG
                simp only [isA] at *
                go_wp2_with (first
                  | (go_at_call 30; refine (SH _ B0).mono ?_; clear SH; rintro e w1 ⟨rfl, hb1⟩; have B1 := B0.trans (hb1.mono B0.size))
                  | (go_at_call 30; refine (SA _ B1).mono ?_; clear SA; rintro e w2 ⟨rfl, hb2⟩; have B2 := B1.trans (hb2.mono B1.size)))
                go_ret
                exact ⟨by rw [E2.out]; rfl, B2⟩
              | true =>
                cases he : asay.toList.isEmpty with
                | false =>
                  have E2 : Hid (res = 11) := by show _ = _; rw [E1.out, EN.out]; unfold natT; simp [ha, hi, hm, he]
                  clear E1 EN hTG
                  simp only [isA] at *
                  go_wp2_with (first
                    | (go_at_call 30; refine (SH _ B0).mono ?_; clear SH; rintro e w1 ⟨rfl, hb1⟩; have B1 := B0.trans (hb1.mono B0.size))
                    | (go_at_call 30; refine (SA _ B1).mono ?_; clear SA; rintro e w2 ⟨rfl, hb2⟩; have B2 := B1.trans (hb2.mono B1.size))
                    | (go_at_call 24; refine (SQ _).mono ?_; clear SQ; rintro e w3 ⟨rfl, hb3⟩; have B3 := B2.trans (hb3.mono B2.size)))
                  go_ret
                  exact ⟨by rw [E2.out]; rfl, B3⟩
                | true =>
                  cases lab with
                  | true =>
                    have E2 : Hid (res = 11) := by show _ = _; rw [E1.out, EN.out]; unfold natT; simp [ha, hi, hm, he]
                    clear E1 EN hTG
                    simp only [isA] at *
                    go_wp2_with (first
                      | (go_at_call 30; refine (SH _ B0).mono ?_; clear SH; rintro e w1 ⟨rfl, hb1⟩; have B1 := B0.trans (hb1.mono B0.size))
                      | (go_at_call 30; refine (SA _ B1).mono ?_; clear SA; rintro e w2 ⟨rfl, hb2⟩; have B2 := B1.trans (hb2.mono B1.size))
                      | (go_at_call 24; refine (SQ _).mono ?_; clear SQ; rintro e w3 ⟨rfl, hb3⟩; have B3 := B2.trans (hb3.mono B2.size))
                      | (go_at_call 87; refine (SL _ B3).mono ?_; clear SL; rintro e w4 ⟨rfl, hb4⟩; have B4 := B3.trans (hb4.mono B3.size)))
                    go_ret
                    exact ⟨by rw [E2.out]; rfl, B4⟩
                  | false =>
                    have E2 : Hid (res = 0) := by show _ = _; rw [E1.out, EN.out]; unfold natT; simp [ha, hi, hm, he]
                    clear E1 EN hTG
                    simp only [isA] at *
                    go_wp2_with (first
                      | (go_at_call 30; refine (SH _ B0).mono ?_; clear SH; rintro e w1 ⟨rfl, hb1⟩; have B1 := B0.trans (hb1.mono B0.size))
                      | (go_at_call 30; refine (SA _ B1).mono ?_; clear SA; rintro e w2 ⟨rfl, hb2⟩; have B2 := B1.trans (hb2.mono B1.size))
                      | (go_at_call 24; refine (SQ _).mono ?_; clear SQ; rintro e w3 ⟨rfl, hb3⟩; have B3 := B2.trans (hb3.mono B2.size))
                      | (go_at_call 87; refine (SL _ B3).mono ?_; clear SL; rintro e w4 ⟨rfl, hb4⟩; have B4 := B3.trans (hb4.mono B3.size)))
                    go_ret
                    exact ⟨by rw [E2.out]; rfl, B4⟩
            | false =>
              cases hs : isA tag [115, 101, 99, 116, 105, 111, 110] with
              | false =>
                have E2 : Hid (res = tg) := by show _ = _; rw [E1.out, EN.out]; unfold natT; simp [ha, hi, hm, hs, hTG]
                clear E1 EN hTG
                simp only [isA] at *
                go_wp2_with (first
                  | (go_at_call 30; refine (SH _ B0).mono ?_; clear SH; rintro e w1 ⟨rfl, hb1⟩; have B1 := B0.trans (hb1.mono B0.size))
                  | (go_at_call 30; refine (SA _ B1).mono ?_; clear SA; rintro e w2 ⟨rfl, hb2⟩; have B2 := B1.trans (hb2.mono B1.size))
                  | (go_at_call 88; refine (SG _).mono ?_; rintro e w3 ⟨rfl, hb3⟩; have B3 := B2.trans (hb3.mono B2.size)))
                go_ret
                exact ⟨by rw [E2.out]; rfl, B3⟩
              | true =>
                cases lab with
                | true =>
                  have E2 : Hid (res = 16) := by show _ = _; rw [E1.out, EN.out]; unfold natT; simp [ha, hi, hm, hs]
                  clear E1 EN hTG
                  simp only [isA] at *
                  go_wp2_with (first
                    | (go_at_call 30; refine (SH _ B0).mono ?_; clear SH; rintro e w1 ⟨rfl, hb1⟩; have B1 := B0.trans (hb1.mono B0.size))
                    | (go_at_call 30; refine (SA _ B1).mono ?_; clear SA; rintro e w2 ⟨rfl, hb2⟩; have B2 := B1.trans (hb2.mono B1.size))
                    | (go_at_call 87; refine (SL _ B2).mono ?_; clear SL; rintro e w3 ⟨rfl, hb3⟩; have B3 := B2.trans (hb3.mono B2.size)))
                  go_ret
                  exact ⟨by rw [E2.out]; rfl, B3⟩
                | false =>
                  cases he : tsay.toList.isEmpty with
                  | false =>
                    have E2 : Hid (res = 16) := by show _ = _; rw [E1.out, EN.out]; unfold natT; simp [ha, hi, hm, hs, he]
                    clear E1 EN hTG
                    simp only [isA] at *
                    go_wp2_with (first
                      | (go_at_call 30; refine (SH _ B0).mono ?_; clear SH; rintro e w1 ⟨rfl, hb1⟩; have B1 := B0.trans (hb1.mono B0.size))
                      | (go_at_call 30; refine (SA _ B1).mono ?_; clear SA; rintro e w2 ⟨rfl, hb2⟩; have B2 := B1.trans (hb2.mono B1.size))
                      | (go_at_call 87; refine (SL _ B2).mono ?_; clear SL; rintro e w3 ⟨rfl, hb3⟩; have B3 := B2.trans (hb3.mono B2.size))
                      | (go_at_call 53; refine (ST _ B3).mono ?_; clear ST; rintro e w4 ⟨rfl, hb4⟩; have B4 := B3.trans (hb4.mono B3.size)))
                    go_ret
                    exact ⟨by rw [E2.out]; rfl, B4⟩
                  | true =>
                    have E2 : Hid (res = tg) := by show _ = _; rw [E1.out, EN.out]; unfold natT; simp [ha, hi, hm, hs, he, hTG]
                    clear E1 EN hTG
                    simp only [isA] at *
                    go_wp2_with (first
                      | (go_at_call 30; refine (SH _ B0).mono ?_; clear SH; rintro e w1 ⟨rfl, hb1⟩; have B1 := B0.trans (hb1.mono B0.size))
                      | (go_at_call 30; refine (SA _ B1).mono ?_; clear SA; rintro e w2 ⟨rfl, hb2⟩; have B2 := B1.trans (hb2.mono B1.size))
                      | (go_at_call 87; refine (SL _ B2).mono ?_; clear SL; rintro e w3 ⟨rfl, hb3⟩; have B3 := B2.trans (hb3.mono B2.size))
                      | (go_at_call 53; refine (ST _ B3).mono ?_; clear ST; rintro e w4 ⟨rfl, hb4⟩; have B4 := B3.trans (hb4.mono B3.size))
                      | (go_at_call 88; refine (SG _).mono ?_; rintro e w5 ⟨rfl, hb5⟩; have B5 := B4.trans (hb5.mono B4.size)))
                    go_ret
                    exact ⟨by rw [E2.out]; rfl, B5⟩
end Go.Proofs.YtbinbojicmhdlaeGreatDoor

/-
  THE WALKS of role.lineage, and of role.Hidden.
-/
namespace Go.Proofs.YtbinbojicmhdlaeGreatDoor
open Go.RowKit

theorem lineF_len (d : Tn.Dc) : ∀ (f : Nat) (n : Int), (lineF f d n).length ≤ f
  | 0, _ => Nat.le_refl _
  | f + 1, n => by
    rw [lineF]
    split
    · have := lineF_len d f (upF d n)
      simp
      omega
    · simp
theorem line_len (d : Tn.Dc) (n : Int) : (lineD d n).length ≤ 64 := lineF_len d 64 n

set_option maxHeartbeats 1600000 in
theorem oline_any {w : World} {b o c : Nat} {rs : List Raw} {d : Tn.Dc} (hc : Cx w b o c rs d) (n : Int) :
    Calls Tryz.prog 77 #[.slice (some ⟨b, o, none⟩) rs.length c, .int .i64 n] w fun e w' => ∃ v, e = .returned v ∧ OwnI w' w.heap.size v (lineD d n) ∧ Below w.heap.size w w' := by
  have C : Hid (Cx w b o c rs d) := hc
  have hF := hc.fine
  have SU : Hid (∀ W m, Below w.heap.size w W → Calls Tryz.prog 116 #[.slice (some ⟨b, o, none⟩) rs.length c, .int .i64 m] W fun e w' => e = .returned (.int .i64 (upF d m)) ∧ Below W.heap.size W w') := fun W m hb => fup_any (hc.below hb).doc hc.fine.okd m
  have SI : Hid (∀ W m, Below w.heap.size w W → Calls Tryz.prog 69 #[.slice (some ⟨b, o, none⟩) rs.length c, .int .i64 m, .bool false] W fun e w' => e = .returned (.bool (Tn.isN d m false)) ∧ w' = W) := fun W m hb => dis_any (hc.below hb).doc m false
  clear hc
  go_enter Tryz.func77, Tryz.ntmps77
  go_wp2_with fail
  go_loopw [1, 5] (fun nv v wr => ∃ (m : Int) (l : List Nat), nv = .int .i64 m ∧ Hid (lineD d n = l ++ lineD d m) ∧ OwnI wr w.heap.size v l ∧ Below w.heap.size w wr) (fun _ v _ => 64 - slen v)
  case atStart => exact ⟨n, [], rfl, rfl, OwnI.nil _ _, Below.refl _ _⟩
  case round =>
    obtain ⟨m, l, rfl, P, hown, hnx⟩ := hrel
    have hbz := hnx.size
    obtain ⟨p, cc, rfl⟩ := hown.shape
    have hI := SI.out wr m hnx
    cases his : Tn.isN d m false with
    | false =>
      have E : Hid (lineD d n = l) := by show _ = _; rw [P.out, line_nil hF his, List.append_nil]
      rw [his] at hI
      go_wp2_with (go_at_call 69; refine hI.mono ?_; rintro e w' ⟨rfl, hww⟩; subst hww)
      go_ret
      exact ⟨_, rfl, by rw [E.out]; exact hown, hnx⟩
    | true =>
      obtain ⟨k, rfl, hk, hlv⟩ := isN_nat his
      have E : Hid (lineD d n = (l ++ [k]) ++ lineD d (upF d (k : Int))) := by show _ = _; rw [P.out, line_cons hF his]; simp
      have hlen : l.length + 1 ≤ 64 := by
        have h1 := line_len d n
        have h2 := congrArg List.length E.out
        simp at h2
        omega
      rw [his] at hI
      have SU2 := fun W hb => SU.out W (k : Int) hb
      clear P his
      generalize upF d (k : Int) = u at *
      go_wp2_with (first
        | (go_at_call 69; refine hI.mono ?_; rintro e w' ⟨rfl, hww⟩; subst hww)
        | (at_builtin; refine append_int1 rfl _ _ rfl k rfl rfl hown hnx hbz (by omega) ?_))
      intro v' w1 hown' hnx' hbz' _
      obtain ⟨p', cc', rfl⟩ := hown'.shape
      have hU := SU2 w1 hnx'
      go_wp2_with (go_at_call 116; refine hU.mono ?_; rintro e w2 ⟨rfl, hb2⟩)
      go_roundw
      case rel => exact ⟨u, l ++ [k], rfl, E, by simpa using hown'.below hb2 (Nat.le_refl _), hnx'.trans (hb2.mono hnx'.size)⟩
      case measure => simp [slen]; omega

set_option maxHeartbeats 800000 in
theorem ohid1_any {w : World} {b o c D : Nat} {rs : List Raw} {d : Tn.Dc} (hc : Cx w b o c rs d) (hD : w.cell? ⟨D, 0, none⟩ = some (.slice (some ⟨b, o, none⟩) rs.length c)) (n : Int) :
    Calls Tryz.prog 138 #[.int .i64 n, .pointer (some ⟨D, 0, none⟩)] w fun e w' => e = .returned (.bool (concD d n)) ∧ Below w.heap.size w w' := by
  have S := oconc_any hc.doc hc.fine.okd hc.vn n
  clear hc
  go_enter Tryz.func138, Tryz.ntmps138
  go_wp2_with (go_at_call 139; refine S.mono ?_; rintro e w1 ⟨rfl, hb1⟩)
  go_ret
  exact ⟨rfl, hb1⟩

def cl (d : Tn.Dc) (k : Nat) : Bool := concD d (k : Int)

set_option maxHeartbeats 1600000 in
theorem oidx_any {w : World} {b o c D : Nat} {rs : List Raw} {d : Tn.Dc} (hc : Cx w b o c rs d) (hD : w.cell? ⟨D, 0, none⟩ = some (.slice (some ⟨b, o, none⟩) rs.length c)) {vl : Value} {l : List Nat} (hl : IntsAt w vl l) :
    Calls Tryz.prog 105 #[vl, .func (.func 138) #[] #[.pointer (some ⟨D, 0, none⟩)]] w fun e w' => e = .returned (.int .i64 (idxI (cl d) l)) ∧ Below w.heap.size w w' := by
  obtain ⟨p, cc, rfl, h1, h2, _, hat⟩ := hl.at
  have T : Hid (∀ j (hj : j < l.length), ∃ b o, p = some ⟨b, o, none⟩ ∧ w.cell? ⟨b, o + j, none⟩ = some (.int .i64 (l[j] : Int))) := hat
  clear hat hl
  have HA : Hid (∀ W (k : Nat), Below w.heap.size w W → Calls Tryz.prog 138 #[.int .i64 (k : Int), .pointer (some ⟨D, 0, none⟩)] W fun e w' => e = .returned (.bool (cl d k)) ∧ Below W.heap.size W w') :=
    fun W k hb => ohid1_any (hc.below hb) (keeps_below hb (Nat.le_refl _) _ _ hD) (k : Int)
  clear hc hD
  go_enter Tryz.func105, Tryz.ntmps105
  go_wp2_with fail
  go_loopw [8] (fun i wr => ∃ j : Nat, j ≤ l.length ∧ i = .int .i64 j ∧ Hid (∀ k ∈ l.take j, cl d k = false) ∧ Below w.heap.size w wr) (fun i _ => l.length - (intOf i).toNat)
  case atStart => exact ⟨0, Nat.zero_le _, rfl, fun k hk => by simp at hk, Below.refl _ _⟩
  case round =>
    obtain ⟨j, hj, rfl, NO, hnx⟩ := hrel
    by_cases hlt : j < l.length
    · obtain ⟨e1, o1, rfl, k1⟩ := T.out j hlt
      have JR := keeps_below hnx (Nat.le_refl _)
      have y1 := JR _ _ k1
      clear k1
      have hF := HA.out wr l[j] hnx
      cases hh : cl d l[j] with
      | true =>
        have E : Hid (idxI (cl d) l = (j : Int)) := idxI_some hlt hh NO.out
        rw [hh] at hF
        clear hh
        generalize l[j] = x at *
        go_wp2_with (go_at_call 138; refine hF.mono ?_; rintro e w9 ⟨rfl, hb9⟩)
        go_ret
        exact ⟨by rw [E.out]; rfl, hnx.trans (hb9.mono hnx.size)⟩
      | false =>
        have N2 : Hid (∀ k ∈ l.take (j + 1), cl d k = false) := by
          intro k hk
          rw [List.take_succ_eq_append_getElem hlt, List.mem_append, List.mem_singleton] at hk
          rcases hk with hk | rfl
          · exact NO.out k hk
          · exact hh
        rw [hh] at hF
        clear hh
        generalize l[j] = x at *
        go_wp2_with (go_at_call 138; refine hF.mono ?_; rintro e w9 ⟨rfl, hb9⟩)
        go_roundw
        case rel => exact ⟨j + 1, by omega, by go_num, N2, hnx.trans (hb9.mono hnx.size)⟩
        case measure => simp [intOf]; omega
    · obtain rfl : j = l.length := by omega
      have E : Hid (idxI (cl d) l = -1) := idxI_none (fun k hk => NO.out k (by rw [List.take_length]; exact hk))
      go_wp2_with fail
      go_ret
      exact ⟨by rw [E.out]; rfl, hnx⟩

set_option maxHeartbeats 800000 in
theorem ocont_any {w : World} {b o c D : Nat} {rs : List Raw} {d : Tn.Dc} (hc : Cx w b o c rs d) (hD : w.cell? ⟨D, 0, none⟩ = some (.slice (some ⟨b, o, none⟩) rs.length c)) {vl : Value} {l : List Nat} (hl : IntsAt w vl l) :
    Calls Tryz.prog 137 #[vl, .func (.func 138) #[] #[.pointer (some ⟨D, 0, none⟩)]] w fun e w' => e = .returned (.bool (l.any (cl d))) ∧ Below w.heap.size w w' := by
  have hI := oidx_any hc hD hl
  obtain ⟨p, cc, rfl, _, _, _, _⟩ := hl.at
  clear hl hc hD
  rcases idx_cases2 (cl d) l with ⟨e1, e2⟩ | ⟨j, hj, e1, e2, _⟩
  · have E : Hid (l.any (cl d) = false) := by
      show _ = _
      rw [List.any_eq_false]
      intro x hx
      simp [e2 x hx]
    rw [e1] at hI
    clear e1 e2
    go_enter Tryz.func137, Tryz.ntmps137
    go_wp2_with (go_at_call 105; refine hI.mono ?_; rintro e w9 ⟨rfl, hb9⟩)
    go_ret
    exact ⟨by rw [E.out]; rfl, hb9⟩
  · have E : Hid (l.any (cl d) = true) := by
      show _ = _
      rw [List.any_eq_true]
      exact ⟨l[j], List.getElem_mem hj, e2⟩
    rw [e1] at hI
    clear e1 e2
    go_enter Tryz.func137, Tryz.ntmps137
    go_wp2_with (go_at_call 105; refine hI.mono ?_; rintro e w9 ⟨rfl, hb9⟩)
    go_ret
    exact ⟨by rw [E.out]; simp, hb9⟩
end Go.Proofs.YtbinbojicmhdlaeGreatDoor

/-
  THE WALK of role.Hidden.
-/
namespace Go.Proofs.YtbinbojicmhdlaeGreatDoor
open Go.RowKit

set_option maxHeartbeats 1600000 in
theorem ohid_any {w : World} {b o c : Nat} {rs : List Raw} {d : Tn.Dc} (hc : Cx w b o c rs d) (n : Int) :
    Calls Tryz.prog 107 #[.slice (some ⟨b, o, none⟩) rs.length c, .int .i64 n] w fun e w' => e = .returned (.bool (hidD d n)) ∧ Below w.heap.size w w' := by
  have BA : Below w.heap.size w (w.alloc (.cells #[.slice (some ⟨b, o, none⟩) rs.length c] 24)) := (Below.refl _ w).alloc (Nat.le_refl _) _
  have gD : (w.alloc (.cells #[.slice (some ⟨b, o, none⟩) rs.length c] 24)).cell? ⟨w.heap.size, 0, none⟩ = some (.slice (some ⟨b, o, none⟩) rs.length c) := by rw [World.cell?_alloc_new]; rfl
  have SL := oline_any (hc.below BA) n
  have SC : Hid (∀ W (p : Option Addr) (k cc : Nat) (l : List Nat), Below (w.alloc (.cells #[.slice (some ⟨b, o, none⟩) rs.length c] 24)).heap.size (w.alloc (.cells #[.slice (some ⟨b, o, none⟩) rs.length c] 24)) W → IntsAt W (.slice p k cc) l →
      Calls Tryz.prog 137 #[.slice p k cc, .func (.func 138) #[] #[.pointer (some ⟨w.heap.size, 0, none⟩)]] W fun e w' => e = .returned (.bool (l.any (cl d))) ∧ Below W.heap.size W w') :=
    fun W p k cc l hb hi => ocont_any (hc.below (BA.trans (hb.mono (by simp)))) (keeps_below hb (Nat.le_refl _) _ _ gD) hi
  have E : Hid (hidD d n = hidL d (lineD d n)) := rfl
  have hll := line_len d n
  clear hc
  generalize hidD d n = res at *
  generalize lineD d n = l at *
  by_cases h0 : l = []
  · subst h0
    have E2 : Hid (res = true) := E.out
    clear E SC
    go_enter Tryz.func107, Tryz.ntmps107
    go_wp2_with (go_at_call 77; refine SL.mono ?_; rintro e w1 ⟨v1, rfl, ho1, hb1⟩; obtain ⟨p1, c1, rfl⟩ := ho1.shape)
    go_ret
    exact ⟨by rw [E2.out]; rfl, BA.trans (hb1.mono BA.size)⟩
  · have hpos : 0 < l.length := List.length_pos_iff.mpr h0
    have hE : hidL d l = (decide (l[l.length - 1]'(by omega) ≠ 0) || l.any (cl d)) := by
      unfold hidL
      rw [List.getLast?_eq_getElem?, List.getElem?_eq_getElem (by omega)]
      cases l with
      | nil => exact absurd rfl h0
      | cons a r => rfl
    by_cases hz : l[l.length - 1]'(by omega) = 0
    · have E2 : Hid (res = l.any (cl d)) := by show _ = _; rw [E.out, hE, hz]; rfl
      clear E hE
      go_enter Tryz.func107, Tryz.ntmps107
      go_wp2_with (first
        | (go_at_call 77; refine SL.mono ?_; rintro e w1 ⟨v1, rfl, ho1, hb1⟩; obtain ⟨p1, c1, rfl, z1, z2, _, hat⟩ := (ints_of_owns ho1).at; obtain ⟨b1, o1, rfl, k0⟩ := hat (l.length - 1) (by omega); rw [hz] at k0; clear hat; have hS := SC.out w1 _ _ _ _ hb1 (ints_of_owns ho1))
        | (go_at_call 137; refine hS.mono ?_; rintro e w2 ⟨rfl, hb2⟩))
      go_ret
      exact ⟨by rw [E2.out]; rfl, (BA.trans (hb1.mono BA.size)).trans (hb2.mono (Nat.le_trans BA.size hb1.size))⟩
    · have E2 : Hid (res = true) := by show _ = _; rw [E.out, hE]; simp [hz]
      obtain ⟨z, hzz⟩ : ∃ z, l[l.length - 1]'(by omega) = z := ⟨_, rfl⟩
      have hzb : ((z : Int) != 0) = true := by rw [hzz] at hz; simp; omega
      have hl0 : ((l.length : Int) == 0) = false := by simp; omega
      clear E hE SC hz
      go_enter Tryz.func107, Tryz.ntmps107
      go_wp2_with (go_at_call 77; refine SL.mono ?_; rintro e w1 ⟨v1, rfl, ho1, hb1⟩; obtain ⟨p1, c1, rfl, z1, z2, _, hat⟩ := (ints_of_owns ho1).at; obtain ⟨b1, o1, rfl, k0⟩ := hat (l.length - 1) (by omega); rw [hzz] at k0; clear hat hzz)
      go_ret
      exact ⟨by rw [E2.out]; rfl, BA.trans (hb1.mono BA.size)⟩
end Go.Proofs.YtbinbojicmhdlaeGreatDoor

/-
  THE WALKS of slices.Backward over ints, and of role.Of.
-/
namespace Go.Proofs.YtbinbojicmhdlaeGreatDoor
open Go.RowKit Go.Shelf

attribute [local go_sem] Oper.semAt_some

/-- what has come when k rounds are over: the last ones, from behind -/
def backL (zs : List Nat) (k : Nat) : List (Nat × Nat) := (List.range k).map fun j => (zs.length - 1 - j, zs[zs.length - 1 - j]?.getD 0)
theorem backL_succ (zs : List Nat) (k : Nat) : backL zs (k + 1) = backL zs k ++ [(zs.length - 1 - k, zs[zs.length - 1 - k]?.getD 0)] := by simp [backL, List.range_succ]
theorem backL_length (zs : List Nat) (k : Nat) : (backL zs k).length = k := by simp [backL]

/-- the cells of some blocks are as they were -/
def KpB (S : Nat → Prop) (A B : World) : Prop := ∀ p v, S p.block → A.cell? p = some v → B.cell? p = some v
theorem KpB.refl (S : Nat → Prop) (A : World) : KpB S A A := fun _ _ _ h => h
theorem KpB.trans {S : Nat → Prop} {A B C : World} (h : KpB S A B) (k : KpB S B C) : KpB S A C := fun p v hs x => k p v hs (h p v hs x)
theorem KpB.below {S : Nat → Prop} {A B : World} (h : Below A.heap.size A B) : KpB S A B := fun _ _ _ x => keeps_below h (Nat.le_refl _) _ _ x
theorem KpB.put {S : Nat → Prop} (W : World) (l : Nat) (o o' : Obj) (ho : W.heap[l]? = some o) (hc : o.isCells = false) : KpB S W (W.putObj l o') :=
  fun _ _ _ h => cell_kept h (grownBy_putObj' W l o') (fun r e => by cases e; exact ⟨_, ho, hc⟩)

set_option maxRecDepth 100000 in
set_option maxHeartbeats 2000000 in
theorem back1_in (F : Fence) (n : Nat) (h7 : F.fn 121) (hro : F.round = none) (hn : 1 ≤ n) (l Bs b off cap : Nat) (S : Nat → Prop) (zs : List Nat) (hreach : zs.length ≤ 1000) (hb : S b) (hBn : S Bs) (J Jx : List (Nat × Nat) → World → Prop)
    (hY : ∀ pre x W, J pre W → pre.length < zs.length → YieldAt F (n - 1) Tryz.prog l #[.int .i64 (x.1 : Int), .int .i64 (x.2 : Int)] W fun e W' =>
      (e = .returned (.bool true) ∧ J (pre ++ [x]) W' ∧ KpB S W W') ∨ (e = .returned (.bool false) ∧ Jx (pre ++ [x]) W'))
    (W : World) (hBs : W.cell? ⟨Bs, 0, none⟩ = some (.slice (some ⟨b, off, none⟩) zs.length cap)) (hc : ∀ j (h : j < zs.length), W.cell? ⟨b, off + j, none⟩ = some (.int .i64 (zs[j] : Int))) (h0 : J [] W) :
    CallsIn F n Tryz.prog 121 #[.func (.yield l) #[] #[], .pointer (some ⟨Bs, 0, none⟩)] W fun e W' => (∃ v, e = .returned v) ∧
      ((∃ ys, ys = backL zs zs.length ∧ J ys W') ∨ (∃ pre, (∃ k, k ≤ zs.length ∧ pre = backL zs k) ∧ Jx pre W')) := by
  refine callsIn_of_wp Tryz.func121 rfl h7 ?_ hro
  simp only [Tryz.ntmps121, List.size_toArray, List.length_cons, List.length_nil, Nat.reduceAdd, Nat.reduceSub, Array.replicate_succ, Array.replicate_zero, List.push_toArray, List.append_toArray, List.nil_append, List.cons_append]
  gi_wp2
  gi_loopw [3] (fun i wr => ∃ k : Nat, k ≤ zs.length ∧ i = .int .i64 ((zs.length : Int) - 1 - (k : Int)) ∧ J (backL zs k) wr ∧ KpB S W wr)
    (fun i _ => (intOf i + 1).toNat)
  case atStart => exact ⟨0, Nat.zero_le _, by simp, h0, KpB.refl _ _⟩
  case round =>
    obtain ⟨k, hk, rfl, hJs, hnx⟩ := hrel
    have hBs' := hnx ⟨Bs, 0, none⟩ _ hBn hBs
    by_cases hlt : k < zs.length
    · obtain ⟨m, hm⟩ : ∃ m : Nat, m + 1 + k = zs.length := ⟨zs.length - 1 - k, by omega⟩
      have hml : m < zs.length := by omega
      have hi : ((zs.length : Int) - 1 - (k : Int)) = (m : Int) := by omega
      have hcx : wr.cell? ⟨b, off + m, none⟩ = some (.int .i64 (zs[m] : Int)) := hnx ⟨b, off + m, none⟩ _ hb (hc m hml)
      have hS : Hid (backL zs (k + 1) = backL zs k ++ [(m, zs[m])]) := by
        show _ = _
        rw [backL_succ, show zs.length - 1 - k = m by omega, List.getElem?_eq_getElem hml]
        rfl
      obtain ⟨fn, tmps, assign, body, hy, hR⟩ := hY _ (m, zs[m]) wr hJs (by rw [backL_length]; exact hlt)
      dsimp only at hy
      rw [hi]
      have HM : Hid ((zs.length : Int) - 1 - ((k + 1 : Nat) : Int) = (m : Int) - 1) := by show _ = _; omega
      generalize zs[m] = z at *
      have hml2 : (m : Int) < (zs.length : Int) := by omega
      clear hi hm hY hc hBs
      gi_wp2
      refine hR.mono ?_
      rintro e W3 (⟨rfl, hJ3, hk3⟩ | ⟨rfl, hJx3⟩)
      · gi_wp2
        go_roundw
        case rel => exact ⟨k + 1, by omega, by rw [HM.out], by rw [hS.out]; exact hJ3, hnx.trans hk3⟩
        case measure => simp [intOf]
      · gi_wp2
        refine bodyPost_ret (results_none rfl _ _ _) rfl ?_
        exact ⟨⟨_, rfl⟩, .inr ⟨_, ⟨k + 1, by omega, hS.out.symm⟩, hJx3⟩⟩
    · obtain rfl : k = zs.length := by omega
      rw [show ((zs.length : Int) - 1 - (zs.length : Int)) = -1 by omega]
      gi_wp2
      go_end0
      exact ⟨⟨_, rfl⟩, .inl ⟨_, rfl, hJs⟩⟩

set_option maxRecDepth 100000 in
set_option maxHeartbeats 1000000 in
theorem back1_nil_in (F : Fence) (n : Nat) (h7 : F.fn 121) (hro : F.round = none) (l Bs : Nat) (J : List (Nat × Nat) → World → Prop) (W : World) (hBs : W.cell? ⟨Bs, 0, none⟩ = some (.slice none 0 0)) (h0 : J [] W) :
    CallsIn F n Tryz.prog 121 #[.func (.yield l) #[] #[], .pointer (some ⟨Bs, 0, none⟩)] W fun e W' => (∃ v, e = .returned v) ∧ J [] W' := by
  refine callsIn_of_wp Tryz.func121 rfl h7 ?_ hro
  simp only [Tryz.ntmps121, List.size_toArray, List.length_cons, List.length_nil, Nat.reduceAdd, Nat.reduceSub, Array.replicate_succ, Array.replicate_zero, List.push_toArray, List.append_toArray, List.nil_append, List.cons_append]
  gi_wp2
  gi_loopw [3] (fun i wr => i = .int .i64 (-1) ∧ J [] wr) (fun _ _ => 0)
  case atStart => exact ⟨rfl, h0⟩
  case round =>
    obtain ⟨rfl, hJs⟩ := hrel
    gi_wp2
    go_end0
    exact ⟨⟨_, rfl⟩, hJs⟩

set_option maxHeartbeats 1000000 in
theorem back_in (F : Fence) (n : Nat) (h5 : F.fn 76) (hro : F.round = none) (a : Option Addr) (len cap : Nat) (w : World) :
    CallsIn F n Tryz.prog 76 #[.slice a len cap] w fun e w' => e = .returned (.func (.func 121) #[] #[.pointer (some ⟨w.heap.size, 0, none⟩)]) ∧ w' = w.alloc (.cells #[.slice a len cap] 33) := by
  refine callsIn_of_wp Tryz.func76 rfl h5 ?_ hro
  simp only [Tryz.ntmps76, List.size_toArray, List.length_cons, List.length_nil, Nat.reduceAdd, Nat.reduceSub, Array.replicate_succ, Array.replicate_zero, List.push_toArray, List.append_toArray, List.nil_append, List.cons_append]
  gi_wp2
  go_ret
  exact ⟨rfl, rfl⟩

theorem back_stops (F : Fence) (n : Nat) (h7 : F.fn 121) (hro : F.round = none) (hn : 1 ≤ n) (Bs : Nat) (S : Nat → Prop) (p : Option Addr) (cc : Nat) (zs : List Nat) (hreach : zs.length ≤ 1000) (w : World) (hBs : S Bs) (hSb : ∀ a, p = some a → S a.block)
    (hc : w.cell? ⟨Bs, 0, none⟩ = some (.slice p zs.length cc)) (hI : IntsAt w (.slice p zs.length cc) zs) :
    SeqStopsK F n Tryz.prog 121 #[.pointer (some ⟨Bs, 0, none⟩)] (fun x : Nat × Nat => #[Value.int .i64 (x.1 : Int), Value.int .i64 (x.2 : Int)]) (KpB S) (fun ys => ys = backL zs zs.length) (fun _ => True) zs.length w := fun l J Jx W hW _ _ hY h0 => by
  have hc' := keeps_below hW (Nat.le_refl _) _ _ hc
  obtain ⟨p', cc', e, h1, h2, h3, hat⟩ := (hI.keeps (keeps_below hW (Nat.le_refl _))).at
  cases e
  cases p with
  | none =>
    have hz : zs = [] := by
      rcases h3 with ⟨_, h3⟩ | ⟨_, _, h3⟩
      · exact List.length_eq_zero_iff.mp (by omega)
      · cases h3
    have hcc : cc = 0 := by
      rcases h3 with ⟨_, h3⟩ | ⟨_, _, h3⟩
      · exact h3
      · cases h3
    subst hz hcc
    exact (back1_nil_in F n h7 hro l Bs J W hc' h0).mono fun e W' ⟨he, hj⟩ => ⟨he, .inl ⟨_, rfl, hj⟩⟩
  | some a =>
    obtain ⟨b, off, hba⟩ : ∃ b off, a = ⟨b, off, none⟩ := by
      rcases h3 with ⟨h3, _⟩ | ⟨b, off, h3⟩
      · cases h3
      · cases h3; exact ⟨b, off, rfl⟩
    subst hba
    refine (back1_in F n h7 hro hn l Bs b off cc S zs hreach (hSb _ rfl) hBs J Jx hY W hc' (fun j hj => by obtain ⟨b', o', e1, e2⟩ := hat j hj; cases e1; exact e2) h0).mono ?_
    rintro e W' ⟨he, ⟨ys, rfl, hj⟩ | ⟨pre, _, hj⟩⟩
    · exact ⟨he, .inl ⟨_, rfl, hj⟩⟩
    · exact ⟨he, .inr ⟨_, trivial, hj⟩⟩

/-- the roles of what has come -/
def roleS (d : Tn.Dc) (s : Int × Int) (k : Nat) : Int × Int := (fitD (aloneD d (k : Int)) s.2, keepA (fitD (aloneD d (k : Int)) s.2) s.2)
def roleP (d : Tn.Dc) (pre : List (Nat × Nat)) : Int × Int := pre.foldl (fun s x => roleS d s x.2) (0, 0)
theorem roleP_snoc (d : Tn.Dc) (pre : List (Nat × Nat)) (x : Nat × Nat) : roleP d (pre ++ [x]) = roleS d (roleP d pre) x.2 := by simp [roleP]
theorem roleL_foldr (d : Tn.Dc) : ∀ l, roleL d l = l.foldr (fun k s => roleS d s k) (0, 0)
  | [] => rfl
  | k :: ks => by rw [roleL, List.foldr_cons, ← roleL_foldr d ks]; rfl
theorem back_snd (zs : List Nat) : (backL zs zs.length).map (·.2) = zs.reverse := by
  apply List.ext_getElem
  · simp [backL]
  · intro i h1 h2
    have hi : i < zs.length := by simpa [backL] using h1
    have : zs.length - 1 - i < zs.length := by omega
    simp [backL, this]
theorem roleP_all (d : Tn.Dc) (zs : List Nat) : roleP d (backL zs zs.length) = roleL d zs := by
  rw [roleL_foldr, ← List.foldl_reverse, ← back_snd, List.foldl_map]
  rfl
end Go.Proofs.YtbinbojicmhdlaeGreatDoor

/-
  THE WALK of role.Of.
-/
namespace Go.Proofs.YtbinbojicmhdlaeGreatDoor
open Go.RowKit Go.Shelf

attribute [local go_sem] Oper.semAt_some

theorem keepsOthers_below {A B : World} (h : Below A.heap.size A B) : KeepsOthers A B :=
  ⟨h.size, fun k _ hk _ => (h.block k (Array.getElem?_eq_some_iff.1 hk).1).trans hk⟩

/-- a box of the call's own -/
def Bx (W : World) (C : Nat) (v : Value) : Prop := W.cell? ⟨C, 0, none⟩ = some v ∧ W.frozen? ⟨C, 0, none⟩ = false
theorem Bx.below {w w' : World} {C : Nat} {v : Value} (h : Bx w C v) (hb : Below w.heap.size w w') : Bx w' C v := bx_old hb h.1 h.2
theorem Bx.alloc {w : World} {C : Nat} {v : Value} (h : Bx w C v) (o : Obj) : Bx (w.alloc o) C v := h.below ((Below.refl _ w).alloc (Nat.le_refl _) o)
theorem Bx.new (w : World) (v : Value) (t : Nat) : Bx (w.alloc (.cells #[v] t)) w.heap.size v := ⟨cell_box _ _, box_frozen _ _ _ _⟩
theorem Bx.kept {W W' : World} {C : Nat} {v : Value} (h : Bx W C v) {row : Option Nat} (hg : W.grownBy W' row) (hr : ∀ r, row = some r → ∃ o : Obj, W.heap[r]? = some o ∧ o.isCells = false) : Bx W' C v := ⟨cell_kept h.1 hg hr, (frozen_kept h.1 hg hr).trans h.2⟩
theorem Bx.set {W : World} {C : Nat} {v : Value} (h : Bx W C v) (u : Value) : Bx (W.setCell ⟨C, 0, none⟩ u) C u := ⟨World.cell?_setCell_same _ _ _ h.1, by rw [World.frozen?_setCell]; exact h.2⟩
theorem Bx.other {W : World} {C K : Nat} {v : Value} (h : Bx W C v) (ne : K ≠ C) (u : Value) : Bx (W.setCell ⟨K, 0, none⟩ u) C v := ⟨by rw [World.cell?_setCell_other _ _ _ _ (by intro e; exact ne (congrArg Addr.block e))]; exact h.1, by rw [World.frozen?_setCell]; exact h.2⟩

theorem KpB.set {S : Nat → Prop} {C : Nat} (hne : ∀ g, S g → g ≠ C) (W : World) (v : Value) : KpB S W (W.setCell ⟨C, 0, none⟩ v) :=
  fun p _ hs h => by rw [World.cell?_setCell_other _ _ _ _ (by intro e; exact hne _ hs (congrArg Addr.block e).symm)]; exact h
theorem KpB.drew (S : Nat → Prop) (W : World) : KpB S W W.drew := fun _ _ _ h => h

set_option maxRecDepth 100000 in
set_option maxHeartbeats 4000000 in
theorem oof_any {w : World} {b o c : Nat} {rs : List Raw} {d : Tn.Dc} (hc : Cx w b o c rs d) (n : Int) :
    Calls Tryz.prog 40 #[.slice (some ⟨b, o, none⟩) rs.length c, .int .i64 n] w fun e w' => e = .returned (.int .i64 (roleD d n)) ∧ Below w.heap.size w w' := by
  have SL : Hid (∀ W, Below w.heap.size w W → Calls Tryz.prog 77 #[.slice (some ⟨b, o, none⟩) rs.length c, .int .i64 n] W fun e w' => ∃ v, e = .returned v ∧ OwnI w' W.heap.size v (lineD d n) ∧ Below W.heap.size W w') := fun W hb => oline_any (hc.below hb) n
  have SA : Hid (∀ W (k : Nat), Below w.heap.size w W → Calls Tryz.prog 79 #[.slice (some ⟨b, o, none⟩) rs.length c, .int .i64 (k : Int)] W fun e w' => e = .returned (.int .i64 (aloneD d (k : Int))) ∧ Below W.heap.size W w') := fun W k hb => oalone_any (hc.below hb) k
  have SF : Hid (∀ W r a, Below w.heap.size w W → Calls Tryz.prog 78 #[.int .i64 r, .int .i64 a] W fun e w' => e = .returned (.int .i64 (fitD r a)) ∧ Below W.heap.size W w') := fun W r a hb => ofit_any (hc.below hb).tab r a
  have E : Hid (roleD d n = (roleP d (backL (lineD d n) (lineD d n).length)).1) := by show _ = _; rw [roleP_all]; rfl
  have hll := line_len d n
  clear hc
  generalize roleD d n = res at *
  generalize lineD d n = zs at *
  refine (callsIn_wide (n := 3)).1 ?_
  refine callsIn_of_wp_marks Tryz.func40 rfl trivial ?_ rfl
  simp only [Tryz.ntmps40, List.size_toArray, List.length_cons, List.length_nil, Nat.reduceAdd, Nat.reduceSub, Array.replicate_succ, Array.replicate_zero, List.push_toArray, List.append_toArray, List.nil_append, List.cons_append]
  have BA : Below w.heap.size w (((w.alloc (.cells #[.slice (some ⟨b, o, none⟩) rs.length c] 24)).alloc (.cells #[.int .i64 0] 3)).alloc (.cells #[.int .i64 0] 3)) :=
    (((Below.refl _ w).alloc (Nat.le_refl _) _).alloc (by simp) _).alloc (by simp; omega) _
  have x0 : Bx (((w.alloc (.cells #[.slice (some ⟨b, o, none⟩) rs.length c] 24)).alloc (.cells #[.int .i64 0] 3)).alloc (.cells #[.int .i64 0] 3)) w.heap.size (.slice (some ⟨b, o, none⟩) rs.length c) := ((Bx.new w _ _).alloc _).alloc _
  have x1 : Bx (((w.alloc (.cells #[.slice (some ⟨b, o, none⟩) rs.length c] 24)).alloc (.cells #[.int .i64 0] 3)).alloc (.cells #[.int .i64 0] 3)) (w.heap.size + 1) (.int .i64 0) := by
    have := (Bx.new (w.alloc (.cells #[.slice (some ⟨b, o, none⟩) rs.length c] 24)) (.int .i64 0) 3).alloc (.cells #[.int .i64 0] 3)
    rwa [World.size_alloc] at this
  have x2 : Bx (((w.alloc (.cells #[.slice (some ⟨b, o, none⟩) rs.length c] 24)).alloc (.cells #[.int .i64 0] 3)).alloc (.cells #[.int .i64 0] 3)) (w.heap.size + 1 + 1) (.int .i64 0) := by
    have := Bx.new ((w.alloc (.cells #[.slice (some ⟨b, o, none⟩) rs.length c] 24)).alloc (.cells #[.int .i64 0] 3)) (.int .i64 0) 3
    rwa [World.size_alloc, World.size_alloc] at this
  gi_wp2_with (first
    | (refine ⟨trivial, ?_⟩; gi_at_call 77; refine (callsIn_wide.2 (SL.out _ BA)).mono ?_; rintro e w1 ⟨v1, rfl, ho1, hb1⟩; obtain ⟨p1, cc1, rfl⟩ := ho1.shape)
    | (refine ⟨trivial, ?_⟩; gi_at_call 76; refine (back_in Fence.wide _ trivial rfl _ _ _ _).mono ?_; rintro e w2 ⟨rfl, rfl⟩))
  have hz3 : (((w.alloc (.cells #[.slice (some ⟨b, o, none⟩) rs.length c] 24)).alloc (.cells #[.int .i64 0] 3)).alloc (.cells #[.int .i64 0] 3)).heap.size = w.heap.size + 3 := by simp
  generalize ((w.alloc (.cells #[.slice (some ⟨b, o, none⟩) rs.length c] 24)).alloc (.cells #[.int .i64 0] 3)).alloc (.cells #[.int .i64 0] 3) = W3 at *
  have y0 := x0.below hb1
  have y1 := x1.below hb1
  have y2 := x2.below hb1
  have BB : Below w.heap.size w w1 := BA.trans (hb1.mono BA.size)
  have hz1 := hb1.size
  have BC : Below w.heap.size w (w1.alloc (.cells #[.slice p1 zs.length cc1] 33)) := BB.alloc BB.size _
  have hIn : IntsAt (w1.alloc (.cells #[.slice p1 zs.length cc1] 33)) (.slice p1 zs.length cc1) zs := (ints_of_owns ho1).keeps (keeps_alloc _ _)
  have hSb : ∀ a : Addr, p1 = some a → w.heap.size + 1 + 1 < a.block := fun a ha => by
    have := (ho1.lt a.block (by rw [ha]; rfl)).1
    omega
  refine wpIn_rangeFunc_ownF rfl (by omega) (gf := 121) (lb := #[.pointer (some ⟨w1.heap.size, 0, none⟩)]) rfl trivial (enters_of Tryz.func121 (by kernel_rfl) rfl)
    (back_stops Fence.wide (3 - 1) trivial rfl (by omega) w1.heap.size (fun g => w.heap.size + 1 + 1 < g) p1 cc1 zs (by omega) _ (by omega) hSb (cell_box _ _) hIn) (fun h k => KpB.trans h k) (fun W l o o' _ ho hc _ => KpB.put W l o o' ho hc) (Below.refl _ _) (fun _ => rfl)
    (fun pre W => (Bx W w.heap.size (.slice (some ⟨b, o, none⟩) rs.length c) ∧ Bx W (w.heap.size + 1) (.int .i64 (roleP d pre).1) ∧ Bx W (w.heap.size + 1 + 1) (.int .i64 (roleP d pre).2)) ∧ Below w.heap.size w W)
    (fun _ _ _ => False)
    (OwnFrom.and (Own.from (fun s A B row hs hg hr => ⟨hs.1.kept hg hr, hs.2.1.kept hg hr, hs.2.2.kept hg hr⟩) _) (ownFrom_below (Nat.le_refl _) (by simp; omega)))
    (fun _ _ _ _ _ hs _ _ => hs)
    ⟨⟨y0.alloc _, y1.alloc _, y2.alloc _⟩, BC⟩
    (fun x => { tmps := #[.slice (some ⟨b, o, none⟩) rs.length c, .int .i64 n, .pointer (some ⟨w.heap.size, 0, none⟩), undef, .int .i64 0, .pointer (some ⟨w.heap.size + 1, 0, none⟩), .pointer (some ⟨w.heap.size + 1 + 1, 0, none⟩), undef, .int .i64 (x.2 : Int), .slice (some ⟨b, o, none⟩) rs.length c, .int .i64 n, .slice p1 zs.length cc1, .func (.func 121) #[] #[.pointer (some ⟨w1.heap.size, 0, none⟩)], .int .i64 (x.1 : Int), .int .i64 (x.2 : Int), undef, undef, undef, undef, undef, undef, undef, undef, undef, undef, undef, undef, undef], defers := [] }) ?assign ?body ?done ?stop
  case assign =>
    intro l x W K hK
    gi_wp2
    exact hK
  case body =>
    rintro l pre x W ⟨⟨hx0, hx1, hx2⟩, hB⟩ _
    have hmx : Tryz.prog.follows .mixedOrders = true := by kernel_rfl
    obtain ⟨e0, f0⟩ := hx0
    obtain ⟨e1, f1⟩ := hx1
    obtain ⟨e2, f2⟩ := hx2
    have SA2 := SA.out
    have SF2 := SF.out
    clear SA SF SL
    gi_wp2
    gi_region_with_o (first
      | (refine ⟨trivial, ?_⟩; gi_at_call 79; refine (CallsIn.inRound l (callsIn_wide.2 (SA2 _ x.2 (by first | exact hB | exact hB.drew)))).mono ?_; rintro e w5 ⟨rfl, hb5⟩; have g1 := bx_old hb5 e1 f1; have g2 := bx_old hb5 e2 f2; obtain ⟨g1, k1⟩ := g1; obtain ⟨g2, k2⟩ := g2; have hB5 := hB.drew.trans (hb5.mono hB.drew.size))
      | (refine ⟨trivial, ?_⟩; gi_at_call 78; refine (CallsIn.inRound l (callsIn_wide.2 (SF2 _ _ _ hB5))).mono ?_; rintro e w6 ⟨rfl, hb6⟩; have m1 := bx_old hb6 g1 k1; obtain ⟨m1, n1⟩ := m1; have m2 := bx_old hb6 g2 k2; obtain ⟨m2, n2⟩ := m2))
    all_goals
      have XD : Bx w6 w.heap.size (.slice (some ⟨b, o, none⟩) rs.length c) := Bx.below (Bx.below (w := W.drew) ⟨e0, f0⟩ hb5) hb6
      have D7 := XD.other (K := w.heap.size + 1) (by omega) (.int .i64 (fitD (aloneD d (x.2 : Int)) (roleP d pre).2))
      have R7 := Bx.set (W := w6) ⟨m1, n1⟩ (.int .i64 (fitD (aloneD d (x.2 : Int)) (roleP d pre).2))
      have A7 := Bx.other (W := w6) (K := w.heap.size + 1) ⟨m2, n2⟩ (by omega) (.int .i64 (fitD (aloneD d (x.2 : Int)) (roleP d pre).2))
      have B6 : Below w.heap.size w w6 := hB5.trans (hb6.mono hB5.size)
      have B7 := B6.setCell (p := ⟨w.heap.size + 1, 0, none⟩) (by simp) (.int .i64 (fitD (aloneD d (x.2 : Int)) (roleP d pre).2))
      have K7 := (((KeepsOthers.drew W).trans (keepsOthers_below hb5)).trans (keepsOthers_below hb6)).trans (KeepsOthers.setCell w6 ⟨w.heap.size + 1, 0, none⟩ (.int .i64 (fitD (aloneD d (x.2 : Int)) (roleP d pre).2)))
      have P7 := (((KpB.drew (fun g => w.heap.size + 1 + 1 < g) W).trans (KpB.below hb5)).trans (KpB.below hb6)).trans (KpB.set (C := w.heap.size + 1) (fun g hg => by omega) w6 (.int .i64 (fitD (aloneD d (x.2 : Int)) (roleP d pre).2)))
      have T1 : Hid ((roleP d (pre ++ [x])).1 = fitD (aloneD d (x.2 : Int)) (roleP d pre).2) := by show _ = _; rw [roleP_snoc]; rfl
      have T2 : Hid ((roleP d (pre ++ [x])).2 = keepA (fitD (aloneD d (x.2 : Int)) (roleP d pre).2) (roleP d pre).2) := by show _ = _; rw [roleP_snoc]; rfl
      clear XD m1 n1 m2 n2 g1 k1 g2 k2 e0 f0 e1 f1 e2 f2 hb5 hb6 hB5 B6
      generalize fitD (aloneD d (x.2 : Int)) (roleP d pre).2 = r at *
      generalize (roleP d pre).2 = a at *
      generalize (w6.setCell ⟨w.heap.size + 1, 0, none⟩ (.int .i64 r)) = w7 at *
      have r7 := R7.1
      have a7 := A7.1
      have z7 := A7.2
      by_cases h0 : r = 0
      · have T3 : Hid ((roleP d (pre ++ [x])).2 = a) := by show _ = _; rw [T2.out, h0]; rfl
        have hq : (r != 0) = false := by simp [h0]
        clear h0 T2
        gi_wp2
        exact ⟨K7, P7, ⟨D7, by rw [T1.out]; exact R7, by rw [T3.out]; exact A7⟩, B7⟩
      · have hq : (r != 0) = true := by simp [h0]
        by_cases h1 : r = 18
        · have T3 : Hid ((roleP d (pre ++ [x])).2 = a) := by show _ = _; rw [T2.out, h1]; rfl
          have hq2 : (r != 18) = false := by simp [h1]
          clear h0 h1 T2
          gi_wp2
          exact ⟨K7, P7, ⟨D7, by rw [T1.out]; exact R7, by rw [T3.out]; exact A7⟩, B7⟩
        · have T3 : Hid ((roleP d (pre ++ [x])).2 = r) := by show _ = _; rw [T2.out]; unfold keepA; rw [if_pos ⟨h0, h1⟩]
          have hq2 : (r != 18) = true := by simp [h1]
          clear h0 h1 T2
          gi_wp2
          exact ⟨K7.trans (KeepsOthers.setCell _ _ _), P7.trans (KpB.set (fun g hg => by omega) _ _), ⟨D7.other (by omega) _, by rw [T1.out]; exact R7.other (by omega) _, by rw [T3.out]; exact A7.set _⟩, B7.setCell (p := ⟨w.heap.size + 1 + 1, 0, none⟩) (by simp; omega) _⟩
  case done =>
    rintro D ys W hD rfl ⟨⟨_, hx1, _⟩, hB⟩ hK
    have e1 := hx1.1
    have E2 := E.out
    generalize (roleP d (backL zs zs.length)).1 = rr at *
    gi_wp2
    refine ⟨by simp, .inl ⟨_, _, rfl, run_takeDeferred hK, ?_⟩⟩
    exact ⟨_, results_tmp rfl _ _ _, by rw [E2]; rfl, hB.trans (belowK_b (w := w) (Nat.le_refl _) W D _ _ (by simp at hD; omega) hK rfl rfl)⟩
  case stop =>
    rintro D c pre W _ _ h _
    exact h.elim
end Go.Proofs.YtbinbojicmhdlaeGreatDoor

/-
  THE WALK of the reference's Role.
-/
namespace Go.Proofs.YtbinbojicmhdlaeGreatDoor
open Go.RowKit

/-- how far the way up goes yet -/
def upM (d : Tn.Dc) (v : Value) : Nat := if intOf v < 0 then 0 else posD d (intOf v).toNat + 1

theorem upM_nat (d : Tn.Dc) (m : Nat) : upM d (.int .i64 (m : Int)) = posD d m + 1 := by
  unfold upM
  rw [show intOf (.int .i64 (m : Int)) = (m : Int) from rfl, if_neg (by omega), Int.toNat_natCast]
theorem upM_no (d : Tn.Dc) : upM d (.int .i64 (-1)) = 0 := by
  unfold upM
  rw [show intOf (.int .i64 (-1)) = -1 from rfl, if_pos (by omega)]

theorem isN_el {d : Tn.Dc} {k : Nat} (h : Tn.isN d (k : Int) false = true) : Tn.isN d (k : Int) true = Tn.has (Tn.nd d k).tag := by
  unfold Tn.isN at *
  simp at h
  simp [h]

set_option maxHeartbeats 6400000 in
set_option maxRecDepth 100000 in
theorem qrole_any {b o c : Nat} {rs : List Raw} {d : Tn.Dc} : ∀ (f : Nat) (n : Int) (w : World), Cx w b o c rs d → (∀ k : Nat, n = (k : Int) → Tn.lvD d k = true → posD d k < f) →
    Calls Tryz.prog 27 #[.slice (some ⟨b, o, none⟩) rs.length c, .int .i64 n] w fun e w' => e = .returned (.int .i64 (roleD d n)) ∧ Below w.heap.size w w' := by
  intro f
  induction f with
  | zero =>
    intro n w hc hf
    have his : Tn.isN d n false = false := by
      cases hi : Tn.isN d n false with
      | false => rfl
      | true =>
        obtain ⟨k, rfl, _, hl⟩ := isN_nat hi
        exact absurd (hf k rfl hl) (by omega)
    have E : Hid (roleD d n = 0) := (role_nil hc.fine his).1
    have SI := ris_any hc.doc n false
    rw [his] at SI
    clear hc hf his
    go_enter Tryz.func27, Tryz.ntmps27
    go_wp2_with (go_at_call 52; refine SI.mono ?_; rintro e w1 ⟨rfl, hw1⟩; subst hw1)
    go_ret
    exact ⟨by rw [E.out]; rfl, Below.refl _ _⟩
  | succ f ih =>
    intro n w hc hf
    have SI := ris_any hc.doc n false
    cases his : Tn.isN d n false with
    | false =>
      have E : Hid (roleD d n = 0) := (role_nil hc.fine his).1
      rw [his] at SI
      clear hc hf his ih
      go_enter Tryz.func27, Tryz.ntmps27
      go_wp2_with (go_at_call 52; refine SI.mono ?_; rintro e w1 ⟨rfl, hw1⟩; subst hw1)
      go_ret
      exact ⟨by rw [E.out]; rfl, Below.refl _ _⟩
    | true =>
      obtain ⟨k, rfl, hkl, hlv⟩ := isN_nat his
      have hF := hc.fine
      have hk' : k < rs.length := by rw [hc.doc.len]; exact hkl
      have h1 := hc.doc.row.c1 k hk'
      have htg : rs[k].tag = (Tn.nd d k).tag := by rw [(hc.doc.nds k hk' hkl).tag, nd_at hkl]
      rw [htg] at h1
      have hel := isN_el his
      have RC := role_cons hF his
      have hpk := hf k rfl hlv
      rw [his] at SI
      cases ht : Tn.has (Tn.nd d k).tag with
      | false =>
        have E : Hid (roleD d (k : Int) = 10) := by
          show _ = _
          rw [RC.1, alone_text (by rw [hel, ht]), fit_zero need_text]
        have he : (Tn.nd d k).tag.toList.isEmpty = true := by unfold Tn.has at ht; simpa using ht
        clear hc hf ih RC hel ht htg
        generalize (Tn.nd d k).tag = tag at *
        go_enter Tryz.func27, Tryz.ntmps27
        go_wp2_with (go_at_call 52; refine SI.mono ?_; rintro e w1 ⟨rfl, hw1⟩; subst hw1)
        go_ret
        exact ⟨by rw [E.out]; rfl, Below.refl _ _⟩
      | true =>
        have he : (Tn.nd d k).tag.toList.isEmpty = false := by unfold Tn.has at ht; simpa using ht
        have S1 := qfirst_any hc k (by rw [hel, ht])
        have S2 : ∀ W, Calls Tryz.prog 26 #[.int .i64 (aloneD d (k : Int))] W fun e w' => (∃ (a0 : ByteArray) (a1 a2 a3 a4 a5 : Bool), e = .returned (.agg #[.string a0, .bool a1, .bool a2, .bool a3, .bool a4, .bool a5, .int .i64 (needI (aloneD d (k : Int)))])) ∧ Below W.heap.size W w' := fun W => (Kn.qkind_any (w := W) _).mono (by
          rintro e w' ⟨rfl, hb⟩
          exact ⟨⟨_, _, _, _, _, _, rfl⟩, hb⟩)
        have hfl := Kn.field_need
        have SU : Hid (∀ W m, Below w.heap.size w W → Calls Tryz.prog 54 #[.slice (some ⟨b, o, none⟩) rs.length c, .int .i64 m] W fun e w' => e = .returned (.int .i64 (upF d m)) ∧ Below W.heap.size W w') := fun W m hb => qup_any (hc.below hb).doc hF m
        have SR : Hid (∀ W (m : Nat), Below w.heap.size w W → Tn.lvD d m = true → posD d m < posD d k → Calls Tryz.prog 27 #[.slice (some ⟨b, o, none⟩) rs.length c, .int .i64 (m : Int)] W fun e w' => e = .returned (.int .i64 (roleD d (m : Int))) ∧ Below W.heap.size W w') :=
          fun W m hb _ hp => ih (m : Int) W (hc.below hb) (fun k' e _ => by rw [← Int.ofNat.inj e]; omega)
        have E : Hid (roleD d (k : Int) = fitD (aloneD d (k : Int)) (aroundD d (upF d (k : Int)))) := RC.1
        clear hc hf ih RC hel ht htg
        generalize roleD d (k : Int) = res at *
        generalize aloneD d (k : Int) = r at *
        generalize (Tn.nd d k).tag = tag at *
        by_cases h0 : needI r = 0
        · have E2 : Hid (res = r) := by show _ = _; rw [E.out, fit_zero h0]
          rw [h0] at S2
          clear E SU SR h0
          go_enter Tryz.func27, Tryz.ntmps27
          go_wp2_with (first
            | (go_at_call 52; refine SI.mono ?_; rintro e w1 ⟨rfl, hw1⟩; subst hw1)
            | (go_at_call 56; refine S1.mono ?_; rintro e w2 ⟨rfl, hb2⟩)
            | (go_at_call 26; refine (S2 _).mono ?_; rintro e w3 ⟨⟨a0, a1, a2, a3, a4, a5, rfl⟩, hb3⟩))
          go_ret
          exact ⟨by rw [E2.out]; rfl, hb2.trans (hb3.mono hb2.size)⟩
        · have h0q : (needI r == 0) = false := by simpa using h0
          have N0 : Hid (needI r ≠ 0) := h0
          have E2 : Hid (∀ a, aroundD d (upF d (k : Int)) = a → res = if needI r = a then r else 18) := fun a ha => by
            rw [E.out, ha]
            split
            · rename_i e; exact fit_yes e
            · rename_i e; exact fit_no h0 e
          have SU1 := fun W hb => SU.out W (k : Int) hb
          have AR : Hid (∀ u, upF d (k : Int) = u → (u = -1 ∨ ∃ m : Nat, u = (m : Int) ∧ Tn.lvD d m = true ∧ posD d m < posD d k)) := fun u hu => by
            rcases up_cases hF (k : Int) with e | ⟨m, k', e1, e2, _, e4, e5⟩
            · exact Or.inl (by rw [← hu]; exact e)
            · have : k = k' := by omega
              subst this
              exact Or.inr ⟨m, by rw [← hu]; exact e1, e4, e5⟩
          have A0 := AR.out _ rfl
          clear E h0 AR
          generalize needI r = nd at *
          generalize hup : upF d (k : Int) = u0 at *
          have HU : Hid (upF d (k : Int) = u0) := hup
          clear hup
          go_enter Tryz.func27, Tryz.ntmps27
          go_upto_region 10 with (first
            | (go_at_call 52; refine SI.mono ?_; rintro e w1 ⟨rfl, hw1⟩; subst hw1)
            | (go_at_call 56; refine S1.mono ?_; rintro e w2 ⟨rfl, hb2⟩)
            | (go_at_call 26; refine (S2 _).mono ?_; rintro e w3 ⟨⟨a0, a1, a2, a3, a4, a5, rfl⟩, hb3⟩; have B3 := hb2.trans (hb3.mono hb2.size))
            | (go_at_call 54; refine (SU1 _ B3).mono ?_; rintro e w4 ⟨rfl, hb4⟩; have B4 := B3.trans (hb4.mono B3.size)))
          have ARO : Hid (∀ m : Nat, Tn.lvD d m = true → aroundD d (m : Int) = keepA (roleD d (m : Int)) (aroundD d (upF d (m : Int)))) := fun m hm => (role_cons hF (by rw [Tn.isN_iff]; exact hm)).2
          have ARN : Hid (aroundD d (-1) = 0) := (role_nil hF (by unfold Tn.isN; simp)).2
          clear S1 S2 SU1 SI hb2 hb3 hb4
          go_loopw [7] (fun v wr => ∃ u : Int, v = .int .i64 u ∧ Hid (aroundD d u0 = aroundD d u) ∧ (u = -1 ∨ ∃ m : Nat, u = (m : Int) ∧ Tn.lvD d m = true ∧ posD d m < posD d k) ∧ Below w1.heap.size w1 wr) (fun v _ => upM d v)
          case atStart => exact ⟨u0, rfl, rfl, A0, B4⟩
          case round =>
            obtain ⟨u, rfl, AE, hu, BR⟩ := hrel
            rcases hu with rfl | ⟨m, rfl, hm, hpm⟩
            · have E3 : Hid (res = 18) := by
                have := E2.out 0 (AE.out.trans ARN.out)
                rw [if_neg N0.out] at this
                exact this
              go_wp2_with fail
              go_ret
              exact ⟨by rw [E3.out]; rfl, BR⟩
            · have I1 := SR.out wr m BR hm hpm
              have I2 := fun W hb => SR.out W m hb hm hpm
              have I3 := I2
              have AM := ARO.out m hm
              have hU2 := fun W hb => SU.out W (m : Int) hb
              have NX : ∀ u, upF d (m : Int) = u → (u = -1 ∨ ∃ m' : Nat, u = (m' : Int) ∧ Tn.lvD d m' = true ∧ posD d m' < posD d m) := fun u hu => by
                rcases up_cases hF (m : Int) with e | ⟨m', k', e1, e2, _, e4, e5⟩
                · exact Or.inl (by rw [← hu]; exact e)
                · rw [Int.ofNat.inj e2]
                  exact Or.inr ⟨m', by rw [← hu]; exact e1, e4, e5⟩
              have NX1 := NX _ rfl
              clear NX
              generalize upF d (m : Int) = u1 at *
              have HAM : Hid (aroundD d (m : Int) = keepA (roleD d (m : Int)) (aroundD d u1)) := AM
              clear AM
              generalize roleD d (m : Int) = r1 at *
              have NM : (∀ W, Below w1.heap.size w1 W → Hid (aroundD d u0 = aroundD d u1) → ∃ u : Int, (Value.int .i64 u1) = .int .i64 u ∧ Hid (aroundD d u0 = aroundD d u) ∧ (u = -1 ∨ ∃ m : Nat, u = (m : Int) ∧ Tn.lvD d m = true ∧ posD d m < posD d k) ∧ Below w1.heap.size w1 W) := fun W hW hA => ⟨u1, rfl, hA, by
                rcases NX1 with e | ⟨m', e1, e2, e3⟩
                · exact Or.inl e
                · exact Or.inr ⟨m', e1, e2, by omega⟩, hW⟩
              have MS : Hid (upM d (.int .i64 u1) < upM d (.int .i64 (m : Int))) := by
                show _ < _
                rw [upM_nat]
                rcases NX1 with e | ⟨m', e1, e2, e3⟩
                · rw [e, upM_no]; omega
                · rw [e1, upM_nat]; omega
              clear NX1
              by_cases g0 : r1 = 0
              · have A1 : Hid (aroundD d u0 = aroundD d u1) := by show _ = _; rw [AE.out, HAM.out, g0]; rfl
                subst g0
                go_wp2_with (first
                  | (go_at_call 27; refine I1.mono ?_; clear I1; rintro e w5 ⟨rfl, hb5⟩; have B5 := BR.trans (hb5.mono BR.size))
                  | (go_at_call 54; refine (hU2 _ B5).mono ?_; rintro e w6 ⟨rfl, hb6⟩; have B6 := B5.trans (hb6.mono B5.size)))
                go_roundw
                case rel => exact NM _ B6 A1
                case measure => exact MS.out
              · have g0q : (r1 == 0) = false := by simpa using g0
                by_cases g1 : r1 = 18
                · have A1 : Hid (aroundD d u0 = aroundD d u1) := by show _ = _; rw [AE.out, HAM.out, g1]; rfl
                  subst g1
                  go_wp2_with (first
                    | (go_at_call 27; refine I1.mono ?_; clear I1; rintro e w5 ⟨rfl, hb5⟩; have B5 := BR.trans (hb5.mono BR.size); have J2 := I2 w5 B5)
                    | (go_at_call 27; refine J2.mono ?_; clear J2; rintro e w7 ⟨rfl, hb7⟩; have B7 := B5.trans (hb7.mono B5.size))
                    | (go_at_call 54; refine (hU2 _ B7).mono ?_; rintro e w6 ⟨rfl, hb6⟩; have B6 := B7.trans (hb6.mono B7.size)))
                  go_roundw
                  case rel => exact NM _ B6 A1
                  case measure => exact MS.out
                · have g1q : (r1 == 18) = false := by simpa using g1
                  have A1 : aroundD d u0 = r1 := by rw [AE.out, HAM.out]; unfold keepA; rw [if_pos ⟨g0, g1⟩]
                  have E3 := E2.out r1 A1
                  by_cases g2 : nd = r1
                  · have E4 : Hid (res = r) := by show _ = _; rw [E3, if_pos g2]
                    have g2q : (r1 == nd) = true := by simp [g2]
                    clear E3 A1 g0 g1 g2 NM MS
                    go_wp2_with (first
                      | (go_at_call 27; refine I1.mono ?_; clear I1; rintro e w5 ⟨rfl, hb5⟩; have B5 := BR.trans (hb5.mono BR.size); have J2 := I2 w5 B5)
                      | (go_at_call 27; refine J2.mono ?_; clear J2; rintro e w7 ⟨rfl, hb7⟩; have B7 := B5.trans (hb7.mono B5.size); have J3 := I3 w7 B7)
                      | (go_at_call 27; refine J3.mono ?_; clear J3; rintro e w8 ⟨rfl, hb8⟩; have B8 := B7.trans (hb8.mono B7.size)))
                    go_ret
                    exact ⟨by rw [E4.out]; rfl, B8⟩
                  · have E4 : Hid (res = 18) := by show _ = _; rw [E3, if_neg g2]
                    have g2q : (r1 == nd) = false := by simp; exact fun h => g2 h.symm
                    clear E3 A1 g0 g1 g2 NM MS
                    go_wp2_with (first
                      | (go_at_call 27; refine I1.mono ?_; clear I1; rintro e w5 ⟨rfl, hb5⟩; have B5 := BR.trans (hb5.mono BR.size); have J2 := I2 w5 B5)
                      | (go_at_call 27; refine J2.mono ?_; clear J2; rintro e w7 ⟨rfl, hb7⟩; have B7 := B5.trans (hb7.mono B5.size); have J3 := I3 w7 B7)
                      | (go_at_call 27; refine J3.mono ?_; clear J3; rintro e w8 ⟨rfl, hb8⟩; have B8 := B7.trans (hb8.mono B7.size)))
                    go_ret
                    exact ⟨by rw [E4.out]; rfl, B8⟩
end Go.Proofs.YtbinbojicmhdlaeGreatDoor
