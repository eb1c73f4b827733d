/-
  OWN WORK: Rsa, Dmd, Dya, Rri, Cnt, Rli, Rrw, Drw.
-/
import Derived.Test.YtookcjdibpccpaaP2
import Derived.Test.YtookcjdibpccpaaP11
import Derived.Deep.QuietTactic
import Derived.BigQuiet
import Derived.Deep.RegionHeld3
import Derived.Test.YtookcjdibpccpaaP4
import Derived.Test.YtookcjdibpccpaaP7
import Derived.Maps.OwnOps
import Derived.Maps.Views
/-
  THE WALKS of the reference's SameInts and Same, at what reads the same.
-/
namespace Go.Proofs.Ytookcjdibpccpaa
open Go.RowKit

set_option maxHeartbeats 800000 in
set_option maxRecDepth 100000 in
theorem rsameints_true {w : World} {v1 v2 : Value} {l : List Nat} (h1 : IntsAt w v1 l) (h2 : IntsAt w v2 l) :
    Calls Try.prog 34 #[v1, v2] w fun e w' => e = .returned (.bool true) ∧ Below w.heap.size w w' := by
  obtain ⟨p1, c1, rfl, a1, a2, _, at1⟩ := h1.at
  obtain ⟨p2, c2, rfl, b1, b2, _, at2⟩ := h2.at
  have T1 : Hid (∀ j (hj : j < l.length), ∃ b o, p1 = some ⟨b, o, none⟩ ∧ w.cell? ⟨b, o + j, none⟩ = some (.int .i64 (l[j] : Int))) := at1
  have T2 : Hid (∀ j (hj : j < l.length), ∃ b o, p2 = some ⟨b, o, none⟩ ∧ w.cell? ⟨b, o + j, none⟩ = some (.int .i64 (l[j] : Int))) := at2
  clear at1 at2 h1 h2
  go_enter Try.func34, Try.ntmps34
  go_wp2_with fail
  go_loopw [13] (fun i wr => ∃ j : Nat, j ≤ l.length ∧ i = .int .i64 j ∧ Below w.heap.size w wr) (fun i _ => l.length - (intOf i).toNat)
  case atStart => exact ⟨0, Nat.zero_le _, rfl, Below.refl _ _⟩
  case round =>
    obtain ⟨j, hj, rfl, hnx⟩ := hrel
    by_cases hlt : j < l.length
    · obtain ⟨e1, o1, rfl, k1⟩ := T1.out j hlt
      obtain ⟨e2, o2, rfl, k2⟩ := T2.out j hlt
      have y1 := keeps_below hnx (Nat.le_refl _) _ _ k1
      have y2 := keeps_below hnx (Nat.le_refl _) _ _ k2
      clear k1 k2
      generalize l[j] = x at *
      have hq : (((x : Nat) : Int) == (x : Int)) = true := by simp
      have hj2 : (j : Int) < (l.length : Int) := by omega
      go_wp2_with fail
      go_quiet (fail)
      go_wp2_with fail
      go_roundw
      case rel => exact ⟨j + 1, by omega, by go_num, hnx.trans ⟨rfl, rfl, rfl, Nat.le_refl _, fun _ _ => rfl⟩⟩
      case measure => simp [intOf]; omega
    · obtain rfl : j = l.length := by omega
      go_wp2_with fail
      go_ret
      exact ⟨rfl, hnx⟩

set_option maxHeartbeats 1600000 in
set_option maxRecDepth 100000 in
theorem rsame_true {w : World} {b1 o1 c1 b2 o2 c2 : Nat} {rs1 rs2 : List Raw} {d : Tn.Dc} (h1 : DocAt w b1 o1 c1 rs1 d) (h2 : DocAt w b2 o2 c2 rs2 d) (hs : d.length ≤ 1000) :
    Calls Try.prog 23 #[.slice (some ⟨b1, o1, none⟩) rs1.length c1, .slice (some ⟨b2, o2, none⟩) rs2.length c2] w fun e w' => e = .returned (.bool true) ∧ Below w.heap.size w w' := by
  have H1 : Hid (DocAt w b1 o1 c1 rs1 d) := h1
  have H2 : Hid (DocAt w b2 o2 c2 rs2 d) := h2
  rw [h1.len, h2.len]
  clear h1 h2
  go_enter Try.func23, Try.ntmps23
  go_wp2_with fail
  go_loopw [16] (fun i wr => ∃ j : Nat, j ≤ d.length ∧ i = .int .i64 j ∧ Below w.heap.size w wr) (fun i _ => d.length - (intOf i).toNat)
  case atStart => exact ⟨0, Nat.zero_le _, rfl, Below.refl _ _⟩
  case round =>
    obtain ⟨j, hj, rfl, hnx⟩ := hrel
    have hbz := hnx.size
    by_cases hlt : j < d.length
    · have hj1 : j < rs1.length := by rw [H1.out.len]; exact hlt
      have hj2 : j < rs2.length := by rw [H2.out.len]; exact hlt
      have R1 := H1.out.row.keeps (keeps_below hnx (Nat.le_refl _))
      have R2 := H2.out.row.keeps (keeps_below hnx (Nat.le_refl _))
      have N1 := (H1.out.nds j hj1 hlt).keeps (keeps_below hnx (Nat.le_refl _))
      have N2 := (H2.out.nds j hj2 hlt).keeps (keeps_below hnx (Nat.le_refl _))
      have x0 := R1.c0 j hj1
      have x1 := R1.c1 j hj1
      have x2 := R1.c2 j hj1
      have x3 := R1.c3 j hj1
      have x4 := R1.c4 j hj1
      have x5 := R1.c5 j hj1
      have x6 := R1.c6 j hj1
      have x7 := R1.c7 j hj1
      have x8 := R1.c8 j hj1
      have y0 := R2.c0 j hj2
      have y1 := R2.c1 j hj2
      have y2 := R2.c2 j hj2
      have y3 := R2.c3 j hj2
      have y4 := R2.c4 j hj2
      have y5 := R2.c5 j hj2
      have y6 := R2.c6 j hj2
      have y7 := R2.c7 j hj2
      have y8 := R2.c8 j hj2
      clear R1 R2
      generalize rs1[j] = r1 at *
      generalize rs2[j] = r2 at *
      generalize d[j] = nn at *
      obtain ⟨lv1, tg1, tx1, ⟨ap1, an1, ac1⟩, up1, ⟨kp1, kn1, kc1⟩, hs1, ⟨sp1, sn1, sc1⟩, is1⟩ := r1
      obtain ⟨lv2, tg2, tx2, ⟨ap2, an2, ac2⟩, up2, ⟨kp2, kn2, kc2⟩, hs2, ⟨sp2, sn2, sc2⟩, is2⟩ := r2
      obtain ⟨m1, m2, m3, m4, m5, m6, A1, K1, S1⟩ := N1
      obtain ⟨n1, n2, n3, n4, n5, n6, A2, K2, S2⟩ := N2
      simp only at *
      subst m1 m2 m3 m4 m5 m6 n1 n2 n3 n4 n5 n6
      obtain rfl := al_of A1
      obtain rfl := al_of A2
      go_wp2_with fail
      have SS : ∀ w'', Keeps wr w'' → (fun w'' => w''.cell? ⟨b1, o1 + j * 9, none⟩ = some (.bool nn.live) ∧ w''.cell? ⟨b1, o1 + j * 9 + 1, none⟩ = some (.string nn.tag) ∧ w''.cell? ⟨b1, o1 + j * 9 + 2, none⟩ = some (.string nn.text) ∧ w''.cell? ⟨b1, o1 + j * 9 + 3, none⟩ = some (.slice ap1 nn.attrs.length ac1) ∧ w''.cell? ⟨b1, o1 + j * 9 + 4, none⟩ = some (.int .i64 nn.up) ∧ w''.cell? ⟨b1, o1 + j * 9 + 5, none⟩ = some (.slice kp1 kn1 kc1) ∧ w''.cell? ⟨b1, o1 + j * 9 + 6, none⟩ = some (.bool nn.hasS) ∧ w''.cell? ⟨b1, o1 + j * 9 + 7, none⟩ = some (.slice sp1 sn1 sc1) ∧ w''.cell? ⟨b1, o1 + j * 9 + 8, none⟩ = some (.bool nn.inS) ∧ w''.cell? ⟨b2, o2 + j * 9, none⟩ = some (.bool nn.live) ∧ w''.cell? ⟨b2, o2 + j * 9 + 1, none⟩ = some (.string nn.tag) ∧ w''.cell? ⟨b2, o2 + j * 9 + 2, none⟩ = some (.string nn.text) ∧ w''.cell? ⟨b2, o2 + j * 9 + 3, none⟩ = some (.slice ap2 nn.attrs.length ac2) ∧ w''.cell? ⟨b2, o2 + j * 9 + 4, none⟩ = some (.int .i64 nn.up) ∧ w''.cell? ⟨b2, o2 + j * 9 + 5, none⟩ = some (.slice kp2 kn2 kc2) ∧ w''.cell? ⟨b2, o2 + j * 9 + 6, none⟩ = some (.bool nn.hasS) ∧ w''.cell? ⟨b2, o2 + j * 9 + 7, none⟩ = some (.slice sp2 sn2 sc2) ∧ w''.cell? ⟨b2, o2 + j * 9 + 8, none⟩ = some (.bool nn.inS)) w'' := fun w'' hk => ⟨hk _ _ x0, hk _ _ x1, hk _ _ x2, hk _ _ x3, hk _ _ x4, hk _ _ x5, hk _ _ x6, hk _ _ x7, hk _ _ x8, hk _ _ y0, hk _ _ y1, hk _ _ y2, hk _ _ y3, hk _ _ y4, hk _ _ y5, hk _ _ y6, hk _ _ y7, hk _ _ y8⟩
      go_region_held3 (fun w'' => w''.cell? ⟨b1, o1 + j * 9, none⟩ = some (.bool nn.live) ∧ w''.cell? ⟨b1, o1 + j * 9 + 1, none⟩ = some (.string nn.tag) ∧ w''.cell? ⟨b1, o1 + j * 9 + 2, none⟩ = some (.string nn.text) ∧ w''.cell? ⟨b1, o1 + j * 9 + 3, none⟩ = some (.slice ap1 nn.attrs.length ac1) ∧ w''.cell? ⟨b1, o1 + j * 9 + 4, none⟩ = some (.int .i64 nn.up) ∧ w''.cell? ⟨b1, o1 + j * 9 + 5, none⟩ = some (.slice kp1 kn1 kc1) ∧ w''.cell? ⟨b1, o1 + j * 9 + 6, none⟩ = some (.bool nn.hasS) ∧ w''.cell? ⟨b1, o1 + j * 9 + 7, none⟩ = some (.slice sp1 sn1 sc1) ∧ w''.cell? ⟨b1, o1 + j * 9 + 8, none⟩ = some (.bool nn.inS) ∧ w''.cell? ⟨b2, o2 + j * 9, none⟩ = some (.bool nn.live) ∧ w''.cell? ⟨b2, o2 + j * 9 + 1, none⟩ = some (.string nn.tag) ∧ w''.cell? ⟨b2, o2 + j * 9 + 2, none⟩ = some (.string nn.text) ∧ w''.cell? ⟨b2, o2 + j * 9 + 3, none⟩ = some (.slice ap2 nn.attrs.length ac2) ∧ w''.cell? ⟨b2, o2 + j * 9 + 4, none⟩ = some (.int .i64 nn.up) ∧ w''.cell? ⟨b2, o2 + j * 9 + 5, none⟩ = some (.slice kp2 kn2 kc2) ∧ w''.cell? ⟨b2, o2 + j * 9 + 6, none⟩ = some (.bool nn.hasS) ∧ w''.cell? ⟨b2, o2 + j * 9 + 7, none⟩ = some (.slice sp2 sn2 sc2) ∧ w''.cell? ⟨b2, o2 + j * 9 + 8, none⟩ = some (.bool nn.inS))
        ((apply SS; repeat (first | exact Keeps.refl _ | apply keeps_drew | apply keeps_alloc')))
        (fail)
      · have bX : BoxAt ((wr.alloc (.cells (Raw.cells (⟨nn.live, nn.tag, nn.text, ⟨ap1, nn.attrs.length, ac1⟩, nn.up, ⟨kp1, kn1, kc1⟩, nn.hasS, ⟨sp1, sn1, sc1⟩, nn.inS⟩ : Raw)).toArray 56)).alloc (.cells (Raw.cells (⟨nn.live, nn.tag, nn.text, ⟨ap2, nn.attrs.length, ac2⟩, nn.up, ⟨kp2, kn2, kc2⟩, nn.hasS, ⟨sp2, sn2, sc2⟩, nn.inS⟩ : Raw)).toArray 56)).drew wr.heap.size (⟨nn.live, nn.tag, nn.text, ⟨ap1, nn.attrs.length, ac1⟩, nn.up, ⟨kp1, kn1, kc1⟩, nn.hasS, ⟨sp1, sn1, sc1⟩, nn.inS⟩ : Raw) := (box_new wr (⟨nn.live, nn.tag, nn.text, ⟨ap1, nn.attrs.length, ac1⟩, nn.up, ⟨kp1, kn1, kc1⟩, nn.hasS, ⟨sp1, sn1, sc1⟩, nn.inS⟩ : Raw) 56).keeps (keeps_drew (keeps_alloc _ _))
        have bY : BoxAt ((wr.alloc (.cells (Raw.cells (⟨nn.live, nn.tag, nn.text, ⟨ap1, nn.attrs.length, ac1⟩, nn.up, ⟨kp1, kn1, kc1⟩, nn.hasS, ⟨sp1, sn1, sc1⟩, nn.inS⟩ : Raw)).toArray 56)).alloc (.cells (Raw.cells (⟨nn.live, nn.tag, nn.text, ⟨ap2, nn.attrs.length, ac2⟩, nn.up, ⟨kp2, kn2, kc2⟩, nn.hasS, ⟨sp2, sn2, sc2⟩, nn.inS⟩ : Raw)).toArray 56)).drew (wr.heap.size + 1) (⟨nn.live, nn.tag, nn.text, ⟨ap2, nn.attrs.length, ac2⟩, nn.up, ⟨kp2, kn2, kc2⟩, nn.hasS, ⟨sp2, sn2, sc2⟩, nn.inS⟩ : Raw) := by
          have h := (box_new (wr.alloc (.cells (Raw.cells (⟨nn.live, nn.tag, nn.text, ⟨ap1, nn.attrs.length, ac1⟩, nn.up, ⟨kp1, kn1, kc1⟩, nn.hasS, ⟨sp1, sn1, sc1⟩, nn.inS⟩ : Raw)).toArray 56)) (⟨nn.live, nn.tag, nn.text, ⟨ap2, nn.attrs.length, ac2⟩, nn.up, ⟨kp2, kn2, kc2⟩, nn.hasS, ⟨sp2, sn2, sc2⟩, nn.inS⟩ : Raw) 56).keeps (keeps_drew (Keeps.refl _))
          rw [show (wr.alloc (.cells (Raw.cells (⟨nn.live, nn.tag, nn.text, ⟨ap1, nn.attrs.length, ac1⟩, nn.up, ⟨kp1, kn1, kc1⟩, nn.hasS, ⟨sp1, sn1, sc1⟩, nn.inS⟩ : Raw)).toArray 56)).heap.size = wr.heap.size + 1 by simp] at h
          exact h
        have KQ : Keeps wr ((wr.alloc (.cells (Raw.cells (⟨nn.live, nn.tag, nn.text, ⟨ap1, nn.attrs.length, ac1⟩, nn.up, ⟨kp1, kn1, kc1⟩, nn.hasS, ⟨sp1, sn1, sc1⟩, nn.inS⟩ : Raw)).toArray 56)).alloc (.cells (Raw.cells (⟨nn.live, nn.tag, nn.text, ⟨ap2, nn.attrs.length, ac2⟩, nn.up, ⟨kp2, kn2, kc2⟩, nn.hasS, ⟨sp2, sn2, sc2⟩, nn.inS⟩ : Raw)).toArray 56)).drew := keeps_drew (keeps_alloc' _ (keeps_alloc _ _))
        have BQ : Below w.heap.size w ((wr.alloc (.cells (Raw.cells (⟨nn.live, nn.tag, nn.text, ⟨ap1, nn.attrs.length, ac1⟩, nn.up, ⟨kp1, kn1, kc1⟩, nn.hasS, ⟨sp1, sn1, sc1⟩, nn.inS⟩ : Raw)).toArray 56)).alloc (.cells (Raw.cells (⟨nn.live, nn.tag, nn.text, ⟨ap2, nn.attrs.length, ac2⟩, nn.up, ⟨kp2, kn2, kc2⟩, nn.hasS, ⟨sp2, sn2, sc2⟩, nn.inS⟩ : Raw)).toArray 56)).drew := ((hnx.alloc hbz _).alloc (by simp; omega) _).drew
        simp only [Raw.cells] at bX bY KQ BQ
        generalize hWQ : (World.alloc _ _).drew = W at bX bY KQ BQ ⊢
        generalize wr.heap.size + 1 = Y at *
        generalize wr.heap.size = X at *
        clear x0 x1 x2 x3 x4 x5 x6 x7 x8 y0 y1 y2 y3 y4 y5 y6 y7 y8 SS
        have K1 := K1.keeps KQ
        have K2 := K2.keeps KQ
        have S1 := S1.keeps KQ
        have S2 := S2.keeps KQ
        have A1 := A1.keeps KQ
        have A2 := A2.keeps KQ
        clear KQ hWQ hnx hbz
        have CX := bX
        have CY := bY
        obtain ⟨e0, e1, e2, e3, e4, e5, e6, e7, e8⟩ := bX
        obtain ⟨g0, g1, g2, g3, g4, g5, g6, g7, g8⟩ := bY
        simp only at e0 e1 e2 e3 e4 e5 e6 e7 e8 g0 g1 g2 g3 g4 g5 g6 g7 g8
        have q1 : (nn.tag.toList == nn.tag.toList) = true := by simp
        have q2 : (nn.text.toList == nn.text.toList) = true := by simp
        have q3 : (nn.up == nn.up) = true := by simp
        have AX : Hid (AttrsAt W (.slice ap1 nn.attrs.length ac1) nn.attrs) := A1
        have AY : Hid (AttrsAt W (.slice ap2 nn.attrs.length ac2) nn.attrs) := A2
        clear A1 A2
        go_wp2_with (first
          | (go_at_call_of 34 kc1; refine (rsameints_true K1 K2).mono ?_; rintro e w5 ⟨rfl, hb5⟩; have J5 := keeps_below hb5 (Nat.le_refl _); have e75 := J5 _ _ e7; have g75 := J5 _ _ g7; have e35 := J5 _ _ e3; have g35 := J5 _ _ g3; have S15 := S1.keeps J5; have S25 := S2.keeps J5)
          | (go_at_call_of 34 sc1; refine (rsameints_true S15 S25).mono ?_; rintro e w6 ⟨rfl, hb6⟩; have J6 := J5.trans (keeps_below hb6 (Nat.le_refl _)); have e36 := J6 _ _ e3; have g36 := J6 _ _ g3; have B6 := (BQ.trans (hb5.mono BQ.size)).trans (hb6.mono (Nat.le_trans BQ.size hb5.size)); have AX6 : Hid (AttrsAt w6 (.slice ap1 nn.attrs.length ac1) nn.attrs) := AX.out.keeps J6; have AY6 : Hid (AttrsAt w6 (.slice ap2 nn.attrs.length ac2) nn.attrs) := AY.out.keeps J6))
        obtain ⟨_, _, he1, hx1, hx2, _, at1⟩ := AX6.out.at
        cases he1
        obtain ⟨_, _, he2, hy1, hy2, _, at2⟩ := AY6.out.at
        cases he2
        have T1 : Hid (∀ i (hi : i < nn.attrs.length), ∃ b o, ap1 = some ⟨b, o, none⟩ ∧ w6.cell? ⟨b, o + i * 2, none⟩ = some (.string nn.attrs[i].1) ∧ w6.cell? ⟨b, o + i * 2 + 1, none⟩ = some (.string nn.attrs[i].2)) := at1
        have T2 : Hid (∀ i (hi : i < nn.attrs.length), ∃ b o, ap2 = some ⟨b, o, none⟩ ∧ w6.cell? ⟨b, o + i * 2, none⟩ = some (.string nn.attrs[i].1) ∧ w6.cell? ⟨b, o + i * 2 + 1, none⟩ = some (.string nn.attrs[i].2)) := at2
        clear at1 at2 AX6 AY6 AX AY J5 J6 hb5 hb6 e75 g75 e35 g35 S15 S25 K1 K2 S1 S2 BQ CX CY e0 e1 e2 e3 e4 e5 e6 e7 e8 g0 g1 g2 g3 g4 g5 g6 g7 g8 q1 q2 q3
        go_loopw [95] (fun iv wq => ∃ i : Nat, i ≤ nn.attrs.length ∧ iv = .int .i64 i ∧ Below w6.heap.size w6 wq) (fun i _ => nn.attrs.length - (intOf i).toNat)
        case atStart => exact ⟨0, Nat.zero_le _, rfl, Below.refl _ _⟩
        case round =>
          obtain ⟨i, hi, rfl, hq6⟩ := hrel
          have J7 := keeps_below hq6 (Nat.le_refl _)
          have e37 := J7 _ _ e36
          have g37 := J7 _ _ g36
          by_cases hil : i < nn.attrs.length
          · obtain ⟨f1, p1, rfl, k1, k2⟩ := T1.out i hil
            obtain ⟨f2, p2, rfl, k3, k4⟩ := T2.out i hil
            have z1 := J7 _ _ k1
            have z2 := J7 _ _ k2
            have z3 := J7 _ _ k3
            have z4 := J7 _ _ k4
            clear k1 k2 k3 k4
            generalize nn.attrs[i] = at0 at *
            obtain ⟨nm, vl⟩ := at0
            simp only at z1 z2 z3 z4
            have hne := fun W => attr_neq W nm vl
            have hgd := attr_guard
            have hii : (i : Int) < (nn.attrs.length : Int) := by omega
            go_wp2_with fail
            go_quiet (fail)
            go_wp2_with fail
            go_roundw
            case rel => exact ⟨i + 1, by omega, by go_num, hq6.trans ⟨rfl, rfl, rfl, Nat.le_refl _, fun _ _ => rfl⟩⟩
            case measure => simp [intOf]; omega
          · obtain rfl : i = nn.attrs.length := by omega
            go_wp2_with fail
            go_roundw
            case rel => exact ⟨j + 1, by omega, by go_num, B6.trans (hq6.mono B6.size)⟩
            case measure => simp [intOf]; omega
      · have bY : BoxAt ((wr.alloc (.cells (Raw.cells (⟨nn.live, nn.tag, nn.text, ⟨ap2, nn.attrs.length, ac2⟩, nn.up, ⟨kp2, kn2, kc2⟩, nn.hasS, ⟨sp2, sn2, sc2⟩, nn.inS⟩ : Raw)).toArray 56)).alloc (.cells (Raw.cells (⟨nn.live, nn.tag, nn.text, ⟨ap1, nn.attrs.length, ac1⟩, nn.up, ⟨kp1, kn1, kc1⟩, nn.hasS, ⟨sp1, sn1, sc1⟩, nn.inS⟩ : Raw)).toArray 56)).drew wr.heap.size (⟨nn.live, nn.tag, nn.text, ⟨ap2, nn.attrs.length, ac2⟩, nn.up, ⟨kp2, kn2, kc2⟩, nn.hasS, ⟨sp2, sn2, sc2⟩, nn.inS⟩ : Raw) := (box_new wr (⟨nn.live, nn.tag, nn.text, ⟨ap2, nn.attrs.length, ac2⟩, nn.up, ⟨kp2, kn2, kc2⟩, nn.hasS, ⟨sp2, sn2, sc2⟩, nn.inS⟩ : Raw) 56).keeps (keeps_drew (keeps_alloc _ _))
        have bX : BoxAt ((wr.alloc (.cells (Raw.cells (⟨nn.live, nn.tag, nn.text, ⟨ap2, nn.attrs.length, ac2⟩, nn.up, ⟨kp2, kn2, kc2⟩, nn.hasS, ⟨sp2, sn2, sc2⟩, nn.inS⟩ : Raw)).toArray 56)).alloc (.cells (Raw.cells (⟨nn.live, nn.tag, nn.text, ⟨ap1, nn.attrs.length, ac1⟩, nn.up, ⟨kp1, kn1, kc1⟩, nn.hasS, ⟨sp1, sn1, sc1⟩, nn.inS⟩ : Raw)).toArray 56)).drew (wr.heap.size + 1) (⟨nn.live, nn.tag, nn.text, ⟨ap1, nn.attrs.length, ac1⟩, nn.up, ⟨kp1, kn1, kc1⟩, nn.hasS, ⟨sp1, sn1, sc1⟩, nn.inS⟩ : Raw) := by
          have h := (box_new (wr.alloc (.cells (Raw.cells (⟨nn.live, nn.tag, nn.text, ⟨ap2, nn.attrs.length, ac2⟩, nn.up, ⟨kp2, kn2, kc2⟩, nn.hasS, ⟨sp2, sn2, sc2⟩, nn.inS⟩ : Raw)).toArray 56)) (⟨nn.live, nn.tag, nn.text, ⟨ap1, nn.attrs.length, ac1⟩, nn.up, ⟨kp1, kn1, kc1⟩, nn.hasS, ⟨sp1, sn1, sc1⟩, nn.inS⟩ : Raw) 56).keeps (keeps_drew (Keeps.refl _))
          rw [show (wr.alloc (.cells (Raw.cells (⟨nn.live, nn.tag, nn.text, ⟨ap2, nn.attrs.length, ac2⟩, nn.up, ⟨kp2, kn2, kc2⟩, nn.hasS, ⟨sp2, sn2, sc2⟩, nn.inS⟩ : Raw)).toArray 56)).heap.size = wr.heap.size + 1 by simp] at h
          exact h
        have KQ : Keeps wr ((wr.alloc (.cells (Raw.cells (⟨nn.live, nn.tag, nn.text, ⟨ap2, nn.attrs.length, ac2⟩, nn.up, ⟨kp2, kn2, kc2⟩, nn.hasS, ⟨sp2, sn2, sc2⟩, nn.inS⟩ : Raw)).toArray 56)).alloc (.cells (Raw.cells (⟨nn.live, nn.tag, nn.text, ⟨ap1, nn.attrs.length, ac1⟩, nn.up, ⟨kp1, kn1, kc1⟩, nn.hasS, ⟨sp1, sn1, sc1⟩, nn.inS⟩ : Raw)).toArray 56)).drew := keeps_drew (keeps_alloc' _ (keeps_alloc _ _))
        have BQ : Below w.heap.size w ((wr.alloc (.cells (Raw.cells (⟨nn.live, nn.tag, nn.text, ⟨ap2, nn.attrs.length, ac2⟩, nn.up, ⟨kp2, kn2, kc2⟩, nn.hasS, ⟨sp2, sn2, sc2⟩, nn.inS⟩ : Raw)).toArray 56)).alloc (.cells (Raw.cells (⟨nn.live, nn.tag, nn.text, ⟨ap1, nn.attrs.length, ac1⟩, nn.up, ⟨kp1, kn1, kc1⟩, nn.hasS, ⟨sp1, sn1, sc1⟩, nn.inS⟩ : Raw)).toArray 56)).drew := ((hnx.alloc hbz _).alloc (by simp; omega) _).drew
        simp only [Raw.cells] at bX bY KQ BQ
        generalize hWQ : (World.alloc _ _).drew = W at bX bY KQ BQ ⊢
        generalize wr.heap.size + 1 = X at *
        generalize wr.heap.size = Y at *
        clear x0 x1 x2 x3 x4 x5 x6 x7 x8 y0 y1 y2 y3 y4 y5 y6 y7 y8 SS
        have K1 := K1.keeps KQ
        have K2 := K2.keeps KQ
        have S1 := S1.keeps KQ
        have S2 := S2.keeps KQ
        have A1 := A1.keeps KQ
        have A2 := A2.keeps KQ
        clear KQ hWQ hnx hbz
        have CX := bX
        have CY := bY
        obtain ⟨e0, e1, e2, e3, e4, e5, e6, e7, e8⟩ := bX
        obtain ⟨g0, g1, g2, g3, g4, g5, g6, g7, g8⟩ := bY
        simp only at e0 e1 e2 e3 e4 e5 e6 e7 e8 g0 g1 g2 g3 g4 g5 g6 g7 g8
        have q1 : (nn.tag.toList == nn.tag.toList) = true := by simp
        have q2 : (nn.text.toList == nn.text.toList) = true := by simp
        have q3 : (nn.up == nn.up) = true := by simp
        have AX : Hid (AttrsAt W (.slice ap1 nn.attrs.length ac1) nn.attrs) := A1
        have AY : Hid (AttrsAt W (.slice ap2 nn.attrs.length ac2) nn.attrs) := A2
        clear A1 A2
        go_wp2_with (first
          | (go_at_call_of 34 kc1; refine (rsameints_true K1 K2).mono ?_; rintro e w5 ⟨rfl, hb5⟩; have J5 := keeps_below hb5 (Nat.le_refl _); have e75 := J5 _ _ e7; have g75 := J5 _ _ g7; have e35 := J5 _ _ e3; have g35 := J5 _ _ g3; have S15 := S1.keeps J5; have S25 := S2.keeps J5)
          | (go_at_call_of 34 sc1; refine (rsameints_true S15 S25).mono ?_; rintro e w6 ⟨rfl, hb6⟩; have J6 := J5.trans (keeps_below hb6 (Nat.le_refl _)); have e36 := J6 _ _ e3; have g36 := J6 _ _ g3; have B6 := (BQ.trans (hb5.mono BQ.size)).trans (hb6.mono (Nat.le_trans BQ.size hb5.size)); have AX6 : Hid (AttrsAt w6 (.slice ap1 nn.attrs.length ac1) nn.attrs) := AX.out.keeps J6; have AY6 : Hid (AttrsAt w6 (.slice ap2 nn.attrs.length ac2) nn.attrs) := AY.out.keeps J6))
        obtain ⟨_, _, he1, hx1, hx2, _, at1⟩ := AX6.out.at
        cases he1
        obtain ⟨_, _, he2, hy1, hy2, _, at2⟩ := AY6.out.at
        cases he2
        have T1 : Hid (∀ i (hi : i < nn.attrs.length), ∃ b o, ap1 = some ⟨b, o, none⟩ ∧ w6.cell? ⟨b, o + i * 2, none⟩ = some (.string nn.attrs[i].1) ∧ w6.cell? ⟨b, o + i * 2 + 1, none⟩ = some (.string nn.attrs[i].2)) := at1
        have T2 : Hid (∀ i (hi : i < nn.attrs.length), ∃ b o, ap2 = some ⟨b, o, none⟩ ∧ w6.cell? ⟨b, o + i * 2, none⟩ = some (.string nn.attrs[i].1) ∧ w6.cell? ⟨b, o + i * 2 + 1, none⟩ = some (.string nn.attrs[i].2)) := at2
        clear at1 at2 AX6 AY6 AX AY J5 J6 hb5 hb6 e75 g75 e35 g35 S15 S25 K1 K2 S1 S2 BQ CX CY e0 e1 e2 e3 e4 e5 e6 e7 e8 g0 g1 g2 g3 g4 g5 g6 g7 g8 q1 q2 q3
        go_loopw [95] (fun iv wq => ∃ i : Nat, i ≤ nn.attrs.length ∧ iv = .int .i64 i ∧ Below w6.heap.size w6 wq) (fun i _ => nn.attrs.length - (intOf i).toNat)
        case atStart => exact ⟨0, Nat.zero_le _, rfl, Below.refl _ _⟩
        case round =>
          obtain ⟨i, hi, rfl, hq6⟩ := hrel
          have J7 := keeps_below hq6 (Nat.le_refl _)
          have e37 := J7 _ _ e36
          have g37 := J7 _ _ g36
          by_cases hil : i < nn.attrs.length
          · obtain ⟨f1, p1, rfl, k1, k2⟩ := T1.out i hil
            obtain ⟨f2, p2, rfl, k3, k4⟩ := T2.out i hil
            have z1 := J7 _ _ k1
            have z2 := J7 _ _ k2
            have z3 := J7 _ _ k3
            have z4 := J7 _ _ k4
            clear k1 k2 k3 k4
            generalize nn.attrs[i] = at0 at *
            obtain ⟨nm, vl⟩ := at0
            simp only at z1 z2 z3 z4
            have hne := fun W => attr_neq W nm vl
            have hgd := attr_guard
            have hii : (i : Int) < (nn.attrs.length : Int) := by omega
            go_wp2_with fail
            go_quiet (fail)
            go_wp2_with fail
            go_roundw
            case rel => exact ⟨i + 1, by omega, by go_num, hq6.trans ⟨rfl, rfl, rfl, Nat.le_refl _, fun _ _ => rfl⟩⟩
            case measure => simp [intOf]; omega
          · obtain rfl : i = nn.attrs.length := by omega
            go_wp2_with fail
            go_roundw
            case rel => exact ⟨j + 1, by omega, by go_num, B6.trans (hq6.mono B6.size)⟩
            case measure => simp [intOf]; omega
    · obtain rfl : j = d.length := by omega
      go_wp2_with fail
      go_ret
      exact ⟨rfl, hnx⟩
end Go.Proofs.Ytookcjdibpccpaa

/-
  THE WALK of tnlaw2.DomMade.
-/
namespace Go.Proofs.Ytookcjdibpccpaa
open Go.RowKit

set_option maxHeartbeats 400000 in
set_option maxRecDepth 100000 in
/-- a change of a node that is not there -/
theorem dapply_none {w : World} {b o c : Nat} {rs : List Raw} {d : Tn.Dc} (hd : DocAt w b o c rs d) (kd nn tt bf : Int) (nm vl : ByteArray) (hk1 : 1 ≤ kd) (hk2 : kd ≤ 10) (hi : Tn.isN d nn false = false) :
    Calls Try.prog 41 #[.slice (some ⟨b, o, none⟩) rs.length c, chg6 ⟨kd, nn, tt, bf, nm, vl⟩] w fun e w' => e = .returned (.tuple #[.slice none 0 0, .int .i64 0, .int .i64 6]) ∧ Below w.heap.size w w' := by
  have B1 : Below w.heap.size w (w.alloc (.cells #[.int .i64 kd, .int .i64 nn, .int .i64 tt, .int .i64 bf, .string nm, .string vl] 32)) := (Below.refl _ _).alloc (Nat.le_refl _) _
  have HD : Hid (DocAt (w.alloc (.cells #[.int .i64 kd, .int .i64 nn, .int .i64 tt, .int .i64 bf, .string nm, .string vl] 32)) b o c rs d) := hd.keeps (keeps_below B1 (Nat.le_refl _))
  clear hd
  unfold chg6
  simp only
  go_enter Try.func41, Try.ntmps41
  go_wp2_with fail
  refine (dis_any HD.out nn false).mono ?_
  rintro e w1 ⟨rfl, hw1⟩
  subst hw1
  rw [hi]
  go_wp2_with fail
  go_ret3
  exact ⟨rfl, B1⟩

theorem chgs_keeps {w w' : World} {v : Value} {l : List Tn.Chg} (h : ChgsAt w v l) (k : Keeps w w') : ChgsAt w' v l := by
  obtain ⟨p, c, e, h1, h2, h4⟩ := h
  refine ⟨p, c, e, h1, h2, fun j x hx => ?_⟩
  obtain ⟨b, o, e1, e2⟩ := h4 j x hx
  exact ⟨b, o, e1, k _ _ e2⟩

variable {d : Tn.Dc} {x : Tn.Chg} {m : Nat} {b : Int}

theorem made_path (h : Tn.Good d) (hk : x.kind = 1 ∨ x.kind = 2) (hm : Tn.lvD d m = true) : (Tn.pathOf (putDoc (addIn d x) (Tn.free d) m b false) (Tn.free d : Int)).length - 1 = (Tn.pathOf d (m : Int)).length ∧ Tn.within (putDoc (addIn d x) (Tn.free d) m b false) (Tn.free d : Int) (m : Int) = true := by
  obtain ⟨r, hr, hR⟩ := h.tr
  obtain ⟨hf1, hf2⟩ := Tn.free_spec d
  have hf0 : Tn.free d ≠ 0 := fun e => by rw [e, hr.1.root] at hf2; cases hf2
  have hmk : m ≠ Tn.free d := fun e => by rw [e, hf2] at hm; cases hm
  have hT := make_TrD (x := x) (b := b) h hr hk hm
  have hu0 : (Tn.nd (putDoc (addIn d x) (Tn.free d) m b false) 0).up = -1 := by
    rw [make_nd h hk hm]
    by_cases e : 0 = m
    · rw [if_pos e]
      show (Tn.nd d m).up = -1
      rw [← e]
      exact h.rootUp
    · rw [if_neg e, if_neg (fun e2 => hf0 e2.symm)]
      exact h.rootUp
  have hlv := make_lv (x := x) (b := b) h hk hm
  have hnk : Tn.nd (putDoc (addIn d x) (Tn.free d) m b false) (Tn.free d) = { newNd x with up := (m : Int), inS := false } := by
    rw [make_nd h hk hm, if_neg (fun e => hmk e.symm), if_pos rfl]
  refine ⟨?_, ?_⟩
  · rw [Tn.pathOf_len hT hlv hu0, Tn.pathOf_len hr hm h.rootUp, if_pos rfl]
    rfl
  · have hlen := make_len (x := x) (b := b) h hk hm
    have hml := Tn.lv_lt hm
    unfold Tn.within Tn.pathOf
    rw [path_succ_yes _ _ _ (by rw [Tn.isN_iff]; exact hlv), hnk]
    obtain ⟨L, hL⟩ : ∃ L, (putDoc (addIn d x) (Tn.free d) m b false).length = L + 1 := ⟨(putDoc (addIn d x) (Tn.free d) m b false).length - 1, by omega⟩
    rw [hL]
    show (Tn.free d :: Tn.path (L + 1) _ (m : Int)).any _ = true
    rw [path_succ_yes _ _ _ (by
      rw [Tn.isN_iff]
      unfold Tn.lvD
      rw [make_nd h hk hm, if_pos rfl]
      exact hm)]
    simp

theorem apply_make {W : World} {g o c : Nat} {rs : List Raw} {d : Tn.Dc} (hd : DocAt W g o c rs d) (h : Tn.Good d) (kd n tt bf : Int) (nm vl : ByteArray) (hkd : kd = 1 ∨ kd = 2) (hnm : nm.size ≤ 4194304) (hvl : vl.size ≤ 4194304) :
    Calls Try.prog 41 #[.slice (some ⟨g, o, none⟩) rs.length c, .agg #[.int .i64 kd, .int .i64 n, .int .i64 tt, .int .i64 bf, .string nm, .string vl]] W fun e w' => Below W.heap.size W w' ∧ ((∃ cd : Int, (cd != 0) = true ∧ e = .returned (.tuple #[.slice none 0 0, .int .i64 0, .int .i64 cd])) ∨
      ∃ (m g' c' : Nat) (rs' : List Raw), n = (m : Int) ∧ Tn.lvD d m = true ∧ e = .returned (.tuple #[.slice (some ⟨g', 0, none⟩) rs'.length c', .int .i64 (Tn.free d : Int), .int .i64 0]) ∧ DocAt w' g' 0 c' rs' (putDoc (addIn d ⟨kd, (m : Int), tt, bf, nm, vl⟩) (Tn.free d) m bf false)) := by
  cases hi : Tn.isN d n false with
  | false =>
    refine (dapply_none hd kd n tt bf nm vl (by omega) (by omega) hi).mono ?_
    rintro e w' ⟨e1, e2⟩
    exact ⟨e2, Or.inl ⟨6, by decide, e1⟩⟩
  | true =>
    obtain ⟨m, rfl, hml, hlv⟩ := isN_nat hi
    have hm : Tn.lvD d m = true := hlv
    have hlen := h.len
    have hl := hd.len
    refine (dapply_chs hd (by omega) (by omega) (fun j s => ?_) (fun k => ?_) kd (m : Int) tt bf nm vl (by omega) (by omega) hi (chs_make h hm kd tt bf nm vl hkd hnm hvl) (fun _ => ?_)).mono ?_
    · have := h.small j s
      omega
    · have := h.attrs k
      omega
    · obtain ⟨r, hr, _⟩ := h.tr
      exact (make_TrD (x := ⟨kd, (m : Int), tt, bf, nm, vl⟩) (b := bf) h hr hkd hm).1.root
    · rintro e w' ⟨v, e1, e2, ⟨e3, e4⟩ | ⟨_, g', c', rs', e3, e4, _⟩⟩
      · exact ⟨e2, Or.inl ⟨_, by simpa using e3, by rw [e1, e4]⟩⟩
      · rw [make_last h hkd hm] at e4
        exact ⟨e2, Or.inr ⟨m, g', c', rs', rfl, hm, by rw [e1, e3], e4⟩⟩

theorem apply_unmake {W : World} {g o c : Nat} {rs : List Raw} {d : Tn.Dc} {x : Tn.Chg} {m : Nat} {b : Int} (hd : DocAt W g o c rs (putDoc (addIn d x) (Tn.free d) m b false)) (h : Tn.Good d) (hm : Tn.lvD d m = true) (hkd : x.kind = 1 ∨ x.kind = 2) :
    Calls Try.prog 41 #[.slice (some ⟨g, o, none⟩) rs.length c, .agg #[.int .i64 4, .int .i64 (Tn.free d : Int), .int .i64 0, .int .i64 0, .string ⟨#[]⟩, .string ⟨#[]⟩]] W fun e w' => Below W.heap.size W w' ∧ ∃ (g' c' : Nat) (rs' : List Raw), e = .returned (.tuple #[.slice (some ⟨g', 0, none⟩) rs'.length c', .int .i64 (Tn.free d : Int), .int .i64 0]) ∧ DocAt w' g' 0 c' rs' d := by
  have hlen := make_len (x := x) (b := b) h hkd hm
  have h60 := h.len
  have hf := (Tn.free_spec d).1
  have hl := hd.len
  refine (dapply_chs hd (by omega) (by omega) (fun j s => ?_) (fun k => ?_) 4 (Tn.free d : Int) 0 0 ⟨#[]⟩ ⟨#[]⟩ (by omega) (by omega) (by rw [Tn.isN_iff]; exact make_lv h hkd hm) (chs_unmake h hm hkd 0 0 ⟨#[]⟩ ⟨#[]⟩) (fun _ => ?_)).mono ?_
  · have := make_li (x := x) (b := b) h hkd hm j s
    omega
  · rw [make_nd h hkd hm]
    split
    · have := h.attrs m
      show (Tn.nd d m).attrs.length ≤ 1000
      omega
    · split
      · unfold newNd
        split <;> simp [Tn.zero]
      · have := h.attrs k
        omega
  · obtain ⟨r, hr, _⟩ := h.tr
    obtain ⟨hf1, hf2⟩ := Tn.free_spec d
    have hf0 : Tn.free d ≠ 0 := fun e => by rw [e, hr.1.root] at hf2; cases hf2
    rw [taken_all h hkd hm]
    unfold Tn.lvD
    show (Tn.nd (List.set _ (Tn.free d) Tn.zero) 0).live = true
    rw [nd_setL _ _ _ (by rw [taken_len h hkd hm]; omega), if_neg (fun e => hf0 e.symm), taken_nd h hkd hm, if_neg (fun e => hf0 e.symm)]
    exact hr.1.root
  · rintro e w' ⟨v, e1, e2, ⟨e3, e4⟩ | ⟨_, g', c', rs', e3, e4, _⟩⟩
    · exact absurd rfl e3
    · rw [unmade h hkd hm] at e4
      exact ⟨e2, g', c', rs', by rw [e1, e3], e4⟩

end Go.Proofs.Ytookcjdibpccpaa

/-
  dom.Apply at any good document: what the reference makes.
-/
namespace Go.Proofs.Ytookcjdibpccpaa
open Go.RowKit

set_option maxHeartbeats 400000 in
set_option maxRecDepth 100000 in
/-- a kind that there is not -/
theorem dapply_kind {w : World} {v : Value} (kd nn tt bf : Int) (nm vl : ByteArray) (hk : kd < 1 ∨ 10 < kd) :
    Calls Try.prog 41 #[v, chg6 ⟨kd, nn, tt, bf, nm, vl⟩] w fun e w' => e = .returned (.tuple #[.slice none 0 0, .int .i64 0, .int .i64 1]) ∧ Below w.heap.size w w' := by
  have B1 : Below w.heap.size w (w.alloc (.cells #[.int .i64 kd, .int .i64 nn, .int .i64 tt, .int .i64 bf, .string nm, .string vl] 32)) := (Below.refl _ _).alloc (Nat.le_refl _) _
  unfold chg6
  simp only
  by_cases h1 : kd < 1
  · go_enter Try.func41, Try.ntmps41
    go_wp2_with fail
    go_ret3
    exact ⟨rfl, B1⟩
  · have h2 : 10 < kd := by omega
    go_enter Try.func41, Try.ntmps41
    go_wp2_with fail
    go_ret3
    exact ⟨rfl, B1⟩

theorem dapply_any {w : World} {b o c : Nat} {rs : List Raw} {d : Tn.Dc} (hd : DocAt w b o c rs d) (hF : Fine2 d) (kd nn tt bf : Int) (nm vl : ByteArray) (hnm : nm.size ≤ 4194304) (hvl : vl.size ≤ 4194304) :
    Calls Try.prog 41 #[.slice (some ⟨b, o, none⟩) rs.length c, chg6 ⟨kd, nn, tt, bf, nm, vl⟩] w fun e w' => Below w.heap.size w w' ∧
      ((Tn.applyE d ⟨kd, nn, tt, bf, nm, vl⟩ ≠ 0 ∧ e = .returned (.tuple #[.slice none 0 0, .int .i64 0, .int .i64 (Tn.applyE d ⟨kd, nn, tt, bf, nm, vl⟩)])) ∨
      (Tn.applyE d ⟨kd, nn, tt, bf, nm, vl⟩ = 0 ∧ ∃ (g' c' : Nat) (rs' : List Raw), e = .returned (.tuple #[.slice (some ⟨g', 0, none⟩) rs'.length c', .int .i64 (Tn.chgN d ⟨kd, nn, tt, bf, nm, vl⟩), .int .i64 0]) ∧ DocAt w' g' 0 c' rs' (Tn.applyD d ⟨kd, nn, tt, bf, nm, vl⟩) ∧ 0 < rs'.length)) := by
  by_cases hk : kd < 1 ∨ 10 < kd
  · have E : Tn.applyE d ⟨kd, nn, tt, bf, nm, vl⟩ = 1 := by unfold Tn.applyE; exact if_pos hk
    refine (dapply_kind kd nn tt bf nm vl hk).mono ?_
    rintro e w' ⟨e1, e2⟩
    exact ⟨e2, Or.inl ⟨by rw [E]; decide, by rw [E, e1]⟩⟩
  · cases hi : Tn.isN d nn false with
    | false =>
      have E : Tn.applyE d ⟨kd, nn, tt, bf, nm, vl⟩ = 6 := by unfold Tn.applyE; rw [if_neg hk]; exact if_pos hi
      refine (dapply_none hd kd nn tt bf nm vl (by omega) (by omega) hi).mono ?_
      rintro e w' ⟨e1, e2⟩
      exact ⟨e2, Or.inl ⟨by rw [E]; decide, by rw [E, e1]⟩⟩
    | true =>
      obtain ⟨m, rfl, hml, hlv⟩ := isN_nat hi
      have hm : Tn.lvD d m = true := hlv
      have h := hF.good
      have hlen := h.len
      have hl := hd.len
      have E : Tn.applyE d ⟨kd, (m : Int), tt, bf, nm, vl⟩ = Tn.chgE d ⟨kd, (m : Int), tt, bf, nm, vl⟩ := by
        unfold Tn.applyE
        rw [if_neg hk]
        exact if_neg (by rw [hi]; simp)
      refine (dapply_chs hd (by omega) (by omega) (fun j s => ?_) (fun k => ?_) kd (m : Int) tt bf nm vl (by omega) (by omega) hi (chs_full hF kd tt bf nm vl (by omega) (by omega) hnm hvl hm) (fun h0 => ?_)).mono ?_
      · have := h.small j s
        omega
      · have := h.attrs k
        omega
      · obtain ⟨r, hr, _⟩ := (chg_mid h ⟨kd, (m : Int), tt, bf, nm, vl⟩ hi h0).tr
        exact hr.1.root
      · rintro e w' ⟨v, e1, e2, ⟨e3, e4⟩ | ⟨e0, g', c', rs', e3, e4, e5⟩⟩
        · exact ⟨e2, Or.inl ⟨by rw [E]; exact e3, by rw [E, e1, e4]⟩⟩
        · exact ⟨e2, Or.inr ⟨by rw [E]; exact e0, g', c', rs', by rw [e1, e3], e4, e5⟩⟩

theorem fine_step {d : Tn.Dc} (h : Fine2 d) (x : Tn.Chg) : Fine2 (Tn.step d x) := ⟨good_step h.good x, step_stays (fit_stays x) h.good h.fit⟩
theorem fine_apply {d : Tn.Dc} (h : Fine2 d) (x : Tn.Chg) (he : Tn.applyE d x = 0) : Fine2 (Tn.applyD d x) := by
  have := fine_step h x
  unfold Tn.step at this
  rw [if_pos he] at this
  exact this
theorem fine_build (l : List Tn.Chg) : Fine2 (Tn.build l) := ⟨build_good l, build_fit l⟩
end Go.Proofs.Ytookcjdibpccpaa

/-
  PLAIN MATHEMATICS: what the reference's Right asks of a document.
-/
namespace Go.Proofs.Ytookcjdibpccpaa
open Tn

/-- the lists of a node, one behind the other -/
def two (d : Dc) (i : Nat) : List Nat := (nd d i).kids ++ (nd d i).shadow
/-- all that stands in the first i nodes' lists -/
def seen (d : Dc) (i : Nat) : List Nat := (List.range i).flatMap (two d)

theorem seen_succ (d : Dc) (i : Nat) : seen d (i + 1) = seen d i ++ ((nd d i).kids ++ (nd d i).shadow) := by
  unfold seen
  rw [List.range_succ, List.flatMap_append]
  simp [two]

theorem two_mem {d : Dc} {i x : Nat} (h : x ∈ two d i) : ∃ s, x ∈ liD d i s := by
  rcases List.mem_append.mp h with h | h
  · exact ⟨false, h⟩
  · exact ⟨true, h⟩

theorem seen_nodup {d : Dc} {r : Nat → Nat} (h : TrD d r) (n : Nat) : (seen d n).Nodup := by
  refine flat_nodup _ List.nodup_range (fun a _ => ?_) (fun a _ b _ hab x hx hy => ?_)
  · unfold two
    rw [List.nodup_append]
    refine ⟨h.1.nodup a false, h.1.nodup a true, fun x hx y hy e => ?_⟩
    subst e
    have h1 := (h.1.mem a false x hx).2.2.2.2
    have h2 := (h.1.mem a true x hy).2.2.2.2
    rw [h1] at h2
    cases h2
  · obtain ⟨s, hs⟩ := two_mem hx
    obtain ⟨t, ht⟩ := two_mem hy
    have h1 := (h.1.mem a s x hs).2.2.2.1
    have h2 := (h.1.mem b t x ht).2.2.2.1
    exact hab (by rw [← h1, ← h2])

theorem seen_mem {d : Dc} {r : Nat → Nat} (h : TrD d r) (x : Nat) : x ∈ seen d d.length ↔ 0 < x ∧ lvD d x = true := by
  unfold seen
  rw [List.mem_flatMap]
  constructor
  · rintro ⟨a, _, hx⟩
    obtain ⟨s, hs⟩ := two_mem hx
    have := h.1.mem a s x hs
    exact ⟨this.2.2.1, this.2.1⟩
  · rintro ⟨h0, hl⟩
    refine ⟨upD d x, List.mem_range.mpr (lv_lt (h.1.upLive h0 hl)), ?_⟩
    have hm := h.1.par x h0 hl
    unfold two
    cases hs : insD d x with
    | false => rw [hs] at hm; exact List.mem_append.mpr (Or.inl hm)
    | true => rw [hs] at hm; exact List.mem_append.mpr (Or.inr hm)

theorem sub_len : ∀ (l m : List Nat), l.Nodup → (∀ x ∈ l, x ∈ m) → l.length ≤ m.length
  | [], _, _, _ => Nat.zero_le _
  | a :: l, m, hn, hs => by
    have ha : a ∈ m := hs a (by simp)
    obtain ⟨hal, hl⟩ := List.nodup_cons.mp hn
    have := sub_len l (m.erase a) hl (fun x hx => (List.mem_erase_of_ne (fun e => hal (by rw [← e]; exact hx))).mpr (hs x (by simp [hx])))
    rw [List.length_erase_of_mem ha] at this
    have h0 : 0 < m.length := List.length_pos_of_mem ha
    simp
    omega

/-- how many of the first n nodes are live -/
def liveC (d : Dc) : Nat → Nat
  | 0 => 0
  | n + 1 => liveC d n + (if lvD d n then 1 else 0)

theorem liveC_filter (d : Dc) : ∀ n, liveC d n = ((List.range n).filter (lvD d)).length
  | 0 => rfl
  | n + 1 => by
    rw [liveC, liveC_filter d n, List.range_succ, List.filter_append, List.length_append]
    cases hq : lvD d n with
    | true => simp [hq]
    | false => simp [hq]
theorem liveC_le (d : Dc) : ∀ n, liveC d n ≤ n
  | 0 => Nat.le_refl _
  | n + 1 => by
    have := liveC_le d n
    rw [liveC]
    split <;> omega

theorem all_live {d : Dc} (h : Tn.Good d) : (all fuel d 0).length = liveC d d.length := by
  obtain ⟨r, hr, hR⟩ := h.tr
  have h0 := hr.1.root
  rw [liveC_filter]
  apply Nat.le_antisymm
  · refine sub_len _ _ (all_nodup hr fuel 0 h0) (fun x hx => ?_)
    have hl := (all_desc hr fuel 0 x hx h0).1
    exact List.mem_filter.mpr ⟨List.mem_range.mpr (lv_lt hl), hl⟩
  · refine sub_len _ _ (List.Nodup.sublist List.filter_sublist List.nodup_range) (fun x hx => ?_)
    obtain ⟨_, hl⟩ := List.mem_filter.mp hx
    have ha := hr.1.anc (r x) x hl (Nat.le_refl _)
    have h16 := hR x hl
    have e0 : anc (upD d) (r x) x = 0 := by
      have h1 : r (anc (upD d) (r x) x) = 0 := by omega
      apply Classical.byContradiction
      intro hne
      have := hr.1.rank _ (Nat.pos_of_ne_zero hne) ha.1
      omega
    exact desc_all hr (r x) fuel 0 x (by rw [hr.1.r0]; omega) (by unfold fuel; omega) h0 hl e0

theorem main_stays (x : Chg) : Stays (fun j n => j = 0 → n.tag = root.tag) x := by
  refine ⟨fun _ _ _ h => h, fun _ _ _ _ _ h => h, fun _ n s l h _ _ => ?_, fun _ hj e => absurd e hj, fun _ _ h _ => h, fun _ _ h _ => h, fun _ _ h _ => h, fun _ _ _ _ h _ => h, fun _ _ _ hj e => absurd e hj⟩
  cases s <;> exact h
theorem build_main (l : List Chg) : (nd (Tn.build l) 0).tag = root.tag := build_stays (P := fun j n => j = 0 → n.tag = root.tag) (fun x _ => main_stays x) (fun _ => rfl) (fun _ hj e => absurd e hj) 0 rfl

/-- a document that Right says yes of -/
structure RightD (d : Dc) : Prop where
  fine : Fine2 d
  main : (nd d 0).tag = root.tag
theorem right_build (l : List Chg) : RightD (Tn.build l) := ⟨fine_build l, build_main l⟩
end Go.Proofs.Ytookcjdibpccpaa

/-
  HOW OFTEN, AS A MAP OF THE CALL's OWN: what was counted was counted once, nothing else was.
-/
namespace Go.Proofs.Ytookcjdibpccpaa
open Go.RowKit Go.Maps

/-- how an int reads -/
def ri : Value → Option (DataW Unit × List MemPlace)
  | .int .i64 x => some (.lit (.int .i64 x), [])
  | _ => none

theorem keyJ : Keyed Try.prog 3 := int_keyed Try.underlying3

def cntV (acc : List Nat) (k : Nat) : Int := if acc.contains k then 1 else 0

/-- block b is a map in which just the nodes of acc were counted -/
def CntAt (w : World) (b : Nat) (acc : List Nat) : Prop :=
  ∃ D, w.ownsMap Try.prog 3 ri b acc.length D ∧ IsMap D ∧ ∀ k : Nat, D.atKey (.int .i64 (k : Int)) (.lit (.int .i64 0)) = .lit (.int .i64 (cntV acc k))

theorem cnt_made (w : World) : CntAt (w.alloc (.map #[] 0)) w.heap.size [] := ⟨.map [], World.ownsMap_made w Try.prog 3 ri, isMap_empty, fun _ => rfl⟩

theorem CntAt.same {w w' : World} {b : Nat} {acc : List Nat} (h : CntAt w b acc) (hb : w'.heap[b]? = w.heap[b]?) : CntAt w' b acc := by
  obtain ⟨D, ⟨es, clock, h1, h2⟩, h3, h4⟩ := h
  exact ⟨D, ⟨es, clock, by rw [hb]; exact h1, h2⟩, h3, h4⟩
theorem CntAt.lt {w : World} {b : Nat} {acc : List Nat} (h : CntAt w b acc) : b < w.heap.size := by
  obtain ⟨D, h1, _⟩ := h
  exact h1.lt
theorem CntAt.below {w w' : World} {b : Nat} {acc : List Nat} (h : CntAt w b acc) (hb : Below w.heap.size w w') : CntAt w' b acc := h.same (hb.block b h.lt)

theorem CntAt.look {w : World} {b : Nat} {acc : List Nat} (h : CntAt w b acc) (k : Nat) (hk : k ≤ 1000) : (Instr.lookup 71 (.map (some b)) (.int .i64 (k : Int)) false).run Try.prog w = .ok (.int .i64 (cntV acc k)) w := by
  obtain ⟨D, h1, _, h3⟩ := h
  obtain ⟨v, ps, hrun, hv⟩ := h1.lookup (t := 71) keyJ Try.underlying71 (Try.zeroValue3 w) (zd := .lit (.int .i64 0)) (zp := []) rfl (keyOf_int_mk Try.underlying3 (WalkArith.wf_i64 (n := (k : Int)) (by omega)))
  rw [h3 k] at hv
  rw [hrun]
  cases v with
  | int K x =>
    cases K <;> first
      | (simp only [ri, Option.some.injEq, Prod.mk.injEq] at hv
         have : x = cntV acc k := by simpa using hv.1
         rw [this])
      | (simp [ri] at hv)
  | _ => cases hv

theorem cnt_put {w : World} {ops : Array Oper} {rest : List Oper} {o : Oper} {a : Act} {Q : Exit → Act → World → Prop}
    (hg : o.guard = none) (m x v : Operand) (hop : o.op = Op.mapUpdate 71 m x v) (b : Nat) (acc : List Nat) (k : Nat) (hk : k ≤ 1000) (ha : acc.length ≤ 1000)
    (hm : a.eval m = .map (some b)) (h : CntAt w b acc) (hx : a.eval x = .int .i64 (k : Int)) (hv : a.eval v = .int .i64 1)
    (hK : ∀ w', CntAt w' b (acc ++ [k]) → w.grownBy w' (some b) → wpList Try.prog ops Q rest (a.put o.dst undef) w') : wpList Try.prog ops Q (o :: rest) a w := by
  obtain ⟨D, h1, h2, h3⟩ := h
  refine wpList_mapUpdate_own w hg m x v 71 hop 3 3 keyJ Try.underlying71 ri b acc.length D hm h1 (by unfold maxLen; omega) _ _ (.int .i64 (k : Int)) hx hv (keyOf_int_mk Try.underlying3 (WalkArith.wf_i64 (by omega))) (.lit (.int .i64 1)) [] rfl ?_
  intro w' g1 g2
  refine hK w' ⟨_, by simpa using g1, h2.put _ _, fun j => ?_⟩ g2
  by_cases e : j = k
  · subst e
    rw [atKey_put_same h2 (by trivial)]
    simp [cntV]
  · rw [atKey_put_other (fun x => e (by injection x with _ x; omega)), h3 j]
    unfold cntV
    congr 2
    simp [e]
end Go.Proofs.Ytookcjdibpccpaa

/-
  THE WALK of the reference's live.
-/
namespace Go.Proofs.Ytookcjdibpccpaa
open Go.RowKit

set_option maxHeartbeats 1600000 in
set_option maxRecDepth 100000 in
theorem rlive_any {w : World} {b o c : Nat} {rs : List Raw} {d : Tn.Dc} (hd : DocAt w b o c rs d) (hs : rs.length ≤ 1000) :
    Calls Try.prog 60 #[.slice (some ⟨b, o, none⟩) rs.length c] w fun e w' => e = .returned (.int .i64 (liveC d d.length : Int)) ∧ Below w.heap.size w w' := by
  have H : Hid (DocAt w b o c rs d) := hd
  have HL : Hid (rs.length = d.length) := hd.len
  clear hd
  go_enter Try.func60, Try.ntmps60
  go_wp2_with fail
  go_loopw [3, 8] (fun nv iv wr => ∃ j : Nat, j ≤ rs.length ∧ iv = .int .i64 j ∧ nv = .int .i64 (liveC d j : Int) ∧ Below w.heap.size w wr) (fun _ i _ => rs.length - (intOf i).toNat)
  case atStart => exact ⟨0, Nat.zero_le _, rfl, rfl, Below.refl _ _⟩
  case round =>
    obtain ⟨j, hj, rfl, rfl, hnx⟩ := hrel
    have hbz := hnx.size
    by_cases hlt : j < rs.length
    · have hjd : j < d.length := by rw [← HL.out]; exact hlt
      have RW := H.out.row.keeps (keeps_below hnx (Nat.le_refl _))
      have hlive := (H.out.nds j hlt hjd).live
      have x0 := RW.c0 j hlt
      have x1 := RW.c1 j hlt
      have x2 := RW.c2 j hlt
      have x3 := RW.c3 j hlt
      have x4 := RW.c4 j hlt
      have x5 := RW.c5 j hlt
      have x6 := RW.c6 j hlt
      have x7 := RW.c7 j hlt
      have x8 := RW.c8 j hlt
      clear RW
      have hle := liveC_le d j
      have LS : Hid (liveC d (j + 1) = liveC d j + (if (rs[j]).live then 1 else 0)) := by
        show _ = _
        rw [liveC, hlive, ← nd_at hjd]
        rfl
      clear hlive
      generalize rs[j] = rj at *
      obtain ⟨lv, tg, tx, ⟨ap, an, ac⟩, up, ⟨kp, kn, kc⟩, hs', ⟨sp, sn, sc⟩, is⟩ := rj
      simp only at *
      generalize liveC d j = n at *
      cases lv with
      | true =>
        go_wp2_with fail
        go_roundw
        case rel => exact ⟨j + 1, by omega, by go_num, by rw [LS.out]; simp, hnx.alloc hbz _⟩
        case measure => simp [intOf]; omega
      | false =>
        go_wp2_with fail
        go_roundw
        case rel => exact ⟨j + 1, by omega, by go_num, by rw [LS.out]; simp, hnx.alloc hbz _⟩
        case measure => simp [intOf]; omega
    · obtain rfl : j = rs.length := by omega
      have E : Hid (liveC d rs.length = liveC d d.length) := by show _ = _; rw [HL.out]
      generalize liveC d rs.length = n' at *
      go_wp2_with fail
      go_ret
      exact ⟨by rw [← E.out]; rfl, hnx⟩
end Go.Proofs.Ytookcjdibpccpaa

/-
  THE WALK of the reference's Right, at a document that is right.
-/
namespace Go.Proofs.Ytookcjdibpccpaa
open Go.RowKit

theorem doc_grownR {w w' : World} {M b o c : Nat} {rs : List Raw} {d : Tn.Dc} (h : DocAt w b o c rs d) (hg : w.grownBy w' (some M)) (ho : DocOff M b rs) : DocAt w' b o c rs d := by
  have hb : But w.heap.size M w w' := ⟨hg.os, hg.tape, hg.output, hg.size, fun k hk hM => hg.block k hk (fun e => hM (by cases e; rfl))⟩
  exact hb.doc (Nat.le_refl _) h ho

theorem nodup_at {A B : List Nat} {t : Nat} (h : (A ++ B).Nodup) (ht : t < B.length) : B[t] ∉ A ++ B.take t := by
  intro hm
  rw [List.nodup_append] at h
  rcases List.mem_append.mp hm with h1 | h1
  · exact h.2.2 _ h1 _ (List.getElem_mem ht) rfl
  · obtain ⟨q, hq, e⟩ := List.mem_take_iff_getElem.mp h1
    have := (List.getElem_inj h.2.1).mp e
    omega
theorem cnt_zero {acc : List Nat} {x : Nat} (h : x ∉ acc) : cntV acc x = 0 := by
  unfold cntV
  rw [if_neg (by simpa using h)]
theorem cnt_one {acc : List Nat} {x : Nat} (h : x ∈ acc) : cntV acc x = 1 := by
  unfold cntV
  rw [if_pos (by simpa using h)]

theorem seen_len {d : Tn.Dc} {r : Nat → Nat} (h : Tn.TrD d r) (n : Nat) : (seen d n).length ≤ d.length := by
  refine Tn.nodup_le d.length _ (seen_nodup h n) (fun x hx => ?_)
  unfold seen at hx
  rw [List.mem_flatMap] at hx
  obtain ⟨a, _, hx⟩ := hx
  obtain ⟨s, hs⟩ := two_mem hx
  exact Tn.lv_lt (h.1.mem a s x hs).2.1

set_option maxHeartbeats 3200000 in
set_option maxRecDepth 100000 in
theorem rright_any {w : World} {b o c : Nat} {rs : List Raw} {d : Tn.Dc} (hd : DocAt w b o c rs d) (hR : RightD d) :
    Calls Try.prog 44 #[.slice (some ⟨b, o, none⟩) rs.length c] w fun e w' => e = .returned (.bool true) ∧ Below w.heap.size w w' := by
  have H : Hid (DocAt w b o c rs d) := hd
  have hl := hd.len
  have hG := hR.fine.good
  have hlen := hG.len
  have h0 : 0 < rs.length := by omega
  have h60 : rs.length ≤ 60 := by omega
  have h0d : 0 < d.length := by omega
  have N0 := hd.nds 0 h0 h0d
  have c0 := hd.row.c0 0 h0
  have c1 := hd.row.c1 0 h0
  have c4 := hd.row.c4 0 h0
  have c6 := hd.row.c6 0 h0
  obtain ⟨r, hr, _⟩ := hG.tr
  have hlv : (Tn.nd d 0).live = true := hr.1.root
  rw [N0.live, ← nd_at h0d, hlv] at c0
  rw [N0.tag, ← nd_at h0d, hR.main] at c1
  rw [N0.up, ← nd_at h0d, hG.rootUp] at c4
  rw [N0.hasS, ← nd_at h0d, ((hR.fine.fit 0).root rfl).1] at c6
  have hmain : (Tn.root.tag.toList == [109, 97, 105, 110]) = true := by decide +kernel
  have HR : Hid (RightD d) := hR
  have HL : Hid (rs.length = d.length) := hl
  have HTR : Hid (Tn.TrD d r) := hr
  have HRow : Hid (∀ (W : World) (x : Nat), DocAt W b o c rs d → x < rs.length → W.cell? ⟨b, o + x * 9, none⟩ = some (.bool (Tn.nd d x).live) ∧ W.cell? ⟨b, o + x * 9 + 4, none⟩ = some (.int .i64 (Tn.nd d x).up) ∧ W.cell? ⟨b, o + x * 9 + 8, none⟩ = some (.bool (Tn.nd d x).inS)) := fun W x h hx => by
    have hxd : x < d.length := by rw [← h.len]; exact hx
    have N := h.nds x hx hxd
    rw [nd_at hxd, ← N.live, ← N.up, ← N.inS]
    exact ⟨h.row.c0 x hx, h.row.c4 x hx, h.row.c8 x hx⟩
  have HMem : Hid (∀ i s x, x ∈ Tn.liD d i s → x < rs.length ∧ Tn.isN d (x : Int) false = true ∧ (Tn.nd d x).up = (i : Int) ∧ (Tn.nd d x).inS = s) := fun i s x hx => by
    obtain ⟨_, q2, q3, q4, q5⟩ := hr.1.mem i s x hx
    refine ⟨by rw [hl]; exact Tn.lv_lt q2, by rw [Tn.isN_iff]; exact q2, ?_, q5⟩
    have := hr.2 x q3 q2
    unfold Tn.upD at q4
    omega
  simp only [Nat.zero_mul, Nat.add_zero] at c0 c1 c4 c6
  clear hd N0 hl hr hG hlv hR
  have hmm := @run_makeMap Try.prog
  have hrt : Tn.root.tag = ⟨#[109, 97, 105, 110]⟩ := rfl
  rw [hrt] at c1 hmain
  clear hrt
  go_enter Try.func44, Try.ntmps44
  go_upto_region 2 with fail
  have OF : Hid (DocOff w.heap.size b rs) := doc_old H.out h0 (Nat.le_refl _)
  have C0 := cnt_made w
  have D0 : Hid (DocAt (w.alloc (.map #[] 0)) b o c rs d) := H.out.keeps (keeps_alloc _ _)
  have B0 : Hid (Below w.heap.size w (w.alloc (.map #[] 0))) := (Below.refl _ _).alloc (Nat.le_refl _) _
  have hM : w.heap.size < (w.alloc (.map #[] 0)).heap.size := by simp
  generalize hMM : w.heap.size = M at C0 OF hM ⊢
  have HM : Hid (w.heap.size = M) := hMM
  generalize w.alloc (.map #[] 0) = w0 at *
  clear hMM c0 c1 c4 c6 hmm hmain H
  go_loopw [51] (fun iv wr => ∃ j : Nat, j ≤ rs.length ∧ iv = .int .i64 j ∧ Hid (CntAt wr M (seen d j)) ∧ Hid (w0.grownBy wr (some M))) (fun i _ => rs.length - (intOf i).toNat)
  case atStart => exact ⟨0, Nat.zero_le _, rfl, C0, grown_refl _ _⟩
  case round =>
    obtain ⟨j, hj, rfl, CR, GR⟩ := hrel
    have DR : Hid (DocAt wr b o c rs d) := doc_grownR D0.out GR.out OF.out
    have hMr : M < wr.heap.size := CR.out.lt
    by_cases hlt : j < rs.length
    · have hjd : j < d.length := by rw [← HL.out]; exact hlt
      have RW := DR.out.row
      have NJ := DR.out.nds j hlt hjd
      have x0 := RW.c0 j hlt
      have x1 := RW.c1 j hlt
      have x2 := RW.c2 j hlt
      have x3 := RW.c3 j hlt
      have x4 := RW.c4 j hlt
      have x5 := RW.c5 j hlt
      have x6 := RW.c6 j hlt
      have x7 := RW.c7 j hlt
      have x8 := RW.c8 j hlt
      have hnd := nd_at hjd
      clear RW
      rw [← hnd] at NJ
      have NW : Hid (∀ W, DocAt W b o c rs d → NdAt W rs[j] (Tn.nd d j)) := fun W h => by rw [nd_at hjd]; exact h.nds j hlt hjd
      have HSS : Hid (seen d (j + 1) = seen d j ++ ((Tn.nd d j).kids ++ (Tn.nd d j).shadow)) := seen_succ d j
      have HND : Hid ((seen d j ++ ((Tn.nd d j).kids ++ (Tn.nd d j).shadow)).Nodup) := by
        have := seen_nodup HTR.out (j + 1)
        rw [seen_succ] at this
        exact this
      have HSL : Hid ((seen d j ++ ((Tn.nd d j).kids ++ (Tn.nd d j).shadow)).length ≤ 60) := by
        have := seen_len HTR.out (j + 1)
        rw [seen_succ] at this
        exact Nat.le_trans this hlen.2
      have HX0 : Hid (∀ x ∈ (Tn.nd d j).kids, x < rs.length ∧ Tn.isN d (x : Int) false = true ∧ (Tn.nd d x).up = (j : Int) ∧ (Tn.nd d x).inS = false) := fun x hx => HMem.out j false x hx
      have HX1 : Hid (∀ x ∈ (Tn.nd d j).shadow, x < rs.length ∧ Tn.isN d (x : Int) false = true ∧ (Tn.nd d x).up = (j : Int) ∧ (Tn.nd d x).inS = true) := fun x hx => HMem.out j true x hx
      have SM1 := HR.out.fine.good.small j false
      have SM2 := HR.out.fine.good.small j true
      have FT := HR.out.fine.fit j
      unfold Tn.liD Tn.listOf at SM1 SM2
      simp only [Bool.false_eq_true, if_false, if_true] at SM1 SM2
      have A8 := HR.out.fine.good.attrs j
      generalize rs[j] = rj at *
      generalize hnj : Tn.nd d j = nj at *
      clear hnj hnd
      obtain ⟨lv, tg, tx, ⟨ap, an, ac⟩, up, ⟨kp, kn, kc⟩, hs, ⟨sp, sn, sc⟩, is⟩ := rj
      obtain ⟨m1, m2, m3, m4, m5, m6, A1, K1, S1⟩ := NJ
      simp only at *
      subst m1 m2 m3 m4 m5 m6
      obtain rfl := al_of A1
      obtain rfl : kn = nj.kids.length := by
        obtain ⟨_, _, he, _⟩ := K1
        injection he
      obtain rfl : sn = nj.shadow.length := by
        obtain ⟨_, _, he, _⟩ := S1
        injection he
      obtain ⟨_, _, heK, hk1, hk2, _, _⟩ := K1.at
      obtain ⟨_, _, heS, hs1, hs2, _, _⟩ := S1.at
      obtain ⟨_, _, heA, ha1, ha2, _, _⟩ := A1.at
      cases heK
      cases heS
      cases heA
      have HFT : Hid (Fit j nj) := FT
      clear K1 S1 A1 FT
      go_wp2_with fail
      have bX := box_new wr ⟨nj.live, nj.tag, nj.text, ⟨ap, nj.attrs.length, ac⟩, nj.up, ⟨kp, nj.kids.length, kc⟩, nj.hasS, ⟨sp, nj.shadow.length, sc⟩, nj.inS⟩ 56
      simp only at bX
      have bZ : (wr.alloc (.cells #[.bool nj.live, .string nj.tag, .string nj.text, .slice ap nj.attrs.length ac, .int .i64 nj.up, .slice kp nj.kids.length kc, .bool nj.hasS, .slice sp nj.shadow.length sc, .bool nj.inS] 56)).heap.size = wr.heap.size + 1 := by simp
      have BW1 : Below wr.heap.size wr (wr.alloc (.cells #[.bool nj.live, .string nj.tag, .string nj.text, .slice ap nj.attrs.length ac, .int .i64 nj.up, .slice kp nj.kids.length kc, .bool nj.hasS, .slice sp nj.shadow.length sc, .bool nj.inS] 56)) := (Below.refl _ _).alloc (Nat.le_refl _) _
      generalize wr.alloc (.cells #[.bool nj.live, .string nj.tag, .string nj.text, .slice ap nj.attrs.length ac, .int .i64 nj.up, .slice kp nj.kids.length kc, .bool nj.hasS, .slice sp nj.shadow.length sc, .bool nj.inS] 56) = wb at *
      have p0 : (wb.alloc (.cells #[.slice kp nj.kids.length kc, .slice sp nj.shadow.length sc] 44)).cell? ⟨wr.heap.size + 1, 0, none⟩ = some (.slice kp nj.kids.length kc) := by rw [← bZ, World.cell?_alloc_new]; rfl
      have p1 : (wb.alloc (.cells #[.slice kp nj.kids.length kc, .slice sp nj.shadow.length sc] 44)).cell? ⟨wr.heap.size + 1, 1, none⟩ = some (.slice sp nj.shadow.length sc) := by rw [← bZ, World.cell?_alloc_new]; rfl
      have KB : Keeps wb (wb.alloc (.cells #[.slice kp nj.kids.length kc, .slice sp nj.shadow.length sc] 44)) := keeps_alloc _ _
      have e1 := KB _ _ bX.c1
      have e3 := KB _ _ bX.c3
      have e5 := KB _ _ bX.c5
      have e6 := KB _ _ bX.c6
      have e7 := KB _ _ bX.c7
      simp only at e1 e3 e5 e6 e7
      have BW2 : Below wr.heap.size wr (wb.alloc (.cells #[.slice kp nj.kids.length kc, .slice sp nj.shadow.length sc] 44)) := BW1.alloc (by omega) _
      have C1 : Hid (CntAt (wb.alloc (.cells #[.slice kp nj.kids.length kc, .slice sp nj.shadow.length sc] 44)) M (seen d j)) := CR.out.below BW2
      have G1 : Hid (w0.grownBy (wb.alloc (.cells #[.slice kp nj.kids.length kc, .slice sp nj.shadow.length sc] 44)) (some M)) := grow_below GR.out BW2
      have hXM : M ≠ wr.heap.size := by omega
      have hYM : M ≠ wr.heap.size + 1 := by omega
      clear x0 x1 x2 x3 x4 x5 x6 x7 x8 bX KB BW1 BW2 CR GR DR bZ
      generalize wb.alloc (.cells #[.slice kp nj.kids.length kc, .slice sp nj.shadow.length sc] 44) = W1 at *
      have P0 : Hid (W1.cell? ⟨wr.heap.size + 1, 0, none⟩ = some (.slice kp nj.kids.length kc)) := p0
      have P1 : Hid (W1.cell? ⟨wr.heap.size + 1, 1, none⟩ = some (.slice sp nj.shadow.length sc)) := p1
      have BX : Hid (W1.cell? ⟨wr.heap.size, 1, none⟩ = some (.string nj.tag) ∧ W1.cell? ⟨wr.heap.size, 3, none⟩ = some (.slice ap nj.attrs.length ac) ∧ W1.cell? ⟨wr.heap.size, 5, none⟩ = some (.slice kp nj.kids.length kc) ∧ W1.cell? ⟨wr.heap.size, 6, none⟩ = some (.bool nj.hasS) ∧ W1.cell? ⟨wr.heap.size, 7, none⟩ = some (.slice sp nj.shadow.length sc)) := ⟨e1, e3, e5, e6, e7⟩
      clear p0 p1 e1 e3 e5 e6 e7 wb
      generalize wr.heap.size + 1 = Y at *
      generalize wr.heap.size = X at *
      go_loopw [62] (fun iv wq => ∃ q : Nat, q ≤ 2 ∧ iv = .int .i64 q ∧ Hid (CntAt wq M (seen d j ++ (if q = 0 then [] else if q = 1 then nj.kids else nj.kids ++ nj.shadow))) ∧ Hid (W1.grownBy wq (some M))) (fun i _ => 2 - (intOf i).toNat)
      case atStart => exact ⟨0, by omega, rfl, by show CntAt _ _ _; simpa using C1.out, grown_refl _ _⟩
      case round =>
        obtain ⟨q, hq, rfl, CQ, GQ⟩ := hrel
        have hq3 : q = 0 ∨ q = 1 ∨ q = 2 := by omega
        rcases hq3 with hqq | hqq | hqq
        · have pq := World.grownBy.cell GQ.out P0.out (by intro e; injection e with e; exact hYM e.symm)
          have hqi : (q : Int) = 0 := by omega
          have CQ' : Hid (CntAt wr M (seen d j)) := by show CntAt _ _ _; have := CQ.out; rw [hqq] at this; simpa using this
          rw [hqi]
          have HN : Hid (((seen d j) ++ nj.kids).Nodup) := (HND.out.sublist (List.Sublist.append (List.Sublist.refl _) (List.sublist_append_left _ _)))
          have HLN : Hid (((seen d j) ++ nj.kids).length ≤ 60) := by
            show _ ≤ _
            have := HSL.out
            simp at this ⊢
            omega
          clear CQ hqi hqq hq
          go_wp2_with fail
          go_loopw [72] (fun iv we => ∃ t : Nat, t ≤ nj.kids.length ∧ iv = .int .i64 t ∧ Hid (CntAt we M ((seen d j) ++ nj.kids.take t)) ∧ Hid (W1.grownBy we (some M))) (fun i _ => nj.kids.length - (intOf i).toNat)
          case atStart => exact ⟨0, Nat.zero_le _, rfl, by show CntAt _ _ _; simpa using CQ'.out, GQ⟩
          case round =>
            obtain ⟨t, ht, rfl, CE, GE⟩ := hrel
            by_cases htl : t < nj.kids.length
            · have DE : Hid (DocAt wr b o c rs d) := doc_grownR D0.out (G1.out.trans GE.out) OF.out
              obtain ⟨_, _, he, _, _, _, hat⟩ := (NW.out _ DE.out).kids.at
              cases he
              obtain ⟨b1, o1, rfl, k1⟩ := hat t htl
              clear hat
              have hno := nodup_at HN.out htl
              obtain ⟨hx1, hx2, hx3, hx4⟩ := HX0.out _ (List.getElem_mem htl)
              have TK : Hid (nj.kids.take (t + 1) = nj.kids.take t ++ [nj.kids[t]]) := List.take_succ_eq_append_getElem htl
              have htk : ((seen d j) ++ nj.kids.take t).length ≤ 1000 := by
                have := HLN.out
                simp at this ⊢
                omega
              generalize nj.kids[t] = x at *
              have hl0 := CE.out.look x (by omega)
              rw [cnt_zero hno] at hl0
              have hRO : Hid (∀ W, DocAt W b o c rs d → W.cell? ⟨b, o + x * 9 + 4, none⟩ = some (.int .i64 (j : Int)) ∧ W.cell? ⟨b, o + x * 9 + 8, none⟩ = some (.bool false)) := fun W h => by
                have := HRow.out W x h hx1
                rw [hx3, hx4] at this
                exact this.2
              clear hno hx3 hx4
              go_wp2_with (first
                | (at_mapUpdate; refine cnt_put rfl _ _ _ rfl M ((seen d j) ++ nj.kids.take t) x (by omega) htk rfl CE.out rfl rfl ?_; intro w5 H5 g5; have D5 : Hid (DocAt w5 b o c rs d) := doc_grownR DE.out g5 OF.out; obtain ⟨r4, r8⟩ := hRO.out w5 D5.out)
                | (go_at_call 27; refine (ris_any D5.out _ _).mono ?_; rintro e w' ⟨rfl, hww⟩; subst hww; rw [hx2]))
              go_roundw
              case rel => exact ⟨t + 1, by omega, by go_num, by rw [TK.out, ← List.append_assoc]; exact H5, GE.out.trans g5⟩
              case measure => simp [intOf]; omega
            · obtain rfl : t = nj.kids.length := by omega
              have CF : Hid (CntAt wr M ((seen d j) ++ nj.kids)) := by
                have := CE.out
                rw [List.take_length] at this
                exact this
              go_wp2_with fail
              go_roundw
              case rel => exact ⟨1, by omega, by go_num, by show CntAt _ _ _; simpa using CF.out, GE⟩
              case measure => simp [intOf]
        · have pq := World.grownBy.cell GQ.out P1.out (by intro e; injection e with e; exact hYM e.symm)
          have hqi : (q : Int) = 1 := by omega
          have CQ' : Hid (CntAt wr M (seen d j ++ nj.kids)) := by show CntAt _ _ _; have := CQ.out; rw [hqq] at this; simpa using this
          rw [hqi]
          have HN : Hid (((seen d j ++ nj.kids) ++ nj.shadow).Nodup) := (by have := HND.out; rw [← List.append_assoc] at this; exact this)
          have HLN : Hid (((seen d j ++ nj.kids) ++ nj.shadow).length ≤ 60) := by
            show _ ≤ _
            have := HSL.out
            simp at this ⊢
            omega
          clear CQ hqi hqq hq
          go_wp2_with fail
          go_loopw [72] (fun iv we => ∃ t : Nat, t ≤ nj.shadow.length ∧ iv = .int .i64 t ∧ Hid (CntAt we M ((seen d j ++ nj.kids) ++ nj.shadow.take t)) ∧ Hid (W1.grownBy we (some M))) (fun i _ => nj.shadow.length - (intOf i).toNat)
          case atStart => exact ⟨0, Nat.zero_le _, rfl, by show CntAt _ _ _; simpa using CQ'.out, GQ⟩
          case round =>
            obtain ⟨t, ht, rfl, CE, GE⟩ := hrel
            by_cases htl : t < nj.shadow.length
            · have DE : Hid (DocAt wr b o c rs d) := doc_grownR D0.out (G1.out.trans GE.out) OF.out
              obtain ⟨_, _, he, _, _, _, hat⟩ := (NW.out _ DE.out).shadow.at
              cases he
              obtain ⟨b1, o1, rfl, k1⟩ := hat t htl
              clear hat
              have hno := nodup_at HN.out htl
              obtain ⟨hx1, hx2, hx3, hx4⟩ := HX1.out _ (List.getElem_mem htl)
              have TK : Hid (nj.shadow.take (t + 1) = nj.shadow.take t ++ [nj.shadow[t]]) := List.take_succ_eq_append_getElem htl
              have htk : ((seen d j ++ nj.kids) ++ nj.shadow.take t).length ≤ 1000 := by
                have := HLN.out
                simp at this ⊢
                omega
              generalize nj.shadow[t] = x at *
              have hl0 := CE.out.look x (by omega)
              rw [cnt_zero hno] at hl0
              have hRO : Hid (∀ W, DocAt W b o c rs d → W.cell? ⟨b, o + x * 9 + 4, none⟩ = some (.int .i64 (j : Int)) ∧ W.cell? ⟨b, o + x * 9 + 8, none⟩ = some (.bool true)) := fun W h => by
                have := HRow.out W x h hx1
                rw [hx3, hx4] at this
                exact this.2
              clear hno hx3 hx4
              go_wp2_with (first
                | (at_mapUpdate; refine cnt_put rfl _ _ _ rfl M ((seen d j ++ nj.kids) ++ nj.shadow.take t) x (by omega) htk rfl CE.out rfl rfl ?_; intro w5 H5 g5; have D5 : Hid (DocAt w5 b o c rs d) := doc_grownR DE.out g5 OF.out; obtain ⟨r4, r8⟩ := hRO.out w5 D5.out)
                | (go_at_call 27; refine (ris_any D5.out _ _).mono ?_; rintro e w' ⟨rfl, hww⟩; subst hww; rw [hx2]))
              go_roundw
              case rel => exact ⟨t + 1, by omega, by go_num, by rw [TK.out, ← List.append_assoc]; exact H5, GE.out.trans g5⟩
              case measure => simp [intOf]; omega
            · obtain rfl : t = nj.shadow.length := by omega
              have CF : Hid (CntAt wr M ((seen d j ++ nj.kids) ++ nj.shadow)) := by
                have := CE.out
                rw [List.take_length] at this
                exact this
              go_wp2_with fail
              go_roundw
              case rel => exact ⟨2, by omega, by go_num, by show CntAt _ _ _; simpa using CF.out, GE⟩
              case measure => simp [intOf]
        · have hqi : (q : Int) = 2 := by omega
          have CF : Hid (CntAt wr M (seen d (j + 1))) := by
            show CntAt _ _ _
            have := CQ.out
            rw [hqq] at this
            rw [HSS.out]
            simpa using this
          obtain ⟨e1', e3', e5', e6', e7'⟩ := BX.out
          have e1 := World.grownBy.cell GQ.out e1' (by intro e; injection e with e; exact hXM e.symm)
          have e3 := World.grownBy.cell GQ.out e3' (by intro e; injection e with e; exact hXM e.symm)
          have e5 := World.grownBy.cell GQ.out e5' (by intro e; injection e with e; exact hXM e.symm)
          have e6 := World.grownBy.cell GQ.out e6' (by intro e; injection e with e; exact hXM e.symm)
          have e7 := World.grownBy.cell GQ.out e7' (by intro e; injection e with e; exact hXM e.symm)
          have DE : Hid (DocAt wr b o c rs d) := doc_grownR D0.out (G1.out.trans GQ.out) OF.out
          obtain ⟨_, _, he, _, _, _, hat⟩ := (NW.out _ DE.out).attrs.at
          cases he
          have HAT : Hid (∀ k (hk : k < nj.attrs.length), ∃ b o, ap = some ⟨b, o, none⟩ ∧ wr.cell? ⟨b, o + k * 2, none⟩ = some (.string nj.attrs[k].1) ∧ wr.cell? ⟨b, o + k * 2 + 1, none⟩ = some (.string nj.attrs[k].2)) := hat
          rw [hqi]
          clear CQ hqi hqq hq hat e1' e3' e5' e6' e7'
          have hll : ((nj.kids.length : Int) + (nj.shadow.length : Int) + (nj.attrs.length : Int)) ≤ 32 := by omega
          cases htg : nj.tag.toList.isEmpty with
          | true =>
            obtain ⟨t1, t2, t3, t4⟩ := HFT.out.text (by unfold Tn.has; rw [htg]; rfl)
            rw [t1] at e3
            rw [t2] at e5
            rw [t3] at e7
            rw [t4] at e6
            simp only [List.length_nil] at e3 e5 e7
            go_wp2_with fail
            refine wp_loop_rounds 1 ?_
            rw [rounds_succ]
            go_wp2_with fail
            go_roundw
            case rel => exact ⟨j + 1, by omega, by go_num, CF, G1.out.trans GQ.out⟩
            case measure => simp [intOf]; omega
          | false =>
            cases hhs : nj.hasS with
            | true =>
              rw [hhs] at e6
              go_wp2_with fail
              go_loopw [136] (fun iv wa => ∃ k : Nat, k ≤ nj.attrs.length ∧ iv = .int .i64 k ∧ Below wr.heap.size wr wa) (fun i _ => nj.attrs.length - (intOf i).toNat)
              case atStart => exact ⟨0, Nat.zero_le _, rfl, Below.refl _ _⟩
              case round =>
                obtain ⟨k, hk, rfl, hnx⟩ := hrel
                have f3 := keeps_below hnx (Nat.le_refl _) _ _ e3
                by_cases hkl : k < nj.attrs.length
                · by_cases hk0 : k = 0
                  · have hki : (k : Int) = 0 := by omega
                    have hkl' : (0 : Int) < (nj.attrs.length : Int) := by omega
                    rw [hki]
                    go_wp2_with fail
                    go_quiet (fail)
                    go_wp2_with fail
                    go_roundw
                    case rel => exact ⟨1, by omega, by go_num, hnx.trans ⟨rfl, rfl, rfl, Nat.le_refl _, fun _ _ => rfl⟩⟩
                    case measure => simp [intOf]; omega
                  · obtain ⟨ab, ao, rfl, n0, _⟩ := HAT.out (k - 1) (by omega)
                    obtain ⟨_, _, e, n1, _⟩ := HAT.out k hkl
                    cases e
                    have hbl : Op.bytesLess (nj.attrs[k - 1]'(by omega)).1.toList (nj.attrs[k]).1.toList = true := by
                      rw [less_eq]
                      exact List.pairwise_iff_getElem.mp HFT.out.rise (k - 1) k (by omega) hkl (by omega)
                    generalize (nj.attrs[k - 1]'(by omega)).1 = a0 at *
                    generalize (nj.attrs[k]).1 = a1 at *
                    have hk1 : (0 : Int) < (k : Int) := by omega
                    have hk1n : 0 < k := by omega
                    have hw1 : IntKind.i64.wrap ((k : Int) - 1) = (k : Int) - 1 := by rw [IntKind.wrap_i64]; omega
                    have htn : ((k : Int) - 1).toNat = k - 1 := by omega
                    have hz1 : (0 : Int) ≤ (k : Int) - 1 := by omega
                    have hz2 : (k : Int) - 1 < (nj.attrs.length : Int) := by omega
                    have y0 := keeps_below hnx (Nat.le_refl _) _ _ n0
                    have y1 := keeps_below hnx (Nat.le_refl _) _ _ n1
                    clear n0 n1
                    go_wp2_with fail
                    go_quiet (fail)
                    go_wp2_with fail
                    go_roundw
                    case rel => exact ⟨k + 1, by omega, by go_num, hnx.trans ⟨rfl, rfl, rfl, Nat.le_refl _, fun _ _ => rfl⟩⟩
                    case measure => simp [intOf]; omega
                · obtain rfl : k = nj.attrs.length := by omega
                  go_wp2_with fail
                  go_roundw
                  case rel => exact ⟨j + 1, by omega, by go_num, CF.out.below hnx, grow_below (G1.out.trans GQ.out) hnx⟩
                  case measure => simp [intOf]; omega
            | false =>
              rw [hhs] at e6
              have t3 := HFT.out.noS hhs
              rw [t3] at e7
              simp only [List.length_nil] at e7
              go_wp2_with fail
              go_loopw [136] (fun iv wa => ∃ k : Nat, k ≤ nj.attrs.length ∧ iv = .int .i64 k ∧ Below wr.heap.size wr wa) (fun i _ => nj.attrs.length - (intOf i).toNat)
              case atStart => exact ⟨0, Nat.zero_le _, rfl, Below.refl _ _⟩
              case round =>
                obtain ⟨k, hk, rfl, hnx⟩ := hrel
                have f3 := keeps_below hnx (Nat.le_refl _) _ _ e3
                by_cases hkl : k < nj.attrs.length
                · by_cases hk0 : k = 0
                  · have hki : (k : Int) = 0 := by omega
                    have hkl' : (0 : Int) < (nj.attrs.length : Int) := by omega
                    rw [hki]
                    go_wp2_with fail
                    go_quiet (fail)
                    go_wp2_with fail
                    go_roundw
                    case rel => exact ⟨1, by omega, by go_num, hnx.trans ⟨rfl, rfl, rfl, Nat.le_refl _, fun _ _ => rfl⟩⟩
                    case measure => simp [intOf]; omega
                  · obtain ⟨ab, ao, rfl, n0, _⟩ := HAT.out (k - 1) (by omega)
                    obtain ⟨_, _, e, n1, _⟩ := HAT.out k hkl
                    cases e
                    have hbl : Op.bytesLess (nj.attrs[k - 1]'(by omega)).1.toList (nj.attrs[k]).1.toList = true := by
                      rw [less_eq]
                      exact List.pairwise_iff_getElem.mp HFT.out.rise (k - 1) k (by omega) hkl (by omega)
                    generalize (nj.attrs[k - 1]'(by omega)).1 = a0 at *
                    generalize (nj.attrs[k]).1 = a1 at *
                    have hk1 : (0 : Int) < (k : Int) := by omega
                    have hk1n : 0 < k := by omega
                    have hw1 : IntKind.i64.wrap ((k : Int) - 1) = (k : Int) - 1 := by rw [IntKind.wrap_i64]; omega
                    have htn : ((k : Int) - 1).toNat = k - 1 := by omega
                    have hz1 : (0 : Int) ≤ (k : Int) - 1 := by omega
                    have hz2 : (k : Int) - 1 < (nj.attrs.length : Int) := by omega
                    have y0 := keeps_below hnx (Nat.le_refl _) _ _ n0
                    have y1 := keeps_below hnx (Nat.le_refl _) _ _ n1
                    clear n0 n1
                    go_wp2_with fail
                    go_quiet (fail)
                    go_wp2_with fail
                    go_roundw
                    case rel => exact ⟨k + 1, by omega, by go_num, hnx.trans ⟨rfl, rfl, rfl, Nat.le_refl _, fun _ _ => rfl⟩⟩
                    case measure => simp [intOf]; omega
                · obtain rfl : k = nj.attrs.length := by omega
                  go_wp2_with fail
                  go_roundw
                  case rel => exact ⟨j + 1, by omega, by go_num, CF.out.below hnx, grow_below (G1.out.trans GQ.out) hnx⟩
                  case measure => simp [intOf]; omega
    · obtain rfl : j = rs.length := by omega
      have CF : Hid (CntAt wr M (seen d d.length)) := by
        show CntAt _ _ _
        have := CR.out
        rw [HL.out] at this
        exact this
      have SMm : Hid (∀ x, x ∈ seen d d.length ↔ 0 < x ∧ Tn.lvD d x = true) := fun x => seen_mem HTR.out x
      have hroot : Tn.lvD d 0 = true := HTR.out.1.root
      have HAll : Hid (∀ W, DocAt W b o c rs d → Calls Try.prog 36 #[.slice (some ⟨b, o, none⟩) rs.length c, .int .i64 0] W fun e w' => ∃ v, e = .returned v ∧ OwnI w' W.heap.size v (Tn.all Tn.fuel d 0) ∧ Below W.heap.size W w') := fun W h => rall_own (fun f n => few_of HR.out.fine.good f n) Tn.fuel 0 W h ((tame_good HR.out.fine.good).ends 0 hroot)
      have HLive : Hid (∀ W, DocAt W b o c rs d → Calls Try.prog 60 #[.slice (some ⟨b, o, none⟩) rs.length c] W fun e w' => e = .returned (.int .i64 (liveC d d.length : Int)) ∧ Below W.heap.size W w') := fun W h => rlive_any h (by omega)
      have HEq : Hid ((Tn.all Tn.fuel d 0).length = liveC d d.length) := all_live HR.out.fine.good
      have BR : Hid (Below w.heap.size w wr) := by
        have hb := B0.out
        exact hb.grown GR.out (by rw [HM.out]; omega) (fun k hk => by cases hk; rw [HM.out]; exact Nat.le_refl _)
      have HNE : Hid (∀ i, i < rs.length → (Tn.nd d i).live = Tn.lvD d i) := fun i _ => rfl
      clear CR
      go_wp2_with fail
      go_loopw [161] (fun iv wx => ∃ i : Nat, i ≤ rs.length ∧ iv = .int .i64 i ∧ Below wr.heap.size wr wx) (fun i _ => rs.length - (intOf i).toNat)
      case atStart => exact ⟨0, Nat.zero_le _, rfl, Below.refl _ _⟩
      case round =>
        obtain ⟨i, hi, rfl, hnx⟩ := hrel
        have hbz := hnx.size
        have DX : Hid (DocAt wr b o c rs d) := DR.out.keeps (keeps_below hnx (Nat.le_refl _))
        by_cases hil : i < rs.length
        · have hid : i < d.length := by rw [← HL.out]; exact hil
          have RW := DX.out.row
          have NJ := DX.out.nds i hil hid
          have x0 := RW.c0 i hil
          have x1 := RW.c1 i hil
          have x2 := RW.c2 i hil
          have x3 := RW.c3 i hil
          have x4 := RW.c4 i hil
          have x5 := RW.c5 i hil
          have x6 := RW.c6 i hil
          have x7 := RW.c7 i hil
          have x8 := RW.c8 i hil
          have hlive : rs[i].live = Tn.lvD d i := by rw [NJ.live, ← nd_at hid]; rfl
          have CX := CF.out.below hnx
          clear RW NJ
          have hmem := SMm.out i
          generalize rs[i] = rj at *
          obtain ⟨lv, tg, tx, ⟨ap, an, ac⟩, up, ⟨kp, kn, kc⟩, hs, ⟨sp, sn, sc⟩, is⟩ := rj
          simp only at *
          have CY := CX.below ((Below.refl _ _).alloc (Nat.le_refl _) (.cells #[.bool lv, .string tg, .string tx, .slice ap an ac, .int .i64 up, .slice kp kn kc, .bool hs, .slice sp sn sc, .bool is] 56))
          have hl0 := CY.look i (by omega)
          clear CX CY
          by_cases hi0 : i = 0
          · have hii : (i : Int) = 0 := by omega
            subst hi0
            rw [hroot] at hlive
            subst hlive
            have hz : (Instr.lookup 71 (.map (some M)) (.int .i64 0) false).run Try.prog (wr.alloc (.cells #[.bool true, .string tg, .string tx, .slice ap an ac, .int .i64 up, .slice kp kn kc, .bool hs, .slice sp sn sc, .bool is] 56)) = .ok (.int .i64 0) (wr.alloc (.cells #[.bool true, .string tg, .string tx, .slice ap an ac, .int .i64 up, .slice kp kn kc, .bool hs, .slice sp sn sc, .bool is] 56)) := by
              rw [cnt_zero (fun h => by have := (hmem.mp h).1; omega)] at hl0
              exact hl0
            simp only [Nat.zero_mul, Nat.add_zero] at x0 x1 x2 x3 x4 x5 x6 x7 x8
            clear hl0 hii
            go_wp2_with fail
            go_roundw
            case rel => exact ⟨1, by omega, by go_num, hnx.alloc hbz _⟩
            case measure => simp [intOf]; omega
          · have hip : 0 < i := by omega
            have hiz : ((i : Int) == 0) = false := by simp; omega
            have hipz : (0 : Int) < (i : Int) := by omega
            cases hlv : Tn.lvD d i with
            | true =>
              rw [hlv] at hlive
              subst hlive
              rw [cnt_one (hmem.mpr ⟨hip, hlv⟩)] at hl0
              clear hmem hlv
              go_wp2_with fail
              go_roundw
              case rel => exact ⟨i + 1, by omega, by go_num, hnx.alloc hbz _⟩
              case measure => simp [intOf]; omega
            | false =>
              rw [hlv] at hlive
              subst hlive
              rw [cnt_zero (fun h => by have := (hmem.mp h).2; rw [hlv] at this; cases this)] at hl0
              clear hmem hlv
              go_wp2_with fail
              go_roundw
              case rel => exact ⟨i + 1, by omega, by go_num, hnx.alloc hbz _⟩
              case measure => simp [intOf]; omega
        · obtain rfl : i = rs.length := by omega
          have BX : Hid (Below w.heap.size w wr) := BR.out.trans (hnx.mono BR.out.size)
          generalize Tn.all Tn.fuel d 0 = la at *
          go_wp2_with fail
          refine (HAll.out _ DX.out).mono ?_
          rintro e w7 ⟨v7, rfl, o7, b7⟩
          obtain ⟨p7, c7, rfl⟩ := o7.shape
          have D7 : Hid (DocAt w7 b o c rs d) := DX.out.keeps (keeps_below b7 (Nat.le_refl _))
          have B7 : Hid (Below w.heap.size w w7) := BX.out.trans (b7.mono BX.out.size)
          rw [HEq.out]
          clear b7 o7
          go_wp2_with fail
          refine (HLive.out _ D7.out).mono ?_
          rintro e w8 ⟨rfl, b8⟩
          have B8 : Hid (Below w.heap.size w w8) := B7.out.trans (b8.mono B7.out.size)
          clear b8
          have hqq : ((liveC d d.length : Int) == (liveC d d.length : Int)) = true := by simp
          go_wp2_with fail
          go_ret
          exact ⟨by simp, B8.out⟩
end Go.Proofs.Ytookcjdibpccpaa

/-
  THE WALK of tnlaw2.DomRight.
-/
namespace Go.Proofs.Ytookcjdibpccpaa
open Go.RowKit

theorem chgN_pos {d : Tn.Dc} (x : Tn.Chg) (he : Tn.applyE d x = 0) : 0 ≤ Tn.chgN d x := by
  unfold Tn.applyE at he
  split at he
  · cases he
  · split at he
    · cases he
    · rename_i _ hi
      have hi' : Tn.isN d x.node false = true := by simpa using hi
      obtain ⟨k, hk, _⟩ := isN_nat hi'
      unfold Tn.chgN
      split <;> omega

set_option maxHeartbeats 1600000 in
set_option maxRecDepth 100000 in
theorem right_walk {w : World} {vl : Value} {l : List Tn.Chg} (hl : ChgsAt w vl l) (hsz : ∀ x ∈ l, x.value.size ≤ 4194304 ∧ x.name.size ≤ 4194304) :
    Calls Try.prog 7 #[vl] w fun e w' => e = .returned (.bool true) ∧ Below w.heap.size w w' := by
  obtain ⟨p, cc, rfl, h1, h2, hat⟩ := hl.at
  have T : Hid (∀ j (hj : j < l.length), ∃ b o, p = some ⟨b, o, none⟩ ∧ w.cell? ⟨b, o + j * 6, none⟩ = some (.int .i64 l[j].kind) ∧ w.cell? ⟨b, o + j * 6 + 1, none⟩ = some (.int .i64 l[j].node) ∧ w.cell? ⟨b, o + j * 6 + 2, none⟩ = some (.int .i64 l[j].to) ∧
      w.cell? ⟨b, o + j * 6 + 3, none⟩ = some (.int .i64 l[j].before) ∧ w.cell? ⟨b, o + j * 6 + 4, none⟩ = some (.string l[j].name) ∧ w.cell? ⟨b, o + j * 6 + 5, none⟩ = some (.string l[j].value)) := hat
  have HZ : Hid (∀ x ∈ l, x.value.size ≤ 4194304 ∧ x.name.size ≤ 4194304) := hsz
  clear hl hat hsz
  go_enter Try.func7, Try.ntmps7
  go_wp2_with fail
  refine (l2alive_any w).mono ?_
  rintro e w1 ⟨rfl, b1⟩
  go_wp2_with fail
  refine dnew_any.mono ?_
  rintro e w2 ⟨rfl, hn2, b2⟩
  have B2 : Hid (Below w.heap.size w w2) := b1.trans (b2.mono b1.size)
  have N2 : Hid (DocAt w2 w1.heap.size 0 1 [rootR] [Tn.root]) := hn2
  clear b1 b2 hn2
  go_wp2_with fail
  have D0 : Hid (DocAt w2 w1.heap.size 0 1 [rootR] (Tn.build (l.take 0))) := N2.out
  clear N2
  go_loopw [3, 14] (fun dv iv wr => ∃ (j g c : Nat) (rs : List Raw), j ≤ l.length ∧ iv = .int .i64 j ∧ dv = .slice (some ⟨g, 0, none⟩) rs.length c ∧ Hid (DocAt wr g 0 c rs (Tn.build (l.take j))) ∧ Hid (Below w.heap.size w wr))
    (fun _ i _ => l.length - (intOf i).toNat)
  case atStart => exact ⟨0, w1.heap.size, 1, [rootR], Nat.zero_le _, rfl, rfl, D0, B2⟩
  case round =>
    obtain ⟨j, g, c, rs, hj, rfl, rfl, hd, hnx⟩ := hrel
    have hbz := hnx.out.size
    by_cases hlt : j < l.length
    · obtain ⟨b1, o1, rfl, k0, k1, k2, k3, k4, k5⟩ := T.out j hlt
      have KR := keeps_below hnx.out (Nat.le_refl _)
      have y0 := KR _ _ k0
      have y1 := KR _ _ k1
      have y2 := KR _ _ k2
      have y3 := KR _ _ k3
      have y4 := KR _ _ k4
      have y5 := KR _ _ k5
      clear k0 k1 k2 k3 k4 k5 KR
      have F : Hid (Tn.build (l.take (j + 1)) = Tn.step (Tn.build (l.take j)) l[j]) := build_succ l j hlt
      have HRD : Hid (RightD (Tn.build (l.take (j + 1)))) := right_build _
      have HFd : Hid (Fine2 (Tn.build (l.take j))) := fine_build _
      have hzz := HZ.out _ (List.getElem_mem hlt)
      generalize l[j] = x at *
      generalize Tn.build (l.take j) = d at *
      generalize hbn : Tn.build (l.take (j + 1)) = d1 at *
      have HBN : Hid (Tn.build (l.take (j + 1)) = d1) := hbn
      clear hbn
      have D : Hid (DocAt (wr.alloc (.cells #[.int .i64 x.kind, .int .i64 x.node, .int .i64 x.to, .int .i64 x.before, .string x.name, .string x.value] 32)) g 0 c rs d) := hd.out.keeps (keeps_alloc _ _)
      have BA : Hid (Below w.heap.size w (wr.alloc (.cells #[.int .i64 x.kind, .int .i64 x.node, .int .i64 x.to, .int .i64 x.before, .string x.name, .string x.value] 32))) := hnx.out.alloc hbz _
      have HAp : Hid (∀ W, DocAt W g 0 c rs d → Calls Try.prog 41 #[.slice (some ⟨g, 0, none⟩) rs.length c, .agg #[.int .i64 x.kind, .int .i64 x.node, .int .i64 x.to, .int .i64 x.before, .string x.name, .string x.value]] W fun e w' => Below W.heap.size W w' ∧ ((∃ cd : Int, (cd == 0) = false ∧ Hid (Tn.step d x = d) ∧ e = .returned (.tuple #[.slice none 0 0, .int .i64 0, .int .i64 cd])) ∨ ∃ (m : Int) (g' c' : Nat) (rs' : List Raw), 0 ≤ m ∧ e = .returned (.tuple #[.slice (some ⟨g', 0, none⟩) rs'.length c', .int .i64 m, .int .i64 0]) ∧ Hid (DocAt w' g' 0 c' rs' (Tn.step d x)))) := by
        intro W hW
        refine (dapply_any hW HFd.out x.kind x.node x.to x.before x.name x.value hzz.2 hzz.1).mono ?_
        rintro e w' ⟨e1, ⟨e2, e3⟩ | ⟨e2, g', c', rs', e3, e4, _⟩⟩
        · exact ⟨e1, Or.inl ⟨_, by simpa using e2, by show _ = _; unfold Tn.step; rw [if_neg e2], e3⟩⟩
        · refine ⟨e1, Or.inr ⟨_, g', c', rs', chgN_pos _ e2, e3, ?_⟩⟩
          show DocAt _ _ _ _ _ _
          unfold Tn.step
          rw [if_pos e2]
          exact e4
      clear hd hzz HFd
      go_wp2_with fail
      refine (HAp.out _ D.out).mono ?_
      rintro e w9 ⟨hb9, ⟨cd, hcd, hst, rfl⟩ | ⟨m, g9, c9, rs9, hm, rfl, hd9⟩⟩
      · have D9 : Hid (DocAt w9 g 0 c rs d1) := by
          show DocAt _ _ _ _ _ _
          rw [F.out, hst.out]
          exact D.out.keeps (keeps_below hb9 (Nat.le_refl _))
        have B9 : Hid (Below w.heap.size w w9) := BA.out.trans (hb9.mono BA.out.size)
        clear hb9
        go_wp2_with fail
        go_roundw
        case rel => exact ⟨j + 1, g, c, rs, by omega, by go_num, rfl, by rw [HBN.out]; exact D9, B9⟩
        case measure => simp [intOf]; omega
      · have D9 : Hid (DocAt w9 g9 0 c9 rs9 d1) := by
          show DocAt _ _ _ _ _ _
          rw [F.out]
          exact hd9.out
        have B9 : Hid (Below w.heap.size w w9) := BA.out.trans (hb9.mono BA.out.size)
        have hmn : ¬ (m < 0) := by omega
        clear hb9 hd9
        go_wp2_with fail
        refine (rright_any D9.out HRD.out).mono ?_
        rintro e w10 ⟨rfl, hb10⟩
        have D10 : Hid (DocAt w10 g9 0 c9 rs9 d1) := D9.out.keeps (keeps_below hb10 (Nat.le_refl _))
        have B10 : Hid (Below w.heap.size w w10) := B9.out.trans (hb10.mono B9.out.size)
        clear hb10
        go_wp2_with fail
        go_roundw
        case rel => exact ⟨j + 1, g9, c9, rs9, by omega, by go_num, rfl, by rw [HBN.out]; exact D10, B10⟩
        case measure => simp [intOf]; omega
    · obtain rfl : j = l.length := by omega
      go_wp2_with fail
      go_ret
      exact ⟨rfl, hnx.out⟩
end Go.Proofs.Ytookcjdibpccpaa
