/-
  OWN WORK: Rsa, Dmd, Dya, Dmc, Dbk, Dbw.
-/
import Derived.Test.YtookcjdibpccpaaP2
import Derived.Test.YtookcjdibpccpaaP11
import Derived.Deep.QuietTactic
import Derived.BigQuiet
import Derived.Deep.RegionHeld3
import Derived.Test.YtookcjdibpccpaaP4
/-
  THE WALKS of the reference's SameInts and Same, at what reads the same.
-/
namespace Go.Proofs.Ytookcjdibpccpaa
open Go.RowKit

set_option maxHeartbeats 800000 in
set_option maxRecDepth 100000 in
theorem rsameints_true {w : World} {v1 v2 : Value} {l : List Nat} (h1 : IntsAt w v1 l) (h2 : IntsAt w v2 l) :
    Calls Try.prog 34 #[v1, v2] w fun e w' => e = .returned (.bool true) ∧ Below w.heap.size w w' := by
  obtain ⟨p1, c1, rfl, a1, a2, _, at1⟩ := h1.at
  obtain ⟨p2, c2, rfl, b1, b2, _, at2⟩ := h2.at
  have T1 : Hid (∀ j (hj : j < l.length), ∃ b o, p1 = some ⟨b, o, none⟩ ∧ w.cell? ⟨b, o + j, none⟩ = some (.int .i64 (l[j] : Int))) := at1
  have T2 : Hid (∀ j (hj : j < l.length), ∃ b o, p2 = some ⟨b, o, none⟩ ∧ w.cell? ⟨b, o + j, none⟩ = some (.int .i64 (l[j] : Int))) := at2
  clear at1 at2 h1 h2
  go_enter Try.func34, Try.ntmps34
  go_wp2_with fail
  go_loopw [13] (fun i wr => ∃ j : Nat, j ≤ l.length ∧ i = .int .i64 j ∧ Below w.heap.size w wr) (fun i _ => l.length - (intOf i).toNat)
  case atStart => exact ⟨0, Nat.zero_le _, rfl, Below.refl _ _⟩
  case round =>
    obtain ⟨j, hj, rfl, hnx⟩ := hrel
    by_cases hlt : j < l.length
    · obtain ⟨e1, o1, rfl, k1⟩ := T1.out j hlt
      obtain ⟨e2, o2, rfl, k2⟩ := T2.out j hlt
      have y1 := keeps_below hnx (Nat.le_refl _) _ _ k1
      have y2 := keeps_below hnx (Nat.le_refl _) _ _ k2
      clear k1 k2
      generalize l[j] = x at *
      have hq : (((x : Nat) : Int) == (x : Int)) = true := by simp
      have hj2 : (j : Int) < (l.length : Int) := by omega
      go_wp2_with fail
      go_quiet (fail)
      go_wp2_with fail
      go_roundw
      case rel => exact ⟨j + 1, by omega, by go_num, hnx.trans ⟨rfl, rfl, rfl, Nat.le_refl _, fun _ _ => rfl⟩⟩
      case measure => simp [intOf]; omega
    · obtain rfl : j = l.length := by omega
      go_wp2_with fail
      go_ret
      exact ⟨rfl, hnx⟩

set_option maxHeartbeats 1600000 in
set_option maxRecDepth 100000 in
theorem rsame_true {w : World} {b1 o1 c1 b2 o2 c2 : Nat} {rs1 rs2 : List Raw} {d : Tn.Dc} (h1 : DocAt w b1 o1 c1 rs1 d) (h2 : DocAt w b2 o2 c2 rs2 d) (hs : d.length ≤ 1000) :
    Calls Try.prog 23 #[.slice (some ⟨b1, o1, none⟩) rs1.length c1, .slice (some ⟨b2, o2, none⟩) rs2.length c2] w fun e w' => e = .returned (.bool true) ∧ Below w.heap.size w w' := by
  have H1 : Hid (DocAt w b1 o1 c1 rs1 d) := h1
  have H2 : Hid (DocAt w b2 o2 c2 rs2 d) := h2
  rw [h1.len, h2.len]
  clear h1 h2
  go_enter Try.func23, Try.ntmps23
  go_wp2_with fail
  go_loopw [16] (fun i wr => ∃ j : Nat, j ≤ d.length ∧ i = .int .i64 j ∧ Below w.heap.size w wr) (fun i _ => d.length - (intOf i).toNat)
  case atStart => exact ⟨0, Nat.zero_le _, rfl, Below.refl _ _⟩
  case round =>
    obtain ⟨j, hj, rfl, hnx⟩ := hrel
    have hbz := hnx.size
    by_cases hlt : j < d.length
    · have hj1 : j < rs1.length := by rw [H1.out.len]; exact hlt
      have hj2 : j < rs2.length := by rw [H2.out.len]; exact hlt
      have R1 := H1.out.row.keeps (keeps_below hnx (Nat.le_refl _))
      have R2 := H2.out.row.keeps (keeps_below hnx (Nat.le_refl _))
      have N1 := (H1.out.nds j hj1 hlt).keeps (keeps_below hnx (Nat.le_refl _))
      have N2 := (H2.out.nds j hj2 hlt).keeps (keeps_below hnx (Nat.le_refl _))
      have x0 := R1.c0 j hj1
      have x1 := R1.c1 j hj1
      have x2 := R1.c2 j hj1
      have x3 := R1.c3 j hj1
      have x4 := R1.c4 j hj1
      have x5 := R1.c5 j hj1
      have x6 := R1.c6 j hj1
      have x7 := R1.c7 j hj1
      have x8 := R1.c8 j hj1
      have y0 := R2.c0 j hj2
      have y1 := R2.c1 j hj2
      have y2 := R2.c2 j hj2
      have y3 := R2.c3 j hj2
      have y4 := R2.c4 j hj2
      have y5 := R2.c5 j hj2
      have y6 := R2.c6 j hj2
      have y7 := R2.c7 j hj2
      have y8 := R2.c8 j hj2
      clear R1 R2
      generalize rs1[j] = r1 at *
      generalize rs2[j] = r2 at *
      generalize d[j] = nn at *
      obtain ⟨lv1, tg1, tx1, ⟨ap1, an1, ac1⟩, up1, ⟨kp1, kn1, kc1⟩, hs1, ⟨sp1, sn1, sc1⟩, is1⟩ := r1
      obtain ⟨lv2, tg2, tx2, ⟨ap2, an2, ac2⟩, up2, ⟨kp2, kn2, kc2⟩, hs2, ⟨sp2, sn2, sc2⟩, is2⟩ := r2
      obtain ⟨m1, m2, m3, m4, m5, m6, A1, K1, S1⟩ := N1
      obtain ⟨n1, n2, n3, n4, n5, n6, A2, K2, S2⟩ := N2
      simp only at *
      subst m1 m2 m3 m4 m5 m6 n1 n2 n3 n4 n5 n6
      obtain rfl := al_of A1
      obtain rfl := al_of A2
      go_wp2_with fail
      have SS : ∀ w'', Keeps wr w'' → (fun w'' => w''.cell? ⟨b1, o1 + j * 9, none⟩ = some (.bool nn.live) ∧ w''.cell? ⟨b1, o1 + j * 9 + 1, none⟩ = some (.string nn.tag) ∧ w''.cell? ⟨b1, o1 + j * 9 + 2, none⟩ = some (.string nn.text) ∧ w''.cell? ⟨b1, o1 + j * 9 + 3, none⟩ = some (.slice ap1 nn.attrs.length ac1) ∧ w''.cell? ⟨b1, o1 + j * 9 + 4, none⟩ = some (.int .i64 nn.up) ∧ w''.cell? ⟨b1, o1 + j * 9 + 5, none⟩ = some (.slice kp1 kn1 kc1) ∧ w''.cell? ⟨b1, o1 + j * 9 + 6, none⟩ = some (.bool nn.hasS) ∧ w''.cell? ⟨b1, o1 + j * 9 + 7, none⟩ = some (.slice sp1 sn1 sc1) ∧ w''.cell? ⟨b1, o1 + j * 9 + 8, none⟩ = some (.bool nn.inS) ∧ w''.cell? ⟨b2, o2 + j * 9, none⟩ = some (.bool nn.live) ∧ w''.cell? ⟨b2, o2 + j * 9 + 1, none⟩ = some (.string nn.tag) ∧ w''.cell? ⟨b2, o2 + j * 9 + 2, none⟩ = some (.string nn.text) ∧ w''.cell? ⟨b2, o2 + j * 9 + 3, none⟩ = some (.slice ap2 nn.attrs.length ac2) ∧ w''.cell? ⟨b2, o2 + j * 9 + 4, none⟩ = some (.int .i64 nn.up) ∧ w''.cell? ⟨b2, o2 + j * 9 + 5, none⟩ = some (.slice kp2 kn2 kc2) ∧ w''.cell? ⟨b2, o2 + j * 9 + 6, none⟩ = some (.bool nn.hasS) ∧ w''.cell? ⟨b2, o2 + j * 9 + 7, none⟩ = some (.slice sp2 sn2 sc2) ∧ w''.cell? ⟨b2, o2 + j * 9 + 8, none⟩ = some (.bool nn.inS)) w'' := fun w'' hk => ⟨hk _ _ x0, hk _ _ x1, hk _ _ x2, hk _ _ x3, hk _ _ x4, hk _ _ x5, hk _ _ x6, hk _ _ x7, hk _ _ x8, hk _ _ y0, hk _ _ y1, hk _ _ y2, hk _ _ y3, hk _ _ y4, hk _ _ y5, hk _ _ y6, hk _ _ y7, hk _ _ y8⟩
      go_region_held3 (fun w'' => w''.cell? ⟨b1, o1 + j * 9, none⟩ = some (.bool nn.live) ∧ w''.cell? ⟨b1, o1 + j * 9 + 1, none⟩ = some (.string nn.tag) ∧ w''.cell? ⟨b1, o1 + j * 9 + 2, none⟩ = some (.string nn.text) ∧ w''.cell? ⟨b1, o1 + j * 9 + 3, none⟩ = some (.slice ap1 nn.attrs.length ac1) ∧ w''.cell? ⟨b1, o1 + j * 9 + 4, none⟩ = some (.int .i64 nn.up) ∧ w''.cell? ⟨b1, o1 + j * 9 + 5, none⟩ = some (.slice kp1 kn1 kc1) ∧ w''.cell? ⟨b1, o1 + j * 9 + 6, none⟩ = some (.bool nn.hasS) ∧ w''.cell? ⟨b1, o1 + j * 9 + 7, none⟩ = some (.slice sp1 sn1 sc1) ∧ w''.cell? ⟨b1, o1 + j * 9 + 8, none⟩ = some (.bool nn.inS) ∧ w''.cell? ⟨b2, o2 + j * 9, none⟩ = some (.bool nn.live) ∧ w''.cell? ⟨b2, o2 + j * 9 + 1, none⟩ = some (.string nn.tag) ∧ w''.cell? ⟨b2, o2 + j * 9 + 2, none⟩ = some (.string nn.text) ∧ w''.cell? ⟨b2, o2 + j * 9 + 3, none⟩ = some (.slice ap2 nn.attrs.length ac2) ∧ w''.cell? ⟨b2, o2 + j * 9 + 4, none⟩ = some (.int .i64 nn.up) ∧ w''.cell? ⟨b2, o2 + j * 9 + 5, none⟩ = some (.slice kp2 kn2 kc2) ∧ w''.cell? ⟨b2, o2 + j * 9 + 6, none⟩ = some (.bool nn.hasS) ∧ w''.cell? ⟨b2, o2 + j * 9 + 7, none⟩ = some (.slice sp2 sn2 sc2) ∧ w''.cell? ⟨b2, o2 + j * 9 + 8, none⟩ = some (.bool nn.inS))
        ((apply SS; repeat (first | exact Keeps.refl _ | apply keeps_drew | apply keeps_alloc')))
        (fail)
      · have bX : BoxAt ((wr.alloc (.cells (Raw.cells (⟨nn.live, nn.tag, nn.text, ⟨ap1, nn.attrs.length, ac1⟩, nn.up, ⟨kp1, kn1, kc1⟩, nn.hasS, ⟨sp1, sn1, sc1⟩, nn.inS⟩ : Raw)).toArray 56)).alloc (.cells (Raw.cells (⟨nn.live, nn.tag, nn.text, ⟨ap2, nn.attrs.length, ac2⟩, nn.up, ⟨kp2, kn2, kc2⟩, nn.hasS, ⟨sp2, sn2, sc2⟩, nn.inS⟩ : Raw)).toArray 56)).drew wr.heap.size (⟨nn.live, nn.tag, nn.text, ⟨ap1, nn.attrs.length, ac1⟩, nn.up, ⟨kp1, kn1, kc1⟩, nn.hasS, ⟨sp1, sn1, sc1⟩, nn.inS⟩ : Raw) := (box_new wr (⟨nn.live, nn.tag, nn.text, ⟨ap1, nn.attrs.length, ac1⟩, nn.up, ⟨kp1, kn1, kc1⟩, nn.hasS, ⟨sp1, sn1, sc1⟩, nn.inS⟩ : Raw) 56).keeps (keeps_drew (keeps_alloc _ _))
        have bY : BoxAt ((wr.alloc (.cells (Raw.cells (⟨nn.live, nn.tag, nn.text, ⟨ap1, nn.attrs.length, ac1⟩, nn.up, ⟨kp1, kn1, kc1⟩, nn.hasS, ⟨sp1, sn1, sc1⟩, nn.inS⟩ : Raw)).toArray 56)).alloc (.cells (Raw.cells (⟨nn.live, nn.tag, nn.text, ⟨ap2, nn.attrs.length, ac2⟩, nn.up, ⟨kp2, kn2, kc2⟩, nn.hasS, ⟨sp2, sn2, sc2⟩, nn.inS⟩ : Raw)).toArray 56)).drew (wr.heap.size + 1) (⟨nn.live, nn.tag, nn.text, ⟨ap2, nn.attrs.length, ac2⟩, nn.up, ⟨kp2, kn2, kc2⟩, nn.hasS, ⟨sp2, sn2, sc2⟩, nn.inS⟩ : Raw) := by
          have h := (box_new (wr.alloc (.cells (Raw.cells (⟨nn.live, nn.tag, nn.text, ⟨ap1, nn.attrs.length, ac1⟩, nn.up, ⟨kp1, kn1, kc1⟩, nn.hasS, ⟨sp1, sn1, sc1⟩, nn.inS⟩ : Raw)).toArray 56)) (⟨nn.live, nn.tag, nn.text, ⟨ap2, nn.attrs.length, ac2⟩, nn.up, ⟨kp2, kn2, kc2⟩, nn.hasS, ⟨sp2, sn2, sc2⟩, nn.inS⟩ : Raw) 56).keeps (keeps_drew (Keeps.refl _))
          rw [show (wr.alloc (.cells (Raw.cells (⟨nn.live, nn.tag, nn.text, ⟨ap1, nn.attrs.length, ac1⟩, nn.up, ⟨kp1, kn1, kc1⟩, nn.hasS, ⟨sp1, sn1, sc1⟩, nn.inS⟩ : Raw)).toArray 56)).heap.size = wr.heap.size + 1 by simp] at h
          exact h
        have KQ : Keeps wr ((wr.alloc (.cells (Raw.cells (⟨nn.live, nn.tag, nn.text, ⟨ap1, nn.attrs.length, ac1⟩, nn.up, ⟨kp1, kn1, kc1⟩, nn.hasS, ⟨sp1, sn1, sc1⟩, nn.inS⟩ : Raw)).toArray 56)).alloc (.cells (Raw.cells (⟨nn.live, nn.tag, nn.text, ⟨ap2, nn.attrs.length, ac2⟩, nn.up, ⟨kp2, kn2, kc2⟩, nn.hasS, ⟨sp2, sn2, sc2⟩, nn.inS⟩ : Raw)).toArray 56)).drew := keeps_drew (keeps_alloc' _ (keeps_alloc _ _))
        have BQ : Below w.heap.size w ((wr.alloc (.cells (Raw.cells (⟨nn.live, nn.tag, nn.text, ⟨ap1, nn.attrs.length, ac1⟩, nn.up, ⟨kp1, kn1, kc1⟩, nn.hasS, ⟨sp1, sn1, sc1⟩, nn.inS⟩ : Raw)).toArray 56)).alloc (.cells (Raw.cells (⟨nn.live, nn.tag, nn.text, ⟨ap2, nn.attrs.length, ac2⟩, nn.up, ⟨kp2, kn2, kc2⟩, nn.hasS, ⟨sp2, sn2, sc2⟩, nn.inS⟩ : Raw)).toArray 56)).drew := ((hnx.alloc hbz _).alloc (by simp; omega) _).drew
        simp only [Raw.cells] at bX bY KQ BQ
        generalize hWQ : (World.alloc _ _).drew = W at bX bY KQ BQ ⊢
        generalize wr.heap.size + 1 = Y at *
        generalize wr.heap.size = X at *
        clear x0 x1 x2 x3 x4 x5 x6 x7 x8 y0 y1 y2 y3 y4 y5 y6 y7 y8 SS
        have K1 := K1.keeps KQ
        have K2 := K2.keeps KQ
        have S1 := S1.keeps KQ
        have S2 := S2.keeps KQ
        have A1 := A1.keeps KQ
        have A2 := A2.keeps KQ
        clear KQ hWQ hnx hbz
        have CX := bX
        have CY := bY
        obtain ⟨e0, e1, e2, e3, e4, e5, e6, e7, e8⟩ := bX
        obtain ⟨g0, g1, g2, g3, g4, g5, g6, g7, g8⟩ := bY
        simp only at e0 e1 e2 e3 e4 e5 e6 e7 e8 g0 g1 g2 g3 g4 g5 g6 g7 g8
        have q1 : (nn.tag.toList == nn.tag.toList) = true := by simp
        have q2 : (nn.text.toList == nn.text.toList) = true := by simp
        have q3 : (nn.up == nn.up) = true := by simp
        have AX : Hid (AttrsAt W (.slice ap1 nn.attrs.length ac1) nn.attrs) := A1
        have AY : Hid (AttrsAt W (.slice ap2 nn.attrs.length ac2) nn.attrs) := A2
        clear A1 A2
        go_wp2_with (first
          | (go_at_call_of 34 kc1; refine (rsameints_true K1 K2).mono ?_; rintro e w5 ⟨rfl, hb5⟩; have J5 := keeps_below hb5 (Nat.le_refl _); have e75 := J5 _ _ e7; have g75 := J5 _ _ g7; have e35 := J5 _ _ e3; have g35 := J5 _ _ g3; have S15 := S1.keeps J5; have S25 := S2.keeps J5)
          | (go_at_call_of 34 sc1; refine (rsameints_true S15 S25).mono ?_; rintro e w6 ⟨rfl, hb6⟩; have J6 := J5.trans (keeps_below hb6 (Nat.le_refl _)); have e36 := J6 _ _ e3; have g36 := J6 _ _ g3; have B6 := (BQ.trans (hb5.mono BQ.size)).trans (hb6.mono (Nat.le_trans BQ.size hb5.size)); have AX6 : Hid (AttrsAt w6 (.slice ap1 nn.attrs.length ac1) nn.attrs) := AX.out.keeps J6; have AY6 : Hid (AttrsAt w6 (.slice ap2 nn.attrs.length ac2) nn.attrs) := AY.out.keeps J6))
        obtain ⟨_, _, he1, hx1, hx2, _, at1⟩ := AX6.out.at
        cases he1
        obtain ⟨_, _, he2, hy1, hy2, _, at2⟩ := AY6.out.at
        cases he2
        have T1 : Hid (∀ i (hi : i < nn.attrs.length), ∃ b o, ap1 = some ⟨b, o, none⟩ ∧ w6.cell? ⟨b, o + i * 2, none⟩ = some (.string nn.attrs[i].1) ∧ w6.cell? ⟨b, o + i * 2 + 1, none⟩ = some (.string nn.attrs[i].2)) := at1
        have T2 : Hid (∀ i (hi : i < nn.attrs.length), ∃ b o, ap2 = some ⟨b, o, none⟩ ∧ w6.cell? ⟨b, o + i * 2, none⟩ = some (.string nn.attrs[i].1) ∧ w6.cell? ⟨b, o + i * 2 + 1, none⟩ = some (.string nn.attrs[i].2)) := at2
        clear at1 at2 AX6 AY6 AX AY J5 J6 hb5 hb6 e75 g75 e35 g35 S15 S25 K1 K2 S1 S2 BQ CX CY e0 e1 e2 e3 e4 e5 e6 e7 e8 g0 g1 g2 g3 g4 g5 g6 g7 g8 q1 q2 q3
        go_loopw [95] (fun iv wq => ∃ i : Nat, i ≤ nn.attrs.length ∧ iv = .int .i64 i ∧ Below w6.heap.size w6 wq) (fun i _ => nn.attrs.length - (intOf i).toNat)
        case atStart => exact ⟨0, Nat.zero_le _, rfl, Below.refl _ _⟩
        case round =>
          obtain ⟨i, hi, rfl, hq6⟩ := hrel
          have J7 := keeps_below hq6 (Nat.le_refl _)
          have e37 := J7 _ _ e36
          have g37 := J7 _ _ g36
          by_cases hil : i < nn.attrs.length
          · obtain ⟨f1, p1, rfl, k1, k2⟩ := T1.out i hil
            obtain ⟨f2, p2, rfl, k3, k4⟩ := T2.out i hil
            have z1 := J7 _ _ k1
            have z2 := J7 _ _ k2
            have z3 := J7 _ _ k3
            have z4 := J7 _ _ k4
            clear k1 k2 k3 k4
            generalize nn.attrs[i] = at0 at *
            obtain ⟨nm, vl⟩ := at0
            simp only at z1 z2 z3 z4
            have hne := fun W => attr_neq W nm vl
            have hgd := attr_guard
            have hii : (i : Int) < (nn.attrs.length : Int) := by omega
            go_wp2_with fail
            go_quiet (fail)
            go_wp2_with fail
            go_roundw
            case rel => exact ⟨i + 1, by omega, by go_num, hq6.trans ⟨rfl, rfl, rfl, Nat.le_refl _, fun _ _ => rfl⟩⟩
            case measure => simp [intOf]; omega
          · obtain rfl : i = nn.attrs.length := by omega
            go_wp2_with fail
            go_roundw
            case rel => exact ⟨j + 1, by omega, by go_num, B6.trans (hq6.mono B6.size)⟩
            case measure => simp [intOf]; omega
      · have bY : BoxAt ((wr.alloc (.cells (Raw.cells (⟨nn.live, nn.tag, nn.text, ⟨ap2, nn.attrs.length, ac2⟩, nn.up, ⟨kp2, kn2, kc2⟩, nn.hasS, ⟨sp2, sn2, sc2⟩, nn.inS⟩ : Raw)).toArray 56)).alloc (.cells (Raw.cells (⟨nn.live, nn.tag, nn.text, ⟨ap1, nn.attrs.length, ac1⟩, nn.up, ⟨kp1, kn1, kc1⟩, nn.hasS, ⟨sp1, sn1, sc1⟩, nn.inS⟩ : Raw)).toArray 56)).drew wr.heap.size (⟨nn.live, nn.tag, nn.text, ⟨ap2, nn.attrs.length, ac2⟩, nn.up, ⟨kp2, kn2, kc2⟩, nn.hasS, ⟨sp2, sn2, sc2⟩, nn.inS⟩ : Raw) := (box_new wr (⟨nn.live, nn.tag, nn.text, ⟨ap2, nn.attrs.length, ac2⟩, nn.up, ⟨kp2, kn2, kc2⟩, nn.hasS, ⟨sp2, sn2, sc2⟩, nn.inS⟩ : Raw) 56).keeps (keeps_drew (keeps_alloc _ _))
        have bX : BoxAt ((wr.alloc (.cells (Raw.cells (⟨nn.live, nn.tag, nn.text, ⟨ap2, nn.attrs.length, ac2⟩, nn.up, ⟨kp2, kn2, kc2⟩, nn.hasS, ⟨sp2, sn2, sc2⟩, nn.inS⟩ : Raw)).toArray 56)).alloc (.cells (Raw.cells (⟨nn.live, nn.tag, nn.text, ⟨ap1, nn.attrs.length, ac1⟩, nn.up, ⟨kp1, kn1, kc1⟩, nn.hasS, ⟨sp1, sn1, sc1⟩, nn.inS⟩ : Raw)).toArray 56)).drew (wr.heap.size + 1) (⟨nn.live, nn.tag, nn.text, ⟨ap1, nn.attrs.length, ac1⟩, nn.up, ⟨kp1, kn1, kc1⟩, nn.hasS, ⟨sp1, sn1, sc1⟩, nn.inS⟩ : Raw) := by
          have h := (box_new (wr.alloc (.cells (Raw.cells (⟨nn.live, nn.tag, nn.text, ⟨ap2, nn.attrs.length, ac2⟩, nn.up, ⟨kp2, kn2, kc2⟩, nn.hasS, ⟨sp2, sn2, sc2⟩, nn.inS⟩ : Raw)).toArray 56)) (⟨nn.live, nn.tag, nn.text, ⟨ap1, nn.attrs.length, ac1⟩, nn.up, ⟨kp1, kn1, kc1⟩, nn.hasS, ⟨sp1, sn1, sc1⟩, nn.inS⟩ : Raw) 56).keeps (keeps_drew (Keeps.refl _))
          rw [show (wr.alloc (.cells (Raw.cells (⟨nn.live, nn.tag, nn.text, ⟨ap2, nn.attrs.length, ac2⟩, nn.up, ⟨kp2, kn2, kc2⟩, nn.hasS, ⟨sp2, sn2, sc2⟩, nn.inS⟩ : Raw)).toArray 56)).heap.size = wr.heap.size + 1 by simp] at h
          exact h
        have KQ : Keeps wr ((wr.alloc (.cells (Raw.cells (⟨nn.live, nn.tag, nn.text, ⟨ap2, nn.attrs.length, ac2⟩, nn.up, ⟨kp2, kn2, kc2⟩, nn.hasS, ⟨sp2, sn2, sc2⟩, nn.inS⟩ : Raw)).toArray 56)).alloc (.cells (Raw.cells (⟨nn.live, nn.tag, nn.text, ⟨ap1, nn.attrs.length, ac1⟩, nn.up, ⟨kp1, kn1, kc1⟩, nn.hasS, ⟨sp1, sn1, sc1⟩, nn.inS⟩ : Raw)).toArray 56)).drew := keeps_drew (keeps_alloc' _ (keeps_alloc _ _))
        have BQ : Below w.heap.size w ((wr.alloc (.cells (Raw.cells (⟨nn.live, nn.tag, nn.text, ⟨ap2, nn.attrs.length, ac2⟩, nn.up, ⟨kp2, kn2, kc2⟩, nn.hasS, ⟨sp2, sn2, sc2⟩, nn.inS⟩ : Raw)).toArray 56)).alloc (.cells (Raw.cells (⟨nn.live, nn.tag, nn.text, ⟨ap1, nn.attrs.length, ac1⟩, nn.up, ⟨kp1, kn1, kc1⟩, nn.hasS, ⟨sp1, sn1, sc1⟩, nn.inS⟩ : Raw)).toArray 56)).drew := ((hnx.alloc hbz _).alloc (by simp; omega) _).drew
        simp only [Raw.cells] at bX bY KQ BQ
        generalize hWQ : (World.alloc _ _).drew = W at bX bY KQ BQ ⊢
        generalize wr.heap.size + 1 = X at *
        generalize wr.heap.size = Y at *
        clear x0 x1 x2 x3 x4 x5 x6 x7 x8 y0 y1 y2 y3 y4 y5 y6 y7 y8 SS
        have K1 := K1.keeps KQ
        have K2 := K2.keeps KQ
        have S1 := S1.keeps KQ
        have S2 := S2.keeps KQ
        have A1 := A1.keeps KQ
        have A2 := A2.keeps KQ
        clear KQ hWQ hnx hbz
        have CX := bX
        have CY := bY
        obtain ⟨e0, e1, e2, e3, e4, e5, e6, e7, e8⟩ := bX
        obtain ⟨g0, g1, g2, g3, g4, g5, g6, g7, g8⟩ := bY
        simp only at e0 e1 e2 e3 e4 e5 e6 e7 e8 g0 g1 g2 g3 g4 g5 g6 g7 g8
        have q1 : (nn.tag.toList == nn.tag.toList) = true := by simp
        have q2 : (nn.text.toList == nn.text.toList) = true := by simp
        have q3 : (nn.up == nn.up) = true := by simp
        have AX : Hid (AttrsAt W (.slice ap1 nn.attrs.length ac1) nn.attrs) := A1
        have AY : Hid (AttrsAt W (.slice ap2 nn.attrs.length ac2) nn.attrs) := A2
        clear A1 A2
        go_wp2_with (first
          | (go_at_call_of 34 kc1; refine (rsameints_true K1 K2).mono ?_; rintro e w5 ⟨rfl, hb5⟩; have J5 := keeps_below hb5 (Nat.le_refl _); have e75 := J5 _ _ e7; have g75 := J5 _ _ g7; have e35 := J5 _ _ e3; have g35 := J5 _ _ g3; have S15 := S1.keeps J5; have S25 := S2.keeps J5)
          | (go_at_call_of 34 sc1; refine (rsameints_true S15 S25).mono ?_; rintro e w6 ⟨rfl, hb6⟩; have J6 := J5.trans (keeps_below hb6 (Nat.le_refl _)); have e36 := J6 _ _ e3; have g36 := J6 _ _ g3; have B6 := (BQ.trans (hb5.mono BQ.size)).trans (hb6.mono (Nat.le_trans BQ.size hb5.size)); have AX6 : Hid (AttrsAt w6 (.slice ap1 nn.attrs.length ac1) nn.attrs) := AX.out.keeps J6; have AY6 : Hid (AttrsAt w6 (.slice ap2 nn.attrs.length ac2) nn.attrs) := AY.out.keeps J6))
        obtain ⟨_, _, he1, hx1, hx2, _, at1⟩ := AX6.out.at
        cases he1
        obtain ⟨_, _, he2, hy1, hy2, _, at2⟩ := AY6.out.at
        cases he2
        have T1 : Hid (∀ i (hi : i < nn.attrs.length), ∃ b o, ap1 = some ⟨b, o, none⟩ ∧ w6.cell? ⟨b, o + i * 2, none⟩ = some (.string nn.attrs[i].1) ∧ w6.cell? ⟨b, o + i * 2 + 1, none⟩ = some (.string nn.attrs[i].2)) := at1
        have T2 : Hid (∀ i (hi : i < nn.attrs.length), ∃ b o, ap2 = some ⟨b, o, none⟩ ∧ w6.cell? ⟨b, o + i * 2, none⟩ = some (.string nn.attrs[i].1) ∧ w6.cell? ⟨b, o + i * 2 + 1, none⟩ = some (.string nn.attrs[i].2)) := at2
        clear at1 at2 AX6 AY6 AX AY J5 J6 hb5 hb6 e75 g75 e35 g35 S15 S25 K1 K2 S1 S2 BQ CX CY e0 e1 e2 e3 e4 e5 e6 e7 e8 g0 g1 g2 g3 g4 g5 g6 g7 g8 q1 q2 q3
        go_loopw [95] (fun iv wq => ∃ i : Nat, i ≤ nn.attrs.length ∧ iv = .int .i64 i ∧ Below w6.heap.size w6 wq) (fun i _ => nn.attrs.length - (intOf i).toNat)
        case atStart => exact ⟨0, Nat.zero_le _, rfl, Below.refl _ _⟩
        case round =>
          obtain ⟨i, hi, rfl, hq6⟩ := hrel
          have J7 := keeps_below hq6 (Nat.le_refl _)
          have e37 := J7 _ _ e36
          have g37 := J7 _ _ g36
          by_cases hil : i < nn.attrs.length
          · obtain ⟨f1, p1, rfl, k1, k2⟩ := T1.out i hil
            obtain ⟨f2, p2, rfl, k3, k4⟩ := T2.out i hil
            have z1 := J7 _ _ k1
            have z2 := J7 _ _ k2
            have z3 := J7 _ _ k3
            have z4 := J7 _ _ k4
            clear k1 k2 k3 k4
            generalize nn.attrs[i] = at0 at *
            obtain ⟨nm, vl⟩ := at0
            simp only at z1 z2 z3 z4
            have hne := fun W => attr_neq W nm vl
            have hgd := attr_guard
            have hii : (i : Int) < (nn.attrs.length : Int) := by omega
            go_wp2_with fail
            go_quiet (fail)
            go_wp2_with fail
            go_roundw
            case rel => exact ⟨i + 1, by omega, by go_num, hq6.trans ⟨rfl, rfl, rfl, Nat.le_refl _, fun _ _ => rfl⟩⟩
            case measure => simp [intOf]; omega
          · obtain rfl : i = nn.attrs.length := by omega
            go_wp2_with fail
            go_roundw
            case rel => exact ⟨j + 1, by omega, by go_num, B6.trans (hq6.mono B6.size)⟩
            case measure => simp [intOf]; omega
    · obtain rfl : j = d.length := by omega
      go_wp2_with fail
      go_ret
      exact ⟨rfl, hnx⟩
end Go.Proofs.Ytookcjdibpccpaa

/-
  THE WALK of tnlaw2.DomMade.
-/
namespace Go.Proofs.Ytookcjdibpccpaa
open Go.RowKit

set_option maxHeartbeats 400000 in
set_option maxRecDepth 100000 in
/-- a change of a node that is not there -/
theorem dapply_none {w : World} {b o c : Nat} {rs : List Raw} {d : Tn.Dc} (hd : DocAt w b o c rs d) (kd nn tt bf : Int) (nm vl : ByteArray) (hk1 : 1 ≤ kd) (hk2 : kd ≤ 10) (hi : Tn.isN d nn false = false) :
    Calls Try.prog 41 #[.slice (some ⟨b, o, none⟩) rs.length c, chg6 ⟨kd, nn, tt, bf, nm, vl⟩] w fun e w' => e = .returned (.tuple #[.slice none 0 0, .int .i64 0, .int .i64 6]) ∧ Below w.heap.size w w' := by
  have B1 : Below w.heap.size w (w.alloc (.cells #[.int .i64 kd, .int .i64 nn, .int .i64 tt, .int .i64 bf, .string nm, .string vl] 32)) := (Below.refl _ _).alloc (Nat.le_refl _) _
  have HD : Hid (DocAt (w.alloc (.cells #[.int .i64 kd, .int .i64 nn, .int .i64 tt, .int .i64 bf, .string nm, .string vl] 32)) b o c rs d) := hd.keeps (keeps_below B1 (Nat.le_refl _))
  clear hd
  unfold chg6
  simp only
  go_enter Try.func41, Try.ntmps41
  go_wp2_with fail
  refine (dis_any HD.out nn false).mono ?_
  rintro e w1 ⟨rfl, hw1⟩
  subst hw1
  rw [hi]
  go_wp2_with fail
  go_ret3
  exact ⟨rfl, B1⟩

theorem chgs_keeps {w w' : World} {v : Value} {l : List Tn.Chg} (h : ChgsAt w v l) (k : Keeps w w') : ChgsAt w' v l := by
  obtain ⟨p, c, e, h1, h2, h4⟩ := h
  refine ⟨p, c, e, h1, h2, fun j x hx => ?_⟩
  obtain ⟨b, o, e1, e2⟩ := h4 j x hx
  exact ⟨b, o, e1, k _ _ e2⟩

variable {d : Tn.Dc} {x : Tn.Chg} {m : Nat} {b : Int}

theorem made_path (h : Tn.Good d) (hk : x.kind = 1 ∨ x.kind = 2) (hm : Tn.lvD d m = true) : (Tn.pathOf (putDoc (addIn d x) (Tn.free d) m b false) (Tn.free d : Int)).length - 1 = (Tn.pathOf d (m : Int)).length ∧ Tn.within (putDoc (addIn d x) (Tn.free d) m b false) (Tn.free d : Int) (m : Int) = true := by
  obtain ⟨r, hr, hR⟩ := h.tr
  obtain ⟨hf1, hf2⟩ := Tn.free_spec d
  have hf0 : Tn.free d ≠ 0 := fun e => by rw [e, hr.1.root] at hf2; cases hf2
  have hmk : m ≠ Tn.free d := fun e => by rw [e, hf2] at hm; cases hm
  have hT := make_TrD (x := x) (b := b) h hr hk hm
  have hu0 : (Tn.nd (putDoc (addIn d x) (Tn.free d) m b false) 0).up = -1 := by
    rw [make_nd h hk hm]
    by_cases e : 0 = m
    · rw [if_pos e]
      show (Tn.nd d m).up = -1
      rw [← e]
      exact h.rootUp
    · rw [if_neg e, if_neg (fun e2 => hf0 e2.symm)]
      exact h.rootUp
  have hlv := make_lv (x := x) (b := b) h hk hm
  have hnk : Tn.nd (putDoc (addIn d x) (Tn.free d) m b false) (Tn.free d) = { newNd x with up := (m : Int), inS := false } := by
    rw [make_nd h hk hm, if_neg (fun e => hmk e.symm), if_pos rfl]
  refine ⟨?_, ?_⟩
  · rw [Tn.pathOf_len hT hlv hu0, Tn.pathOf_len hr hm h.rootUp, if_pos rfl]
    rfl
  · have hlen := make_len (x := x) (b := b) h hk hm
    have hml := Tn.lv_lt hm
    unfold Tn.within Tn.pathOf
    rw [path_succ_yes _ _ _ (by rw [Tn.isN_iff]; exact hlv), hnk]
    obtain ⟨L, hL⟩ : ∃ L, (putDoc (addIn d x) (Tn.free d) m b false).length = L + 1 := ⟨(putDoc (addIn d x) (Tn.free d) m b false).length - 1, by omega⟩
    rw [hL]
    show (Tn.free d :: Tn.path (L + 1) _ (m : Int)).any _ = true
    rw [path_succ_yes _ _ _ (by
      rw [Tn.isN_iff]
      unfold Tn.lvD
      rw [make_nd h hk hm, if_pos rfl]
      exact hm)]
    simp

theorem apply_make {W : World} {g o c : Nat} {rs : List Raw} {d : Tn.Dc} (hd : DocAt W g o c rs d) (h : Tn.Good d) (kd n tt bf : Int) (nm vl : ByteArray) (hkd : kd = 1 ∨ kd = 2) (hnm : nm.size ≤ 4194304) (hvl : vl.size ≤ 4194304) :
    Calls Try.prog 41 #[.slice (some ⟨g, o, none⟩) rs.length c, .agg #[.int .i64 kd, .int .i64 n, .int .i64 tt, .int .i64 bf, .string nm, .string vl]] W fun e w' => Below W.heap.size W w' ∧ ((∃ cd : Int, (cd != 0) = true ∧ e = .returned (.tuple #[.slice none 0 0, .int .i64 0, .int .i64 cd])) ∨
      ∃ (m g' c' : Nat) (rs' : List Raw), n = (m : Int) ∧ Tn.lvD d m = true ∧ e = .returned (.tuple #[.slice (some ⟨g', 0, none⟩) rs'.length c', .int .i64 (Tn.free d : Int), .int .i64 0]) ∧ DocAt w' g' 0 c' rs' (putDoc (addIn d ⟨kd, (m : Int), tt, bf, nm, vl⟩) (Tn.free d) m bf false)) := by
  cases hi : Tn.isN d n false with
  | false =>
    refine (dapply_none hd kd n tt bf nm vl (by omega) (by omega) hi).mono ?_
    rintro e w' ⟨e1, e2⟩
    exact ⟨e2, Or.inl ⟨6, by decide, e1⟩⟩
  | true =>
    obtain ⟨m, rfl, hml, hlv⟩ := isN_nat hi
    have hm : Tn.lvD d m = true := hlv
    have hlen := h.len
    have hl := hd.len
    refine (dapply_chs hd (by omega) (by omega) (fun j s => ?_) (fun k => ?_) kd (m : Int) tt bf nm vl (by omega) (by omega) hi (chs_make h hm kd tt bf nm vl hkd hnm hvl) (fun _ => ?_)).mono ?_
    · have := h.small j s
      omega
    · have := h.attrs k
      omega
    · obtain ⟨r, hr, _⟩ := h.tr
      exact (make_TrD (x := ⟨kd, (m : Int), tt, bf, nm, vl⟩) (b := bf) h hr hkd hm).1.root
    · rintro e w' ⟨v, e1, e2, ⟨e3, e4⟩ | ⟨_, g', c', rs', e3, e4, _⟩⟩
      · exact ⟨e2, Or.inl ⟨_, by simpa using e3, by rw [e1, e4]⟩⟩
      · rw [make_last h hkd hm] at e4
        exact ⟨e2, Or.inr ⟨m, g', c', rs', rfl, hm, by rw [e1, e3], e4⟩⟩

theorem apply_unmake {W : World} {g o c : Nat} {rs : List Raw} {d : Tn.Dc} {x : Tn.Chg} {m : Nat} {b : Int} (hd : DocAt W g o c rs (putDoc (addIn d x) (Tn.free d) m b false)) (h : Tn.Good d) (hm : Tn.lvD d m = true) (hkd : x.kind = 1 ∨ x.kind = 2) :
    Calls Try.prog 41 #[.slice (some ⟨g, o, none⟩) rs.length c, .agg #[.int .i64 4, .int .i64 (Tn.free d : Int), .int .i64 0, .int .i64 0, .string ⟨#[]⟩, .string ⟨#[]⟩]] W fun e w' => Below W.heap.size W w' ∧ ∃ (g' c' : Nat) (rs' : List Raw), e = .returned (.tuple #[.slice (some ⟨g', 0, none⟩) rs'.length c', .int .i64 (Tn.free d : Int), .int .i64 0]) ∧ DocAt w' g' 0 c' rs' d := by
  have hlen := make_len (x := x) (b := b) h hkd hm
  have h60 := h.len
  have hf := (Tn.free_spec d).1
  have hl := hd.len
  refine (dapply_chs hd (by omega) (by omega) (fun j s => ?_) (fun k => ?_) 4 (Tn.free d : Int) 0 0 ⟨#[]⟩ ⟨#[]⟩ (by omega) (by omega) (by rw [Tn.isN_iff]; exact make_lv h hkd hm) (chs_unmake h hm hkd 0 0 ⟨#[]⟩ ⟨#[]⟩) (fun _ => ?_)).mono ?_
  · have := make_li (x := x) (b := b) h hkd hm j s
    omega
  · rw [make_nd h hkd hm]
    split
    · have := h.attrs m
      show (Tn.nd d m).attrs.length ≤ 1000
      omega
    · split
      · unfold newNd
        split <;> simp [Tn.zero]
      · have := h.attrs k
        omega
  · obtain ⟨r, hr, _⟩ := h.tr
    obtain ⟨hf1, hf2⟩ := Tn.free_spec d
    have hf0 : Tn.free d ≠ 0 := fun e => by rw [e, hr.1.root] at hf2; cases hf2
    rw [taken_all h hkd hm]
    unfold Tn.lvD
    show (Tn.nd (List.set _ (Tn.free d) Tn.zero) 0).live = true
    rw [nd_setL _ _ _ (by rw [taken_len h hkd hm]; omega), if_neg (fun e => hf0 e.symm), taken_nd h hkd hm, if_neg (fun e => hf0 e.symm)]
    exact hr.1.root
  · rintro e w' ⟨v, e1, e2, ⟨e3, e4⟩ | ⟨_, g', c', rs', e3, e4, _⟩⟩
    · exact absurd rfl e3
    · rw [unmade h hkd hm] at e4
      exact ⟨e2, g', c', rs', by rw [e1, e3], e4⟩

end Go.Proofs.Ytookcjdibpccpaa

/-
  dom.Apply at any good document: what the reference makes.
-/
namespace Go.Proofs.Ytookcjdibpccpaa
open Go.RowKit

set_option maxHeartbeats 400000 in
set_option maxRecDepth 100000 in
/-- a kind that there is not -/
theorem dapply_kind {w : World} {v : Value} (kd nn tt bf : Int) (nm vl : ByteArray) (hk : kd < 1 ∨ 10 < kd) :
    Calls Try.prog 41 #[v, chg6 ⟨kd, nn, tt, bf, nm, vl⟩] w fun e w' => e = .returned (.tuple #[.slice none 0 0, .int .i64 0, .int .i64 1]) ∧ Below w.heap.size w w' := by
  have B1 : Below w.heap.size w (w.alloc (.cells #[.int .i64 kd, .int .i64 nn, .int .i64 tt, .int .i64 bf, .string nm, .string vl] 32)) := (Below.refl _ _).alloc (Nat.le_refl _) _
  unfold chg6
  simp only
  by_cases h1 : kd < 1
  · go_enter Try.func41, Try.ntmps41
    go_wp2_with fail
    go_ret3
    exact ⟨rfl, B1⟩
  · have h2 : 10 < kd := by omega
    go_enter Try.func41, Try.ntmps41
    go_wp2_with fail
    go_ret3
    exact ⟨rfl, B1⟩

theorem dapply_any {w : World} {b o c : Nat} {rs : List Raw} {d : Tn.Dc} (hd : DocAt w b o c rs d) (hF : Fine2 d) (kd nn tt bf : Int) (nm vl : ByteArray) (hnm : nm.size ≤ 4194304) (hvl : vl.size ≤ 4194304) :
    Calls Try.prog 41 #[.slice (some ⟨b, o, none⟩) rs.length c, chg6 ⟨kd, nn, tt, bf, nm, vl⟩] w fun e w' => Below w.heap.size w w' ∧
      ((Tn.applyE d ⟨kd, nn, tt, bf, nm, vl⟩ ≠ 0 ∧ e = .returned (.tuple #[.slice none 0 0, .int .i64 0, .int .i64 (Tn.applyE d ⟨kd, nn, tt, bf, nm, vl⟩)])) ∨
      (Tn.applyE d ⟨kd, nn, tt, bf, nm, vl⟩ = 0 ∧ ∃ (g' c' : Nat) (rs' : List Raw), e = .returned (.tuple #[.slice (some ⟨g', 0, none⟩) rs'.length c', .int .i64 (Tn.chgN d ⟨kd, nn, tt, bf, nm, vl⟩), .int .i64 0]) ∧ DocAt w' g' 0 c' rs' (Tn.applyD d ⟨kd, nn, tt, bf, nm, vl⟩) ∧ 0 < rs'.length)) := by
  by_cases hk : kd < 1 ∨ 10 < kd
  · have E : Tn.applyE d ⟨kd, nn, tt, bf, nm, vl⟩ = 1 := by unfold Tn.applyE; exact if_pos hk
    refine (dapply_kind kd nn tt bf nm vl hk).mono ?_
    rintro e w' ⟨e1, e2⟩
    exact ⟨e2, Or.inl ⟨by rw [E]; decide, by rw [E, e1]⟩⟩
  · cases hi : Tn.isN d nn false with
    | false =>
      have E : Tn.applyE d ⟨kd, nn, tt, bf, nm, vl⟩ = 6 := by unfold Tn.applyE; rw [if_neg hk]; exact if_pos hi
      refine (dapply_none hd kd nn tt bf nm vl (by omega) (by omega) hi).mono ?_
      rintro e w' ⟨e1, e2⟩
      exact ⟨e2, Or.inl ⟨by rw [E]; decide, by rw [E, e1]⟩⟩
    | true =>
      obtain ⟨m, rfl, hml, hlv⟩ := isN_nat hi
      have hm : Tn.lvD d m = true := hlv
      have h := hF.good
      have hlen := h.len
      have hl := hd.len
      have E : Tn.applyE d ⟨kd, (m : Int), tt, bf, nm, vl⟩ = Tn.chgE d ⟨kd, (m : Int), tt, bf, nm, vl⟩ := by
        unfold Tn.applyE
        rw [if_neg hk]
        exact if_neg (by rw [hi]; simp)
      refine (dapply_chs hd (by omega) (by omega) (fun j s => ?_) (fun k => ?_) kd (m : Int) tt bf nm vl (by omega) (by omega) hi (chs_full hF kd tt bf nm vl (by omega) (by omega) hnm hvl hm) (fun h0 => ?_)).mono ?_
      · have := h.small j s
        omega
      · have := h.attrs k
        omega
      · obtain ⟨r, hr, _⟩ := (chg_mid h ⟨kd, (m : Int), tt, bf, nm, vl⟩ hi h0).tr
        exact hr.1.root
      · rintro e w' ⟨v, e1, e2, ⟨e3, e4⟩ | ⟨e0, g', c', rs', e3, e4, e5⟩⟩
        · exact ⟨e2, Or.inl ⟨by rw [E]; exact e3, by rw [E, e1, e4]⟩⟩
        · exact ⟨e2, Or.inr ⟨by rw [E]; exact e0, g', c', rs', by rw [e1, e3], e4, e5⟩⟩

theorem fine_step {d : Tn.Dc} (h : Fine2 d) (x : Tn.Chg) : Fine2 (Tn.step d x) := ⟨good_step h.good x, step_stays (fit_stays x) h.good h.fit⟩
theorem fine_apply {d : Tn.Dc} (h : Fine2 d) (x : Tn.Chg) (he : Tn.applyE d x = 0) : Fine2 (Tn.applyD d x) := by
  have := fine_step h x
  unfold Tn.step at this
  rw [if_pos he] at this
  exact this
theorem fine_build (l : List Tn.Chg) : Fine2 (Tn.build l) := ⟨build_good l, build_fit l⟩
end Go.Proofs.Ytookcjdibpccpaa

/-
  PLAIN MATHEMATICS: a node that was moved, and is moved back, leaves all as it was.
-/
namespace Go.Proofs.Ytookcjdibpccpaa
open Tn

/-- what the loop over a list finds behind n, in k rounds -/
def nx (l : List Nat) (n : Nat) : Nat → Int
  | 0 => -1
  | k + 1 => if l[k]? = some n ∧ k + 1 < l.length then ((l[k + 1]?).getD 0 : Nat) else nx l n k

def nextC : List Nat → Int
  | [] => -1
  | c :: _ => (c : Int)

theorem nx_split {A C : List Nat} {n : Nat} (hd : (A ++ n :: C).Nodup) : ∀ k, k ≤ (A ++ n :: C).length → nx (A ++ n :: C) n k = if A.length < k then nextC C else -1
  | 0, _ => by rw [nx, if_neg (by omega)]
  | k + 1, hk => by
    have ih := nx_split hd k (by omega)
    have hnA : n ∉ A := fun hm => (List.nodup_append.mp hd).2.2 n hm n (by simp) rfl
    have hnC : n ∉ C := (List.nodup_cons.mp (List.nodup_append.mp hd).2.1).1
    rw [nx]
    by_cases e : k = A.length
    · subst e
      have e1 : (A ++ n :: C)[A.length]? = some n := by simp
      rw [e1, ih]
      cases C with
      | nil => rw [if_neg (by simp), if_neg (by omega), if_pos (by omega)]; rfl
      | cons c C' =>
        rw [if_pos ⟨rfl, by simp⟩, if_pos (by omega)]
        have : (A ++ n :: c :: C')[A.length + 1]? = some c := by rw [List.getElem?_append_right (by omega)]; simp
        rw [this]
        rfl
    · have e1 : (A ++ n :: C)[k]? ≠ some n := by
        intro h1
        by_cases hlt : k < A.length
        · rw [List.getElem?_append_left hlt] at h1
          exact hnA (List.mem_of_getElem? h1)
        · rw [List.getElem?_append_right (by omega)] at h1
          obtain ⟨q, hq⟩ : ∃ q, k - A.length = q + 1 := ⟨k - A.length - 1, by omega⟩
          rw [hq, List.getElem?_cons_succ] at h1
          exact hnC (List.mem_of_getElem? h1)
      rw [if_neg (fun h => e1 h.1), ih]
      by_cases hlt : A.length < k
      · rw [if_pos hlt, if_pos (by omega)]
      · rw [if_neg hlt, if_neg (by omega)]

theorem split_filter {A C : List Nat} {n : Nat} (hd : (A ++ n :: C).Nodup) : (A ++ n :: C).filter (fun k => !(k == n)) = A ++ C := by
  have hnA : n ∉ A := fun hm => (List.nodup_append.mp hd).2.2 n hm n (by simp) rfl
  have hnC : n ∉ C := (List.nodup_cons.mp (List.nodup_append.mp hd).2.1).1
  rw [List.filter_append, List.filter_cons, if_neg (by simp), filter_same hnA, filter_same hnC]

theorem split_at {A C : List Nat} {n : Nat} (hd : (A ++ n :: C).Nodup) : putAt (A ++ C) (nextC C) = (A.length : Int) := by
  cases C with
  | nil =>
    show putAt (A ++ []) (-1) = _
    rw [putAt_end _ _ (by omega)]
    simp
  | cons c C' =>
    unfold nextC
    rw [putAt_nat]
    have hcA : c ∉ A := fun hm => (List.nodup_append.mp hd).2.2 c hm c (by simp) rfl
    rcases idx_cases2 (fun k => k == c) (A ++ c :: C') with ⟨_, hno⟩ | ⟨j, hj, e, hp, hno⟩
    · have := hno c (by simp)
      simp at this
    · rw [e]
      have hAj : ¬ j < A.length := fun hlt => by
        rw [List.getElem_append_left hlt] at hp
        have : A[j] = c := by simpa using hp
        exact hcA (this ▸ List.getElem_mem hlt)
      have hjA : ¬ A.length < j := fun hlt => by
        have hm : c ∈ (A ++ c :: C').take j := by
          rw [List.take_append, List.mem_append]
          right
          obtain ⟨q, hq⟩ : ∃ q, j - A.length = q + 1 := ⟨j - A.length - 1, by omega⟩
          rw [hq]
          simp
        have := hno c hm
        simp at this
      have : j = A.length := by omega
      rw [this]

theorem split_back {A C : List Nat} {n : Nat} (hd : (A ++ n :: C).Nodup) : insertAt (A ++ C) (putAt (A ++ C) (nextC C)).toNat n = A ++ n :: C := by
  rw [split_at hd, Int.toNat_natCast]
  unfold insertAt
  simp

variable {d : Dc} {n t : Nat} {b : Int}

theorem mv_nokid (h : Tn.Good d) (hn0 : 0 < n) (hn : lvD d n = true) (hs : (nd d n).inS = false) (j : Nat) : n ∉ (nd (moveIn d n) j).kids := by
  rw [mv_nd h hn0 hn, hs]
  split
  · unfold setList listOf
    simp only [Bool.false_eq_true, if_false]
    intro hm
    have := (List.mem_filter.mp hm).2
    simp at this
  · rename_i e
    intro hm
    exact e (in_one h (s := false) hm).1

theorem back_nd (h : Tn.Good d) (hn0 : 0 < n) (hn : lvD d n = true) (hs : (nd d n).inS = false) (ht : lvD d t = true) (hne : t ≠ n) (j : Nat) :
    nd (moveIn (putDoc (moveIn d n) n t b false) n) j = if j = n then { nd d n with up := (t : Int), inS := false } else nd (moveIn d n) j := by
  have hu := up_live h hn0 hn
  have hnn : nd (moveIn d n) n = nd d n := by rw [mv_nd h hn0 hn, if_neg (fun e => hu.2.1 e.symm)]
  have hY := fun j => put_nd (d := moveIn d n) (n := n) (t := t) (b := b) (by rw [mv_len]; exact lv_lt hn) (by rw [mv_len]; exact lv_lt ht) hne j
  have hYn := hY n
  rw [if_pos rfl, hnn] at hYn
  have hYt := hY t
  rw [if_neg hne, if_pos rfl] at hYt
  have hup : upD (putDoc (moveIn d n) n t b false) n = t := by unfold upD; rw [hYn]; simp
  have hno := mv_nokid h hn0 hn hs t
  rw [show moveIn (putDoc (moveIn d n) n t b false) n = takeS (putDoc (moveIn d n) n t b false) t false n by
    show takeS _ (upD _ n) (nd _ n).inS n = _
    rw [hup, hYn]]
  unfold takeS
  rw [nd_setL _ _ _ (by rw [put_len, mv_len]; exact lv_lt ht)]
  by_cases e : j = t
  · rw [if_pos e, if_neg (fun e2 => hne (by rw [← e, e2])), e, hYt]
    unfold setList listOf insertAt
    simp only [Bool.false_eq_true, if_false]
    rw [List.filter_append, List.filter_append]
    have h1 : ([n] : List Nat).filter (fun k => !(k == n)) = [] := by simp
    rw [h1, List.append_nil, ← List.filter_append, List.take_append_drop, filter_same hno]
  · rw [if_neg e, hY, if_neg e]
    by_cases e2 : j = n
    · rw [if_pos e2, if_pos e2, hnn]
    · rw [if_neg e2, if_neg e2]

theorem kids_split (h : Tn.Good d) (hn0 : 0 < n) (hn : lvD d n = true) (hs : (nd d n).inS = false) : ∃ A C, (nd d (upD d n)).kids = A ++ n :: C ∧ (A ++ n :: C).Nodup := by
  obtain ⟨r, hr, _⟩ := h.tr
  have hm := hr.1.par n hn0 hn
  have hi : insD d n = false := hs
  rw [hi] at hm
  have hm' : n ∈ (nd d (upD d n)).kids := hm
  obtain ⟨A, C, e⟩ := List.append_of_mem hm'
  have hnd : (nd d (upD d n)).kids.Nodup := hr.1.nodup (upD d n) false
  exact ⟨A, C, e, by rw [← e]; exact hnd⟩

/-- where it was -/
theorem back_doc (h : Tn.Good d) (hn0 : 0 < n) (hn : lvD d n = true) (hs : (nd d n).inS = false) (ht : lvD d t = true) (hne : t ≠ n) {A C : List Nat} (hk : (nd d (upD d n)).kids = A ++ n :: C) (hnd : (A ++ n :: C).Nodup) :
    putDoc (moveIn (putDoc (moveIn d n) n t b false) n) n (upD d n) (nextC C) false = d := by
  have hu := up_live h hn0 hn
  have hlen : (moveIn (putDoc (moveIn d n) n t b false) n).length = d.length := by rw [mv_len, put_len, mv_len]
  have hmu : nd (moveIn d n) (upD d n) = { nd d (upD d n) with kids := A ++ C } := by
    rw [mv_nd h hn0 hn, if_pos rfl, hs]
    unfold setList listOf
    simp only [Bool.false_eq_true, if_false]
    rw [hk, split_filter hnd]
  refine doc_ext (by rw [put_len, hlen]) fun j => ?_
  rw [put_nd (by rw [hlen]; exact lv_lt hn) (by rw [hlen]; exact lv_lt hu.1) hu.2.1, back_nd h hn0 hn hs ht hne, back_nd h hn0 hn hs ht hne, back_nd h hn0 hn hs ht hne, if_pos rfl, if_neg hu.2.1, hmu]
  by_cases e : j = n
  · rw [if_pos e, e]
    have e1 := hu.2.2
    cases hx : nd d n
    rw [hx] at hs e1
    simp only at hs e1 ⊢
    rw [e1, hs]
  · rw [if_neg e, if_neg e]
    by_cases e2 : j = upD d n
    · rw [if_pos e2, e2]
      simp only
      rw [split_back hnd, ← hk]
    · rw [if_neg e2, mv_nd h hn0 hn, if_neg e2]
end Go.Proofs.Ytookcjdibpccpaa

/-
  MOVED, AND BACK: the mathematics of tnlaw2.DomBack.
-/
namespace Go.Proofs.Ytookcjdibpccpaa
open Tn

variable {d : Dc} {n t : Nat} {b : Int}

open Classical in
/-- what a node was in is not within it when it is elsewhere -/
theorem back_within (h : Tn.Good d) (hn0 : 0 < n) (hn : lvD d n = true) (ht : lvD d t = true) (hw : within d (t : Int) (n : Int) = false) : within (putDoc (moveIn d n) n t b false) ((upD d n : Nat) : Int) (n : Int) = false := by
  obtain ⟨r, hr, hR⟩ := h.tr
  have hne := within_ne h ht hw
  have hnd := (within_desc hr ht h.rootUp n).mp hw
  have hT := move_tr hr hn0 hn ht hnd (off_move h hn0 hn (t := t)) b
  rw [← put_move h hn0 hn ht hne] at hT
  have hu := up_live h hn0 hn
  have hrk := hr.1.rank n hn0 hn
  have hlv := moved_lv (b := b) h hn0 hn ht hne
  rw [within_desc hT (by rw [hlv]; exact hu.1) (moved_up0 h hn0 hn ht hne)]
  have hnu : ¬ desc (upD d) r n (upD d n) := fun hd => by have := hd.1; omega
  rintro ⟨h1, h2⟩
  simp only [if_neg hnu, if_pos (desc_refl (up := upD d) (r := r) n)] at h1 h2
  have hmv : ∀ j, j ≠ n → upD d j = upD (putDoc (moveIn d n) n t b false) j := by
    intro j hj
    have hup : ∀ i, (nd (moveIn d n) i).up = (nd d i).up := by
      intro i
      rw [mv_nd h hn0 hn]
      split
      · rename_i e; rw [(set_other _ _ _).2.1, e]
      · rfl
    unfold upD
    rw [put_nd (by rw [mv_len]; exact lv_lt hn) (by rw [mv_len]; exact lv_lt ht) hne, if_neg hj]
    split
    · rename_i e
      show _ = (nd (moveIn d n) t).up.toNat
      rw [hup, e]
    · rw [hup]
  have h3 := anc_same hT.1 hmv (r (upD d n) - (r n - r n + r t + 1)) (upD d n) (by rw [hlv]; exact hu.1) (by simp only [if_neg hnu, if_pos (desc_refl (up := upD d) (r := r) n)]; omega) h2
  have h4 := (hr.1.anc (r (upD d n) - (r n - r n + r t + 1)) (upD d n) hu.1 (by omega)).2
  rw [h3] at h4
  omega

theorem deep_no (h : Tn.Good d) (hn : lvD d n = true) : (all fuel d n).any (tooDeep d) = false := by
  obtain ⟨r, hr, hR⟩ := h.tr
  rw [List.any_eq_false]
  intro j hj
  have hl := (all_desc hr fuel n j hj hn).1
  unfold tooDeep
  rw [pathOf_len hr hl h.rootUp]
  have := hR j hl
  simp
  omega

/-- what is moved, and moved back, is as it was -/
theorem back_all (hF : Fine2 d) (x : Chg) (hk : x.kind = 3) (he : applyE d x = 0) : ∃ n : Nat, x.node = (n : Int) ∧ 0 < n ∧ lvD d n = true ∧ ((nd d n).inS = false →
    applyE (applyD d x) ⟨3, x.node, (nd d n).up, nx (nd d (upD d n)).kids n (nd d (upD d n)).kids.length, ⟨#[]⟩, ⟨#[]⟩⟩ = 0 ∧ applyD (applyD d x) ⟨3, x.node, (nd d n).up, nx (nd d (upD d n)).kids n (nd d (upD d n)).kids.length, ⟨#[]⟩, ⟨#[]⟩⟩ = d) := by
  have h := hF.good
  have hFY := fine_apply hF x he
  unfold applyE at he
  rw [if_neg (by rw [hk]; omega)] at he
  cases hi : isN d x.node false with
  | false => rw [if_pos hi] at he; cases he
  | true =>
    rw [if_neg (by rw [hi]; simp)] at he
    obtain ⟨n, hxn, hnl, hlv⟩ := isN_nat hi
    have hn : lvD d n = true := hlv
    have he' : moveE d x = 0 := by
      unfold chgE at he
      rw [if_pos hk] at he
      exact he
    obtain ⟨hn0, hto, hw, hbn, hdoc⟩ := move_docD h hn x hxn he'
    have hn0' : 0 < n := by omega
    obtain ⟨t, ht, htl, htlv⟩ := isN_nat (isN_true hto)
    rw [ht] at hw hdoc
    rw [Int.toNat_natCast] at hdoc
    have htv : lvD d t = true := htlv
    have hne := within_ne h htv hw
    refine ⟨n, hxn, hn0', hn, fun hs => ?_⟩
    have hY : applyD d x = putDoc (moveIn d n) n t x.before false := by
      unfold applyD chgD
      rw [if_pos hk, ← hdoc]
      exact moved_last h hn0' hn htv hne
    rw [hY] at hFY ⊢
    obtain ⟨A, C, hkids, hnd⟩ := kids_split h hn0' hn hs
    have hu := up_live h hn0' hn
    have hnx : nx (nd d (upD d n)).kids n (nd d (upD d n)).kids.length = nextC C := by
      rw [hkids, nx_split hnd _ (Nat.le_refl _), if_pos (by simp)]
    rw [hnx, hxn, hu.2.2]
    have hYn : lvD (putDoc (moveIn d n) n t x.before false) n = true := by rw [moved_lv h hn0' hn htv hne]; exact hn
    have hYu : lvD (putDoc (moveIn d n) n t x.before false) (upD d n) = true := by rw [moved_lv h hn0' hn htv hne]; exact hu.1
    have hback := back_doc (b := x.before) h hn0' hn hs htv hne hkids hnd
    have htag : ∀ j, (nd (putDoc (moveIn d n) n t x.before false) j).tag = (nd d j).tag := by
      intro j
      have hmt : ∀ i, (nd (moveIn d n) i).tag = (nd d i).tag := by
        intro i
        rw [mv_nd h hn0' hn]
        split
        · rename_i e; rw [(set_other _ _ _).2.2.2.2, e]
        · rfl
      rw [put_nd (by rw [mv_len]; exact lv_lt hn) (by rw [mv_len]; exact lv_lt htv) hne]
      split
      · rename_i e; show (nd (moveIn d n) n).tag = _; rw [hmt, e]
      · split
        · rename_i e; show (nd (moveIn d n) t).tag = _; rw [hmt, e]
        · exact hmt j
    have hel : isN (putDoc (moveIn d n) n t x.before false) ((upD d n : Nat) : Int) true = true := by
      rw [el_of hYu, htag]
      cases hq : has (nd d (upD d n)).tag with
      | true => rfl
      | false =>
        have := ((hF.fit (upD d n)).text hq).2.1
        rw [hkids] at this
        simp at this
    have hnn : nextC C ≠ (n : Int) := by
      have hnC : n ∉ C := (List.nodup_cons.mp (List.nodup_append.mp hnd).2.1).1
      cases C with
      | nil => show (-1 : Int) ≠ _; omega
      | cons c C' =>
        show (c : Int) ≠ _
        intro e
        exact hnC (by rw [show n = c by omega]; simp)
    have hli : listOf (nd (moveIn (putDoc (moveIn d n) n t x.before false) n) (upD d n)) false = A ++ C := by
      rw [back_nd h hn0' hn hs htv hne, if_neg hu.2.1, mv_nd h hn0' hn, if_pos rfl, hs]
      unfold setList listOf
      simp only [Bool.false_eq_true, if_false]
      rw [hkids, split_filter hnd]
    have h12 : (A ++ C).length < 12 := by
      have := h.small (upD d n) false
      unfold liD listOf at this
      simp only [Bool.false_eq_true, if_false] at this
      rw [hkids] at this
      simp at this ⊢
      omega
    have hcode : moveCode (putDoc (moveIn d n) n t x.before false) n ⟨3, (n : Int), ((upD d n : Nat) : Int), nextC C, ⟨#[]⟩, ⟨#[]⟩⟩ = 0 := by
      unfold moveCode
      have c1 : ¬ (n = 0 ∨ isN (putDoc (moveIn d n) n t x.before false) ((upD d n : Nat) : Int) true = false) := by rw [hel]; simp; omega
      simp only
      rw [if_neg c1, back_within h hn0' hn htv hw]
      simp only [Bool.false_eq_true, if_false]
      rw [if_neg hnn, Int.toNat_natCast]
      unfold putCode
      rw [hli, split_at hnd, hback, deep_no h hn]
      rw [if_neg (by omega), if_neg (by omega)]
      rfl
    have hme : moveE (putDoc (moveIn d n) n t x.before false) ⟨3, (n : Int), ((upD d n : Nat) : Int), nextC C, ⟨#[]⟩, ⟨#[]⟩⟩ = 0 := by
      rw [← move_codeE hFY.good hYn _ rfl]
      exact hcode
    constructor
    · unfold applyE
      simp only
      rw [if_neg (by omega), if_neg (by rw [isN_iff, hYn]; simp)]
      exact hme
    · have hd2 := (move_docD hFY.good hYn ⟨3, (n : Int), ((upD d n : Nat) : Int), nextC C, ⟨#[]⟩, ⟨#[]⟩⟩ rfl hme).2.2.2.2
      simp only [Int.toNat_natCast] at hd2
      rw [hback] at hd2
      show trimD (moveD _ _) = d
      rw [← hd2]
      exact trim_same h.len.1 h.last
end Go.Proofs.Ytookcjdibpccpaa

/-
  THE WALK of tnlaw2.DomBack.
-/
namespace Go.Proofs.Ytookcjdibpccpaa
open Go.RowKit

set_option maxHeartbeats 1600000 in
set_option maxRecDepth 100000 in
theorem back_walk {w : World} {vl : Value} {l : List Tn.Chg} (hl : ChgsAt w vl l) (hsz : ∀ x ∈ l, x.value.size ≤ 4194304 ∧ x.name.size ≤ 4194304) (n t bf : Int) :
    Calls Try.prog 8 #[vl, .int .i64 n, .int .i64 t, .int .i64 bf] w fun e w' => e = .returned (.bool true) ∧ Below w.heap.size w w' := by
  have HL : Hid (ChgsAt w vl l) := hl
  have HZ : Hid (∀ x ∈ l, x.value.size ≤ 4194304 ∧ x.name.size ≤ 4194304) := hsz
  clear hl hsz
  go_enter Try.func8, Try.ntmps8
  go_wp2_with fail
  refine (l2alive_any w).mono ?_
  rintro e w1 ⟨rfl, b1⟩
  go_wp2_with fail
  refine (rbuild_good (chgs_keeps HL.out (keeps_below b1 (Nat.le_refl _))) HZ.out).mono ?_
  rintro e w2 ⟨g, c, rs, rfl, hd2, b2⟩
  have D2 : Hid (DocAt w2 g 0 c rs (Tn.build l)) := hd2
  have B2 : Hid (Below w.heap.size w w2) := b1.trans (b2.mono b1.size)
  have hF : Hid (Fine2 (Tn.build l)) := fine_build l
  clear hd2 b1 b2 HL HZ
  generalize Tn.build l = d at *
  have HAp : Hid (Calls Try.prog 41 #[.slice (some ⟨g, 0, none⟩) rs.length c, .agg #[.int .i64 3, .int .i64 n, .int .i64 t, .int .i64 bf, .string ⟨#[]⟩, .string ⟨#[]⟩]] w2 fun e w' => Below w2.heap.size w2 w' ∧
      ((∃ cd : Int, (cd != 0) = true ∧ e = .returned (.tuple #[.slice none 0 0, .int .i64 0, .int .i64 cd])) ∨ ∃ (m g' c' : Nat) (rs' : List Raw), n = (m : Int) ∧ Hid (0 < m ∧ Tn.lvD d m = true) ∧ e = .returned (.tuple #[.slice (some ⟨g', 0, none⟩) rs'.length c', .int .i64 n, .int .i64 0]) ∧ Hid (DocAt w' g' 0 c' rs' (Tn.applyD d ⟨3, n, t, bf, ⟨#[]⟩, ⟨#[]⟩⟩)) ∧ Hid (Fine2 (Tn.applyD d ⟨3, n, t, bf, ⟨#[]⟩, ⟨#[]⟩⟩)) ∧ Hid ((Tn.nd d m).inS = false →
      Tn.applyE (Tn.applyD d ⟨3, n, t, bf, ⟨#[]⟩, ⟨#[]⟩⟩) ⟨3, n, (Tn.nd d m).up, nx (Tn.nd d (Tn.upD d m)).kids m (Tn.nd d (Tn.upD d m)).kids.length, ⟨#[]⟩, ⟨#[]⟩⟩ = 0 ∧ Tn.applyD (Tn.applyD d ⟨3, n, t, bf, ⟨#[]⟩, ⟨#[]⟩⟩) ⟨3, n, (Tn.nd d m).up, nx (Tn.nd d (Tn.upD d m)).kids m (Tn.nd d (Tn.upD d m)).kids.length, ⟨#[]⟩, ⟨#[]⟩⟩ = d))) := by
    refine (dapply_any D2.out hF.out 3 n t bf ⟨#[]⟩ ⟨#[]⟩ (by decide) (by decide)).mono ?_
    rintro e w' ⟨e1, ⟨e2, e3⟩ | ⟨e2, g', c', rs', e3, e4, _⟩⟩
    · exact ⟨e1, Or.inl ⟨_, by simpa using e2, e3⟩⟩
    · obtain ⟨m, hm, hm0, hmv, hbk⟩ := back_all hF.out ⟨3, n, t, bf, ⟨#[]⟩, ⟨#[]⟩⟩ rfl e2
      exact ⟨e1, Or.inr ⟨m, g', c', rs', hm, ⟨hm0, hmv⟩, e3, e4, fine_apply hF.out _ e2, hbk⟩⟩
  go_wp2_with fail
  refine HAp.out.mono ?_
  rintro e w3 ⟨b3, ⟨cd, hcd, rfl⟩ | ⟨m, g', c', rs', rfl, hm, rfl, hY, hFY, hbk⟩⟩
  · have B4 : Hid (Below w.heap.size w w3) := B2.out.trans (b3.mono B2.out.size)
    clear b3
    go_wp2_with fail
    go_ret
    exact ⟨rfl, B4.out⟩
  · have B4 : Hid (Below w.heap.size w w3) := B2.out.trans (b3.mono B2.out.size)
    have D4 : Hid (DocAt w3 g 0 c rs d) := D2.out.keeps (keeps_below b3 (Nat.le_refl _))
    clear b3 HAp D2 B2
    have hml : m < rs.length := by rw [D4.out.len]; exact Tn.lv_lt hm.out.2
    have hml' : m < d.length := Tn.lv_lt hm.out.2
    have N := D4.out.nds m hml hml'
    have c4 := D4.out.row.c4 m hml
    have c8 := D4.out.row.c8 m hml
    rw [N.up, ← nd_at hml'] at c4
    rw [N.inS, ← nd_at hml'] at c8
    have hL : Hid (d.length ≤ 1000) := by have := hF.out.good.len; show _ ≤ _; omega
    simp only [Nat.zero_add] at c4 c8
    clear N
    cases hs : (Tn.nd d m).inS with
    | true =>
      rw [hs] at c8
      clear hbk
      go_wp2_with fail
      go_ret
      exact ⟨rfl, B4.out⟩
    | false =>
      rw [hs] at c8
      obtain ⟨hu1, hu2, hu3⟩ := up_live hF.out.good hm.out.1 hm.out.2
      have hul' : Tn.upD d m < d.length := Tn.lv_lt hu1
      have hul : Tn.upD d m < rs.length := by rw [D4.out.len]; exact hul'
      have HB := hbk.out hs
      rw [hu3] at c4 HB
      have HB1 : Hid (Tn.applyE (Tn.applyD d ⟨3, (m : Int), t, bf, ⟨#[]⟩, ⟨#[]⟩⟩) ⟨3, (m : Int), ((Tn.upD d m : Nat) : Int), nx (Tn.nd d (Tn.upD d m)).kids m (Tn.nd d (Tn.upD d m)).kids.length, ⟨#[]⟩, ⟨#[]⟩⟩ = 0) := HB.1
      have HB2 : Hid (Tn.applyD (Tn.applyD d ⟨3, (m : Int), t, bf, ⟨#[]⟩, ⟨#[]⟩⟩) ⟨3, (m : Int), ((Tn.upD d m : Nat) : Int), nx (Tn.nd d (Tn.upD d m)).kids m (Tn.nd d (Tn.upD d m)).kids.length, ⟨#[]⟩, ⟨#[]⟩⟩ = d) := HB.2
      have c5 := D4.out.row.c5 (Tn.upD d m) hul
      have K := (D4.out.nds (Tn.upD d m) hul hul').kids
      rw [← nd_at hul'] at K
      have hkl : rs[Tn.upD d m].k.n = (Tn.nd d (Tn.upD d m)).kids.length := by
        obtain ⟨_, _, he, _⟩ := K
        injection he
      rw [hkl] at K c5
      simp only [Nat.zero_add] at c5
      clear HB hbk hu1 hu2 hu3 hkl
      generalize Tn.applyD d ⟨3, (m : Int), t, bf, ⟨#[]⟩, ⟨#[]⟩⟩ = Y at *
      generalize (Tn.nd d (Tn.upD d m)).kids = ks at *
      generalize rs[Tn.upD d m].k.p = kp at *
      generalize rs[Tn.upD d m].k.c = kc at *
      generalize Tn.upD d m = u at *
      obtain ⟨_, _, he, hk1, hk2, _, hat⟩ := K.at
      cases he
      have T : Hid (∀ j (hj : j < ks.length), ∃ b o, kp = some ⟨b, o, none⟩ ∧ w3.cell? ⟨b, o + j, none⟩ = some (.int .i64 (ks[j] : Int))) := hat
      clear K hat
      have HAp2 : Hid (Calls Try.prog 41 #[.slice (some ⟨g', 0, none⟩) rs'.length c', .agg #[.int .i64 3, .int .i64 (m : Int), .int .i64 (u : Int), .int .i64 (nx ks m ks.length), .string ⟨#[]⟩, .string ⟨#[]⟩]] w3 fun e w' => Below w3.heap.size w3 w' ∧ ∃ (g' c' : Nat) (rs' : List Raw), e = .returned (.tuple #[.slice (some ⟨g', 0, none⟩) rs'.length c', .int .i64 (m : Int), .int .i64 0]) ∧ DocAt w' g' 0 c' rs' d) := by
        refine (dapply_any hY.out hFY.out 3 (m : Int) (u : Int) (nx ks m ks.length) ⟨#[]⟩ ⟨#[]⟩ (by decide) (by decide)).mono ?_
        rintro e w' ⟨e1, ⟨e2, e3⟩ | ⟨e2, g', c', rs', e3, e4, _⟩⟩
        · exact absurd HB1.out e2
        · rw [HB2.out] at e4
          exact ⟨e1, g', c', rs', e3, e4⟩
      have hk12 : ks.length ≤ 9223372036854775807 := by omega
      clear HB1 HB2 hY hFY hm
      go_wp2_with fail
      go_loopw [14, 53] (fun nv iv wr => ∃ j : Nat, j ≤ ks.length ∧ iv = .int .i64 j ∧ nv = .int .i64 (nx ks m j) ∧ wr = w3) (fun _ i _ => ks.length - (intOf i).toNat)
      case atStart => exact ⟨0, Nat.zero_le _, rfl, rfl, rfl⟩
      case round =>
        obtain ⟨j, hj, rfl, rfl, rfl⟩ := hrel
        by_cases hlt : j < ks.length
        · obtain ⟨b0, o0, rfl, k0⟩ := T.out j hlt
          have hks : ks[j]? = some ks[j] := List.getElem?_eq_getElem hlt
          by_cases hq : ks[j] = m
          · by_cases hj1 : j + 1 < ks.length
            · obtain ⟨b1, o1, e1, k1⟩ := T.out (j + 1) hj1
              cases e1
              have N1 : Hid (nx ks m (j + 1) = (ks[j + 1] : Int)) := by
                show _ = _
                rw [nx, if_pos ⟨by rw [hks, hq], hj1⟩, List.getElem?_eq_getElem hj1]
                rfl
              rw [hq] at k0
              clear hks hq
              generalize ks[j + 1] = kn at *
              generalize nx ks m j = no at *
              have hw1 : IntKind.i64.wrap ((j : Int) + 1) = (j : Int) + 1 := by rw [IntKind.wrap_i64]; omega
              have htn : ((j : Int) + 1).toNat = j + 1 := by omega
              go_wp2_with fail
              go_roundw
              case rel => exact ⟨j + 1, by omega, by go_num, by rw [N1.out], trivial⟩
              case measure => simp [intOf]; omega
            · have N1 : Hid (nx ks m (j + 1) = nx ks m j) := by
                show _ = _
                rw [nx, if_neg (fun h => hj1 h.2)]
              rw [hq] at k0
              clear hks hq
              generalize nx ks m j = no at *
              have hw1 : IntKind.i64.wrap ((j : Int) + 1) = (j : Int) + 1 := by rw [IntKind.wrap_i64]; omega
              have hnl : ¬ ((j : Int) + 1 < (ks.length : Int)) := by omega
              go_wp2_with fail
              go_roundw
              case rel => exact ⟨j + 1, by omega, by go_num, by rw [N1.out], trivial⟩
              case measure => simp [intOf]; omega
          · have N1 : Hid (nx ks m (j + 1) = nx ks m j) := by
              show _ = _
              rw [nx, if_neg (fun h => by rw [hks] at h; exact hq (by injection h.1))]
            have hqz : ((ks[j] : Int) == (m : Int)) = false := by simp; omega
            clear hks hq
            generalize nx ks m j = no at *
            generalize ks[j] = kj at *
            go_wp2_with fail
            go_roundw
            case rel => exact ⟨j + 1, by omega, by go_num, by rw [N1.out], trivial⟩
            case measure => simp [intOf]; omega
        · obtain rfl : j = ks.length := by omega
          generalize nx ks m ks.length = no at *
          go_wp2_with fail
          refine HAp2.out.mono ?_
          rintro e w8 ⟨b8, g8, c8', rs8, rfl, hd8⟩
          have B8 : Hid (Below w.heap.size w w8) := B4.out.trans (b8.mono B4.out.size)
          have D8 : Hid (DocAt w8 g 0 c rs d) := D4.out.keeps (keeps_below b8 (Nat.le_refl _))
          have Z8 : Hid (DocAt w8 g8 0 c8' rs8 d) := hd8
          clear b8 hd8
          go_wp2_with fail
          refine (rsame_true Z8.out D8.out hL.out).mono ?_
          rintro e w9 ⟨rfl, b9⟩
          have B9 : Hid (Below w.heap.size w w9) := B8.out.trans (b9.mono B8.out.size)
          clear b9 B8 D8 Z8
          go_wp2_with fail
          go_ret
          exact ⟨rfl, B9.out⟩
end Go.Proofs.Ytookcjdibpccpaa
