/-
  OWN WORK: Dae, Daf, Dcb, Dad, Dca, Dcr, Dcs, Dap.
-/
import Derived.Test.YtookcjdibpccpaaP9
import Derived.Test.YtookcjdibpccpaaP4
import Derived.Deep.RegionHeld3
import Derived.Test.YtookcjdibpccpaaP7
import Derived.Test.YtookcjdibpccpaaP6
/-
  THE WALK of dom.add, in a document of the call's own, at the kind 9.
-/
namespace Go.Proofs.Ytookcjdibpccpaa
open Go.RowKit

set_option maxHeartbeats 3200000 in
set_option maxRecDepth 100000 in
theorem dadd_Nine {w : World} {B g c : Nat} {rs : List Raw} {d : Tn.Dc} (h : Owned w B g c rs d) (hB : B ≤ w.heap.size) (hlr : rs.length ≤ 900) (x : Tn.Chg) (hkd : x.kind = 9) (hnm : x.name.size ≤ 4194304) (hvl : x.value.size ≤ 4194304) {m : Nat} (hxm : x.node = (m : Int)) (hm : m < rs.length)
    (hls : ∀ s, (Tn.liD (addIn d x) m s).length ≤ 1000)
    (hT : freshE x = 0 → Tn.free d < 60 → 0 ≤ putAt (Tn.listOf (Tn.nd (addIn d x) m) true) (-1) → (Tn.listOf (Tn.nd (addIn d x) m) true).length < 12 → Tame (putDoc (addIn d x) (Tn.free d) m (-1) true) ∧ (∀ j t, (Tn.liD (putDoc (addIn d x) (Tn.free d) m (-1) true) j t).length ≤ 1000) ∧ Tn.lvD (putDoc (addIn d x) (Tn.free d) m (-1) true) (Tn.free d) = true) :
    Calls Try.prog 73 #[.slice (some ⟨g, 0, none⟩) rs.length c, chg6 x] w fun e w' => ∃ dv nv, e = .returned (.tuple #[dv, .int .i64 nv, .int .i64 (addCode d x m (-1) true)]) ∧ Below B w w' ∧ (addCode d x m (-1) true = 0 → nv = (Tn.free d : Int) ∧ ∃ g' c' rs', dv = .slice (some ⟨g', 0, none⟩) rs'.length c' ∧ Owned w' B g' c' rs' (putDoc (addIn d x) (Tn.free d) m (-1) true) ∧ Fr g rs w g' rs' w') := by
  have h0 : 0 < rs.length := by omega
  obtain ⟨kd, nd0, tt, bf, nm, vl⟩ := x
  simp only at hxm hnm hvl hkd
  subst hxm
  subst hkd
  have W1 : Below w.heap.size w (w.alloc (.cells #[.int .i64 9, .int .i64 (m : Int), .int .i64 tt, .int .i64 bf, .string nm, .string vl] 32)) := (Below.refl _ _).alloc (Nat.le_refl _) _
  have hFr := dfresh_any (w := w.alloc (.cells #[.int .i64 9, .int .i64 (m : Int), .int .i64 tt, .int .i64 bf, .string nm, .string vl] 32)) ⟨9, (m : Int), tt, bf, nm, vl⟩ hnm hvl
  simp only at hFr
  have x0 : (w.alloc (.cells #[.int .i64 9, .int .i64 (m : Int), .int .i64 tt, .int .i64 bf, .string nm, .string vl] 32)).cell? ⟨w.heap.size, 0, none⟩ = some (.int .i64 9) := by rw [World.cell?_alloc_new]; rfl
  have x1 : (w.alloc (.cells #[.int .i64 9, .int .i64 (m : Int), .int .i64 tt, .int .i64 bf, .string nm, .string vl] 32)).cell? ⟨w.heap.size, 1, none⟩ = some (.int .i64 (m : Int)) := by rw [World.cell?_alloc_new]; rfl
  have x2 : (w.alloc (.cells #[.int .i64 9, .int .i64 (m : Int), .int .i64 tt, .int .i64 bf, .string nm, .string vl] 32)).cell? ⟨w.heap.size, 2, none⟩ = some (.int .i64 tt) := by rw [World.cell?_alloc_new]; rfl
  have x3 : (w.alloc (.cells #[.int .i64 9, .int .i64 (m : Int), .int .i64 tt, .int .i64 bf, .string nm, .string vl] 32)).cell? ⟨w.heap.size, 3, none⟩ = some (.int .i64 bf) := by rw [World.cell?_alloc_new]; rfl
  have x4 : (w.alloc (.cells #[.int .i64 9, .int .i64 (m : Int), .int .i64 tt, .int .i64 bf, .string nm, .string vl] 32)).cell? ⟨w.heap.size, 4, none⟩ = some (.string nm) := by rw [World.cell?_alloc_new]; rfl
  have x5 : (w.alloc (.cells #[.int .i64 9, .int .i64 (m : Int), .int .i64 tt, .int .i64 bf, .string nm, .string vl] 32)).cell? ⟨w.heap.size, 5, none⟩ = some (.string vl) := by rw [World.cell?_alloc_new]; rfl
  have BA : Below B w (w.alloc (.cells #[.int .i64 9, .int .i64 (m : Int), .int .i64 tt, .int .i64 bf, .string nm, .string vl] 32)) := (Below.refl B w).alloc hB _
  have O1 : Owned (w.alloc (.cells #[.int .i64 9, .int .i64 (m : Int), .int .i64 tt, .int .i64 bf, .string nm, .string vl] 32)) B g c rs d := h.below W1 (Nat.le_refl _)
  have F1 : Fr g rs w g rs (w.alloc (.cells #[.int .i64 9, .int .i64 (m : Int), .int .i64 tt, .int .i64 bf, .string nm, .string vl] 32)) := (Fr.refl g rs w).below W1
  have hz1 : w.heap.size < (w.alloc (.cells #[.int .i64 9, .int .i64 (m : Int), .int .i64 tt, .int .i64 bf, .string nm, .string vl] 32)).heap.size := by simp
  have hfX : ¬ DB g rs w.heap.size := h.free h0 (Nat.le_refl _)
  unfold chg6
  simp only
  clear h W1
  rcases freshV_cases ⟨9, (m : Int), tt, bf, nm, vl⟩ with ⟨hfe, hfv⟩ | ⟨hfe, hfv⟩
  · have E : Hid (addCode d ⟨9, (m : Int), tt, bf, nm, vl⟩ m (-1) true = freshE ⟨9, (m : Int), tt, bf, nm, vl⟩) := by show _ = _; unfold addCode; rw [if_pos hfe]
    rw [hfv] at hFr
    unfold zeroN at hFr
    have hq : (freshE ⟨9, (m : Int), tt, bf, nm, vl⟩ == 0) = false := by simpa using hfe
    have QN : Hid _ := hfe
    clear hT hls hfv hfe
    generalize freshE ⟨9, (m : Int), tt, bf, nm, vl⟩ = fe at *
    go_enter Try.func73, Try.ntmps73
    go_wp2_with (go_at_call 87; refine hFr.mono ?_; rintro e w2 ⟨rfl, hb2⟩)
    go_ret3
    refine ⟨.slice (some ⟨g, 0, none⟩) rs.length c, 0, by rw [E.out]; rfl, ?_, fun hc => absurd (by rw [← E.out]; exact hc) QN.out⟩
    exact (BA.trans (hb2.mono (by omega))).alloc (by have := hb2.size; omega) _
  · rw [hfv] at hFr
    have hB0 : Below (w.alloc (.cells #[.int .i64 9, .int .i64 (m : Int), .int .i64 tt, .int .i64 bf, .string nm, .string vl] 32)).heap.size (w.alloc (.cells #[.int .i64 9, .int .i64 (m : Int), .int .i64 tt, .int .i64 bf, .string nm, .string vl] 32)) (w.alloc (.cells #[.int .i64 9, .int .i64 (m : Int), .int .i64 tt, .int .i64 bf, .string nm, .string vl] 32)) := Below.refl _ _
    have AC : Hid (addCode d ⟨9, (m : Int), tt, bf, nm, vl⟩ m (-1) true = if true = true ∧ (Tn.nd d m).hasS = false then 8 else if 60 ≤ Tn.free d then 5 else putCode (addIn d ⟨9, (m : Int), tt, bf, nm, vl⟩) (Tn.free d) m (-1) true) := by
      show _ = _
      unfold addCode
      rw [if_neg (by simp [hfe])]
    have hbare := bare_new ⟨9, (m : Int), tt, bf, nm, vl⟩
    have hAI : Hid (addIn d ⟨9, (m : Int), tt, bf, nm, vl⟩ = (if Tn.free d = d.length then d ++ [Tn.zero] else d).set (Tn.free d) (newNd ⟨9, (m : Int), tt, bf, nm, vl⟩)) := rfl
    have HT2 : Hid _ := hT hfe
    have HLS : Hid _ := hls
    obtain ⟨nR, hnR⟩ : ∃ r, r = newR ⟨9, (m : Int), tt, bf, nm, vl⟩ := ⟨_, rfl⟩
    rw [← hnR] at hFr hbare
    have ea := hbare.a
    have ek := hbare.k
    have es := hbare.s
    obtain ⟨lv, tg, tx, la, up, lk, hs, ls, ins⟩ := nR
    simp only at ea ek es
    subst ea
    subst ek
    subst es
    simp only [Raw.agg] at hFr
    clear hT hls hfv hnR hB0 hfe
    generalize newNd ⟨9, (m : Int), tt, bf, nm, vl⟩ = nN at *
    generalize addIn d ⟨9, (m : Int), tt, bf, nm, vl⟩ = dA at *
    obtain ⟨n, hn⟩ : ∃ n, n = Tn.free d := ⟨_, rfl⟩
    rw [← hn] at AC HT2 hAI ⊢
    have HN : Hid (n = Tn.free d) := hn
    clear hn
    go_enter Try.func73, Try.ntmps73
    go_upto_region 1 with fail
    generalize w.alloc (.cells #[.int .i64 9, .int .i64 (m : Int), .int .i64 tt, .int .i64 bf, .string nm, .string vl] 32) = wA at *
    go_upto_region 2 with (go_at_call 87; refine hFr.mono ?_; rintro e w2 ⟨rfl, hb2⟩)
    have B2 : Below wA.heap.size wA (w2.alloc (.cells #[.bool lv, .string tg, .string tx, .slice none 0 0, .int .i64 up, .slice none 0 0, .bool hs, .slice none 0 0, .bool ins] 56)) := hb2.alloc hb2.size _
    have K2 := keeps_below B2 (Nat.le_refl _)
    have u0 := K2 _ _ x0
    have u1 := K2 _ _ x1
    have u3 := K2 _ _ x3
    have O3 : Hid (Owned (w2.alloc (.cells #[.bool lv, .string tg, .string tx, .slice none 0 0, .int .i64 up, .slice none 0 0, .bool hs, .slice none 0 0, .bool ins] 56)) B g c rs d) := O1.below B2 (Nat.le_refl _)
    have F3 : Fr g rs w g rs (w2.alloc (.cells #[.bool lv, .string tg, .string tx, .slice none 0 0, .int .i64 up, .slice none 0 0, .bool hs, .slice none 0 0, .bool ins] 56)) := F1.below B2
    have B3 : Below B w (w2.alloc (.cells #[.bool lv, .string tg, .string tx, .slice none 0 0, .int .i64 up, .slice none 0 0, .bool hs, .slice none 0 0, .bool ins] 56)) := BA.trans (B2.mono (by omega))
    have bY := box_new w2 (⟨lv, tg, tx, ⟨none, 0, 0⟩, up, ⟨none, 0, 0⟩, hs, ⟨none, 0, 0⟩, ins⟩ : Raw) 56
    have hfY : ¬ DB g rs w2.heap.size := O1.free h0 hb2.size
    simp only at bY
    go_upto_region 4 with fail
    generalize w2.alloc (.cells #[.bool lv, .string tg, .string tx, .slice none 0 0, .int .i64 up, .slice none 0 0, .bool hs, .slice none 0 0, .bool ins] 56) = w3 at *
    generalize w2.heap.size = Y at *
    generalize hX : w.heap.size = X at *
    have HX : Hid _ := hX
    clear hX
    clear x0 x1 x2 x3 x4 x5 K2 B2 hb2 O1 F1 BA hFr
    have D3 : Hid (DocAt w3 g 0 c rs d) := O3.out.doc h0
    have c6 := D3.out.row.c6 m hm
    go_quiet (fail)
    have OQ : Hid (Owned (w3.drewN nq) B g c rs d) := O3.out.below (below_drewN w3.heap.size w3 nq) (Nat.le_refl _)
    have FQ : Fr g rs w g rs (w3.drewN nq) := F3.below (below_drewN _ w3 nq)
    have BQ : Below B w (w3.drewN nq) := B3.trans (below_drewN B w3 nq)
    have v1 : (w3.drewN nq).cell? ⟨X, 1, none⟩ = some (.int .i64 (m : Int)) := u1
    have bQ : BoxAt (w3.drewN nq) Y ⟨lv, tg, tx, ⟨none, 0, 0⟩, up, ⟨none, 0, 0⟩, hs, ⟨none, 0, 0⟩, ins⟩ := bY.keeps (keeps_drewN w3 nq)
    have c6q : (w3.drewN nq).cell? ⟨g, 0 + m * 9 + 6, none⟩ = some (.bool rs[m].hasS) := c6
    generalize w3.drewN nq = w4 at *
    clear u0 u1 u3 O3 F3 B3 bY D3
    have hml : m < d.length := by have := OQ.out.len; omega
    have cS : rs[m].hasS = (Tn.nd d m).hasS := by
      have e := ((OQ.out.doc h0).nds m hm hml).hasS
      rw [e]
      unfold Tn.nd
      simp [hml]
    rw [cS, Nat.zero_add] at c6q
    clear cS
    rcases hS : (Tn.nd d m).hasS with _ | _
    · have ACQ : Hid (addCode d ⟨9, (m : Int), tt, bf, nm, vl⟩ m (-1) true = 8) := by show _ = _; rw [AC.out, hS]; rfl
      rw [hS] at c6q
      clear hS
      go_wp2_with fail
      go_ret3
      exact ⟨.slice (some ⟨g, 0, none⟩) rs.length c, 0, by rw [ACQ.out]; rfl, BQ, fun hc => by rw [ACQ.out] at hc; cases hc⟩
    · rw [hS] at c6q
      have HS : Hid _ := hS
      clear hS
      have DQ : Hid (DocAt w4 g 0 c rs d) := OQ.out.doc h0
      have hFF := dfree_any DQ.out (by omega)
      rw [← HN.out] at hFF
      go_upto_region 10 with (go_at_call 88; refine hFF.mono ?_; rintro e w5 ⟨rfl, hb5⟩)
      have O5 : Hid (Owned w5 B g c rs d) := OQ.out.below hb5 (Nat.le_refl _)
      have F5 := FQ.below hb5
      have hBw5 : B ≤ w5.heap.size := by
        have e1 := HX.out
        have e2 := F5.size
        omega
      have B5 := BQ.trans (hb5.mono (by have e1 := HX.out; have e2 := FQ.size; omega))
      have v15 := keeps_below hb5 (Nat.le_refl _) _ _ v1
      have b5 := bQ.keeps (keeps_below hb5 (Nat.le_refl _))
      clear OQ FQ BQ v1 bQ DQ hFF hb5
      have hf3 : n ≤ rs.length := by
        have e1 := (Tn.free_spec d).1
        rw [← HN.out, ← O5.out.len] at e1
        exact e1
      by_cases h60 : 60 ≤ n
      · have ACQ : Hid (addCode d ⟨9, (m : Int), tt, bf, nm, vl⟩ m (-1) true = 5) := by show _ = _; rw [AC.out, if_neg (by rw [HS.out]; simp), if_pos h60]
        go_wp2_with fail
        go_ret3
        exact ⟨_, 0, by rw [ACQ.out]; rfl, B5, fun hc => by rw [ACQ.out] at hc; cases hc⟩
      · have ACQ : Hid (addCode d ⟨9, (m : Int), tt, bf, nm, vl⟩ m (-1) true = putCode dA n m (-1) true) := by show _ = _; rw [AC.out, if_neg (by rw [HS.out]; simp), if_neg h60]
        by_cases hnl : n < rs.length
        · have AI : Hid (dA = d.set n nN) := by show _ = _; rw [hAI.out, if_neg (by have := O5.out.len; omega)]
          have hq : ((n : Int) == (rs.length : Int)) = false := by simp; omega
          obtain ⟨O6, F6⟩ := O5.out.bare (k := n) hnl hbare
          rw [← AI.out] at O6
          have hPut := dput_any O6 (Nat.le_trans hBw5 (set9_grown _ _ _ _).size) (n := n) (m := m) (by simpa using hnl) (by simpa using hm) HLS.out (-1) true (HT2.out (by omega))
          simp only [List.length_set] at hPut
          have DJ := O5.out.doc (by omega)
          obtain ⟨hBg, hgl, hfz⟩ := O5.out.at (by omega)
          have q0 := DJ.row.c0 _ hnl
          have q1 := DJ.row.c1 _ hnl
          have q2 := DJ.row.c2 _ hnl
          have q3 := DJ.row.c3 _ hnl
          have q4 := DJ.row.c4 _ hnl
          have q5 := DJ.row.c5 _ hnl
          have q6 := DJ.row.c6 _ hnl
          have q7 := DJ.row.c7 _ hnl
          have q8 := DJ.row.c8 _ hnl
          rw [Nat.zero_add] at q0 q1 q2 q3 q4 q5 q6 q7 q8
          have v6 := F6.cell v15 hfX
          have QF6 : Hid _ := F5.trans F6
          have QB6 : Hid (Below B w (set9 w5 g n ⟨lv, tg, tx, ⟨none, 0, 0⟩, up, ⟨none, 0, 0⟩, hs, ⟨none, 0, 0⟩, ins⟩)) := B5.grown (set9_grown _ _ _ _) hBw5 (fun k hk => by cases hk; exact hBg)
          clear O6 F6 DJ
          obtain ⟨wS, hwS⟩ : ∃ wS, wS = set9 w5 g n ⟨lv, tg, tx, ⟨none, 0, 0⟩, up, ⟨none, 0, 0⟩, hs, ⟨none, 0, 0⟩, ins⟩ := ⟨_, rfl⟩
          rw [← hwS] at hPut v6 QF6 QB6
          unfold set9 at hwS
          simp only at hwS
          have HW : Hid _ := hwS
          clear hwS
          generalize rs[n] = rx at *
          obtain ⟨rl, rt, rv, ⟨ap, an, ac⟩, ru, ⟨kp, kn, kc⟩, rh, ⟨sp, sn, sc⟩, ri⟩ := rx
          simp only at q0 q1 q2 q3 q4 q5 q6 q7 q8
          obtain ⟨y0, y1, y2, y3, y4, y5, y6, y7, y8⟩ := b5
          simp only at y0 y1 y2 y3 y4 y5 y6 y7 y8
          have hxl : (n : Int) < (rs.length : Int) := by omega
          go_upto_region 15 with fail
          rw [← HW.out]
          go_wp2_with (go_at_call 84; refine hPut.mono ?_; rintro e w7 ⟨rfl, hb7, ho7⟩)
          have HO : Hid _ := ho7
          go_ret3
          refine ⟨.slice (some ⟨g, 0, none⟩) rs.length c, (n : Int), by rw [ACQ.out]; rfl, QB6.out.trans hb7, fun hc => ?_⟩
          rw [ACQ.out] at hc
          obtain ⟨rs7, h71, O7, F7⟩ := HO.out hc
          exact ⟨rfl, g, c, rs7, by rw [h71], O7, QF6.out.trans F7⟩
        · have hq : ((n : Int) == (rs.length : Int)) = true := by simp; omega
          have W6 : Below w5.heap.size w5 (w5.alloc (.cells #[.bool false, .string ⟨#[]⟩, .string ⟨#[]⟩, .slice none 0 0, .int .i64 0, .slice none 0 0, .bool false, .slice none 0 0, .bool false] 56)) := (Below.refl _ _).alloc (Nat.le_refl _) _
          obtain ⟨g', c', w6, hr, O6', F6', B6'⟩ := Owned.push (w := w5.alloc (.cells #[.bool false, .string ⟨#[]⟩, .string ⟨#[]⟩, .slice none 0 0, .int .i64 0, .slice none 0 0, .bool false, .slice none 0 0, .bool false] 56)) (O5.out.below W6 (Nat.le_refl _)) (Nat.le_trans hBw5 W6.size) h0 (by omega) 34 (a := w5.heap.size) (alloc_at _ _)
          have hlq : Hid ((rs ++ [zeroR]).length = rs.length + 1) := by show _ = _; simp
          have hfY' := hfY
          have b6 := (b5.keeps (keeps_below W6 (Nat.le_refl _))).fr F6' hfY
          have v16 := F6'.cell (keeps_below W6 (Nat.le_refl _) _ _ v15) hfX
          have hfX6 : ¬ DB g' (rs ++ [zeroR]) X := fun e => hfX (F6'.back X (lt_of_cell (keeps_below W6 (Nat.le_refl _) _ _ v15)) e)
          have F7' := (F5.below W6).trans F6'
          have B7' := (B5.trans (W6.mono hBw5)).trans B6'
          have hBw6 : B ≤ w6.heap.size := by
            have e1 := HX.out
            have e2 := F7'.size
            omega
          have O8 : Hid _ := O6'
          have AI : Hid (dA = (d ++ [Tn.zero]).set n nN) := by show _ = _; rw [hAI.out, if_pos (by have := O5.out.len; omega)]
          clear F6' B6' O6' W6 b5 v15 hfX hfY hfY' F5 B5
          generalize rs ++ [zeroR] = rq at *
          have hnq : n < rq.length := by rw [hlq.out]; omega
          have hmq : m < rq.length := by rw [hlq.out]; omega
          go_upto_region 14 with (at_builtin; refine wpList_append_at _ rfl _ _ 34 34 rfl _ _ rfl rfl hr ?_)
          clear hr
          obtain ⟨O6, F6⟩ := O8.out.bare (k := n) hnq hbare
          rw [← AI.out] at O6
          have hPut := dput_any O6 (Nat.le_trans hBw6 (set9_grown _ _ _ _).size) (n := n) (m := m) (by simpa using hnq) (by simpa using hmq) HLS.out (-1) true (HT2.out (by omega))
          simp only [List.length_set] at hPut
          have DJ := O8.out.doc (by omega)
          obtain ⟨hBg, hgl, hfz⟩ := O8.out.at (by omega)
          have q0 := DJ.row.c0 _ hnq
          have q1 := DJ.row.c1 _ hnq
          have q2 := DJ.row.c2 _ hnq
          have q3 := DJ.row.c3 _ hnq
          have q4 := DJ.row.c4 _ hnq
          have q5 := DJ.row.c5 _ hnq
          have q6 := DJ.row.c6 _ hnq
          have q7 := DJ.row.c7 _ hnq
          have q8 := DJ.row.c8 _ hnq
          rw [Nat.zero_add] at q0 q1 q2 q3 q4 q5 q6 q7 q8
          have v6 := F6.cell v16 hfX6
          have QF6 : Hid _ := F7'.trans F6
          have QB6 : Hid (Below B w (set9 w6 g' n ⟨lv, tg, tx, ⟨none, 0, 0⟩, up, ⟨none, 0, 0⟩, hs, ⟨none, 0, 0⟩, ins⟩)) := B7'.grown (set9_grown _ _ _ _) hBw6 (fun k hk => by cases hk; exact hBg)
          clear O6 F6 DJ
          obtain ⟨wS, hwS⟩ : ∃ wS, wS = set9 w6 g' n ⟨lv, tg, tx, ⟨none, 0, 0⟩, up, ⟨none, 0, 0⟩, hs, ⟨none, 0, 0⟩, ins⟩ := ⟨_, rfl⟩
          rw [← hwS] at hPut v6 QF6 QB6
          unfold set9 at hwS
          simp only at hwS
          have HW : Hid _ := hwS
          clear hwS
          generalize rq[n] = rx at *
          obtain ⟨rl, rt, rv, ⟨ap, an, ac⟩, ru, ⟨kp, kn, kc⟩, rh, ⟨sp, sn, sc⟩, ri⟩ := rx
          simp only at q0 q1 q2 q3 q4 q5 q6 q7 q8
          obtain ⟨y0, y1, y2, y3, y4, y5, y6, y7, y8⟩ := b6
          simp only at y0 y1 y2 y3 y4 y5 y6 y7 y8
          have hxl : (n : Int) < (rq.length : Int) := by omega
          go_upto_region 15 with fail
          rw [← HW.out]
          go_wp2_with (go_at_call 84; refine hPut.mono ?_; rintro e w7 ⟨rfl, hb7, ho7⟩)
          have HO : Hid _ := ho7
          go_ret3
          refine ⟨.slice (some ⟨g', 0, none⟩) rq.length c', (n : Int), by rw [ACQ.out]; rfl, QB6.out.trans hb7, fun hc => ?_⟩
          rw [ACQ.out] at hc
          obtain ⟨rs7, h71, O7, F7⟩ := HO.out hc
          exact ⟨rfl, g', c', rs7, by rw [h71], O7, QF6.out.trans F7⟩
end Go.Proofs.Ytookcjdibpccpaa

/-
  THE WALK of dom.add, in a document of the call's own, at the kind 10.
-/
namespace Go.Proofs.Ytookcjdibpccpaa
open Go.RowKit

set_option maxHeartbeats 3200000 in
set_option maxRecDepth 100000 in
theorem dadd_Ten {w : World} {B g c : Nat} {rs : List Raw} {d : Tn.Dc} (h : Owned w B g c rs d) (hB : B ≤ w.heap.size) (hlr : rs.length ≤ 900) (x : Tn.Chg) (hkd : x.kind = 10) (hnm : x.name.size ≤ 4194304) (hvl : x.value.size ≤ 4194304) {m : Nat} (hxm : x.node = (m : Int)) (hm : m < rs.length)
    (hls : ∀ s, (Tn.liD (addIn d x) m s).length ≤ 1000)
    (hT : freshE x = 0 → Tn.free d < 60 → 0 ≤ putAt (Tn.listOf (Tn.nd (addIn d x) m) true) (-1) → (Tn.listOf (Tn.nd (addIn d x) m) true).length < 12 → Tame (putDoc (addIn d x) (Tn.free d) m (-1) true) ∧ (∀ j t, (Tn.liD (putDoc (addIn d x) (Tn.free d) m (-1) true) j t).length ≤ 1000) ∧ Tn.lvD (putDoc (addIn d x) (Tn.free d) m (-1) true) (Tn.free d) = true) :
    Calls Try.prog 73 #[.slice (some ⟨g, 0, none⟩) rs.length c, chg6 x] w fun e w' => ∃ dv nv, e = .returned (.tuple #[dv, .int .i64 nv, .int .i64 (addCode d x m (-1) true)]) ∧ Below B w w' ∧ (addCode d x m (-1) true = 0 → nv = (Tn.free d : Int) ∧ ∃ g' c' rs', dv = .slice (some ⟨g', 0, none⟩) rs'.length c' ∧ Owned w' B g' c' rs' (putDoc (addIn d x) (Tn.free d) m (-1) true) ∧ Fr g rs w g' rs' w') := by
  have h0 : 0 < rs.length := by omega
  obtain ⟨kd, nd0, tt, bf, nm, vl⟩ := x
  simp only at hxm hnm hvl hkd
  subst hxm
  subst hkd
  have W1 : Below w.heap.size w (w.alloc (.cells #[.int .i64 10, .int .i64 (m : Int), .int .i64 tt, .int .i64 bf, .string nm, .string vl] 32)) := (Below.refl _ _).alloc (Nat.le_refl _) _
  have hFr := dfresh_any (w := w.alloc (.cells #[.int .i64 10, .int .i64 (m : Int), .int .i64 tt, .int .i64 bf, .string nm, .string vl] 32)) ⟨10, (m : Int), tt, bf, nm, vl⟩ hnm hvl
  simp only at hFr
  have x0 : (w.alloc (.cells #[.int .i64 10, .int .i64 (m : Int), .int .i64 tt, .int .i64 bf, .string nm, .string vl] 32)).cell? ⟨w.heap.size, 0, none⟩ = some (.int .i64 10) := by rw [World.cell?_alloc_new]; rfl
  have x1 : (w.alloc (.cells #[.int .i64 10, .int .i64 (m : Int), .int .i64 tt, .int .i64 bf, .string nm, .string vl] 32)).cell? ⟨w.heap.size, 1, none⟩ = some (.int .i64 (m : Int)) := by rw [World.cell?_alloc_new]; rfl
  have x2 : (w.alloc (.cells #[.int .i64 10, .int .i64 (m : Int), .int .i64 tt, .int .i64 bf, .string nm, .string vl] 32)).cell? ⟨w.heap.size, 2, none⟩ = some (.int .i64 tt) := by rw [World.cell?_alloc_new]; rfl
  have x3 : (w.alloc (.cells #[.int .i64 10, .int .i64 (m : Int), .int .i64 tt, .int .i64 bf, .string nm, .string vl] 32)).cell? ⟨w.heap.size, 3, none⟩ = some (.int .i64 bf) := by rw [World.cell?_alloc_new]; rfl
  have x4 : (w.alloc (.cells #[.int .i64 10, .int .i64 (m : Int), .int .i64 tt, .int .i64 bf, .string nm, .string vl] 32)).cell? ⟨w.heap.size, 4, none⟩ = some (.string nm) := by rw [World.cell?_alloc_new]; rfl
  have x5 : (w.alloc (.cells #[.int .i64 10, .int .i64 (m : Int), .int .i64 tt, .int .i64 bf, .string nm, .string vl] 32)).cell? ⟨w.heap.size, 5, none⟩ = some (.string vl) := by rw [World.cell?_alloc_new]; rfl
  have BA : Below B w (w.alloc (.cells #[.int .i64 10, .int .i64 (m : Int), .int .i64 tt, .int .i64 bf, .string nm, .string vl] 32)) := (Below.refl B w).alloc hB _
  have O1 : Owned (w.alloc (.cells #[.int .i64 10, .int .i64 (m : Int), .int .i64 tt, .int .i64 bf, .string nm, .string vl] 32)) B g c rs d := h.below W1 (Nat.le_refl _)
  have F1 : Fr g rs w g rs (w.alloc (.cells #[.int .i64 10, .int .i64 (m : Int), .int .i64 tt, .int .i64 bf, .string nm, .string vl] 32)) := (Fr.refl g rs w).below W1
  have hz1 : w.heap.size < (w.alloc (.cells #[.int .i64 10, .int .i64 (m : Int), .int .i64 tt, .int .i64 bf, .string nm, .string vl] 32)).heap.size := by simp
  have hfX : ¬ DB g rs w.heap.size := h.free h0 (Nat.le_refl _)
  unfold chg6
  simp only
  clear h W1
  rcases freshV_cases ⟨10, (m : Int), tt, bf, nm, vl⟩ with ⟨hfe, hfv⟩ | ⟨hfe, hfv⟩
  · have E : Hid (addCode d ⟨10, (m : Int), tt, bf, nm, vl⟩ m (-1) true = freshE ⟨10, (m : Int), tt, bf, nm, vl⟩) := by show _ = _; unfold addCode; rw [if_pos hfe]
    rw [hfv] at hFr
    unfold zeroN at hFr
    have hq : (freshE ⟨10, (m : Int), tt, bf, nm, vl⟩ == 0) = false := by simpa using hfe
    have QN : Hid _ := hfe
    clear hT hls hfv hfe
    generalize freshE ⟨10, (m : Int), tt, bf, nm, vl⟩ = fe at *
    go_enter Try.func73, Try.ntmps73
    go_wp2_with (go_at_call 87; refine hFr.mono ?_; rintro e w2 ⟨rfl, hb2⟩)
    go_ret3
    refine ⟨.slice (some ⟨g, 0, none⟩) rs.length c, 0, by rw [E.out]; rfl, ?_, fun hc => absurd (by rw [← E.out]; exact hc) QN.out⟩
    exact (BA.trans (hb2.mono (by omega))).alloc (by have := hb2.size; omega) _
  · rw [hfv] at hFr
    have hB0 : Below (w.alloc (.cells #[.int .i64 10, .int .i64 (m : Int), .int .i64 tt, .int .i64 bf, .string nm, .string vl] 32)).heap.size (w.alloc (.cells #[.int .i64 10, .int .i64 (m : Int), .int .i64 tt, .int .i64 bf, .string nm, .string vl] 32)) (w.alloc (.cells #[.int .i64 10, .int .i64 (m : Int), .int .i64 tt, .int .i64 bf, .string nm, .string vl] 32)) := Below.refl _ _
    have AC : Hid (addCode d ⟨10, (m : Int), tt, bf, nm, vl⟩ m (-1) true = if true = true ∧ (Tn.nd d m).hasS = false then 8 else if 60 ≤ Tn.free d then 5 else putCode (addIn d ⟨10, (m : Int), tt, bf, nm, vl⟩) (Tn.free d) m (-1) true) := by
      show _ = _
      unfold addCode
      rw [if_neg (by simp [hfe])]
    have hbare := bare_new ⟨10, (m : Int), tt, bf, nm, vl⟩
    have hAI : Hid (addIn d ⟨10, (m : Int), tt, bf, nm, vl⟩ = (if Tn.free d = d.length then d ++ [Tn.zero] else d).set (Tn.free d) (newNd ⟨10, (m : Int), tt, bf, nm, vl⟩)) := rfl
    have HT2 : Hid _ := hT hfe
    have HLS : Hid _ := hls
    obtain ⟨nR, hnR⟩ : ∃ r, r = newR ⟨10, (m : Int), tt, bf, nm, vl⟩ := ⟨_, rfl⟩
    rw [← hnR] at hFr hbare
    have ea := hbare.a
    have ek := hbare.k
    have es := hbare.s
    obtain ⟨lv, tg, tx, la, up, lk, hs, ls, ins⟩ := nR
    simp only at ea ek es
    subst ea
    subst ek
    subst es
    simp only [Raw.agg] at hFr
    clear hT hls hfv hnR hB0 hfe
    generalize newNd ⟨10, (m : Int), tt, bf, nm, vl⟩ = nN at *
    generalize addIn d ⟨10, (m : Int), tt, bf, nm, vl⟩ = dA at *
    obtain ⟨n, hn⟩ : ∃ n, n = Tn.free d := ⟨_, rfl⟩
    rw [← hn] at AC HT2 hAI ⊢
    have HN : Hid (n = Tn.free d) := hn
    clear hn
    go_enter Try.func73, Try.ntmps73
    go_upto_region 1 with fail
    generalize w.alloc (.cells #[.int .i64 10, .int .i64 (m : Int), .int .i64 tt, .int .i64 bf, .string nm, .string vl] 32) = wA at *
    go_upto_region 2 with (go_at_call 87; refine hFr.mono ?_; rintro e w2 ⟨rfl, hb2⟩)
    have B2 : Below wA.heap.size wA (w2.alloc (.cells #[.bool lv, .string tg, .string tx, .slice none 0 0, .int .i64 up, .slice none 0 0, .bool hs, .slice none 0 0, .bool ins] 56)) := hb2.alloc hb2.size _
    have K2 := keeps_below B2 (Nat.le_refl _)
    have u0 := K2 _ _ x0
    have u1 := K2 _ _ x1
    have u3 := K2 _ _ x3
    have O3 : Hid (Owned (w2.alloc (.cells #[.bool lv, .string tg, .string tx, .slice none 0 0, .int .i64 up, .slice none 0 0, .bool hs, .slice none 0 0, .bool ins] 56)) B g c rs d) := O1.below B2 (Nat.le_refl _)
    have F3 : Fr g rs w g rs (w2.alloc (.cells #[.bool lv, .string tg, .string tx, .slice none 0 0, .int .i64 up, .slice none 0 0, .bool hs, .slice none 0 0, .bool ins] 56)) := F1.below B2
    have B3 : Below B w (w2.alloc (.cells #[.bool lv, .string tg, .string tx, .slice none 0 0, .int .i64 up, .slice none 0 0, .bool hs, .slice none 0 0, .bool ins] 56)) := BA.trans (B2.mono (by omega))
    have bY := box_new w2 (⟨lv, tg, tx, ⟨none, 0, 0⟩, up, ⟨none, 0, 0⟩, hs, ⟨none, 0, 0⟩, ins⟩ : Raw) 56
    have hfY : ¬ DB g rs w2.heap.size := O1.free h0 hb2.size
    simp only at bY
    go_upto_region 4 with fail
    generalize w2.alloc (.cells #[.bool lv, .string tg, .string tx, .slice none 0 0, .int .i64 up, .slice none 0 0, .bool hs, .slice none 0 0, .bool ins] 56) = w3 at *
    generalize w2.heap.size = Y at *
    generalize hX : w.heap.size = X at *
    have HX : Hid _ := hX
    clear hX
    clear x0 x1 x2 x3 x4 x5 K2 B2 hb2 O1 F1 BA hFr
    have D3 : Hid (DocAt w3 g 0 c rs d) := O3.out.doc h0
    have c6 := D3.out.row.c6 m hm
    go_quiet (fail)
    have OQ : Hid (Owned (w3.drewN nq) B g c rs d) := O3.out.below (below_drewN w3.heap.size w3 nq) (Nat.le_refl _)
    have FQ : Fr g rs w g rs (w3.drewN nq) := F3.below (below_drewN _ w3 nq)
    have BQ : Below B w (w3.drewN nq) := B3.trans (below_drewN B w3 nq)
    have v1 : (w3.drewN nq).cell? ⟨X, 1, none⟩ = some (.int .i64 (m : Int)) := u1
    have bQ : BoxAt (w3.drewN nq) Y ⟨lv, tg, tx, ⟨none, 0, 0⟩, up, ⟨none, 0, 0⟩, hs, ⟨none, 0, 0⟩, ins⟩ := bY.keeps (keeps_drewN w3 nq)
    have c6q : (w3.drewN nq).cell? ⟨g, 0 + m * 9 + 6, none⟩ = some (.bool rs[m].hasS) := c6
    generalize w3.drewN nq = w4 at *
    clear u0 u1 u3 O3 F3 B3 bY D3
    have hml : m < d.length := by have := OQ.out.len; omega
    have cS : rs[m].hasS = (Tn.nd d m).hasS := by
      have e := ((OQ.out.doc h0).nds m hm hml).hasS
      rw [e]
      unfold Tn.nd
      simp [hml]
    rw [cS, Nat.zero_add] at c6q
    clear cS
    rcases hS : (Tn.nd d m).hasS with _ | _
    · have ACQ : Hid (addCode d ⟨10, (m : Int), tt, bf, nm, vl⟩ m (-1) true = 8) := by show _ = _; rw [AC.out, hS]; rfl
      rw [hS] at c6q
      clear hS
      go_wp2_with fail
      go_ret3
      exact ⟨.slice (some ⟨g, 0, none⟩) rs.length c, 0, by rw [ACQ.out]; rfl, BQ, fun hc => by rw [ACQ.out] at hc; cases hc⟩
    · rw [hS] at c6q
      have HS : Hid _ := hS
      clear hS
      have DQ : Hid (DocAt w4 g 0 c rs d) := OQ.out.doc h0
      have hFF := dfree_any DQ.out (by omega)
      rw [← HN.out] at hFF
      go_upto_region 10 with (go_at_call 88; refine hFF.mono ?_; rintro e w5 ⟨rfl, hb5⟩)
      have O5 : Hid (Owned w5 B g c rs d) := OQ.out.below hb5 (Nat.le_refl _)
      have F5 := FQ.below hb5
      have hBw5 : B ≤ w5.heap.size := by
        have e1 := HX.out
        have e2 := F5.size
        omega
      have B5 := BQ.trans (hb5.mono (by have e1 := HX.out; have e2 := FQ.size; omega))
      have v15 := keeps_below hb5 (Nat.le_refl _) _ _ v1
      have b5 := bQ.keeps (keeps_below hb5 (Nat.le_refl _))
      clear OQ FQ BQ v1 bQ DQ hFF hb5
      have hf3 : n ≤ rs.length := by
        have e1 := (Tn.free_spec d).1
        rw [← HN.out, ← O5.out.len] at e1
        exact e1
      by_cases h60 : 60 ≤ n
      · have ACQ : Hid (addCode d ⟨10, (m : Int), tt, bf, nm, vl⟩ m (-1) true = 5) := by show _ = _; rw [AC.out, if_neg (by rw [HS.out]; simp), if_pos h60]
        go_wp2_with fail
        go_ret3
        exact ⟨_, 0, by rw [ACQ.out]; rfl, B5, fun hc => by rw [ACQ.out] at hc; cases hc⟩
      · have ACQ : Hid (addCode d ⟨10, (m : Int), tt, bf, nm, vl⟩ m (-1) true = putCode dA n m (-1) true) := by show _ = _; rw [AC.out, if_neg (by rw [HS.out]; simp), if_neg h60]
        by_cases hnl : n < rs.length
        · have AI : Hid (dA = d.set n nN) := by show _ = _; rw [hAI.out, if_neg (by have := O5.out.len; omega)]
          have hq : ((n : Int) == (rs.length : Int)) = false := by simp; omega
          obtain ⟨O6, F6⟩ := O5.out.bare (k := n) hnl hbare
          rw [← AI.out] at O6
          have hPut := dput_any O6 (Nat.le_trans hBw5 (set9_grown _ _ _ _).size) (n := n) (m := m) (by simpa using hnl) (by simpa using hm) HLS.out (-1) true (HT2.out (by omega))
          simp only [List.length_set] at hPut
          have DJ := O5.out.doc (by omega)
          obtain ⟨hBg, hgl, hfz⟩ := O5.out.at (by omega)
          have q0 := DJ.row.c0 _ hnl
          have q1 := DJ.row.c1 _ hnl
          have q2 := DJ.row.c2 _ hnl
          have q3 := DJ.row.c3 _ hnl
          have q4 := DJ.row.c4 _ hnl
          have q5 := DJ.row.c5 _ hnl
          have q6 := DJ.row.c6 _ hnl
          have q7 := DJ.row.c7 _ hnl
          have q8 := DJ.row.c8 _ hnl
          rw [Nat.zero_add] at q0 q1 q2 q3 q4 q5 q6 q7 q8
          have v6 := F6.cell v15 hfX
          have QF6 : Hid _ := F5.trans F6
          have QB6 : Hid (Below B w (set9 w5 g n ⟨lv, tg, tx, ⟨none, 0, 0⟩, up, ⟨none, 0, 0⟩, hs, ⟨none, 0, 0⟩, ins⟩)) := B5.grown (set9_grown _ _ _ _) hBw5 (fun k hk => by cases hk; exact hBg)
          clear O6 F6 DJ
          obtain ⟨wS, hwS⟩ : ∃ wS, wS = set9 w5 g n ⟨lv, tg, tx, ⟨none, 0, 0⟩, up, ⟨none, 0, 0⟩, hs, ⟨none, 0, 0⟩, ins⟩ := ⟨_, rfl⟩
          rw [← hwS] at hPut v6 QF6 QB6
          unfold set9 at hwS
          simp only at hwS
          have HW : Hid _ := hwS
          clear hwS
          generalize rs[n] = rx at *
          obtain ⟨rl, rt, rv, ⟨ap, an, ac⟩, ru, ⟨kp, kn, kc⟩, rh, ⟨sp, sn, sc⟩, ri⟩ := rx
          simp only at q0 q1 q2 q3 q4 q5 q6 q7 q8
          obtain ⟨y0, y1, y2, y3, y4, y5, y6, y7, y8⟩ := b5
          simp only at y0 y1 y2 y3 y4 y5 y6 y7 y8
          have hxl : (n : Int) < (rs.length : Int) := by omega
          go_upto_region 15 with fail
          rw [← HW.out]
          go_wp2_with (go_at_call 84; refine hPut.mono ?_; rintro e w7 ⟨rfl, hb7, ho7⟩)
          have HO : Hid _ := ho7
          go_ret3
          refine ⟨.slice (some ⟨g, 0, none⟩) rs.length c, (n : Int), by rw [ACQ.out]; rfl, QB6.out.trans hb7, fun hc => ?_⟩
          rw [ACQ.out] at hc
          obtain ⟨rs7, h71, O7, F7⟩ := HO.out hc
          exact ⟨rfl, g, c, rs7, by rw [h71], O7, QF6.out.trans F7⟩
        · have hq : ((n : Int) == (rs.length : Int)) = true := by simp; omega
          have W6 : Below w5.heap.size w5 (w5.alloc (.cells #[.bool false, .string ⟨#[]⟩, .string ⟨#[]⟩, .slice none 0 0, .int .i64 0, .slice none 0 0, .bool false, .slice none 0 0, .bool false] 56)) := (Below.refl _ _).alloc (Nat.le_refl _) _
          obtain ⟨g', c', w6, hr, O6', F6', B6'⟩ := Owned.push (w := w5.alloc (.cells #[.bool false, .string ⟨#[]⟩, .string ⟨#[]⟩, .slice none 0 0, .int .i64 0, .slice none 0 0, .bool false, .slice none 0 0, .bool false] 56)) (O5.out.below W6 (Nat.le_refl _)) (Nat.le_trans hBw5 W6.size) h0 (by omega) 34 (a := w5.heap.size) (alloc_at _ _)
          have hlq : Hid ((rs ++ [zeroR]).length = rs.length + 1) := by show _ = _; simp
          have hfY' := hfY
          have b6 := (b5.keeps (keeps_below W6 (Nat.le_refl _))).fr F6' hfY
          have v16 := F6'.cell (keeps_below W6 (Nat.le_refl _) _ _ v15) hfX
          have hfX6 : ¬ DB g' (rs ++ [zeroR]) X := fun e => hfX (F6'.back X (lt_of_cell (keeps_below W6 (Nat.le_refl _) _ _ v15)) e)
          have F7' := (F5.below W6).trans F6'
          have B7' := (B5.trans (W6.mono hBw5)).trans B6'
          have hBw6 : B ≤ w6.heap.size := by
            have e1 := HX.out
            have e2 := F7'.size
            omega
          have O8 : Hid _ := O6'
          have AI : Hid (dA = (d ++ [Tn.zero]).set n nN) := by show _ = _; rw [hAI.out, if_pos (by have := O5.out.len; omega)]
          clear F6' B6' O6' W6 b5 v15 hfX hfY hfY' F5 B5
          generalize rs ++ [zeroR] = rq at *
          have hnq : n < rq.length := by rw [hlq.out]; omega
          have hmq : m < rq.length := by rw [hlq.out]; omega
          go_upto_region 14 with (at_builtin; refine wpList_append_at _ rfl _ _ 34 34 rfl _ _ rfl rfl hr ?_)
          clear hr
          obtain ⟨O6, F6⟩ := O8.out.bare (k := n) hnq hbare
          rw [← AI.out] at O6
          have hPut := dput_any O6 (Nat.le_trans hBw6 (set9_grown _ _ _ _).size) (n := n) (m := m) (by simpa using hnq) (by simpa using hmq) HLS.out (-1) true (HT2.out (by omega))
          simp only [List.length_set] at hPut
          have DJ := O8.out.doc (by omega)
          obtain ⟨hBg, hgl, hfz⟩ := O8.out.at (by omega)
          have q0 := DJ.row.c0 _ hnq
          have q1 := DJ.row.c1 _ hnq
          have q2 := DJ.row.c2 _ hnq
          have q3 := DJ.row.c3 _ hnq
          have q4 := DJ.row.c4 _ hnq
          have q5 := DJ.row.c5 _ hnq
          have q6 := DJ.row.c6 _ hnq
          have q7 := DJ.row.c7 _ hnq
          have q8 := DJ.row.c8 _ hnq
          rw [Nat.zero_add] at q0 q1 q2 q3 q4 q5 q6 q7 q8
          have v6 := F6.cell v16 hfX6
          have QF6 : Hid _ := F7'.trans F6
          have QB6 : Hid (Below B w (set9 w6 g' n ⟨lv, tg, tx, ⟨none, 0, 0⟩, up, ⟨none, 0, 0⟩, hs, ⟨none, 0, 0⟩, ins⟩)) := B7'.grown (set9_grown _ _ _ _) hBw6 (fun k hk => by cases hk; exact hBg)
          clear O6 F6 DJ
          obtain ⟨wS, hwS⟩ : ∃ wS, wS = set9 w6 g' n ⟨lv, tg, tx, ⟨none, 0, 0⟩, up, ⟨none, 0, 0⟩, hs, ⟨none, 0, 0⟩, ins⟩ := ⟨_, rfl⟩
          rw [← hwS] at hPut v6 QF6 QB6
          unfold set9 at hwS
          simp only at hwS
          have HW : Hid _ := hwS
          clear hwS
          generalize rq[n] = rx at *
          obtain ⟨rl, rt, rv, ⟨ap, an, ac⟩, ru, ⟨kp, kn, kc⟩, rh, ⟨sp, sn, sc⟩, ri⟩ := rx
          simp only at q0 q1 q2 q3 q4 q5 q6 q7 q8
          obtain ⟨y0, y1, y2, y3, y4, y5, y6, y7, y8⟩ := b6
          simp only at y0 y1 y2 y3 y4 y5 y6 y7 y8
          have hxl : (n : Int) < (rq.length : Int) := by omega
          go_upto_region 15 with fail
          rw [← HW.out]
          go_wp2_with (go_at_call 84; refine hPut.mono ?_; rintro e w7 ⟨rfl, hb7, ho7⟩)
          have HO : Hid _ := ho7
          go_ret3
          refine ⟨.slice (some ⟨g', 0, none⟩) rq.length c', (n : Int), by rw [ACQ.out]; rfl, QB6.out.trans hb7, fun hc => ?_⟩
          rw [ACQ.out] at hc
          obtain ⟨rs7, h71, O7, F7⟩ := HO.out hc
          exact ⟨rfl, g', c', rs7, by rw [h71], O7, QF6.out.trans F7⟩
end Go.Proofs.Ytookcjdibpccpaa

/-
  THE WALK of dom.change, in a document of the call's own: a node is made in a shadow tree.
-/
namespace Go.Proofs.Ytookcjdibpccpaa
open Go.RowKit

set_option maxHeartbeats 400000 in
set_option maxRecDepth 100000 in
theorem dchange_Nine {w : World} {B g c : Nat} {rs : List Raw} {d : Tn.Dc} (h : Owned w B g c rs d) (hB : B ≤ w.heap.size) (hlr : rs.length ≤ 900) (tt bf : Int) (nm vl : ByteArray) (hnm : nm.size ≤ 4194304) (hvl : vl.size ≤ 4194304) {m : Nat} (hm : m < rs.length)
    (hls : ∀ s, (Tn.liD (addIn d ⟨9, (m : Int), tt, bf, nm, vl⟩) m s).length ≤ 1000)
    (hT : freshE ⟨9, (m : Int), tt, bf, nm, vl⟩ = 0 → Tn.free d < 60 → 0 ≤ putAt (Tn.listOf (Tn.nd (addIn d ⟨9, (m : Int), tt, bf, nm, vl⟩) m) true) (-1) → (Tn.listOf (Tn.nd (addIn d ⟨9, (m : Int), tt, bf, nm, vl⟩) m) true).length < 12 → Tame (putDoc (addIn d ⟨9, (m : Int), tt, bf, nm, vl⟩) (Tn.free d) m (-1) true) ∧ (∀ j t, (Tn.liD (putDoc (addIn d ⟨9, (m : Int), tt, bf, nm, vl⟩) (Tn.free d) m (-1) true) j t).length ≤ 1000) ∧ Tn.lvD (putDoc (addIn d ⟨9, (m : Int), tt, bf, nm, vl⟩) (Tn.free d) m (-1) true) (Tn.free d) = true) :
    Calls Try.prog 57 #[.slice (some ⟨g, 0, none⟩) rs.length c, chg6 ⟨9, (m : Int), tt, bf, nm, vl⟩] w fun e w' => ∃ dv nv cd, e = .returned (.tuple #[dv, .int .i64 nv, .int .i64 cd]) ∧ Below B w w' ∧ cd = (if Tn.isN d (m : Int) true = true then addCode d ⟨9, (m : Int), tt, bf, nm, vl⟩ m (-1) true else 8) ∧ (cd = 0 → nv = (Tn.free d : Int) ∧ ∃ g' c' rs', dv = .slice (some ⟨g', 0, none⟩) rs'.length c' ∧ Owned w' B g' c' rs' (putDoc (addIn d ⟨9, (m : Int), tt, bf, nm, vl⟩) (Tn.free d) m (-1) true)) := by
  have H : Hid (Owned w B g c rs d) := h
  clear h
  have W1 : Below w.heap.size w (w.alloc (.cells #[.int .i64 9, .int .i64 (m : Int), .int .i64 tt, .int .i64 bf, .string nm, .string vl] 32)) := (Below.refl _ _).alloc (Nat.le_refl _) _
  have O1 := H.out.below W1 (Nat.le_refl _)
  have HA : Hid (Calls Try.prog 73 #[.slice (some ⟨g, 0, none⟩) rs.length c, chg6 ⟨9, (m : Int), tt, bf, nm, vl⟩] (w.alloc (.cells #[.int .i64 9, .int .i64 (m : Int), .int .i64 tt, .int .i64 bf, .string nm, .string vl] 32)) fun e w' => ∃ dv nv, e = .returned (.tuple #[dv, .int .i64 nv, .int .i64 (addCode d ⟨9, (m : Int), tt, bf, nm, vl⟩ m (-1) true)]) ∧ Below B (w.alloc (.cells #[.int .i64 9, .int .i64 (m : Int), .int .i64 tt, .int .i64 bf, .string nm, .string vl] 32)) w' ∧ (addCode d ⟨9, (m : Int), tt, bf, nm, vl⟩ m (-1) true = 0 → nv = (Tn.free d : Int) ∧ ∃ g' c' rs', dv = .slice (some ⟨g', 0, none⟩) rs'.length c' ∧ Owned w' B g' c' rs' (putDoc (addIn d ⟨9, (m : Int), tt, bf, nm, vl⟩) (Tn.free d) m (-1) true) ∧ Fr g rs (w.alloc (.cells #[.int .i64 9, .int .i64 (m : Int), .int .i64 tt, .int .i64 bf, .string nm, .string vl] 32)) g' rs' w')) :=
    dadd_Nine O1 (Nat.le_trans hB W1.size) hlr ⟨9, (m : Int), tt, bf, nm, vl⟩ rfl hnm hvl rfl hm hls hT
  have HD : Hid (DocAt (w.alloc (.cells #[.int .i64 9, .int .i64 (m : Int), .int .i64 tt, .int .i64 bf, .string nm, .string vl] 32)) g 0 c rs d) := O1.doc (by omega)
  have HB1 : Hid (Below B w (w.alloc (.cells #[.int .i64 9, .int .i64 (m : Int), .int .i64 tt, .int .i64 bf, .string nm, .string vl] 32))) := (Below.refl B w).alloc hB _
  have x4 : (w.alloc (.cells #[.int .i64 9, .int .i64 (m : Int), .int .i64 tt, .int .i64 bf, .string nm, .string vl] 32)).cell? ⟨w.heap.size, 0, none⟩ = some (.int .i64 9) := by rw [World.cell?_alloc_new]; rfl
  clear hls hT W1 O1
  cases hi : Tn.isN d (m : Int) true with
  | true =>
    unfold chg6
    simp only
    go_enter Try.func57, Try.ntmps57
    go_wp2_with fail
    refine (dis_any HD.out (m : Int) true).mono ?_
    rintro e w1 ⟨rfl, hw1⟩
    subst hw1
    rw [hi]
    go_wp2_with fail
    refine HA.out.mono ?_
    rintro e w2 ⟨dv, nv, rfl, b2, hz⟩
    have HZ : Hid (addCode d ⟨9, (m : Int), tt, bf, nm, vl⟩ m (-1) true = 0 → nv = (Tn.free d : Int) ∧ ∃ (g' c' : Nat) (rs' : List Raw), dv = .slice (some ⟨g', 0, none⟩) rs'.length c' ∧ Owned w2 B g' c' rs' (putDoc (addIn d ⟨9, (m : Int), tt, bf, nm, vl⟩) (Tn.free d) m (-1) true) ∧ Fr g rs (w.alloc (.cells #[.int .i64 9, .int .i64 (m : Int), .int .i64 tt, .int .i64 bf, .string nm, .string vl] 32)) g' rs' w2) := hz
    clear hz
    generalize hcd : addCode d _ m (-1) true = cd at *
    go_wp2_with fail
    go_ret3
    refine ⟨_, _, _, rfl, HB1.out.trans b2, rfl, fun h0 => ?_⟩
    obtain ⟨h1, g', c', rs', h2, h3, _⟩ := HZ.out h0
    exact ⟨h1, g', c', rs', h2, h3⟩
  | false =>
    unfold chg6
    simp only
    go_enter Try.func57, Try.ntmps57
    go_wp2_with fail
    refine (dis_any HD.out (m : Int) true).mono ?_
    rintro e w1 ⟨rfl, hw1⟩
    subst hw1
    rw [hi]
    go_wp2_with fail
    go_ret3
    exact ⟨_, _, _, rfl, HB1.out, rfl, fun h => by cases h⟩

set_option maxHeartbeats 400000 in
set_option maxRecDepth 100000 in
theorem dchange_Ten {w : World} {B g c : Nat} {rs : List Raw} {d : Tn.Dc} (h : Owned w B g c rs d) (hB : B ≤ w.heap.size) (hlr : rs.length ≤ 900) (tt bf : Int) (nm vl : ByteArray) (hnm : nm.size ≤ 4194304) (hvl : vl.size ≤ 4194304) {m : Nat} (hm : m < rs.length)
    (hls : ∀ s, (Tn.liD (addIn d ⟨10, (m : Int), tt, bf, nm, vl⟩) m s).length ≤ 1000)
    (hT : freshE ⟨10, (m : Int), tt, bf, nm, vl⟩ = 0 → Tn.free d < 60 → 0 ≤ putAt (Tn.listOf (Tn.nd (addIn d ⟨10, (m : Int), tt, bf, nm, vl⟩) m) true) (-1) → (Tn.listOf (Tn.nd (addIn d ⟨10, (m : Int), tt, bf, nm, vl⟩) m) true).length < 12 → Tame (putDoc (addIn d ⟨10, (m : Int), tt, bf, nm, vl⟩) (Tn.free d) m (-1) true) ∧ (∀ j t, (Tn.liD (putDoc (addIn d ⟨10, (m : Int), tt, bf, nm, vl⟩) (Tn.free d) m (-1) true) j t).length ≤ 1000) ∧ Tn.lvD (putDoc (addIn d ⟨10, (m : Int), tt, bf, nm, vl⟩) (Tn.free d) m (-1) true) (Tn.free d) = true) :
    Calls Try.prog 57 #[.slice (some ⟨g, 0, none⟩) rs.length c, chg6 ⟨10, (m : Int), tt, bf, nm, vl⟩] w fun e w' => ∃ dv nv cd, e = .returned (.tuple #[dv, .int .i64 nv, .int .i64 cd]) ∧ Below B w w' ∧ cd = (if Tn.isN d (m : Int) true = true then addCode d ⟨10, (m : Int), tt, bf, nm, vl⟩ m (-1) true else 8) ∧ (cd = 0 → nv = (Tn.free d : Int) ∧ ∃ g' c' rs', dv = .slice (some ⟨g', 0, none⟩) rs'.length c' ∧ Owned w' B g' c' rs' (putDoc (addIn d ⟨10, (m : Int), tt, bf, nm, vl⟩) (Tn.free d) m (-1) true)) := by
  have H : Hid (Owned w B g c rs d) := h
  clear h
  have W1 : Below w.heap.size w (w.alloc (.cells #[.int .i64 10, .int .i64 (m : Int), .int .i64 tt, .int .i64 bf, .string nm, .string vl] 32)) := (Below.refl _ _).alloc (Nat.le_refl _) _
  have O1 := H.out.below W1 (Nat.le_refl _)
  have HA : Hid (Calls Try.prog 73 #[.slice (some ⟨g, 0, none⟩) rs.length c, chg6 ⟨10, (m : Int), tt, bf, nm, vl⟩] (w.alloc (.cells #[.int .i64 10, .int .i64 (m : Int), .int .i64 tt, .int .i64 bf, .string nm, .string vl] 32)) fun e w' => ∃ dv nv, e = .returned (.tuple #[dv, .int .i64 nv, .int .i64 (addCode d ⟨10, (m : Int), tt, bf, nm, vl⟩ m (-1) true)]) ∧ Below B (w.alloc (.cells #[.int .i64 10, .int .i64 (m : Int), .int .i64 tt, .int .i64 bf, .string nm, .string vl] 32)) w' ∧ (addCode d ⟨10, (m : Int), tt, bf, nm, vl⟩ m (-1) true = 0 → nv = (Tn.free d : Int) ∧ ∃ g' c' rs', dv = .slice (some ⟨g', 0, none⟩) rs'.length c' ∧ Owned w' B g' c' rs' (putDoc (addIn d ⟨10, (m : Int), tt, bf, nm, vl⟩) (Tn.free d) m (-1) true) ∧ Fr g rs (w.alloc (.cells #[.int .i64 10, .int .i64 (m : Int), .int .i64 tt, .int .i64 bf, .string nm, .string vl] 32)) g' rs' w')) :=
    dadd_Ten O1 (Nat.le_trans hB W1.size) hlr ⟨10, (m : Int), tt, bf, nm, vl⟩ rfl hnm hvl rfl hm hls hT
  have HD : Hid (DocAt (w.alloc (.cells #[.int .i64 10, .int .i64 (m : Int), .int .i64 tt, .int .i64 bf, .string nm, .string vl] 32)) g 0 c rs d) := O1.doc (by omega)
  have HB1 : Hid (Below B w (w.alloc (.cells #[.int .i64 10, .int .i64 (m : Int), .int .i64 tt, .int .i64 bf, .string nm, .string vl] 32))) := (Below.refl B w).alloc hB _
  have x4 : (w.alloc (.cells #[.int .i64 10, .int .i64 (m : Int), .int .i64 tt, .int .i64 bf, .string nm, .string vl] 32)).cell? ⟨w.heap.size, 0, none⟩ = some (.int .i64 10) := by rw [World.cell?_alloc_new]; rfl
  clear hls hT W1 O1
  cases hi : Tn.isN d (m : Int) true with
  | true =>
    unfold chg6
    simp only
    go_enter Try.func57, Try.ntmps57
    go_wp2_with fail
    refine (dis_any HD.out (m : Int) true).mono ?_
    rintro e w1 ⟨rfl, hw1⟩
    subst hw1
    rw [hi]
    go_wp2_with fail
    refine HA.out.mono ?_
    rintro e w2 ⟨dv, nv, rfl, b2, hz⟩
    have HZ : Hid (addCode d ⟨10, (m : Int), tt, bf, nm, vl⟩ m (-1) true = 0 → nv = (Tn.free d : Int) ∧ ∃ (g' c' : Nat) (rs' : List Raw), dv = .slice (some ⟨g', 0, none⟩) rs'.length c' ∧ Owned w2 B g' c' rs' (putDoc (addIn d ⟨10, (m : Int), tt, bf, nm, vl⟩) (Tn.free d) m (-1) true) ∧ Fr g rs (w.alloc (.cells #[.int .i64 10, .int .i64 (m : Int), .int .i64 tt, .int .i64 bf, .string nm, .string vl] 32)) g' rs' w2) := hz
    clear hz
    generalize hcd : addCode d _ m (-1) true = cd at *
    go_wp2_with fail
    go_ret3
    refine ⟨_, _, _, rfl, HB1.out.trans b2, rfl, fun h0 => ?_⟩
    obtain ⟨h1, g', c', rs', h2, h3, _⟩ := HZ.out h0
    exact ⟨h1, g', c', rs', h2, h3⟩
  | false =>
    unfold chg6
    simp only
    go_enter Try.func57, Try.ntmps57
    go_wp2_with fail
    refine (dis_any HD.out (m : Int) true).mono ?_
    rintro e w1 ⟨rfl, hw1⟩
    subst hw1
    rw [hi]
    go_wp2_with fail
    go_ret3
    exact ⟨_, _, _, rfl, HB1.out, rfl, fun h => by cases h⟩
end Go.Proofs.Ytookcjdibpccpaa

/-
  THE WALK of dom.add, in a document of the call's own.
-/
namespace Go.Proofs.Ytookcjdibpccpaa
open Go.RowKit

set_option maxHeartbeats 3200000 in
set_option maxRecDepth 100000 in
theorem dadd_Out {w : World} {B g c : Nat} {rs : List Raw} {d : Tn.Dc} (h : Owned w B g c rs d) (hB : B ≤ w.heap.size) (hlr : rs.length ≤ 900) (x : Tn.Chg) (h9 : (x.kind == 9) = false) (h10 : (x.kind == 10) = false) (hnm : x.name.size ≤ 4194304) (hvl : x.value.size ≤ 4194304) {m : Nat} (hxm : x.node = (m : Int)) (hm : m < rs.length)
    (hls : ∀ s, (Tn.liD (addIn d x) m s).length ≤ 1000)
    (hT : freshE x = 0 → Tn.free d < 60 → 0 ≤ putAt (Tn.listOf (Tn.nd (addIn d x) m) false) x.before → (Tn.listOf (Tn.nd (addIn d x) m) false).length < 12 → Tame (putDoc (addIn d x) (Tn.free d) m x.before false) ∧ (∀ j t, (Tn.liD (putDoc (addIn d x) (Tn.free d) m x.before false) j t).length ≤ 1000) ∧ Tn.lvD (putDoc (addIn d x) (Tn.free d) m x.before false) (Tn.free d) = true) :
    Calls Try.prog 73 #[.slice (some ⟨g, 0, none⟩) rs.length c, chg6 x] w fun e w' => ∃ dv nv, e = .returned (.tuple #[dv, .int .i64 nv, .int .i64 (addCode d x m x.before false)]) ∧ Below B w w' ∧ (addCode d x m x.before false = 0 → nv = (Tn.free d : Int) ∧ ∃ g' c' rs', dv = .slice (some ⟨g', 0, none⟩) rs'.length c' ∧ Owned w' B g' c' rs' (putDoc (addIn d x) (Tn.free d) m x.before false) ∧ Fr g rs w g' rs' w') := by
  have h0 : 0 < rs.length := by omega
  obtain ⟨kd, nd0, tt, bf, nm, vl⟩ := x
  simp only at hxm hnm hvl h9 h10
  subst hxm
  simp only at hls hT
  have W1 : Below w.heap.size w (w.alloc (.cells #[.int .i64 kd, .int .i64 (m : Int), .int .i64 tt, .int .i64 bf, .string nm, .string vl] 32)) := (Below.refl _ _).alloc (Nat.le_refl _) _
  have hFr := dfresh_any (w := w.alloc (.cells #[.int .i64 kd, .int .i64 (m : Int), .int .i64 tt, .int .i64 bf, .string nm, .string vl] 32)) ⟨kd, (m : Int), tt, bf, nm, vl⟩ hnm hvl
  simp only at hFr
  have x0 : (w.alloc (.cells #[.int .i64 kd, .int .i64 (m : Int), .int .i64 tt, .int .i64 bf, .string nm, .string vl] 32)).cell? ⟨w.heap.size, 0, none⟩ = some (.int .i64 kd) := by rw [World.cell?_alloc_new]; rfl
  have x1 : (w.alloc (.cells #[.int .i64 kd, .int .i64 (m : Int), .int .i64 tt, .int .i64 bf, .string nm, .string vl] 32)).cell? ⟨w.heap.size, 1, none⟩ = some (.int .i64 (m : Int)) := by rw [World.cell?_alloc_new]; rfl
  have x2 : (w.alloc (.cells #[.int .i64 kd, .int .i64 (m : Int), .int .i64 tt, .int .i64 bf, .string nm, .string vl] 32)).cell? ⟨w.heap.size, 2, none⟩ = some (.int .i64 tt) := by rw [World.cell?_alloc_new]; rfl
  have x3 : (w.alloc (.cells #[.int .i64 kd, .int .i64 (m : Int), .int .i64 tt, .int .i64 bf, .string nm, .string vl] 32)).cell? ⟨w.heap.size, 3, none⟩ = some (.int .i64 bf) := by rw [World.cell?_alloc_new]; rfl
  have x4 : (w.alloc (.cells #[.int .i64 kd, .int .i64 (m : Int), .int .i64 tt, .int .i64 bf, .string nm, .string vl] 32)).cell? ⟨w.heap.size, 4, none⟩ = some (.string nm) := by rw [World.cell?_alloc_new]; rfl
  have x5 : (w.alloc (.cells #[.int .i64 kd, .int .i64 (m : Int), .int .i64 tt, .int .i64 bf, .string nm, .string vl] 32)).cell? ⟨w.heap.size, 5, none⟩ = some (.string vl) := by rw [World.cell?_alloc_new]; rfl
  have BA : Below B w (w.alloc (.cells #[.int .i64 kd, .int .i64 (m : Int), .int .i64 tt, .int .i64 bf, .string nm, .string vl] 32)) := (Below.refl B w).alloc hB _
  have O1 : Owned (w.alloc (.cells #[.int .i64 kd, .int .i64 (m : Int), .int .i64 tt, .int .i64 bf, .string nm, .string vl] 32)) B g c rs d := h.below W1 (Nat.le_refl _)
  have F1 : Fr g rs w g rs (w.alloc (.cells #[.int .i64 kd, .int .i64 (m : Int), .int .i64 tt, .int .i64 bf, .string nm, .string vl] 32)) := (Fr.refl g rs w).below W1
  have hz1 : w.heap.size < (w.alloc (.cells #[.int .i64 kd, .int .i64 (m : Int), .int .i64 tt, .int .i64 bf, .string nm, .string vl] 32)).heap.size := by simp
  have hfX : ¬ DB g rs w.heap.size := h.free h0 (Nat.le_refl _)
  unfold chg6
  simp only
  clear h W1
  rcases freshV_cases ⟨kd, (m : Int), tt, bf, nm, vl⟩ with ⟨hfe, hfv⟩ | ⟨hfe, hfv⟩
  · have E : Hid (addCode d ⟨kd, (m : Int), tt, bf, nm, vl⟩ m bf false = freshE ⟨kd, (m : Int), tt, bf, nm, vl⟩) := by show _ = _; unfold addCode; rw [if_pos hfe]
    rw [hfv] at hFr
    unfold zeroN at hFr
    have hq : (freshE ⟨kd, (m : Int), tt, bf, nm, vl⟩ == 0) = false := by simpa using hfe
    have QN : Hid _ := hfe
    clear hT hls hfv hfe
    generalize freshE ⟨kd, (m : Int), tt, bf, nm, vl⟩ = fe at *
    go_enter Try.func73, Try.ntmps73
    go_wp2_with (go_at_call 87; refine hFr.mono ?_; rintro e w2 ⟨rfl, hb2⟩)
    go_ret3
    refine ⟨.slice (some ⟨g, 0, none⟩) rs.length c, 0, by rw [E.out]; rfl, ?_, fun hc => absurd (by rw [← E.out]; exact hc) QN.out⟩
    exact (BA.trans (hb2.mono (by omega))).alloc (by have := hb2.size; omega) _
  · rw [hfv] at hFr
    have hB0 : Below (w.alloc (.cells #[.int .i64 kd, .int .i64 (m : Int), .int .i64 tt, .int .i64 bf, .string nm, .string vl] 32)).heap.size (w.alloc (.cells #[.int .i64 kd, .int .i64 (m : Int), .int .i64 tt, .int .i64 bf, .string nm, .string vl] 32)) (w.alloc (.cells #[.int .i64 kd, .int .i64 (m : Int), .int .i64 tt, .int .i64 bf, .string nm, .string vl] 32)) := Below.refl _ _
    have AC : Hid (addCode d ⟨kd, (m : Int), tt, bf, nm, vl⟩ m bf false = if false = true ∧ (Tn.nd d m).hasS = false then 8 else if 60 ≤ Tn.free d then 5 else putCode (addIn d ⟨kd, (m : Int), tt, bf, nm, vl⟩) (Tn.free d) m bf false) := by
      show _ = _
      unfold addCode
      rw [if_neg (by simp [hfe])]
    have hbare := bare_new ⟨kd, (m : Int), tt, bf, nm, vl⟩
    have hAI : Hid (addIn d ⟨kd, (m : Int), tt, bf, nm, vl⟩ = (if Tn.free d = d.length then d ++ [Tn.zero] else d).set (Tn.free d) (newNd ⟨kd, (m : Int), tt, bf, nm, vl⟩)) := rfl
    have HT2 : Hid _ := hT hfe
    have HLS : Hid _ := hls
    obtain ⟨nR, hnR⟩ : ∃ r, r = newR ⟨kd, (m : Int), tt, bf, nm, vl⟩ := ⟨_, rfl⟩
    rw [← hnR] at hFr hbare
    have ea := hbare.a
    have ek := hbare.k
    have es := hbare.s
    obtain ⟨lv, tg, tx, la, up, lk, hs, ls, ins⟩ := nR
    simp only at ea ek es
    subst ea
    subst ek
    subst es
    simp only [Raw.agg] at hFr
    clear hT hls hfv hnR hB0 hfe
    generalize newNd ⟨kd, (m : Int), tt, bf, nm, vl⟩ = nN at *
    generalize addIn d ⟨kd, (m : Int), tt, bf, nm, vl⟩ = dA at *
    obtain ⟨n, hn⟩ : ∃ n, n = Tn.free d := ⟨_, rfl⟩
    rw [← hn] at AC HT2 hAI ⊢
    have HN : Hid (n = Tn.free d) := hn
    clear hn
    go_enter Try.func73, Try.ntmps73
    go_upto_region 1 with fail
    generalize w.alloc (.cells #[.int .i64 kd, .int .i64 (m : Int), .int .i64 tt, .int .i64 bf, .string nm, .string vl] 32) = wA at *
    go_upto_region 2 with (go_at_call 87; refine hFr.mono ?_; rintro e w2 ⟨rfl, hb2⟩)
    have B2 : Below wA.heap.size wA (w2.alloc (.cells #[.bool lv, .string tg, .string tx, .slice none 0 0, .int .i64 up, .slice none 0 0, .bool hs, .slice none 0 0, .bool ins] 56)) := hb2.alloc hb2.size _
    have K2 := keeps_below B2 (Nat.le_refl _)
    have u0 := K2 _ _ x0
    have u1 := K2 _ _ x1
    have u3 := K2 _ _ x3
    have O3 : Hid (Owned (w2.alloc (.cells #[.bool lv, .string tg, .string tx, .slice none 0 0, .int .i64 up, .slice none 0 0, .bool hs, .slice none 0 0, .bool ins] 56)) B g c rs d) := O1.below B2 (Nat.le_refl _)
    have F3 : Fr g rs w g rs (w2.alloc (.cells #[.bool lv, .string tg, .string tx, .slice none 0 0, .int .i64 up, .slice none 0 0, .bool hs, .slice none 0 0, .bool ins] 56)) := F1.below B2
    have B3 : Below B w (w2.alloc (.cells #[.bool lv, .string tg, .string tx, .slice none 0 0, .int .i64 up, .slice none 0 0, .bool hs, .slice none 0 0, .bool ins] 56)) := BA.trans (B2.mono (by omega))
    have bY := box_new w2 (⟨lv, tg, tx, ⟨none, 0, 0⟩, up, ⟨none, 0, 0⟩, hs, ⟨none, 0, 0⟩, ins⟩ : Raw) 56
    have hfY : ¬ DB g rs w2.heap.size := O1.free h0 hb2.size
    simp only at bY
    go_upto_region 4 with fail
    generalize w2.alloc (.cells #[.bool lv, .string tg, .string tx, .slice none 0 0, .int .i64 up, .slice none 0 0, .bool hs, .slice none 0 0, .bool ins] 56) = w3 at *
    generalize w2.heap.size = Y at *
    generalize hX : w.heap.size = X at *
    have HX : Hid _ := hX
    clear hX
    clear x0 x1 x2 x3 x4 x5 K2 B2 hb2 O1 F1 BA hFr
    have D3 : Hid (DocAt w3 g 0 c rs d) := O3.out.doc h0

    go_quiet (fail)
    have OQ : Hid (Owned (w3.drewN nq) B g c rs d) := O3.out.below (below_drewN w3.heap.size w3 nq) (Nat.le_refl _)
    have FQ : Fr g rs w g rs (w3.drewN nq) := F3.below (below_drewN _ w3 nq)
    have BQ : Below B w (w3.drewN nq) := B3.trans (below_drewN B w3 nq)
    have v1 : (w3.drewN nq).cell? ⟨X, 1, none⟩ = some (.int .i64 (m : Int)) := u1
    have bQ : BoxAt (w3.drewN nq) Y ⟨lv, tg, tx, ⟨none, 0, 0⟩, up, ⟨none, 0, 0⟩, hs, ⟨none, 0, 0⟩, ins⟩ := bY.keeps (keeps_drewN w3 nq)

    generalize w3.drewN nq = w4 at *
    clear u0 u1 u3 O3 F3 B3 bY D3
    have DQ : Hid (DocAt w4 g 0 c rs d) := OQ.out.doc h0
    have hFF := dfree_any DQ.out (by omega)
    rw [← HN.out] at hFF
    go_upto_region 10 with (go_at_call 88; refine hFF.mono ?_; rintro e w5 ⟨rfl, hb5⟩)
    have O5 : Hid (Owned w5 B g c rs d) := OQ.out.below hb5 (Nat.le_refl _)
    have F5 := FQ.below hb5
    have hBw5 : B ≤ w5.heap.size := by
      have e1 := HX.out
      have e2 := F5.size
      omega
    have B5 := BQ.trans (hb5.mono (by have e1 := HX.out; have e2 := FQ.size; omega))
    have v15 := keeps_below hb5 (Nat.le_refl _) _ _ v1
    have b5 := bQ.keeps (keeps_below hb5 (Nat.le_refl _))
    clear OQ FQ BQ v1 bQ DQ hFF hb5
    have hf3 : n ≤ rs.length := by
      have e1 := (Tn.free_spec d).1
      rw [← HN.out, ← O5.out.len] at e1
      exact e1
    by_cases h60 : 60 ≤ n
    · have ACQ : Hid (addCode d ⟨kd, (m : Int), tt, bf, nm, vl⟩ m bf false = 5) := by show _ = _; rw [AC.out, if_neg (by simp), if_pos h60]
      go_wp2_with fail
      go_ret3
      exact ⟨_, 0, by rw [ACQ.out]; rfl, B5, fun hc => by rw [ACQ.out] at hc; cases hc⟩
    · have ACQ : Hid (addCode d ⟨kd, (m : Int), tt, bf, nm, vl⟩ m bf false = putCode dA n m bf false) := by show _ = _; rw [AC.out, if_neg (by simp), if_neg h60]
      by_cases hnl : n < rs.length
      · have AI : Hid (dA = d.set n nN) := by show _ = _; rw [hAI.out, if_neg (by have := O5.out.len; omega)]
        have hq : ((n : Int) == (rs.length : Int)) = false := by simp; omega
        obtain ⟨O6, F6⟩ := O5.out.bare (k := n) hnl hbare
        rw [← AI.out] at O6
        have hPut := dput_any O6 (Nat.le_trans hBw5 (set9_grown _ _ _ _).size) (n := n) (m := m) (by simpa using hnl) (by simpa using hm) HLS.out bf false (HT2.out (by omega))
        simp only [List.length_set] at hPut
        have DJ := O5.out.doc (by omega)
        obtain ⟨hBg, hgl, hfz⟩ := O5.out.at (by omega)
        have q0 := DJ.row.c0 _ hnl
        have q1 := DJ.row.c1 _ hnl
        have q2 := DJ.row.c2 _ hnl
        have q3 := DJ.row.c3 _ hnl
        have q4 := DJ.row.c4 _ hnl
        have q5 := DJ.row.c5 _ hnl
        have q6 := DJ.row.c6 _ hnl
        have q7 := DJ.row.c7 _ hnl
        have q8 := DJ.row.c8 _ hnl
        rw [Nat.zero_add] at q0 q1 q2 q3 q4 q5 q6 q7 q8
        have v6 := F6.cell v15 hfX
        have QF6 : Hid _ := F5.trans F6
        have QB6 : Hid (Below B w (set9 w5 g n ⟨lv, tg, tx, ⟨none, 0, 0⟩, up, ⟨none, 0, 0⟩, hs, ⟨none, 0, 0⟩, ins⟩)) := B5.grown (set9_grown _ _ _ _) hBw5 (fun k hk => by cases hk; exact hBg)
        clear O6 F6 DJ
        obtain ⟨wS, hwS⟩ : ∃ wS, wS = set9 w5 g n ⟨lv, tg, tx, ⟨none, 0, 0⟩, up, ⟨none, 0, 0⟩, hs, ⟨none, 0, 0⟩, ins⟩ := ⟨_, rfl⟩
        rw [← hwS] at hPut v6 QF6 QB6
        unfold set9 at hwS
        simp only at hwS
        have HW : Hid _ := hwS
        clear hwS
        generalize rs[n] = rx at *
        obtain ⟨rl, rt, rv, ⟨ap, an, ac⟩, ru, ⟨kp, kn, kc⟩, rh, ⟨sp, sn, sc⟩, ri⟩ := rx
        simp only at q0 q1 q2 q3 q4 q5 q6 q7 q8
        obtain ⟨y0, y1, y2, y3, y4, y5, y6, y7, y8⟩ := b5
        simp only at y0 y1 y2 y3 y4 y5 y6 y7 y8
        have hxl : (n : Int) < (rs.length : Int) := by omega
        go_upto_region 15 with fail
        rw [← HW.out]
        go_wp2_with (go_at_call 84; refine hPut.mono ?_; rintro e w7 ⟨rfl, hb7, ho7⟩)
        have HO : Hid _ := ho7
        go_ret3
        refine ⟨.slice (some ⟨g, 0, none⟩) rs.length c, (n : Int), by rw [ACQ.out]; rfl, QB6.out.trans hb7, fun hc => ?_⟩
        rw [ACQ.out] at hc
        obtain ⟨rs7, h71, O7, F7⟩ := HO.out hc
        exact ⟨rfl, g, c, rs7, by rw [h71], O7, QF6.out.trans F7⟩
      · have hq : ((n : Int) == (rs.length : Int)) = true := by simp; omega
        have W6 : Below w5.heap.size w5 (w5.alloc (.cells #[.bool false, .string ⟨#[]⟩, .string ⟨#[]⟩, .slice none 0 0, .int .i64 0, .slice none 0 0, .bool false, .slice none 0 0, .bool false] 56)) := (Below.refl _ _).alloc (Nat.le_refl _) _
        obtain ⟨g', c', w6, hr, O6', F6', B6'⟩ := Owned.push (w := w5.alloc (.cells #[.bool false, .string ⟨#[]⟩, .string ⟨#[]⟩, .slice none 0 0, .int .i64 0, .slice none 0 0, .bool false, .slice none 0 0, .bool false] 56)) (O5.out.below W6 (Nat.le_refl _)) (Nat.le_trans hBw5 W6.size) h0 (by omega) 34 (a := w5.heap.size) (alloc_at _ _)
        have hlq : Hid ((rs ++ [zeroR]).length = rs.length + 1) := by show _ = _; simp
        have hfY' := hfY
        have b6 := (b5.keeps (keeps_below W6 (Nat.le_refl _))).fr F6' hfY
        have v16 := F6'.cell (keeps_below W6 (Nat.le_refl _) _ _ v15) hfX
        have hfX6 : ¬ DB g' (rs ++ [zeroR]) X := fun e => hfX (F6'.back X (lt_of_cell (keeps_below W6 (Nat.le_refl _) _ _ v15)) e)
        have F7' := (F5.below W6).trans F6'
        have B7' := (B5.trans (W6.mono hBw5)).trans B6'
        have hBw6 : B ≤ w6.heap.size := by
          have e1 := HX.out
          have e2 := F7'.size
          omega
        have O8 : Hid _ := O6'
        have AI : Hid (dA = (d ++ [Tn.zero]).set n nN) := by show _ = _; rw [hAI.out, if_pos (by have := O5.out.len; omega)]
        clear F6' B6' O6' W6 b5 v15 hfX hfY hfY' F5 B5
        generalize rs ++ [zeroR] = rq at *
        have hnq : n < rq.length := by rw [hlq.out]; omega
        have hmq : m < rq.length := by rw [hlq.out]; omega
        go_upto_region 14 with (at_builtin; refine wpList_append_at _ rfl _ _ 34 34 rfl _ _ rfl rfl hr ?_)
        clear hr
        obtain ⟨O6, F6⟩ := O8.out.bare (k := n) hnq hbare
        rw [← AI.out] at O6
        have hPut := dput_any O6 (Nat.le_trans hBw6 (set9_grown _ _ _ _).size) (n := n) (m := m) (by simpa using hnq) (by simpa using hmq) HLS.out bf false (HT2.out (by omega))
        simp only [List.length_set] at hPut
        have DJ := O8.out.doc (by omega)
        obtain ⟨hBg, hgl, hfz⟩ := O8.out.at (by omega)
        have q0 := DJ.row.c0 _ hnq
        have q1 := DJ.row.c1 _ hnq
        have q2 := DJ.row.c2 _ hnq
        have q3 := DJ.row.c3 _ hnq
        have q4 := DJ.row.c4 _ hnq
        have q5 := DJ.row.c5 _ hnq
        have q6 := DJ.row.c6 _ hnq
        have q7 := DJ.row.c7 _ hnq
        have q8 := DJ.row.c8 _ hnq
        rw [Nat.zero_add] at q0 q1 q2 q3 q4 q5 q6 q7 q8
        have v6 := F6.cell v16 hfX6
        have QF6 : Hid _ := F7'.trans F6
        have QB6 : Hid (Below B w (set9 w6 g' n ⟨lv, tg, tx, ⟨none, 0, 0⟩, up, ⟨none, 0, 0⟩, hs, ⟨none, 0, 0⟩, ins⟩)) := B7'.grown (set9_grown _ _ _ _) hBw6 (fun k hk => by cases hk; exact hBg)
        clear O6 F6 DJ
        obtain ⟨wS, hwS⟩ : ∃ wS, wS = set9 w6 g' n ⟨lv, tg, tx, ⟨none, 0, 0⟩, up, ⟨none, 0, 0⟩, hs, ⟨none, 0, 0⟩, ins⟩ := ⟨_, rfl⟩
        rw [← hwS] at hPut v6 QF6 QB6
        unfold set9 at hwS
        simp only at hwS
        have HW : Hid _ := hwS
        clear hwS
        generalize rq[n] = rx at *
        obtain ⟨rl, rt, rv, ⟨ap, an, ac⟩, ru, ⟨kp, kn, kc⟩, rh, ⟨sp, sn, sc⟩, ri⟩ := rx
        simp only at q0 q1 q2 q3 q4 q5 q6 q7 q8
        obtain ⟨y0, y1, y2, y3, y4, y5, y6, y7, y8⟩ := b6
        simp only at y0 y1 y2 y3 y4 y5 y6 y7 y8
        have hxl : (n : Int) < (rq.length : Int) := by omega
        go_upto_region 15 with fail
        rw [← HW.out]
        go_wp2_with (go_at_call 84; refine hPut.mono ?_; rintro e w7 ⟨rfl, hb7, ho7⟩)
        have HO : Hid _ := ho7
        go_ret3
        refine ⟨.slice (some ⟨g', 0, none⟩) rq.length c', (n : Int), by rw [ACQ.out]; rfl, QB6.out.trans hb7, fun hc => ?_⟩
        rw [ACQ.out] at hc
        obtain ⟨rs7, h71, O7, F7⟩ := HO.out hc
        exact ⟨rfl, g', c', rs7, by rw [h71], O7, QF6.out.trans F7⟩
end Go.Proofs.Ytookcjdibpccpaa

/-
  THE WALK of dom.change, in a document of the call's own: a node is made.
-/
namespace Go.Proofs.Ytookcjdibpccpaa
open Go.RowKit

set_option maxHeartbeats 400000 in
set_option maxRecDepth 100000 in
theorem dchange_make {w : World} {B g c : Nat} {rs : List Raw} {d : Tn.Dc} (h : Owned w B g c rs d) (hB : B ≤ w.heap.size) (hlr : rs.length ≤ 900) (kd : Int) (hkd : kd = 1 ∨ kd = 2) (tt bf : Int) (nm vl : ByteArray) (hnm : nm.size ≤ 4194304) (hvl : vl.size ≤ 4194304) {m : Nat} (hm : m < rs.length)
    (hls : ∀ s, (Tn.liD (addIn d ⟨kd, (m : Int), tt, bf, nm, vl⟩) m s).length ≤ 1000)
    (hT : freshE ⟨kd, (m : Int), tt, bf, nm, vl⟩ = 0 → Tn.free d < 60 → 0 ≤ putAt (Tn.listOf (Tn.nd (addIn d ⟨kd, (m : Int), tt, bf, nm, vl⟩) m) false) bf → (Tn.listOf (Tn.nd (addIn d ⟨kd, (m : Int), tt, bf, nm, vl⟩) m) false).length < 12 → Tame (putDoc (addIn d ⟨kd, (m : Int), tt, bf, nm, vl⟩) (Tn.free d) m bf false) ∧ (∀ j t, (Tn.liD (putDoc (addIn d ⟨kd, (m : Int), tt, bf, nm, vl⟩) (Tn.free d) m bf false) j t).length ≤ 1000) ∧ Tn.lvD (putDoc (addIn d ⟨kd, (m : Int), tt, bf, nm, vl⟩) (Tn.free d) m bf false) (Tn.free d) = true) :
    Calls Try.prog 57 #[.slice (some ⟨g, 0, none⟩) rs.length c, chg6 ⟨kd, (m : Int), tt, bf, nm, vl⟩] w fun e w' => ∃ dv nv cd, e = .returned (.tuple #[dv, .int .i64 nv, .int .i64 cd]) ∧ Below B w w' ∧ cd = (if Tn.isN d (m : Int) true = true then addCode d ⟨kd, (m : Int), tt, bf, nm, vl⟩ m bf false else 8) ∧ (cd = 0 → nv = (Tn.free d : Int) ∧ ∃ g' c' rs', dv = .slice (some ⟨g', 0, none⟩) rs'.length c' ∧ Owned w' B g' c' rs' (putDoc (addIn d ⟨kd, (m : Int), tt, bf, nm, vl⟩) (Tn.free d) m bf false)) := by
  have H : Hid (Owned w B g c rs d) := h
  clear h
  rcases hkd with rfl | rfl
  · skip
    have W1 : Below w.heap.size w (w.alloc (.cells #[.int .i64 1, .int .i64 (m : Int), .int .i64 tt, .int .i64 bf, .string nm, .string vl] 32)) := (Below.refl _ _).alloc (Nat.le_refl _) _
    have O1 := H.out.below W1 (Nat.le_refl _)
    have HA : Hid (Calls Try.prog 73 #[.slice (some ⟨g, 0, none⟩) rs.length c, chg6 ⟨1, (m : Int), tt, bf, nm, vl⟩] (w.alloc (.cells #[.int .i64 1, .int .i64 (m : Int), .int .i64 tt, .int .i64 bf, .string nm, .string vl] 32)) fun e w' => ∃ dv nv, e = .returned (.tuple #[dv, .int .i64 nv, .int .i64 (addCode d ⟨1, (m : Int), tt, bf, nm, vl⟩ m bf false)]) ∧ Below B (w.alloc (.cells #[.int .i64 1, .int .i64 (m : Int), .int .i64 tt, .int .i64 bf, .string nm, .string vl] 32)) w' ∧ (addCode d ⟨1, (m : Int), tt, bf, nm, vl⟩ m bf false = 0 → nv = (Tn.free d : Int) ∧ ∃ g' c' rs', dv = .slice (some ⟨g', 0, none⟩) rs'.length c' ∧ Owned w' B g' c' rs' (putDoc (addIn d ⟨1, (m : Int), tt, bf, nm, vl⟩) (Tn.free d) m bf false) ∧ Fr g rs (w.alloc (.cells #[.int .i64 1, .int .i64 (m : Int), .int .i64 tt, .int .i64 bf, .string nm, .string vl] 32)) g' rs' w')) :=
      dadd_Out O1 (Nat.le_trans hB W1.size) hlr ⟨1, (m : Int), tt, bf, nm, vl⟩ rfl rfl hnm hvl rfl hm hls hT
    have HD : Hid (DocAt (w.alloc (.cells #[.int .i64 1, .int .i64 (m : Int), .int .i64 tt, .int .i64 bf, .string nm, .string vl] 32)) g 0 c rs d) := O1.doc (by omega)
    have HB1 : Hid (Below B w (w.alloc (.cells #[.int .i64 1, .int .i64 (m : Int), .int .i64 tt, .int .i64 bf, .string nm, .string vl] 32))) := (Below.refl B w).alloc hB _
    have x4 : (w.alloc (.cells #[.int .i64 1, .int .i64 (m : Int), .int .i64 tt, .int .i64 bf, .string nm, .string vl] 32)).cell? ⟨w.heap.size, 0, none⟩ = some (.int .i64 1) := by rw [World.cell?_alloc_new]; rfl
    clear hls hT W1 O1
    cases hi : Tn.isN d (m : Int) true with
    | true =>
      unfold chg6
      simp only
      go_enter Try.func57, Try.ntmps57
      go_wp2_with fail
      refine (dis_any HD.out (m : Int) true).mono ?_
      rintro e w1 ⟨rfl, hw1⟩
      subst hw1
      rw [hi]
      go_wp2_with fail
      refine HA.out.mono ?_
      rintro e w2 ⟨dv, nv, rfl, b2, hz⟩
      have HZ : Hid (addCode d ⟨1, (m : Int), tt, bf, nm, vl⟩ m bf false = 0 → nv = (Tn.free d : Int) ∧ ∃ (g' c' : Nat) (rs' : List Raw), dv = .slice (some ⟨g', 0, none⟩) rs'.length c' ∧ Owned w2 B g' c' rs' (putDoc (addIn d ⟨1, (m : Int), tt, bf, nm, vl⟩) (Tn.free d) m bf false) ∧ Fr g rs (w.alloc (.cells #[.int .i64 1, .int .i64 (m : Int), .int .i64 tt, .int .i64 bf, .string nm, .string vl] 32)) g' rs' w2) := hz
      clear hz
      generalize hcd : addCode d _ m bf false = cd at *
      go_wp2_with fail
      go_ret3
      refine ⟨_, _, _, rfl, HB1.out.trans b2, rfl, fun h0 => ?_⟩
      obtain ⟨h1, g', c', rs', h2, h3, _⟩ := HZ.out h0
      exact ⟨h1, g', c', rs', h2, h3⟩
    | false =>
      unfold chg6
      simp only
      go_enter Try.func57, Try.ntmps57
      go_wp2_with fail
      refine (dis_any HD.out (m : Int) true).mono ?_
      rintro e w1 ⟨rfl, hw1⟩
      subst hw1
      rw [hi]
      go_wp2_with fail
      go_ret3
      exact ⟨_, _, _, rfl, HB1.out, rfl, fun h => by cases h⟩
  · skip
    have W1 : Below w.heap.size w (w.alloc (.cells #[.int .i64 2, .int .i64 (m : Int), .int .i64 tt, .int .i64 bf, .string nm, .string vl] 32)) := (Below.refl _ _).alloc (Nat.le_refl _) _
    have O1 := H.out.below W1 (Nat.le_refl _)
    have HA : Hid (Calls Try.prog 73 #[.slice (some ⟨g, 0, none⟩) rs.length c, chg6 ⟨2, (m : Int), tt, bf, nm, vl⟩] (w.alloc (.cells #[.int .i64 2, .int .i64 (m : Int), .int .i64 tt, .int .i64 bf, .string nm, .string vl] 32)) fun e w' => ∃ dv nv, e = .returned (.tuple #[dv, .int .i64 nv, .int .i64 (addCode d ⟨2, (m : Int), tt, bf, nm, vl⟩ m bf false)]) ∧ Below B (w.alloc (.cells #[.int .i64 2, .int .i64 (m : Int), .int .i64 tt, .int .i64 bf, .string nm, .string vl] 32)) w' ∧ (addCode d ⟨2, (m : Int), tt, bf, nm, vl⟩ m bf false = 0 → nv = (Tn.free d : Int) ∧ ∃ g' c' rs', dv = .slice (some ⟨g', 0, none⟩) rs'.length c' ∧ Owned w' B g' c' rs' (putDoc (addIn d ⟨2, (m : Int), tt, bf, nm, vl⟩) (Tn.free d) m bf false) ∧ Fr g rs (w.alloc (.cells #[.int .i64 2, .int .i64 (m : Int), .int .i64 tt, .int .i64 bf, .string nm, .string vl] 32)) g' rs' w')) :=
      dadd_Out O1 (Nat.le_trans hB W1.size) hlr ⟨2, (m : Int), tt, bf, nm, vl⟩ rfl rfl hnm hvl rfl hm hls hT
    have HD : Hid (DocAt (w.alloc (.cells #[.int .i64 2, .int .i64 (m : Int), .int .i64 tt, .int .i64 bf, .string nm, .string vl] 32)) g 0 c rs d) := O1.doc (by omega)
    have HB1 : Hid (Below B w (w.alloc (.cells #[.int .i64 2, .int .i64 (m : Int), .int .i64 tt, .int .i64 bf, .string nm, .string vl] 32))) := (Below.refl B w).alloc hB _
    have x4 : (w.alloc (.cells #[.int .i64 2, .int .i64 (m : Int), .int .i64 tt, .int .i64 bf, .string nm, .string vl] 32)).cell? ⟨w.heap.size, 0, none⟩ = some (.int .i64 2) := by rw [World.cell?_alloc_new]; rfl
    clear hls hT W1 O1
    cases hi : Tn.isN d (m : Int) true with
    | true =>
      unfold chg6
      simp only
      go_enter Try.func57, Try.ntmps57
      go_wp2_with fail
      refine (dis_any HD.out (m : Int) true).mono ?_
      rintro e w1 ⟨rfl, hw1⟩
      subst hw1
      rw [hi]
      go_wp2_with fail
      refine HA.out.mono ?_
      rintro e w2 ⟨dv, nv, rfl, b2, hz⟩
      have HZ : Hid (addCode d ⟨2, (m : Int), tt, bf, nm, vl⟩ m bf false = 0 → nv = (Tn.free d : Int) ∧ ∃ (g' c' : Nat) (rs' : List Raw), dv = .slice (some ⟨g', 0, none⟩) rs'.length c' ∧ Owned w2 B g' c' rs' (putDoc (addIn d ⟨2, (m : Int), tt, bf, nm, vl⟩) (Tn.free d) m bf false) ∧ Fr g rs (w.alloc (.cells #[.int .i64 2, .int .i64 (m : Int), .int .i64 tt, .int .i64 bf, .string nm, .string vl] 32)) g' rs' w2) := hz
      clear hz
      generalize hcd : addCode d _ m bf false = cd at *
      go_wp2_with fail
      go_ret3
      refine ⟨_, _, _, rfl, HB1.out.trans b2, rfl, fun h0 => ?_⟩
      obtain ⟨h1, g', c', rs', h2, h3, _⟩ := HZ.out h0
      exact ⟨h1, g', c', rs', h2, h3⟩
    | false =>
      unfold chg6
      simp only
      go_enter Try.func57, Try.ntmps57
      go_wp2_with fail
      refine (dis_any HD.out (m : Int) true).mono ?_
      rintro e w1 ⟨rfl, hw1⟩
      subst hw1
      rw [hi]
      go_wp2_with fail
      go_ret3
      exact ⟨_, _, _, rfl, HB1.out, rfl, fun h => by cases h⟩
end Go.Proofs.Ytookcjdibpccpaa

/-
  THE WALK of dom.change, in a document of the call's own: a node goes.
-/
namespace Go.Proofs.Ytookcjdibpccpaa
open Go.RowKit

set_option maxHeartbeats 400000 in
set_option maxRecDepth 100000 in
theorem dchange_remove {w : World} {B g c : Nat} {rs : List Raw} {d : Tn.Dc} (h : Owned w B g c rs d) (hB : B ≤ w.heap.size) (tt bf : Int) (nm vl : ByteArray) {m : Nat} (hn : m < rs.length) (hm0 : m ≠ 0) (hup : ∃ u : Nat, (Tn.nd d m).up = (u : Int) ∧ u < rs.length) (hls : ∀ j s, (Tn.liD d j s).length ≤ 1000)
    (hT : Tame (moveIn d m) ∧ (∀ j s, (Tn.liD (moveIn d m) j s).length ≤ 1000) ∧ Tn.lvD (moveIn d m) m = true) (hlt : ∀ k ∈ Tn.all Tn.fuel (moveIn d m) m, k < rs.length) :
    Calls Try.prog 57 #[.slice (some ⟨g, 0, none⟩) rs.length c, chg6 ⟨4, (m : Int), tt, bf, nm, vl⟩] w fun e w' => ∃ rs' : List Raw, e = .returned (.tuple #[.slice (some ⟨g, 0, none⟩) rs'.length c, .int .i64 (m : Int), .int .i64 0]) ∧ Below B w w' ∧ Owned w' B g c rs' (killD (Tn.all Tn.fuel (moveIn d m) m) (moveIn d m)) := by
  have W1 : Below w.heap.size w (w.alloc (.cells #[.int .i64 4, .int .i64 (m : Int), .int .i64 tt, .int .i64 bf, .string nm, .string vl] 32)).drew := ((Below.refl _ _).alloc (Nat.le_refl _) _).drew
  have O1 := h.below W1 (Nat.le_refl _)
  have HA : Hid (Calls Try.prog 68 #[.slice (some ⟨g, 0, none⟩) rs.length c, .int .i64 (m : Int)] (w.alloc (.cells #[.int .i64 4, .int .i64 (m : Int), .int .i64 tt, .int .i64 bf, .string nm, .string vl] 32)).drew fun e w' => e = .returned (.int .i64 0) ∧ Below B w w' ∧ w'.cell? ⟨w.heap.size, 1, none⟩ = some (.int .i64 (m : Int)) ∧ Hid (∃ rs' : List Raw, rs'.length = rs.length ∧ Owned w' B g c rs' (killD (Tn.all Tn.fuel (moveIn d m) m) (moveIn d m)))) := by
    have := dremove_any O1 (Nat.le_trans hB W1.size) hn (fun _ => hup) hls (fun _ => hT) (fun _ => hlt)
    have hc : remCode m = 0 := by unfold remCode; rw [if_neg hm0]
    rw [hc] at this
    refine this.mono ?_
    rintro e w' ⟨e1, e2, e3⟩
    obtain ⟨rs', q1, q2, q3⟩ := e3 rfl
    refine ⟨e1, ((Below.refl B w).alloc hB _).drew.trans e2, ?_, ⟨rs', q1, q2⟩⟩
    have x1 : (w.alloc (.cells #[.int .i64 4, .int .i64 (m : Int), .int .i64 tt, .int .i64 bf, .string nm, .string vl] 32)).drew.cell? ⟨w.heap.size, 1, none⟩ = some (.int .i64 (m : Int)) := by rw [World.cell?_drew, World.cell?_alloc_new]; rfl
    exact q3.cell x1 (h.free (by omega) (Nat.le_refl _))
  have x1 : (w.alloc (.cells #[.int .i64 4, .int .i64 (m : Int), .int .i64 tt, .int .i64 bf, .string nm, .string vl] 32)).cell? ⟨w.heap.size, 1, none⟩ = some (.int .i64 (m : Int)) := by rw [World.cell?_alloc_new]; rfl
  clear hup hls hT hlt W1 O1 h
  generalize killD (Tn.all Tn.fuel (moveIn d m) m) (moveIn d m) = d' at *
  unfold chg6
  simp only
  go_enter Try.func57, Try.ntmps57
  go_wp2_with fail
  have SS : ∀ w'', Keeps (w.alloc (.cells #[.int .i64 4, .int .i64 (m : Int), .int .i64 tt, .int .i64 bf, .string nm, .string vl] 32)) w'' → (fun w'' => w''.cell? ⟨w.heap.size, 1, none⟩ = some (.int .i64 (m : Int))) w'' := fun w'' hk => hk _ _ x1
  go_region_held3 (fun w'' => w''.cell? ⟨w.heap.size, 1, none⟩ = some (.int .i64 (m : Int)))
    ((first | assumption | (apply SS; first | exact Keeps.refl _ | exact keeps_drew (Keeps.refl _))))
    (first
      | (go_at_call 68; refine HA.out.mono ?_; rintro e w2 ⟨rfl, b2, q2, HZ⟩))
  all_goals
    go_wp2_with fail
    go_ret3
    obtain ⟨rs', e1, e2⟩ := HZ.out
    exact ⟨rs', by rw [e1]; rfl, b2, e2⟩
end Go.Proofs.Ytookcjdibpccpaa

/-
  THE WALK of dom.change, in a document of the call's own: an attribute, at a node that has none yet.
-/
namespace Go.Proofs.Ytookcjdibpccpaa
open Go.RowKit

set_option maxHeartbeats 400000 in
set_option maxRecDepth 100000 in
theorem dchange_attr0 {w : World} {B g c : Nat} {rs : List Raw} {d : Tn.Dc} (h : Owned w B g c rs d) (hB : B ≤ w.heap.size) (hlr : rs.length ≤ 900) (tt bf : Int) (nm vl : ByteArray) {m : Nat} (hm : m < rs.length) (hi : Tn.isN d (m : Int) true = true) (h0 : (Tn.nd d m).attrs = []) (hnm : Tn.nameL nm.data.toList = true) (hsz : nm.size ≤ 4194304) (hvl : vl.size ≤ 60) :
    Calls Try.prog 57 #[.slice (some ⟨g, 0, none⟩) rs.length c, chg6 ⟨5, (m : Int), tt, bf, nm, vl⟩] w fun e w' => ∃ rs' : List Raw, e = .returned (.tuple #[.slice (some ⟨g, 0, none⟩) rs'.length c, .int .i64 (m : Int), .int .i64 0]) ∧ Below B w w' ∧ Owned w' B g c rs' (d.set m { Tn.nd d m with attrs := [(nm, vl)] }) := by
  have W0 : Below w.heap.size w (w.alloc (.cells #[.int .i64 5, .int .i64 (m : Int), .int .i64 tt, .int .i64 bf, .string nm, .string vl] 32)) := (Below.refl _ _).alloc (Nat.le_refl _) _
  have W1 : Below w.heap.size w (w.alloc (.cells #[.int .i64 5, .int .i64 (m : Int), .int .i64 tt, .int .i64 bf, .string nm, .string vl] 32)).drew := W0.drew
  have O1 := h.below W1 (Nat.le_refl _)
  have HD : Hid (DocAt (w.alloc (.cells #[.int .i64 5, .int .i64 (m : Int), .int .i64 tt, .int .i64 bf, .string nm, .string vl] 32)) g 0 c rs d) := (h.below W0 (Nat.le_refl _)).doc (by omega)
  have HA : Hid (Calls Try.prog 70 #[.pointer (some ⟨g, m * 9, none⟩), .string nm, .string vl] (w.alloc (.cells #[.int .i64 5, .int .i64 (m : Int), .int .i64 tt, .int .i64 bf, .string nm, .string vl] 32)).drew fun e w' => e = .returned (.int .i64 0) ∧ Below B w w' ∧ (fun w'' => w''.cell? ⟨w.heap.size, 1, none⟩ = some (.int .i64 (m : Int)) ∧ w''.cell? ⟨w.heap.size, 4, none⟩ = some (.string nm) ∧ w''.cell? ⟨w.heap.size, 5, none⟩ = some (.string vl)) w' ∧ Hid (∃ rs' : List Raw, rs'.length = rs.length ∧ Owned w' B g c rs' (d.set m { Tn.nd d m with attrs := [(nm, vl)] }))) := by
    refine (dsetattr0 O1 (Nat.le_trans hB W1.size) hm h0 nm vl hnm hsz hvl).mono ?_
    rintro e w' ⟨e1, e2, rs', q1, q2, q3⟩
    have nf := h.free (by omega) (Nat.le_refl _)
    refine ⟨e1, ((Below.refl B w).alloc hB _).drew.trans e2, ⟨?_, ?_, ?_⟩, ⟨rs', q1, q2⟩⟩
    · exact q3.cell (p := ⟨w.heap.size, 1, none⟩) (by rw [World.cell?_drew, World.cell?_alloc_new]; rfl) nf
    · exact q3.cell (p := ⟨w.heap.size, 4, none⟩) (by rw [World.cell?_drew, World.cell?_alloc_new]; rfl) nf
    · exact q3.cell (p := ⟨w.heap.size, 5, none⟩) (by rw [World.cell?_drew, World.cell?_alloc_new]; rfl) nf
  have x1 : (w.alloc (.cells #[.int .i64 5, .int .i64 (m : Int), .int .i64 tt, .int .i64 bf, .string nm, .string vl] 32)).cell? ⟨w.heap.size, 1, none⟩ = some (.int .i64 (m : Int)) := by rw [World.cell?_alloc_new]; rfl
  have x4 : (w.alloc (.cells #[.int .i64 5, .int .i64 (m : Int), .int .i64 tt, .int .i64 bf, .string nm, .string vl] 32)).cell? ⟨w.heap.size, 4, none⟩ = some (.string nm) := by rw [World.cell?_alloc_new]; rfl
  have x5 : (w.alloc (.cells #[.int .i64 5, .int .i64 (m : Int), .int .i64 tt, .int .i64 bf, .string nm, .string vl] 32)).cell? ⟨w.heap.size, 5, none⟩ = some (.string vl) := by rw [World.cell?_alloc_new]; rfl
  have hm1 : (m : Int) < (rs.length : Int) := by omega
  clear W0 W1 O1 h h0
  generalize d.set m { Tn.nd d m with attrs := [(nm, vl)] } = d' at *
  unfold chg6
  simp only
  go_enter Try.func57, Try.ntmps57
  go_wp2_with fail
  refine (dis_any HD.out (m : Int) true).mono ?_
  rintro e w1 ⟨rfl, hw1⟩
  subst hw1
  rw [hi]
  go_wp2_with fail
  have SS : ∀ w'', Keeps (w.alloc (.cells #[.int .i64 5, .int .i64 (m : Int), .int .i64 tt, .int .i64 bf, .string nm, .string vl] 32)) w'' → (fun w'' => w''.cell? ⟨w.heap.size, 1, none⟩ = some (.int .i64 (m : Int)) ∧ w''.cell? ⟨w.heap.size, 4, none⟩ = some (.string nm) ∧ w''.cell? ⟨w.heap.size, 5, none⟩ = some (.string vl)) w'' := fun w'' hk => ⟨hk _ _ x1, hk _ _ x4, hk _ _ x5⟩
  go_region_held3 (fun w'' => w''.cell? ⟨w.heap.size, 1, none⟩ = some (.int .i64 (m : Int)) ∧ w''.cell? ⟨w.heap.size, 4, none⟩ = some (.string nm) ∧ w''.cell? ⟨w.heap.size, 5, none⟩ = some (.string vl))
    ((first | assumption | (apply SS; first | exact Keeps.refl _ | exact keeps_drew (Keeps.refl _))))
    (first
      | (go_at_call 70; refine HA.out.mono ?_; rintro e w2 ⟨rfl, b2, q2, HZ⟩))
  all_goals
    go_wp2_with fail
    go_ret3
    obtain ⟨rs', e1, e2⟩ := HZ.out
    exact ⟨rs', by rw [e1]; rfl, b2, e2⟩
end Go.Proofs.Ytookcjdibpccpaa

/-
  THE WALK of dom.Apply, over what change makes.
-/
namespace Go.Proofs.Ytookcjdibpccpaa
open Go.RowKit

/-- what change makes of a document of the call's own: the error, the node, the document -/
def Chs (d : Tn.Dc) (x : Tn.Chg) (cd nv : Int) (D : Tn.Dc) : Prop := ∀ (B : Nat) (W : World) (g c : Nat) (rs : List Raw), B ≤ W.heap.size → Owned W B g c rs d →
  Calls Try.prog 57 #[.slice (some ⟨g, 0, none⟩) rs.length c, chg6 x] W fun e w' => ∃ dv v, e = .returned (.tuple #[dv, .int .i64 v, .int .i64 cd]) ∧ Below B W w' ∧ Hid (cd = 0 → v = nv ∧ ∃ (g' c' : Nat) (rs' : List Raw), dv = .slice (some ⟨g', 0, none⟩) rs'.length c' ∧ Owned w' B g' c' rs' D)

set_option maxHeartbeats 400000 in
set_option maxRecDepth 100000 in
theorem dapply_chs {w : World} {b o c : Nat} {rs : List Raw} {d : Tn.Dc} (hd : DocAt w b o c rs d) (h0 : 0 < rs.length) (hlen : d.length ≤ 1000) (hls : ∀ j s, (Tn.liD d j s).length ≤ 1000) (hal : ∀ k, (Tn.nd d k).attrs.length ≤ 1000)
    (kd nn tt bf : Int) (nm vl : ByteArray) (hk1 : 1 ≤ kd) (hk2 : kd ≤ 10) (hi : Tn.isN d nn false = true) {cd nv : Int} {D : Tn.Dc} (hC : Chs d ⟨kd, nn, tt, bf, nm, vl⟩ cd nv D) (hD : cd = 0 → Tn.lvD D 0 = true) :
    Calls Try.prog 41 #[.slice (some ⟨b, o, none⟩) rs.length c, chg6 ⟨kd, nn, tt, bf, nm, vl⟩] w fun e w' => ∃ v, e = .returned v ∧ Below w.heap.size w w' ∧ ((cd ≠ 0 ∧ v = .tuple #[.slice none 0 0, .int .i64 0, .int .i64 cd]) ∨ (cd = 0 ∧ ∃ (g' c' : Nat) (rs' : List Raw), v = .tuple #[.slice (some ⟨g', 0, none⟩) rs'.length c', .int .i64 nv, .int .i64 0] ∧ DocAt w' g' 0 c' rs' (Tn.trimD D) ∧ 0 < rs'.length)) := by
  have B1 : Below w.heap.size w (w.alloc (.cells #[.int .i64 kd, .int .i64 nn, .int .i64 tt, .int .i64 bf, .string nm, .string vl] 32)) := (Below.refl _ _).alloc (Nat.le_refl _) _
  have HD : Hid (DocAt (w.alloc (.cells #[.int .i64 kd, .int .i64 nn, .int .i64 tt, .int .i64 bf, .string nm, .string vl] 32)) b o c rs d) := hd.keeps (keeps_below B1 (Nat.le_refl _))
  have HC : Hid (Chs d ⟨kd, nn, tt, bf, nm, vl⟩ cd nv D) := hC
  have hlr : Hid (rs.length = d.length) := hd.len
  have HD0 : Hid (cd = 0 → Tn.lvD D 0 = true) := hD
  have BB1 : Hid (Below w.heap.size w (w.alloc (.cells #[.int .i64 kd, .int .i64 nn, .int .i64 tt, .int .i64 bf, .string nm, .string vl] 32))) := B1
  clear hd hC hD B1
  unfold chg6
  simp only
  go_enter Try.func41, Try.ntmps41
  go_wp2_with fail
  refine (dis_any HD.out nn false).mono ?_
  rintro e w1 ⟨rfl, hw1⟩
  subst hw1
  rw [hi]
  go_wp2_with fail
  have S0 : (fun w'' : World => w''.cell? ⟨w.heap.size, 0, none⟩ = some (.int .i64 kd) ∧ w''.cell? ⟨w.heap.size, 1, none⟩ = some (.int .i64 nn) ∧ w''.cell? ⟨w.heap.size, 2, none⟩ = some (.int .i64 tt) ∧ w''.cell? ⟨w.heap.size, 3, none⟩ = some (.int .i64 bf) ∧ w''.cell? ⟨w.heap.size, 4, none⟩ = some (.string nm) ∧ w''.cell? ⟨w.heap.size, 5, none⟩ = some (.string vl)) (w.alloc (.cells #[.int .i64 kd, .int .i64 nn, .int .i64 tt, .int .i64 bf, .string nm, .string vl] 32)) := by
    refine ⟨?_, ?_, ?_, ?_, ?_, ?_⟩ <;> (rw [World.cell?_alloc_new]; rfl)
  have SK : ∀ w'', (∀ j, w''.cell? ⟨w.heap.size, j, none⟩ = (w.alloc (.cells #[.int .i64 kd, .int .i64 nn, .int .i64 tt, .int .i64 bf, .string nm, .string vl] 32)).cell? ⟨w.heap.size, j, none⟩) → (fun w'' : World => w''.cell? ⟨w.heap.size, 0, none⟩ = some (.int .i64 kd) ∧ w''.cell? ⟨w.heap.size, 1, none⟩ = some (.int .i64 nn) ∧ w''.cell? ⟨w.heap.size, 2, none⟩ = some (.int .i64 tt) ∧ w''.cell? ⟨w.heap.size, 3, none⟩ = some (.int .i64 bf) ∧ w''.cell? ⟨w.heap.size, 4, none⟩ = some (.string nm) ∧ w''.cell? ⟨w.heap.size, 5, none⟩ = some (.string vl)) w'' := fun w'' hk => by
    obtain ⟨s0, s1, s2, s3, s4, s5⟩ := S0
    exact ⟨(hk 0).trans s0, (hk 1).trans s1, (hk 2).trans s2, (hk 3).trans s3, (hk 4).trans s4, (hk 5).trans s5⟩
  have HSK : Hid (∀ w'', (∀ j, w''.cell? ⟨w.heap.size, j, none⟩ = (w.alloc (.cells #[.int .i64 kd, .int .i64 nn, .int .i64 tt, .int .i64 bf, .string nm, .string vl] 32)).cell? ⟨w.heap.size, j, none⟩) → (fun w'' : World => w''.cell? ⟨w.heap.size, 0, none⟩ = some (.int .i64 kd) ∧ w''.cell? ⟨w.heap.size, 1, none⟩ = some (.int .i64 nn) ∧ w''.cell? ⟨w.heap.size, 2, none⟩ = some (.int .i64 tt) ∧ w''.cell? ⟨w.heap.size, 3, none⟩ = some (.int .i64 bf) ∧ w''.cell? ⟨w.heap.size, 4, none⟩ = some (.string nm) ∧ w''.cell? ⟨w.heap.size, 5, none⟩ = some (.string vl)) w'') := SK
  clear SK
  have HOwn : Hid (Calls Try.prog 25 #[.slice (some ⟨b, o, none⟩) rs.length c] (w.alloc (.cells #[.int .i64 kd, .int .i64 nn, .int .i64 tt, .int .i64 bf, .string nm, .string vl] 32)).drew fun e w' => ∃ (g c' : Nat) (rs' : List Raw), e = .returned (.slice (some ⟨g, 0, none⟩) rs'.length c') ∧ Hid (Owned w' (w.alloc (.cells #[.int .i64 kd, .int .i64 nn, .int .i64 tt, .int .i64 bf, .string nm, .string vl] 32)).drew.heap.size g c' rs' d) ∧ Hid (Below (w.alloc (.cells #[.int .i64 kd, .int .i64 nn, .int .i64 tt, .int .i64 bf, .string nm, .string vl] 32)).drew.heap.size (w.alloc (.cells #[.int .i64 kd, .int .i64 nn, .int .i64 tt, .int .i64 bf, .string nm, .string vl] 32)).drew w')) := by
    refine (down_any (HD.out.keeps (keeps_drew (Keeps.refl _))) h0 hlen hls hal).mono ?_
    rintro e w' ⟨g, c', rs', e1, e2, e3⟩
    exact ⟨g, c', rs', e1, e2.owned, e3⟩
  clear hls hal
  go_region_held3 (fun w'' : World => w''.cell? ⟨w.heap.size, 0, none⟩ = some (.int .i64 kd) ∧ w''.cell? ⟨w.heap.size, 1, none⟩ = some (.int .i64 nn) ∧ w''.cell? ⟨w.heap.size, 2, none⟩ = some (.int .i64 tt) ∧ w''.cell? ⟨w.heap.size, 3, none⟩ = some (.int .i64 bf) ∧ w''.cell? ⟨w.heap.size, 4, none⟩ = some (.string nm) ∧ w''.cell? ⟨w.heap.size, 5, none⟩ = some (.string vl))
    ((first | assumption | (apply HSK.out; intro j; first | rfl | exact World.cell?_drew _ _)))
    (first
      | (go_at_call 25; refine HOwn.out.mono ?_; rintro e w2 ⟨g, c', rs', rfl, O2, b2⟩; have q2 : (fun w'' : World => w''.cell? ⟨w.heap.size, 0, none⟩ = some (.int .i64 kd) ∧ w''.cell? ⟨w.heap.size, 1, none⟩ = some (.int .i64 nn) ∧ w''.cell? ⟨w.heap.size, 2, none⟩ = some (.int .i64 tt) ∧ w''.cell? ⟨w.heap.size, 3, none⟩ = some (.int .i64 bf) ∧ w''.cell? ⟨w.heap.size, 4, none⟩ = some (.string nm) ∧ w''.cell? ⟨w.heap.size, 5, none⟩ = some (.string vl)) w2 := HSK.out w2 (fun j => (b2.out.cell (by simp)).trans (World.cell?_drew _ _)))
      | (go_at_call 57; refine (HC.out _ w2 g c' rs' b2.out.size O2.out).mono ?_; rintro e w3 ⟨dv, v, rfl, b3, HZ⟩; have q3 : (fun w'' : World => w''.cell? ⟨w.heap.size, 0, none⟩ = some (.int .i64 kd) ∧ w''.cell? ⟨w.heap.size, 1, none⟩ = some (.int .i64 nn) ∧ w''.cell? ⟨w.heap.size, 2, none⟩ = some (.int .i64 tt) ∧ w''.cell? ⟨w.heap.size, 3, none⟩ = some (.int .i64 bf) ∧ w''.cell? ⟨w.heap.size, 4, none⟩ = some (.string nm) ∧ w''.cell? ⟨w.heap.size, 5, none⟩ = some (.string vl)) w3 := HSK.out w3 (fun j => (b3.cell (by simp)).trans ((b2.out.cell (by simp)).trans (World.cell?_drew _ _)))))
  all_goals
    have B3 : Hid (Below w.heap.size w w3) := by
      have h1 := BB1.out.drew.trans (b2.out.mono (by simp))
      exact h1.trans (b3.mono (by simp))
    clear q2 q3 b2 b3 O2 HOwn HSK HC S0 BB1 HD
    by_cases hcd : cd = 0
    · subst hcd
      obtain ⟨rfl, g', c'', rs'', rfl, O3⟩ := HZ.out rfl
      have hl0 : 0 < rs''.length := by
        have := Tn.lv_lt (HD0.out rfl)
        have e := O3.len
        omega
      have HTr : Hid (Calls Try.prog 58 #[.slice (some ⟨g', 0, none⟩) rs''.length c''] w3 fun e w' => ∃ rs', e = .returned (.slice (some ⟨g', 0, none⟩) rs'.length c'') ∧ DocAt w3 g' 0 c'' rs' (Tn.trimD D) ∧ 0 < rs'.length ∧ w' = w3) := dtrim_any (O3.doc hl0) hl0 (HD0.out rfl)
      clear HZ O3
      go_wp2_with fail
      refine HTr.out.mono ?_
      rintro e w4 ⟨rs4, rfl, D4, hl4, rfl⟩
      have HD4 : Hid (DocAt w4 g' 0 c'' rs4 (Tn.trimD D)) := D4
      clear D4 HTr
      go_wp2_with fail
      go_ret3
      exact ⟨_, rfl, B3.out, g', c'', rs4, rfl, HD4.out, hl4⟩
    · have hne : (cd != 0) = true := by simpa using hcd
      clear HZ
      go_wp2_with fail
      go_ret3
      exact ⟨_, rfl, B3.out, Or.inl ⟨hcd, rfl⟩⟩
end Go.Proofs.Ytookcjdibpccpaa
