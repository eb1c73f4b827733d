/-
  OWN WORK: Rcm, Rcr, Rck, Rca.
-/
import Derived.Test.YtbinbojicmhdlaeGreatDoorP1
import Derived.Deep.RegionHeld3
/-
  THE WALKS of the reference's change: move.
-/
namespace Go.Proofs.YtbinbojicmhdlaeGreatDoor
open Go.RowKit

/-- where a node in a box of the call's own is in is another one -/
structure MidU (w W : World) (g : Nat) (r : Raw) (n : Tn.Nd) : Prop where
  box : BoxAt W g r
  nd : NdAt W r n
  keeps : Keeps w W
  below : Below w.heap.size w W
theorem mid_up {w W : World} {g : Nat} (hg : w.heap.size ≤ g) {r : Raw} {n : Tn.Nd} (hN : NdAt w r n) (hb : BoxAt W g r) (hk : Keeps w W) (hB : Below w.heap.size w W) (t : Int) :
    MidU w ((W.setCell ⟨g, 4, none⟩ (.int .i64 t)).setCell ⟨g, 8, none⟩ (.bool false)) g { r with up := t, inS := false } { n with up := t, inS := false } := by
  have hk2 : Keeps w ((W.setCell ⟨g, 4, none⟩ (.int .i64 t)).setCell ⟨g, 8, none⟩ (.bool false)) := keeps_set (keeps_set hk _ _ hg) _ _ hg
  have o : ∀ j v, j ≠ 4 → j ≠ 8 → W.cell? ⟨g, j, none⟩ = some v → ((W.setCell ⟨g, 4, none⟩ (.int .i64 t)).setCell ⟨g, 8, none⟩ (.bool false)).cell? ⟨g, j, none⟩ = some v := by
    intro j v h5 h6 h
    rw [World.cell?_setCell_other _ _ _ _ (by intro e; cases e; exact h6 rfl), World.cell?_setCell_other _ _ _ _ (by intro e; cases e; exact h5 rfl)]
    exact h
  have c8 : (W.setCell ⟨g, 4, none⟩ (.int .i64 t)).cell? ⟨g, 8, none⟩ = some (.bool r.inS) := by
    rw [World.cell?_setCell_other _ _ _ _ (by simp)]
    exact hb.c8
  refine ⟨⟨o 0 _ (by decide) (by decide) hb.c0, o 1 _ (by decide) (by decide) hb.c1, o 2 _ (by decide) (by decide) hb.c2, o 3 _ (by decide) (by decide) hb.c3, ?_, o 5 _ (by decide) (by decide) hb.c5, o 6 _ (by decide) (by decide) hb.c6, o 7 _ (by decide) (by decide) hb.c7,
    World.cell?_setCell_same _ _ _ c8⟩, ⟨hN.live, hN.tag, hN.text, rfl, hN.hasS, rfl, hN.attrs.keeps hk2, hN.kids.keeps hk2, hN.shadow.keeps hk2⟩, hk2, (hB.setCell hg _).setCell hg _⟩
  rw [World.cell?_setCell_other _ _ _ _ (by simp)]
  exact World.cell?_setCell_same _ _ _ hb.c4
theorem block_b {w w' : World} {g : Nat} {x : Obj} (h : w.heap[g]? = some x) (hb : Below w.heap.size w w') : w'.heap[g]? = some x := by
  have hlt : g < w.heap.size := by
    apply Classical.byContradiction
    intro hn
    rw [Array.getElem?_eq_none (by omega)] at h
    cases h
  rw [hb.block g hlt]
  exact h
theorem put_form {w w' : World} {e : Ending} {d : Tn.Dc} {k m : Nat} {bf : Int} {sh : Bool} {n : Nat} (h : PutPost w w' e d k m bf sh n) :
    ∃ dv, e = .returned (.tuple #[dv, .int .i64 (Tn.putE d k m bf sh)]) ∧ Hid (Below w.heap.size w w' ∧ (Tn.putE d k m bf sh ≠ 0 ∨ (Tn.putE d k m bf sh = 0 ∧ ∃ g c' rs', dv = .slice (some ⟨g, 0, none⟩) rs'.length c' ∧ DocAt w' g 0 c' rs' (Tn.put1 d k m bf sh) ∧ rs'.length = n))) := by
  obtain ⟨hb, h | ⟨h0, g, c', rs', rfl, hd, hl⟩⟩ := h
  · obtain ⟨hne, rfl⟩ := h
    exact ⟨_, rfl, hb, Or.inl hne⟩
  · exact ⟨_, by rw [h0.out], hb, Or.inr ⟨h0, g, c', rs', rfl, hd, hl⟩⟩
theorem keeps_drewN (w : World) (n : Nat) : Keeps w (w.drewN n) := by
  intro a v h
  simpa using h
theorem takeD_len (d : Tn.Dc) (k u : Nat) (hu : (Tn.nd d k).up = (u : Int)) (hud : u < d.length) : (Tn.takeD d k).length = d.length := by
  unfold Tn.takeD Tn.withd
  rw [hu, Int.toNat_natCast, if_neg (by omega)]
  simp
theorem nd_set (d : Tn.Dc) (k : Nat) (n : Tn.Nd) (hk : k < d.length) (j : Nat) : Tn.nd (d.set k n) j = if j = k then n else Tn.nd d j := by
  unfold Tn.nd
  rw [List.getElem?_set]
  by_cases h : k = j
  · subst h
    simp [hk]
  · rw [if_neg h, if_neg (fun e => h e.symm)]

set_option maxHeartbeats 1600000 in
set_option maxRecDepth 100000 in
theorem rchange_move {w : World} {b o c : Nat} {rs : List Raw} {d : Tn.Dc} (hd : DocAt w b o c rs d) (hs : rs.length ≤ 900) (x : Tn.Chg) (k : Nat) (hn : x.node = (k : Int)) (hk : k < d.length) (hkd : x.kind = 3) (hv : x.value.size ≤ 4194304) (hnm : x.name.size ≤ 4194304) (hup : k ≠ 0 → ∃ u : Nat, (Tn.nd d k).up = (u : Int) ∧ u < d.length) (hls : ∀ j, (Tn.nd d j).kids.length ≤ 900 ∧ (Tn.nd d j).shadow.length ≤ 900)
    (hE : Tn.moveE d x ≠ 9 → k ≠ 0 → Tn.isN d x.to true = true → Tn.within d x.to x.node = false → Tn.Ends Tn.fuel (Tn.moveD d x) k) :
    Calls Tryz.prog 57 #[.slice (some ⟨b, o, none⟩) rs.length c, chv x] w fun e w' => ChgPost w w' e d x rs.length := by
  have H : Hid (DocAt w b o c rs d) := hd
  have hk' : k < rs.length := by rw [hd.len]; exact hk
  have h0 : 0 < rs.length := by omega
  have hs1 : rs.length ≤ 1000 := by omega
  have hkl : k ≤ rs.length := by omega
  have NN : Hid (NdAt w rs[k] (Tn.nd d k)) := by rw [nd_at hk]; exact hd.nds k hk' hk
  obtain ⟨xk, xn, xt, xb, xnm, xv⟩ := x
  simp only at hn hkd hv hnm hE
  subst hn hkd
  have K1 := keeps_alloc w (.cells #[.int .i64 3, .int .i64 (k : Int), .int .i64 xt, .int .i64 xb, .string xnm, .string xv] 53)
  have r0 := K1 _ _ (hd.row.c0 k hk')
  have r1 := K1 _ _ (hd.row.c1 k hk')
  have r2 := K1 _ _ (hd.row.c2 k hk')
  have r3 := K1 _ _ (hd.row.c3 k hk')
  have r4 := K1 _ _ (hd.row.c4 k hk')
  have r5 := K1 _ _ (hd.row.c5 k hk')
  have r6 := K1 _ _ (hd.row.c6 k hk')
  have r7 := K1 _ _ (hd.row.c7 k hk')
  have r8 := K1 _ _ (hd.row.c8 k hk')
  clear hd
  generalize rs[k] = r at *
  unfold chv
  simp only
  have htg : Hid (r.tag = (Tn.nd d k).tag) := NN.out.tag
  have B0 := (Below.refl w.heap.size w).alloc (Nat.le_refl _) (.cells #[.int .i64 3, .int .i64 (k : Int), .int .i64 xt, .int .i64 xb, .string xnm, .string xv] 53)
  have HE : Hid (Tn.moveE d ⟨3, k, xt, xb, xnm, xv⟩ ≠ 9 → k ≠ 0 → Tn.isN d xt true = true → Tn.within d xt (k : Int) = false → Tn.Ends Tn.fuel (Tn.moveD d ⟨3, k, xt, xb, xnm, xv⟩) k) := hE
  have CM : Hid (Tn.chgE d ⟨3, k, xt, xb, xnm, xv⟩ = Tn.moveE d ⟨3, k, xt, xb, xnm, xv⟩) := rfl
  clear hE
  by_cases hk0 : k = 0
  · have CE : Hid (Tn.chgE d ⟨3, k, xt, xb, xnm, xv⟩ = 8) := by
      show _ = _
      rw [CM.out]
      unfold Tn.moveE
      simp [hk0]
    have hk0' : (((k : Nat) : Int) == 0) = true := by simp [hk0]
    clear hk0
    go_enter Tryz.func57, Tryz.ntmps57
    go_wp2_with (go_at_call 89; refine (rno_any _ _).mono ?_; rintro e w' ⟨rfl, hww⟩; subst hww)
    go_ret3
    exact ⟨B0.alloc (by simp) _, Or.inl ⟨by show _ ≠ _; rw [CE.out]; decide, _, _, by rw [CE.out]; rfl⟩⟩
  · have hk0' : (((k : Nat) : Int) == 0) = false := by simp; omega
    have KW : Keeps w ((w.alloc (.cells #[.int .i64 3, .int .i64 (k : Int), .int .i64 xt, .int .i64 xb, .string xnm, .string xv] 53)).alloc (.cells #[.bool r.live, .string r.tag, .string r.text, .slice r.a.p r.a.n r.a.c, .int .i64 r.up, .slice r.k.p r.k.n r.k.c, .bool r.hasS, .slice r.s.p r.s.n r.s.c, .bool r.inS] 46)) := keeps_alloc' _ K1
    have BW : Below w.heap.size w ((w.alloc (.cells #[.int .i64 3, .int .i64 (k : Int), .int .i64 xt, .int .i64 xb, .string xnm, .string xv] 53)).alloc (.cells #[.bool r.live, .string r.tag, .string r.text, .slice r.a.p r.a.n r.a.c, .int .i64 r.up, .slice r.k.p r.k.n r.k.c, .bool r.hasS, .slice r.s.p r.s.n r.s.c, .bool r.inS] 46)) := B0.alloc (by simp) _
    have hz2 : ((w.alloc (.cells #[.int .i64 3, .int .i64 (k : Int), .int .i64 xt, .int .i64 xb, .string xnm, .string xv] 53)).alloc (.cells #[.bool r.live, .string r.tag, .string r.text, .slice r.a.p r.a.n r.a.c, .int .i64 r.up, .slice r.k.p r.k.n r.k.c, .bool r.hasS, .slice r.s.p r.s.n r.s.c, .bool r.inS] 46)).heap.size = w.heap.size + 2 := by simp
    have q1 : ((w.alloc (.cells #[.int .i64 3, .int .i64 (k : Int), .int .i64 xt, .int .i64 xb, .string xnm, .string xv] 53)).alloc (.cells #[.bool r.live, .string r.tag, .string r.text, .slice r.a.p r.a.n r.a.c, .int .i64 r.up, .slice r.k.p r.k.n r.k.c, .bool r.hasS, .slice r.s.p r.s.n r.s.c, .bool r.inS] 46)).cell? ⟨w.heap.size, 1, none⟩ = some (.int .i64 (k : Int)) := by rw [World.cell?_alloc2_first]; rfl
    have q2 : ((w.alloc (.cells #[.int .i64 3, .int .i64 (k : Int), .int .i64 xt, .int .i64 xb, .string xnm, .string xv] 53)).alloc (.cells #[.bool r.live, .string r.tag, .string r.text, .slice r.a.p r.a.n r.a.c, .int .i64 r.up, .slice r.k.p r.k.n r.k.c, .bool r.hasS, .slice r.s.p r.s.n r.s.c, .bool r.inS] 46)).cell? ⟨w.heap.size, 2, none⟩ = some (.int .i64 xt) := by rw [World.cell?_alloc2_first]; rfl
    have q3 : ((w.alloc (.cells #[.int .i64 3, .int .i64 (k : Int), .int .i64 xt, .int .i64 xb, .string xnm, .string xv] 53)).alloc (.cells #[.bool r.live, .string r.tag, .string r.text, .slice r.a.p r.a.n r.a.c, .int .i64 r.up, .slice r.k.p r.k.n r.k.c, .bool r.hasS, .slice r.s.p r.s.n r.s.c, .bool r.inS] 46)).cell? ⟨w.heap.size, 3, none⟩ = some (.int .i64 xb) := by rw [World.cell?_alloc2_first]; rfl
    have hbB : ((w.alloc (.cells #[.int .i64 3, .int .i64 (k : Int), .int .i64 xt, .int .i64 xb, .string xnm, .string xv] 53)).alloc (.cells #[.bool r.live, .string r.tag, .string r.text, .slice r.a.p r.a.n r.a.c, .int .i64 r.up, .slice r.k.p r.k.n r.k.c, .bool r.hasS, .slice r.s.p r.s.n r.s.c, .bool r.inS] 46)).heap[w.heap.size + 1]? = some (Obj.cells #[.bool r.live, .string r.tag, .string r.text, .slice r.a.p r.a.n r.a.c, .int .i64 r.up, .slice r.k.p r.k.n r.k.c, .bool r.hasS, .slice r.s.p r.s.n r.s.c, .bool r.inS] 46) := heap_alloc2_new _ _ _
    go_enter Tryz.func57, Tryz.ntmps57
    go_upto_region 5 with fail
    generalize ((w.alloc (.cells #[.int .i64 3, .int .i64 (k : Int), .int .i64 xt, .int .i64 xb, .string xnm, .string xv] 53)).alloc (.cells #[.bool r.live, .string r.tag, .string r.text, .slice r.a.p r.a.n r.a.c, .int .i64 r.up, .slice r.k.p r.k.n r.k.c, .bool r.hasS, .slice r.s.p r.s.n r.s.c, .bool r.inS] 46)) = W at *
    clear r0 r1 r2 r3 r4 r5 r6 r7 r8 K1 B0
    cases hto : Tn.isN d xt true with
    | false =>
      have CE : Hid (Tn.chgE d ⟨3, k, xt, xb, xnm, xv⟩ = 8) := by
        show _ = _
        rw [CM.out]
        unfold Tn.moveE
        simp [hto]
      go_wp2_with (first | (go_at_call 89; refine (rno_any _ _).mono ?_; rintro e w' ⟨rfl, hww⟩; subst hww) | (go_at_call 52; refine (ris_any (H.out.keeps KW) _ _).mono ?_; rintro e w' ⟨rfl, hww⟩; subst hww; rw [hto]))
      go_ret3
      exact ⟨BW, Or.inl ⟨by show _ ≠ _; rw [CE.out]; decide, _, _, by rw [CE.out]; rfl⟩⟩
    | true =>
      go_upto_region 7 with (go_at_call 52; refine (ris_any (H.out.keeps KW) _ _).mono ?_; rintro e w' ⟨rfl, hww⟩; subst hww; rw [hto])
      obtain ⟨t, htt, htd, _⟩ := isN_nat hto
      subst htt
      have HZ : Hid (w'.heap.size = w.heap.size + 2) := hz2
      clear hz2
      have hkz : ∀ (wq : World), Below w'.heap.size w' wq → Keeps w' wq := fun wq h => keeps_below h (Nat.le_refl _)
      cases hw : Tn.within d (t : Int) (k : Int) with
      | true =>
        have CE : Hid (Tn.chgE d ⟨3, k, t, xb, xnm, xv⟩ = 9) := by
          show _ = _
          rw [CM.out]
          unfold Tn.moveE
          simp [hto, hw, hk0]
        go_wp2_with (first | (go_at_call 89; refine (rno_any _ _).mono ?_; rintro e w' ⟨rfl, hww⟩; subst hww) | (go_at_call 90; refine (rwithin_any (H.out.keeps KW) hs1 _ _).mono ?_; rintro e w3 ⟨rfl, hb3⟩; rw [hw]))
        go_ret3
        exact ⟨BW.trans (hb3.mono BW.size), Or.inl ⟨by show _ ≠ _; rw [CE.out]; decide, _, _, by rw [CE.out]; rfl⟩⟩
      | false =>
        go_upto_region 9 with (go_at_call 90; refine (rwithin_any (H.out.keeps KW) hs1 _ _).mono ?_; rintro e w3 ⟨rfl, hb3⟩; rw [hw])
        have K3 := hkz _ hb3
        have B3 := BW.trans (hb3.mono BW.size)
        have p1 := K3 _ _ q1
        have p2 := K3 _ _ q2
        have p3 := K3 _ _ q3
        have hcB3 := block_b hbB hb3
        have HZ3 : Hid (w.heap.size + 2 ≤ w3.heap.size) := by have h1 := hb3.size; have h2 := HZ.out; show _ ≤ _; omega
        have KW3 := KW.trans K3
        clear q1 q2 q3 hbB K3 hb3 hkz HZ KW BW
        clear w'
        by_cases hbk : xb = (k : Int)
        · have CE : Hid (Tn.chgE d ⟨3, k, t, xb, xnm, xv⟩ = 8) := by
            show _ = _
            rw [CM.out]
            unfold Tn.moveE
            simp [hto, hw, hk0, hbk]
          have hbk' : (xb == (k : Int)) = true := by simp [hbk]
          clear hbk
          go_wp2_with (go_at_call 89; refine (rno_any _ _).mono ?_; rintro e w' ⟨rfl, hww⟩; subst hww)
          go_ret3
          exact ⟨B3, Or.inl ⟨by show _ ≠ _; rw [CE.out]; decide, _, _, by rw [CE.out]; rfl⟩⟩
        · have hbk' : (xb == (k : Int)) = false := by simp [hbk]
          obtain ⟨u, hu, hud⟩ := hup hk0
          have HU : Hid ((Tn.nd d k).up = (u : Int)) := hu
          clear hu hup
          have HLS : Hid (∀ j, (Tn.nd d j).kids.length ≤ 900 ∧ (Tn.nd d j).shadow.length ≤ 900) := hls
          clear hls
          obtain ⟨bx, bfz⟩ := box_of_block hcB3
          have hoff := doc_old H.out h0 (g0 := w.heap.size + 1) (by omega)
          go_upto_region 13 with (go_at_call 91; refine (rtake_doc2 (H.out.keeps KW3) hs1 k u hk HU.out hud (Nat.le_trans (HLS.out u).1 (by omega)) (Nat.le_trans (HLS.out u).2 (by omega))).mono ?_
                                  rintro e w4 ⟨g4, c4, rs4, rfl, hd4, hb4, hl4, hof4⟩
                                  have z1 := keeps_below hb4 (Nat.le_refl _) _ _ p1
                                  have z2 := keeps_below hb4 (Nat.le_refl _) _ _ p2
                                  have z3 := keeps_below hb4 (Nat.le_refl _) _ _ p3
                                  have bx4 := bx.keeps (keeps_below hb4 (Nat.le_refl _))
                                  have bf4 := below_frozen hb4 (by have := HZ3.out; omega) bfz
                                  have y4 := bx4.c4
                                  have y8 := bx4.c8)
          have hg5 : w.heap.size + 1 < w3.heap.size := by have := HZ3.out; omega
          have hbz4 := hb4.size
          have M := mid_up (g := w.heap.size + 1) (by omega) NN.out bx4 (KW3.trans (keeps_below hb4 (Nat.le_refl _))) (B3.trans (hb4.mono B3.size)) (t : Int)
          have off4 := hof4.out _ hg5 hoff
          have hd5 : DocAt ((w4.setCell ⟨w.heap.size + 1, 4, none⟩ (.int .i64 (t : Int))).setCell ⟨w.heap.size + 1, 8, none⟩ (.bool false)) g4 0 c4 rs4 (Tn.takeD d k) := doc_off (doc_off hd4 off4) off4
          have n1 : ((w4.setCell ⟨w.heap.size + 1, 4, none⟩ (.int .i64 (t : Int))).setCell ⟨w.heap.size + 1, 8, none⟩ (.bool false)).cell? ⟨w.heap.size, 1, none⟩ = some (.int .i64 (k : Int)) := by
            rw [World.cell?_setCell_other _ _ _ _ (by simp), World.cell?_setCell_other _ _ _ _ (by simp)]
            exact z1
          have n2 : ((w4.setCell ⟨w.heap.size + 1, 4, none⟩ (.int .i64 (t : Int))).setCell ⟨w.heap.size + 1, 8, none⟩ (.bool false)).cell? ⟨w.heap.size, 2, none⟩ = some (.int .i64 (t : Int)) := by
            rw [World.cell?_setCell_other _ _ _ _ (by simp), World.cell?_setCell_other _ _ _ _ (by simp)]
            exact z2
          have n3 : ((w4.setCell ⟨w.heap.size + 1, 4, none⟩ (.int .i64 (t : Int))).setCell ⟨w.heap.size + 1, 8, none⟩ (.bool false)).cell? ⟨w.heap.size, 3, none⟩ = some (.int .i64 xb) := by
            rw [World.cell?_setCell_other _ _ _ _ (by simp), World.cell?_setCell_other _ _ _ _ (by simp)]
            exact z3
          generalize hWe : (w4.setCell _ _).setCell _ _ = W5 at M hd5 n1 n2 n3 ⊢
          clear hWe y4 y8 bf4 bx4 z1 z2 z3 bx bfz hcB3 p1 p2 p3 hd4 hb4 hof4 off4 hoff hg5 hbz4 HZ3 KW3 B3
          clear w4 w3
          have hl5 : rs4.length ≤ 1000 := by rw [hl4.out]; exact hs1
          have h05 : 0 < rs4.length := by rw [hl4.out]; exact h0
          have hk5 : k ≤ rs4.length := by rw [hl4.out]; exact hkl
          have CD : Hid (Tn.chgD d ⟨3, k, t, xb, xnm, xv⟩ = Tn.put1 (Tn.withd (Tn.takeD d k) k { Tn.nd d k with up := (t : Int), inS := false }) k t xb false) := rfl
          have CN : Hid (Tn.chgN d ⟨3, k, t, xb, xnm, xv⟩ = (k : Int)) := rfl
          have CE : Hid (Tn.chgE d ⟨3, k, t, xb, xnm, xv⟩ = Tn.putE (Tn.withd (Tn.takeD d k) k { Tn.nd d k with up := (t : Int), inS := false }) k t xb false) := by
            show _ = _
            rw [CM.out]
            unfold Tn.moveE
            simp [hto, hw, hk0, hbk]
          have hEE : Tn.chgE d ⟨3, k, t, xb, xnm, xv⟩ ≠ 9 → Tn.Ends Tn.fuel (Tn.put1 (Tn.withd (Tn.takeD d k) k { Tn.nd d k with up := (t : Int), inS := false }) k t xb false) k := fun h9 => HE.out (by rw [← CM.out]; exact h9) hk0 hto hw
          have hln : (Tn.takeD d k).length = d.length := takeD_len d k u HU.out hud
          have hP : ∀ (W : World) (g9 c9 : Nat) (rs9 : List Raw), DocAt W g9 0 c9 rs9 (Tn.withd (Tn.takeD d k) k { Tn.nd d k with up := (t : Int), inS := false }) → rs9.length ≤ 1000 → Calls Tryz.prog 92 #[.slice (some ⟨g9, 0, none⟩) rs9.length c9, .int .i64 (k : Int), .int .i64 (t : Int), .int .i64 xb, .bool false] W fun e w' => PutPost W w' e (Tn.withd (Tn.takeD d k) k { Tn.nd d k with up := (t : Int), inS := false }) k t xb false rs9.length := by
            intro W g9 c9 rs9 hd9 hs9
            have hnd : ∀ j, (Tn.nd (Tn.withd (Tn.takeD d k) k { Tn.nd d k with up := (t : Int), inS := false }) j).kids.length ≤ 1000 ∧ (Tn.nd (Tn.withd (Tn.takeD d k) k { Tn.nd d k with up := (t : Int), inS := false }) j).shadow.length ≤ 1000 := by
              intro j
              unfold Tn.withd
              rw [if_neg (by omega), nd_set _ _ _ (by omega)]
              split
              · have := HLS.out k; simp only; omega
              · unfold Tn.takeD Tn.withd
                rw [HU.out, Int.toNat_natCast, if_neg (by omega), nd_set _ _ _ hud]
                split
                · have h1 := HLS.out u
                  have h2 := List.length_filter_le (fun x => x != k) (Tn.nd d u).kids
                  have h3 := List.length_filter_le (fun x => x != k) (Tn.nd d u).shadow
                  simp only [Tn.without]
                  omega
                · have := HLS.out j; omega
            have hlt : t < (Tn.withd (Tn.takeD d k) k { Tn.nd d k with up := (t : Int), inS := false }).length := by unfold Tn.withd; rw [if_neg (by omega)]; simp; omega
            refine rput_doc hd9 hs9 k t hlt xb false (hnd t).1 (hnd t).2 (fun hp1 hp2 => hEE ?_)
            rw [CE.out]
            unfold Tn.putE
            rw [if_neg (by omega), if_neg (by omega)]
            split <;> decide
          clear HE hEE CM
          generalize hd2 : (Tn.withd (Tn.takeD d k) k { Tn.nd d k with up := (t : Int), inS := false }) = d2 at *
          generalize hd3 : Tn.put1 d2 k t xb false = d3 at *
          have hbz := M.below.size
          obtain ⟨m0, m1, m2, m3, m4, m5, m6, m7, m8⟩ := M.box
          have SS : ∀ w'', Keeps W5 w'' → ((fun w' => w'.cell? ⟨w.heap.size, 1, none⟩ = some (.int .i64 (k : Int)) ∧ w'.cell? ⟨w.heap.size, 2, none⟩ = some (.int .i64 (t : Int)) ∧ w'.cell? ⟨w.heap.size, 3, none⟩ = some (.int .i64 xb) ∧
              w'.cell? ⟨w.heap.size + 1, 0, none⟩ = some (.bool r.live) ∧ w'.cell? ⟨w.heap.size + 1, 1, none⟩ = some (.string r.tag) ∧ w'.cell? ⟨w.heap.size + 1, 2, none⟩ = some (.string r.text) ∧ w'.cell? ⟨w.heap.size + 1, 3, none⟩ = some (.slice r.a.p r.a.n r.a.c) ∧
              w'.cell? ⟨w.heap.size + 1, 4, none⟩ = some (.int .i64 (t : Int)) ∧ w'.cell? ⟨w.heap.size + 1, 5, none⟩ = some (.slice r.k.p r.k.n r.k.c) ∧ w'.cell? ⟨w.heap.size + 1, 6, none⟩ = some (.bool r.hasS) ∧ w'.cell? ⟨w.heap.size + 1, 7, none⟩ = some (.slice r.s.p r.s.n r.s.c) ∧ w'.cell? ⟨w.heap.size + 1, 8, none⟩ = some (.bool false))) w'' := fun w'' hk => ⟨hk _ _ n1, hk _ _ n2, hk _ _ n3, hk _ _ m0, hk _ _ m1, hk _ _ m2, hk _ _ m3, hk _ _ m4, hk _ _ m5, hk _ _ m6, hk _ _ m7, hk _ _ m8⟩
          go_region_held3 (fun w' => w'.cell? ⟨w.heap.size, 1, none⟩ = some (.int .i64 (k : Int)) ∧ w'.cell? ⟨w.heap.size, 2, none⟩ = some (.int .i64 (t : Int)) ∧ w'.cell? ⟨w.heap.size, 3, none⟩ = some (.int .i64 xb) ∧
              w'.cell? ⟨w.heap.size + 1, 0, none⟩ = some (.bool r.live) ∧ w'.cell? ⟨w.heap.size + 1, 1, none⟩ = some (.string r.tag) ∧ w'.cell? ⟨w.heap.size + 1, 2, none⟩ = some (.string r.text) ∧ w'.cell? ⟨w.heap.size + 1, 3, none⟩ = some (.slice r.a.p r.a.n r.a.c) ∧
              w'.cell? ⟨w.heap.size + 1, 4, none⟩ = some (.int .i64 (t : Int)) ∧ w'.cell? ⟨w.heap.size + 1, 5, none⟩ = some (.slice r.k.p r.k.n r.k.c) ∧ w'.cell? ⟨w.heap.size + 1, 6, none⟩ = some (.bool r.hasS) ∧ w'.cell? ⟨w.heap.size + 1, 7, none⟩ = some (.slice r.s.p r.s.n r.s.c) ∧ w'.cell? ⟨w.heap.size + 1, 8, none⟩ = some (.bool false))
            ((apply SS; first | exact Keeps.refl _ | assumption | exact keeps_drew (Keeps.refl _)))
            (first
            | (go_at_call 93; refine (rwith_doc (w := W5.drew) (r := { r with up := (t : Int), inS := false }) (hd5.keeps (keeps_drew (Keeps.refl W5))) hl5 h05 (M.nd.keeps (keeps_drew (Keeps.refl W5))) k hk5).mono ?_; rintro e w9 ⟨g9, c9, rs9, rfl, hd9, hb9, hrs9⟩; have K9 : Keeps W5 w9 := (keeps_drew (Keeps.refl W5)).trans (keeps_below hb9 (Nat.le_refl _)); have hl9 : Hid (rs9.length = rs4.length) := by (show _ = _; rw [hrs9.out, withR_len, if_neg (by have := hl4.out; omega)]))
            | (go_at_call 92; rw [hd2] at hd9; refine (hP _ _ _ _ hd9 (by rw [hl9.out]; exact hl5)).mono ?_; rintro e w10 hpo; obtain ⟨dv, rfl, hpp⟩ := put_form hpo; have K10 : Keeps W5 w10 := K9.trans (keeps_below hpp.out.1 (Nat.le_refl _)); have Bz : Below w.heap.size w w10 := (M.below.trans ((Below.refl _ W5).drew.trans (hb9.mono hbz))).trans (hpp.out.1.mono (Nat.le_trans hbz hb9.size))))
          all_goals
            have e1 := K10 _ _ n1
            rcases hpp.out.2 with hne | ⟨heq, g11, c11, rs11, rfl, hd11, hl11⟩
            · go_wp2_with fail
              go_quiet (fail)
              go_wp2_with fail
              go_ret3
              exact ⟨Bz.trans ⟨rfl, rfl, rfl, Nat.le_refl _, fun _ _ => rfl⟩, Or.inl ⟨by show _ ≠ _; rw [CE.out]; exact hne, _, _, by rw [CE.out]; rfl⟩⟩
            · go_wp2_with fail
              go_quiet (fail)
              go_wp2_with fail
              go_ret3
              exact ⟨Bz.trans ⟨rfl, rfl, rfl, Nat.le_refl _, fun _ _ => rfl⟩, Or.inr ⟨by show _ = _; rw [CE.out]; exact heq, g11, c11, rs11, by rw [CN.out, heq]; rfl, by rw [CD.out, ← hd3]; exact hd11.keeps (keeps_drewN _ _), by show _ ≤ _; rw [hl11, hl9.out, hl4.out]; omega⟩⟩
end Go.Proofs.YtbinbojicmhdlaeGreatDoor

/-
  THE WALKS of the reference's change: remove.
-/
namespace Go.Proofs.YtbinbojicmhdlaeGreatDoor
open Go.RowKit

theorem all_lt : ∀ (f : Nat) (d : Tn.Dc) (n : Nat), ∀ j ∈ Tn.all f d n, j < d.length
  | 0, _, _, j, h => by simp [Tn.all] at h
  | f + 1, d, n, j, h => by
    rw [Tn.all] at h
    split at h
    · rename_i hn
      obtain ⟨k, hk, hlt, _⟩ := isN_nat hn
      simp only [List.mem_cons, List.mem_append, List.mem_flatMap] at h
      rcases h with rfl | ⟨a, _, ha⟩ | ⟨a, _, ha⟩
      · omega
      · exact all_lt f d a j ha
      · exact all_lt f d a j ha
    · simp at h
def zr : Raw := ⟨false, ⟨#[]⟩, ⟨#[]⟩, ⟨none, 0, 0⟩, 0, ⟨none, 0, 0⟩, false, ⟨none, 0, 0⟩, false⟩
theorem zr_nd (w : World) : NdAt w zr Tn.zero := ⟨rfl, rfl, rfl, rfl, rfl, rfl, ⟨none, 0, rfl, Nat.le_refl _, by decide, Or.inl ⟨rfl, rfl⟩, fun j x h => by simp [Tn.zero] at h⟩, ints_nil w, ints_nil w⟩
def gone (d : Tn.Dc) (l : List Nat) : Tn.Dc := l.foldl (fun d k => Tn.withd d k Tn.zero) d
theorem gone_succ (d : Tn.Dc) (l : List Nat) (j : Nat) (h : j < l.length) : gone d (l.take (j + 1)) = Tn.withd (gone d (l.take j)) l[j] Tn.zero := by
  unfold gone
  rw [List.take_succ_eq_append_getElem h, List.foldl_append]
  rfl

set_option maxHeartbeats 1600000 in
set_option maxRecDepth 100000 in
theorem rchange_remove {w : World} {b o c : Nat} {rs : List Raw} {d : Tn.Dc} (hd : DocAt w b o c rs d) (hs : rs.length ≤ 900) (x : Tn.Chg) (k : Nat) (hn : x.node = (k : Int)) (hk : k < d.length) (hkd : x.kind = 4) (hv : x.value.size ≤ 4194304) (hnm : x.name.size ≤ 4194304) (hup : k ≠ 0 → ∃ u : Nat, (Tn.nd d k).up = (u : Int) ∧ u < d.length) (hls : ∀ j, (Tn.nd d j).kids.length ≤ 900 ∧ (Tn.nd d j).shadow.length ≤ 900)
    (hF : ∀ f n, (Tn.all f d n).length ≤ 1000) (hE : Tn.Ends Tn.fuel d k) :
    Calls Tryz.prog 57 #[.slice (some ⟨b, o, none⟩) rs.length c, chv x] w fun e w' => ChgPost w w' e d x rs.length := by
  have H : Hid (DocAt w b o c rs d) := hd
  have hk' : k < rs.length := by rw [hd.len]; exact hk
  have h0 : 0 < rs.length := by omega
  have hs1 : rs.length ≤ 1000 := by omega
  have hkl : k ≤ rs.length := by omega
  have NN : Hid (NdAt w rs[k] (Tn.nd d k)) := by rw [nd_at hk]; exact hd.nds k hk' hk
  obtain ⟨xk, xn, xt, xb, xnm, xv⟩ := x
  simp only at hn hkd hv hnm
  subst hn hkd
  have K1 := keeps_alloc w (.cells #[.int .i64 4, .int .i64 (k : Int), .int .i64 xt, .int .i64 xb, .string xnm, .string xv] 53)
  have r0 := K1 _ _ (hd.row.c0 k hk')
  have r1 := K1 _ _ (hd.row.c1 k hk')
  have r2 := K1 _ _ (hd.row.c2 k hk')
  have r3 := K1 _ _ (hd.row.c3 k hk')
  have r4 := K1 _ _ (hd.row.c4 k hk')
  have r5 := K1 _ _ (hd.row.c5 k hk')
  have r6 := K1 _ _ (hd.row.c6 k hk')
  have r7 := K1 _ _ (hd.row.c7 k hk')
  have r8 := K1 _ _ (hd.row.c8 k hk')
  clear hd
  generalize rs[k] = r at *
  unfold chv
  simp only
  have htg : Hid (r.tag = (Tn.nd d k).tag) := NN.out.tag
  have B0 := (Below.refl w.heap.size w).alloc (Nat.le_refl _) (.cells #[.int .i64 4, .int .i64 (k : Int), .int .i64 xt, .int .i64 xb, .string xnm, .string xv] 53)
  have HE : Hid (Tn.Ends Tn.fuel d k) := hE
  have HF : Hid (∀ f n, (Tn.all f d n).length ≤ 1000) := hF
  clear hE hF
  by_cases hk0 : k = 0
  · have CE : Hid (Tn.chgE d ⟨4, k, xt, xb, xnm, xv⟩ = 8) := by
      show _ = _
      unfold Tn.chgE
      simp [hk0]
    have hk0' : (((k : Nat) : Int) == 0) = true := by simp [hk0]
    clear hk0
    go_enter Tryz.func57, Tryz.ntmps57
    go_wp2_with (go_at_call 89; refine (rno_any _ _).mono ?_; rintro e w' ⟨rfl, hww⟩; subst hww)
    go_ret3
    exact ⟨B0.alloc (by simp) _, Or.inl ⟨by show _ ≠ _; rw [CE.out]; decide, _, _, by rw [CE.out]; rfl⟩⟩
  · have CE : Hid (Tn.chgE d ⟨4, k, xt, xb, xnm, xv⟩ = 0) := by
      show _ = _
      unfold Tn.chgE
      simp [hk0]
    have hk0' : (((k : Nat) : Int) == 0) = false := by simp; omega
    have CD : Hid (Tn.chgD d ⟨4, k, xt, xb, xnm, xv⟩ = gone (Tn.takeD d k) (Tn.all Tn.fuel d k)) := rfl
    have CN : Hid (Tn.chgN d ⟨4, k, xt, xb, xnm, xv⟩ = (k : Int)) := rfl
    have KW : Keeps w ((w.alloc (.cells #[.int .i64 4, .int .i64 (k : Int), .int .i64 xt, .int .i64 xb, .string xnm, .string xv] 53)).alloc (.cells #[.bool r.live, .string r.tag, .string r.text, .slice r.a.p r.a.n r.a.c, .int .i64 r.up, .slice r.k.p r.k.n r.k.c, .bool r.hasS, .slice r.s.p r.s.n r.s.c, .bool r.inS] 46)) := keeps_alloc' _ K1
    have BW : Below w.heap.size w ((w.alloc (.cells #[.int .i64 4, .int .i64 (k : Int), .int .i64 xt, .int .i64 xb, .string xnm, .string xv] 53)).alloc (.cells #[.bool r.live, .string r.tag, .string r.text, .slice r.a.p r.a.n r.a.c, .int .i64 r.up, .slice r.k.p r.k.n r.k.c, .bool r.hasS, .slice r.s.p r.s.n r.s.c, .bool r.inS] 46)) := B0.alloc (by simp) _
    have q1 : ((w.alloc (.cells #[.int .i64 4, .int .i64 (k : Int), .int .i64 xt, .int .i64 xb, .string xnm, .string xv] 53)).alloc (.cells #[.bool r.live, .string r.tag, .string r.text, .slice r.a.p r.a.n r.a.c, .int .i64 r.up, .slice r.k.p r.k.n r.k.c, .bool r.hasS, .slice r.s.p r.s.n r.s.c, .bool r.inS] 46)).cell? ⟨w.heap.size, 1, none⟩ = some (.int .i64 (k : Int)) := by rw [World.cell?_alloc2_first]; rfl
    obtain ⟨u, hu, hud⟩ := hup hk0
    have HU : Hid ((Tn.nd d k).up = (u : Int)) := hu
    clear hu hup
    have HLS : Hid (∀ j, (Tn.nd d j).kids.length ≤ 900 ∧ (Tn.nd d j).shadow.length ≤ 900) := hls
    clear hls
    have HA : ∀ W0, DocAt W0 b o c rs d → Calls Tryz.prog 59 #[.slice (some ⟨b, o, none⟩) rs.length c, .int .i64 (k : Int)] W0 fun e w' =>
        ∃ v, e = .returned v ∧ OwnI w' W0.heap.size v (Tn.all Tn.fuel d k) ∧ Below W0.heap.size W0 w' := fun W0 h => rall_own HF.out Tn.fuel k W0 h HE.out
    have hAl := HF.out Tn.fuel k
    have hAt : Hid (∀ j ∈ Tn.all Tn.fuel d k, j < d.length) := all_lt Tn.fuel d k
    have TL : Hid ((Tn.takeD d k).length = d.length) := takeD_len d k u HU.out hud
    generalize Tn.all Tn.fuel d k = l at *
    have TK : ∀ W0, DocAt W0 b o c rs d → Calls Tryz.prog 91 #[.slice (some ⟨b, o, none⟩) rs.length c, .int .i64 (k : Int)] W0 fun e w' =>
        ∃ g c' rs', e = .returned (.slice (some ⟨g, 0, none⟩) rs'.length c') ∧ DocAt w' g 0 c' rs' (Tn.takeD d k) ∧ Below W0.heap.size W0 w' ∧ Hid (rs'.length = rs.length) :=
      fun W0 h => rtake_doc h hs1 k u hk HU.out hud (Nat.le_trans (HLS.out u).1 (by omega)) (Nat.le_trans (HLS.out u).2 (by omega))
    go_enter Tryz.func57, Tryz.ntmps57
    go_upto_region 18 with fail
    generalize ((w.alloc (.cells #[.int .i64 4, .int .i64 (k : Int), .int .i64 xt, .int .i64 xb, .string xnm, .string xv] 53)).alloc (.cells #[.bool r.live, .string r.tag, .string r.text, .slice r.a.p r.a.n r.a.c, .int .i64 r.up, .slice r.k.p r.k.n r.k.c, .bool r.hasS, .slice r.s.p r.s.n r.s.c, .bool r.inS] 46)) = W at *
    clear r0 r1 r2 r3 r4 r5 r6 r7 r8 K1 B0
    go_wp2_with (first
      | (go_at_call 59; refine (HA _ (H.out.keeps KW)).mono ?_; rintro e w2 ⟨v2, rfl, hown2, hb2⟩; obtain ⟨p2, c2, rfl⟩ := hown2.shape; have K2 := keeps_below hb2 (Nat.le_refl _); have y1 := K2 _ _ q1)
      | (go_at_call 91; refine (TK _ (H.out.keeps (KW.trans K2))).mono ?_; rintro e w3 ⟨g3, c3, rs3, rfl, hd3, hb3, hl3⟩; have z1 := keeps_below hb3 (Nat.le_refl _) _ _ y1))
    have hI := (ints_of_owns hown2).keeps (keeps_below hb3 (Nat.le_refl _))
    have B3 := (BW.trans (hb2.mono BW.size)).trans (hb3.mono (Nat.le_trans BW.size hb2.size))
    clear hown2 hb2 hb3 y1 K2 q1 KW BW HA TK HF HE HLS
    clear w2 W
    obtain ⟨pp, pc, he, h1, h2, _, hat⟩ := hI.at
    cases he
    have T : Hid (∀ j (hj : j < l.length), ∃ b o, p2 = some ⟨b, o, none⟩ ∧ w3.cell? ⟨b, o + j, none⟩ = some (.int .i64 (l[j] : Int))) := hat
    clear hat hI
    go_loopw [0, 116] (fun dv iv wr => ∃ (j : Nat) (g c' : Nat) (rs' : List Raw), j ≤ l.length ∧ iv = .int .i64 j ∧ dv = .slice (some ⟨g, 0, none⟩) rs'.length c' ∧ DocAt wr g 0 c' rs' (gone (Tn.takeD d k) (l.take j)) ∧ Hid (rs'.length = rs.length) ∧ Below w3.heap.size w3 wr)
      (fun _ i _ => l.length - (intOf i).toNat)
    case atStart => exact ⟨0, g3, c3, rs3, Nat.zero_le _, rfl, rfl, hd3, hl3, Below.refl _ _⟩
    case round =>
      obtain ⟨j, g, c', rs', hj, rfl, rfl, hdr, hlr, hnx⟩ := hrel
      clear hd3 hl3
      have hbz := hnx.size
      have z1r := keeps_below hnx (Nat.le_refl _) _ _ z1
      have hl5 : rs'.length ≤ 1000 := by rw [hlr.out]; exact hs1
      have h05 : 0 < rs'.length := by rw [hlr.out]; exact h0
      by_cases hlt : j < l.length
      · obtain ⟨b1, o1, rfl, hc⟩ := T.out j hlt
        have hcr := keeps_below hnx (Nat.le_refl _) _ _ hc
        have F : Hid (gone (Tn.takeD d k) (l.take (j + 1)) = Tn.withd (gone (Tn.takeD d k) (l.take j)) l[j] Tn.zero) := gone_succ _ _ _ hlt
        have hkj : l[j] ≤ rs'.length := by rw [hlr.out, H.out.len]; exact Nat.le_of_lt (hAt.out _ (List.getElem_mem _))
        have hne : Hid (l[j] ≠ rs'.length) := by show _ ≠ _; rw [hlr.out, H.out.len]; exact Nat.ne_of_lt (hAt.out _ (List.getElem_mem _))
        clear hc
        generalize l[j] = x at *
        go_wp2_with (go_at_call 93; refine (rwith_doc (r := zr) hdr hl5 h05 (zr_nd _) x hkj).mono ?_; rintro e w9 ⟨g9, c9, rs9, rfl, hd9, hb9, hrs9⟩)
        go_roundw
        case rel => exact ⟨j + 1, g9, c9, rs9, by omega, by go_num, rfl, by rw [F.out]; exact hd9, by show _ = _; rw [hrs9.out, withR_len, if_neg hne.out]; exact hlr.out, hnx.trans (hb9.mono hbz)⟩
        case measure => simp [intOf]; omega
      · obtain rfl : j = l.length := by omega
        rw [List.take_length] at hdr
        go_wp2_with fail
        go_quiet (fail)
        go_wp2_with fail
        go_ret3
        exact ⟨(B3.trans (hnx.mono B3.size)).trans ⟨rfl, rfl, rfl, Nat.le_refl _, fun _ _ => rfl⟩, Or.inr ⟨CE, g, c', rs', by rw [CN.out]; rfl, by rw [CD.out]; exact hdr.keeps (keeps_drewN _ _), by show _ ≤ _; rw [hlr.out]; omega⟩⟩
end Go.Proofs.YtbinbojicmhdlaeGreatDoor

/-
  THE WALKS of the reference's change: make and text.
-/
namespace Go.Proofs.YtbinbojicmhdlaeGreatDoor
open Go.RowKit

set_option maxHeartbeats 1600000 in
set_option maxRecDepth 100000 in
theorem rchange_mk1 {w : World} {b o c : Nat} {rs : List Raw} {d : Tn.Dc} (hd : DocAt w b o c rs d) (hs : rs.length ≤ 900) (x : Tn.Chg) (k : Nat) (hn : x.node = (k : Int)) (hk : k < d.length) (hkd : x.kind = 1) (hv : x.value.size ≤ 4194304) (hnm : x.name.size ≤ 4194304) (hls : ∀ j, (Tn.nd (Tn.mk1 d x) j).kids.length ≤ 1000 ∧ (Tn.nd (Tn.mk1 d x) j).shadow.length ≤ 1000) (hE : Tn.Ends Tn.fuel (Tn.makeD d x) (Tn.free d)) :
    Calls Tryz.prog 57 #[.slice (some ⟨b, o, none⟩) rs.length c, chv x] w fun e w' => ChgPost w w' e d x rs.length := by
  have H : Hid (DocAt w b o c rs d) := hd
  have hk' : k < rs.length := by rw [hd.len]; exact hk
  have h0 : 0 < rs.length := by omega
  have hs1 : rs.length ≤ 1000 := by omega
  have hkl : k ≤ rs.length := by omega
  have NN : Hid (NdAt w rs[k] (Tn.nd d k)) := by rw [nd_at hk]; exact hd.nds k hk' hk
  obtain ⟨xk, xn, xt, xb, xnm, xv⟩ := x
  simp only at hn hkd hv hnm
  subst hn hkd
  have K1 := keeps_alloc w (.cells #[.int .i64 1, .int .i64 (k : Int), .int .i64 xt, .int .i64 xb, .string xnm, .string xv] 53)
  have r0 := K1 _ _ (hd.row.c0 k hk')
  have r1 := K1 _ _ (hd.row.c1 k hk')
  have r2 := K1 _ _ (hd.row.c2 k hk')
  have r3 := K1 _ _ (hd.row.c3 k hk')
  have r4 := K1 _ _ (hd.row.c4 k hk')
  have r5 := K1 _ _ (hd.row.c5 k hk')
  have r6 := K1 _ _ (hd.row.c6 k hk')
  have r7 := K1 _ _ (hd.row.c7 k hk')
  have r8 := K1 _ _ (hd.row.c8 k hk')
  clear hd
  generalize rs[k] = r at *
  unfold chv
  simp only
  have htg : Hid (r.tag = (Tn.nd d k).tag) := NN.out.tag
  have B0 := (Below.refl w.heap.size w).alloc (Nat.le_refl _) (.cells #[.int .i64 1, .int .i64 (k : Int), .int .i64 xt, .int .i64 xb, .string xnm, .string xv] 53)
  have hhs : Hid (r.hasS = (Tn.nd d k).hasS) := NN.out.hasS
  have HLS : Hid (∀ j, (Tn.nd (Tn.mk1 d ⟨1, k, xt, xb, xnm, xv⟩) j).kids.length ≤ 1000 ∧ (Tn.nd (Tn.mk1 d ⟨1, k, xt, xb, xnm, xv⟩) j).shadow.length ≤ 1000) := hls
  have HE : Hid (Tn.Ends Tn.fuel (Tn.makeD d ⟨1, k, xt, xb, xnm, xv⟩) (Tn.free d)) := hE
  clear hls hE
  cases het : r.tag.toList.isEmpty with
  | true =>
    have CE : Hid (Tn.chgE d ⟨1, k, xt, xb, xnm, xv⟩ = 8) := by
      show _ = _
      unfold Tn.chgE Tn.has
      simp [← htg.out, het]
    go_enter Tryz.func57, Tryz.ntmps57
    go_wp2_with (go_at_call 89; refine (rno_any _ _).mono ?_; rintro e w' ⟨rfl, hww⟩; subst hww)
    go_ret3
    exact ⟨B0.alloc (by simp) _, Or.inl ⟨by show _ ≠ _; rw [CE.out]; decide, _, _, by rw [CE.out]; rfl⟩⟩
  | false =>
    have hmk : Tn.chgE d ⟨1, k, xt, xb, xnm, xv⟩ = Tn.makeE d ⟨1, k, xt, xb, xnm, xv⟩ := by
      unfold Tn.chgE Tn.has
      simp [← htg.out, het]
    have e1 : Tn.isText ⟨1, k, xt, xb, xnm, xv⟩ = false := rfl
    have e2 : Tn.isSh ⟨1, k, xt, xb, xnm, xv⟩ = false := rfl
    cases hno : Tn.nameL xnm.data.toList with
    | false =>
      have CE : Hid (Tn.chgE d ⟨1, k, xt, xb, xnm, xv⟩ = 7) := by
        show _ = _
        rw [hmk]
        unfold Tn.makeE Tn.okName
        rw [e1]
        simp [hno]
      clear hmk e1 e2
      go_enter Tryz.func57, Tryz.ntmps57
      go_wp2_with (first | (go_at_call 89; refine (rno_any _ _).mono ?_; rintro e w' ⟨rfl, hww⟩; subst hww) | (go_at_call 94; refine (rname_any _ _ hnm).mono ?_; rintro e w' ⟨rfl, hww⟩; subst hww; rw [hno]))
      go_ret3
      exact ⟨(B0.alloc (by simp) _).alloc (by simp; omega) _, Or.inl ⟨by show _ ≠ _; rw [CE.out]; decide, _, _, by rw [CE.out]; rfl⟩⟩
    | true =>
      have step1 : Tn.makeE d ⟨1, k, xt, xb, xnm, xv⟩ = if Tn.isSh ⟨1, k, xt, xb, xnm, xv⟩ = true ∧ (Tn.nd d k).hasS = false then 8 else if 60 ≤ Tn.free d then 5 else Tn.putE (Tn.mk1 d ⟨1, k, xt, xb, xnm, xv⟩) (Tn.free d) k (Tn.bef ⟨1, k, xt, xb, xnm, xv⟩) (Tn.isSh ⟨1, k, xt, xb, xnm, xv⟩) := by
        unfold Tn.makeE Tn.okName
        rw [e1]
        simp [hno]
      have CE0 : Hid (Tn.chgE d ⟨1, k, xt, xb, xnm, xv⟩ = if 60 ≤ Tn.free d then 5 else Tn.putE (Tn.withd d (Tn.free d) (Tn.made { Tn.zero with tag := xnm } k false)) (Tn.free d) k (xb) false) := by
        show _ = _
        rw [hmk, step1, e2]
        simp
        rfl
      clear hmk e1 e2 step1
      have CD : Hid (Tn.chgD d ⟨1, k, xt, xb, xnm, xv⟩ = Tn.put1 (Tn.withd d (Tn.free d) (Tn.made { Tn.zero with tag := xnm } k false)) (Tn.free d) k (xb) false) := rfl
      have CN : Hid (Tn.chgN d ⟨1, k, xt, xb, xnm, xv⟩ = (Tn.free d : Int)) := by show _ = _; unfold Tn.chgN; simp
      have KW : Keeps w (((w.alloc (.cells #[.int .i64 1, .int .i64 (k : Int), .int .i64 xt, .int .i64 xb, .string xnm, .string xv] 53)).alloc (.cells #[.bool r.live, .string r.tag, .string r.text, .slice r.a.p r.a.n r.a.c, .int .i64 r.up, .slice r.k.p r.k.n r.k.c, .bool r.hasS, .slice r.s.p r.s.n r.s.c, .bool r.inS] 46)).alloc (.cells #[.bool false, .string xnm, .string ⟨#[]⟩, .slice none 0 0, .int .i64 0, .slice none 0 0, .bool false, .slice none 0 0, .bool false] 46)) := keeps_alloc' _ (keeps_alloc' _ K1)
      have BW : Below w.heap.size w (((w.alloc (.cells #[.int .i64 1, .int .i64 (k : Int), .int .i64 xt, .int .i64 xb, .string xnm, .string xv] 53)).alloc (.cells #[.bool r.live, .string r.tag, .string r.text, .slice r.a.p r.a.n r.a.c, .int .i64 r.up, .slice r.k.p r.k.n r.k.c, .bool r.hasS, .slice r.s.p r.s.n r.s.c, .bool r.inS] 46)).alloc (.cells #[.bool false, .string xnm, .string ⟨#[]⟩, .slice none 0 0, .int .i64 0, .slice none 0 0, .bool false, .slice none 0 0, .bool false] 46)) := (B0.alloc (by simp) _).alloc (by simp; omega) _
      have hN9 : NdAt (((w.alloc (.cells #[.int .i64 1, .int .i64 (k : Int), .int .i64 xt, .int .i64 xb, .string xnm, .string xv] 53)).alloc (.cells #[.bool r.live, .string r.tag, .string r.text, .slice r.a.p r.a.n r.a.c, .int .i64 r.up, .slice r.k.p r.k.n r.k.c, .bool r.hasS, .slice r.s.p r.s.n r.s.c, .bool r.inS] 46)).alloc (.cells #[.bool false, .string xnm, .string ⟨#[]⟩, .slice none 0 0, .int .i64 0, .slice none 0 0, .bool false, .slice none 0 0, .bool false] 46)) { zr with tag := xnm } { Tn.zero with tag := xnm } := ⟨rfl, rfl, rfl, rfl, rfl, rfl, ⟨none, 0, rfl, Nat.le_refl _, by decide, Or.inl ⟨rfl, rfl⟩, fun j x h => by simp [Tn.zero] at h⟩, ints_nil _, ints_nil _⟩
      have HM : ∀ W0, DocAt W0 b o c rs d → NdAt W0 { zr with tag := xnm } { Tn.zero with tag := xnm } → Calls Tryz.prog 96 #[.slice (some ⟨b, o, none⟩) rs.length c, Raw.agg { zr with tag := xnm }, .int .i64 (k : Int), .int .i64 (xb), .bool false] W0 fun e w' => MakePost W0 w' e d { Tn.zero with tag := xnm } k (xb) false rs.length :=
        fun W0 h h2 => rmake_doc h hs h0 h2 k hk (xb) false (fun j => (HLS.out j).1) (fun j => (HLS.out j).2) HE.out
      go_enter Tryz.func57, Tryz.ntmps57
      go_wp2_with (first | (go_at_call 89; refine (rno_any _ _).mono ?_; rintro e w' ⟨rfl, hww⟩; subst hww) | (go_at_call 94; refine (rname_any _ _ hnm).mono ?_; rintro e w' ⟨rfl, hww⟩; subst hww; rw [hno]) | (go_at_call 96; refine (HM _ (H.out.keeps KW) hN9).mono ?_; rintro e w9 ⟨hb9, hpp⟩; rcases hpp with ⟨h60f, rfl⟩ | ⟨h60f, hne, rfl⟩ | ⟨h60f, heq, g9, c9, rs9, rfl, hd9, hl9⟩))
      · go_ret3
        have CE : Hid (Tn.chgE d ⟨1, k, xt, xb, xnm, xv⟩ = 5) := by show _ = _; rw [CE0.out, if_pos h60f.out]
        exact ⟨BW.trans (hb9.mono BW.size), Or.inl ⟨by show _ ≠ _; rw [CE.out]; decide, _, _, by rw [CE.out]; rfl⟩⟩
      · go_ret3
        have CE : Hid (Tn.chgE d ⟨1, k, xt, xb, xnm, xv⟩ = Tn.putE (Tn.withd d (Tn.free d) (Tn.made { Tn.zero with tag := xnm } k false)) (Tn.free d) k (xb) false) := by show _ = _; rw [CE0.out, if_neg (Nat.not_le.mpr h60f.out)]
        exact ⟨BW.trans (hb9.mono BW.size), Or.inl ⟨by show _ ≠ _; rw [CE.out]; exact hne.out, _, _, by rw [CE.out]; rfl⟩⟩
      · go_ret3
        have CE : Hid (Tn.chgE d ⟨1, k, xt, xb, xnm, xv⟩ = 0) := by show _ = _; rw [CE0.out, if_neg (Nat.not_le.mpr h60f.out)]; exact heq.out
        exact ⟨BW.trans (hb9.mono BW.size), Or.inr ⟨CE, g9, c9, rs9, by rw [CN.out]; rfl, by rw [CD.out]; exact hd9, hl9⟩⟩

set_option maxHeartbeats 1600000 in
set_option maxRecDepth 100000 in
theorem rchange_mk2 {w : World} {b o c : Nat} {rs : List Raw} {d : Tn.Dc} (hd : DocAt w b o c rs d) (hs : rs.length ≤ 900) (x : Tn.Chg) (k : Nat) (hn : x.node = (k : Int)) (hk : k < d.length) (hkd : x.kind = 2) (hv : x.value.size ≤ 4194304) (hnm : x.name.size ≤ 4194304) (hls : ∀ j, (Tn.nd (Tn.mk1 d x) j).kids.length ≤ 1000 ∧ (Tn.nd (Tn.mk1 d x) j).shadow.length ≤ 1000) (hE : Tn.Ends Tn.fuel (Tn.makeD d x) (Tn.free d)) :
    Calls Tryz.prog 57 #[.slice (some ⟨b, o, none⟩) rs.length c, chv x] w fun e w' => ChgPost w w' e d x rs.length := by
  have H : Hid (DocAt w b o c rs d) := hd
  have hk' : k < rs.length := by rw [hd.len]; exact hk
  have h0 : 0 < rs.length := by omega
  have hs1 : rs.length ≤ 1000 := by omega
  have hkl : k ≤ rs.length := by omega
  have NN : Hid (NdAt w rs[k] (Tn.nd d k)) := by rw [nd_at hk]; exact hd.nds k hk' hk
  obtain ⟨xk, xn, xt, xb, xnm, xv⟩ := x
  simp only at hn hkd hv hnm
  subst hn hkd
  have K1 := keeps_alloc w (.cells #[.int .i64 2, .int .i64 (k : Int), .int .i64 xt, .int .i64 xb, .string xnm, .string xv] 53)
  have r0 := K1 _ _ (hd.row.c0 k hk')
  have r1 := K1 _ _ (hd.row.c1 k hk')
  have r2 := K1 _ _ (hd.row.c2 k hk')
  have r3 := K1 _ _ (hd.row.c3 k hk')
  have r4 := K1 _ _ (hd.row.c4 k hk')
  have r5 := K1 _ _ (hd.row.c5 k hk')
  have r6 := K1 _ _ (hd.row.c6 k hk')
  have r7 := K1 _ _ (hd.row.c7 k hk')
  have r8 := K1 _ _ (hd.row.c8 k hk')
  clear hd
  generalize rs[k] = r at *
  unfold chv
  simp only
  have htg : Hid (r.tag = (Tn.nd d k).tag) := NN.out.tag
  have B0 := (Below.refl w.heap.size w).alloc (Nat.le_refl _) (.cells #[.int .i64 2, .int .i64 (k : Int), .int .i64 xt, .int .i64 xb, .string xnm, .string xv] 53)
  have hhs : Hid (r.hasS = (Tn.nd d k).hasS) := NN.out.hasS
  have HLS : Hid (∀ j, (Tn.nd (Tn.mk1 d ⟨2, k, xt, xb, xnm, xv⟩) j).kids.length ≤ 1000 ∧ (Tn.nd (Tn.mk1 d ⟨2, k, xt, xb, xnm, xv⟩) j).shadow.length ≤ 1000) := hls
  have HE : Hid (Tn.Ends Tn.fuel (Tn.makeD d ⟨2, k, xt, xb, xnm, xv⟩) (Tn.free d)) := hE
  clear hls hE
  cases het : r.tag.toList.isEmpty with
  | true =>
    have CE : Hid (Tn.chgE d ⟨2, k, xt, xb, xnm, xv⟩ = 8) := by
      show _ = _
      unfold Tn.chgE Tn.has
      simp [← htg.out, het]
    go_enter Tryz.func57, Tryz.ntmps57
    go_wp2_with (go_at_call 89; refine (rno_any _ _).mono ?_; rintro e w' ⟨rfl, hww⟩; subst hww)
    go_ret3
    exact ⟨B0.alloc (by simp) _, Or.inl ⟨by show _ ≠ _; rw [CE.out]; decide, _, _, by rw [CE.out]; rfl⟩⟩
  | false =>
    have hmk : Tn.chgE d ⟨2, k, xt, xb, xnm, xv⟩ = Tn.makeE d ⟨2, k, xt, xb, xnm, xv⟩ := by
      unfold Tn.chgE Tn.has
      simp [← htg.out, het]
    have e1 : Tn.isText ⟨2, k, xt, xb, xnm, xv⟩ = true := rfl
    have e2 : Tn.isSh ⟨2, k, xt, xb, xnm, xv⟩ = false := rfl
    by_cases h60 : 60 < xv.size
    · have CE : Hid (Tn.chgE d ⟨2, k, xt, xb, xnm, xv⟩ = 4) := by
        show _ = _
        rw [hmk]
        unfold Tn.makeE
        rw [e1]
        simp [h60]
      clear hmk e1 e2
      go_enter Tryz.func57, Tryz.ntmps57
      go_wp2_with (first | (go_at_call 89; refine (rno_any _ _).mono ?_; rintro e w' ⟨rfl, hww⟩; subst hww))
      go_ret3
      exact ⟨(B0.alloc (by simp) _).alloc (by simp; omega) _, Or.inl ⟨by show _ ≠ _; rw [CE.out]; decide, _, _, by rw [CE.out]; rfl⟩⟩
    · have step1 : Tn.makeE d ⟨2, k, xt, xb, xnm, xv⟩ = if Tn.isSh ⟨2, k, xt, xb, xnm, xv⟩ = true ∧ (Tn.nd d k).hasS = false then 8 else if 60 ≤ Tn.free d then 5 else Tn.putE (Tn.mk1 d ⟨2, k, xt, xb, xnm, xv⟩) (Tn.free d) k (Tn.bef ⟨2, k, xt, xb, xnm, xv⟩) (Tn.isSh ⟨2, k, xt, xb, xnm, xv⟩) := by
        unfold Tn.makeE
        rw [e1]
        simp [h60]
      have CE0 : Hid (Tn.chgE d ⟨2, k, xt, xb, xnm, xv⟩ = if 60 ≤ Tn.free d then 5 else Tn.putE (Tn.withd d (Tn.free d) (Tn.made { Tn.zero with text := xv } k false)) (Tn.free d) k (xb) false) := by
        show _ = _
        rw [hmk, step1, e2]
        simp
        rfl
      clear hmk e1 e2 step1
      have CD : Hid (Tn.chgD d ⟨2, k, xt, xb, xnm, xv⟩ = Tn.put1 (Tn.withd d (Tn.free d) (Tn.made { Tn.zero with text := xv } k false)) (Tn.free d) k (xb) false) := rfl
      have CN : Hid (Tn.chgN d ⟨2, k, xt, xb, xnm, xv⟩ = (Tn.free d : Int)) := by show _ = _; unfold Tn.chgN; simp
      have KW : Keeps w (((w.alloc (.cells #[.int .i64 2, .int .i64 (k : Int), .int .i64 xt, .int .i64 xb, .string xnm, .string xv] 53)).alloc (.cells #[.bool r.live, .string r.tag, .string r.text, .slice r.a.p r.a.n r.a.c, .int .i64 r.up, .slice r.k.p r.k.n r.k.c, .bool r.hasS, .slice r.s.p r.s.n r.s.c, .bool r.inS] 46)).alloc (.cells #[.bool false, .string ⟨#[]⟩, .string xv, .slice none 0 0, .int .i64 0, .slice none 0 0, .bool false, .slice none 0 0, .bool false] 46)) := keeps_alloc' _ (keeps_alloc' _ K1)
      have BW : Below w.heap.size w (((w.alloc (.cells #[.int .i64 2, .int .i64 (k : Int), .int .i64 xt, .int .i64 xb, .string xnm, .string xv] 53)).alloc (.cells #[.bool r.live, .string r.tag, .string r.text, .slice r.a.p r.a.n r.a.c, .int .i64 r.up, .slice r.k.p r.k.n r.k.c, .bool r.hasS, .slice r.s.p r.s.n r.s.c, .bool r.inS] 46)).alloc (.cells #[.bool false, .string ⟨#[]⟩, .string xv, .slice none 0 0, .int .i64 0, .slice none 0 0, .bool false, .slice none 0 0, .bool false] 46)) := (B0.alloc (by simp) _).alloc (by simp; omega) _
      have hN9 : NdAt (((w.alloc (.cells #[.int .i64 2, .int .i64 (k : Int), .int .i64 xt, .int .i64 xb, .string xnm, .string xv] 53)).alloc (.cells #[.bool r.live, .string r.tag, .string r.text, .slice r.a.p r.a.n r.a.c, .int .i64 r.up, .slice r.k.p r.k.n r.k.c, .bool r.hasS, .slice r.s.p r.s.n r.s.c, .bool r.inS] 46)).alloc (.cells #[.bool false, .string ⟨#[]⟩, .string xv, .slice none 0 0, .int .i64 0, .slice none 0 0, .bool false, .slice none 0 0, .bool false] 46)) { zr with text := xv } { Tn.zero with text := xv } := ⟨rfl, rfl, rfl, rfl, rfl, rfl, ⟨none, 0, rfl, Nat.le_refl _, by decide, Or.inl ⟨rfl, rfl⟩, fun j x h => by simp [Tn.zero] at h⟩, ints_nil _, ints_nil _⟩
      have HM : ∀ W0, DocAt W0 b o c rs d → NdAt W0 { zr with text := xv } { Tn.zero with text := xv } → Calls Tryz.prog 96 #[.slice (some ⟨b, o, none⟩) rs.length c, Raw.agg { zr with text := xv }, .int .i64 (k : Int), .int .i64 (xb), .bool false] W0 fun e w' => MakePost W0 w' e d { Tn.zero with text := xv } k (xb) false rs.length :=
        fun W0 h h2 => rmake_doc h hs h0 h2 k hk (xb) false (fun j => (HLS.out j).1) (fun j => (HLS.out j).2) HE.out
      go_enter Tryz.func57, Tryz.ntmps57
      go_wp2_with (first | (go_at_call 89; refine (rno_any _ _).mono ?_; rintro e w' ⟨rfl, hww⟩; subst hww) | fail | (go_at_call 96; refine (HM _ (H.out.keeps KW) hN9).mono ?_; rintro e w9 ⟨hb9, hpp⟩; rcases hpp with ⟨h60f, rfl⟩ | ⟨h60f, hne, rfl⟩ | ⟨h60f, heq, g9, c9, rs9, rfl, hd9, hl9⟩))
      · go_ret3
        have CE : Hid (Tn.chgE d ⟨2, k, xt, xb, xnm, xv⟩ = 5) := by show _ = _; rw [CE0.out, if_pos h60f.out]
        exact ⟨BW.trans (hb9.mono BW.size), Or.inl ⟨by show _ ≠ _; rw [CE.out]; decide, _, _, by rw [CE.out]; rfl⟩⟩
      · go_ret3
        have CE : Hid (Tn.chgE d ⟨2, k, xt, xb, xnm, xv⟩ = Tn.putE (Tn.withd d (Tn.free d) (Tn.made { Tn.zero with text := xv } k false)) (Tn.free d) k (xb) false) := by show _ = _; rw [CE0.out, if_neg (Nat.not_le.mpr h60f.out)]
        exact ⟨BW.trans (hb9.mono BW.size), Or.inl ⟨by show _ ≠ _; rw [CE.out]; exact hne.out, _, _, by rw [CE.out]; rfl⟩⟩
      · go_ret3
        have CE : Hid (Tn.chgE d ⟨2, k, xt, xb, xnm, xv⟩ = 0) := by show _ = _; rw [CE0.out, if_neg (Nat.not_le.mpr h60f.out)]; exact heq.out
        exact ⟨BW.trans (hb9.mono BW.size), Or.inr ⟨CE, g9, c9, rs9, by rw [CN.out]; rfl, by rw [CD.out]; exact hd9, hl9⟩⟩

set_option maxHeartbeats 1600000 in
set_option maxRecDepth 100000 in
theorem rchange_mk9 {w : World} {b o c : Nat} {rs : List Raw} {d : Tn.Dc} (hd : DocAt w b o c rs d) (hs : rs.length ≤ 900) (x : Tn.Chg) (k : Nat) (hn : x.node = (k : Int)) (hk : k < d.length) (hkd : x.kind = 9) (hv : x.value.size ≤ 4194304) (hnm : x.name.size ≤ 4194304) (hls : ∀ j, (Tn.nd (Tn.mk1 d x) j).kids.length ≤ 1000 ∧ (Tn.nd (Tn.mk1 d x) j).shadow.length ≤ 1000) (hE : Tn.Ends Tn.fuel (Tn.makeD d x) (Tn.free d)) :
    Calls Tryz.prog 57 #[.slice (some ⟨b, o, none⟩) rs.length c, chv x] w fun e w' => ChgPost w w' e d x rs.length := by
  have H : Hid (DocAt w b o c rs d) := hd
  have hk' : k < rs.length := by rw [hd.len]; exact hk
  have h0 : 0 < rs.length := by omega
  have hs1 : rs.length ≤ 1000 := by omega
  have hkl : k ≤ rs.length := by omega
  have NN : Hid (NdAt w rs[k] (Tn.nd d k)) := by rw [nd_at hk]; exact hd.nds k hk' hk
  obtain ⟨xk, xn, xt, xb, xnm, xv⟩ := x
  simp only at hn hkd hv hnm
  subst hn hkd
  have K1 := keeps_alloc w (.cells #[.int .i64 9, .int .i64 (k : Int), .int .i64 xt, .int .i64 xb, .string xnm, .string xv] 53)
  have r0 := K1 _ _ (hd.row.c0 k hk')
  have r1 := K1 _ _ (hd.row.c1 k hk')
  have r2 := K1 _ _ (hd.row.c2 k hk')
  have r3 := K1 _ _ (hd.row.c3 k hk')
  have r4 := K1 _ _ (hd.row.c4 k hk')
  have r5 := K1 _ _ (hd.row.c5 k hk')
  have r6 := K1 _ _ (hd.row.c6 k hk')
  have r7 := K1 _ _ (hd.row.c7 k hk')
  have r8 := K1 _ _ (hd.row.c8 k hk')
  clear hd
  generalize rs[k] = r at *
  unfold chv
  simp only
  have htg : Hid (r.tag = (Tn.nd d k).tag) := NN.out.tag
  have B0 := (Below.refl w.heap.size w).alloc (Nat.le_refl _) (.cells #[.int .i64 9, .int .i64 (k : Int), .int .i64 xt, .int .i64 xb, .string xnm, .string xv] 53)
  have hhs : Hid (r.hasS = (Tn.nd d k).hasS) := NN.out.hasS
  have HLS : Hid (∀ j, (Tn.nd (Tn.mk1 d ⟨9, k, xt, xb, xnm, xv⟩) j).kids.length ≤ 1000 ∧ (Tn.nd (Tn.mk1 d ⟨9, k, xt, xb, xnm, xv⟩) j).shadow.length ≤ 1000) := hls
  have HE : Hid (Tn.Ends Tn.fuel (Tn.makeD d ⟨9, k, xt, xb, xnm, xv⟩) (Tn.free d)) := hE
  clear hls hE
  cases het : r.tag.toList.isEmpty with
  | true =>
    have CE : Hid (Tn.chgE d ⟨9, k, xt, xb, xnm, xv⟩ = 8) := by
      show _ = _
      unfold Tn.chgE Tn.has
      simp [← htg.out, het]
    go_enter Tryz.func57, Tryz.ntmps57
    go_wp2_with (go_at_call 89; refine (rno_any _ _).mono ?_; rintro e w' ⟨rfl, hww⟩; subst hww)
    go_ret3
    exact ⟨B0.alloc (by simp) _, Or.inl ⟨by show _ ≠ _; rw [CE.out]; decide, _, _, by rw [CE.out]; rfl⟩⟩
  | false =>
    have hmk : Tn.chgE d ⟨9, k, xt, xb, xnm, xv⟩ = Tn.makeE d ⟨9, k, xt, xb, xnm, xv⟩ := by
      unfold Tn.chgE Tn.has
      simp [← htg.out, het]
    have e1 : Tn.isText ⟨9, k, xt, xb, xnm, xv⟩ = false := rfl
    have e2 : Tn.isSh ⟨9, k, xt, xb, xnm, xv⟩ = true := rfl
    cases hno : Tn.nameL xnm.data.toList with
    | false =>
      have CE : Hid (Tn.chgE d ⟨9, k, xt, xb, xnm, xv⟩ = 7) := by
        show _ = _
        rw [hmk]
        unfold Tn.makeE Tn.okName
        rw [e1]
        simp [hno]
      clear hmk e1 e2
      go_enter Tryz.func57, Tryz.ntmps57
      go_wp2_with (first | (go_at_call 89; refine (rno_any _ _).mono ?_; rintro e w' ⟨rfl, hww⟩; subst hww) | (go_at_call 94; refine (rname_any _ _ hnm).mono ?_; rintro e w' ⟨rfl, hww⟩; subst hww; rw [hno]))
      go_ret3
      exact ⟨(B0.alloc (by simp) _).alloc (by simp; omega) _, Or.inl ⟨by show _ ≠ _; rw [CE.out]; decide, _, _, by rw [CE.out]; rfl⟩⟩
    | true =>
      have step1 : Tn.makeE d ⟨9, k, xt, xb, xnm, xv⟩ = if Tn.isSh ⟨9, k, xt, xb, xnm, xv⟩ = true ∧ (Tn.nd d k).hasS = false then 8 else if 60 ≤ Tn.free d then 5 else Tn.putE (Tn.mk1 d ⟨9, k, xt, xb, xnm, xv⟩) (Tn.free d) k (Tn.bef ⟨9, k, xt, xb, xnm, xv⟩) (Tn.isSh ⟨9, k, xt, xb, xnm, xv⟩) := by
        unfold Tn.makeE Tn.okName
        rw [e1]
        simp [hno]
      cases hS : r.hasS with
      | false =>
        have CE : Hid (Tn.chgE d ⟨9, k, xt, xb, xnm, xv⟩ = 8) := by
          show _ = _
          rw [hmk, step1, e2, ← hhs.out, hS]
          simp
        rw [hS] at r6
        clear hmk e1 e2 step1
        go_enter Tryz.func57, Tryz.ntmps57
        go_wp2_with (first | (go_at_call 89; refine (rno_any _ _).mono ?_; rintro e w' ⟨rfl, hww⟩; subst hww) | (go_at_call 94; refine (rname_any _ _ hnm).mono ?_; rintro e w' ⟨rfl, hww⟩; subst hww; rw [hno]))
        go_ret3
        exact ⟨(B0.alloc (by simp) _).alloc (by simp; omega) _, Or.inl ⟨by show _ ≠ _; rw [CE.out]; decide, _, _, by rw [CE.out]; rfl⟩⟩
      | true =>
        rw [hS] at r6
        have CE0 : Hid (Tn.chgE d ⟨9, k, xt, xb, xnm, xv⟩ = if 60 ≤ Tn.free d then 5 else Tn.putE (Tn.withd d (Tn.free d) (Tn.made { Tn.zero with tag := xnm } k true)) (Tn.free d) k (-1) true) := by
          show _ = _
          rw [hmk, step1, e2, ← hhs.out, hS]
          simp
          rfl
        clear hmk e1 e2 step1
        have CD : Hid (Tn.chgD d ⟨9, k, xt, xb, xnm, xv⟩ = Tn.put1 (Tn.withd d (Tn.free d) (Tn.made { Tn.zero with tag := xnm } k true)) (Tn.free d) k (-1) true) := rfl
        have CN : Hid (Tn.chgN d ⟨9, k, xt, xb, xnm, xv⟩ = (Tn.free d : Int)) := by show _ = _; unfold Tn.chgN; simp
        have KW : Keeps w (((w.alloc (.cells #[.int .i64 9, .int .i64 (k : Int), .int .i64 xt, .int .i64 xb, .string xnm, .string xv] 53)).alloc (.cells #[.bool r.live, .string r.tag, .string r.text, .slice r.a.p r.a.n r.a.c, .int .i64 r.up, .slice r.k.p r.k.n r.k.c, .bool true, .slice r.s.p r.s.n r.s.c, .bool r.inS] 46)).alloc (.cells #[.bool false, .string xnm, .string ⟨#[]⟩, .slice none 0 0, .int .i64 0, .slice none 0 0, .bool false, .slice none 0 0, .bool false] 46)) := keeps_alloc' _ (keeps_alloc' _ K1)
        have BW : Below w.heap.size w (((w.alloc (.cells #[.int .i64 9, .int .i64 (k : Int), .int .i64 xt, .int .i64 xb, .string xnm, .string xv] 53)).alloc (.cells #[.bool r.live, .string r.tag, .string r.text, .slice r.a.p r.a.n r.a.c, .int .i64 r.up, .slice r.k.p r.k.n r.k.c, .bool true, .slice r.s.p r.s.n r.s.c, .bool r.inS] 46)).alloc (.cells #[.bool false, .string xnm, .string ⟨#[]⟩, .slice none 0 0, .int .i64 0, .slice none 0 0, .bool false, .slice none 0 0, .bool false] 46)) := (B0.alloc (by simp) _).alloc (by simp; omega) _
        have hN9 : NdAt (((w.alloc (.cells #[.int .i64 9, .int .i64 (k : Int), .int .i64 xt, .int .i64 xb, .string xnm, .string xv] 53)).alloc (.cells #[.bool r.live, .string r.tag, .string r.text, .slice r.a.p r.a.n r.a.c, .int .i64 r.up, .slice r.k.p r.k.n r.k.c, .bool true, .slice r.s.p r.s.n r.s.c, .bool r.inS] 46)).alloc (.cells #[.bool false, .string xnm, .string ⟨#[]⟩, .slice none 0 0, .int .i64 0, .slice none 0 0, .bool false, .slice none 0 0, .bool false] 46)) { zr with tag := xnm } { Tn.zero with tag := xnm } := ⟨rfl, rfl, rfl, rfl, rfl, rfl, ⟨none, 0, rfl, Nat.le_refl _, by decide, Or.inl ⟨rfl, rfl⟩, fun j x h => by simp [Tn.zero] at h⟩, ints_nil _, ints_nil _⟩
        have HM : ∀ W0, DocAt W0 b o c rs d → NdAt W0 { zr with tag := xnm } { Tn.zero with tag := xnm } → Calls Tryz.prog 96 #[.slice (some ⟨b, o, none⟩) rs.length c, Raw.agg { zr with tag := xnm }, .int .i64 (k : Int), .int .i64 (-1), .bool true] W0 fun e w' => MakePost W0 w' e d { Tn.zero with tag := xnm } k (-1) true rs.length :=
          fun W0 h h2 => rmake_doc h hs h0 h2 k hk (-1) true (fun j => (HLS.out j).1) (fun j => (HLS.out j).2) HE.out
        go_enter Tryz.func57, Tryz.ntmps57
        go_wp2_with (first | (go_at_call 89; refine (rno_any _ _).mono ?_; rintro e w' ⟨rfl, hww⟩; subst hww) | (go_at_call 94; refine (rname_any _ _ hnm).mono ?_; rintro e w' ⟨rfl, hww⟩; subst hww; rw [hno]) | (go_at_call 96; refine (HM _ (H.out.keeps KW) hN9).mono ?_; rintro e w9 ⟨hb9, hpp⟩; rcases hpp with ⟨h60f, rfl⟩ | ⟨h60f, hne, rfl⟩ | ⟨h60f, heq, g9, c9, rs9, rfl, hd9, hl9⟩))
        · go_ret3
          have CE : Hid (Tn.chgE d ⟨9, k, xt, xb, xnm, xv⟩ = 5) := by show _ = _; rw [CE0.out, if_pos h60f.out]
          exact ⟨BW.trans (hb9.mono BW.size), Or.inl ⟨by show _ ≠ _; rw [CE.out]; decide, _, _, by rw [CE.out]; rfl⟩⟩
        · go_ret3
          have CE : Hid (Tn.chgE d ⟨9, k, xt, xb, xnm, xv⟩ = Tn.putE (Tn.withd d (Tn.free d) (Tn.made { Tn.zero with tag := xnm } k true)) (Tn.free d) k (-1) true) := by show _ = _; rw [CE0.out, if_neg (Nat.not_le.mpr h60f.out)]
          exact ⟨BW.trans (hb9.mono BW.size), Or.inl ⟨by show _ ≠ _; rw [CE.out]; exact hne.out, _, _, by rw [CE.out]; rfl⟩⟩
        · go_ret3
          have CE : Hid (Tn.chgE d ⟨9, k, xt, xb, xnm, xv⟩ = 0) := by show _ = _; rw [CE0.out, if_neg (Nat.not_le.mpr h60f.out)]; exact heq.out
          exact ⟨BW.trans (hb9.mono BW.size), Or.inr ⟨CE, g9, c9, rs9, by rw [CN.out]; rfl, by rw [CD.out]; exact hd9, hl9⟩⟩

set_option maxHeartbeats 1600000 in
set_option maxRecDepth 100000 in
theorem rchange_mk10 {w : World} {b o c : Nat} {rs : List Raw} {d : Tn.Dc} (hd : DocAt w b o c rs d) (hs : rs.length ≤ 900) (x : Tn.Chg) (k : Nat) (hn : x.node = (k : Int)) (hk : k < d.length) (hkd : x.kind = 10) (hv : x.value.size ≤ 4194304) (hnm : x.name.size ≤ 4194304) (hls : ∀ j, (Tn.nd (Tn.mk1 d x) j).kids.length ≤ 1000 ∧ (Tn.nd (Tn.mk1 d x) j).shadow.length ≤ 1000) (hE : Tn.Ends Tn.fuel (Tn.makeD d x) (Tn.free d)) :
    Calls Tryz.prog 57 #[.slice (some ⟨b, o, none⟩) rs.length c, chv x] w fun e w' => ChgPost w w' e d x rs.length := by
  have H : Hid (DocAt w b o c rs d) := hd
  have hk' : k < rs.length := by rw [hd.len]; exact hk
  have h0 : 0 < rs.length := by omega
  have hs1 : rs.length ≤ 1000 := by omega
  have hkl : k ≤ rs.length := by omega
  have NN : Hid (NdAt w rs[k] (Tn.nd d k)) := by rw [nd_at hk]; exact hd.nds k hk' hk
  obtain ⟨xk, xn, xt, xb, xnm, xv⟩ := x
  simp only at hn hkd hv hnm
  subst hn hkd
  have K1 := keeps_alloc w (.cells #[.int .i64 10, .int .i64 (k : Int), .int .i64 xt, .int .i64 xb, .string xnm, .string xv] 53)
  have r0 := K1 _ _ (hd.row.c0 k hk')
  have r1 := K1 _ _ (hd.row.c1 k hk')
  have r2 := K1 _ _ (hd.row.c2 k hk')
  have r3 := K1 _ _ (hd.row.c3 k hk')
  have r4 := K1 _ _ (hd.row.c4 k hk')
  have r5 := K1 _ _ (hd.row.c5 k hk')
  have r6 := K1 _ _ (hd.row.c6 k hk')
  have r7 := K1 _ _ (hd.row.c7 k hk')
  have r8 := K1 _ _ (hd.row.c8 k hk')
  clear hd
  generalize rs[k] = r at *
  unfold chv
  simp only
  have htg : Hid (r.tag = (Tn.nd d k).tag) := NN.out.tag
  have B0 := (Below.refl w.heap.size w).alloc (Nat.le_refl _) (.cells #[.int .i64 10, .int .i64 (k : Int), .int .i64 xt, .int .i64 xb, .string xnm, .string xv] 53)
  have hhs : Hid (r.hasS = (Tn.nd d k).hasS) := NN.out.hasS
  have HLS : Hid (∀ j, (Tn.nd (Tn.mk1 d ⟨10, k, xt, xb, xnm, xv⟩) j).kids.length ≤ 1000 ∧ (Tn.nd (Tn.mk1 d ⟨10, k, xt, xb, xnm, xv⟩) j).shadow.length ≤ 1000) := hls
  have HE : Hid (Tn.Ends Tn.fuel (Tn.makeD d ⟨10, k, xt, xb, xnm, xv⟩) (Tn.free d)) := hE
  clear hls hE
  cases het : r.tag.toList.isEmpty with
  | true =>
    have CE : Hid (Tn.chgE d ⟨10, k, xt, xb, xnm, xv⟩ = 8) := by
      show _ = _
      unfold Tn.chgE Tn.has
      simp [← htg.out, het]
    go_enter Tryz.func57, Tryz.ntmps57
    go_wp2_with (go_at_call 89; refine (rno_any _ _).mono ?_; rintro e w' ⟨rfl, hww⟩; subst hww)
    go_ret3
    exact ⟨B0.alloc (by simp) _, Or.inl ⟨by show _ ≠ _; rw [CE.out]; decide, _, _, by rw [CE.out]; rfl⟩⟩
  | false =>
    have hmk : Tn.chgE d ⟨10, k, xt, xb, xnm, xv⟩ = Tn.makeE d ⟨10, k, xt, xb, xnm, xv⟩ := by
      unfold Tn.chgE Tn.has
      simp [← htg.out, het]
    have e1 : Tn.isText ⟨10, k, xt, xb, xnm, xv⟩ = true := rfl
    have e2 : Tn.isSh ⟨10, k, xt, xb, xnm, xv⟩ = true := rfl
    by_cases h60 : 60 < xv.size
    · have CE : Hid (Tn.chgE d ⟨10, k, xt, xb, xnm, xv⟩ = 4) := by
        show _ = _
        rw [hmk]
        unfold Tn.makeE
        rw [e1]
        simp [h60]
      clear hmk e1 e2
      go_enter Tryz.func57, Tryz.ntmps57
      go_wp2_with (first | (go_at_call 89; refine (rno_any _ _).mono ?_; rintro e w' ⟨rfl, hww⟩; subst hww))
      go_ret3
      exact ⟨(B0.alloc (by simp) _).alloc (by simp; omega) _, Or.inl ⟨by show _ ≠ _; rw [CE.out]; decide, _, _, by rw [CE.out]; rfl⟩⟩
    · have step1 : Tn.makeE d ⟨10, k, xt, xb, xnm, xv⟩ = if Tn.isSh ⟨10, k, xt, xb, xnm, xv⟩ = true ∧ (Tn.nd d k).hasS = false then 8 else if 60 ≤ Tn.free d then 5 else Tn.putE (Tn.mk1 d ⟨10, k, xt, xb, xnm, xv⟩) (Tn.free d) k (Tn.bef ⟨10, k, xt, xb, xnm, xv⟩) (Tn.isSh ⟨10, k, xt, xb, xnm, xv⟩) := by
        unfold Tn.makeE
        rw [e1]
        simp [h60]
      cases hS : r.hasS with
      | false =>
        have CE : Hid (Tn.chgE d ⟨10, k, xt, xb, xnm, xv⟩ = 8) := by
          show _ = _
          rw [hmk, step1, e2, ← hhs.out, hS]
          simp
        rw [hS] at r6
        clear hmk e1 e2 step1
        go_enter Tryz.func57, Tryz.ntmps57
        go_wp2_with (first | (go_at_call 89; refine (rno_any _ _).mono ?_; rintro e w' ⟨rfl, hww⟩; subst hww))
        go_ret3
        exact ⟨(B0.alloc (by simp) _).alloc (by simp; omega) _, Or.inl ⟨by show _ ≠ _; rw [CE.out]; decide, _, _, by rw [CE.out]; rfl⟩⟩
      | true =>
        rw [hS] at r6
        have CE0 : Hid (Tn.chgE d ⟨10, k, xt, xb, xnm, xv⟩ = if 60 ≤ Tn.free d then 5 else Tn.putE (Tn.withd d (Tn.free d) (Tn.made { Tn.zero with text := xv } k true)) (Tn.free d) k (-1) true) := by
          show _ = _
          rw [hmk, step1, e2, ← hhs.out, hS]
          simp
          rfl
        clear hmk e1 e2 step1
        have CD : Hid (Tn.chgD d ⟨10, k, xt, xb, xnm, xv⟩ = Tn.put1 (Tn.withd d (Tn.free d) (Tn.made { Tn.zero with text := xv } k true)) (Tn.free d) k (-1) true) := rfl
        have CN : Hid (Tn.chgN d ⟨10, k, xt, xb, xnm, xv⟩ = (Tn.free d : Int)) := by show _ = _; unfold Tn.chgN; simp
        have KW : Keeps w (((w.alloc (.cells #[.int .i64 10, .int .i64 (k : Int), .int .i64 xt, .int .i64 xb, .string xnm, .string xv] 53)).alloc (.cells #[.bool r.live, .string r.tag, .string r.text, .slice r.a.p r.a.n r.a.c, .int .i64 r.up, .slice r.k.p r.k.n r.k.c, .bool true, .slice r.s.p r.s.n r.s.c, .bool r.inS] 46)).alloc (.cells #[.bool false, .string ⟨#[]⟩, .string xv, .slice none 0 0, .int .i64 0, .slice none 0 0, .bool false, .slice none 0 0, .bool false] 46)) := keeps_alloc' _ (keeps_alloc' _ K1)
        have BW : Below w.heap.size w (((w.alloc (.cells #[.int .i64 10, .int .i64 (k : Int), .int .i64 xt, .int .i64 xb, .string xnm, .string xv] 53)).alloc (.cells #[.bool r.live, .string r.tag, .string r.text, .slice r.a.p r.a.n r.a.c, .int .i64 r.up, .slice r.k.p r.k.n r.k.c, .bool true, .slice r.s.p r.s.n r.s.c, .bool r.inS] 46)).alloc (.cells #[.bool false, .string ⟨#[]⟩, .string xv, .slice none 0 0, .int .i64 0, .slice none 0 0, .bool false, .slice none 0 0, .bool false] 46)) := (B0.alloc (by simp) _).alloc (by simp; omega) _
        have hN9 : NdAt (((w.alloc (.cells #[.int .i64 10, .int .i64 (k : Int), .int .i64 xt, .int .i64 xb, .string xnm, .string xv] 53)).alloc (.cells #[.bool r.live, .string r.tag, .string r.text, .slice r.a.p r.a.n r.a.c, .int .i64 r.up, .slice r.k.p r.k.n r.k.c, .bool true, .slice r.s.p r.s.n r.s.c, .bool r.inS] 46)).alloc (.cells #[.bool false, .string ⟨#[]⟩, .string xv, .slice none 0 0, .int .i64 0, .slice none 0 0, .bool false, .slice none 0 0, .bool false] 46)) { zr with text := xv } { Tn.zero with text := xv } := ⟨rfl, rfl, rfl, rfl, rfl, rfl, ⟨none, 0, rfl, Nat.le_refl _, by decide, Or.inl ⟨rfl, rfl⟩, fun j x h => by simp [Tn.zero] at h⟩, ints_nil _, ints_nil _⟩
        have HM : ∀ W0, DocAt W0 b o c rs d → NdAt W0 { zr with text := xv } { Tn.zero with text := xv } → Calls Tryz.prog 96 #[.slice (some ⟨b, o, none⟩) rs.length c, Raw.agg { zr with text := xv }, .int .i64 (k : Int), .int .i64 (-1), .bool true] W0 fun e w' => MakePost W0 w' e d { Tn.zero with text := xv } k (-1) true rs.length :=
          fun W0 h h2 => rmake_doc h hs h0 h2 k hk (-1) true (fun j => (HLS.out j).1) (fun j => (HLS.out j).2) HE.out
        go_enter Tryz.func57, Tryz.ntmps57
        go_wp2_with (first | (go_at_call 89; refine (rno_any _ _).mono ?_; rintro e w' ⟨rfl, hww⟩; subst hww) | fail | (go_at_call 96; refine (HM _ (H.out.keeps KW) hN9).mono ?_; rintro e w9 ⟨hb9, hpp⟩; rcases hpp with ⟨h60f, rfl⟩ | ⟨h60f, hne, rfl⟩ | ⟨h60f, heq, g9, c9, rs9, rfl, hd9, hl9⟩))
        · go_ret3
          have CE : Hid (Tn.chgE d ⟨10, k, xt, xb, xnm, xv⟩ = 5) := by show _ = _; rw [CE0.out, if_pos h60f.out]
          exact ⟨BW.trans (hb9.mono BW.size), Or.inl ⟨by show _ ≠ _; rw [CE.out]; decide, _, _, by rw [CE.out]; rfl⟩⟩
        · go_ret3
          have CE : Hid (Tn.chgE d ⟨10, k, xt, xb, xnm, xv⟩ = Tn.putE (Tn.withd d (Tn.free d) (Tn.made { Tn.zero with text := xv } k true)) (Tn.free d) k (-1) true) := by show _ = _; rw [CE0.out, if_neg (Nat.not_le.mpr h60f.out)]
          exact ⟨BW.trans (hb9.mono BW.size), Or.inl ⟨by show _ ≠ _; rw [CE.out]; exact hne.out, _, _, by rw [CE.out]; rfl⟩⟩
        · go_ret3
          have CE : Hid (Tn.chgE d ⟨10, k, xt, xb, xnm, xv⟩ = 0) := by show _ = _; rw [CE0.out, if_neg (Nat.not_le.mpr h60f.out)]; exact heq.out
          exact ⟨BW.trans (hb9.mono BW.size), Or.inr ⟨CE, g9, c9, rs9, by rw [CN.out]; rfl, by rw [CD.out]; exact hd9, hl9⟩⟩
end Go.Proofs.YtbinbojicmhdlaeGreatDoor

/-
  THE WALKS of the reference's change: attr.
-/
namespace Go.Proofs.YtbinbojicmhdlaeGreatDoor
open Go.RowKit

theorem attrs_set {w : World} {v : Value} {l : List Tn.At} (h : AttrsAt w v l) {p : Addr} {u y : Value} (hp : w.cell? p = some y) (hx : ∀ k, y ≠ .string k) : AttrsAt (w.setCell p u) v l := by
  obtain ⟨q, c, e, h1, h2, h3, h4⟩ := h
  refine ⟨q, c, e, h1, h2, h3, fun j z hz => ?_⟩
  obtain ⟨b, o, e1, e2⟩ := h4 j z hz
  refine ⟨b, o, e1, ?_⟩
  rw [World.cell?_setCell_other _ _ _ _ ?_]
  · exact e2
  · intro hh
    subst hh
    rw [e2] at hp
    cases hp
    have hm := List.mem_of_getElem? hz
    rw [List.mem_flatMap] at hm
    obtain ⟨a, _, ha⟩ := hm
    simp [av] at ha
    rcases ha with rfl | rfl
    · exact hx _ rfl
    · exact hx _ rfl

/-- the attributes of a node in a box of the call's own are others -/
structure Mid3 (w W : World) (g : Nat) (r : Raw) (n : Tn.Nd) : Prop where
  box : BoxAt W g r
  nd : NdAt W r n
  keeps : Keeps w W
  below : Below w.heap.size w W

theorem mid_attr {w W : World} {g : Nat} (hg : w.heap.size ≤ g) {r : Raw} {n : Tn.Nd} (hN : NdAt w r n) (hb : BoxAt W g r) (hk : Keeps w W) (hB : Below w.heap.size w W)
    {p : Option Addr} {c : Nat} {l : List Tn.At} (h1 : AttrsAt W (.slice p l.length c) l) :
    Mid3 w (W.setCell ⟨g, 3, none⟩ (.slice p l.length c)) g { r with a := ⟨p, l.length, c⟩ } { n with attrs := l } := by
  have hk2 : Keeps w (W.setCell ⟨g, 3, none⟩ (.slice p l.length c)) := keeps_set hk _ _ hg
  have o : ∀ j v, j ≠ 3 → W.cell? ⟨g, j, none⟩ = some v → (W.setCell ⟨g, 3, none⟩ (.slice p l.length c)).cell? ⟨g, j, none⟩ = some v := by
    intro j v h5 h
    rw [World.cell?_setCell_other _ _ _ _ (by intro e; cases e; exact h5 rfl)]
    exact h
  exact ⟨⟨o 0 _ (by decide) hb.c0, o 1 _ (by decide) hb.c1, o 2 _ (by decide) hb.c2, World.cell?_setCell_same _ _ _ hb.c3, o 4 _ (by decide) hb.c4, o 5 _ (by decide) hb.c5, o 6 _ (by decide) hb.c6, o 7 _ (by decide) hb.c7, o 8 _ (by decide) hb.c8⟩,
    ⟨hN.live, hN.tag, hN.text, hN.up, hN.hasS, hN.inS, attrs_set h1 hb.c3 (fun _ h => by cases h), hN.kids.keeps hk2, hN.shadow.keeps hk2⟩, hk2, hB.setCell hg _⟩

set_option maxHeartbeats 1600000 in
set_option maxRecDepth 100000 in
theorem rchange_attr {w : World} {b o c : Nat} {rs : List Raw} {d : Tn.Dc} (hd : DocAt w b o c rs d) (hs : rs.length ≤ 900) (x : Tn.Chg) (k : Nat) (hn : x.node = (k : Int)) (hk : k < d.length) (hkd : x.kind = 5) (hv : x.value.size ≤ 4194304) (hnm : x.name.size ≤ 4194304) (hal : (Tn.nd d k).attrs.length ≤ 1000) :
    Calls Tryz.prog 57 #[.slice (some ⟨b, o, none⟩) rs.length c, chv x] w fun e w' => ChgPost w w' e d x rs.length := by
  have H : Hid (DocAt w b o c rs d) := hd
  have hk' : k < rs.length := by rw [hd.len]; exact hk
  have h0 : 0 < rs.length := by omega
  have hs1 : rs.length ≤ 1000 := by omega
  have hkl : k ≤ rs.length := by omega
  have NN : Hid (NdAt w rs[k] (Tn.nd d k)) := by rw [nd_at hk]; exact hd.nds k hk' hk
  obtain ⟨xk, xn, xt, xb, xnm, xv⟩ := x
  simp only at hn hkd hv hnm
  subst hn hkd
  have K1 := keeps_alloc w (.cells #[.int .i64 5, .int .i64 (k : Int), .int .i64 xt, .int .i64 xb, .string xnm, .string xv] 53)
  have r0 := K1 _ _ (hd.row.c0 k hk')
  have r1 := K1 _ _ (hd.row.c1 k hk')
  have r2 := K1 _ _ (hd.row.c2 k hk')
  have r3 := K1 _ _ (hd.row.c3 k hk')
  have r4 := K1 _ _ (hd.row.c4 k hk')
  have r5 := K1 _ _ (hd.row.c5 k hk')
  have r6 := K1 _ _ (hd.row.c6 k hk')
  have r7 := K1 _ _ (hd.row.c7 k hk')
  have r8 := K1 _ _ (hd.row.c8 k hk')
  clear hd
  generalize rs[k] = r at *
  unfold chv
  simp only
  have htg : Hid (r.tag = (Tn.nd d k).tag) := NN.out.tag
  have B0 := (Below.refl w.heap.size w).alloc (Nat.le_refl _) (.cells #[.int .i64 5, .int .i64 (k : Int), .int .i64 xt, .int .i64 xb, .string xnm, .string xv] 53)
  cases het : r.tag.toList.isEmpty with
  | true =>
    have CE : Hid (Tn.chgE d ⟨5, k, xt, xb, xnm, xv⟩ = 8) := by
      show _ = _
      unfold Tn.chgE Tn.has
      simp [← htg.out, het]
    go_enter Tryz.func57, Tryz.ntmps57
    go_wp2_with (go_at_call 89; refine (rno_any _ _).mono ?_; rintro e w' ⟨rfl, hww⟩; subst hww)
    go_ret3
    exact ⟨B0.alloc (by simp) _, Or.inl ⟨by show _ ≠ _; rw [CE.out]; decide, _, _, by rw [CE.out]; rfl⟩⟩
  | false =>
    have hmk : ∀ e, Tn.attrE d ⟨5, k, xt, xb, xnm, xv⟩ = e → Tn.chgE d ⟨5, k, xt, xb, xnm, xv⟩ = e := by
      intro e he
      rw [← he]
      unfold Tn.chgE Tn.has
      simp [← htg.out, het]
    cases hno : Tn.nameL xnm.data.toList with
    | false =>
      have CE : Hid (Tn.chgE d ⟨5, k, xt, xb, xnm, xv⟩ = 7) := by
        refine hmk 7 ?_
        unfold Tn.attrE Tn.okName
        simp [hno]
      clear hmk
      go_enter Tryz.func57, Tryz.ntmps57
      go_wp2_with (first | (go_at_call 89; refine (rno_any _ _).mono ?_; rintro e w' ⟨rfl, hww⟩; subst hww) | (go_at_call 94; refine (rname_any _ _ hnm).mono ?_; rintro e w' ⟨rfl, hww⟩; subst hww; rw [hno]))
      go_ret3
      exact ⟨B0.alloc (by simp) _, Or.inl ⟨by show _ ≠ _; rw [CE.out]; decide, _, _, by rw [CE.out]; rfl⟩⟩
    | true =>
      by_cases h60 : 60 < xv.size
      · have CE : Hid (Tn.chgE d ⟨5, k, xt, xb, xnm, xv⟩ = 4) := by
          refine hmk 4 ?_
          unfold Tn.attrE Tn.okName
          simp [hno, h60]
        clear hmk
        go_enter Tryz.func57, Tryz.ntmps57
        go_wp2_with (first | (go_at_call 89; refine (rno_any _ _).mono ?_; rintro e w' ⟨rfl, hww⟩; subst hww) | (go_at_call 94; refine (rname_any _ _ hnm).mono ?_; rintro e w' ⟨rfl, hww⟩; subst hww; rw [hno]))
        go_ret3
        exact ⟨B0.alloc (by simp) _, Or.inl ⟨by show _ ≠ _; rw [CE.out]; decide, _, _, by rw [CE.out]; rfl⟩⟩
      · have CE0 : Hid (Tn.chgE d ⟨5, k, xt, xb, xnm, xv⟩ = if 8 < (Tn.attrsD (Tn.nd d k).attrs xnm xv).length then 5 else 0) := by
          refine hmk _ ?_
          unfold Tn.attrE Tn.okName
          simp [hno, h60]
        clear hmk
        have CD : Hid (Tn.chgD d ⟨5, k, xt, xb, xnm, xv⟩ = Tn.withd d k { Tn.nd d k with attrs := Tn.attrsD (Tn.nd d k).attrs xnm xv }) := rfl
        have CN : Hid (Tn.chgN d ⟨5, k, xt, xb, xnm, xv⟩ = (k : Int)) := rfl
        have KW : Keeps w ((w.alloc (.cells #[.int .i64 5, .int .i64 (k : Int), .int .i64 xt, .int .i64 xb, .string xnm, .string xv] 53)).alloc (.cells #[.bool r.live, .string r.tag, .string r.text, .slice r.a.p r.a.n r.a.c, .int .i64 r.up, .slice r.k.p r.k.n r.k.c, .bool r.hasS, .slice r.s.p r.s.n r.s.c, .bool r.inS] 46)) := keeps_alloc' _ K1
        have BW : Below w.heap.size w ((w.alloc (.cells #[.int .i64 5, .int .i64 (k : Int), .int .i64 xt, .int .i64 xb, .string xnm, .string xv] 53)).alloc (.cells #[.bool r.live, .string r.tag, .string r.text, .slice r.a.p r.a.n r.a.c, .int .i64 r.up, .slice r.k.p r.k.n r.k.c, .bool r.hasS, .slice r.s.p r.s.n r.s.c, .bool r.inS] 46)) := B0.alloc (by simp) _
        have qn : ((w.alloc (.cells #[.int .i64 5, .int .i64 (k : Int), .int .i64 xt, .int .i64 xb, .string xnm, .string xv] 53)).alloc (.cells #[.bool r.live, .string r.tag, .string r.text, .slice r.a.p r.a.n r.a.c, .int .i64 r.up, .slice r.k.p r.k.n r.k.c, .bool r.hasS, .slice r.s.p r.s.n r.s.c, .bool r.inS] 46)).cell? ⟨w.heap.size, 1, none⟩ = some (.int .i64 (k : Int)) := by rw [World.cell?_alloc2_first]; rfl
        have bx : BoxAt ((w.alloc (.cells #[.int .i64 5, .int .i64 (k : Int), .int .i64 xt, .int .i64 xb, .string xnm, .string xv] 53)).alloc (.cells #[.bool r.live, .string r.tag, .string r.text, .slice r.a.p r.a.n r.a.c, .int .i64 r.up, .slice r.k.p r.k.n r.k.c, .bool r.hasS, .slice r.s.p r.s.n r.s.c, .bool r.inS] 46)) (w.heap.size + 1) r := by
          have := box_new (w.alloc (.cells #[.int .i64 5, .int .i64 (k : Int), .int .i64 xt, .int .i64 xb, .string xnm, .string xv] 53)) r 46
          rw [show (w.alloc (.cells #[.int .i64 5, .int .i64 (k : Int), .int .i64 xt, .int .i64 xb, .string xnm, .string xv] 53)).heap.size = w.heap.size + 1 by simp] at this
          exact this
        have bf : ∀ j, ((w.alloc (.cells #[.int .i64 5, .int .i64 (k : Int), .int .i64 xt, .int .i64 xb, .string xnm, .string xv] 53)).alloc (.cells #[.bool r.live, .string r.tag, .string r.text, .slice r.a.p r.a.n r.a.c, .int .i64 r.up, .slice r.k.p r.k.n r.k.c, .bool r.hasS, .slice r.s.p r.s.n r.s.c, .bool r.inS] 46)).frozen? ⟨w.heap.size + 1, j, none⟩ = false := by
          have := box_frozen (w.alloc (.cells #[.int .i64 5, .int .i64 (k : Int), .int .i64 xt, .int .i64 xb, .string xnm, .string xv] 53)) #[.bool r.live, .string r.tag, .string r.text, .slice r.a.p r.a.n r.a.c, .int .i64 r.up, .slice r.k.p r.k.n r.k.c, .bool r.hasS, .slice r.s.p r.s.n r.s.c, .bool r.inS] 46
          rw [show (w.alloc (.cells #[.int .i64 5, .int .i64 (k : Int), .int .i64 xt, .int .i64 xb, .string xnm, .string xv] 53)).heap.size = w.heap.size + 1 by simp] at this
          exact this
        have hz2 : ((w.alloc (.cells #[.int .i64 5, .int .i64 (k : Int), .int .i64 xt, .int .i64 xb, .string xnm, .string xv] 53)).alloc (.cells #[.bool r.live, .string r.tag, .string r.text, .slice r.a.p r.a.n r.a.c, .int .i64 r.up, .slice r.k.p r.k.n r.k.c, .bool r.hasS, .slice r.s.p r.s.n r.s.c, .bool r.inS] 46)).heap.size = w.heap.size + 2 := by simp
        have HA : Hid (AttrsAt ((w.alloc (.cells #[.int .i64 5, .int .i64 (k : Int), .int .i64 xt, .int .i64 xb, .string xnm, .string xv] 53)).alloc (.cells #[.bool r.live, .string r.tag, .string r.text, .slice r.a.p r.a.n r.a.c, .int .i64 r.up, .slice r.k.p r.k.n r.k.c, .bool r.hasS, .slice r.s.p r.s.n r.s.c, .bool r.inS] 46)) (.slice r.a.p r.a.n r.a.c) (Tn.nd d k).attrs) := NN.out.attrs.keeps KW
        go_enter Tryz.func57, Tryz.ntmps57
        go_upto_region 53 with (first | (go_at_call 89; refine (rno_any _ _).mono ?_; rintro e w' ⟨rfl, hww⟩; subst hww) | (go_at_call 94; refine (rname_any _ _ hnm).mono ?_; rintro e w' ⟨rfl, hww⟩; subst hww; rw [hno]))
        have q4 : ((w.alloc (.cells #[.int .i64 5, .int .i64 (k : Int), .int .i64 xt, .int .i64 xb, .string xnm, .string xv] 53)).alloc (.cells #[.bool r.live, .string r.tag, .string r.text, .slice r.a.p r.a.n r.a.c, .int .i64 r.up, .slice r.k.p r.k.n r.k.c, .bool r.hasS, .slice r.s.p r.s.n r.s.c, .bool r.inS] 46)).cell? ⟨w.heap.size, 4, none⟩ = some (.string xnm) := by rw [World.cell?_alloc2_first]; rfl
        have q5 : ((w.alloc (.cells #[.int .i64 5, .int .i64 (k : Int), .int .i64 xt, .int .i64 xb, .string xnm, .string xv] 53)).alloc (.cells #[.bool r.live, .string r.tag, .string r.text, .slice r.a.p r.a.n r.a.c, .int .i64 r.up, .slice r.k.p r.k.n r.k.c, .bool r.hasS, .slice r.s.p r.s.n r.s.c, .bool r.inS] 46)).cell? ⟨w.heap.size, 5, none⟩ = some (.string xv) := by rw [World.cell?_alloc2_first]; rfl
        generalize ((w.alloc (.cells #[.int .i64 5, .int .i64 (k : Int), .int .i64 xt, .int .i64 xb, .string xnm, .string xv] 53)).alloc (.cells #[.bool r.live, .string r.tag, .string r.text, .slice r.a.p r.a.n r.a.c, .int .i64 r.up, .slice r.k.p r.k.n r.k.c, .bool r.hasS, .slice r.s.p r.s.n r.s.c, .bool r.inS] 46)) = W at *
        clear r0 r1 r2 r3 r4 r5 r6 r7 r8 K1 B0 hno
        have hbc := bx.c3
        have hAl : (Tn.attrsD (Tn.nd d k).attrs xnm xv).length ≤ 2001 := by
          have h9 := aFold_len xnm xv (Tn.nd d k).attrs _ (Nat.le_refl _)
          rw [List.take_length] at h9
          unfold Tn.attrsD
          split
          · omega
          · simp; omega
        generalize hDD : Tn.attrsD (Tn.nd d k).attrs xnm xv = DD at *
        have HD : Hid (Tn.attrsD (Tn.nd d k).attrs xnm xv = DD) := hDD
        have hRA : ∀ W0, AttrsAt W0 (.slice r.a.p r.a.n r.a.c) (Tn.nd d k).attrs → Calls Tryz.prog 95 #[.slice r.a.p r.a.n r.a.c, .string xnm, .string xv] W0 fun e w' =>
            ∃ v, e = .returned (.tuple #[v, Value.bool (decide ((DD.length : Int) ≤ 8))]) ∧ OwnA w' W0.heap.size v DD ∧ Below W0.heap.size W0 w' := by
          intro W0 h
          rw [← HD.out]
          exact rattrs_own h hal xnm xv
        clear hDD
        by_cases h8 : 8 < DD.length
        · have CE : Hid (Tn.chgE d ⟨5, k, xt, xb, xnm, xv⟩ = 5) := by show _ = _; rw [CE0.out, if_pos h8]
          have hq8 : decide ((DD.length : Int) ≤ 8) = false := by simp; omega
          go_wp2_with (first | (go_at_call 89; refine (rno_any _ _).mono ?_; rintro e w' ⟨rfl, hww⟩; subst hww) | (go_at_call 95; refine (hRA _ HA.out).mono ?_; rintro e w2 ⟨v2, rfl, hown2, hb2⟩; obtain ⟨p2, c2, rfl⟩ := hown2.shape; have KZ := keeps_below hb2 (Nat.le_refl _); have bx2 := bx.keeps KZ; obtain ⟨y0, y1, y2, y3, y4, y5, y6, y7, y8⟩ := bx2; have bf2 := below_frozen hb2 (by omega) bf; have qn2 := KZ _ _ qn))
          go_ret3
          exact ⟨BW.trans (hb2.mono (by omega)), Or.inl ⟨by show _ ≠ _; rw [CE.out]; decide, _, _, by rw [CE.out]; rfl⟩⟩
        · have CE : Hid (Tn.chgE d ⟨5, k, xt, xb, xnm, xv⟩ = 0) := by show _ = _; rw [CE0.out, if_neg h8]
          have hq8 : decide ((DD.length : Int) ≤ 8) = true := by simp; omega
          go_wp2_with (first | (go_at_call 89; refine (rno_any _ _).mono ?_; rintro e w' ⟨rfl, hww⟩; subst hww) | (go_at_call 95; refine (hRA _ HA.out).mono ?_; rintro e w2 ⟨v2, rfl, hown2, hb2⟩; obtain ⟨p2, c2, rfl⟩ := hown2.shape; have KZ := keeps_below hb2 (Nat.le_refl _); have bx2 := bx.keeps KZ; obtain ⟨y0, y1, y2, y3, y4, y5, y6, y7, y8⟩ := bx2; have bf2 := below_frozen hb2 (by omega) bf; have qn2 := KZ _ _ qn))
          have M := mid_attr (g := w.heap.size + 1) (by omega) NN.out (bx.keeps KZ) (KW.trans KZ) (BW.trans (hb2.mono (by omega))) (attrs_of_owns hown2)
          have qn3 : (w2.setCell ⟨w.heap.size + 1, 3, none⟩ (.slice p2 DD.length c2)).cell? ⟨w.heap.size, 1, none⟩ = some (.int .i64 (k : Int)) := by
            rw [World.cell?_setCell_other _ _ _ _ (by simp)]
            exact qn2
          generalize hWe : w2.setCell _ _ = W3 at M qn3 ⊢
          clear hWe hown2 bx bf bf2 y0 y1 y2 y3 y4 y5 y6 y7 y8 qn qn2 q4 q5 hbc KZ hb2 HA KW BW hz2 hRA
          obtain ⟨m0, m1, m2, m3, m4, m5, m6, m7, m8⟩ := M.box
          have hbz := M.below.size
          go_region_with (go_at_call 93; refine (rwith_doc (r := { r with a := ⟨p2, DD.length, c2⟩ }) (H.out.keeps (keeps_drew M.keeps)) hs1 h0 (M.nd.keeps (keeps_drew (Keeps.refl _))) k hkl).mono ?_; rintro e w9 ⟨g9, c9, rs9, rfl, hd9, hb9, hrs9⟩; have qn9 := keeps_below hb9 (Nat.le_refl _) _ _ (keeps_drew (Keeps.refl _) _ _ qn3))
          all_goals
            go_wp2_with fail
            go_ret3
            exact ⟨M.below.trans ((Below.refl _ _).drew.trans (hb9.mono (by exact hbz))), Or.inr ⟨CE, g9, c9, rs9, by rw [CN.out]; rfl, by rw [CD.out]; exact hd9, by show _ ≤ _; rw [hrs9.out, withR_len]; split <;> omega⟩⟩
end Go.Proofs.YtbinbojicmhdlaeGreatDoor
