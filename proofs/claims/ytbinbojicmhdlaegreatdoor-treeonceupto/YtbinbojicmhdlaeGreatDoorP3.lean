/-
  OWN WORK: Rcl, Rcs, Rap, Rbu, Frm, Tre, Tre2, Goo, Goo2.
-/
import Derived.Test.YtbinbojicmhdlaeGreatDoorP2
import Derived.Test.YtbinbojicmhdlaeGreatDoorP1
import Derived.Test.YtbinbojicmhdlaeGreatDoorRows
import Derived.Deep.Slices
import Derived.ProofKit
import Derived.OpenShut
import Derived.JoinedCond
import Derived.Carry
import Derived.Test.YtbinbojicmhdlaeGreatDoorP0
/-
  THE WALKS of the reference's change: clear.
-/
namespace Go.Proofs.YtbinbojicmhdlaeGreatDoor
open Go.RowKit

theorem block_below {w w' : World} {g : Nat} {x : Obj} (h : w.heap[g]? = some x) (hb : Below w.heap.size w w') : w'.heap[g]? = some x := by
  have hlt : g < w.heap.size := by
    apply Classical.byContradiction
    intro hn
    rw [Array.getElem?_eq_none (by omega)] at h
    cases h
  rw [hb.block g hlt]
  exact h
theorem off_succ (l : List Tn.At) (nm : ByteArray) (j : Nat) (h : j < l.length) : Tn.attrsOff (l.take (j + 1)) nm = Tn.attrsOff (l.take j) nm ++ (if Tn.eqS l[j].1 nm then [] else [l[j]]) := by
  unfold Tn.attrsOff
  rw [List.take_succ_eq_append_getElem h, List.filter_append]
  cases hq : Tn.eqS l[j].1 nm <;> simp [hq]
theorem off_len (l : List Tn.At) (nm : ByteArray) (j : Nat) : (Tn.attrsOff (l.take j) nm).length ≤ l.length := by
  unfold Tn.attrsOff
  refine Nat.le_trans (List.length_filter_le _ _) ?_
  simp
  omega

set_option maxHeartbeats 1600000 in
set_option maxRecDepth 100000 in
theorem rchange_clear {w : World} {b o c : Nat} {rs : List Raw} {d : Tn.Dc} (hd : DocAt w b o c rs d) (hs : rs.length ≤ 900) (x : Tn.Chg) (k : Nat) (hn : x.node = (k : Int)) (hk : k < d.length) (hkd : x.kind = 6) (hv : x.value.size ≤ 4194304) (hnm : x.name.size ≤ 4194304) (hal : (Tn.nd d k).attrs.length ≤ 1000) (hlv : (Tn.nd d k).live = true) :
    Calls Tryz.prog 57 #[.slice (some ⟨b, o, none⟩) rs.length c, chv x] w fun e w' => ChgPost w w' e d x rs.length := by
  have H : Hid (DocAt w b o c rs d) := hd
  have hk' : k < rs.length := by rw [hd.len]; exact hk
  have h0 : 0 < rs.length := by omega
  have hs1 : rs.length ≤ 1000 := by omega
  have hkl : k ≤ rs.length := by omega
  have NN : Hid (NdAt w rs[k] (Tn.nd d k)) := by rw [nd_at hk]; exact hd.nds k hk' hk
  obtain ⟨xk, xn, xt, xb, xnm, xv⟩ := x
  simp only at hn hkd hv hnm
  subst hn hkd
  have K1 := keeps_alloc w (.cells #[.int .i64 6, .int .i64 (k : Int), .int .i64 xt, .int .i64 xb, .string xnm, .string xv] 53)
  have r0 := K1 _ _ (hd.row.c0 k hk')
  have r1 := K1 _ _ (hd.row.c1 k hk')
  have r2 := K1 _ _ (hd.row.c2 k hk')
  have r3 := K1 _ _ (hd.row.c3 k hk')
  have r4 := K1 _ _ (hd.row.c4 k hk')
  have r5 := K1 _ _ (hd.row.c5 k hk')
  have r6 := K1 _ _ (hd.row.c6 k hk')
  have r7 := K1 _ _ (hd.row.c7 k hk')
  have r8 := K1 _ _ (hd.row.c8 k hk')
  clear hd
  generalize rs[k] = r at *
  obtain ⟨lv, tg, tx, ⟨ap, an, ac⟩, upx, ks, hsx, ss, isx⟩ := r
  simp only at r0 r1 r2 r3 r4 r5 r6 r7 r8
  unfold chv
  simp only
  have htg : Hid (tg = (Tn.nd d k).tag) := NN.out.tag
  have B0 := (Below.refl w.heap.size w).alloc (Nat.le_refl _) (.cells #[.int .i64 6, .int .i64 (k : Int), .int .i64 xt, .int .i64 xb, .string xnm, .string xv] 53)
  cases het : tg.toList.isEmpty with
  | true =>
    have CE : Hid (Tn.chgE d ⟨6, k, xt, xb, xnm, xv⟩ = 8) := by
      show _ = _
      unfold Tn.chgE Tn.has
      simp [← htg.out, het]
    go_enter Tryz.func57, Tryz.ntmps57
    go_wp2_with (go_at_call 89; refine (rno_any _ _).mono ?_; rintro e w' ⟨rfl, hww⟩; subst hww)
    go_ret3
    exact ⟨B0.alloc (by simp) _, Or.inl ⟨by show _ ≠ _; rw [CE.out]; decide, _, _, by rw [CE.out]; rfl⟩⟩
  | false =>
    have hel : Tn.isN d (k : Int) true = true := by
      unfold Tn.isN Tn.has
      rw [Int.toNat_natCast, hlv, ← htg.out, het]
      simp [hk]
    have hmk : Hid (Tn.chgE d ⟨6, k, xt, xb, xnm, xv⟩ = if (Tn.attrOf (Tn.nd d k).attrs xnm).isSome then 0 else 6) := by
      show _ = _
      unfold Tn.chgE Tn.has Tn.clearE
      simp [← htg.out, het]
    have CD : Hid (Tn.chgD d ⟨6, k, xt, xb, xnm, xv⟩ = Tn.withd d k { Tn.nd d k with attrs := Tn.attrsOff (Tn.nd d k).attrs xnm }) := rfl
    have CN : Hid (Tn.chgN d ⟨6, k, xt, xb, xnm, xv⟩ = (k : Int)) := rfl
    have KW : Keeps w ((w.alloc (.cells #[.int .i64 6, .int .i64 (k : Int), .int .i64 xt, .int .i64 xb, .string xnm, .string xv] 53)).alloc (.cells #[.bool lv, .string tg, .string tx, .slice ap an ac, .int .i64 upx, .slice ks.p ks.n ks.c, .bool hsx, .slice ss.p ss.n ss.c, .bool isx] 46)) := keeps_alloc' _ K1
    have BW : Below w.heap.size w ((w.alloc (.cells #[.int .i64 6, .int .i64 (k : Int), .int .i64 xt, .int .i64 xb, .string xnm, .string xv] 53)).alloc (.cells #[.bool lv, .string tg, .string tx, .slice ap an ac, .int .i64 upx, .slice ks.p ks.n ks.c, .bool hsx, .slice ss.p ss.n ss.c, .bool isx] 46)) := B0.alloc (by simp) _
    have qn : ((w.alloc (.cells #[.int .i64 6, .int .i64 (k : Int), .int .i64 xt, .int .i64 xb, .string xnm, .string xv] 53)).alloc (.cells #[.bool lv, .string tg, .string tx, .slice ap an ac, .int .i64 upx, .slice ks.p ks.n ks.c, .bool hsx, .slice ss.p ss.n ss.c, .bool isx] 46)).cell? ⟨w.heap.size, 1, none⟩ = some (.int .i64 (k : Int)) := by rw [World.cell?_alloc2_first]; rfl
    have q4 : ((w.alloc (.cells #[.int .i64 6, .int .i64 (k : Int), .int .i64 xt, .int .i64 xb, .string xnm, .string xv] 53)).alloc (.cells #[.bool lv, .string tg, .string tx, .slice ap an ac, .int .i64 upx, .slice ks.p ks.n ks.c, .bool hsx, .slice ss.p ss.n ss.c, .bool isx] 46)).cell? ⟨w.heap.size, 4, none⟩ = some (.string xnm) := by rw [World.cell?_alloc2_first]; rfl
    have hcB : ((w.alloc (.cells #[.int .i64 6, .int .i64 (k : Int), .int .i64 xt, .int .i64 xb, .string xnm, .string xv] 53)).alloc (.cells #[.bool lv, .string tg, .string tx, .slice ap an ac, .int .i64 upx, .slice ks.p ks.n ks.c, .bool hsx, .slice ss.p ss.n ss.c, .bool isx] 46)).heap[w.heap.size]? = some (Obj.cells #[.int .i64 6, .int .i64 (k : Int), .int .i64 xt, .int .i64 xb, .string xnm, .string xv] 53) := heap_alloc2_old _ _ _
    have hbB : ((w.alloc (.cells #[.int .i64 6, .int .i64 (k : Int), .int .i64 xt, .int .i64 xb, .string xnm, .string xv] 53)).alloc (.cells #[.bool lv, .string tg, .string tx, .slice ap an ac, .int .i64 upx, .slice ks.p ks.n ks.c, .bool hsx, .slice ss.p ss.n ss.c, .bool isx] 46)).heap[w.heap.size + 1]? = some (Obj.cells #[.bool lv, .string tg, .string tx, .slice ap an ac, .int .i64 upx, .slice ks.p ks.n ks.c, .bool hsx, .slice ss.p ss.n ss.c, .bool isx] 46) := heap_alloc2_new _ _ _
    have hz2 : ((w.alloc (.cells #[.int .i64 6, .int .i64 (k : Int), .int .i64 xt, .int .i64 xb, .string xnm, .string xv] 53)).alloc (.cells #[.bool lv, .string tg, .string tx, .slice ap an ac, .int .i64 upx, .slice ks.p ks.n ks.c, .bool hsx, .slice ss.p ss.n ss.c, .bool isx] 46)).heap.size = w.heap.size + 2 := by simp
    go_enter Tryz.func57, Tryz.ntmps57
    go_upto_region 58 with fail
    generalize ((w.alloc (.cells #[.int .i64 6, .int .i64 (k : Int), .int .i64 xt, .int .i64 xb, .string xnm, .string xv] 53)).alloc (.cells #[.bool lv, .string tg, .string tx, .slice ap an ac, .int .i64 upx, .slice ks.p ks.n ks.c, .bool hsx, .slice ss.p ss.n ss.c, .bool isx] 46)) = W at *
    clear r0 r1 r2 r3 r4 r5 r6 r7 r8 K1 B0
    have HZ : Hid (W.heap.size = w.heap.size + 2) := hz2
    clear hz2
    cases hso : (Tn.attrOf (Tn.nd d k).attrs xnm).isSome with
    | false =>
      have CE : Hid (Tn.chgE d ⟨6, k, xt, xb, xnm, xv⟩ = 6) := by show _ = _; rw [hmk.out, hso]; rfl
      go_wp2_with (first | (go_at_call 89; refine (rno_any _ _).mono ?_; rintro e w' ⟨rfl, hww⟩; subst hww) | (go_at_call 30; refine (rattr_any (H.out.keeps KW) k hel xnm).mono ?_; rintro e w2 ⟨rfl, hb2⟩; rw [hso]; have qn2 := keeps_below hb2 (Nat.le_refl _) _ _ qn; have hcB2 := block_below hcB hb2; have hbB2 := block_below hbB hb2))
      go_ret3
      exact ⟨BW.trans (hb2.mono BW.size), Or.inl ⟨by show _ ≠ _; rw [CE.out]; decide, _, _, by rw [CE.out]; rfl⟩⟩
    | true =>
      have CE : Hid (Tn.chgE d ⟨6, k, xt, xb, xnm, xv⟩ = 0) := by show _ = _; rw [hmk.out, hso]; rfl
      have HA : Hid (AttrsAt W (.slice ap an ac) (Tn.nd d k).attrs) := NN.out.attrs.keeps KW
      have bx3 : W.cell? ⟨w.heap.size + 1, 3, none⟩ = some (.slice ap an ac) := (box_of_block (r := (⟨lv, tg, tx, ⟨ap, an, ac⟩, upx, ks, hsx, ss, isx⟩ : Raw)) hbB).1.c3
      obtain ⟨p, cc, he, h1, h2, _, hat⟩ := HA.out.at
      have hrn : Hid (an = (Tn.nd d k).attrs.length) := by
        show _ = _
        injection he
      have hrp : ap = p := by injection he
      have hrc : ac = cc := by injection he
      subst hrp hrc
      clear he
      rw [← hrn.out] at h1
      have T : Hid (∀ j (hj : j < (Tn.nd d k).attrs.length), ∃ b o, ap = some ⟨b, o, none⟩ ∧ W.cell? ⟨b, o + j * 2, none⟩ = some (.string (Tn.nd d k).attrs[j].1) ∧ W.cell? ⟨b, o + j * 2 + 1, none⟩ = some (.string (Tn.nd d k).attrs[j].2)) := hat
      clear hat
      go_wp2_with (first | (go_at_call 89; refine (rno_any _ _).mono ?_; rintro e w' ⟨rfl, hww⟩; subst hww) | (go_at_call 30; refine (rattr_any (H.out.keeps KW) k hel xnm).mono ?_; rintro e w2 ⟨rfl, hb2⟩; rw [hso]; have bx32 := keeps_below hb2 (Nat.le_refl _) _ _ bx3; have qn2 := keeps_below hb2 (Nat.le_refl _) _ _ qn; have hcB2 := block_below hcB hb2; have hbB2 := block_below hbB hb2))
      go_loopw [18, 285] (fun v iv wr => ∃ j : Nat, j ≤ (Tn.nd d k).attrs.length ∧ iv = .int .i64 j ∧ OwnA wr W.heap.size v (Tn.attrsOff ((Tn.nd d k).attrs.take j) xnm) ∧ Below W.heap.size W wr) (fun _ i _ => (Tn.nd d k).attrs.length - (intOf i).toNat)
      case atStart => exact ⟨0, Nat.zero_le _, rfl, OwnA.nil _ _, hb2⟩
      case round =>
        clear hcB2 hbB2 bx32 qn2 hb2
        clear w2
        obtain ⟨j, hj, rfl, hown, hnx⟩ := hrel
        have hbz := hnx.size
        have KR := keeps_below hnx (Nat.le_refl _)
        have q4r := KR _ _ q4
        have hol := off_len (Tn.nd d k).attrs xnm j
        by_cases hlt : j < (Tn.nd d k).attrs.length
        · have hlt' : j < an := by rw [hrn.out]; exact hlt
          obtain ⟨b1, o1, rfl, hc0, hc1⟩ := T.out j hlt
          have hd0 := KR _ _ hc0
          have hd1 := KR _ _ hc1
          have F : Hid (Tn.attrsOff ((Tn.nd d k).attrs.take (j + 1)) xnm = Tn.attrsOff ((Tn.nd d k).attrs.take j) xnm ++ (if Tn.eqS (Tn.nd d k).attrs[j].1 xnm then [] else [(Tn.nd d k).attrs[j]])) := off_succ _ _ _ hlt
          clear hc0 hc1
          generalize (Tn.nd d k).attrs[j] = at1 at *
          obtain ⟨nm, vl⟩ := at1
          simp only at hd0 hd1 F
          have q4a := keeps_alloc _ (.cells #[.string nm, .string vl] 83) _ _ q4r
          generalize hOF : Tn.attrsOff ((Tn.nd d k).attrs.take j) xnm = sf at *
          cases he : Tn.eqS nm xnm with
          | true =>
            have hq : (nm.toList == xnm.toList) = true := he
            have G : Hid (Tn.attrsOff ((Tn.nd d k).attrs.take (j + 1)) xnm = sf) := by show _ = _; rw [F.out, he]; simp
            clear F hOF
            go_wp2_with fail
            go_roundw
            case rel => exact ⟨j + 1, by omega, by go_num, by rw [G.out]; exact hown.alloc _, hnx.alloc hbz _⟩
            case measure => simp [intOf]; omega
          | false =>
            have hq : (nm.toList == xnm.toList) = false := he
            have G : Hid (Tn.attrsOff ((Tn.nd d k).attrs.take (j + 1)) xnm = sf ++ [(nm, vl)]) := by show _ = _; rw [F.out, he]; simp
            clear F hOF
            go_wp2_with (at_builtin; refine append_attr1 rfl _ _ rfl nm vl rfl (by simp [Act.eval]) (hown.alloc _) (hnx.alloc hbz _) (by simp; omega) (by omega) ?_)
            intro v' w1 hown' hnx' hbz' _
            clear hown hnx
            go_wp2_with fail
            go_roundw
            case rel => exact ⟨j + 1, by omega, by go_num, by rw [G.out]; exact hown', hnx'⟩
            case measure => simp [intOf]; omega
        · obtain rfl : j = (Tn.nd d k).attrs.length := by omega
          have hnl : ¬ (Tn.nd d k).attrs.length < an := by rw [hrn.out]; omega
          rw [List.take_length] at hown hol
          have CD2 : Hid (Tn.chgD d ⟨6, k, xt, xb, xnm, xv⟩ = Tn.withd d k { Tn.nd d k with attrs := Tn.attrsOff (Tn.nd d k).attrs xnm }) := CD
          generalize hDD : Tn.attrsOff (Tn.nd d k).attrs xnm = DD at *
          obtain ⟨p2, c2, rfl⟩ := hown.shape
          obtain ⟨bx, bf⟩ := box_of_block (r := (⟨lv, tg, tx, ⟨ap, an, ac⟩, upx, ks, hsx, ss, isx⟩ : Raw)) hbB
          have bx2 := bx.keeps KR
          have y3 := bx2.c3
          have bf2 := below_frozen hnx (by have := HZ.out; omega) bf
          have qn2 := KR _ _ qn
          have M := mid_attr (g := w.heap.size + 1) (by omega) NN.out bx2 (KW.trans KR) (BW.trans (hnx.mono BW.size)) (attrs_of_owns hown)
          have qn3 : (wr.setCell ⟨w.heap.size + 1, 3, none⟩ (.slice p2 DD.length c2)).cell? ⟨w.heap.size, 1, none⟩ = some (.int .i64 (k : Int)) := by
            rw [World.cell?_setCell_other _ _ _ _ (by simp)]
            exact qn2
          clear hDD
          go_wp2_with fail
          generalize hWe : wr.setCell _ _ = W3 at M qn3 ⊢
          clear hWe bx bf bf2 y3 qn qn2 q4 q4r KR hnx HA KW BW HZ hown bx2 hbB hcB bx3 hbz
          clear wr
          obtain ⟨m0, m1, m2, m3, m4, m5, m6, m7, m8⟩ := M.box
          have hbz := M.below.size
          go_region_with (go_at_call 93; refine (rwith_doc (r := (⟨lv, tg, tx, ⟨p2, DD.length, c2⟩, upx, ks, hsx, ss, isx⟩ : Raw)) (H.out.keeps (keeps_drew M.keeps)) hs1 h0 (M.nd.keeps (keeps_drew (Keeps.refl _))) k hkl).mono ?_; rintro e w9 ⟨g9, c9, rs9, rfl, hd9, hb9, hrs9⟩; have qn9 := keeps_below hb9 (Nat.le_refl _) _ _ (keeps_drew (Keeps.refl _) _ _ qn3))
          all_goals
            go_wp2_with fail
            go_ret3
            exact ⟨M.below.trans ((Below.refl _ _).drew.trans (hb9.mono (by exact hbz))), Or.inr ⟨CE, g9, c9, rs9, by rw [CN.out]; rfl, by rw [CD2.out]; exact hd9, by show _ ≤ _; rw [hrs9.out, withR_len]; split <;> omega⟩⟩
end Go.Proofs.YtbinbojicmhdlaeGreatDoor

/-
  THE WALKS of the reference's change: shadow.
-/
namespace Go.Proofs.YtbinbojicmhdlaeGreatDoor
open Go.RowKit

set_option maxHeartbeats 1600000 in
set_option maxRecDepth 100000 in
theorem rchange_shad {w : World} {b o c : Nat} {rs : List Raw} {d : Tn.Dc} (hd : DocAt w b o c rs d) (hs : rs.length ≤ 900) (x : Tn.Chg) (k : Nat) (hn : x.node = (k : Int)) (hk : k < d.length) (hkd : x.kind = 8) (hv : x.value.size ≤ 4194304) (hnm : x.name.size ≤ 4194304) :
    Calls Tryz.prog 57 #[.slice (some ⟨b, o, none⟩) rs.length c, chv x] w fun e w' => ChgPost w w' e d x rs.length := by
  have H : Hid (DocAt w b o c rs d) := hd
  have hk' : k < rs.length := by rw [hd.len]; exact hk
  have h0 : 0 < rs.length := by omega
  have hs1 : rs.length ≤ 1000 := by omega
  have hkl : k ≤ rs.length := by omega
  have NN : Hid (NdAt w rs[k] (Tn.nd d k)) := by rw [nd_at hk]; exact hd.nds k hk' hk
  obtain ⟨xk, xn, xt, xb, xnm, xv⟩ := x
  simp only at hn hkd hv hnm
  subst hn hkd
  have K1 := keeps_alloc w (.cells #[.int .i64 8, .int .i64 (k : Int), .int .i64 xt, .int .i64 xb, .string xnm, .string xv] 53)
  have r0 := K1 _ _ (hd.row.c0 k hk')
  have r1 := K1 _ _ (hd.row.c1 k hk')
  have r2 := K1 _ _ (hd.row.c2 k hk')
  have r3 := K1 _ _ (hd.row.c3 k hk')
  have r4 := K1 _ _ (hd.row.c4 k hk')
  have r5 := K1 _ _ (hd.row.c5 k hk')
  have r6 := K1 _ _ (hd.row.c6 k hk')
  have r7 := K1 _ _ (hd.row.c7 k hk')
  have r8 := K1 _ _ (hd.row.c8 k hk')
  clear hd
  generalize rs[k] = r at *
  unfold chv
  simp only
  have htg : Hid (r.tag = (Tn.nd d k).tag) := NN.out.tag
  have B0 := (Below.refl w.heap.size w).alloc (Nat.le_refl _) (.cells #[.int .i64 8, .int .i64 (k : Int), .int .i64 xt, .int .i64 xb, .string xnm, .string xv] 53)
  have hhs : Hid (r.hasS = (Tn.nd d k).hasS) := NN.out.hasS
  cases het : r.tag.toList.isEmpty with
  | true =>
    have CE : Hid (Tn.chgE d ⟨8, k, xt, xb, xnm, xv⟩ = 8) := by
      show _ = _
      unfold Tn.chgE Tn.has
      simp [← htg.out, het]
    go_enter Tryz.func57, Tryz.ntmps57
    go_wp2_with (go_at_call 89; refine (rno_any _ _).mono ?_; rintro e w' ⟨rfl, hww⟩; subst hww)
    go_ret3
    exact ⟨B0.alloc (by simp) _, Or.inl ⟨by show _ ≠ _; rw [CE.out]; decide, _, _, by rw [CE.out]; rfl⟩⟩
  | false =>
    by_cases hk0 : k = 0
    · have CE : Hid (Tn.chgE d ⟨8, k, xt, xb, xnm, xv⟩ = 8) := by
        show _ = _
        unfold Tn.chgE Tn.shadE Tn.has
        simp [hk0]
      have hk0' : (((k : Nat) : Int) == 0) = true := by simp [hk0]
      clear hk0
      go_enter Tryz.func57, Tryz.ntmps57
      go_wp2_with (go_at_call 89; refine (rno_any _ _).mono ?_; rintro e w' ⟨rfl, hww⟩; subst hww)
      go_ret3
      exact ⟨B0.alloc (by simp) _, Or.inl ⟨by show _ ≠ _; rw [CE.out]; decide, _, _, by rw [CE.out]; rfl⟩⟩
    · have hk0' : (((k : Nat) : Int) == 0) = false := by simp; omega
      cases hS : r.hasS with
      | true =>
        have CE : Hid (Tn.chgE d ⟨8, k, xt, xb, xnm, xv⟩ = 8) := by
          show _ = _
          unfold Tn.chgE Tn.shadE Tn.has
          simp [← htg.out, het, ← hhs.out, hS]
        rw [hS] at r6
        go_enter Tryz.func57, Tryz.ntmps57
        go_wp2_with (go_at_call 89; refine (rno_any _ _).mono ?_; rintro e w' ⟨rfl, hww⟩; subst hww)
        go_ret3
        exact ⟨B0.alloc (by simp) _, Or.inl ⟨by show _ ≠ _; rw [CE.out]; decide, _, _, by rw [CE.out]; rfl⟩⟩
      | false =>
        rw [hS] at r6
        cases hsl : (r.tag.toList == [115, 108, 111, 116]) with
        | true =>
          have CE : Hid (Tn.chgE d ⟨8, k, xt, xb, xnm, xv⟩ = 8) := by
            show _ = _
            unfold Tn.chgE Tn.shadE Tn.has Tn.slotT
            simp [← htg.out, beq_iff_eq.mp hsl]
          go_enter Tryz.func57, Tryz.ntmps57
          go_wp2_with (go_at_call 89; refine (rno_any _ _).mono ?_; rintro e w' ⟨rfl, hww⟩; subst hww)
          go_ret3
          exact ⟨B0.alloc (by simp) _, Or.inl ⟨by show _ ≠ _; rw [CE.out]; decide, _, _, by rw [CE.out]; rfl⟩⟩
        | false =>
          have CE : Hid (Tn.chgE d ⟨8, k, xt, xb, xnm, xv⟩ = 0) := by
            show _ = _
            have hne : ¬ r.tag.toList = [115, 108, 111, 116] := by simpa using hsl
            unfold Tn.chgE Tn.shadE Tn.has Tn.slotT
            simp [← htg.out, het, ← hhs.out, hS, hne, hk0]
          have CD : Hid (Tn.chgD d ⟨8, k, xt, xb, xnm, xv⟩ = Tn.withd d k { Tn.nd d k with hasS := true }) := rfl
          have CN : Hid (Tn.chgN d ⟨8, k, xt, xb, xnm, xv⟩ = (k : Int)) := rfl
          go_enter Tryz.func57, Tryz.ntmps57
          go_wp2_with fail
          have KW : Keeps w ((w.alloc (.cells #[.int .i64 8, .int .i64 (k : Int), .int .i64 xt, .int .i64 xb, .string xnm, .string xv] 53)).alloc (.cells #[.bool r.live, .string r.tag, .string r.text, .slice r.a.p r.a.n r.a.c, .int .i64 r.up, .slice r.k.p r.k.n r.k.c, .bool true, .slice r.s.p r.s.n r.s.c, .bool r.inS] 46)) := keeps_alloc' _ K1
          have BW : Below w.heap.size w ((w.alloc (.cells #[.int .i64 8, .int .i64 (k : Int), .int .i64 xt, .int .i64 xb, .string xnm, .string xv] 53)).alloc (.cells #[.bool r.live, .string r.tag, .string r.text, .slice r.a.p r.a.n r.a.c, .int .i64 r.up, .slice r.k.p r.k.n r.k.c, .bool true, .slice r.s.p r.s.n r.s.c, .bool r.inS] 46)) := B0.alloc (by simp) _
          have qn : ((w.alloc (.cells #[.int .i64 8, .int .i64 (k : Int), .int .i64 xt, .int .i64 xb, .string xnm, .string xv] 53)).alloc (.cells #[.bool r.live, .string r.tag, .string r.text, .slice r.a.p r.a.n r.a.c, .int .i64 r.up, .slice r.k.p r.k.n r.k.c, .bool true, .slice r.s.p r.s.n r.s.c, .bool r.inS] 46)).cell? ⟨w.heap.size, 1, none⟩ = some (.int .i64 (k : Int)) := by rw [World.cell?_alloc2_first]; rfl
          have hr9 : NdAt ((w.alloc (.cells #[.int .i64 8, .int .i64 (k : Int), .int .i64 xt, .int .i64 xb, .string xnm, .string xv] 53)).alloc (.cells #[.bool r.live, .string r.tag, .string r.text, .slice r.a.p r.a.n r.a.c, .int .i64 r.up, .slice r.k.p r.k.n r.k.c, .bool true, .slice r.s.p r.s.n r.s.c, .bool r.inS] 46)).drew { r with hasS := true } { Tn.nd d k with hasS := true } := ⟨NN.out.live, NN.out.tag, NN.out.text, NN.out.up, rfl, NN.out.inS, NN.out.attrs.keeps (keeps_drew KW), NN.out.kids.keeps (keeps_drew KW), NN.out.shadow.keeps (keeps_drew KW)⟩
          go_region_with (go_at_call 93; refine (rwith_doc (r := { r with hasS := true }) (H.out.keeps (keeps_drew KW)) hs1 h0 hr9 k hkl).mono ?_; rintro e w9 ⟨g9, c9, rs9, rfl, hd9, hb9, hrs9⟩; have qn9 := keeps_below hb9 (Nat.le_refl _) _ _ (keeps_drew (Keeps.refl _) _ _ qn))
          all_goals
            go_wp2_with fail
            go_ret3
            exact ⟨BW.trans ((Below.refl _ _).drew.trans (hb9.mono (by have := BW.size; exact this))), Or.inr ⟨CE, g9, c9, rs9, by rw [CN.out]; rfl, by rw [CD.out]; exact hd9, by show _ ≤ _; rw [hrs9.out, withR_len]; split <;> omega⟩⟩
end Go.Proofs.YtbinbojicmhdlaeGreatDoor

/-
  THE WALKS of the reference's change, whole, Apply and Build.
-/
namespace Go.Proofs.YtbinbojicmhdlaeGreatDoor
open Go.RowKit

/-- what a change asks of its document -/
structure ChOK (d : Tn.Dc) (x : Tn.Chg) (k : Nat) : Prop where
  up : k ≠ 0 → ∃ u : Nat, (Tn.nd d k).up = (u : Int) ∧ u < d.length
  ls : ∀ j, (Tn.nd d j).kids.length ≤ 900 ∧ (Tn.nd d j).shadow.length ≤ 900
  al : (Tn.nd d k).attrs.length ≤ 1000
  few : ∀ f n, (Tn.all f d n).length ≤ 1000
  ends : Tn.Ends Tn.fuel d k
  mv : Tn.moveE d x ≠ 9 → k ≠ 0 → Tn.isN d x.to true = true → Tn.within d x.to x.node = false → Tn.Ends Tn.fuel (Tn.moveD d x) k
  mkL : ∀ j, (Tn.nd (Tn.mk1 d x) j).kids.length ≤ 1000 ∧ (Tn.nd (Tn.mk1 d x) j).shadow.length ≤ 1000
  mkE : Tn.Ends Tn.fuel (Tn.makeD d x) (Tn.free d)

theorem rchange_any {w : World} {b o c : Nat} {rs : List Raw} {d : Tn.Dc} (hd : DocAt w b o c rs d) (hs : rs.length ≤ 900) (x : Tn.Chg) (k : Nat) (hn : x.node = (k : Int)) (hi : Tn.isN d (k : Int) false = true) (hk1 : ¬ x.kind < 1) (hk2 : ¬ 10 < x.kind)
    (hv : x.value.size ≤ 4194304) (hnm : x.name.size ≤ 4194304) (h : ChOK d x k) :
    Calls Tryz.prog 57 #[.slice (some ⟨b, o, none⟩) rs.length c, chv x] w fun e w' => ChgPost w w' e d x rs.length := by
  obtain ⟨k', hkk, hk, hlv⟩ := isN_nat hi
  have hkk : k = k' := by omega
  subst hkk
  have hc : x.kind = 1 ∨ x.kind = 2 ∨ x.kind = 3 ∨ x.kind = 4 ∨ x.kind = 5 ∨ x.kind = 6 ∨ x.kind = 7 ∨ x.kind = 8 ∨ x.kind = 9 ∨ x.kind = 10 := by omega
  rcases hc with e | e | e | e | e | e | e | e | e | e
  · exact rchange_mk1 hd hs x k hn hk e hv hnm h.mkL h.mkE
  · exact rchange_mk2 hd hs x k hn hk e hv hnm h.mkL h.mkE
  · exact rchange_move hd hs x k hn hk e hv hnm h.up h.ls h.mv
  · exact rchange_remove hd hs x k hn hk e hv hnm h.up h.ls h.few h.ends
  · exact rchange_attr hd hs x k hn hk e hv hnm h.al
  · exact rchange_clear hd hs x k hn hk e hv hnm h.al hlv
  · exact rchange_say hd hs x k hn hk e hv hnm
  · exact rchange_shad hd hs x k hn hk e hv hnm
  · exact rchange_mk9 hd hs x k hn hk e hv hnm h.mkL h.mkE
  · exact rchange_mk10 hd hs x k hn hk e hv hnm h.mkL h.mkE

def ApPost (w w' : World) (e : Ending) (d : Tn.Dc) (x : Tn.Chg) : Prop :=
  Below w.heap.size w w' ∧ ((Hid (Tn.applyE d x ≠ 0) ∧ e = .returned (.tuple #[.slice none 0 0, .int .i64 0, .int .i64 (Tn.applyE d x)])) ∨
    (Hid (Tn.applyE d x = 0) ∧ ∃ g c' rs', e = .returned (.tuple #[.slice (some ⟨g, 0, none⟩) rs'.length c', .int .i64 (Tn.chgN d x), .int .i64 0]) ∧ DocAt w' g 0 c' rs' (Tn.applyD d x)))

theorem lastLive_le (d : Tn.Dc) : ∀ k, Tn.lastLive d k ≤ max 1 k
  | 0 => by simp [Tn.lastLive]
  | k + 1 => by
    have := lastLive_le d k
    rw [Tn.lastLive]
    split <;> omega

theorem doc_take {w : World} {b o c : Nat} {rs : List Raw} {d : Tn.Dc} (h : DocAt w b o c rs d) (n : Nat) : DocAt w b o c (rs.take n) (d.take n) := by
  refine ⟨by have := h.cap; simp; omega, h.capM, by simp [h.len], ?_, ?_⟩
  · have e : ∀ i (hi : i < (rs.take n).length), i < rs.length := fun i hi => by simp at hi; omega
    constructor <;> intro i hi <;> rw [List.getElem_take]
    · exact h.row.c0 i (e i hi)
    · exact h.row.c1 i (e i hi)
    · exact h.row.c2 i (e i hi)
    · exact h.row.c3 i (e i hi)
    · exact h.row.c4 i (e i hi)
    · exact h.row.c5 i (e i hi)
    · exact h.row.c6 i (e i hi)
    · exact h.row.c7 i (e i hi)
    · exact h.row.c8 i (e i hi)
  · intro i hi hi'
    rw [List.getElem_take, List.getElem_take]
    exact h.nds i (by simp at hi; omega) (by simp at hi'; omega)

set_option maxHeartbeats 1600000 in
set_option maxRecDepth 100000 in
theorem rapply_any {w : World} {b o c : Nat} {rs : List Raw} {d : Tn.Dc} (hd : DocAt w b o c rs d) (hs : rs.length ≤ 800) (h0 : 0 < rs.length) (x : Tn.Chg) (hv : x.value.size ≤ 4194304) (hnm : x.name.size ≤ 4194304)
    (hok : ∀ k : Nat, x.node = (k : Int) → Tn.isN d (k : Int) false = true → ChOK d x k) (hch : Tn.isN d x.node false = true → Tn.chgE d x = 0 → 0 < (Tn.chgD d x).length) :
    Calls Tryz.prog 29 #[.slice (some ⟨b, o, none⟩) rs.length c, chv x] w fun e w' => ApPost w w' e d x := by
  have H : Hid (DocAt w b o c rs d) := hd
  have HC : Hid (Tn.isN d x.node false = true → Tn.chgE d x = 0 → 0 < (Tn.chgD d x).length) := hch
  clear hd hch
  have K1 := keeps_alloc w (.cells #[.int .i64 x.kind, .int .i64 x.node, .int .i64 x.to, .int .i64 x.before, .string x.name, .string x.value] 53)
  have B1 := (Below.refl w.heap.size w).alloc (Nat.le_refl _) (.cells #[.int .i64 x.kind, .int .i64 x.node, .int .i64 x.to, .int .i64 x.before, .string x.name, .string x.value] 53)
  by_cases hk1 : x.kind < 1
  · have AE : Hid (Tn.applyE d x = 1) := by show _ = _; unfold Tn.applyE; rw [if_pos (Or.inl hk1)]
    unfold chv
    go_enter Tryz.func29, Tryz.ntmps29
    go_wp2_with fail
    go_ret3
    exact ⟨B1, Or.inl ⟨by show _ ≠ _; rw [AE.out]; decide, by rw [AE.out]; rfl⟩⟩
  · by_cases hk2 : 10 < x.kind
    · have AE : Hid (Tn.applyE d x = 1) := by show _ = _; unfold Tn.applyE; rw [if_pos (Or.inr hk2)]
      unfold chv
      go_enter Tryz.func29, Tryz.ntmps29
      go_wp2_with fail
      go_ret3
      exact ⟨B1, Or.inl ⟨by show _ ≠ _; rw [AE.out]; decide, by rw [AE.out]; rfl⟩⟩
    · have hnk : ¬ (x.kind < 1 ∨ 10 < x.kind) := by omega
      cases hi : Tn.isN d x.node false with
      | false =>
        have AE : Hid (Tn.applyE d x = 6) := by show _ = _; unfold Tn.applyE; rw [if_neg hnk, if_pos hi]
        clear hnk
        unfold chv
        go_enter Tryz.func29, Tryz.ntmps29
        go_wp2_with (go_at_call 52; refine (ris_any (H.out.keeps K1) _ _).mono ?_; rintro e w' ⟨rfl, hww⟩; subst hww; rw [hi])
        go_ret3
        exact ⟨B1, Or.inl ⟨by show _ ≠ _; rw [AE.out]; decide, by rw [AE.out]; rfl⟩⟩
      | true =>
        have AE : Hid (Tn.applyE d x = Tn.chgE d x) := by show _ = _; unfold Tn.applyE; rw [if_neg hnk, if_neg (by simp [hi])]
        obtain ⟨k, hkn, hk, _⟩ := isN_nat hi
        have HR : Hid (∀ W, DocAt W b o c rs d → Calls Tryz.prog 57 #[.slice (some ⟨b, o, none⟩) rs.length c, chv x] W fun e w' => ChgPost W w' e d x rs.length) :=
          fun W h => rchange_any h (by omega) x k hkn (by rw [← hkn]; exact hi) hk1 hk2 hv hnm (hok k hkn (by rw [← hkn]; exact hi))
        have HR2 : Hid (∀ W, DocAt W b o c rs d → Calls Tryz.prog 57 #[.slice (some ⟨b, o, none⟩) rs.length c, .agg #[.int .i64 x.kind, .int .i64 x.node, .int .i64 x.to, .int .i64 x.before, .string x.name, .string x.value]] W fun e w' => ChgPost W w' e d x rs.length) := HR.out
        clear hkn hok hnk HR
        unfold chv
        go_enter Tryz.func29, Tryz.ntmps29
        go_wp2_with (first
          | (go_at_call 52; refine (ris_any (H.out.keeps K1) _ _).mono ?_; rintro e w' ⟨rfl, hww⟩; subst hww; rw [hi])
          | (go_at_call 57; refine (HR2.out _ (H.out.keeps K1)).mono ?_; rintro e w9 ⟨hb9, hpp⟩; rcases hpp with ⟨hne, dv, nv, rfl⟩ | ⟨heq, g9, c9, rs9, rfl, hd9, hl9⟩; have hq1 : (Tn.chgE d x != 0) = true := by (simpa using hne.out)))
        · go_ret3
          exact ⟨B1.trans (hb9.mono (by simp)), Or.inl ⟨by show _ ≠ _; rw [AE.out]; exact hne.out, by rw [AE.out]; rfl⟩⟩
        · have D9 : Hid (DocAt w9 g9 0 c9 rs9 (Tn.chgD d x)) := hd9
          have hz9 : rs9.length ≤ 900 := Nat.le_trans hl9.out (by omega)
          have hp9 : 0 < rs9.length := by rw [hd9.len]; exact HC.out hi heq.out
          have AD : Hid (Tn.applyD d x = (Tn.chgD d x).take (Tn.lastLive (Tn.chgD d x) (Tn.chgD d x).length)) := rfl
          have L9 : Hid (rs9.length = (Tn.chgD d x).length) := hd9.len
          have Bz := B1.trans (hb9.mono (by simp))
          have hcap := hd9.cap
          clear hd9
          generalize Tn.chgD d x = d9 at *
          go_loop [10, 37] (fun lv i => ∃ j : Nat, j ≤ rs9.length ∧ i = .int .i64 j ∧ lv = .int .i64 (Tn.lastLive d9 j : Int)) (fun _ i => rs9.length - (intOf i).toNat)
          case atStart => exact ⟨0, Nat.zero_le _, rfl, rfl⟩
          case round =>
            obtain ⟨j, hj, rfl, rfl⟩ := hrel
            have hll := lastLive_le d9 j
            by_cases hlt : j < rs9.length
            · have hc0 := D9.out.row.c0 j hlt
              simp only [Nat.zero_add] at hc0
              have hjd : j < d9.length := by rw [← L9.out]; exact hlt
              have hlv : Hid (rs9[j].live = (Tn.nd d9 j).live) := by show _ = _; rw [nd_at hjd]; exact (D9.out.nds j hlt hjd).live
              have F : Hid (Tn.lastLive d9 (j + 1) = if (Tn.nd d9 j).live ∧ Tn.lastLive d9 j ≤ j then j + 1 else Tn.lastLive d9 j) := by show _ = _; rw [Tn.lastLive]
              rw [← hlv.out] at F
              clear hlv
              generalize rs9[j].live = lv at *
              generalize Tn.lastLive d9 j = cur at *
              cases lv with
              | false =>
                have G : Hid (Tn.lastLive d9 (j + 1) = cur) := by show _ = _; rw [F.out]; simp
                clear F
                go_wp2_with fail
                go_round
                case rel => exact ⟨j + 1, by omega, by go_num, by rw [G.out]⟩
                case measure => simp [intOf]; omega
              | true =>
                by_cases hcj : cur ≤ j
                · have G : Hid (Tn.lastLive d9 (j + 1) = j + 1) := by show _ = _; rw [F.out, if_pos ⟨rfl, hcj⟩]
                  clear F
                  go_wp2_with fail
                  go_round
                  case rel => exact ⟨j + 1, by omega, by go_num, by rw [G.out]; go_num⟩
                  case measure => simp [intOf]; omega
                · have G : Hid (Tn.lastLive d9 (j + 1) = cur) := by show _ = _; rw [F.out, if_neg (fun h => hcj h.2)]
                  clear F
                  go_wp2_with fail
                  go_round
                  case rel => exact ⟨j + 1, by omega, by go_num, by rw [G.out]⟩
                  case measure => simp [intOf]; omega
            · obtain rfl : j = rs9.length := by omega
              have AD2 : Hid (Tn.applyD d x = d9.take (Tn.lastLive d9 rs9.length)) := by show _ = _; rw [AD.out, L9.out]
              generalize Tn.lastLive d9 rs9.length = la at *
              have hla : la ≤ c9 := by omega
              have hlr : Hid ((rs9.take la).length = la) := by show _ = _; simp; omega
              go_wp2_with fail
              go_ret3
              exact ⟨Bz, Or.inr ⟨by show _ = _; rw [AE.out]; exact heq.out, g9, c9, rs9.take la, by rw [hlr.out]; rfl, by rw [AD2.out]; exact doc_take D9.out la⟩⟩
end Go.Proofs.YtbinbojicmhdlaeGreatDoor

/-
  THE WALK of the reference's Build.
-/
namespace Go.Proofs.YtbinbojicmhdlaeGreatDoor
open Go.RowKit

def chc (x : Tn.Chg) : List Value := [.int .i64 x.kind, .int .i64 x.node, .int .i64 x.to, .int .i64 x.before, .string x.name, .string x.value]
theorem chc_len (x : Tn.Chg) : (chc x).length = 6 := rfl
def ChgsAt (w : World) (v : Value) (l : List Tn.Chg) : Prop :=
  ∃ p c, v = .slice p l.length c ∧ l.length ≤ c ∧ c ≤ maxLen ∧ ∀ j x, (l.flatMap chc)[j]? = some x → ∃ b o, p = some ⟨b, o, none⟩ ∧ w.cell? ⟨b, o + j, none⟩ = some x

theorem ChgsAt.at {w : World} {v : Value} {l : List Tn.Chg} (h : ChgsAt w v l) : ∃ p c, v = .slice p l.length c ∧ l.length ≤ c ∧ c ≤ 9223372036854775807 ∧
    ∀ j (hj : j < l.length), ∃ b o, p = some ⟨b, o, none⟩ ∧ w.cell? ⟨b, o + j * 6, none⟩ = some (.int .i64 l[j].kind) ∧ w.cell? ⟨b, o + j * 6 + 1, none⟩ = some (.int .i64 l[j].node) ∧ w.cell? ⟨b, o + j * 6 + 2, none⟩ = some (.int .i64 l[j].to) ∧
      w.cell? ⟨b, o + j * 6 + 3, none⟩ = some (.int .i64 l[j].before) ∧ w.cell? ⟨b, o + j * 6 + 4, none⟩ = some (.string l[j].name) ∧ w.cell? ⟨b, o + j * 6 + 5, none⟩ = some (.string l[j].value) := by
  obtain ⟨p, c, e, h1, h2, h4⟩ := h
  refine ⟨p, c, e, h1, by unfold maxLen at h2; omega, fun j hj => ?_⟩
  have g : ∀ i x, i < 6 → (chc l[j])[i]? = some x → ∃ b o, p = some ⟨b, o, none⟩ ∧ w.cell? ⟨b, o + (j * 6 + i), none⟩ = some x :=
    fun i x hi hx => h4 (j * 6 + i) x (by rw [flat_at chc 6 chc_len l j i hi, List.getElem?_eq_getElem hj]; exact hx)
  obtain ⟨b, o, e0, g0⟩ := g 0 _ (by decide) rfl
  obtain ⟨b1, o1, e1, g1⟩ := g 1 _ (by decide) rfl
  obtain ⟨b2, o2, e2, g2⟩ := g 2 _ (by decide) rfl
  obtain ⟨b3, o3, e3, g3⟩ := g 3 _ (by decide) rfl
  obtain ⟨b4, o4, e4, g4⟩ := g 4 _ (by decide) rfl
  obtain ⟨b5, o5, e5, g5⟩ := g 5 _ (by decide) rfl
  rw [e0] at e1 e2 e3 e4 e5
  cases e1; cases e2; cases e3; cases e4; cases e5
  exact ⟨b, o, e0, g0, by rw [Nat.add_assoc]; exact g1, by rw [Nat.add_assoc]; exact g2, by rw [Nat.add_assoc]; exact g3, by rw [Nat.add_assoc]; exact g4, by rw [Nat.add_assoc]; exact g5⟩

def rootR : Raw := ⟨true, ⟨#[109, 97, 105, 110]⟩, ⟨#[]⟩, ⟨none, 0, 0⟩, -1, ⟨none, 0, 0⟩, false, ⟨none, 0, 0⟩, false⟩
theorem root_doc (w : World) : DocAt (w.alloc (.cells #[.bool true, .string ⟨#[109, 97, 105, 110]⟩, .string ⟨#[]⟩, .slice none 0 0, .int .i64 (-1), .slice none 0 0, .bool false, .slice none 0 0, .bool false] 46)) w.heap.size 0 1 [rootR] [Tn.root] := by
  have hb := box_new w rootR 46
  obtain ⟨c0, c1, c2, c3, c4, c5, c6, c7, c8⟩ := hb
  refine ⟨Nat.le_refl _, by decide, rfl, ?_, ?_⟩
  · constructor <;> (intro k hk; have hk0 : k = 0 := by simp at hk; omega; ) <;> subst hk0
    · exact c0
    · exact c1
    · exact c2
    · exact c3
    · exact c4
    · exact c5
    · exact c6
    · exact c7
    · exact c8
  · intro k hk hk'
    have hk0 : k = 0 := by simp at hk; omega
    subst hk0
    exact ⟨rfl, rfl, rfl, rfl, rfl, rfl, ⟨none, 0, rfl, Nat.le_refl _, by decide, Or.inl ⟨rfl, rfl⟩, fun j x h => by simp [Tn.root] at h⟩, ints_nil _, ints_nil _⟩

theorem build_succ (l : List Tn.Chg) (j : Nat) (h : j < l.length) : Tn.build (l.take (j + 1)) = Tn.step (Tn.build (l.take j)) l[j] := by
  unfold Tn.build
  rw [List.take_succ_eq_append_getElem h, List.foldl_append]
  rfl

/-- documents for which the changes go -/
structure Kept (G : Tn.Dc → Prop) : Prop where
  root : G [Tn.root]
  step : ∀ d x, G d → G (Tn.step d x)
  len : ∀ d, G d → 0 < d.length ∧ d.length ≤ 800
  ok : ∀ d x (k : Nat), G d → x.node = (k : Int) → Tn.isN d (k : Int) false = true → ChOK d x k
  chg : ∀ d x, G d → Tn.isN d x.node false = true → Tn.chgE d x = 0 → 0 < (Tn.chgD d x).length

theorem Kept.build {G : Tn.Dc → Prop} (hG : Kept G) (l : List Tn.Chg) : G (Tn.build l) := by
  unfold Tn.build
  generalize hr : [Tn.root] = d0
  have h0 : G d0 := by rw [← hr]; exact hG.root
  clear hr
  induction l generalizing d0 with
  | nil => exact h0
  | cons x l ih => exact ih _ (hG.step _ _ h0)

set_option maxHeartbeats 1600000 in
set_option maxRecDepth 100000 in
theorem rbuild_any {G : Tn.Dc → Prop} (hG : Kept G) {w : World} {vl : Value} {l : List Tn.Chg} (hl : ChgsAt w vl l) (hsz : ∀ x ∈ l, x.value.size ≤ 4194304 ∧ x.name.size ≤ 4194304) :
    Calls Tryz.prog 7 #[vl] w fun e w' => ∃ g c rs, e = .returned (.slice (some ⟨g, 0, none⟩) rs.length c) ∧ DocAt w' g 0 c rs (Tn.build l) ∧ Below w.heap.size w w' := by
  obtain ⟨p, cc, rfl, h1, h2, hat⟩ := hl.at
  have T : Hid (∀ j (hj : j < l.length), ∃ b o, p = some ⟨b, o, none⟩ ∧ w.cell? ⟨b, o + j * 6, none⟩ = some (.int .i64 l[j].kind) ∧ w.cell? ⟨b, o + j * 6 + 1, none⟩ = some (.int .i64 l[j].node) ∧ w.cell? ⟨b, o + j * 6 + 2, none⟩ = some (.int .i64 l[j].to) ∧
      w.cell? ⟨b, o + j * 6 + 3, none⟩ = some (.int .i64 l[j].before) ∧ w.cell? ⟨b, o + j * 6 + 4, none⟩ = some (.string l[j].name) ∧ w.cell? ⟨b, o + j * 6 + 5, none⟩ = some (.string l[j].value)) := hat
  have Z : Hid (∀ x ∈ l, x.value.size ≤ 4194304 ∧ x.name.size ≤ 4194304) := hsz
  clear hat hl hsz
  go_enter Tryz.func7, Tryz.ntmps7
  go_wp2_with fail
  go_loopw [3, 13] (fun dv iv wr => ∃ (j g c : Nat) (rs : List Raw), j ≤ l.length ∧ iv = .int .i64 j ∧ dv = .slice (some ⟨g, 0, none⟩) rs.length c ∧ DocAt wr g 0 c rs (Tn.build (l.take j)) ∧ Below w.heap.size w wr)
    (fun _ i _ => l.length - (intOf i).toNat)
  case atStart => exact ⟨0, w.heap.size, 1, [rootR], Nat.zero_le _, rfl, rfl, root_doc w, (Below.refl _ _).alloc (Nat.le_refl _) _⟩
  case round =>
    obtain ⟨j, g, c, rs, hj, rfl, rfl, hd, hnx⟩ := hrel
    have hbz := hnx.size
    by_cases hlt : j < l.length
    · obtain ⟨b1, o1, rfl, k0, k1, k2, k3, k4, k5⟩ := T.out j hlt
      have KR := keeps_below hnx (Nat.le_refl _)
      have y0 := KR _ _ k0
      have y1 := KR _ _ k1
      have y2 := KR _ _ k2
      have y3 := KR _ _ k3
      have y4 := KR _ _ k4
      have y5 := KR _ _ k5
      clear k0 k1 k2 k3 k4 k5
      have F : Hid (Tn.build (l.take (j + 1)) = Tn.step (Tn.build (l.take j)) l[j]) := build_succ l j hlt
      have hgd := hG.build (l.take j)
      have hln := hG.len _ hgd
      have hzz := Z.out _ (List.getElem_mem hlt)
      generalize l[j] = x at *
      generalize Tn.build (l.take j) = d at *
      have D : Hid (DocAt (wr.alloc (.cells #[.int .i64 x.kind, .int .i64 x.node, .int .i64 x.to, .int .i64 x.before, .string x.name, .string x.value] 53)) g 0 c rs d) := hd.keeps (keeps_alloc _ _)
      have HA : Hid (∀ W, DocAt W g 0 c rs d → Calls Tryz.prog 29 #[.slice (some ⟨g, 0, none⟩) rs.length c, .agg #[.int .i64 x.kind, .int .i64 x.node, .int .i64 x.to, .int .i64 x.before, .string x.name, .string x.value]] W fun e w' => ApPost W w' e d x) := by
        intro W hW
        exact rapply_any hW (by rw [hW.len]; exact hln.2) (by rw [hW.len]; exact hln.1) x hzz.1 hzz.2 (fun k hk hi => hG.ok d x k hgd hk hi) (fun hin h => hG.chg d x hgd hin h)
      clear hd hln hgd
      go_wp2_with (go_at_call 29; refine (HA.out _ D.out).mono ?_; rintro e w9 ⟨hb9, hpp⟩; rcases hpp with ⟨hne, rfl⟩ | ⟨heq, g9, c9, rs9, rfl, hd9⟩; have hq1 : (Tn.applyE d x == 0) = false := by (simpa using hne.out))
      · have S : Hid (Tn.step d x = d) := by show _ = _; unfold Tn.step; rw [if_neg hne.out]
        go_roundw
        case rel => exact ⟨j + 1, g, c, rs, by omega, by go_num, rfl, by rw [F.out, S.out]; exact D.out.keeps (keeps_below hb9 (Nat.le_refl _)), (hnx.alloc hbz _).trans (hb9.mono (by simp; omega))⟩
        case measure => simp [intOf]; omega
      · have S : Hid (Tn.step d x = Tn.applyD d x) := by show _ = _; unfold Tn.step; rw [if_pos heq.out]
        go_roundw
        case rel => exact ⟨j + 1, g9, c9, rs9, by omega, by go_num, rfl, by rw [F.out, S.out]; exact hd9, (hnx.alloc hbz _).trans (hb9.mono (by simp; omega))⟩
        case measure => simp [intOf]; omega
    · obtain rfl : j = l.length := by omega
      rw [List.take_length] at hd
      go_wp2_with fail
      go_ret
      exact ⟨g, c, rs, rfl, hd, hnx⟩
end Go.Proofs.YtbinbojicmhdlaeGreatDoor

/-
  ARGUMENTS: a slice of changes that came in, as it reads.
-/
namespace Go.Proofs.YtbinbojicmhdlaeGreatDoor
open Go.ChangeShapes Go.WideShapes Go.ChangeAt Go.RowKit

def chgW {H : Type} (x : Tn.Chg) : DataW H := .agg [.lit (.int .i64 x.kind), .lit (.int .i64 x.node), .lit (.int .i64 x.to), .lit (.int .i64 x.before), .lit (.string x.name.data.toList), .lit (.string x.value.data.toList)]

theorem cellsC : Tryz.prog.cellsOf 53 = 6 := by kernel_rfl
theorem cellsI : Tryz.prog.cellsOf 3 = 1 := by kernel_rfl
theorem cellsS : Tryz.prog.cellsOf 9 = 1 := by kernel_rfl
theorem own_knob : ownKnob Tryz.prog.godebug = none := by kernel_rfl
theorem laid_out : laidOutB Tryz.prog = true := by kernel_rfl

set_option maxRecDepth 100000 in
theorem open_chg {H : Type} {enc : TypeId × Value → H} {W : World} {base n : Nat} {sp : Nat → Bool} {held : Bool} {cs : List Value} {y : DataW H × List MemPlace} (h : DataW.trod enc Tryz.prog W base sp held n 53 cs = some y) : ∃ x : Tn.Chg, cs = chc x ∧ y.1 = chgW x := by
  obtain ⟨xs, k, _, hy, hl, hx, hf⟩ := DataW.trod_struct Tryz.underlying53 h
  rw [cellsC] at hl
  have hx6 : xs.length = 6 := hx
  clear hx
  match cs, hl, xs, hx6 with
  | [c0, c1, c2, c3, c4, c5], _, [y0, y1, y2, y3, y4, y5], _ =>
    have g0 := hf 0 _ rfl
    have g1 := hf 1 _ rfl
    have g2 := hf 2 _ rfl
    have g3 := hf 3 _ rfl
    have g4 := hf 4 _ rfl
    have g5 := hf 5 _ rfl
    simp [cellsI, cellsS] at g0 g1 g2 g3 g4 g5
    obtain ⟨z0, e0, f0, _⟩ := DataW.trod_int Tryz.underlying3 g0
    obtain ⟨z1, e1, f1, _⟩ := DataW.trod_int Tryz.underlying3 g1
    obtain ⟨z2, e2, f2, _⟩ := DataW.trod_int Tryz.underlying3 g2
    obtain ⟨z3, e3, f3, _⟩ := DataW.trod_int Tryz.underlying3 g3
    obtain ⟨s4, e4, f4, _⟩ := DataW.trod_string Tryz.underlying9 g4
    obtain ⟨s5, e5, f5, _⟩ := DataW.trod_string Tryz.underlying9 g5
    simp at e0 e1 e2 e3 e4 e5
    refine ⟨⟨z0, z1, z2, z3, s4, s5⟩, by rw [e0, e1, e2, e3, e4, e5]; rfl, ?_⟩
    rw [hy, f0, f1, f2, f3, f4, f5]
    rfl

theorem open_chgs {H : Type} {enc : TypeId × Value → H} {W : World} {a0 : Option Addr} {len cap : Nat} {d : DataW H} {ps : List MemPlace} (h : DataW.Trod enc Tryz.prog W 0 (fun _ => true) true 22 (.slice a0 len cap) d ps) :
    ∃ l : List Tn.Chg, ChgsAt W (.slice a0 len cap) l ∧ (l = [] ∨ ∃ spare, d = .slice (l.map chgW) spare) := by
  obtain ⟨fuel, hf⟩ := h
  rcases Deep.open_slice Tryz.underlying22 hf with ⟨hcs, hx⟩ | ⟨a, len', cap', m, n, D, Pl, hcs, _, hl, hmx, hm, hx, hall⟩
  · simp [Value.cells] at hcs
    obtain ⟨rfl, rfl, rfl⟩ := hcs
    exact ⟨[], ⟨none, 0, rfl, Nat.le_refl _, by decide, fun j x h => by simp at h⟩, Or.inl rfl⟩
  · simp [Value.cells] at hcs
    obtain ⟨rfl, rfl, rfl⟩ := hcs
    simp only [if_true] at hm
    subst hm
    simp only [Prod.mk.injEq] at hx
    have each : ∀ i, i < m → ∃ x : Tn.Chg, (∀ q, q < 6 → W.cell? ((a.add (i * 6)).add q) = (chc x)[q]?) ∧ D i = chgW x := by
      intro i hi
      obtain ⟨cs', h1, h2⟩ := hall i hi
      obtain ⟨x, rfl, hy⟩ := open_chg h2
      rw [cellsC] at h1
      exact ⟨x, fun q hq => (World.cells?_some h1).2.2 q hq, hy⟩
    have inh : Inhabited Tn.Chg := ⟨⟨0, 0, 0, 0, ⟨#[]⟩, ⟨#[]⟩⟩⟩
    obtain ⟨X, hX⟩ := Deep.choose_lt each
    refine ⟨(List.range len).map X, ?_, Or.inr ⟨(List.range (m - len)).map fun j => D (len + j), ?_⟩⟩
    · refine ⟨some a, m, by simp, by simpa using hl, hmx, fun j x hx => ?_⟩
      have hj : j / 6 * 6 + j % 6 = j := by omega
      have hq : j % 6 < 6 := by omega
      rw [← hj, flat_at chc 6 chc_len _ _ _ hq] at hx
      by_cases hi : j / 6 < len
      · simp [hi] at hx
        have h1 := (hX (j / 6) (by omega)).1 (j % 6) hq
        rw [Deep.add_add, hj] at h1
        rw [hx] at h1
        obtain ⟨b, o, spot⟩ := a
        have hs : spot = none := by
          have h0 := (hX 0 (by omega)).1 0 (by decide)
          have := World.cell?_spot (h0.trans rfl)
          simpa [Addr.add] using this
        subst hs
        exact ⟨b, o, rfl, by rw [← add_at]; exact h1⟩
      · simp [hi] at hx
    · rw [hx.1, List.map_map]
      congr 1
      refine List.map_congr_left fun i hi => ?_
      exact (hX i (by have := List.mem_range.mp hi; omega)).2

theorem bulk_chgs {H : Type} : ∀ (l : List Tn.Chg), l.length ≤ Rows.uptoBulkAll (l.map (chgW (H := H))) ∧ ∀ x ∈ l, x.value.size ≤ Rows.uptoBulkAll (l.map (chgW (H := H))) ∧ x.name.size ≤ Rows.uptoBulkAll (l.map (chgW (H := H)))
  | [] => ⟨Nat.zero_le _, fun x hx => by simp at hx⟩
  | a :: l => by
    obtain ⟨h1, h2⟩ := bulk_chgs l
    have e : Rows.uptoBulk (chgW (H := H) a) = 4 + a.name.size + a.value.size + 3 := by
      simp only [chgW, Rows.uptoBulk, Rows.uptoBulkAll]
      have e1 := Lib.size_eq a.name
      have e2 := Lib.size_eq a.value
      omega
    rw [List.map_cons, Rows.uptoBulkAll, e]
    refine ⟨by simp; omega, fun x hx => ?_⟩
    rcases List.mem_cons.mp hx with rfl | hx
    · constructor <;> omega
    · have := h2 x hx
      constructor <;> omega

/-- what the bound gives -/
theorem bulk_bound {H : Type} {l : List Tn.Chg} {d : DataW H} {more : List (DataW H)} (hd : l = [] ∨ ∃ spare, d = .slice (l.map chgW) spare) (hk : Rows.uptoSmall H (d :: more) = true) : l.length ≤ 4194304 ∧ ∀ x ∈ l, x.value.size ≤ 4194304 ∧ x.name.size ≤ 4194304 := by
  have h : Rows.uptoBulkAll (d :: more) ≤ 1048576 := of_decide_eq_true hk
  rcases hd with rfl | ⟨spare, rfl⟩
  · exact ⟨by simp, fun x hx => by simp at hx⟩
  · simp only [Rows.uptoBulkAll, Rows.uptoBulk] at h
    obtain ⟨h1, h2⟩ := bulk_chgs (H := H) l
    exact ⟨by omega, fun x hx => by have := h2 x hx; constructor <;> omega⟩
end Go.Proofs.YtbinbojicmhdlaeGreatDoor

/-
  PLAIN MATHEMATICS: trees given by functions; ranks; what is within what.
-/
namespace Go.Proofs.YtbinbojicmhdlaeGreatDoor
namespace Tn

/-- a tree: who is live, what each is in, in which list, the lists, how deep -/
structure Tr (lv : Nat → Bool) (up : Nat → Nat) (ins : Nat → Bool) (li : Nat → Bool → List Nat) (r : Nat → Nat) : Prop where
  root : lv 0 = true
  mem : ∀ u s k, k ∈ li u s → lv u = true ∧ lv k = true ∧ 0 < k ∧ up k = u ∧ ins k = s
  par : ∀ k, 0 < k → lv k = true → k ∈ li (up k) (ins k)
  nodup : ∀ u s, (li u s).Nodup
  rank : ∀ k, 0 < k → lv k = true → r k = r (up k) + 1
  r0 : r 0 = 0

def anc (up : Nat → Nat) : Nat → Nat → Nat
  | 0, j => j
  | i + 1, j => anc up i (up j)

theorem anc_succ (up : Nat → Nat) : ∀ i j, anc up (i + 1) j = up (anc up i j)
  | 0, _ => rfl
  | i + 1, j => by rw [anc, anc_succ up i (up j)]; rfl

variable {lv : Nat → Bool} {up : Nat → Nat} {ins : Nat → Bool} {li : Nat → Bool → List Nat} {r : Nat → Nat}

theorem Tr.upLive (h : Tr lv up ins li r) {k : Nat} (h0 : 0 < k) (hk : lv k = true) : lv (up k) = true := (h.mem _ _ _ (h.par k h0 hk)).1

theorem Tr.pos (h : Tr lv up ins li r) {k : Nat} (hr : 0 < r k) : 0 < k := by
  cases k with
  | zero => rw [h.r0] at hr; omega
  | succ k => omega

theorem Tr.anc (h : Tr lv up ins li r) : ∀ i j, lv j = true → i ≤ r j → lv (anc up i j) = true ∧ r (anc up i j) + i = r j
  | 0, j, hj, _ => ⟨hj, rfl⟩
  | i + 1, j, hj, hi => by
    have h0 : 0 < j := h.pos (by omega)
    have hr := h.rank j h0 hj
    have := h.anc i (up j) (h.upLive h0 hj) (by omega)
    exact ⟨this.1, by show r (Tn.anc up i (up j)) + (i + 1) = r j; omega⟩

/-- j is k, or within it -/
def desc (up : Nat → Nat) (r : Nat → Nat) (k j : Nat) : Prop := r k ≤ r j ∧ anc up (r j - r k) j = k

theorem desc_refl (k : Nat) : desc up r k k := ⟨Nat.le_refl _, by rw [Nat.sub_self]; rfl⟩

theorem Tr.descUp (h : Tr lv up ins li r) {k j : Nat} (h0 : 0 < j) (hj : lv j = true) (hne : j ≠ k) : desc up r k j ↔ desc up r k (up j) := by
  have hr := h.rank j h0 hj
  constructor
  · rintro ⟨h1, h2⟩
    have hlt : r k ≠ r j := by
      intro e
      rw [e, Nat.sub_self] at h2
      exact hne h2
    refine ⟨by omega, ?_⟩
    have e : r j - r k = (r (up j) - r k) + 1 := by omega
    rw [e] at h2
    exact h2
  · rintro ⟨h1, h2⟩
    refine ⟨by omega, ?_⟩
    have e : r j - r k = (r (up j) - r k) + 1 := by omega
    rw [e]
    exact h2

theorem Tr.descRoot (h : Tr lv up ins li r) {k : Nat} (hd : desc up r k 0) : k = 0 := by
  obtain ⟨h1, h2⟩ := hd
  rw [h.r0] at h1 h2
  have : r k = 0 := by omega
  rw [this] at h2
  exact h2.symm

theorem nodup_le : ∀ (N : Nat) (l : List Nat), l.Nodup → (∀ x ∈ l, x < N) → l.length ≤ N
  | 0, l, _, h => by
    cases l with
    | nil => simp
    | cons a t => exact absurd (h a (by simp)) (by omega)
  | N + 1, l, hn, h => by
    have h1 := nodup_le N (l.erase N) (hn.erase N) (fun x hx => by
      have h2 := (hn.mem_erase_iff).mp hx
      have := h x h2.2
      omega)
    rw [List.length_erase] at h1
    split at h1 <;> omega

/-- the functions of a document -/
def lvD (d : Dc) (k : Nat) : Bool := (nd d k).live
def upD (d : Dc) (k : Nat) : Nat := (nd d k).up.toNat
def insD (d : Dc) (k : Nat) : Bool := (nd d k).inS
def liD (d : Dc) (k : Nat) (s : Bool) : List Nat := listOf (nd d k) s

theorem lv_lt {d : Dc} {k : Nat} (h : lvD d k = true) : k < d.length := by
  apply Classical.byContradiction
  intro hn
  unfold lvD nd at h
  rw [List.getElem?_eq_none (by omega)] at h
  simp [zero] at h

theorem isN_iff {d : Dc} {k : Nat} : isN d (k : Int) false = lvD d k := by
  unfold isN
  rw [Int.toNat_natCast]
  by_cases h : k < d.length
  · simp [h, lvD]
  · have : lvD d k = false := by
      cases hl : lvD d k with
      | false => rfl
      | true => exact absurd (lv_lt hl) h
    rw [this]
    simp
    intro h2
    omega

def TrD (d : Dc) (r : Nat → Nat) : Prop := Tr (lvD d) (upD d) (insD d) (liD d) r ∧ ∀ k, 0 < k → lvD d k = true → 0 ≤ (nd d k).up

theorem ends_of {d : Dc} {r : Nat → Nat} (h : TrD d r) {R : Nat} (hR : ∀ k, lvD d k = true → r k ≤ R) : ∀ (f n : Nat), lvD d n = true → R < r n + f → Ends f d n
  | 0, n, hn, hf => by have := hR n hn; omega
  | f + 1, n, hn, hf => by
    have hk : ∀ s, ∀ k ∈ liD d n s, Ends f d k := by
      intro s k hk
      obtain ⟨_, h2, h3, h4, _⟩ := h.1.mem n s k hk
      have hr := h.1.rank k h3 h2
      rw [h4] at hr
      exact ends_of h hR f k h2 (by omega)
    exact ⟨lv_lt hn, hk true, hk false⟩

theorem all_desc {d : Dc} {r : Nat → Nat} (h : TrD d r) : ∀ (f n j : Nat), j ∈ all f d n → lvD d n = true → lvD d j = true ∧ desc (upD d) r n j
  | 0, n, j, hj, _ => by simp [all] at hj
  | f + 1, n, j, hj, hn => by
    rw [all, if_pos (by rw [isN_iff]; exact hn)] at hj
    have hk : ∀ s, ∀ k ∈ liD d n s, j ∈ all f d k → lvD d j = true ∧ desc (upD d) r n j := by
      intro s k hk hjk
      obtain ⟨_, h2, h3, h4, _⟩ := h.1.mem n s k hk
      obtain ⟨g1, g2, g3⟩ := all_desc h f k j hjk h2
      have hr := h.1.rank k h3 h2
      rw [h4] at hr
      refine ⟨g1, by omega, ?_⟩
      have e : r j - r n = (r j - r k) + 1 := by omega
      rw [e, anc_succ, g3, h4]
    simp only [List.mem_cons, List.mem_append, List.mem_flatMap] at hj
    rcases hj with rfl | ⟨a, ha, hja⟩ | ⟨a, ha, hja⟩
    · exact ⟨hn, desc_refl _⟩
    · exact hk true a ha hja
    · exact hk false a ha hja

theorem desc_all {d : Dc} {r : Nat → Nat} (h : TrD d r) : ∀ (i f n j : Nat), r j = r n + i → i < f → lvD d n = true → lvD d j = true → anc (upD d) i j = n → j ∈ all f d n
  | 0, f, n, j, _, hf, hn, _, ha => by
    obtain ⟨f, rfl⟩ : ∃ g, f = g + 1 := ⟨f - 1, by omega⟩
    rw [all, if_pos (by rw [isN_iff]; exact hn)]
    have : j = n := ha
    simp [this]
  | i + 1, f, n, j, hr, hf, hn, hj, ha => by
    obtain ⟨f, rfl⟩ : ∃ g, f = g + 1 := ⟨f - 1, by omega⟩
    rw [anc_succ] at ha
    obtain ⟨h1, h2⟩ := h.1.anc i j hj (by omega)
    have h3 : r (anc (upD d) i j) = r n + 1 := by omega
    have h0 : 0 < anc (upD d) i j := h.1.pos (by omega)
    have hm := h.1.par _ h0 h1
    rw [ha] at hm
    have hin := desc_all h i f (anc (upD d) i j) j (by omega) (by omega) h1 hj rfl
    rw [all, if_pos (by rw [isN_iff]; exact hn)]
    simp only [List.mem_cons, List.mem_append, List.mem_flatMap]
    cases hs : insD d (anc (upD d) i j) with
    | true => rw [hs] at hm; exact Or.inr (Or.inl ⟨_, hm, hin⟩)
    | false => rw [hs] at hm; exact Or.inr (Or.inr ⟨_, hm, hin⟩)

theorem flat_nodup {g : Nat → List Nat} : ∀ (l : List Nat), l.Nodup → (∀ a ∈ l, (g a).Nodup) → (∀ a ∈ l, ∀ b ∈ l, a ≠ b → ∀ x ∈ g a, x ∉ g b) → (l.flatMap g).Nodup
  | [], _, _, _ => by simp
  | a :: l, hn, h1, h2 => by
    rw [List.nodup_cons] at hn
    rw [List.flatMap_cons, List.nodup_append]
    refine ⟨h1 a (by simp), flat_nodup l hn.2 (fun b hb => h1 b (by simp [hb])) (fun b hb c hc => h2 b (by simp [hb]) c (by simp [hc])), ?_⟩
    intro x hx y hy e
    subst e
    rw [List.mem_flatMap] at hy
    obtain ⟨b, hb, hxb⟩ := hy
    exact h2 a (by simp) b (by simp [hb]) (fun e => hn.1 (by rw [e]; exact hb)) x hx hxb

theorem all_nodup {d : Dc} {r : Nat → Nat} (h : TrD d r) : ∀ (f n : Nat), lvD d n = true → (all f d n).Nodup
  | 0, n, _ => by simp [all]
  | f + 1, n, hn => by
    rw [all, if_pos (by rw [isN_iff]; exact hn)]
    have hk : ∀ s, ∀ k ∈ liD d n s, lvD d k = true ∧ r k = r n + 1 ∧ insD d k = s := by
      intro s k hk
      obtain ⟨_, h2, h3, h4, h5⟩ := h.1.mem n s k hk
      have hr := h.1.rank k h3 h2
      rw [h4] at hr
      exact ⟨h2, hr, h5⟩
    have hsame : ∀ a b x, lvD d a = true → lvD d b = true → r a = r b → x ∈ all f d a → x ∈ all f d b → a = b := by
      intro a b x ha hb hr hxa hxb
      obtain ⟨_, g1, g2⟩ := all_desc h f a x hxa ha
      obtain ⟨_, g3, g4⟩ := all_desc h f b x hxb hb
      rw [← g2, ← g4, hr]
    have hl : ∀ s, ((liD d n s).flatMap (all f d)).Nodup := fun s =>
      flat_nodup _ (h.1.nodup n s) (fun a ha => all_nodup h f a (hk s a ha).1) (fun a ha b hb hne x hx hxb => hne (hsame a b x (hk s a ha).1 (hk s b hb).1 (by rw [(hk s a ha).2.1, (hk s b hb).2.1]) hx hxb))
    rw [List.nodup_cons, List.nodup_append]
    refine ⟨?_, hl true, hl false, ?_⟩
    · intro hm
      rw [List.mem_append, List.mem_flatMap, List.mem_flatMap] at hm
      rcases hm with ⟨a, ha, hx⟩ | ⟨a, ha, hx⟩
      · have h1 := hk true a ha
        have h2 := (all_desc h f a n hx h1.1).2.1
        omega
      · have h1 := hk false a ha
        have h2 := (all_desc h f a n hx h1.1).2.1
        omega
    · intro x hx y hy e
      subst e
      rw [List.mem_flatMap] at hx hy
      obtain ⟨a, ha, hxa⟩ := hx
      obtain ⟨b, hb, hxb⟩ := hy
      have h1 := hk true a ha
      have h2 := hk false b hb
      have := hsame a b x h1.1 h2.1 (by rw [h1.2.1, h2.2.1]) hxa hxb
      subst this
      rw [h1.2.2] at h2
      exact absurd h2.2.2 (by decide)

theorem path_anc {d : Dc} {r : Nat → Nat} (h : TrD d r) : ∀ (f j : Nat), lvD d j = true → r j < f → (up0 : (nd d 0).up = -1) → path f d (j : Int) = (List.range (r j + 1)).map fun i => anc (upD d) i j
  | 0, j, _, hf, _ => by omega
  | f + 1, j, hj, hf, h0 => by
    rw [path, if_pos (by rw [isN_iff]; exact hj), Int.toNat_natCast]
    rw [List.range_succ_eq_map, List.map_cons, List.map_map]
    congr 1
    by_cases hj0 : j = 0
    · subst hj0
      rw [h.1.r0, h0]
      cases f with
      | zero => rfl
      | succ f => rw [path, if_neg (by simp [isN])]; rfl
    · have hr := h.1.rank j (by omega) hj
      have hu : (nd d j).up = ((upD d j : Nat) : Int) := by
        have := h.2 j (by omega) hj
        unfold upD
        omega
      rw [hu, path_anc h f (upD d j) (h.1.upLive (by omega) hj) (by omega) h0, hr]
      rfl

theorem rank_lt {d : Dc} {r : Nat → Nat} (h : TrD d r) {j : Nat} (hj : lvD d j = true) : r j < d.length := by
  have hn : ((List.range (r j + 1)).map fun i => anc (upD d) i j).Nodup := by
    unfold List.Nodup
    rw [List.pairwise_map]
    refine List.Pairwise.imp_of_mem ?_ List.pairwise_lt_range
    intro a b ha hb hab e
    simp at ha hb
    have h1 := (h.1.anc a j hj (by omega)).2
    have h2 := (h.1.anc b j hj (by omega)).2
    rw [e] at h1
    omega
  have := nodup_le d.length _ hn (fun x hx => by
    simp at hx
    obtain ⟨i, hi, rfl⟩ := hx
    exact lv_lt (h.1.anc i j hj (by omega)).1)
  simp at this
  omega

theorem pathOf_len {d : Dc} {r : Nat → Nat} (h : TrD d r) {j : Nat} (hj : lvD d j = true) (h0 : (nd d 0).up = -1) : (pathOf d (j : Int)).length = r j + 1 := by
  unfold pathOf
  rw [path_anc h _ j hj (by have := rank_lt h hj; omega) h0]
  simp

theorem within_desc {d : Dc} {r : Nat → Nat} (h : TrD d r) {j : Nat} (hj : lvD d j = true) (h0 : (nd d 0).up = -1) (k : Nat) : within d (j : Int) (k : Int) = false ↔ ¬ desc (upD d) r k j := by
  unfold within pathOf
  rw [path_anc h _ j hj (by have := rank_lt h hj; omega) h0]
  rw [List.any_eq_false]
  constructor
  · intro hh ⟨h1, h2⟩
    have := hh k (by simp; exact ⟨r j - r k, by omega, h2⟩)
    simp at this
  · intro hh x hx
    simp at hx
    obtain ⟨i, hi, rfl⟩ := hx
    simp
    intro e
    have e' : anc (upD d) i j = k := by omega
    apply hh
    have := (h.1.anc i j hj (by omega)).2
    rw [e'] at this
    exact ⟨by omega, by have : r j - r k = i := by omega
                        rw [this]; exact e'⟩

theorem deepL_ge (g : Nat → Nat) : ∀ (l : List Nat) (m : Nat), m ≤ deepL g l m ∧ ∀ k ∈ l, 1 + g k ≤ deepL g l m
  | [], m => ⟨Nat.le_refl _, by simp⟩
  | a :: l, m => by
    have := deepL_ge g l (max m (1 + g a))
    refine ⟨by show m ≤ deepL g l (max m (1 + g a)); omega, ?_⟩
    intro k hk
    rw [List.mem_cons] at hk
    show 1 + g k ≤ deepL g l (max m (1 + g a))
    rcases hk with rfl | hk
    · omega
    · exact this.2 k hk

theorem deepest_ge {d : Dc} {r : Nat → Nat} (h : TrD d r) : ∀ (i f n j : Nat), r j = r n + i → i ≤ f → lvD d j = true → anc (upD d) i j = n → i ≤ deepest f d n
  | 0, _, _, _, _, _, _, _ => Nat.zero_le _
  | i + 1, f, n, j, hr, hf, hj, ha => by
    obtain ⟨f, rfl⟩ : ∃ g, f = g + 1 := ⟨f - 1, by omega⟩
    rw [anc_succ] at ha
    obtain ⟨h1, h2⟩ := h.1.anc i j hj (by omega)
    have h0 : 0 < anc (upD d) i j := h.1.pos (by omega)
    have hm := h.1.par _ h0 h1
    rw [ha] at hm
    have hin := deepest_ge h i f (anc (upD d) i j) j (by omega) (by omega) hj rfl
    rw [deepest]
    cases hs : insD d (anc (upD d) i j) with
    | true =>
      rw [hs] at hm
      have g1 := (deepL_ge (deepest f d) (nd d n).shadow 0).2 _ hm
      have g2 := (deepL_ge (deepest f d) (nd d n).kids (deepL (deepest f d) (nd d n).shadow 0)).1
      omega
    | false =>
      rw [hs] at hm
      have g2 := (deepL_ge (deepest f d) (nd d n).kids (deepL (deepest f d) (nd d n).shadow 0)).2 _ hm
      omega

end Tn
end Go.Proofs.YtbinbojicmhdlaeGreatDoor

/-
  PLAIN MATHEMATICS: what the changes make of a tree is a tree.
-/
namespace Go.Proofs.YtbinbojicmhdlaeGreatDoor
namespace Tn

theorem nd_withd (d : Dc) (k : Nat) (n : Nd) (hk : k ≤ d.length) (j : Nat) : nd (withd d k n) j = if j = k then n else nd d j := by
  unfold withd nd
  by_cases h : k = d.length
  · rw [if_pos h]
    by_cases hj : j < d.length
    · rw [List.getElem?_append_left hj, if_neg (by omega)]
    · rw [List.getElem?_append_right (by omega)]
      by_cases hj2 : j = k
      · rw [if_pos hj2]
        have : j - d.length = 0 := by omega
        rw [this]
        rfl
      · rw [if_neg hj2, List.getElem?_eq_none (l := [n]) (by simp; omega), List.getElem?_eq_none (by omega)]
  · rw [if_neg h, List.getElem?_set]
    by_cases hj : k = j
    · subst hj
      rw [if_pos rfl, if_pos rfl, if_pos (by omega)]
      rfl
    · rw [if_neg hj, if_neg (fun e => hj e.symm)]

theorem mem_insertAt {l : List Nat} {a k x : Nat} : x ∈ insertAt l a k ↔ x = k ∨ x ∈ l := by
  unfold insertAt
  rw [List.mem_append, List.mem_append, List.mem_singleton]
  constructor
  · rintro ((h | h) | h)
    · exact Or.inr (List.mem_of_mem_take h)
    · exact Or.inl h
    · exact Or.inr (List.mem_of_mem_drop h)
  · rintro (h | h)
    · exact Or.inl (Or.inr h)
    · rw [← List.take_append_drop a l, List.mem_append] at h
      rcases h with h | h
      · exact Or.inl (Or.inl h)
      · exact Or.inr h
theorem nodup_insertAt {l : List Nat} {a k : Nat} (hn : l.Nodup) (hk : k ∉ l) : (insertAt l a k).Nodup := by
  unfold insertAt
  have h := hn
  rw [← List.take_append_drop a l, List.nodup_append] at h
  obtain ⟨h1, h2, h3⟩ := h
  rw [List.nodup_append, List.nodup_append]
  refine ⟨⟨h1, by simp, ?_⟩, h2, ?_⟩
  · intro x hx y hy e
    simp at hy
    subst e hy
    exact hk (List.mem_of_mem_take hx)
  · intro x hx y hy e
    rw [List.mem_append, List.mem_singleton] at hx
    subst e
    rcases hx with hx | hx
    · exact h3 x hx x hy rfl
    · subst hx
      exact hk (List.mem_of_mem_drop hy)
theorem len_insertAt {l : List Nat} {a k : Nat} : (insertAt l a k).length = l.length + 1 := by
  unfold insertAt
  simp
  omega
theorem mem_without {l : List Nat} {k x : Nat} : x ∈ without l k ↔ x ∈ l ∧ x ≠ k := by
  unfold without
  simp
theorem without_len {l : List Nat} {k : Nat} : (without l k).length ≤ l.length := List.length_filter_le _ _

variable {lv : Nat → Bool} {up : Nat → Nat} {ins : Nat → Bool} {li : Nat → Bool → List Nat} {r : Nat → Nat}

/-- a node is moved: lists without it, and one with it -/
theorem Tr.move (h : Tr lv up ins li r) {k t : Nat} (hk0 : 0 < k) (hk : lv k = true) (ht : lv t = true) (hnd : ¬ desc up r k t)
    {lv' : Nat → Bool} {up' : Nat → Nat} {ins' : Nat → Bool} {li' : Nat → Bool → List Nat} (r' : Nat → Nat)
    (e1 : ∀ j, lv' j = lv j) (e2 : ∀ j, j ≠ k → up' j = up j) (e2k : up' k = t) (e3 : ∀ j, j ≠ k → ins' j = ins j) {s0 : Bool} (e3k : ins' k = s0)
    (e4 : ∀ u s x, x ∈ li' u s ↔ (x ∈ li u s ∧ x ≠ k) ∨ (u = t ∧ s = s0 ∧ x = k)) (e5 : ∀ u s, (li' u s).Nodup)
    (e6 : ∀ j, desc up r k j → r' j = r j - r k + r t + 1) (e7 : ∀ j, ¬ desc up r k j → r' j = r j) : Tr lv' up' ins' li' r' := by
  refine ⟨by rw [e1]; exact h.root, ?_, ?_, e5, ?_, ?_⟩
  · intro u s x hx
    rcases (e4 u s x).mp hx with ⟨hx, hne⟩ | ⟨rfl, rfl, rfl⟩
    · obtain ⟨h1, h2, h3, h4, h5⟩ := h.mem u s x hx
      exact ⟨by rw [e1]; exact h1, by rw [e1]; exact h2, h3, by rw [e2 x hne]; exact h4, by rw [e3 x hne]; exact h5⟩
    · exact ⟨by rw [e1]; exact ht, by rw [e1]; exact hk, hk0, e2k, e3k⟩
  · intro j hj0 hj
    rw [e1] at hj
    rw [e4]
    by_cases hjk : j = k
    · exact Or.inr ⟨by rw [hjk]; exact e2k, by rw [hjk]; exact e3k, hjk⟩
    · rw [e2 j hjk, e3 j hjk]
      exact Or.inl ⟨h.par j hj0 hj, hjk⟩
  · intro j hj0 hj
    rw [e1] at hj
    by_cases hjk : j = k
    · subst hjk
      rw [e2k, e6 j (desc_refl _), e7 t hnd]
      omega
    · rw [e2 j hjk]
      have hr := h.rank j hj0 hj
      by_cases hd : desc up r k j
      · have hd2 := (h.descUp hj0 hj hjk).mp hd
        rw [e6 j hd, e6 _ hd2]
        have := hd2.1
        omega
      · have hd2 := fun x => hd ((h.descUp hj0 hj hjk).mpr x)
        rw [e7 j hd, e7 _ hd2, hr]
  · rw [e7 0 (fun hd => by have := h.descRoot hd; omega)]
    exact h.r0

/-- a node, and all in it, go -/
theorem Tr.remove (h : Tr lv up ins li r) {k : Nat} (hk0 : 0 < k)
    {lv' : Nat → Bool} {up' : Nat → Nat} {ins' : Nat → Bool} {li' : Nat → Bool → List Nat}
    (e1 : ∀ j, lv' j = true ↔ lv j = true ∧ ¬ desc up r k j) (e2 : ∀ j, lv' j = true → up' j = up j) (e3 : ∀ j, lv' j = true → ins' j = ins j)
    (e4 : ∀ u s x, x ∈ li' u s ↔ lv' u = true ∧ x ∈ li u s ∧ x ≠ k) (e5 : ∀ u s, (li' u s).Nodup) : Tr lv' up' ins' li' r := by
  refine ⟨(e1 0).mpr ⟨h.root, fun hd => by have := h.descRoot hd; omega⟩, ?_, ?_, e5, ?_, h.r0⟩
  · intro u s x hx
    obtain ⟨hu, hx, hne⟩ := (e4 u s x).mp hx
    obtain ⟨h1, h2, h3, h4, h5⟩ := h.mem u s x hx
    have hlx : lv' x = true := (e1 x).mpr ⟨h2, fun hd => by
      have := (h.descUp h3 h2 hne).mp hd
      rw [h4] at this
      exact ((e1 u).mp hu).2 this⟩
    exact ⟨hu, hlx, h3, by rw [e2 x hlx]; exact h4, by rw [e3 x hlx]; exact h5⟩
  · intro j hj0 hj
    obtain ⟨h1, h2⟩ := (e1 j).mp hj
    have hne : j ≠ k := fun e => h2 (by rw [e]; exact desc_refl _)
    rw [e4, e2 j hj, e3 j hj]
    exact ⟨(e1 _).mpr ⟨h.upLive hj0 h1, fun hd => h2 ((h.descUp hj0 h1 hne).mpr hd)⟩, h.par j hj0 h1, hne⟩
  · intro j hj0 hj
    rw [e2 j hj]
    exact h.rank j hj0 ((e1 j).mp hj).1

/-- a node is made -/
theorem Tr.make (h : Tr lv up ins li r) {k m : Nat} (hk : lv k = false) (hm : lv m = true)
    {lv' : Nat → Bool} {up' : Nat → Nat} {ins' : Nat → Bool} {li' : Nat → Bool → List Nat} (r' : Nat → Nat) {s0 : Bool}
    (e1 : ∀ j, j ≠ k → lv' j = lv j) (e1k : lv' k = true) (e2 : ∀ j, j ≠ k → up' j = up j) (e2k : up' k = m) (e3 : ∀ j, j ≠ k → ins' j = ins j) (e3k : ins' k = s0)
    (e4 : ∀ u s x, x ∈ li' u s ↔ x ∈ li u s ∨ (u = m ∧ s = s0 ∧ x = k)) (e5 : ∀ u s, (li' u s).Nodup)
    (e6 : r' k = r m + 1) (e7 : ∀ j, j ≠ k → r' j = r j) : Tr lv' up' ins' li' r' := by
  have hk0 : k ≠ 0 := fun e => by rw [e, h.root] at hk; cases hk
  have hmk : m ≠ k := fun e => by rw [e, hk] at hm; cases hm
  refine ⟨by rw [e1 0 (Ne.symm hk0)]; exact h.root, ?_, ?_, e5, ?_, by rw [e7 0 (Ne.symm hk0)]; exact h.r0⟩
  · intro u s x hx
    rcases (e4 u s x).mp hx with hx | ⟨rfl, rfl, rfl⟩
    · obtain ⟨h1, h2, h3, h4, h5⟩ := h.mem u s x hx
      have hu : u ≠ k := fun e => by rw [e, hk] at h1; cases h1
      have hxk : x ≠ k := fun e => by rw [e, hk] at h2; cases h2
      exact ⟨by rw [e1 u hu]; exact h1, by rw [e1 x hxk]; exact h2, h3, by rw [e2 x hxk]; exact h4, by rw [e3 x hxk]; exact h5⟩
    · exact ⟨by rw [e1 u hmk]; exact hm, e1k, by omega, e2k, e3k⟩
  · intro j hj0 hj
    rw [e4]
    by_cases hjk : j = k
    · exact Or.inr ⟨by rw [hjk]; exact e2k, by rw [hjk]; exact e3k, hjk⟩
    · rw [e1 j hjk] at hj
      rw [e2 j hjk, e3 j hjk]
      exact Or.inl (h.par j hj0 hj)
  · intro j hj0 hj
    by_cases hjk : j = k
    · subst hjk
      rw [e2k, e6, e7 m hmk]
    · rw [e1 j hjk] at hj
      have hu : up j ≠ k := fun e => by
        have := h.upLive hj0 hj
        rw [e, hk] at this
        cases this
      rw [e2 j hjk, e7 j hjk, e7 _ hu]
      exact h.rank j hj0 hj

end Tn
end Go.Proofs.YtbinbojicmhdlaeGreatDoor

/-
  PLAIN MATHEMATICS: documents as they are, and stay.
-/
namespace Go.Proofs.YtbinbojicmhdlaeGreatDoor
namespace Tn

structure Good (d : Dc) : Prop where
  len : 0 < d.length ∧ d.length ≤ 60
  tr : ∃ r, TrD d r ∧ ∀ k, lvD d k = true → r k ≤ 16
  rootUp : (nd d 0).up = -1
  dead : ∀ k, lvD d k = false → nd d k = zero
  small : ∀ k s, (liD d k s).length ≤ 12
  attrs : ∀ k, (nd d k).attrs.length ≤ 8
  last : lvD d (d.length - 1) = true

theorem nd_far {d : Dc} {k : Nat} (h : d.length ≤ k) : nd d k = zero := by
  unfold nd
  rw [List.getElem?_eq_none h]
  rfl

theorem freeAt_spec (d : Dc) : ∀ f, f ≤ d.length → freeAt d f ≤ d.length ∧ d.length - f ≤ freeAt d f ∧ lvD d (freeAt d f) = false
  | 0, _ => by
    refine ⟨Nat.le_refl _, by rw [freeAt]; omega, ?_⟩
    rw [freeAt]
    unfold lvD
    rw [nd_far (Nat.le_refl _)]
    rfl
  | f + 1, h => by
    rw [freeAt]
    split
    · have := freeAt_spec d f (by omega)
      exact ⟨this.1, by omega, this.2.2⟩
    · rename_i hl
      exact ⟨by omega, Nat.le_refl _, by simpa [lvD] using hl⟩
theorem free_spec (d : Dc) : free d ≤ d.length ∧ lvD d (free d) = false := ⟨(freeAt_spec d _ (Nat.le_refl _)).1, (freeAt_spec d _ (Nat.le_refl _)).2.2⟩

theorem li_zero (s : Bool) : listOf zero s = [] := by cases s <;> rfl

/-- the same but for what makes no tree -/
theorem good_same {d : Dc} (h : Good d) {k : Nat} (hk : k < d.length) {n : Nd} (e1 : n.live = (nd d k).live) (e2 : n.up = (nd d k).up) (e3 : n.kids = (nd d k).kids) (e4 : n.shadow = (nd d k).shadow) (e5 : n.inS = (nd d k).inS)
    (hlv : lvD d k = true) (ha : n.attrs.length ≤ 8) : Good (withd d k n) := by
  have hnd := nd_withd d k n (Nat.le_of_lt hk)
  have hl : (withd d k n).length = d.length := by unfold withd; rw [if_neg (by omega)]; simp
  have f1 : lvD (withd d k n) = lvD d := by
    funext j
    unfold lvD
    rw [hnd]
    split
    · rename_i e; rw [e1, e]
    · rfl
  have f2 : ∀ j, (nd (withd d k n) j).up = (nd d j).up := by
    intro j
    rw [hnd]
    split
    · rename_i e; rw [e2, e]
    · rfl
  have f2' : upD (withd d k n) = upD d := by
    funext j
    unfold upD
    rw [f2]
  have f3 : insD (withd d k n) = insD d := by
    funext j
    unfold insD
    rw [hnd]
    split
    · rename_i e; rw [e5, e]
    · rfl
  have f4 : liD (withd d k n) = liD d := by
    funext j s
    unfold liD listOf
    rw [hnd]
    by_cases e : j = k
    · rw [if_pos e, e3, e4, e]
    · rw [if_neg e]
  obtain ⟨r, hr, hR⟩ := h.tr
  refine ⟨by rw [hl]; exact h.len, ⟨r, ⟨?_, ?_⟩, ?_⟩, by rw [f2]; exact h.rootUp, ?_, ?_, ?_, ?_⟩
  · rw [f1, f2', f3, f4]; exact hr.1
  · intro j h0 hj
    rw [f1] at hj
    rw [f2]
    exact hr.2 j h0 hj
  · intro j hj
    rw [f1] at hj
    exact hR j hj
  · intro j hj
    rw [f1] at hj
    rw [hnd]
    split
    · rename_i e
      rw [e, hlv] at hj
      cases hj
    · exact h.dead j hj
  · intro j s
    rw [f4]
    exact h.small j s
  · intro j
    rw [hnd]
    split
    · exact ha
    · exact h.attrs j
  · rw [hl, f1]
    exact h.last

/-- before its last nodes go -/
structure Mid (d : Dc) : Prop where
  len : 0 < d.length ∧ d.length ≤ 60
  tr : ∃ r, TrD d r ∧ ∀ k, lvD d k = true → r k ≤ 16
  rootUp : (nd d 0).up = -1
  dead : ∀ k, lvD d k = false → nd d k = zero
  small : ∀ k s, (liD d k s).length ≤ 12
  attrs : ∀ k, (nd d k).attrs.length ≤ 8

theorem Good.mid {d : Dc} (h : Good d) : Mid d := ⟨h.len, h.tr, h.rootUp, h.dead, h.small, h.attrs⟩

theorem lastLive_spec (d : Dc) (h0 : lvD d 0 = true) : ∀ k, 1 ≤ lastLive d k ∧ lastLive d k ≤ max 1 k ∧ lvD d (lastLive d k - 1) = true ∧ ∀ j, j < k → lvD d j = true → j < lastLive d k
  | 0 => ⟨by simp [lastLive], by simp [lastLive], by simpa [lastLive] using h0, fun j hj => by omega⟩
  | k + 1 => by
    obtain ⟨h1, h2, h3, h4⟩ := lastLive_spec d h0 k
    rw [lastLive]
    split
    · rename_i hc
      refine ⟨by omega, by omega, by simpa [lvD] using hc.1, fun j hj _ => hj⟩
    · rename_i hc
      refine ⟨h1, by omega, h3, fun j hj hl => ?_⟩
      by_cases hjk : j < k
      · exact h4 j hjk hl
      · have : j = k := by omega
        subst this
        apply Classical.byContradiction
        intro hn
        exact hc ⟨hl, by omega⟩

theorem good_trim {d : Dc} (h : Mid d) : Good (trimD d) := by
  obtain ⟨r, hr, hR⟩ := h.tr
  have h0 : lvD d 0 = true := hr.1.root
  obtain ⟨h1, h2, h3, h4⟩ := lastLive_spec d h0 d.length
  have hnd : ∀ j, nd (trimD d) j = nd d j := by
    intro j
    by_cases hj : j < lastLive d d.length
    · unfold trimD nd
      rw [List.getElem?_take_of_lt hj]
    · have hz : nd (trimD d) j = zero := by
        apply nd_far
        unfold trimD
        simp
        omega
      rw [hz]
      cases hl : lvD d j with
      | true => exact absurd (h4 j (lv_lt hl) hl) hj
      | false => exact (h.dead j hl).symm
  have hl : (trimD d).length = lastLive d d.length := by
    unfold trimD
    have := h.len
    simp
    omega
  have f1 : lvD (trimD d) = lvD d := by funext j; unfold lvD; rw [hnd]
  have f2 : upD (trimD d) = upD d := by funext j; unfold upD; rw [hnd]
  have f3 : insD (trimD d) = insD d := by funext j; unfold insD; rw [hnd]
  have f4 : liD (trimD d) = liD d := by funext j s; unfold liD; rw [hnd]
  refine ⟨by rw [hl]; have := h.len; omega, ⟨r, ⟨by rw [f1, f2, f3, f4]; exact hr.1, fun k => by rw [f1, hnd]; exact hr.2 k⟩, by rw [f1]; exact hR⟩, by rw [hnd]; exact h.rootUp, fun k => by rw [f1, hnd]; exact h.dead k,
    fun k s => by rw [f4]; exact h.small k s, fun k => by rw [hnd]; exact h.attrs k, by rw [f1, hl]; exact h3⟩

end Tn
end Go.Proofs.YtbinbojicmhdlaeGreatDoor

/-
  PLAIN MATHEMATICS: moved, removed, made.
-/
namespace Go.Proofs.YtbinbojicmhdlaeGreatDoor
namespace Tn

theorem put1_nd (d : Dc) (k m : Nat) (b : Int) (s : Bool) (hm : m < d.length) (j : Nat) :
    nd (put1 d k m b s) j = if j = m then setList (nd d m) s (insertAt (listOf (nd d m) s) (place (listOf (nd d m) s) b).toNat k) else nd d j := by
  unfold put1
  rw [nd_withd _ _ _ (Nat.le_of_lt hm)]

theorem put1_len (d : Dc) (k m : Nat) (b : Int) (s : Bool) (hm : m < d.length) : (put1 d k m b s).length = d.length := by
  unfold put1 withd
  rw [if_neg (by omega)]
  simp

structure PutF (d : Dc) (k m : Nat) (b : Int) (s : Bool) : Prop where
  lv : lvD (put1 d k m b s) = lvD d
  up : ∀ j, (nd (put1 d k m b s) j).up = (nd d j).up
  ins : insD (put1 d k m b s) = insD d
  attrs : ∀ j, (nd (put1 d k m b s) j).attrs = (nd d j).attrs
  li : ∀ j t, liD (put1 d k m b s) j t = if j = m ∧ t = s then insertAt (liD d m s) (place (liD d m s) b).toNat k else liD d j t
  other : ∀ j, j ≠ m → nd (put1 d k m b s) j = nd d j

theorem putF (d : Dc) (k m : Nat) (b : Int) (s : Bool) (hm : m < d.length) : PutF d k m b s := by
  have h := put1_nd d k m b s hm
  have g1 : ∀ (n : Nd) l, (setList n s l).live = n.live ∧ (setList n s l).up = n.up ∧ (setList n s l).inS = n.inS ∧ (setList n s l).attrs = n.attrs := by
    intro n l
    cases s <;> exact ⟨rfl, rfl, rfl, rfl⟩
  refine ⟨?_, ?_, ?_, ?_, ?_, ?_⟩
  · funext j
    unfold lvD
    rw [h]
    by_cases e : j = m
    · rw [if_pos e, (g1 _ _).1, e]
    · rw [if_neg e]
  · intro j
    rw [h]
    by_cases e : j = m
    · rw [if_pos e, (g1 _ _).2.1, e]
    · rw [if_neg e]
  · funext j
    unfold insD
    rw [h]
    by_cases e : j = m
    · rw [if_pos e, (g1 _ _).2.2.1, e]
    · rw [if_neg e]
  · intro j
    rw [h]
    by_cases e : j = m
    · rw [if_pos e, (g1 _ _).2.2.2, e]
    · rw [if_neg e]
  · intro j t
    unfold liD
    rw [h]
    by_cases e : j = m
    · subst e
      rw [if_pos rfl]
      by_cases e2 : t = s
      · subst e2
        rw [if_pos ⟨rfl, rfl⟩]
        unfold setList listOf
        cases t <;> rfl
      · rw [if_neg (fun x => e2 x.2)]
        unfold setList listOf
        cases t <;> cases s <;> first | rfl | exact absurd rfl e2
    · rw [if_neg e, if_neg (fun x => e x.1)]
  · intro j e
    rw [h, if_neg e]

/-- a document whose node k has been taken out, and is told to be elsewhere -/
structure Off (d d2 : Dc) (k t : Nat) (s0 : Bool) : Prop where
  len : d2.length = d.length
  lv : lvD d2 = lvD d
  up : ∀ j, j ≠ k → (nd d2 j).up = (nd d j).up
  upk : (nd d2 k).up = (t : Int)
  ins : ∀ j, j ≠ k → insD d2 j = insD d j
  insk : insD d2 k = s0
  attrs : ∀ j, (nd d2 j).attrs = (nd d j).attrs
  mem : ∀ j s x, x ∈ liD d2 j s ↔ x ∈ liD d j s ∧ x ≠ k
  nodup : ∀ j s, (liD d2 j s).Nodup
  le : ∀ j s, (liD d2 j s).length ≤ (liD d j s).length
  dead : ∀ j, lvD d2 j = false → nd d2 j = zero

theorem off_move {d : Dc} (h : Good d) {k t : Nat} (hk0 : 0 < k) (hk : lvD d k = true) : Off d (withd (takeD d k) k { nd d k with up := (t : Int), inS := false }) k t false := by
  obtain ⟨r, hr, hR⟩ := h.tr
  have hkl := lv_lt hk
  have hu := hr.1.upLive hk0 hk
  have hul := lv_lt hu
  have hup : (nd d k).up.toNat = upD d k := rfl
  have hne : upD d k ≠ k := by
    intro e
    have := hr.1.rank k hk0 hk
    rw [e] at this
    omega
  have tl : (takeD d k).length = d.length := by
    unfold takeD withd
    rw [hup, if_neg (by omega)]
    simp
  have n1 : ∀ j, nd (takeD d k) j = if j = upD d k then { nd d (upD d k) with kids := without (nd d (upD d k)).kids k, shadow := without (nd d (upD d k)).shadow k } else nd d j := by
    intro j
    unfold takeD
    rw [nd_withd _ _ _ (by rw [hup]; omega), hup]
  have n2 : ∀ j, nd (withd (takeD d k) k { nd d k with up := (t : Int), inS := false }) j = if j = k then { nd d k with up := (t : Int), inS := false } else nd (takeD d k) j := by
    intro j
    rw [nd_withd _ _ _ (by rw [tl]; omega)]
  have knot : ∀ j s, j ≠ upD d k → k ∉ liD d j s := by
    intro j s hj hm
    exact hj (hr.1.mem j s k hm).2.2.2.1.symm
  have l2 : ∀ j s, liD (withd (takeD d k) k { nd d k with up := (t : Int), inS := false }) j s = if j = upD d k then without (liD d j s) k else liD d j s := by
    intro j s
    unfold liD
    rw [n2]
    by_cases e : j = k
    · subst e
      rw [if_pos rfl, if_neg (Ne.symm hne)]
      unfold listOf
      cases s <;> rfl
    · rw [if_neg e, n1]
      by_cases e2 : j = upD d k
      · rw [if_pos e2, if_pos e2, e2]
        unfold listOf
        cases s <;> rfl
      · rw [if_neg e2, if_neg e2]
  refine ⟨?_, ?_, ?_, ?_, ?_, ?_, ?_, ?_, ?_, ?_, ?_⟩
  · unfold withd
    rw [if_neg (by omega)]
    simp [tl]
  · funext j
    unfold lvD
    rw [n2]
    by_cases e : j = k
    · rw [if_pos e, e]
    · rw [if_neg e, n1]
      by_cases e2 : j = upD d k
      · rw [if_pos e2, e2]
      · rw [if_neg e2]
  · intro j e
    rw [n2, if_neg e, n1]
    by_cases e2 : j = upD d k
    · rw [if_pos e2, e2]
    · rw [if_neg e2]
  · rw [n2, if_pos rfl]
  · intro j e
    unfold insD
    rw [n2, if_neg e, n1]
    by_cases e2 : j = upD d k
    · rw [if_pos e2, e2]
    · rw [if_neg e2]
  · unfold insD
    rw [n2, if_pos rfl]
  · intro j
    rw [n2]
    by_cases e : j = k
    · rw [if_pos e, e]
    · rw [if_neg e, n1]
      by_cases e2 : j = upD d k
      · rw [if_pos e2, e2]
      · rw [if_neg e2]
  · intro j s x
    rw [l2]
    by_cases e : j = upD d k
    · rw [if_pos e, mem_without]
    · rw [if_neg e]
      exact ⟨fun hx => ⟨hx, fun ex => knot j s e (by rw [← ex]; exact hx)⟩, fun hx => hx.1⟩
  · intro j s
    rw [l2]
    by_cases e : j = upD d k
    · rw [if_pos e]
      exact (hr.1.nodup j s).filter _
    · rw [if_neg e]
      exact hr.1.nodup j s
  · intro j s
    rw [l2]
    by_cases e : j = upD d k
    · rw [if_pos e]
      exact without_len
    · rw [if_neg e]
      exact Nat.le_refl _
  · intro j hj
    have hlj : lvD d j = false := by
      unfold lvD at hj ⊢
      rw [n2] at hj
      by_cases e : j = k
      · rw [if_pos e] at hj
        rw [e]
        exact hj
      · rw [if_neg e, n1] at hj
        by_cases e2 : j = upD d k
        · rw [if_pos e2] at hj
          rw [e2]
          exact hj
        · rw [if_neg e2] at hj
          exact hj
    have e : j ≠ k := fun e => by rw [e, hk] at hlj; cases hlj
    have e2 : j ≠ upD d k := fun e => by rw [e, hu] at hlj; cases hlj
    rw [n2, if_neg e, n1, if_neg e2]
    exact h.dead j hlj

open Classical in
/-- moved: a tree, whatever the place -/
theorem move_tr {d d2 : Dc} {r : Nat → Nat} (hr : TrD d r) {k t : Nat} {s0 : Bool} (hk0 : 0 < k) (hk : lvD d k = true) (ht : lvD d t = true) (hnd : ¬ desc (upD d) r k t) (o : Off d d2 k t s0) (b : Int) :
    TrD (put1 d2 k t b s0) (fun j => if desc (upD d) r k j then r j - r k + r t + 1 else r j) := by
  have htl : t < d2.length := by rw [o.len]; exact lv_lt ht
  have p := putF d2 k t b s0 htl
  have hkt : t ≠ k := fun e => hnd (by rw [e]; exact desc_refl _)
  have hknot : ∀ j s, k ∉ liD d2 j s := fun j s hm => ((o.mem j s k).mp hm).2 rfl
  refine ⟨hr.1.move hk0 hk ht hnd (s0 := s0) _ ?_ ?_ ?_ ?_ ?_ ?_ ?_ ?_ ?_, ?_⟩
  · intro j
    rw [p.lv, o.lv]
  · intro j e
    unfold upD
    rw [p.up, o.up j e]
  · unfold upD
    rw [p.up, o.upk]
    simp
  · intro j e
    rw [p.ins, o.ins j e]
  · rw [p.ins, o.insk]
  · intro j s x
    rw [p.li]
    by_cases e : j = t ∧ s = s0
    · rw [if_pos e, mem_insertAt, o.mem, ← e.1, ← e.2]
      constructor
      · rintro (h1 | h1)
        · exact Or.inr ⟨rfl, rfl, h1⟩
        · exact Or.inl h1
      · rintro (h1 | ⟨_, _, h1⟩)
        · exact Or.inr h1
        · exact Or.inl h1
    · rw [if_neg e, o.mem]
      exact ⟨Or.inl, fun h1 => h1.elim id (fun h2 => absurd ⟨h2.1, h2.2.1⟩ e)⟩
  · intro j s
    rw [p.li]
    by_cases e : j = t ∧ s = s0
    · rw [if_pos e]
      exact nodup_insertAt (o.nodup _ _) (hknot _ _)
    · rw [if_neg e]
      exact o.nodup j s
  · intro j hj
    show (if _ then _ else _) = _
    rw [if_pos hj]
  · intro j hj
    show (if _ then _ else _) = _
    rw [if_neg hj]
  · intro j h0 hj
    rw [p.lv, o.lv] at hj
    rw [p.up]
    by_cases e : j = k
    · rw [e, o.upk]
      omega
    · rw [o.up j e]
      exact hr.2 j h0 hj

end Tn
end Go.Proofs.YtbinbojicmhdlaeGreatDoor
