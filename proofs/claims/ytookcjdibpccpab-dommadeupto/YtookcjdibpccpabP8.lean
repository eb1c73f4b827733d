/-
  OWN WORK: Dpa, Dpb, Dpc, Dpd, Dmv, Drm, Opu.
-/
import Derived.Test.YtookcjdibpccpabP7
/-
  THE WALK of dom.put, in a document of the call's own.
-/
namespace Go.Proofs.Ytookcjdibpccpab
open Go.RowKit

set_option maxHeartbeats 6400000 in
set_option maxRecDepth 100000 in
theorem dput_Atfalse {w : World} {B g c : Nat} {rs : List Raw} {d : Tn.Dc} (h : Owned w B g c rs d) (hB : B ≤ w.heap.size) {n m : Nat} (hn : n < rs.length) (hm : m < rs.length) (hls : ∀ s, (Tn.liD d m s).length ≤ 1000) (x : Nat)
    (hT : 0 ≤ putAt (Tn.listOf (Tn.nd d m) false) (x : Int) → (Tn.listOf (Tn.nd d m) false).length < 12 → Tame (putDoc d n m (x : Int) false) ∧ (∀ j s, (Tn.liD (putDoc d n m (x : Int) false) j s).length ≤ 1000) ∧ Tn.lvD (putDoc d n m (x : Int) false) n = true) :
    Calls Try.prog 78 #[.slice (some ⟨g, 0, none⟩) rs.length c, .int .i64 (n : Int), .int .i64 (m : Int), .int .i64 (x : Int), .bool false] w fun e w' => e = .returned (.int .i64 (putCode d n m (x : Int) false)) ∧ Below B w w' ∧ (putCode d n m (x : Int) false = 0 → ∃ rs', rs'.length = rs.length ∧ Owned w' B g c rs' (putDoc d n m (x : Int) false) ∧ Fr g rs w g rs' w') := by
  have h0 : 0 < rs.length := by omega
  obtain ⟨hBg, hgl, hfz⟩ := h.at h0
  have hnd : n < d.length := by rw [← h.len]; exact hn
  have hmd : m < d.length := by rw [← h.len]; exact hm
  have W1 : Below w.heap.size w (w.alloc (.cells #[.slice (some ⟨g, 0, none⟩) rs.length c] 25)) := (Below.refl _ _).alloc (Nat.le_refl _) _
  have O1 : Hid (Owned (w.alloc (.cells #[.slice (some ⟨g, 0, none⟩) rs.length c] 25)) B g c rs d) := h.below W1 (Nat.le_refl _)
  have D1 : Hid (DocAt (w.alloc (.cells #[.slice (some ⟨g, 0, none⟩) rs.length c] 25)) g 0 c rs d) := O1.out.doc h0
  have FA : Fr g rs w g rs (w.alloc (.cells #[.slice (some ⟨g, 0, none⟩) rs.length c] 25)) := (Fr.refl g rs w).below W1
  have BA : Below B w (w.alloc (.cells #[.slice (some ⟨g, 0, none⟩) rs.length c] 25)) := (Below.refl B w).alloc hB _
  have hk0 := cell_box w (.slice (some ⟨g, 0, none⟩) rs.length c) (t := 25)
  have hlowK : ∀ k (hk : k < rs.length) t, blk rs[k] t ≠ some w.heap.size := fun k hk t e => by have := h.low k hk t _ e; omega
  have hKA : w.heap.size < (w.alloc (.cells #[.slice (some ⟨g, 0, none⟩) rs.length c] 25)).heap.size := by simp
  have hlist : OwnI (w.alloc (.cells #[.slice (some ⟨g, 0, none⟩) rs.length c] 25)) B (.slice rs[m].k.p rs[m].k.n rs[m].k.c) (Tn.nd d m).kids := by rw [nd_at hmd]; exact (O1.out.nds m hm hmd).kids
  have hL := (rowN_at O1.out.row m hm).2.1
  have hl : (Tn.nd d m).kids.length ≤ 1000 := hls false
  have hKn : rs[m].k.n = (Tn.nd d m).kids.length := hl_of (ints_of_owns hlist)
  have PC : Hid (putCode d n m (x : Int) false = if putAt (Tn.nd d m).kids (x : Int) < 0 then 8 else if 12 ≤ (Tn.nd d m).kids.length then 5 else if (Tn.all Tn.fuel (putDoc d n m (x : Int) false) n).any (tooDeep (putDoc d n m (x : Int) false)) then 3 else 0) := rfl
  have PI : Hid (putIn d n m (x : Int) false = d.set m (Tn.setList (Tn.nd d m) false (Tn.insertAt (Tn.nd d m).kids (putAt (Tn.nd d m).kids (x : Int)).toNat n))) := rfl
  have PD : Hid (putDoc d n m (x : Int) false = (putIn d n m (x : Int) false).set n { Tn.nd (putIn d n m (x : Int) false) n with up := (m : Int), inS := false }) := rfl
  have HT : Hid (0 ≤ putAt (Tn.nd d m).kids (x : Int) → (Tn.nd d m).kids.length < 12 → Tame (putDoc d n m (x : Int) false) ∧ (∀ j s, (Tn.liD (putDoc d n m (x : Int) false) j s).length ≤ 1000) ∧ Tn.lvD (putDoc d n m (x : Int) false) n = true) := hT
  have hIX : ∀ vl, IntsAt (w.alloc (.cells #[.slice (some ⟨g, 0, none⟩) rs.length c] 25)) vl (Tn.nd d m).kids → Calls Try.prog 65 #[vl, .int .i64 (x : Int)] (w.alloc (.cells #[.slice (some ⟨g, 0, none⟩) rs.length c] 25)) fun e w' => e = .returned (.int .i64 (putAt (Tn.nd d m).kids (x : Int))) ∧ w' = (w.alloc (.cells #[.slice (some ⟨g, 0, none⟩) rs.length c] 25)) := fun vl hv => by rw [putAt_nat]; exact index_any hv x
  rw [hKn] at hL hlist
  clear hT hls hfz W1 h hKn
  have QL : Hid _ := hlist
  clear hlist
  have hof : 0 + m * 9 + lof false = m * 9 + 5 := by simp [lof]
  have hLO := dlistOf_any D1.out m hm false
  rw [hof] at hLO
  rcases putAt_cases (Tn.nd d m).kids (x : Int) with hat | ⟨i, hil, hat⟩
  · have E : Hid (putCode d n m (x : Int) false = 8) := by show _ = _; rw [PC.out, hat]; rfl
    have hI := hIX _ (ints_of_owns QL.out)
    rw [hat] at hI
    clear hIX HT PC PI PD
    go_enter Try.func78, Try.ntmps78
    go_wp2_with (first
      | (go_at_call 87; refine hLO.mono ?_; rintro e w' ⟨rfl, hww⟩; subst hww)
      | (go_at_call 65; refine hI.mono ?_; rintro e w' ⟨rfl, hww⟩; subst hww))
    go_ret
    exact ⟨by rw [E.out]; rfl, BA, fun hc => by rw [E.out] at hc; cases hc⟩
  · by_cases h12 : 12 ≤ (Tn.nd d m).kids.length
    · have E : Hid (putCode d n m (x : Int) false = 5) := by show _ = _; rw [PC.out, if_neg (by omega), if_pos h12]
      have hI := hIX _ (ints_of_owns QL.out)
      rw [hat] at hI
      clear hIX
      go_enter Try.func78, Try.ntmps78
      go_wp2_with (first
        | (go_at_call 87; refine hLO.mono ?_; rintro e w' ⟨rfl, hww⟩; subst hww)
        | (go_at_call 65; refine hI.mono ?_; rintro e w' ⟨rfl, hww⟩; subst hww))
      go_ret
      exact ⟨by rw [E.out]; rfl, BA, fun hc => by rw [E.out] at hc; cases hc⟩
    · obtain ⟨t1, t2, t3⟩ := HT.out (by omega) (by omega)
      have hI := hIX _ (ints_of_owns QL.out)
      rw [hat] at hI
      clear hIX
      go_enter Try.func78, Try.ntmps78
      go_upto_region 9 with (first
        | (go_at_call 87; refine hLO.mono ?_; rintro e w' ⟨rfl, hww⟩; subst hww)
        | (go_at_call 65; refine hI.mono ?_; rintro e w' ⟨rfl, hww⟩; subst hww))
      generalize hWA : w.alloc (.cells #[.slice (some ⟨g, 0, none⟩) rs.length c] 25) = wA at *
      have hob : (Value.slice rs[m].k.p (Tn.nd d m).kids.length rs[m].k.c).ownBlock = blk rs[m] 1 := by
        unfold blk sblk lst
        cases rs[m].k.p <;> rfl
      have BB : Below wA.heap.size wA (wA.alloc (.cells #[.int .i64 (n : Int)] 3)) := (Below.refl _ _).alloc (Nat.le_refl _) _
      have OB : Hid (Owned (wA.alloc (.cells #[.int .i64 (n : Int)] 3)) B g c rs d) := O1.out.below BB (Nat.le_refl _)
      have hBA : B ≤ wA.heap.size := Nat.le_trans hB BA.size
      have hIns := insI_any (vb := wA.heap.size) (x := n) (OwnI.below QL.out BB (Nat.le_refl _)) (by simp; omega) hl i hil (heap_alloc_new wA _) (by
        rw [hob]
        intro e
        have := O1.out.low m hm 1 _ e
        omega)
      rw [hob] at hIns
      have hLB := keeps_below BB (Nat.le_refl _) _ _ hL
      have hkB := keeps_below BB (Nat.le_refl _) _ _ hk0
      have hBw : Below B w (wA.alloc (.cells #[.int .i64 (n : Int)] 3)) := BA.alloc (by omega) _
      have hBz : B ≤ (wA.alloc (.cells #[.int .i64 (n : Int)] 3)).heap.size := by simp; omega
      go_upto_region 10 with (go_at_call 89; refine hIns.mono ?_; rintro e w9 ⟨v9, rfl, ho9, hg9, hb9⟩; have ho9' := ho9; obtain ⟨p9, c9, rfl⟩ := ho9'.shape; have R9 := rowN_at (OB.out.rowGrown hm 1 hg9) m hm; have L9 := R9.2.1; have F9 := R9.2.2.2 (m * 9 + 5))
      have hblk9 : sblk ⟨p9, (Tn.insertAt (Tn.nd d m).kids i n).length, c9⟩ = blk rs[m] 1 ∨ ∃ x, (wA.alloc (.cells #[.int .i64 (n : Int)] 3)).heap.size ≤ x ∧ x < w9.heap.size ∧ sblk ⟨p9, (Tn.insertAt (Tn.nd d m).kids i n).length, c9⟩ = some x := by
        rw [sblk_own ⟨p9, _, c9⟩] at hb9
        rcases hb9 with e | ⟨y, hy, e⟩
        · exact Or.inl e
        · exact Or.inr ⟨y, hy, (World.ownsRow.lt ho9 y (by rw [sblk_own ⟨p9, _, c9⟩]; exact e)).2, e⟩
      have hN := OB.out.nds m hm hmd
      rw [← nd_at hmd] at hN
      have hne : ∀ t', t' ≠ 1 → ∀ y, blk rs[m] t' = some y → blk rs[m] 1 ≠ some y := fun t' ht' y h1 h2 => ht' (OB.out.sep.one m hm t' m hm 1 y h1 h2).2
      have F2 : Fr g rs w g (rs.set m { rs[m] with k := ⟨p9, (Tn.insertAt (Tn.nd d m).kids i n).length, c9⟩ }) (w9.setCell ⟨g, m * 9 + 5, none⟩ (.slice p9 (Tn.insertAt (Tn.nd d m).kids i n).length c9)) :=
        (FA.below BB).trans (Fr.list hm 1 (r' := { rs[m] with k := ⟨p9, (Tn.insertAt (Tn.nd d m).kids i n).length, c9⟩ }) hg9 (fun t' ht' => by match t' with | 0 => rfl | 2 => rfl | 1 => exact absurd rfl ht') hblk9 _ _)
      have O2 := OB.out.list hm 1 (r' := { rs[m] with k := ⟨p9, (Tn.insertAt (Tn.nd d m).kids i n).length, c9⟩ }) (n' := Tn.setList (Tn.nd d m) false (Tn.insertAt (Tn.nd d m).kids i n)) hg9
        (fun t' ht' => by match t' with | 0 => rfl | 2 => rfl | 1 => exact absurd rfl ht') hblk9
        ⟨hN.live, hN.tag, hN.text, hN.up, hN.hasS, hN.inS, owns_grown hN.attrs hg9 (hne 0 (by decide)), ho9, owns_grown hN.shadow hg9 (hne 2 (by decide))⟩ 5 (by decide) (.slice p9 (Tn.insertAt (Tn.nd d m).kids i n).length c9) rfl
      have PI2 := PI.out
      rw [hat, Int.toNat_natCast] at PI2
      rw [← PI2] at O2
      have hkw : (w9.setCell ⟨g, m * 9 + 5, none⟩ (.slice p9 (Tn.insertAt (Tn.nd d m).kids i n).length c9)).cell? ⟨w.heap.size, 0, none⟩ = some (.slice (some ⟨g, 0, none⟩) rs.length c) := by
        rw [World.cell?_setCell_other _ _ _ _ (by intro e; injection e with e; omega)]
        exact World.grownBy.cell hg9 hkB (fun e => hlowK m hm 1 e.symm)
      have B9 : Below B w w9 := hBw.grown hg9 hBz (fun k hk => (World.ownsRow.lt QL.out k (by rw [hob]; exact hk)).1)
      have B2 : Below B w (w9.setCell ⟨g, m * 9 + 5, none⟩ (.slice p9 (Tn.insertAt (Tn.nd d m).kids i n).length c9)) := B9.setCell (p := ⟨g, m * 9 + 5, none⟩) hBg _
      generalize w9.setCell ⟨g, m * 9 + 5, none⟩ (.slice p9 (Tn.insertAt (Tn.nd d m).kids i n).length c9) = W2 at *
      have hr2 : (rs.set m { rs[m] with k := ⟨p9, (Tn.insertAt (Tn.nd d m).kids i n).length, c9⟩ }).length = rs.length := by simp
      generalize rs.set m { rs[m] with k := ⟨p9, (Tn.insertAt (Tn.nd d m).kids i n).length, c9⟩ } = rs2 at *
      have hn2 : n < rs2.length := by omega
      obtain ⟨U1, U2⟩ := O2.upIns hn2 (m : Int) false
      rw [← PD.out] at U1 U2
      obtain ⟨_, _, hf2⟩ := O2.at (by omega)
      have Dw2 := O2.doc (by omega)
      have q4 := Dw2.row.c4 n hn2
      have q8 := Dw2.row.c8 n hn2
      rw [Nat.zero_add] at q4 q8
      have f4 := hf2 (n * 9 + 4)
      have f8 := hf2 (n * 9 + 8)
      have QU1 : Hid _ := U1
      have QU2 : Hid _ := U2
      have hgK : g ≠ w.heap.size := by omega
      have hn2' : (n : Int) < (rs.length : Int) := by omega
      clear U1 U2 hf2 Dw2 O2 PI2 hne hN hblk9 hb9 hg9 ho9 ho9' R9 L9 F9 hIns hLB hkB OB O1 D1 BA BB hI hLO hL hk0 QL HT
      obtain ⟨d3, hd3⟩ : ∃ d3, d3 = putDoc d n m (x : Int) false := ⟨_, rfl⟩
      rw [← hd3] at QU1 t1 t2 t3 PC
      have QD : Hid (d3 = putDoc d n m (x : Int) false) := hd3
      clear hd3 PD
      generalize rs2[n].up = uu at *
      generalize rs2[n].inS = ii at *
      go_region
      obtain ⟨rs3, hr3, O3, F3⟩ := QU1.out
      have F4 := (F2.trans F3).below (Below.drew (Below.refl _ _))
      have hr : rs3.length = rs.length := by omega
      have B3 : Below B w ((W2.setCell ⟨g, n * 9 + 4, none⟩ (.int .i64 (m : Int))).setCell ⟨g, n * 9 + 8, none⟩ (.bool false)).drew := ((B2.setCell (p := ⟨g, n * 9 + 4, none⟩) hBg _).setCell (p := ⟨g, n * 9 + 8, none⟩) hBg _).drew
      have O4 : Owned ((W2.setCell ⟨g, n * 9 + 4, none⟩ (.int .i64 (m : Int))).setCell ⟨g, n * 9 + 8, none⟩ (.bool false)).drew B g c rs3 d3 := O3.below (Below.drew (Below.refl _ _)) (Nat.le_refl _)
      have hkw3 : ((W2.setCell ⟨g, n * 9 + 4, none⟩ (.int .i64 (m : Int))).setCell ⟨g, n * 9 + 8, none⟩ (.bool false)).drew.cell? ⟨w.heap.size, 0, none⟩ = some (.slice (some ⟨g, 0, none⟩) rs.length c) := by
        rw [World.cell?_drew, World.cell?_setCell_other _ _ _ _ (by intro e; injection e with e; omega), World.cell?_setCell_other _ _ _ _ (by intro e; injection e with e; omega)]
        exact hkw
      have D4 : Hid (DocAt ((W2.setCell ⟨g, n * 9 + 4, none⟩ (.int .i64 (m : Int))).setCell ⟨g, n * 9 + 8, none⟩ (.bool false)).drew g 0 c rs3 d3) := O4.doc (by omega)
      generalize ((W2.setCell ⟨g, n * 9 + 4, none⟩ (.int .i64 (m : Int))).setCell ⟨g, n * 9 + 8, none⟩ (.bool false)).drew = W3 at *
      have hAll := dall_any D4.out t1 t2 n t3
      rw [hr] at hAll
      have HCF : Hid (∀ (W : World) (v : Value), Below W3.heap.size W3 W → OwnI W W3.heap.size v (Tn.all Tn.fuel d3 n) → Calls Try.prog 90 #[v, .func (.func 91) #[] #[.pointer (some ⟨w.heap.size, 0, none⟩)]] W fun e w' => e = .returned (.bool ((Tn.all Tn.fuel d3 n).any (tooDeep d3))) ∧ Below W.heap.size W w') := by
        intro W v hW ho
        refine contF_any put1_enters (ints_of_owns ho) (fun V hV => ?_)
        have hK := (keeps_below hW (Nat.le_refl _)).trans (keeps_below hV (Nat.le_refl _))
        have hc := hK _ _ hkw3
        rw [← hr] at hc
        exact put1_tests (D4.out.keeps hK) t1 hc
      have O5 : Hid _ := O4
      clear QU1 QU2 O3 O4 hkw q4 q8 f4 f8 D4 F2 F3
      cases hany : (Tn.all Tn.fuel d3 n).any (tooDeep d3) with
      | true =>
        have E : Hid (putCode d n m (x : Int) false = 3) := by show _ = _; rw [PC.out, if_neg (by omega), if_neg h12, hany]; rfl
        rw [hany] at HCF
        clear PC PI
        go_wp2_with (first
          | (go_at_call 31; refine hAll.mono ?_; rintro e w5 ⟨v5, rfl, ho5, hb5⟩)
          | (go_at_call 90; refine (HCF.out _ _ hb5 ho5).mono ?_; rintro e w6 ⟨rfl, hb6⟩))
        go_ret
        exact ⟨by rw [E.out]; rfl, (B3.trans (hb5.mono (Nat.le_trans hB B3.size))).trans (hb6.mono (Nat.le_trans (Nat.le_trans hB B3.size) hb5.size)), fun hc => by rw [E.out] at hc; cases hc⟩
      | false =>
        have E : Hid (putCode d n m (x : Int) false = 0) := by show _ = _; rw [PC.out, if_neg (by omega), if_neg h12, hany]; rfl
        rw [hany] at HCF
        clear PC PI
        go_wp2_with (first
          | (go_at_call 31; refine hAll.mono ?_; rintro e w5 ⟨v5, rfl, ho5, hb5⟩)
          | (go_at_call 90; refine (HCF.out _ _ hb5 ho5).mono ?_; rintro e w6 ⟨rfl, hb6⟩))
        go_ret
        exact ⟨by rw [E.out]; rfl, (B3.trans (hb5.mono (Nat.le_trans hB B3.size))).trans (hb6.mono (Nat.le_trans (Nat.le_trans hB B3.size) hb5.size)), fun _ => ⟨rs3, hr, by rw [← QD.out]; exact (O5.out.below hb5 (Nat.le_refl _)).below hb6 (Nat.le_refl _), (F4.below hb5).below hb6⟩⟩
end Go.Proofs.Ytookcjdibpccpab

/-
  THE WALK of dom.put, in a document of the call's own.
-/
namespace Go.Proofs.Ytookcjdibpccpab
open Go.RowKit

set_option maxHeartbeats 6400000 in
set_option maxRecDepth 100000 in
theorem dput_Attrue {w : World} {B g c : Nat} {rs : List Raw} {d : Tn.Dc} (h : Owned w B g c rs d) (hB : B ≤ w.heap.size) {n m : Nat} (hn : n < rs.length) (hm : m < rs.length) (hls : ∀ s, (Tn.liD d m s).length ≤ 1000) (x : Nat)
    (hT : 0 ≤ putAt (Tn.listOf (Tn.nd d m) true) (x : Int) → (Tn.listOf (Tn.nd d m) true).length < 12 → Tame (putDoc d n m (x : Int) true) ∧ (∀ j s, (Tn.liD (putDoc d n m (x : Int) true) j s).length ≤ 1000) ∧ Tn.lvD (putDoc d n m (x : Int) true) n = true) :
    Calls Try.prog 78 #[.slice (some ⟨g, 0, none⟩) rs.length c, .int .i64 (n : Int), .int .i64 (m : Int), .int .i64 (x : Int), .bool true] w fun e w' => e = .returned (.int .i64 (putCode d n m (x : Int) true)) ∧ Below B w w' ∧ (putCode d n m (x : Int) true = 0 → ∃ rs', rs'.length = rs.length ∧ Owned w' B g c rs' (putDoc d n m (x : Int) true) ∧ Fr g rs w g rs' w') := by
  have h0 : 0 < rs.length := by omega
  obtain ⟨hBg, hgl, hfz⟩ := h.at h0
  have hnd : n < d.length := by rw [← h.len]; exact hn
  have hmd : m < d.length := by rw [← h.len]; exact hm
  have W1 : Below w.heap.size w (w.alloc (.cells #[.slice (some ⟨g, 0, none⟩) rs.length c] 25)) := (Below.refl _ _).alloc (Nat.le_refl _) _
  have O1 : Hid (Owned (w.alloc (.cells #[.slice (some ⟨g, 0, none⟩) rs.length c] 25)) B g c rs d) := h.below W1 (Nat.le_refl _)
  have D1 : Hid (DocAt (w.alloc (.cells #[.slice (some ⟨g, 0, none⟩) rs.length c] 25)) g 0 c rs d) := O1.out.doc h0
  have FA : Fr g rs w g rs (w.alloc (.cells #[.slice (some ⟨g, 0, none⟩) rs.length c] 25)) := (Fr.refl g rs w).below W1
  have BA : Below B w (w.alloc (.cells #[.slice (some ⟨g, 0, none⟩) rs.length c] 25)) := (Below.refl B w).alloc hB _
  have hk0 := cell_box w (.slice (some ⟨g, 0, none⟩) rs.length c) (t := 25)
  have hlowK : ∀ k (hk : k < rs.length) t, blk rs[k] t ≠ some w.heap.size := fun k hk t e => by have := h.low k hk t _ e; omega
  have hKA : w.heap.size < (w.alloc (.cells #[.slice (some ⟨g, 0, none⟩) rs.length c] 25)).heap.size := by simp
  have hlist : OwnI (w.alloc (.cells #[.slice (some ⟨g, 0, none⟩) rs.length c] 25)) B (.slice rs[m].s.p rs[m].s.n rs[m].s.c) (Tn.nd d m).shadow := by rw [nd_at hmd]; exact (O1.out.nds m hm hmd).shadow
  have hL := (rowN_at O1.out.row m hm).2.2.1
  have hl : (Tn.nd d m).shadow.length ≤ 1000 := hls true
  have hKn : rs[m].s.n = (Tn.nd d m).shadow.length := hl_of (ints_of_owns hlist)
  have PC : Hid (putCode d n m (x : Int) true = if putAt (Tn.nd d m).shadow (x : Int) < 0 then 8 else if 12 ≤ (Tn.nd d m).shadow.length then 5 else if (Tn.all Tn.fuel (putDoc d n m (x : Int) true) n).any (tooDeep (putDoc d n m (x : Int) true)) then 3 else 0) := rfl
  have PI : Hid (putIn d n m (x : Int) true = d.set m (Tn.setList (Tn.nd d m) true (Tn.insertAt (Tn.nd d m).shadow (putAt (Tn.nd d m).shadow (x : Int)).toNat n))) := rfl
  have PD : Hid (putDoc d n m (x : Int) true = (putIn d n m (x : Int) true).set n { Tn.nd (putIn d n m (x : Int) true) n with up := (m : Int), inS := true }) := rfl
  have HT : Hid (0 ≤ putAt (Tn.nd d m).shadow (x : Int) → (Tn.nd d m).shadow.length < 12 → Tame (putDoc d n m (x : Int) true) ∧ (∀ j s, (Tn.liD (putDoc d n m (x : Int) true) j s).length ≤ 1000) ∧ Tn.lvD (putDoc d n m (x : Int) true) n = true) := hT
  have hIX : ∀ vl, IntsAt (w.alloc (.cells #[.slice (some ⟨g, 0, none⟩) rs.length c] 25)) vl (Tn.nd d m).shadow → Calls Try.prog 65 #[vl, .int .i64 (x : Int)] (w.alloc (.cells #[.slice (some ⟨g, 0, none⟩) rs.length c] 25)) fun e w' => e = .returned (.int .i64 (putAt (Tn.nd d m).shadow (x : Int))) ∧ w' = (w.alloc (.cells #[.slice (some ⟨g, 0, none⟩) rs.length c] 25)) := fun vl hv => by rw [putAt_nat]; exact index_any hv x
  rw [hKn] at hL hlist
  clear hT hls hfz W1 h hKn
  have QL : Hid _ := hlist
  clear hlist
  have hof : 0 + m * 9 + lof true = m * 9 + 7 := by simp [lof]
  have hLO := dlistOf_any D1.out m hm true
  rw [hof] at hLO
  rcases putAt_cases (Tn.nd d m).shadow (x : Int) with hat | ⟨i, hil, hat⟩
  · have E : Hid (putCode d n m (x : Int) true = 8) := by show _ = _; rw [PC.out, hat]; rfl
    have hI := hIX _ (ints_of_owns QL.out)
    rw [hat] at hI
    clear hIX HT PC PI PD
    go_enter Try.func78, Try.ntmps78
    go_wp2_with (first
      | (go_at_call 87; refine hLO.mono ?_; rintro e w' ⟨rfl, hww⟩; subst hww)
      | (go_at_call 65; refine hI.mono ?_; rintro e w' ⟨rfl, hww⟩; subst hww))
    go_ret
    exact ⟨by rw [E.out]; rfl, BA, fun hc => by rw [E.out] at hc; cases hc⟩
  · by_cases h12 : 12 ≤ (Tn.nd d m).shadow.length
    · have E : Hid (putCode d n m (x : Int) true = 5) := by show _ = _; rw [PC.out, if_neg (by omega), if_pos h12]
      have hI := hIX _ (ints_of_owns QL.out)
      rw [hat] at hI
      clear hIX
      go_enter Try.func78, Try.ntmps78
      go_wp2_with (first
        | (go_at_call 87; refine hLO.mono ?_; rintro e w' ⟨rfl, hww⟩; subst hww)
        | (go_at_call 65; refine hI.mono ?_; rintro e w' ⟨rfl, hww⟩; subst hww))
      go_ret
      exact ⟨by rw [E.out]; rfl, BA, fun hc => by rw [E.out] at hc; cases hc⟩
    · obtain ⟨t1, t2, t3⟩ := HT.out (by omega) (by omega)
      have hI := hIX _ (ints_of_owns QL.out)
      rw [hat] at hI
      clear hIX
      go_enter Try.func78, Try.ntmps78
      go_upto_region 9 with (first
        | (go_at_call 87; refine hLO.mono ?_; rintro e w' ⟨rfl, hww⟩; subst hww)
        | (go_at_call 65; refine hI.mono ?_; rintro e w' ⟨rfl, hww⟩; subst hww))
      generalize hWA : w.alloc (.cells #[.slice (some ⟨g, 0, none⟩) rs.length c] 25) = wA at *
      have hob : (Value.slice rs[m].s.p (Tn.nd d m).shadow.length rs[m].s.c).ownBlock = blk rs[m] 2 := by
        unfold blk sblk lst
        cases rs[m].s.p <;> rfl
      have BB : Below wA.heap.size wA (wA.alloc (.cells #[.int .i64 (n : Int)] 3)) := (Below.refl _ _).alloc (Nat.le_refl _) _
      have OB : Hid (Owned (wA.alloc (.cells #[.int .i64 (n : Int)] 3)) B g c rs d) := O1.out.below BB (Nat.le_refl _)
      have hBA : B ≤ wA.heap.size := Nat.le_trans hB BA.size
      have hIns := insI_any (vb := wA.heap.size) (x := n) (OwnI.below QL.out BB (Nat.le_refl _)) (by simp; omega) hl i hil (heap_alloc_new wA _) (by
        rw [hob]
        intro e
        have := O1.out.low m hm 2 _ e
        omega)
      rw [hob] at hIns
      have hLB := keeps_below BB (Nat.le_refl _) _ _ hL
      have hkB := keeps_below BB (Nat.le_refl _) _ _ hk0
      have hBw : Below B w (wA.alloc (.cells #[.int .i64 (n : Int)] 3)) := BA.alloc (by omega) _
      have hBz : B ≤ (wA.alloc (.cells #[.int .i64 (n : Int)] 3)).heap.size := by simp; omega
      go_upto_region 10 with (go_at_call 89; refine hIns.mono ?_; rintro e w9 ⟨v9, rfl, ho9, hg9, hb9⟩; have ho9' := ho9; obtain ⟨p9, c9, rfl⟩ := ho9'.shape; have R9 := rowN_at (OB.out.rowGrown hm 2 hg9) m hm; have L9 := R9.2.2.1; have F9 := R9.2.2.2 (m * 9 + 7))
      have hblk9 : sblk ⟨p9, (Tn.insertAt (Tn.nd d m).shadow i n).length, c9⟩ = blk rs[m] 2 ∨ ∃ x, (wA.alloc (.cells #[.int .i64 (n : Int)] 3)).heap.size ≤ x ∧ x < w9.heap.size ∧ sblk ⟨p9, (Tn.insertAt (Tn.nd d m).shadow i n).length, c9⟩ = some x := by
        rw [sblk_own ⟨p9, _, c9⟩] at hb9
        rcases hb9 with e | ⟨y, hy, e⟩
        · exact Or.inl e
        · exact Or.inr ⟨y, hy, (World.ownsRow.lt ho9 y (by rw [sblk_own ⟨p9, _, c9⟩]; exact e)).2, e⟩
      have hN := OB.out.nds m hm hmd
      rw [← nd_at hmd] at hN
      have hne : ∀ t', t' ≠ 2 → ∀ y, blk rs[m] t' = some y → blk rs[m] 2 ≠ some y := fun t' ht' y h1 h2 => ht' (OB.out.sep.one m hm t' m hm 2 y h1 h2).2
      have F2 : Fr g rs w g (rs.set m { rs[m] with s := ⟨p9, (Tn.insertAt (Tn.nd d m).shadow i n).length, c9⟩ }) (w9.setCell ⟨g, m * 9 + 7, none⟩ (.slice p9 (Tn.insertAt (Tn.nd d m).shadow i n).length c9)) :=
        (FA.below BB).trans (Fr.list hm 2 (r' := { rs[m] with s := ⟨p9, (Tn.insertAt (Tn.nd d m).shadow i n).length, c9⟩ }) hg9 (fun t' ht' => by match t' with | 0 => rfl | 1 => rfl | 2 => exact absurd rfl ht') hblk9 _ _)
      have O2 := OB.out.list hm 2 (r' := { rs[m] with s := ⟨p9, (Tn.insertAt (Tn.nd d m).shadow i n).length, c9⟩ }) (n' := Tn.setList (Tn.nd d m) true (Tn.insertAt (Tn.nd d m).shadow i n)) hg9
        (fun t' ht' => by match t' with | 0 => rfl | 1 => rfl | 2 => exact absurd rfl ht') hblk9
        ⟨hN.live, hN.tag, hN.text, hN.up, hN.hasS, hN.inS, owns_grown hN.attrs hg9 (hne 0 (by decide)), owns_grown hN.kids hg9 (hne 1 (by decide)), ho9⟩ 7 (by decide) (.slice p9 (Tn.insertAt (Tn.nd d m).shadow i n).length c9) rfl
      have PI2 := PI.out
      rw [hat, Int.toNat_natCast] at PI2
      rw [← PI2] at O2
      have hkw : (w9.setCell ⟨g, m * 9 + 7, none⟩ (.slice p9 (Tn.insertAt (Tn.nd d m).shadow i n).length c9)).cell? ⟨w.heap.size, 0, none⟩ = some (.slice (some ⟨g, 0, none⟩) rs.length c) := by
        rw [World.cell?_setCell_other _ _ _ _ (by intro e; injection e with e; omega)]
        exact World.grownBy.cell hg9 hkB (fun e => hlowK m hm 2 e.symm)
      have B9 : Below B w w9 := hBw.grown hg9 hBz (fun k hk => (World.ownsRow.lt QL.out k (by rw [hob]; exact hk)).1)
      have B2 : Below B w (w9.setCell ⟨g, m * 9 + 7, none⟩ (.slice p9 (Tn.insertAt (Tn.nd d m).shadow i n).length c9)) := B9.setCell (p := ⟨g, m * 9 + 7, none⟩) hBg _
      generalize w9.setCell ⟨g, m * 9 + 7, none⟩ (.slice p9 (Tn.insertAt (Tn.nd d m).shadow i n).length c9) = W2 at *
      have hr2 : (rs.set m { rs[m] with s := ⟨p9, (Tn.insertAt (Tn.nd d m).shadow i n).length, c9⟩ }).length = rs.length := by simp
      generalize rs.set m { rs[m] with s := ⟨p9, (Tn.insertAt (Tn.nd d m).shadow i n).length, c9⟩ } = rs2 at *
      have hn2 : n < rs2.length := by omega
      obtain ⟨U1, U2⟩ := O2.upIns hn2 (m : Int) true
      rw [← PD.out] at U1 U2
      obtain ⟨_, _, hf2⟩ := O2.at (by omega)
      have Dw2 := O2.doc (by omega)
      have q4 := Dw2.row.c4 n hn2
      have q8 := Dw2.row.c8 n hn2
      rw [Nat.zero_add] at q4 q8
      have f4 := hf2 (n * 9 + 4)
      have f8 := hf2 (n * 9 + 8)
      have QU1 : Hid _ := U1
      have QU2 : Hid _ := U2
      have hgK : g ≠ w.heap.size := by omega
      have hn2' : (n : Int) < (rs.length : Int) := by omega
      clear U1 U2 hf2 Dw2 O2 PI2 hne hN hblk9 hb9 hg9 ho9 ho9' R9 L9 F9 hIns hLB hkB OB O1 D1 BA BB hI hLO hL hk0 QL HT
      obtain ⟨d3, hd3⟩ : ∃ d3, d3 = putDoc d n m (x : Int) true := ⟨_, rfl⟩
      rw [← hd3] at QU1 t1 t2 t3 PC
      have QD : Hid (d3 = putDoc d n m (x : Int) true) := hd3
      clear hd3 PD
      generalize rs2[n].up = uu at *
      generalize rs2[n].inS = ii at *
      go_region
      obtain ⟨rs3, hr3, O3, F3⟩ := QU1.out
      have F4 := (F2.trans F3).below (Below.drew (Below.refl _ _))
      have hr : rs3.length = rs.length := by omega
      have B3 : Below B w ((W2.setCell ⟨g, n * 9 + 4, none⟩ (.int .i64 (m : Int))).setCell ⟨g, n * 9 + 8, none⟩ (.bool true)).drew := ((B2.setCell (p := ⟨g, n * 9 + 4, none⟩) hBg _).setCell (p := ⟨g, n * 9 + 8, none⟩) hBg _).drew
      have O4 : Owned ((W2.setCell ⟨g, n * 9 + 4, none⟩ (.int .i64 (m : Int))).setCell ⟨g, n * 9 + 8, none⟩ (.bool true)).drew B g c rs3 d3 := O3.below (Below.drew (Below.refl _ _)) (Nat.le_refl _)
      have hkw3 : ((W2.setCell ⟨g, n * 9 + 4, none⟩ (.int .i64 (m : Int))).setCell ⟨g, n * 9 + 8, none⟩ (.bool true)).drew.cell? ⟨w.heap.size, 0, none⟩ = some (.slice (some ⟨g, 0, none⟩) rs.length c) := by
        rw [World.cell?_drew, World.cell?_setCell_other _ _ _ _ (by intro e; injection e with e; omega), World.cell?_setCell_other _ _ _ _ (by intro e; injection e with e; omega)]
        exact hkw
      have D4 : Hid (DocAt ((W2.setCell ⟨g, n * 9 + 4, none⟩ (.int .i64 (m : Int))).setCell ⟨g, n * 9 + 8, none⟩ (.bool true)).drew g 0 c rs3 d3) := O4.doc (by omega)
      generalize ((W2.setCell ⟨g, n * 9 + 4, none⟩ (.int .i64 (m : Int))).setCell ⟨g, n * 9 + 8, none⟩ (.bool true)).drew = W3 at *
      have hAll := dall_any D4.out t1 t2 n t3
      rw [hr] at hAll
      have HCF : Hid (∀ (W : World) (v : Value), Below W3.heap.size W3 W → OwnI W W3.heap.size v (Tn.all Tn.fuel d3 n) → Calls Try.prog 90 #[v, .func (.func 91) #[] #[.pointer (some ⟨w.heap.size, 0, none⟩)]] W fun e w' => e = .returned (.bool ((Tn.all Tn.fuel d3 n).any (tooDeep d3))) ∧ Below W.heap.size W w') := by
        intro W v hW ho
        refine contF_any put1_enters (ints_of_owns ho) (fun V hV => ?_)
        have hK := (keeps_below hW (Nat.le_refl _)).trans (keeps_below hV (Nat.le_refl _))
        have hc := hK _ _ hkw3
        rw [← hr] at hc
        exact put1_tests (D4.out.keeps hK) t1 hc
      have O5 : Hid _ := O4
      clear QU1 QU2 O3 O4 hkw q4 q8 f4 f8 D4 F2 F3
      cases hany : (Tn.all Tn.fuel d3 n).any (tooDeep d3) with
      | true =>
        have E : Hid (putCode d n m (x : Int) true = 3) := by show _ = _; rw [PC.out, if_neg (by omega), if_neg h12, hany]; rfl
        rw [hany] at HCF
        clear PC PI
        go_wp2_with (first
          | (go_at_call 31; refine hAll.mono ?_; rintro e w5 ⟨v5, rfl, ho5, hb5⟩)
          | (go_at_call 90; refine (HCF.out _ _ hb5 ho5).mono ?_; rintro e w6 ⟨rfl, hb6⟩))
        go_ret
        exact ⟨by rw [E.out]; rfl, (B3.trans (hb5.mono (Nat.le_trans hB B3.size))).trans (hb6.mono (Nat.le_trans (Nat.le_trans hB B3.size) hb5.size)), fun hc => by rw [E.out] at hc; cases hc⟩
      | false =>
        have E : Hid (putCode d n m (x : Int) true = 0) := by show _ = _; rw [PC.out, if_neg (by omega), if_neg h12, hany]; rfl
        rw [hany] at HCF
        clear PC PI
        go_wp2_with (first
          | (go_at_call 31; refine hAll.mono ?_; rintro e w5 ⟨v5, rfl, ho5, hb5⟩)
          | (go_at_call 90; refine (HCF.out _ _ hb5 ho5).mono ?_; rintro e w6 ⟨rfl, hb6⟩))
        go_ret
        exact ⟨by rw [E.out]; rfl, (B3.trans (hb5.mono (Nat.le_trans hB B3.size))).trans (hb6.mono (Nat.le_trans (Nat.le_trans hB B3.size) hb5.size)), fun _ => ⟨rs3, hr, by rw [← QD.out]; exact (O5.out.below hb5 (Nat.le_refl _)).below hb6 (Nat.le_refl _), (F4.below hb5).below hb6⟩⟩
end Go.Proofs.Ytookcjdibpccpab

/-
  THE WALK of dom.put, in a document of the call's own.
-/
namespace Go.Proofs.Ytookcjdibpccpab
open Go.RowKit

set_option maxHeartbeats 6400000 in
set_option maxRecDepth 100000 in
theorem dput_Endfalse {w : World} {B g c : Nat} {rs : List Raw} {d : Tn.Dc} (h : Owned w B g c rs d) (hB : B ≤ w.heap.size) {n m : Nat} (hn : n < rs.length) (hm : m < rs.length) (hls : ∀ s, (Tn.liD d m s).length ≤ 1000) (x : Int) (hx : x < 0)
    (hT : 0 ≤ putAt (Tn.listOf (Tn.nd d m) false) x → (Tn.listOf (Tn.nd d m) false).length < 12 → Tame (putDoc d n m x false) ∧ (∀ j s, (Tn.liD (putDoc d n m x false) j s).length ≤ 1000) ∧ Tn.lvD (putDoc d n m x false) n = true) :
    Calls Try.prog 78 #[.slice (some ⟨g, 0, none⟩) rs.length c, .int .i64 (n : Int), .int .i64 (m : Int), .int .i64 x, .bool false] w fun e w' => e = .returned (.int .i64 (putCode d n m x false)) ∧ Below B w w' ∧ (putCode d n m x false = 0 → ∃ rs', rs'.length = rs.length ∧ Owned w' B g c rs' (putDoc d n m x false) ∧ Fr g rs w g rs' w') := by
  have h0 : 0 < rs.length := by omega
  obtain ⟨hBg, hgl, hfz⟩ := h.at h0
  have hnd : n < d.length := by rw [← h.len]; exact hn
  have hmd : m < d.length := by rw [← h.len]; exact hm
  have W1 : Below w.heap.size w (w.alloc (.cells #[.slice (some ⟨g, 0, none⟩) rs.length c] 25)) := (Below.refl _ _).alloc (Nat.le_refl _) _
  have O1 : Hid (Owned (w.alloc (.cells #[.slice (some ⟨g, 0, none⟩) rs.length c] 25)) B g c rs d) := h.below W1 (Nat.le_refl _)
  have D1 : Hid (DocAt (w.alloc (.cells #[.slice (some ⟨g, 0, none⟩) rs.length c] 25)) g 0 c rs d) := O1.out.doc h0
  have FA : Fr g rs w g rs (w.alloc (.cells #[.slice (some ⟨g, 0, none⟩) rs.length c] 25)) := (Fr.refl g rs w).below W1
  have BA : Below B w (w.alloc (.cells #[.slice (some ⟨g, 0, none⟩) rs.length c] 25)) := (Below.refl B w).alloc hB _
  have hk0 := cell_box w (.slice (some ⟨g, 0, none⟩) rs.length c) (t := 25)
  have hlowK : ∀ k (hk : k < rs.length) t, blk rs[k] t ≠ some w.heap.size := fun k hk t e => by have := h.low k hk t _ e; omega
  have hKA : w.heap.size < (w.alloc (.cells #[.slice (some ⟨g, 0, none⟩) rs.length c] 25)).heap.size := by simp
  have hlist : OwnI (w.alloc (.cells #[.slice (some ⟨g, 0, none⟩) rs.length c] 25)) B (.slice rs[m].k.p rs[m].k.n rs[m].k.c) (Tn.nd d m).kids := by rw [nd_at hmd]; exact (O1.out.nds m hm hmd).kids
  have hL := (rowN_at O1.out.row m hm).2.1
  have hl : (Tn.nd d m).kids.length ≤ 1000 := hls false
  have hKn : rs[m].k.n = (Tn.nd d m).kids.length := hl_of (ints_of_owns hlist)
  have PC : Hid (putCode d n m x false = if putAt (Tn.nd d m).kids x < 0 then 8 else if 12 ≤ (Tn.nd d m).kids.length then 5 else if (Tn.all Tn.fuel (putDoc d n m x false) n).any (tooDeep (putDoc d n m x false)) then 3 else 0) := rfl
  have PI : Hid (putIn d n m x false = d.set m (Tn.setList (Tn.nd d m) false (Tn.insertAt (Tn.nd d m).kids (putAt (Tn.nd d m).kids x).toNat n))) := rfl
  have PD : Hid (putDoc d n m x false = (putIn d n m x false).set n { Tn.nd (putIn d n m x false) n with up := (m : Int), inS := false }) := rfl
  have HT : Hid (0 ≤ putAt (Tn.nd d m).kids x → (Tn.nd d m).kids.length < 12 → Tame (putDoc d n m x false) ∧ (∀ j s, (Tn.liD (putDoc d n m x false) j s).length ≤ 1000) ∧ Tn.lvD (putDoc d n m x false) n = true) := hT
  have hAE := putAt_end (Tn.nd d m).kids x hx
  rw [hKn] at hL hlist
  clear hT hls hfz W1 h hKn
  have QL : Hid _ := hlist
  clear hlist
  have hof : 0 + m * 9 + lof false = m * 9 + 5 := by simp [lof]
  have hLO := dlistOf_any D1.out m hm false
  rw [hof] at hLO
  rcases putAt_cases (Tn.nd d m).kids x with hat | ⟨i, hil, hat⟩
  · have E : Hid (putCode d n m x false = 8) := by show _ = _; rw [PC.out, hat]; rfl
    omega
  · by_cases h12 : 12 ≤ (Tn.nd d m).kids.length
    · have E : Hid (putCode d n m x false = 5) := by show _ = _; rw [PC.out, if_neg (by omega), if_pos h12]
      have hil2 : i = (Tn.nd d m).kids.length := by omega
      subst hil2
      go_enter Try.func78, Try.ntmps78
      go_wp2_with (first
        | (go_at_call 87; refine hLO.mono ?_; rintro e w' ⟨rfl, hww⟩; subst hww))
      go_ret
      exact ⟨by rw [E.out]; rfl, BA, fun hc => by rw [E.out] at hc; cases hc⟩
    · obtain ⟨t1, t2, t3⟩ := HT.out (by omega) (by omega)
      have hil2 : i = (Tn.nd d m).kids.length := by omega
      subst hil2
      go_enter Try.func78, Try.ntmps78
      go_upto_region 9 with (first
        | (go_at_call 87; refine hLO.mono ?_; rintro e w' ⟨rfl, hww⟩; subst hww))
      generalize hWA : w.alloc (.cells #[.slice (some ⟨g, 0, none⟩) rs.length c] 25) = wA at *
      have hob : (Value.slice rs[m].k.p (Tn.nd d m).kids.length rs[m].k.c).ownBlock = blk rs[m] 1 := by
        unfold blk sblk lst
        cases rs[m].k.p <;> rfl
      have BB : Below wA.heap.size wA (wA.alloc (.cells #[.int .i64 (n : Int)] 3)) := (Below.refl _ _).alloc (Nat.le_refl _) _
      have OB : Hid (Owned (wA.alloc (.cells #[.int .i64 (n : Int)] 3)) B g c rs d) := O1.out.below BB (Nat.le_refl _)
      have hBA : B ≤ wA.heap.size := Nat.le_trans hB BA.size
      have hIns := insI_any (vb := wA.heap.size) (x := n) (OwnI.below QL.out BB (Nat.le_refl _)) (by simp; omega) hl (Tn.nd d m).kids.length hil (heap_alloc_new wA _) (by
        rw [hob]
        intro e
        have := O1.out.low m hm 1 _ e
        omega)
      rw [hob] at hIns
      have hLB := keeps_below BB (Nat.le_refl _) _ _ hL
      have hkB := keeps_below BB (Nat.le_refl _) _ _ hk0
      have hBw : Below B w (wA.alloc (.cells #[.int .i64 (n : Int)] 3)) := BA.alloc (by omega) _
      have hBz : B ≤ (wA.alloc (.cells #[.int .i64 (n : Int)] 3)).heap.size := by simp; omega
      go_upto_region 10 with (go_at_call 89; refine hIns.mono ?_; rintro e w9 ⟨v9, rfl, ho9, hg9, hb9⟩; have ho9' := ho9; obtain ⟨p9, c9, rfl⟩ := ho9'.shape; have R9 := rowN_at (OB.out.rowGrown hm 1 hg9) m hm; have L9 := R9.2.1; have F9 := R9.2.2.2 (m * 9 + 5))
      have hblk9 : sblk ⟨p9, (Tn.insertAt (Tn.nd d m).kids (Tn.nd d m).kids.length n).length, c9⟩ = blk rs[m] 1 ∨ ∃ x, (wA.alloc (.cells #[.int .i64 (n : Int)] 3)).heap.size ≤ x ∧ x < w9.heap.size ∧ sblk ⟨p9, (Tn.insertAt (Tn.nd d m).kids (Tn.nd d m).kids.length n).length, c9⟩ = some x := by
        rw [sblk_own ⟨p9, _, c9⟩] at hb9
        rcases hb9 with e | ⟨y, hy, e⟩
        · exact Or.inl e
        · exact Or.inr ⟨y, hy, (World.ownsRow.lt ho9 y (by rw [sblk_own ⟨p9, _, c9⟩]; exact e)).2, e⟩
      have hN := OB.out.nds m hm hmd
      rw [← nd_at hmd] at hN
      have hne : ∀ t', t' ≠ 1 → ∀ y, blk rs[m] t' = some y → blk rs[m] 1 ≠ some y := fun t' ht' y h1 h2 => ht' (OB.out.sep.one m hm t' m hm 1 y h1 h2).2
      have F2 : Fr g rs w g (rs.set m { rs[m] with k := ⟨p9, (Tn.insertAt (Tn.nd d m).kids (Tn.nd d m).kids.length n).length, c9⟩ }) (w9.setCell ⟨g, m * 9 + 5, none⟩ (.slice p9 (Tn.insertAt (Tn.nd d m).kids (Tn.nd d m).kids.length n).length c9)) :=
        (FA.below BB).trans (Fr.list hm 1 (r' := { rs[m] with k := ⟨p9, (Tn.insertAt (Tn.nd d m).kids (Tn.nd d m).kids.length n).length, c9⟩ }) hg9 (fun t' ht' => by match t' with | 0 => rfl | 2 => rfl | 1 => exact absurd rfl ht') hblk9 _ _)
      have O2 := OB.out.list hm 1 (r' := { rs[m] with k := ⟨p9, (Tn.insertAt (Tn.nd d m).kids (Tn.nd d m).kids.length n).length, c9⟩ }) (n' := Tn.setList (Tn.nd d m) false (Tn.insertAt (Tn.nd d m).kids (Tn.nd d m).kids.length n)) hg9
        (fun t' ht' => by match t' with | 0 => rfl | 2 => rfl | 1 => exact absurd rfl ht') hblk9
        ⟨hN.live, hN.tag, hN.text, hN.up, hN.hasS, hN.inS, owns_grown hN.attrs hg9 (hne 0 (by decide)), ho9, owns_grown hN.shadow hg9 (hne 2 (by decide))⟩ 5 (by decide) (.slice p9 (Tn.insertAt (Tn.nd d m).kids (Tn.nd d m).kids.length n).length c9) rfl
      have PI2 := PI.out
      rw [hat, Int.toNat_natCast] at PI2
      rw [← PI2] at O2
      have hkw : (w9.setCell ⟨g, m * 9 + 5, none⟩ (.slice p9 (Tn.insertAt (Tn.nd d m).kids (Tn.nd d m).kids.length n).length c9)).cell? ⟨w.heap.size, 0, none⟩ = some (.slice (some ⟨g, 0, none⟩) rs.length c) := by
        rw [World.cell?_setCell_other _ _ _ _ (by intro e; injection e with e; omega)]
        exact World.grownBy.cell hg9 hkB (fun e => hlowK m hm 1 e.symm)
      have B9 : Below B w w9 := hBw.grown hg9 hBz (fun k hk => (World.ownsRow.lt QL.out k (by rw [hob]; exact hk)).1)
      have B2 : Below B w (w9.setCell ⟨g, m * 9 + 5, none⟩ (.slice p9 (Tn.insertAt (Tn.nd d m).kids (Tn.nd d m).kids.length n).length c9)) := B9.setCell (p := ⟨g, m * 9 + 5, none⟩) hBg _
      generalize w9.setCell ⟨g, m * 9 + 5, none⟩ (.slice p9 (Tn.insertAt (Tn.nd d m).kids (Tn.nd d m).kids.length n).length c9) = W2 at *
      have hr2 : (rs.set m { rs[m] with k := ⟨p9, (Tn.insertAt (Tn.nd d m).kids (Tn.nd d m).kids.length n).length, c9⟩ }).length = rs.length := by simp
      generalize rs.set m { rs[m] with k := ⟨p9, (Tn.insertAt (Tn.nd d m).kids (Tn.nd d m).kids.length n).length, c9⟩ } = rs2 at *
      have hn2 : n < rs2.length := by omega
      obtain ⟨U1, U2⟩ := O2.upIns hn2 (m : Int) false
      rw [← PD.out] at U1 U2
      obtain ⟨_, _, hf2⟩ := O2.at (by omega)
      have Dw2 := O2.doc (by omega)
      have q4 := Dw2.row.c4 n hn2
      have q8 := Dw2.row.c8 n hn2
      rw [Nat.zero_add] at q4 q8
      have f4 := hf2 (n * 9 + 4)
      have f8 := hf2 (n * 9 + 8)
      have QU1 : Hid _ := U1
      have QU2 : Hid _ := U2
      have hgK : g ≠ w.heap.size := by omega
      have hn2' : (n : Int) < (rs.length : Int) := by omega
      clear U1 U2 hf2 Dw2 O2 PI2 hne hN hblk9 hb9 hg9 ho9 ho9' R9 L9 F9 hIns hLB hkB OB O1 D1 BA BB hLO hL hk0 QL HT
      obtain ⟨d3, hd3⟩ : ∃ d3, d3 = putDoc d n m x false := ⟨_, rfl⟩
      rw [← hd3] at QU1 t1 t2 t3 PC
      have QD : Hid (d3 = putDoc d n m x false) := hd3
      clear hd3 PD
      generalize rs2[n].up = uu at *
      generalize rs2[n].inS = ii at *
      go_region
      obtain ⟨rs3, hr3, O3, F3⟩ := QU1.out
      have F4 := (F2.trans F3).below (Below.drew (Below.refl _ _))
      have hr : rs3.length = rs.length := by omega
      have B3 : Below B w ((W2.setCell ⟨g, n * 9 + 4, none⟩ (.int .i64 (m : Int))).setCell ⟨g, n * 9 + 8, none⟩ (.bool false)).drew := ((B2.setCell (p := ⟨g, n * 9 + 4, none⟩) hBg _).setCell (p := ⟨g, n * 9 + 8, none⟩) hBg _).drew
      have O4 : Owned ((W2.setCell ⟨g, n * 9 + 4, none⟩ (.int .i64 (m : Int))).setCell ⟨g, n * 9 + 8, none⟩ (.bool false)).drew B g c rs3 d3 := O3.below (Below.drew (Below.refl _ _)) (Nat.le_refl _)
      have hkw3 : ((W2.setCell ⟨g, n * 9 + 4, none⟩ (.int .i64 (m : Int))).setCell ⟨g, n * 9 + 8, none⟩ (.bool false)).drew.cell? ⟨w.heap.size, 0, none⟩ = some (.slice (some ⟨g, 0, none⟩) rs.length c) := by
        rw [World.cell?_drew, World.cell?_setCell_other _ _ _ _ (by intro e; injection e with e; omega), World.cell?_setCell_other _ _ _ _ (by intro e; injection e with e; omega)]
        exact hkw
      have D4 : Hid (DocAt ((W2.setCell ⟨g, n * 9 + 4, none⟩ (.int .i64 (m : Int))).setCell ⟨g, n * 9 + 8, none⟩ (.bool false)).drew g 0 c rs3 d3) := O4.doc (by omega)
      generalize ((W2.setCell ⟨g, n * 9 + 4, none⟩ (.int .i64 (m : Int))).setCell ⟨g, n * 9 + 8, none⟩ (.bool false)).drew = W3 at *
      have hAll := dall_any D4.out t1 t2 n t3
      rw [hr] at hAll
      have HCF : Hid (∀ (W : World) (v : Value), Below W3.heap.size W3 W → OwnI W W3.heap.size v (Tn.all Tn.fuel d3 n) → Calls Try.prog 90 #[v, .func (.func 91) #[] #[.pointer (some ⟨w.heap.size, 0, none⟩)]] W fun e w' => e = .returned (.bool ((Tn.all Tn.fuel d3 n).any (tooDeep d3))) ∧ Below W.heap.size W w') := by
        intro W v hW ho
        refine contF_any put1_enters (ints_of_owns ho) (fun V hV => ?_)
        have hK := (keeps_below hW (Nat.le_refl _)).trans (keeps_below hV (Nat.le_refl _))
        have hc := hK _ _ hkw3
        rw [← hr] at hc
        exact put1_tests (D4.out.keeps hK) t1 hc
      have O5 : Hid _ := O4
      clear QU1 QU2 O3 O4 hkw q4 q8 f4 f8 D4 F2 F3
      cases hany : (Tn.all Tn.fuel d3 n).any (tooDeep d3) with
      | true =>
        have E : Hid (putCode d n m x false = 3) := by show _ = _; rw [PC.out, if_neg (by omega), if_neg h12, hany]; rfl
        rw [hany] at HCF
        clear PC PI
        go_wp2_with (first
          | (go_at_call 31; refine hAll.mono ?_; rintro e w5 ⟨v5, rfl, ho5, hb5⟩)
          | (go_at_call 90; refine (HCF.out _ _ hb5 ho5).mono ?_; rintro e w6 ⟨rfl, hb6⟩))
        go_ret
        exact ⟨by rw [E.out]; rfl, (B3.trans (hb5.mono (Nat.le_trans hB B3.size))).trans (hb6.mono (Nat.le_trans (Nat.le_trans hB B3.size) hb5.size)), fun hc => by rw [E.out] at hc; cases hc⟩
      | false =>
        have E : Hid (putCode d n m x false = 0) := by show _ = _; rw [PC.out, if_neg (by omega), if_neg h12, hany]; rfl
        rw [hany] at HCF
        clear PC PI
        go_wp2_with (first
          | (go_at_call 31; refine hAll.mono ?_; rintro e w5 ⟨v5, rfl, ho5, hb5⟩)
          | (go_at_call 90; refine (HCF.out _ _ hb5 ho5).mono ?_; rintro e w6 ⟨rfl, hb6⟩))
        go_ret
        exact ⟨by rw [E.out]; rfl, (B3.trans (hb5.mono (Nat.le_trans hB B3.size))).trans (hb6.mono (Nat.le_trans (Nat.le_trans hB B3.size) hb5.size)), fun _ => ⟨rs3, hr, by rw [← QD.out]; exact (O5.out.below hb5 (Nat.le_refl _)).below hb6 (Nat.le_refl _), (F4.below hb5).below hb6⟩⟩
end Go.Proofs.Ytookcjdibpccpab

/-
  THE WALK of dom.put, in a document of the call's own.
-/
namespace Go.Proofs.Ytookcjdibpccpab
open Go.RowKit

set_option maxHeartbeats 6400000 in
set_option maxRecDepth 100000 in
theorem dput_Endtrue {w : World} {B g c : Nat} {rs : List Raw} {d : Tn.Dc} (h : Owned w B g c rs d) (hB : B ≤ w.heap.size) {n m : Nat} (hn : n < rs.length) (hm : m < rs.length) (hls : ∀ s, (Tn.liD d m s).length ≤ 1000) (x : Int) (hx : x < 0)
    (hT : 0 ≤ putAt (Tn.listOf (Tn.nd d m) true) x → (Tn.listOf (Tn.nd d m) true).length < 12 → Tame (putDoc d n m x true) ∧ (∀ j s, (Tn.liD (putDoc d n m x true) j s).length ≤ 1000) ∧ Tn.lvD (putDoc d n m x true) n = true) :
    Calls Try.prog 78 #[.slice (some ⟨g, 0, none⟩) rs.length c, .int .i64 (n : Int), .int .i64 (m : Int), .int .i64 x, .bool true] w fun e w' => e = .returned (.int .i64 (putCode d n m x true)) ∧ Below B w w' ∧ (putCode d n m x true = 0 → ∃ rs', rs'.length = rs.length ∧ Owned w' B g c rs' (putDoc d n m x true) ∧ Fr g rs w g rs' w') := by
  have h0 : 0 < rs.length := by omega
  obtain ⟨hBg, hgl, hfz⟩ := h.at h0
  have hnd : n < d.length := by rw [← h.len]; exact hn
  have hmd : m < d.length := by rw [← h.len]; exact hm
  have W1 : Below w.heap.size w (w.alloc (.cells #[.slice (some ⟨g, 0, none⟩) rs.length c] 25)) := (Below.refl _ _).alloc (Nat.le_refl _) _
  have O1 : Hid (Owned (w.alloc (.cells #[.slice (some ⟨g, 0, none⟩) rs.length c] 25)) B g c rs d) := h.below W1 (Nat.le_refl _)
  have D1 : Hid (DocAt (w.alloc (.cells #[.slice (some ⟨g, 0, none⟩) rs.length c] 25)) g 0 c rs d) := O1.out.doc h0
  have FA : Fr g rs w g rs (w.alloc (.cells #[.slice (some ⟨g, 0, none⟩) rs.length c] 25)) := (Fr.refl g rs w).below W1
  have BA : Below B w (w.alloc (.cells #[.slice (some ⟨g, 0, none⟩) rs.length c] 25)) := (Below.refl B w).alloc hB _
  have hk0 := cell_box w (.slice (some ⟨g, 0, none⟩) rs.length c) (t := 25)
  have hlowK : ∀ k (hk : k < rs.length) t, blk rs[k] t ≠ some w.heap.size := fun k hk t e => by have := h.low k hk t _ e; omega
  have hKA : w.heap.size < (w.alloc (.cells #[.slice (some ⟨g, 0, none⟩) rs.length c] 25)).heap.size := by simp
  have hlist : OwnI (w.alloc (.cells #[.slice (some ⟨g, 0, none⟩) rs.length c] 25)) B (.slice rs[m].s.p rs[m].s.n rs[m].s.c) (Tn.nd d m).shadow := by rw [nd_at hmd]; exact (O1.out.nds m hm hmd).shadow
  have hL := (rowN_at O1.out.row m hm).2.2.1
  have hl : (Tn.nd d m).shadow.length ≤ 1000 := hls true
  have hKn : rs[m].s.n = (Tn.nd d m).shadow.length := hl_of (ints_of_owns hlist)
  have PC : Hid (putCode d n m x true = if putAt (Tn.nd d m).shadow x < 0 then 8 else if 12 ≤ (Tn.nd d m).shadow.length then 5 else if (Tn.all Tn.fuel (putDoc d n m x true) n).any (tooDeep (putDoc d n m x true)) then 3 else 0) := rfl
  have PI : Hid (putIn d n m x true = d.set m (Tn.setList (Tn.nd d m) true (Tn.insertAt (Tn.nd d m).shadow (putAt (Tn.nd d m).shadow x).toNat n))) := rfl
  have PD : Hid (putDoc d n m x true = (putIn d n m x true).set n { Tn.nd (putIn d n m x true) n with up := (m : Int), inS := true }) := rfl
  have HT : Hid (0 ≤ putAt (Tn.nd d m).shadow x → (Tn.nd d m).shadow.length < 12 → Tame (putDoc d n m x true) ∧ (∀ j s, (Tn.liD (putDoc d n m x true) j s).length ≤ 1000) ∧ Tn.lvD (putDoc d n m x true) n = true) := hT
  have hAE := putAt_end (Tn.nd d m).shadow x hx
  rw [hKn] at hL hlist
  clear hT hls hfz W1 h hKn
  have QL : Hid _ := hlist
  clear hlist
  have hof : 0 + m * 9 + lof true = m * 9 + 7 := by simp [lof]
  have hLO := dlistOf_any D1.out m hm true
  rw [hof] at hLO
  rcases putAt_cases (Tn.nd d m).shadow x with hat | ⟨i, hil, hat⟩
  · have E : Hid (putCode d n m x true = 8) := by show _ = _; rw [PC.out, hat]; rfl
    omega
  · by_cases h12 : 12 ≤ (Tn.nd d m).shadow.length
    · have E : Hid (putCode d n m x true = 5) := by show _ = _; rw [PC.out, if_neg (by omega), if_pos h12]
      have hil2 : i = (Tn.nd d m).shadow.length := by omega
      subst hil2
      go_enter Try.func78, Try.ntmps78
      go_wp2_with (first
        | (go_at_call 87; refine hLO.mono ?_; rintro e w' ⟨rfl, hww⟩; subst hww))
      go_ret
      exact ⟨by rw [E.out]; rfl, BA, fun hc => by rw [E.out] at hc; cases hc⟩
    · obtain ⟨t1, t2, t3⟩ := HT.out (by omega) (by omega)
      have hil2 : i = (Tn.nd d m).shadow.length := by omega
      subst hil2
      go_enter Try.func78, Try.ntmps78
      go_upto_region 9 with (first
        | (go_at_call 87; refine hLO.mono ?_; rintro e w' ⟨rfl, hww⟩; subst hww))
      generalize hWA : w.alloc (.cells #[.slice (some ⟨g, 0, none⟩) rs.length c] 25) = wA at *
      have hob : (Value.slice rs[m].s.p (Tn.nd d m).shadow.length rs[m].s.c).ownBlock = blk rs[m] 2 := by
        unfold blk sblk lst
        cases rs[m].s.p <;> rfl
      have BB : Below wA.heap.size wA (wA.alloc (.cells #[.int .i64 (n : Int)] 3)) := (Below.refl _ _).alloc (Nat.le_refl _) _
      have OB : Hid (Owned (wA.alloc (.cells #[.int .i64 (n : Int)] 3)) B g c rs d) := O1.out.below BB (Nat.le_refl _)
      have hBA : B ≤ wA.heap.size := Nat.le_trans hB BA.size
      have hIns := insI_any (vb := wA.heap.size) (x := n) (OwnI.below QL.out BB (Nat.le_refl _)) (by simp; omega) hl (Tn.nd d m).shadow.length hil (heap_alloc_new wA _) (by
        rw [hob]
        intro e
        have := O1.out.low m hm 2 _ e
        omega)
      rw [hob] at hIns
      have hLB := keeps_below BB (Nat.le_refl _) _ _ hL
      have hkB := keeps_below BB (Nat.le_refl _) _ _ hk0
      have hBw : Below B w (wA.alloc (.cells #[.int .i64 (n : Int)] 3)) := BA.alloc (by omega) _
      have hBz : B ≤ (wA.alloc (.cells #[.int .i64 (n : Int)] 3)).heap.size := by simp; omega
      go_upto_region 10 with (go_at_call 89; refine hIns.mono ?_; rintro e w9 ⟨v9, rfl, ho9, hg9, hb9⟩; have ho9' := ho9; obtain ⟨p9, c9, rfl⟩ := ho9'.shape; have R9 := rowN_at (OB.out.rowGrown hm 2 hg9) m hm; have L9 := R9.2.2.1; have F9 := R9.2.2.2 (m * 9 + 7))
      have hblk9 : sblk ⟨p9, (Tn.insertAt (Tn.nd d m).shadow (Tn.nd d m).shadow.length n).length, c9⟩ = blk rs[m] 2 ∨ ∃ x, (wA.alloc (.cells #[.int .i64 (n : Int)] 3)).heap.size ≤ x ∧ x < w9.heap.size ∧ sblk ⟨p9, (Tn.insertAt (Tn.nd d m).shadow (Tn.nd d m).shadow.length n).length, c9⟩ = some x := by
        rw [sblk_own ⟨p9, _, c9⟩] at hb9
        rcases hb9 with e | ⟨y, hy, e⟩
        · exact Or.inl e
        · exact Or.inr ⟨y, hy, (World.ownsRow.lt ho9 y (by rw [sblk_own ⟨p9, _, c9⟩]; exact e)).2, e⟩
      have hN := OB.out.nds m hm hmd
      rw [← nd_at hmd] at hN
      have hne : ∀ t', t' ≠ 2 → ∀ y, blk rs[m] t' = some y → blk rs[m] 2 ≠ some y := fun t' ht' y h1 h2 => ht' (OB.out.sep.one m hm t' m hm 2 y h1 h2).2
      have F2 : Fr g rs w g (rs.set m { rs[m] with s := ⟨p9, (Tn.insertAt (Tn.nd d m).shadow (Tn.nd d m).shadow.length n).length, c9⟩ }) (w9.setCell ⟨g, m * 9 + 7, none⟩ (.slice p9 (Tn.insertAt (Tn.nd d m).shadow (Tn.nd d m).shadow.length n).length c9)) :=
        (FA.below BB).trans (Fr.list hm 2 (r' := { rs[m] with s := ⟨p9, (Tn.insertAt (Tn.nd d m).shadow (Tn.nd d m).shadow.length n).length, c9⟩ }) hg9 (fun t' ht' => by match t' with | 0 => rfl | 1 => rfl | 2 => exact absurd rfl ht') hblk9 _ _)
      have O2 := OB.out.list hm 2 (r' := { rs[m] with s := ⟨p9, (Tn.insertAt (Tn.nd d m).shadow (Tn.nd d m).shadow.length n).length, c9⟩ }) (n' := Tn.setList (Tn.nd d m) true (Tn.insertAt (Tn.nd d m).shadow (Tn.nd d m).shadow.length n)) hg9
        (fun t' ht' => by match t' with | 0 => rfl | 1 => rfl | 2 => exact absurd rfl ht') hblk9
        ⟨hN.live, hN.tag, hN.text, hN.up, hN.hasS, hN.inS, owns_grown hN.attrs hg9 (hne 0 (by decide)), owns_grown hN.kids hg9 (hne 1 (by decide)), ho9⟩ 7 (by decide) (.slice p9 (Tn.insertAt (Tn.nd d m).shadow (Tn.nd d m).shadow.length n).length c9) rfl
      have PI2 := PI.out
      rw [hat, Int.toNat_natCast] at PI2
      rw [← PI2] at O2
      have hkw : (w9.setCell ⟨g, m * 9 + 7, none⟩ (.slice p9 (Tn.insertAt (Tn.nd d m).shadow (Tn.nd d m).shadow.length n).length c9)).cell? ⟨w.heap.size, 0, none⟩ = some (.slice (some ⟨g, 0, none⟩) rs.length c) := by
        rw [World.cell?_setCell_other _ _ _ _ (by intro e; injection e with e; omega)]
        exact World.grownBy.cell hg9 hkB (fun e => hlowK m hm 2 e.symm)
      have B9 : Below B w w9 := hBw.grown hg9 hBz (fun k hk => (World.ownsRow.lt QL.out k (by rw [hob]; exact hk)).1)
      have B2 : Below B w (w9.setCell ⟨g, m * 9 + 7, none⟩ (.slice p9 (Tn.insertAt (Tn.nd d m).shadow (Tn.nd d m).shadow.length n).length c9)) := B9.setCell (p := ⟨g, m * 9 + 7, none⟩) hBg _
      generalize w9.setCell ⟨g, m * 9 + 7, none⟩ (.slice p9 (Tn.insertAt (Tn.nd d m).shadow (Tn.nd d m).shadow.length n).length c9) = W2 at *
      have hr2 : (rs.set m { rs[m] with s := ⟨p9, (Tn.insertAt (Tn.nd d m).shadow (Tn.nd d m).shadow.length n).length, c9⟩ }).length = rs.length := by simp
      generalize rs.set m { rs[m] with s := ⟨p9, (Tn.insertAt (Tn.nd d m).shadow (Tn.nd d m).shadow.length n).length, c9⟩ } = rs2 at *
      have hn2 : n < rs2.length := by omega
      obtain ⟨U1, U2⟩ := O2.upIns hn2 (m : Int) true
      rw [← PD.out] at U1 U2
      obtain ⟨_, _, hf2⟩ := O2.at (by omega)
      have Dw2 := O2.doc (by omega)
      have q4 := Dw2.row.c4 n hn2
      have q8 := Dw2.row.c8 n hn2
      rw [Nat.zero_add] at q4 q8
      have f4 := hf2 (n * 9 + 4)
      have f8 := hf2 (n * 9 + 8)
      have QU1 : Hid _ := U1
      have QU2 : Hid _ := U2
      have hgK : g ≠ w.heap.size := by omega
      have hn2' : (n : Int) < (rs.length : Int) := by omega
      clear U1 U2 hf2 Dw2 O2 PI2 hne hN hblk9 hb9 hg9 ho9 ho9' R9 L9 F9 hIns hLB hkB OB O1 D1 BA BB hLO hL hk0 QL HT
      obtain ⟨d3, hd3⟩ : ∃ d3, d3 = putDoc d n m x true := ⟨_, rfl⟩
      rw [← hd3] at QU1 t1 t2 t3 PC
      have QD : Hid (d3 = putDoc d n m x true) := hd3
      clear hd3 PD
      generalize rs2[n].up = uu at *
      generalize rs2[n].inS = ii at *
      go_region
      obtain ⟨rs3, hr3, O3, F3⟩ := QU1.out
      have F4 := (F2.trans F3).below (Below.drew (Below.refl _ _))
      have hr : rs3.length = rs.length := by omega
      have B3 : Below B w ((W2.setCell ⟨g, n * 9 + 4, none⟩ (.int .i64 (m : Int))).setCell ⟨g, n * 9 + 8, none⟩ (.bool true)).drew := ((B2.setCell (p := ⟨g, n * 9 + 4, none⟩) hBg _).setCell (p := ⟨g, n * 9 + 8, none⟩) hBg _).drew
      have O4 : Owned ((W2.setCell ⟨g, n * 9 + 4, none⟩ (.int .i64 (m : Int))).setCell ⟨g, n * 9 + 8, none⟩ (.bool true)).drew B g c rs3 d3 := O3.below (Below.drew (Below.refl _ _)) (Nat.le_refl _)
      have hkw3 : ((W2.setCell ⟨g, n * 9 + 4, none⟩ (.int .i64 (m : Int))).setCell ⟨g, n * 9 + 8, none⟩ (.bool true)).drew.cell? ⟨w.heap.size, 0, none⟩ = some (.slice (some ⟨g, 0, none⟩) rs.length c) := by
        rw [World.cell?_drew, World.cell?_setCell_other _ _ _ _ (by intro e; injection e with e; omega), World.cell?_setCell_other _ _ _ _ (by intro e; injection e with e; omega)]
        exact hkw
      have D4 : Hid (DocAt ((W2.setCell ⟨g, n * 9 + 4, none⟩ (.int .i64 (m : Int))).setCell ⟨g, n * 9 + 8, none⟩ (.bool true)).drew g 0 c rs3 d3) := O4.doc (by omega)
      generalize ((W2.setCell ⟨g, n * 9 + 4, none⟩ (.int .i64 (m : Int))).setCell ⟨g, n * 9 + 8, none⟩ (.bool true)).drew = W3 at *
      have hAll := dall_any D4.out t1 t2 n t3
      rw [hr] at hAll
      have HCF : Hid (∀ (W : World) (v : Value), Below W3.heap.size W3 W → OwnI W W3.heap.size v (Tn.all Tn.fuel d3 n) → Calls Try.prog 90 #[v, .func (.func 91) #[] #[.pointer (some ⟨w.heap.size, 0, none⟩)]] W fun e w' => e = .returned (.bool ((Tn.all Tn.fuel d3 n).any (tooDeep d3))) ∧ Below W.heap.size W w') := by
        intro W v hW ho
        refine contF_any put1_enters (ints_of_owns ho) (fun V hV => ?_)
        have hK := (keeps_below hW (Nat.le_refl _)).trans (keeps_below hV (Nat.le_refl _))
        have hc := hK _ _ hkw3
        rw [← hr] at hc
        exact put1_tests (D4.out.keeps hK) t1 hc
      have O5 : Hid _ := O4
      clear QU1 QU2 O3 O4 hkw q4 q8 f4 f8 D4 F2 F3
      cases hany : (Tn.all Tn.fuel d3 n).any (tooDeep d3) with
      | true =>
        have E : Hid (putCode d n m x true = 3) := by show _ = _; rw [PC.out, if_neg (by omega), if_neg h12, hany]; rfl
        rw [hany] at HCF
        clear PC PI
        go_wp2_with (first
          | (go_at_call 31; refine hAll.mono ?_; rintro e w5 ⟨v5, rfl, ho5, hb5⟩)
          | (go_at_call 90; refine (HCF.out _ _ hb5 ho5).mono ?_; rintro e w6 ⟨rfl, hb6⟩))
        go_ret
        exact ⟨by rw [E.out]; rfl, (B3.trans (hb5.mono (Nat.le_trans hB B3.size))).trans (hb6.mono (Nat.le_trans (Nat.le_trans hB B3.size) hb5.size)), fun hc => by rw [E.out] at hc; cases hc⟩
      | false =>
        have E : Hid (putCode d n m x true = 0) := by show _ = _; rw [PC.out, if_neg (by omega), if_neg h12, hany]; rfl
        rw [hany] at HCF
        clear PC PI
        go_wp2_with (first
          | (go_at_call 31; refine hAll.mono ?_; rintro e w5 ⟨v5, rfl, ho5, hb5⟩)
          | (go_at_call 90; refine (HCF.out _ _ hb5 ho5).mono ?_; rintro e w6 ⟨rfl, hb6⟩))
        go_ret
        exact ⟨by rw [E.out]; rfl, (B3.trans (hb5.mono (Nat.le_trans hB B3.size))).trans (hb6.mono (Nat.le_trans (Nat.le_trans hB B3.size) hb5.size)), fun _ => ⟨rs3, hr, by rw [← QD.out]; exact (O5.out.below hb5 (Nat.le_refl _)).below hb6 (Nat.le_refl _), (F4.below hb5).below hb6⟩⟩
end Go.Proofs.Ytookcjdibpccpab

/-
  THE WALKS of dom.put, whatever is asked, and of dom.move.
-/
namespace Go.Proofs.Ytookcjdibpccpab
open Go.RowKit

theorem dput_any {w : World} {B g c : Nat} {rs : List Raw} {d : Tn.Dc} (h : Owned w B g c rs d) (hB : B ≤ w.heap.size) {n m : Nat} (hn : n < rs.length) (hm : m < rs.length) (hls : ∀ s, (Tn.liD d m s).length ≤ 1000) (before : Int) (s : Bool)
    (hT : 0 ≤ putAt (Tn.listOf (Tn.nd d m) s) before → (Tn.listOf (Tn.nd d m) s).length < 12 → Tame (putDoc d n m before s) ∧ (∀ j t, (Tn.liD (putDoc d n m before s) j t).length ≤ 1000) ∧ Tn.lvD (putDoc d n m before s) n = true) :
    Calls Try.prog 78 #[.slice (some ⟨g, 0, none⟩) rs.length c, .int .i64 (n : Int), .int .i64 (m : Int), .int .i64 before, .bool s] w fun e w' => e = .returned (.int .i64 (putCode d n m before s)) ∧ Below B w w' ∧ (putCode d n m before s = 0 → ∃ rs', rs'.length = rs.length ∧ Owned w' B g c rs' (putDoc d n m before s) ∧ Fr g rs w g rs' w') := by
  by_cases hb : before < 0
  · cases s with
    | false => exact dput_Endfalse h hB hn hm hls before hb hT
    | true => exact dput_Endtrue h hB hn hm hls before hb hT
  · obtain ⟨x, rfl⟩ := Int.eq_ofNat_of_zero_le (show 0 ≤ before by omega)
    cases s with
    | false => exact dput_Atfalse h hB hn hm hls x hT
    | true => exact dput_Attrue h hB hn hm hls x hT

def chg6 (x : Tn.Chg) : Value := .agg #[.int .i64 x.kind, .int .i64 x.node, .int .i64 x.to, .int .i64 x.before, .string x.name, .string x.value]

/-- the document behind takeOut, in a move -/
def moveIn (d : Tn.Dc) (n : Nat) : Tn.Dc := takeS d (Tn.upD d n) (Tn.nd d n).inS n
def moveCode (d : Tn.Dc) (n : Nat) (x : Tn.Chg) : Int :=
  if n = 0 ∨ Tn.isN d x.to true = false then 8
  else if Tn.within d x.to (n : Int) then 9
  else if x.before = (n : Int) then 8
  else putCode (moveIn d n) n x.to.toNat x.before false

set_option maxHeartbeats 3200000 in
set_option maxRecDepth 100000 in
theorem dmove_any {w : World} {B g c : Nat} {rs : List Raw} {d : Tn.Dc} (h : Owned w B g c rs d) (hB : B ≤ w.heap.size) (hT : Tame d) (x : Tn.Chg) {n : Nat} (hxn : x.node = (n : Int)) (hn : n < rs.length)
    (hup : n ≠ 0 → ∃ u : Nat, (Tn.nd d n).up = (u : Int) ∧ u < rs.length) (hls : ∀ j s, (Tn.liD d j s).length ≤ 1000)
    (hls2 : n ≠ 0 → ∀ j s, (Tn.liD (moveIn d n) j s).length ≤ 1000)
    (hT2 : n ≠ 0 → Tn.isN d x.to true = true → Tn.within d x.to (n : Int) = false → 0 ≤ putAt (Tn.listOf (Tn.nd (moveIn d n) x.to.toNat) false) x.before → (Tn.listOf (Tn.nd (moveIn d n) x.to.toNat) false).length < 12 → Tame (putDoc (moveIn d n) n x.to.toNat x.before false) ∧ (∀ j t, (Tn.liD (putDoc (moveIn d n) n x.to.toNat x.before false) j t).length ≤ 1000) ∧ Tn.lvD (putDoc (moveIn d n) n x.to.toNat x.before false) n = true) :
    Calls Try.prog 57 #[.slice (some ⟨g, 0, none⟩) rs.length c, chg6 x] w fun e w' => e = .returned (.int .i64 (moveCode d n x)) ∧ Below B w w' ∧ (moveCode d n x = 0 → ∃ rs', rs'.length = rs.length ∧ Owned w' B g c rs' (putDoc (moveIn d n) n x.to.toNat x.before false) ∧ Fr g rs w g rs' w') := by
  have h0 : 0 < rs.length := by omega
  obtain ⟨kd, nd0, tt, bf, nm, vl⟩ := x
  simp only at hxn hT2
  subst hxn
  have W1 : Below w.heap.size w (w.alloc (.cells #[.int .i64 kd, .int .i64 (n : Int), .int .i64 tt, .int .i64 bf, .string nm, .string vl] 28)) := (Below.refl _ _).alloc (Nat.le_refl _) _
  have O1 : Hid (Owned (w.alloc (.cells #[.int .i64 kd, .int .i64 (n : Int), .int .i64 tt, .int .i64 bf, .string nm, .string vl] 28)) B g c rs d) := h.below W1 (Nat.le_refl _)
  have D1 : Hid (DocAt (w.alloc (.cells #[.int .i64 kd, .int .i64 (n : Int), .int .i64 tt, .int .i64 bf, .string nm, .string vl] 28)) g 0 c rs d) := O1.out.doc h0
  have BA : Below B w (w.alloc (.cells #[.int .i64 kd, .int .i64 (n : Int), .int .i64 tt, .int .i64 bf, .string nm, .string vl] 28)) := (Below.refl B w).alloc hB _
  have MC : Hid (moveCode d n ⟨kd, (n : Int), tt, bf, nm, vl⟩ = if n = 0 ∨ Tn.isN d tt true = false then 8 else if Tn.within d tt (n : Int) then 9 else if bf = (n : Int) then 8 else putCode (moveIn d n) n tt.toNat bf false) := rfl
  have hwi := dwithin_any D1.out hT tt (n : Int)
  unfold chg6
  simp only
  have HF : Hid (∀ {y : Nat}, w.heap.size ≤ y → ¬ DB g rs y) := fun hy => h.free h0 hy
  clear h W1
  by_cases hn0 : n = 0
  · subst hn0
    have E : Hid (moveCode d 0 ⟨kd, ((0 : Nat) : Int), tt, bf, nm, vl⟩ = 8) := by show _ = _; rw [MC.out, if_pos (Or.inl rfl)]
    clear MC hT2 hls2 hwi
    go_enter Try.func57, Try.ntmps57
    go_wp2_with fail
    go_ret
    exact ⟨by rw [E.out]; rfl, BA, fun hc => by rw [E.out] at hc; cases hc⟩
  · have hq0 : ((n : Int) == 0) = false := by simp; omega
    cases hto : Tn.isN d tt true with
    | false =>
      have E : Hid (moveCode d n ⟨kd, (n : Int), tt, bf, nm, vl⟩ = 8) := by show _ = _; rw [MC.out, if_pos (Or.inr hto)]
      clear MC hT2 hls2 hwi
      go_enter Try.func57, Try.ntmps57
      go_wp2_with (go_at_call 10; refine (dis_any D1.out _ _).mono ?_; rintro e w' ⟨rfl, hww⟩; subst hww; rw [hto])
      go_ret
      exact ⟨by rw [E.out]; rfl, BA, fun hc => by rw [E.out] at hc; cases hc⟩
    | true =>
      cases hwt : Tn.within d tt (n : Int) with
      | true =>
        have E : Hid (moveCode d n ⟨kd, (n : Int), tt, bf, nm, vl⟩ = 9) := by show _ = _; rw [MC.out, if_neg (by simp [hn0, hto]), if_pos hwt]
        rw [hwt] at hwi
        clear MC hT2 hls2
        go_enter Try.func57, Try.ntmps57
        go_wp2_with (first
          | (go_at_call 10; refine (dis_any D1.out _ _).mono ?_; rintro e w' ⟨rfl, hww⟩; subst hww; rw [hto])
          | (go_at_call 11; refine hwi.mono ?_; rintro e w2 ⟨rfl, hb2⟩))
        go_ret
        exact ⟨by rw [E.out]; rfl, BA.trans (hb2.mono (by simp; omega)), fun hc => by rw [E.out] at hc; cases hc⟩
      | false =>
        obtain ⟨u, hu, hul⟩ := hup hn0
        obtain ⟨t, ht, htl, _⟩ := isN_nat (isN_true hto)
        subst ht
        have htr : t < rs.length := by rw [O1.out.len]; exact htl
        have hz1 : w.heap.size < (w.alloc (.cells #[.int .i64 kd, .int .i64 (n : Int), .int .i64 (t : Int), .int .i64 bf, .string nm, .string vl] 28)).heap.size := by simp
        have FA : Fr g rs w g rs (w.alloc (.cells #[.int .i64 kd, .int .i64 (n : Int), .int .i64 (t : Int), .int .i64 bf, .string nm, .string vl] 28)) := (Fr.refl g rs w).below ((Below.refl _ _).alloc (Nat.le_refl _) _)
        have hfree : ¬ DB g rs w.heap.size := HF.out (Nat.le_refl _)
        have hud : Tn.upD d n = u := by unfold Tn.upD; rw [hu]; simp
        have x1 : (w.alloc (.cells #[.int .i64 kd, .int .i64 (n : Int), .int .i64 (t : Int), .int .i64 bf, .string nm, .string vl] 28)).cell? ⟨w.heap.size, 1, none⟩ = some (.int .i64 (n : Int)) := by rw [World.cell?_alloc_new]; rfl
        have x2 : (w.alloc (.cells #[.int .i64 kd, .int .i64 (n : Int), .int .i64 (t : Int), .int .i64 bf, .string nm, .string vl] 28)).cell? ⟨w.heap.size, 2, none⟩ = some (.int .i64 (t : Int)) := by rw [World.cell?_alloc_new]; rfl
        have x3 : (w.alloc (.cells #[.int .i64 kd, .int .i64 (n : Int), .int .i64 (t : Int), .int .i64 bf, .string nm, .string vl] 28)).cell? ⟨w.heap.size, 3, none⟩ = some (.int .i64 bf) := by rw [World.cell?_alloc_new]; rfl
        rw [hwt] at hwi
        by_cases hbf : bf = (n : Int)
        · have E : Hid (moveCode d n ⟨kd, (n : Int), (t : Int), bf, nm, vl⟩ = 8) := by show _ = _; rw [MC.out, if_neg (by simp [hn0, hto]), hwt, if_neg (by simp), if_pos hbf]
          have hq : (bf == (n : Int)) = true := by simpa using hbf
          clear MC hT2 hls2 hbf
          go_enter Try.func57, Try.ntmps57
          go_wp2_with (first
            | (go_at_call 10; refine (dis_any D1.out _ _).mono ?_; rintro e w' ⟨rfl, hww⟩; subst hww; rw [hto])
            | (go_at_call 11; refine hwi.mono ?_; rintro e w2 ⟨rfl, hb2⟩; have K2 := keeps_below hb2 (Nat.le_refl _); have y1 := K2 _ _ x1; have y3 := K2 _ _ x3))
          go_ret
          exact ⟨by rw [E.out]; rfl, BA.trans (hb2.mono (by omega)), fun hc => by rw [E.out] at hc; cases hc⟩
        · have E : Hid (moveCode d n ⟨kd, (n : Int), (t : Int), bf, nm, vl⟩ = putCode (moveIn d n) n t bf false) := by show _ = _; rw [MC.out, if_neg (by simp [hn0, hto]), hwt, if_neg (by simp), if_neg hbf]; rfl
          have hq : (bf == (n : Int)) = false := by simpa using hbf
          have hT3 := hT2 hn0 hto hwt
          simp only [Int.toNat_natCast] at hT3
          have QT : Hid _ := hT3
          have HTk : Hid (∀ W, Owned W B g c rs d → B ≤ W.heap.size → Calls Try.prog 77 #[.slice (some ⟨g, 0, none⟩) rs.length c, .int .i64 (n : Int)] W fun e w' => e = .returned (.tuple #[]) ∧ (∃ rs', rs'.length = rs.length ∧ Owned w' B g c rs' (moveIn d n) ∧ Fr g rs W g rs' w') ∧ Below B W w') := by
            intro W hW hBW
            have := dtake_any hW hBW hn hul hu (fun s => hls u s)
            unfold moveIn
            rw [hud]
            exact this
          have HPu : Hid (∀ (W : World) (rs' : List Raw), rs'.length = rs.length → Owned W B g c rs' (moveIn d n) → B ≤ W.heap.size → Calls Try.prog 78 #[.slice (some ⟨g, 0, none⟩) rs.length c, .int .i64 (n : Int), .int .i64 (t : Int), .int .i64 bf, .bool false] W fun e w' => e = .returned (.int .i64 (putCode (moveIn d n) n t bf false)) ∧ Below B W w' ∧ (putCode (moveIn d n) n t bf false = 0 → ∃ rs'', rs''.length = rs.length ∧ Owned w' B g c rs'' (putDoc (moveIn d n) n t bf false) ∧ Fr g rs' W g rs'' w')) := by
            intro W rs' hr hW hBW
            have := dput_any hW hBW (n := n) (m := t) (by omega) (by omega) (fun s => hls2 hn0 t s) bf false QT.out
            rw [hr] at this
            exact this
          clear MC hT2 hls2 hbf hT3 QT
          have Q1 : Hid _ := hfree
          have Q2 : Hid _ := FA
          clear hfree FA
          generalize moveIn d n = dm at *
          go_enter Try.func57, Try.ntmps57
          go_wp2_with (first
            | (go_at_call 10; refine (dis_any D1.out _ _).mono ?_; rintro e w' ⟨rfl, hww⟩; subst hww; rw [hto])
            | (go_at_call 11; refine hwi.mono ?_; rintro e w2 ⟨rfl, hb2⟩; have K2 := keeps_below hb2 (Nat.le_refl _); have y1 := K2 _ _ x1; have y2 := K2 _ _ x2; have y3 := K2 _ _ x3; have B2 := BA.trans (hb2.mono (show B ≤ _ by omega)); have O2 := O1.out.below hb2 (Nat.le_refl _); have F2 := Q2.out.below hb2)
            | (go_at_call 77; refine (HTk.out _ O2 (Nat.le_trans hB B2.size)).mono ?_; rintro e w3 ⟨rfl, ⟨rs3, hr3, O3, F3⟩, hb3⟩; have z1 := F3.cell y1 Q1.out; have z2 := F3.cell y2 Q1.out; have z3 := F3.cell y3 Q1.out; have B3 := B2.trans hb3)
            | (go_at_call 78; refine (HPu.out _ rs3 hr3 O3 (Nat.le_trans hB B3.size)).mono ?_; rintro e w4 ⟨rfl, hb4, hO4⟩))
          go_ret
          refine ⟨by rw [E.out]; rfl, B3.trans hb4, fun hc => ?_⟩
          rw [E.out] at hc
          obtain ⟨rs4, hr4, O4, F4⟩ := hO4 hc
          exact ⟨rs4, by omega, by simpa using O4, (F2.trans F3).trans F4⟩
end Go.Proofs.Ytookcjdibpccpab

/-
  THE WALK of dom.remove, in a document of the call's own.
-/
namespace Go.Proofs.Ytookcjdibpccpab
open Go.RowKit

/-- a node's nine cells are written -/
def set9 (w : World) (g k : Nat) (r : Raw) : World :=
  (((((((((w.setCell ⟨g, k * 9, none⟩ (.bool r.live)).setCell ⟨g, k * 9 + 1, none⟩ (.string r.tag)).setCell ⟨g, k * 9 + 2, none⟩ (.string r.text)).setCell ⟨g, k * 9 + 3, none⟩ (.slice r.a.p r.a.n r.a.c)).setCell ⟨g, k * 9 + 4, none⟩ (.int .i64 r.up)).setCell
    ⟨g, k * 9 + 5, none⟩ (.slice r.k.p r.k.n r.k.c)).setCell ⟨g, k * 9 + 6, none⟩ (.bool r.hasS)).setCell ⟨g, k * 9 + 7, none⟩ (.slice r.s.p r.s.n r.s.c)).setCell ⟨g, k * 9 + 8, none⟩ (.bool r.inS))

theorem set9_grown (w : World) (g k : Nat) (r : Raw) : w.grownBy (set9 w g k r) (some g) :=
  grow_set (grow_set (grow_set (grow_set (grow_set (grow_set (grow_set (grow_set (grow_set (grown_refl w (some g)) _ _) _ _) _ _) _ _) _ _) _ _) _ _) _ _) _ _

/-- a node without lists -/
structure Bare (r : Raw) (n : Tn.Nd) : Prop where
  live : r.live = n.live
  tag : r.tag = n.tag
  text : r.text = n.text
  up : r.up = n.up
  hasS : r.hasS = n.hasS
  inS : r.inS = n.inS
  a : r.a = ⟨none, 0, 0⟩
  k : r.k = ⟨none, 0, 0⟩
  s : r.s = ⟨none, 0, 0⟩
  attrs : n.attrs = []
  kids : n.kids = []
  shadow : n.shadow = []

theorem Bare.own {r : Raw} {n : Tn.Nd} (h : Bare r n) (w : World) (B : Nat) : OwnNd w B r n := by
  refine ⟨h.live, h.tag, h.text, h.up, h.hasS, h.inS, ?_, ?_, ?_⟩
  · rw [h.a, h.attrs]; exact OwnA.nil _ _
  · rw [h.k, h.kids]; exact OwnI.nil _ _
  · rw [h.s, h.shadow]; exact OwnI.nil _ _
theorem Bare.blk {r : Raw} {n : Tn.Nd} (h : Bare r n) (t : Fin 3) : blk r t = none := by
  unfold Go.Proofs.Ytookcjdibpccpab.blk sblk
  match t with
  | 0 => show (r.a).p.map _ = none; rw [h.a]; rfl
  | 1 => show (r.k).p.map _ = none; rw [h.k]; rfl
  | 2 => show (r.s).p.map _ = none; rw [h.s]; rfl

theorem Owned.bare {w : World} {B g c : Nat} {rs : List Raw} {d : Tn.Dc} (h : Owned w B g c rs d) {k : Nat} (hk : k < rs.length) {r : Raw} {n : Tn.Nd} (hb : Bare r n) : Owned (set9 w g k r) B g c (rs.set k r) (d.set k n) ∧ Fr g rs w g (rs.set k r) (set9 w g k r) := by
  have hgr := set9_grown w g k r
  have hbk : ∀ j (hj : j < (rs.set k r).length) t x, Go.Proofs.Ytookcjdibpccpab.blk (rs.set k r)[j] t = some x → ∃ hj1 : j < rs.length, Go.Proofs.Ytookcjdibpccpab.blk rs[j] t = some x := by
    intro j hj t x e
    have hj1 : j < rs.length := by simpa using hj
    by_cases ejk : j = k
    · subst ejk
      rw [List.getElem_set_self, hb.blk t] at e
      cases e
    · rw [List.getElem_set_ne (fun x => ejk x.symm)] at e
      exact ⟨hj1, e⟩
  refine ⟨⟨?_, by simpa using h.len, ?_, ⟨?_, ?_⟩, ?_⟩, hgr.size, ?_, ?_⟩
  · have := own_setN rfl h.row r k hk
    simpa [set9] using this
  · intro j hj hj'
    have hj1 : j < rs.length := by simpa using hj
    have hj2 : j < d.length := by simpa using hj'
    by_cases e : j = k
    · subst e
      simp only [List.getElem_set_self]
      exact hb.own _ _
    · rw [List.getElem_set_ne (fun x => e x.symm), List.getElem_set_ne (fun x => e x.symm)]
      exact (h.nds j hj1 hj2).grown hgr (fun t x hx e2 => h.sep.row j hj1 t (by rw [hx]; exact e2.symm))
  · intro j hj t e
    obtain ⟨hj1, e2⟩ := hbk j hj t g e
    exact h.sep.row j hj1 t e2
  · intro j hj t j' hj' t' x e1 e2
    obtain ⟨hj1, g1⟩ := hbk j hj t x e1
    obtain ⟨hj2, g2⟩ := hbk j' hj' t' x e2
    exact h.sep.one j hj1 t j' hj2 t' x g1 g2
  · intro j hj t x e
    obtain ⟨hj1, e2⟩ := hbk j hj t x e
    exact Nat.lt_of_lt_of_le (h.low j hj1 t x e2) hgr.size
  · intro x hx hn
    exact hgr.block x hx (fun e => hn (Or.inl (by cases e; rfl)))
  · rintro x hx (e | ⟨j, hj, t, e⟩)
    · exact Or.inl e
    · obtain ⟨hj1, e2⟩ := hbk j hj t x e
      exact Or.inr ⟨j, hj1, t, e2⟩

def zeroR : Raw := ⟨false, ⟨#[]⟩, ⟨#[]⟩, ⟨none, 0, 0⟩, 0, ⟨none, 0, 0⟩, false, ⟨none, 0, 0⟩, false⟩
theorem bare_zero : Bare zeroR Tn.zero := ⟨rfl, rfl, rfl, rfl, rfl, rfl, rfl, rfl, rfl, rfl, rfl, rfl⟩

/-- the document without the nodes of l -/
def killD (l : List Nat) (d : Tn.Dc) : Tn.Dc := l.foldl (fun d k => d.set k Tn.zero) d
theorem killD_len (l : List Nat) : ∀ d : Tn.Dc, (killD l d).length = d.length := by
  induction l with
  | nil => intro d; rfl
  | cons a l ih => intro d; show (killD l (d.set a Tn.zero)).length = _; rw [ih]; simp
theorem killD_succ (l : List Nat) (d : Tn.Dc) (j : Nat) (h : j < l.length) : killD (l.take (j + 1)) d = (killD (l.take j) d).set l[j] Tn.zero := by
  unfold killD
  rw [List.take_succ_eq_append_getElem h, List.foldl_append]
  rfl

def remCode (n : Nat) : Int := if n = 0 then 8 else 0

set_option maxHeartbeats 3200000 in
set_option maxRecDepth 100000 in
theorem dremove_any {w : World} {B g c : Nat} {rs : List Raw} {d : Tn.Dc} (h : Owned w B g c rs d) (hB : B ≤ w.heap.size) {n : Nat} (hn : n < rs.length) (hup : n ≠ 0 → ∃ u : Nat, (Tn.nd d n).up = (u : Int) ∧ u < rs.length) (hls : ∀ j s, (Tn.liD d j s).length ≤ 1000)
    (hT : n ≠ 0 → Tame (moveIn d n) ∧ (∀ j s, (Tn.liD (moveIn d n) j s).length ≤ 1000) ∧ Tn.lvD (moveIn d n) n = true) (hlt : n ≠ 0 → ∀ k ∈ Tn.all Tn.fuel (moveIn d n) n, k < rs.length) :
    Calls Try.prog 58 #[.slice (some ⟨g, 0, none⟩) rs.length c, .int .i64 (n : Int)] w fun e w' => e = .returned (.int .i64 (remCode n)) ∧ Below B w w' ∧ (remCode n = 0 → ∃ rs', rs'.length = rs.length ∧ Owned w' B g c rs' (killD (Tn.all Tn.fuel (moveIn d n) n) (moveIn d n)) ∧ Fr g rs w g rs' w') := by
  have h0 : 0 < rs.length := by omega
  by_cases hn0 : n = 0
  · subst hn0
    have E : Hid (remCode 0 = 8) := rfl
    clear hT hlt
    go_enter Try.func58, Try.ntmps58
    go_wp2_with fail
    go_ret
    exact ⟨by rw [E.out]; rfl, Below.refl _ _, fun hc => by rw [E.out] at hc; cases hc⟩
  · have E : Hid (remCode n = 0) := by show _ = _; unfold remCode; rw [if_neg hn0]
    have hq0 : ((n : Int) == 0) = false := by simp; omega
    obtain ⟨u, hu, hul⟩ := hup hn0
    obtain ⟨t1, t2, t3⟩ := hT hn0
    have hud : Tn.upD d n = u := by unfold Tn.upD; rw [hu]; simp
    have hTk := dtake_any h hB hn hul hu (fun s => hls u s)
    have hmv : takeS d u (Tn.nd d n).inS n = moveIn d n := by unfold moveIn; rw [hud]
    rw [hmv] at hTk
    have LT : Hid (∀ k ∈ Tn.all Tn.fuel (moveIn d n) n, k < rs.length) := hlt hn0
    obtain ⟨hBg, hgl, _⟩ := h.at h0
    have hfew := t1.few Tn.fuel n
    have hlen := t1.len.2
    clear hT hlt hup hmv h
    generalize moveIn d n = dm at *
    go_enter Try.func58, Try.ntmps58
    go_upto_region 4 with (go_at_call 77; refine hTk.mono ?_; rintro e w3 ⟨rfl, ⟨rs3, hr3, O3, F3⟩, hb3⟩)
    have h30 : 0 < rs3.length := by omega
    have D3 : Hid (DocAt w3 g 0 c rs3 dm) := O3.doc h30
    have hAll := dall_any D3.out t1 t2 n t3
    rw [hr3] at hAll
    have hg3 : g < w3.heap.size := (O3.at h30).2.1
    have QF : Hid (∀ {y : Nat}, w3.heap.size ≤ y → ¬ DB g rs3 y) := fun hy => O3.free h30 hy
    have QO : Hid _ := O3
    clear O3
    obtain ⟨L, hL⟩ : ∃ L, L = Tn.all Tn.fuel dm n := ⟨_, rfl⟩
    rw [← hL] at hAll LT hfew
    have QL : Hid (L = Tn.all Tn.fuel dm n) := hL
    clear hL
    go_upto_region 5 with (go_at_call 31; refine hAll.mono ?_; rintro e w5 ⟨v5, rfl, ho5, hb5⟩; have ho5' := ho5; obtain ⟨p5, c5, rfl⟩ := ho5'.shape)
    obtain ⟨_, _, he, hlc, hcm, _, hat⟩ := (ints_of_owns ho5).at
    cases he
    have T : Hid (∀ j (hj : j < L.length), ∃ b1 o1, p5 = some ⟨b1, o1, none⟩ ∧ w3.heap.size ≤ b1 ∧ w5.cell? ⟨b1, o1 + j, none⟩ = some (.int .i64 (L[j] : Int))) := by
      intro j hj
      obtain ⟨b1, o1, e1, e2⟩ := hat j hj
      exact ⟨b1, o1, e1, OwnI.off ho5 _ e1, e2⟩
    have O5 : Owned w5 B g c rs3 dm := QO.out.below hb5 (Nat.le_refl _)
    have F5 : Fr g rs w g rs3 w5 := F3.below hb5
    have B3 : Below B w w5 := hb3.trans (hb5.mono (Nat.le_trans hB hb3.size))
    clear ho5 ho5' hat hAll QO D3 hTk F3 hb5 hb3
    go_loopw [16] (fun i wr => ∃ (j : Nat) (rj : List Raw), j ≤ L.length ∧ i = .int .i64 j ∧ rj.length = rs.length ∧ Owned wr B g c rj (killD (L.take j) dm) ∧ Fr g rs3 w5 g rj wr ∧ Below B w wr) (fun i _ => L.length - (intOf i).toNat)
    case atStart => exact ⟨0, rs3, Nat.zero_le _, rfl, hr3, O5, Fr.refl _ _ _, B3⟩
    case round =>
      obtain ⟨j, rj, hj, rfl, hrj, OJ, FJ, BJ⟩ := hrel
      by_cases hjl : j < L.length
      · obtain ⟨b1, o1, rfl, hb1, hc⟩ := T.out j hjl
        have hcr := FJ.cell hc (QF.out hb1)
        have hkl := LT.out _ (List.getElem_mem hjl)
        have F : Hid _ := killD_succ L dm j hjl
        have hkr : L[j] < rj.length := by omega
        obtain ⟨O6, F6⟩ := OJ.bare hkr bare_zero
        rw [← F.out] at O6
        have DJ := OJ.doc (by omega)
        obtain ⟨_, _, hfz⟩ := OJ.at (by omega)
        have q0 := DJ.row.c0 _ hkr
        have q1 := DJ.row.c1 _ hkr
        have q2 := DJ.row.c2 _ hkr
        have q3 := DJ.row.c3 _ hkr
        have q4 := DJ.row.c4 _ hkr
        have q5 := DJ.row.c5 _ hkr
        have q6 := DJ.row.c6 _ hkr
        have q7 := DJ.row.c7 _ hkr
        have q8 := DJ.row.c8 _ hkr
        rw [Nat.zero_add] at q0 q1 q2 q3 q4 q5 q6 q7 q8
        have B6 : Below B w (set9 wr g L[j] zeroR) := BJ.grown (set9_grown wr g L[j] zeroR) (Nat.le_trans hB BJ.size) (fun k hk => by cases hk; exact hBg)
        have QO6 : Hid _ := O6
        have QF6 : Hid _ := FJ.trans F6
        have QB6 : Hid _ := B6
        clear O6 F6 B6 OJ DJ FJ hc F
        generalize L[j] = x at *
        generalize rj[x] = rx at *
        obtain ⟨lv, tg, tx, ⟨ap, an, ac⟩, up, ⟨kp, kn, kc⟩, hs, ⟨sp, sn, sc⟩, ins⟩ := rx
        simp only at q0 q1 q2 q3 q4 q5 q6 q7 q8
        have hxl : (x : Int) < (rs.length : Int) := by omega
        go_wp2_with fail
        go_roundw
        case rel => exact ⟨j + 1, _, by omega, by go_num, by simpa using hrj, QO6.out, QF6.out, QB6.out⟩
        case measure => simp [intOf]; omega
      · obtain rfl : j = L.length := by omega
        rw [List.take_length] at OJ
        go_wp2_with fail
        go_ret
        exact ⟨by rw [E.out]; rfl, BJ, fun _ => ⟨rj, hrj, by rw [← QL.out]; exact OJ, F5.trans FJ⟩⟩
end Go.Proofs.Ytookcjdibpccpab

/-
  A DOCUMENT OF THE CALL's OWN, and one node more.
-/
namespace Go.Proofs.Ytookcjdibpccpab
open Go.RowKit

theorem zeroR_one : ∀ u ∈ zeroR.cells, u.oneCell' = true := by
  intro u hu
  have := oneCells_mem [zeroR] u (by simpa using hu)
  exact this

/-- append of the zero node -/
theorem Owned.push {w : World} {B g c : Nat} {rs : List Raw} {d : Tn.Dc} (h : Owned w B g c rs d) (hB : B ≤ w.heap.size) (h0 : 0 < rs.length) (hl : rs.length ≤ 1000) (ty : TypeId) {a : Nat} (ha : w.heap[a]? = some (.cells zeroR.cells.toArray 50 (0, 0))) :
    ∃ g' c' w', (Builtin.append_ #[25, 25] ty #[.slice (some ⟨g, 0, none⟩) rs.length c, .slice (some ⟨a, 0, none⟩) 1 1]).run Try.prog w = .ok (.slice (some ⟨g', 0, none⟩) (rs ++ [zeroR]).length c') w' ∧ Owned w' B g' c' (rs ++ [zeroR]) (d ++ [Tn.zero]) ∧ Fr g rs w g' (rs ++ [zeroR]) w' ∧ Below B w w' := by
  obtain ⟨i0, hi, hz0, hz1, hz2⟩ := info_parts infoN
  obtain ⟨hBg, hgl, _⟩ := h.at h0
  have hnews : ∀ j u, zeroR.cells[j]? = some u → w.cell? ((⟨a, 0, none⟩ : Addr).add j) = some u := by
    intro j u hu
    rw [add_at, Nat.zero_add]
    simp [World.cell?, ha, hu]
  obtain ⟨v', w', hr, ho, hgr, hb⟩ := run_append_blk ty Try.underlying25 hi hz0 hz1 hz2 rfl (by decide) (by decide) h.row hB ⟨a, 0, none⟩ 1 1 zeroR.cells rfl (by decide) hnews zeroR_one (by omega)
  have hob : (Value.slice (some ⟨g, 0, none⟩) rs.length c).ownBlock = some g := rfl
  rw [hob] at hgr hb
  have ho2 : OwnN w' B v' (rs ++ [zeroR]) := by
    unfold OwnN
    simpa using ho
  obtain ⟨g', c', rfl, h1, h2, h3, h4, _, _⟩ := own_at ho2 (by simp)
  have hg' : g' = g ∨ w.heap.size ≤ g' := by
    rcases hb with e | ⟨y, hy, e⟩
    · left
      simpa [Value.ownBlock] using e
    · right
      have e' : g' = y := by simpa [Value.ownBlock] using e
      omega
  have hbk : ∀ j (hj : j < (rs ++ [zeroR]).length) t x, blk (rs ++ [zeroR])[j] t = some x → ∃ hj1 : j < rs.length, blk rs[j] t = some x := by
    intro j hj t x e
    by_cases hj1 : j < rs.length
    · rw [List.getElem_append_left hj1] at e
      exact ⟨hj1, e⟩
    · have hj2 : j = rs.length := by simp at hj; omega
      subst hj2
      simp only [List.getElem_append_right (Nat.le_refl _), Nat.sub_self, List.getElem_cons_zero] at e
      rw [bare_zero.blk t] at e
      cases e
  refine ⟨g', c', w', hr, ⟨ho2, by simp [h.len], ?_, ⟨?_, ?_⟩, ?_⟩, ⟨hgr.size, ?_, ?_⟩, ?_⟩
  · intro j hj hj'
    by_cases hj1 : j < rs.length
    · have hj2 : j < d.length := by rw [← h.len]; exact hj1
      rw [List.getElem_append_left hj1, List.getElem_append_left hj2]
      exact (h.nds j hj1 hj2).grown hgr (fun t x hx e2 => h.sep.row j hj1 t (by rw [hx]; exact e2.symm))
    · have hj2 : j = rs.length := by simp at hj; omega
      subst hj2
      have e1 : (rs ++ [zeroR])[rs.length]'hj = zeroR := by simp
      have e2 : (d ++ [Tn.zero])[rs.length]'hj' = Tn.zero := by
        have := h.len
        simp [this]
      rw [e1, e2]
      exact bare_zero.own _ _
  · intro j hj t e
    obtain ⟨hj1, e2⟩ := hbk j hj t g' e
    rcases hg' with rfl | hg'
    · exact h.sep.row j hj1 t e2
    · have := h.low j hj1 t _ e2
      omega
  · intro j hj t j' hj' t' x e1 e2
    obtain ⟨hj1, g1⟩ := hbk j hj t x e1
    obtain ⟨hj2, g2⟩ := hbk j' hj' t' x e2
    exact h.sep.one j hj1 t j' hj2 t' x g1 g2
  · intro j hj t x e
    obtain ⟨hj1, e2⟩ := hbk j hj t x e
    exact Nat.lt_of_lt_of_le (h.low j hj1 t x e2) hgr.size
  · intro x hx hn
    exact hgr.block x hx (fun e => hn (Or.inl (by cases e; rfl)))
  · rintro x hx (e | ⟨j, hj, t, e⟩)
    · rcases hg' with e2 | e2
      · exact Or.inl (by rw [e, e2])
      · omega
    · obtain ⟨hj1, e2⟩ := hbk j hj t x e
      exact Or.inr ⟨j, hj1, t, e2⟩
  · exact (Below.refl B w).grown hgr hB (fun k hk => by cases hk; exact hBg)
end Go.Proofs.Ytookcjdibpccpab
