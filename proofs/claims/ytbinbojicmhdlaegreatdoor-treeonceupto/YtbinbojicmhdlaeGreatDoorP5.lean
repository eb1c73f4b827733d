/-
  OWN WORK: Dfi2, Sta, Fmo, Sdl, Fsl, Fs2, Fgi, Ind, Fki, Fup.
-/
import Derived.Test.YtbinbojicmhdlaeGreatDoorP4
import Derived.Shelf.RegionOpenPlain
import Derived.Lib.SliceRun
/-
  THE WALKS of the search in dom.Find, and of dom.Find.
-/
namespace Go.Proofs.YtbinbojicmhdlaeGreatDoor
open Go.RowKit

def idxI (p : Nat → Bool) (l : List Nat) : Int := match l.findIdx? p with
  | some i => (i : Int)
  | none => -1

theorem idxI_some {p : Nat → Bool} {l : List Nat} {j : Nat} (hj : j < l.length) (hp : p l[j] = true) (hn : ∀ k ∈ l.take j, p k = false) : idxI p l = (j : Int) := by
  have : l.findIdx? p = some j := by
    rw [List.findIdx?_eq_some_iff_getElem]
    refine ⟨hj, hp, fun k hk => ?_⟩
    have := hn l[k] (List.mem_take_iff_getElem.mpr ⟨k, by omega, rfl⟩)
    simp [this]
  unfold idxI
  rw [this]
theorem idxI_none {p : Nat → Bool} {l : List Nat} (hn : ∀ k ∈ l, p k = false) : idxI p l = -1 := by
  have : l.findIdx? p = none := by
    rw [List.findIdx?_eq_none_iff]
    intro x hx
    exact hn x hx
  unfold idxI
  rw [this]

set_option maxHeartbeats 1600000 in
theorem findIdx_any {w : World} {b o c D I C : Nat} {rs : List Raw} {d : Tn.Dc} {id : ByteArray} {sc : Int} (hd : DocAt w b o c rs d) (hg : Tame d) (hD : w.cell? ⟨D, 0, none⟩ = some (.slice (some ⟨b, o, none⟩) rs.length c)) (hI : w.cell? ⟨I, 0, none⟩ = some (.string id)) (hC : w.cell? ⟨C, 0, none⟩ = some (.int .i64 sc))
    (hr : ∀ k, Rising (Tn.nd d k).attrs) (hal : ∀ k, (Tn.nd d k).attrs.length ≤ 1000) {vl : Value} {l : List Nat} (hl : IntsAt w vl l) :
    Calls Tryz.prog 105 #[vl, .func (.func 106) #[] #[.pointer (some ⟨D, 0, none⟩), .pointer (some ⟨I, 0, none⟩), .pointer (some ⟨C, 0, none⟩)]] w fun e w' => e = .returned (.int .i64 (idxI (hitD d id sc) l)) ∧ Below w.heap.size w w' := by
  obtain ⟨p, cc, rfl, h1, h2, _, hat⟩ := hl.at
  have T : Hid (∀ j (hj : j < l.length), ∃ b o, p = some ⟨b, o, none⟩ ∧ w.cell? ⟨b, o + j, none⟩ = some (.int .i64 (l[j] : Int))) := hat
  clear hat hl
  have H : Hid (DocAt w b o c rs d) := hd
  have HA : Hid (∀ W (k : Nat), Keeps w W → Calls Tryz.prog 106 #[.int .i64 (k : Int), .pointer (some ⟨D, 0, none⟩), .pointer (some ⟨I, 0, none⟩), .pointer (some ⟨C, 0, none⟩)] W fun e w' => e = .returned (.bool (hitD d id sc k)) ∧ Below W.heap.size W w') :=
    fun W k hk => find1_any (hd.keeps hk) hg (hk _ _ hD) (hk _ _ hI) (hk _ _ hC) k (hr k) (hal k)
  clear hd hr hal
  go_enter Tryz.func105, Tryz.ntmps105
  go_wp2_with fail
  go_loopw [8] (fun i wr => ∃ j : Nat, j ≤ l.length ∧ i = .int .i64 j ∧ Hid (∀ k ∈ l.take j, hitD d id sc k = false) ∧ Below w.heap.size w wr) (fun i _ => l.length - (intOf i).toNat)
  case atStart => exact ⟨0, Nat.zero_le _, rfl, fun k hk => by simp at hk, Below.refl _ _⟩
  case round =>
    obtain ⟨j, hj, rfl, NO, hnx⟩ := hrel
    by_cases hlt : j < l.length
    · obtain ⟨e1, o1, rfl, k1⟩ := T.out j hlt
      have JR := keeps_below hnx (Nat.le_refl _)
      have y1 := JR _ _ k1
      clear k1
      have hF := HA.out wr l[j] JR
      cases hh : hitD d id sc l[j] with
      | true =>
        have E : Hid (idxI (hitD d id sc) l = (j : Int)) := idxI_some hlt hh NO.out
        rw [hh] at hF
        clear hh
        generalize l[j] = x at *
        go_wp2_with (go_at_call 106; refine hF.mono ?_; rintro e w9 ⟨rfl, hb9⟩)
        go_ret
        exact ⟨by rw [E.out]; rfl, hnx.trans (hb9.mono hnx.size)⟩
      | false =>
        have N2 : Hid (∀ k ∈ l.take (j + 1), hitD d id sc k = false) := by
          intro k hk
          rw [List.take_succ_eq_append_getElem hlt, List.mem_append, List.mem_singleton] at hk
          rcases hk with hk | rfl
          · exact NO.out k hk
          · exact hh
        rw [hh] at hF
        clear hh
        generalize l[j] = x at *
        go_wp2_with (go_at_call 106; refine hF.mono ?_; rintro e w9 ⟨rfl, hb9⟩)
        go_roundw
        case rel => exact ⟨j + 1, by omega, by go_num, N2, hnx.trans (hb9.mono hnx.size)⟩
        case measure => simp [intOf]; omega
    · obtain rfl : j = l.length := by omega
      have E : Hid (idxI (hitD d id sc) l = -1) := idxI_none (fun k hk => NO.out k (by rw [List.take_length]; exact hk))
      go_wp2_with fail
      go_ret
      exact ⟨by rw [E.out]; rfl, hnx⟩


theorem cell_box (w : World) (v : Value) {t : Nat} : (w.alloc (.cells #[v] t)).cell? ⟨w.heap.size, 0, none⟩ = some v := by
  rw [World.cell?_alloc_new]; rfl
theorem bx_new {w w' : World} {v : Value} {t : Nat} (h : Below (w.alloc (.cells #[v] t)).heap.size (w.alloc (.cells #[v] t)) w') : w'.cell? ⟨w.heap.size, 0, none⟩ = some v ∧ w'.frozen? ⟨w.heap.size, 0, none⟩ = false := by
  refine ⟨keeps_below h (Nat.le_refl _) _ _ (cell_box _ _), ?_⟩
  rw [h.frozen (by simp), box_frozen]
theorem bx_newd {w w' : World} {v : Value} {t : Nat} (h : Below (w.alloc (.cells #[v] t)).drew.heap.size (w.alloc (.cells #[v] t)).drew w') : w'.cell? ⟨w.heap.size, 0, none⟩ = some v ∧ w'.frozen? ⟨w.heap.size, 0, none⟩ = false := by
  refine ⟨keeps_below h (Nat.le_refl _) _ _ (cell_box _ _), ?_⟩
  rw [h.frozen (by simp), World.frozen?_drew, box_frozen]
theorem bx_set {w w' : World} {u v : Value} {t : Nat} (h : Below ((w.alloc (.cells #[v] t)).setCell ⟨w.heap.size, 0, none⟩ u).heap.size ((w.alloc (.cells #[v] t)).setCell ⟨w.heap.size, 0, none⟩ u) w') : w'.cell? ⟨w.heap.size, 0, none⟩ = some u ∧ w'.frozen? ⟨w.heap.size, 0, none⟩ = false := by
  refine ⟨keeps_below h (Nat.le_refl _) _ _ (World.cell?_setCell_same _ _ _ (cell_box _ _)), ?_⟩
  rw [h.frozen (by simp), World.frozen?_setCell, box_frozen]
theorem bx_old {w w' : World} {C : Nat} {v : Value} (h : Below w.heap.size w w') (hx : w.cell? ⟨C, 0, none⟩ = some v) (hf : w.frozen? ⟨C, 0, none⟩ = false) : w'.cell? ⟨C, 0, none⟩ = some v ∧ w'.frozen? ⟨C, 0, none⟩ = false := by
  refine ⟨keeps_below h (Nat.le_refl _) _ _ hx, ?_⟩
  rw [h.frozen (lt_of_cell hx), hf]

theorem idx_cases (p : Nat → Bool) (l : List Nat) : (idxI p l = -1 ∧ l.find? p = none) ∨ ∃ j, ∃ hj : j < l.length, idxI p l = (j : Int) ∧ l.find? p = some l[j] := by
  cases h : l.findIdx? p with
  | none =>
    left
    refine ⟨by unfold idxI; rw [h], ?_⟩
    rw [List.find?_eq_none]
    intro x hx
    have := List.findIdx?_eq_none_iff.mp h x hx
    simp [this]
  | some j =>
    right
    obtain ⟨hj, hp, hn⟩ := List.findIdx?_eq_some_iff_getElem.mp h
    refine ⟨j, hj, by unfold idxI; rw [h], ?_⟩
    rw [List.find?_eq_some_iff_getElem]
    exact ⟨hp, j, hj, rfl, fun k hk => by have := hn k hk; simpa using this⟩

/-- what Find tells -/
def findD (d : Tn.Dc) (n : Int) (id : ByteArray) : Int :=
  if id.toList.isEmpty = true ∨ Tn.isN d n false = false then -1
  else match (Tn.all Tn.fuel d 0).find? (hitD d id (scopeD d n)) with
    | some k => (k : Int)
    | none => -1

set_option maxHeartbeats 1600000 in
theorem dfind_any {w : World} {b o c : Nat} {rs : List Raw} {d : Tn.Dc} (hd : DocAt w b o c rs d) (hg : Tame d) (hls : ∀ j s, (Tn.liD d j s).length ≤ 1000) (h0 : Tn.lvD d 0 = true) (hr : ∀ k, Rising (Tn.nd d k).attrs) (hal : ∀ k, (Tn.nd d k).attrs.length ≤ 1000) (n : Int) (id : ByteArray) :
    Calls Tryz.prog 67 #[.slice (some ⟨b, o, none⟩) rs.length c, .int .i64 n, .string id] w fun e w' => e = .returned (.int .i64 (findD d n id)) ∧ Below w.heap.size w w' := by
  have H : Hid (DocAt w b o c rs d) := hd
  have K2 : Keeps w ((w.alloc (.cells #[.slice (some ⟨b, o, none⟩) rs.length c] 24)).alloc (.cells #[.string id] 9)) := keeps_alloc' _ (keeps_alloc _ _)
  have B2 : Below w.heap.size w ((w.alloc (.cells #[.slice (some ⟨b, o, none⟩) rs.length c] 24)).alloc (.cells #[.string id] 9)) := ((Below.refl w.heap.size w).alloc (Nat.le_refl _) _).alloc (by simp) _
  clear hd
  cases hem : id.toList.isEmpty with
  | true =>
    have E : Hid (findD d n id = -1) := by show _ = _; unfold findD; rw [if_pos (Or.inl hem)]
    go_enter Tryz.func67, Tryz.ntmps67
    go_wp2_with fail
    go_ret
    exact ⟨by rw [E.out]; rfl, B2⟩
  | false =>
    cases his : Tn.isN d n false with
    | false =>
      have E : Hid (findD d n id = -1) := by show _ = _; unfold findD; rw [if_pos (Or.inr his)]
      go_enter Tryz.func67, Tryz.ntmps67
      go_wp2_with (go_at_call 69; refine (dis_any (H.out.keeps K2) _ _).mono ?_; rintro e w' ⟨rfl, hww⟩; subst hww; rw [his])
      go_ret
      exact ⟨by rw [E.out]; rfl, B2⟩
    | true =>
      have E : Hid (findD d n id = match (Tn.all Tn.fuel d 0).find? (hitD d id (scopeD d n)) with
          | some k => (k : Int)
          | none => -1) := by show _ = _; unfold findD; rw [if_neg (by simp [hem, his])]
      have q0 : ((w.alloc (.cells #[.slice (some ⟨b, o, none⟩) rs.length c] 24)).alloc (.cells #[.string id] 9)).cell? ⟨w.heap.size, 0, none⟩ = some (.slice (some ⟨b, o, none⟩) rs.length c) := by rw [World.cell?_alloc2_first]; rfl
      have q1 : ((w.alloc (.cells #[.slice (some ⟨b, o, none⟩) rs.length c] 24)).alloc (.cells #[.string id] 9)).cell? ⟨w.heap.size + 1, 0, none⟩ = some (.string id) := by rw [World.cell?_alloc2_new]; rfl
      go_enter Tryz.func67, Tryz.ntmps67
      go_upto_region 3 with (go_at_call 69; refine (dis_any (H.out.keeps K2) _ _).mono ?_; rintro e w' ⟨rfl, hww⟩; subst hww; rw [his])
      have B2' := B2
      have D2 : Hid (DocAt ((w.alloc (.cells #[.slice (some ⟨b, o, none⟩) rs.length c] 24)).alloc (.cells #[.string id] 9)) b o c rs d) := H.out.keeps K2
      generalize ((w.alloc (.cells #[.slice (some ⟨b, o, none⟩) rs.length c] 24)).alloc (.cells #[.string id] 9)) = w2 at *
      have z2 := B2.size
      have SS : ∀ w'', Keeps w2 w'' → (fun w'' => w''.cell? ⟨w.heap.size, 0, none⟩ = some (.slice (some ⟨b, o, none⟩) rs.length c)) w'' := fun w'' hk => hk _ _ q0
      go_region_held3 (fun w'' => w''.cell? ⟨w.heap.size, 0, none⟩ = some (.slice (some ⟨b, o, none⟩) rs.length c))
        ((apply SS; repeat (first | assumption | exact Keeps.refl _ | apply keeps_drew | apply keeps_alloc' | (refine keeps_set ?_ _ _ (by first | exact Nat.le_refl _ | omega | (simp at *; omega))))))
        (first
          | (go_at_call 103; refine (dscope_any (D2.out.keeps (by (repeat (first | assumption | exact Keeps.refl _ | apply keeps_drew | apply keeps_alloc' | (refine keeps_set ?_ _ _ (by first | exact Nat.le_refl _ | omega | (simp at *; omega))))))) hg n).mono ?_; rintro e wa ⟨rfl, hba⟩; have Ja : Keeps w2 wa := Keeps.trans (by (repeat (first | assumption | exact Keeps.refl _ | apply keeps_drew | apply keeps_alloc' | (refine keeps_set ?_ _ _ (by first | exact Nat.le_refl _ | omega | (simp at *; omega)))))) (keeps_below hba (Nat.le_refl _)); have za := hba.size; try (have hxa := bx_newd hba; obtain ⟨xa, fa⟩ := hxa))
          | (go_at_call 104; refine (dall_any (n := 0) (D2.out.keeps (by (repeat (first | assumption | exact Keeps.refl _ | apply keeps_drew | apply keeps_alloc' | (refine keeps_set ?_ _ _ (by first | exact Nat.le_refl _ | omega | (simp at *; omega))))))) hg hls h0).mono ?_; rintro e wb ⟨v, rfl, hov, hbb⟩; have Jb : Keeps w2 wb := Keeps.trans (by (repeat (first | assumption | exact Keeps.refl _ | apply keeps_drew | apply keeps_alloc' | (refine keeps_set ?_ _ _ (by first | exact Nat.le_refl _ | omega | (simp at *; omega)))))) (keeps_below hbb (Nat.le_refl _)); have zb := hbb.size; first | (have hxb := bx_new hbb; obtain ⟨xb, fb⟩ := hxb) | (have hxb := bx_old hbb xa fa; obtain ⟨xb, fb⟩ := hxb) | (have hxb := bx_set hbb; obtain ⟨xb, fb⟩ := hxb) | (have nobox := trivial)))
      · have XC : (wb.alloc (.cells #[.int .i64 (scopeD d n)] 3)).cell? ⟨wb.heap.size, 0, none⟩ = some (.int .i64 (scopeD d n)) := cell_box _ _
        have KW : Keeps w2 (wb.alloc (.cells #[.int .i64 (scopeD d n)] 3)) := by (repeat (first | assumption | exact Keeps.refl _ | apply keeps_drew | apply keeps_alloc' | (refine keeps_set ?_ _ _ (by first | exact Nat.le_refl _ | omega | (simp at *; omega)))))
        have BW : Below w.heap.size w (wb.alloc (.cells #[.int .i64 (scopeD d n)] 3)) := ((B2.trans ((Below.refl _ _).drew.trans (hba.mono z2))).trans (hbb.mono (by simp at za; omega))).alloc (by simp at za; omega) _
        have IW : IntsAt (wb.alloc (.cells #[.int .i64 (scopeD d n)] 3)) v (Tn.all Tn.fuel d 0) := ints_of_owns (hov.alloc _)
        generalize (wb.alloc (.cells #[.int .i64 (scopeD d n)] 3)) = W at *
        clear hba hbb Ja Jb za zb SS hov K2 B2 B2'
        obtain ⟨p, cc, rfl, i1, i2, _, hat⟩ := IW.at
        have hF := findIdx_any (D2.out.keeps KW) hg (KW _ _ q0) (KW _ _ q1) XC hr hal IW
        rcases idx_cases (hitD d id (scopeD d n)) (Tn.all Tn.fuel d 0) with ⟨x1, x2⟩ | ⟨j, hj, x1, x2⟩
        · rw [x1] at hF
          have E2 : Hid (findD d n id = -1) := by show _ = _; rw [E.out, x2]
          clear x1 x2 E hat IW
          generalize scopeD d n = sc at *
          go_wp2_with (go_at_call 105; refine hF.mono ?_; rintro e w9 ⟨rfl, hb9⟩)
          go_ret
          exact ⟨by rw [E2.out]; rfl, BW.trans (hb9.mono BW.size)⟩
        · rw [x1] at hF
          have E2 : Hid (findD d n id = ((Tn.all Tn.fuel d 0)[j] : Nat)) := by show _ = _; rw [E.out, x2]
          obtain ⟨e1, o1, rfl, k1⟩ := hat j hj
          clear x1 x2 E hat IW
          generalize scopeD d n = sc at *
          generalize (Tn.all Tn.fuel d 0)[j] = y at *
          go_wp2_with (go_at_call 105; refine hF.mono ?_; rintro e w9 ⟨rfl, hb9⟩; have k9 := keeps_below hb9 (Nat.le_refl _) _ _ k1)
          go_ret
          exact ⟨by rw [E2.out]; rfl, BW.trans (hb9.mono BW.size)⟩
      · have XC : (wb.setCell ⟨wa.heap.size, 0, none⟩ (.int .i64 (scopeD d n))).cell? ⟨wa.heap.size, 0, none⟩ = some (.int .i64 (scopeD d n)) := World.cell?_setCell_same _ _ _ xb
        have KW : Keeps w2 (wb.setCell ⟨wa.heap.size, 0, none⟩ (.int .i64 (scopeD d n))) := by (repeat (first | assumption | exact Keeps.refl _ | apply keeps_drew | apply keeps_alloc' | (refine keeps_set ?_ _ _ (by first | exact Nat.le_refl _ | omega | (simp at *; omega)))))
        have BW : Below w.heap.size w (wb.setCell ⟨wa.heap.size, 0, none⟩ (.int .i64 (scopeD d n))) := (((B2.trans ((Below.refl _ _).drew.trans (hba.mono z2))).alloc (by simp at za; omega) _).trans (hbb.mono (by simp at za ⊢; omega))).setCell (p := ⟨wa.heap.size, 0, none⟩) (by simp at za ⊢; omega) _
        have IW : IntsAt (wb.setCell ⟨wa.heap.size, 0, none⟩ (.int .i64 (scopeD d n))) v (Tn.all Tn.fuel d 0) := ints_of_owns (hov.set (by simp) _)
        generalize (wb.setCell ⟨wa.heap.size, 0, none⟩ (.int .i64 (scopeD d n))) = W at *
        clear hba hbb Ja Jb za zb SS hov K2 B2 B2'
        obtain ⟨p, cc, rfl, i1, i2, _, hat⟩ := IW.at
        have hF := findIdx_any (D2.out.keeps KW) hg (KW _ _ q0) (KW _ _ q1) XC hr hal IW
        rcases idx_cases (hitD d id (scopeD d n)) (Tn.all Tn.fuel d 0) with ⟨x1, x2⟩ | ⟨j, hj, x1, x2⟩
        · rw [x1] at hF
          have E2 : Hid (findD d n id = -1) := by show _ = _; rw [E.out, x2]
          clear x1 x2 E hat IW
          generalize scopeD d n = sc at *
          go_wp2_with (go_at_call 105; refine hF.mono ?_; rintro e w9 ⟨rfl, hb9⟩)
          go_ret
          exact ⟨by rw [E2.out]; rfl, BW.trans (hb9.mono BW.size)⟩
        · rw [x1] at hF
          have E2 : Hid (findD d n id = ((Tn.all Tn.fuel d 0)[j] : Nat)) := by show _ = _; rw [E.out, x2]
          obtain ⟨e1, o1, rfl, k1⟩ := hat j hj
          clear x1 x2 E hat IW
          generalize scopeD d n = sc at *
          generalize (Tn.all Tn.fuel d 0)[j] = y at *
          go_wp2_with (go_at_call 105; refine hF.mono ?_; rintro e w9 ⟨rfl, hb9⟩; have k9 := keeps_below hb9 (Nat.le_refl _) _ _ k1)
          go_ret
          exact ⟨by rw [E2.out]; rfl, BW.trans (hb9.mono BW.size)⟩
      · have XC : (wb.setCell ⟨w2.heap.size, 0, none⟩ (.int .i64 (scopeD d n))).cell? ⟨w2.heap.size, 0, none⟩ = some (.int .i64 (scopeD d n)) := World.cell?_setCell_same _ _ _ xb
        have KW : Keeps w2 (wb.setCell ⟨w2.heap.size, 0, none⟩ (.int .i64 (scopeD d n))) := by (repeat (first | assumption | exact Keeps.refl _ | apply keeps_drew | apply keeps_alloc' | (refine keeps_set ?_ _ _ (by first | exact Nat.le_refl _ | omega | (simp at *; omega)))))
        have BW : Below w.heap.size w (wb.setCell ⟨w2.heap.size, 0, none⟩ (.int .i64 (scopeD d n))) := (((B2.alloc z2 _).drew.trans (hba.mono (by simp; omega))).trans (hbb.mono (by simp at za; omega))).setCell (p := ⟨w2.heap.size, 0, none⟩) z2 _
        have IW : IntsAt (wb.setCell ⟨w2.heap.size, 0, none⟩ (.int .i64 (scopeD d n))) v (Tn.all Tn.fuel d 0) := ints_of_owns (hov.set (by simp at za; omega) _)
        generalize (wb.setCell ⟨w2.heap.size, 0, none⟩ (.int .i64 (scopeD d n))) = W at *
        clear hba hbb Ja Jb za zb SS hov K2 B2 B2'
        obtain ⟨p, cc, rfl, i1, i2, _, hat⟩ := IW.at
        have hF := findIdx_any (D2.out.keeps KW) hg (KW _ _ q0) (KW _ _ q1) XC hr hal IW
        rcases idx_cases (hitD d id (scopeD d n)) (Tn.all Tn.fuel d 0) with ⟨x1, x2⟩ | ⟨j, hj, x1, x2⟩
        · rw [x1] at hF
          have E2 : Hid (findD d n id = -1) := by show _ = _; rw [E.out, x2]
          clear x1 x2 E hat IW
          generalize scopeD d n = sc at *
          go_wp2_with (go_at_call 105; refine hF.mono ?_; rintro e w9 ⟨rfl, hb9⟩)
          go_ret
          exact ⟨by rw [E2.out]; rfl, BW.trans (hb9.mono BW.size)⟩
        · rw [x1] at hF
          have E2 : Hid (findD d n id = ((Tn.all Tn.fuel d 0)[j] : Nat)) := by show _ = _; rw [E.out, x2]
          obtain ⟨e1, o1, rfl, k1⟩ := hat j hj
          clear x1 x2 E hat IW
          generalize scopeD d n = sc at *
          generalize (Tn.all Tn.fuel d 0)[j] = y at *
          go_wp2_with (go_at_call 105; refine hF.mono ?_; rintro e w9 ⟨rfl, hb9⟩; have k9 := keeps_below hb9 (Nat.le_refl _) _ _ k1)
          go_ret
          exact ⟨by rw [E2.out]; rfl, BW.trans (hb9.mono BW.size)⟩
end Go.Proofs.YtbinbojicmhdlaeGreatDoor

/-
  PLAIN MATHEMATICS: what holds of each node by itself stays, whatever the changes.
-/
namespace Go.Proofs.YtbinbojicmhdlaeGreatDoor
open Tn

/-- what holds of each node, and stays with the change x -/
structure Stays (P : Nat → Nd → Prop) (x : Chg) : Prop where
  take : ∀ j n k, P j n → P j { n with kids := without n.kids k, shadow := without n.shadow k }
  move : ∀ j n u b, j ≠ 0 → P j n → P j { n with up := u, inS := b }
  put : ∀ j n s l, P j n → has n.tag = true → (s = true → n.hasS = true) → P j (setList n s l)
  zero : ∀ j, j ≠ 0 → P j Tn.zero
  say : ∀ j n, P j n → has n.tag = false → P j { n with text := x.value }
  attr : ∀ j n, P j n → has n.tag = true → P j { n with attrs := attrsD n.attrs x.name x.value }
  clear : ∀ j n, P j n → has n.tag = true → P j { n with attrs := attrsOff n.attrs x.name }
  shad : ∀ j n, x.kind = 8 → j ≠ 0 → P j n → has n.tag = true → P j { n with hasS := true }
  new : ∀ j m s, j ≠ 0 → P j (made (newN x) m s)

theorem withd_all {P : Nat → Nd → Prop} {d : Dc} {k : Nat} {n : Nd} (hk : k ≤ d.length) (h : ∀ j, P j (nd d j)) (hn : P k n) : ∀ j, P j (nd (withd d k n) j) := by
  intro j
  rw [nd_withd _ _ _ hk]
  split
  · rename_i e
    rw [e]
    exact hn
  · exact h j

theorem take_len {d : Dc} {k : Nat} (hu : (nd d k).up.toNat < d.length) : (takeD d k).length = d.length := by
  unfold takeD withd
  rw [if_neg (by omega)]
  simp

theorem take_tag {d : Dc} {k : Nat} (hu : (nd d k).up.toNat < d.length) (j : Nat) : (nd (takeD d k) j).tag = (nd d j).tag := by
  unfold takeD
  rw [nd_withd _ _ _ (Nat.le_of_lt hu)]
  split
  · rename_i e
    rw [e]
  · rfl

theorem nd_trim {d : Dc} (h : Tn.Mid d) (j : Nat) : nd (trimD d) j = nd d j := by
  obtain ⟨r, hr, hR⟩ := h.tr
  have h0 : lvD d 0 = true := hr.1.root
  obtain ⟨h1, h2, h3, h4⟩ := lastLive_spec d h0 d.length
  by_cases hj : j < lastLive d d.length
  · unfold trimD nd
    rw [List.getElem?_take_of_lt hj]
  · have hz : nd (trimD d) j = zero := by
      apply nd_far
      unfold trimD
      simp
      omega
    rw [hz]
    cases hl : lvD d j with
    | true => exact absurd (h4 j (lv_lt hl) hl) hj
    | false => exact (h.dead j hl).symm

theorem chg_stays {P : Nat → Nd → Prop} {x : Chg} (hP : Stays P x) {d : Dc} (h : Tn.Good d) (hd : ∀ j, P j (nd d j)) (hi : isN d x.node false = true) (he : chgE d x = 0) : ∀ j, P j (nd (chgD d x) j) := by
  obtain ⟨k, hkn, hkl, hlv⟩ := isN_nat hi
  have hk : lvD d k = true := hlv
  have hkt : x.node.toNat = k := by omega
  obtain ⟨r, hr, hR⟩ := h.tr
  have hup : 0 < k → (nd d k).up.toNat < d.length := fun h0 => lv_lt (hr.1.upLive h0 hk)
  have htk : 0 < k → ∀ j, P j (nd (takeD d k) j) := fun h0 => withd_all (Nat.le_of_lt (hup h0)) hd (hP.take _ _ _ (hd _))
  unfold chgE at he
  unfold chgD
  by_cases e3 : x.kind = 3
  · rw [if_pos e3] at he ⊢
    unfold moveE at he
    split at he
    · cases he
    · rename_i g1
      have g2 : ¬ x.node = 0 ∧ isN d x.to true = true := by
        constructor
        · exact fun e => g1 (Or.inl e)
        · cases hb : isN d x.to true with
          | true => rfl
          | false => exact absurd (Or.inr hb) g1
      have h0 : 0 < k := by omega
      obtain ⟨t, htn, htl, htlv⟩ := isN_nat g2.2
      have htt : x.to.toNat = t := by omega
      have htag : has (nd d t).tag = true := by
        have := g2.2
        unfold isN at this
        rw [htn] at this
        simp at this
        exact this.2
      unfold moveD
      rw [hkt, htt]
      have tl := take_len (hup h0)
      have hw : ∀ j, P j (nd (withd (takeD d k) k { nd d k with up := x.to, inS := false }) j) := withd_all (by rw [tl]; omega) (htk h0) (hP.move _ _ _ _ (by omega) (hd k))
      have hwt : (nd (withd (takeD d k) k { nd d k with up := x.to, inS := false }) t).tag = (nd d t).tag := by
        rw [nd_withd _ _ _ (by rw [tl]; omega)]
        split
        · rename_i e
          rw [e]
        · exact take_tag (hup h0) t
      have hwl : (withd (takeD d k) k { nd d k with up := x.to, inS := false }).length = d.length := by
        unfold withd
        rw [if_neg (by rw [tl]; omega)]
        simp [tl]
      unfold put1
      refine withd_all (by rw [hwl]; omega) hw (hP.put _ _ _ _ (hw t) (by rw [hwt]; exact htag) (by simp))
  · rw [if_neg e3] at he ⊢
    by_cases e4 : x.kind = 4
    · rw [if_pos e4] at he ⊢
      split at he
      · cases he
      · have h0 : 0 < k := by omega
        unfold removeD
        rw [hkt]
        intro j
        rw [nd_gone _ _ (fun y hy => by rw [take_len (hup h0)]; exact all_lt' hr hk hy)]
        split
        · rename_i hm
          refine hP.zero j ?_
          rintro rfl
          have := hr.1.descRoot (all_desc hr fuel k 0 hm hk).2
          omega
        · exact htk h0 j
    · rw [if_neg e4] at he ⊢
      by_cases e7 : x.kind = 7
      · rw [if_pos e7] at he ⊢
        unfold sayE at he
        split at he
        · cases he
        · rename_i g
          unfold sayD
          rw [hkt] at g ⊢
          exact withd_all (by omega) hd (hP.say _ _ (hd k) (by
            cases hb : has (nd d k).tag with
            | false => rfl
            | true => exact absurd (Or.inl hb) g))
      · rw [if_neg e7] at he ⊢
        split at he
        · cases he
        · rename_i gt
          have htag : has (nd d k).tag = true := by rw [hkt] at gt; simpa using gt
          by_cases e5 : x.kind = 5
          · rw [if_pos e5]
            unfold attrD
            rw [hkt]
            exact withd_all (by omega) hd (hP.attr _ _ (hd k) htag)
          · rw [if_neg e5] at he ⊢
            by_cases e6 : x.kind = 6
            · rw [if_pos e6]
              unfold clearD
              rw [hkt]
              exact withd_all (by omega) hd (hP.clear _ _ (hd k) htag)
            · rw [if_neg e6] at he ⊢
              by_cases e8 : x.kind = 8
              · rw [if_pos e8] at he ⊢
                unfold shadE at he
                split at he
                · cases he
                · rename_i g
                  unfold shadD
                  rw [hkt]
                  exact withd_all (by omega) hd (hP.shad _ _ e8 (fun e => g (Or.inl (by omega))) (hd k) htag)
              · rw [if_neg e8] at he ⊢
                unfold makeE at he
                split at he
                · cases he
                · split at he
                  · cases he
                  · split at he
                    · cases he
                    · rename_i g8
                      split at he
                      · cases he
                      · obtain ⟨f1, f2⟩ := free_spec d
                        have hf0 : free d ≠ 0 := by
                          intro e
                          rw [e] at f2
                          have := hr.1.root
                          rw [f2] at this
                          cases this
                        have hfk : k ≠ free d := by
                          intro e
                          rw [e, f2] at hk
                          cases hk
                        have hw : ∀ j, P j (nd (mk1 d x) j) := by
                          unfold mk1
                          exact withd_all f1 hd (hP.new _ _ _ hf0)
                        have hn : nd (mk1 d x) k = nd d k := by
                          unfold mk1
                          rw [nd_withd _ _ _ f1, if_neg hfk]
                        have hl : d.length ≤ (mk1 d x).length := by
                          unfold mk1 withd
                          split <;> simp
                        unfold makeD put1
                        rw [hkt]
                        refine withd_all (by omega) hw (hP.put _ _ _ _ (hw k) (by rw [hn]; exact htag) (fun hs => ?_))
                        rw [hn]
                        rw [hkt] at g8
                        cases hb : (nd d k).hasS with
                        | true => rfl
                        | false => exact absurd ⟨hs, hb⟩ g8

theorem step_stays {P : Nat → Nd → Prop} {x : Chg} (hP : Stays P x) {d : Dc} (h : Tn.Good d) (hd : ∀ j, P j (nd d j)) : ∀ j, P j (nd (Tn.step d x) j) := by
  unfold Tn.step
  split
  · rename_i he
    have he' := he
    unfold applyE at he
    split at he
    · cases he
    · split at he
      · cases he
      · rename_i g
        intro j
        unfold applyD
        rw [nd_trim (chg_mid h x (by simpa using g) he)]
        exact chg_stays hP h hd (by simpa using g) he j
  · exact hd

theorem foldl_stays {P : Nat → Nd → Prop} : ∀ (l : List Chg) (_ : ∀ x ∈ l, Stays P x) (d : Dc), Tn.Good d → (∀ j, P j (nd d j)) → ∀ j, P j (nd (l.foldl Tn.step d) j)
  | [], _, _, _, hd => hd
  | x :: l, hl, d, h, hd => foldl_stays l (fun y hy => hl y (by simp [hy])) (Tn.step d x) (good_step h x) (step_stays (hl x (by simp)) h hd)

theorem build_stays {P : Nat → Nd → Prop} {l : List Chg} (hl : ∀ x ∈ l, Stays P x) (h0 : P 0 root) (hz : ∀ j, j ≠ 0 → P j Tn.zero) : ∀ j, P j (nd (Tn.build l) j) :=
  foldl_stays l hl _ good_root (fun j => by
    cases j with
    | zero => exact h0
    | succ j => rw [nd_far (by simp)]; exact hz _ (by omega))

/-- what is known of each node by itself -/
structure Fit (j : Nat) (n : Nd) : Prop where
  rise : Rising n.attrs
  text : has n.tag = false → n.attrs = [] ∧ n.kids = [] ∧ n.shadow = [] ∧ n.hasS = false
  noS : n.hasS = false → n.shadow = []
  root : j = 0 → n.hasS = false ∧ has n.tag = true ∧ n.inS = false

theorem lessS_or (a b : ByteArray) : lessS a b = true ∨ eqS a b = true ∨ lessS b a = true := by
  unfold lessS eqS
  by_cases h1 : a.toList < b.toList
  · left; simpa using h1
  · by_cases h2 : b.toList < a.toList
    · right; right; simpa using h2
    · right; left
      have := List.le_antisymm (List.not_lt.mp h2) (List.not_lt.mp h1)
      simp [this]

theorem eqS_lessL {a b c : ByteArray} (h : eqS a b = true) (h2 : lessS a c = true) : lessS b c = true := by
  unfold eqS at h
  unfold lessS at *
  have : a.toList = b.toList := by simpa using h
  rw [← this]
  exact h2

theorem fold_rise (name value : ByteArray) : ∀ (l out : List At) (dn : Bool), Rising out → Rising l → (∀ a ∈ out, ∀ b ∈ l, lessS a.1 b.1 = true) → (dn = false → ∀ a ∈ out, lessS a.1 name = true) → (dn = true → ∀ b ∈ l, lessS name b.1 = true) →
    Rising (l.foldl (aStep name value) (out, dn)).1 ∧ ((l.foldl (aStep name value) (out, dn)).2 = false → ∀ a ∈ (l.foldl (aStep name value) (out, dn)).1, lessS a.1 name = true)
  | [], out, dn, h1, _, _, h4, _ => ⟨h1, h4⟩
  | a :: l, out, dn, h1, h2, h3, h4, h5 => by
    rw [List.foldl_cons]
    have h2' : Rising l := (List.pairwise_cons.mp h2).2
    have hal : ∀ b ∈ l, lessS a.1 b.1 = true := (List.pairwise_cons.mp h2).1
    have hoa : ∀ c ∈ out, lessS c.1 a.1 = true := fun c hc => h3 c hc a (by simp)
    have hol : ∀ c ∈ out, ∀ b ∈ l, lessS c.1 b.1 = true := fun c hc b hb => h3 c hc b (by simp [hb])
    have app : ∀ y : At, (∀ c ∈ out, lessS c.1 y.1 = true) → Rising (out ++ [y]) := by
      intro y hy
      unfold Rising
      rw [List.pairwise_append]
      exact ⟨h1, List.pairwise_singleton _ _, fun c hc b hb => by rw [List.mem_singleton.mp hb]; exact hy c hc⟩
    unfold aStep
    split
    · rename_i e
      refine fold_rise name value l _ true (app _ hoa) h2' ?_ (by simp) (fun _ b hb => eqS_lessL e (hal b hb))
      intro c hc b hb
      rcases List.mem_append.mp hc with hc | hc
      · exact hol c hc b hb
      · rw [List.mem_singleton.mp hc]
        exact hal b hb
    · rename_i ne
      split
      · rename_i e
        have e' : lessS name a.1 = true ∧ dn = false := by simpa using e
        have hon := h4 e'.2
        refine fold_rise name value l _ true ?_ h2' ?_ (by simp) (fun _ b hb => less_trans e'.1 (hal b hb))
        · unfold Rising
          rw [List.pairwise_append]
          refine ⟨app _ hon, List.pairwise_singleton _ _, fun c hc b hb => ?_⟩
          rw [List.mem_singleton.mp hb]
          rcases List.mem_append.mp hc with hc | hc
          · exact hoa c hc
          · rw [List.mem_singleton.mp hc]
            exact e'.1
        · intro c hc b hb
          rcases List.mem_append.mp hc with hc | hc
          · rcases List.mem_append.mp hc with hc | hc
            · exact hol c hc b hb
            · rw [List.mem_singleton.mp hc]
              exact less_trans e'.1 (hal b hb)
          · rw [List.mem_singleton.mp hc]
            exact hal b hb
      · rename_i nl
        refine fold_rise name value l _ dn (app _ hoa) h2' ?_ ?_ (fun hd b hb => h5 hd b (by simp [hb]))
        · intro c hc b hb
          rcases List.mem_append.mp hc with hc | hc
          · exact hol c hc b hb
          · rw [List.mem_singleton.mp hc]
            exact hal b hb
        · intro hd c hc
          rcases List.mem_append.mp hc with hc | hc
          · exact h4 hd c hc
          · rw [List.mem_singleton.mp hc]
            rcases lessS_or a.1 name with g | g | g
            · exact g
            · exact absurd g ne
            · exact absurd (by simp [g, hd]) nl

theorem attrs_rise {l : List At} (h : Rising l) (name value : ByteArray) : Rising (attrsD l name value) := by
  have := fold_rise name value l [] false List.Pairwise.nil h (by simp) (by simp) (by simp)
  unfold attrsD aFold
  split
  · exact this.1
  · rename_i e
    unfold Rising
    rw [List.pairwise_append]
    exact ⟨this.1, List.pairwise_singleton _ _, fun c hc b hb => by rw [List.mem_singleton.mp hb]; exact this.2 (by simpa using e) c hc⟩

theorem tagged {n : Nd} {Q : Prop} (ht : has n.tag = true) (e : has n.tag = false) : Q := by rw [ht] at e; cases e
theorem hadS {n : Nd} {Q : Prop} (ht : n.hasS = true) (e : n.hasS = false) : Q := by rw [ht] at e; cases e
theorem fit_stays (x : Chg) : Stays Fit x := by
  refine ⟨?_, ?_, ?_, ?_, ?_, ?_, ?_, ?_, ?_⟩
  · intro j n k h
    refine ⟨h.rise, fun ht => ?_, fun hs => ?_, h.root⟩
    · obtain ⟨a, b, c, e⟩ := h.text ht
      exact ⟨a, by simp [b, without], by simp [c, without], e⟩
    · simp [h.noS hs, without]
  · intro j n u b hj h
    exact ⟨h.rise, h.text, h.noS, fun e => absurd e hj⟩
  · intro j n s l h ht hs
    cases s with
    | false => exact ⟨h.rise, tagged ht, h.noS, h.root⟩
    | true => exact ⟨h.rise, tagged ht, hadS (hs rfl), h.root⟩
  · intro j hj
    exact ⟨List.Pairwise.nil, fun _ => ⟨rfl, rfl, rfl, rfl⟩, fun _ => rfl, fun e => absurd e hj⟩
  · intro j n h ht
    exact ⟨h.rise, h.text, h.noS, h.root⟩
  · intro j n h ht
    exact ⟨attrs_rise h.rise _ _, tagged ht, h.noS, h.root⟩
  · intro j n h ht
    exact ⟨List.Pairwise.filter _ h.rise, tagged ht, h.noS, h.root⟩
  · intro j n _ hj h ht
    exact ⟨h.rise, tagged ht, (fun e => by cases e), fun e => absurd e hj⟩
  · intro j m s hj
    unfold newN
    split
    · exact ⟨List.Pairwise.nil, fun _ => ⟨rfl, rfl, rfl, rfl⟩, fun _ => rfl, fun e => absurd e hj⟩
    · exact ⟨List.Pairwise.nil, fun _ => ⟨rfl, rfl, rfl, rfl⟩, fun _ => rfl, fun e => absurd e hj⟩

theorem fit_root : Fit 0 root := ⟨List.Pairwise.nil, fun _ => ⟨rfl, rfl, rfl, rfl⟩, fun _ => rfl, fun _ => ⟨rfl, by unfold has; rw [ByteArray.toList_eq]; rfl, rfl⟩⟩

theorem build_fit (l : List Chg) : ∀ j, Fit j (nd (Tn.build l) j) := build_stays (fun x _ => fit_stays x) fit_root (fun j hj => (fit_stays ⟨0, 0, 0, 0, ⟨#[]⟩, ⟨#[]⟩⟩).zero j hj)

end Go.Proofs.YtbinbojicmhdlaeGreatDoor

/-
  WHAT package flat tells, in plain mathematics; the walks of flat.isSlotted, isSlot.
-/
namespace Go.Proofs.YtbinbojicmhdlaeGreatDoor
open Go.RowKit

/-- an attribute of a node -/
def attrN (d : Tn.Dc) (k : Int) (name : ByteArray) : Option ByteArray := if Tn.isN d k true then Tn.attrOf (Tn.nd d k.toNat).attrs name else none
def valN (d : Tn.Dc) (k : Int) (name : ByteArray) : ByteArray := (attrN d k name).getD ⟨#[]⟩
def slotB : ByteArray := ⟨#[115, 108, 111, 116]⟩
def nameB : ByteArray := ⟨#[110, 97, 109, 101]⟩
theorem slotB_list : slotB.toList = [115, 108, 111, 116] := by rw [ByteArray.toList_eq]; rfl
def isSlotD (d : Tn.Dc) (n : Int) : Bool := Tn.isN d n true && ((Tn.nd d n.toNat).tag.toList == slotB.toList)
def slottedD (d : Tn.Dc) (n : Int) : Bool := Tn.isN d n false && !(Tn.nd d n.toNat).inS && Tn.isN d (Tn.nd d n.toNat).up true && (Tn.nd d (Tn.nd d n.toNat).up.toNat).hasS
def fitsD (d : Tn.Dc) (want : ByteArray) (host : Int) (k : Nat) : Bool := isSlotD d (k : Int) && ((valN d (k : Int) nameB).toList == want.toList) && (scopeD d (k : Int) == host)
def orI : Option Nat → Int
  | some k => (k : Int)
  | none => -1
def slotD (d : Tn.Dc) (n : Int) : Int :=
  if slottedD d n then orI ((Tn.all Tn.fuel d (Tn.nd d n.toNat).up.toNat).find? (fitsD d (valN d n slotB) (Tn.nd d n.toNat).up)) else -1
def givenD (d : Tn.Dc) (n : Int) : List Nat := if isSlotD d n then (Tn.nd d (scopeD d n).toNat).kids.filter (fun k => slotD d (k : Int) == n) else []
def kidsD (d : Tn.Dc) (n : Int) : List Nat :=
  if Tn.isN d n false then
    if (Tn.nd d n.toNat).hasS then (Tn.nd d n.toNat).shadow
    else if (givenD d n).isEmpty then (Tn.nd d n.toNat).kids else givenD d n
  else []
def upF (d : Tn.Dc) (n : Int) : Int :=
  if Tn.isN d n false then
    if (kidsD d (Tn.nd d n.toNat).up).contains n.toNat then (Tn.nd d n.toNat).up
    else if (kidsD d (slotD d n)).contains n.toNat then slotD d n else -1
  else -1
def shownF : Nat → Tn.Dc → Nat → List Nat
  | 0, _, _ => []
  | f + 1, d, n => n :: (kidsD d (n : Int)).flatMap (shownF f d)

/-- what the walks ask of a document -/
structure Okd (d : Tn.Dc) : Prop where
  tame : Tame d
  small : ∀ j s, (Tn.liD d j s).length ≤ 1000
  rise : ∀ k, Rising (Tn.nd d k).attrs
  few : ∀ k, (Tn.nd d k).attrs.length ≤ 1000
  root : Tn.lvD d 0 = true
  /-- each scope is a node -/
  scope : ∀ k : Nat, Tn.lvD d k = true → ∃ s : Nat, scopeD d (k : Int) = (s : Int) ∧ Tn.lvD d s = true

theorem isN_true {d : Tn.Dc} {n : Int} (h : Tn.isN d n true = true) : Tn.isN d n false = true := by
  unfold Tn.isN at *
  simp at *
  exact h.1

theorem dattr_all {w : World} {b o c : Nat} {rs : List Raw} {d : Tn.Dc} (hd : DocAt w b o c rs d) (hg : Okd d) (n : Int) (name : ByteArray) :
    Calls Tryz.prog 48 #[.slice (some ⟨b, o, none⟩) rs.length c, .int .i64 n, .string name] w fun e w' =>
      e = .returned (.tuple #[.string (valN d n name), .bool (attrN d n name).isSome]) ∧ Below w.heap.size w w' := by
  unfold valN attrN
  cases hn : Tn.isN d n true with
  | true =>
    rw [if_pos rfl]
    obtain ⟨k, rfl, _, _⟩ := isN_nat (isN_true hn)
    rw [Int.toNat_natCast]
    exact dattr_yes hd k hn (hg.rise k) (hg.few k) name
  | false =>
    rw [if_neg (by simp)]
    refine (dattr_no hd n hn _).mono ?_
    rintro e w' ⟨rfl, rfl⟩
    exact ⟨rfl, Below.refl _ _⟩

set_option maxHeartbeats 800000 in
theorem fisSlot_any {w : World} {b o c : Nat} {rs : List Raw} {d : Tn.Dc} (hd : DocAt w b o c rs d) (n : Int) :
    Calls Tryz.prog 160 #[.slice (some ⟨b, o, none⟩) rs.length c, .int .i64 n] w fun e w' => e = .returned (.bool (isSlotD d n)) ∧ w' = w := by
  have H : Hid (DocAt w b o c rs d) := hd
  clear hd
  cases his : Tn.isN d n true with
  | false =>
    have E : Hid (isSlotD d n = false) := by show _ = _; unfold isSlotD; rw [his]; rfl
    go_enter Tryz.func160, Tryz.ntmps160
    go_wp2_with (go_at_call 69; refine (dis_any H.out _ _).mono ?_; rintro e w' ⟨rfl, hww⟩; subst hww; rw [his])
    go_ret
    exact ⟨by rw [E.out]; rfl, rfl⟩
  | true =>
    obtain ⟨k, rfl, hk, hlv⟩ := isN_nat (isN_true his)
    have hk' : k < rs.length := by rw [H.out.len]; exact hk
    have h1 := H.out.row.c1 k hk'
    have E : Hid (isSlotD d (k : Int) = (rs[k].tag.toList == [115, 108, 111, 116])) := by
      show _ = _
      unfold isSlotD
      rw [his, Int.toNat_natCast, nd_at hk, (H.out.nds k hk' hk).tag, slotB_list]
      rfl
    generalize rs[k].tag = tg at *
    generalize isSlotD d (k : Int) = res at *
    clear hlv
    go_enter Tryz.func160, Tryz.ntmps160
    go_wp2_with (go_at_call 69; refine (dis_any H.out _ _).mono ?_; rintro e w' ⟨rfl, hww⟩; subst hww; rw [his])
    go_ret
    exact ⟨by rw [E.out]; simp, rfl⟩

set_option maxHeartbeats 1600000 in
theorem fslotted_any {w : World} {b o c : Nat} {rs : List Raw} {d : Tn.Dc} (hd : DocAt w b o c rs d) (n : Int) :
    Calls Tryz.prog 166 #[.slice (some ⟨b, o, none⟩) rs.length c, .int .i64 n] w fun e w' => e = .returned (.bool (slottedD d n)) ∧ w' = w := by
  have H : Hid (DocAt w b o c rs d) := hd
  clear hd
  cases his : Tn.isN d n false with
  | false =>
    have E : Hid (slottedD d n = false) := by show _ = _; unfold slottedD; rw [his]; rfl
    go_enter Tryz.func166, Tryz.ntmps166
    go_wp2_with (go_at_call 69; refine (dis_any H.out _ _).mono ?_; rintro e w' ⟨rfl, hww⟩; subst hww; rw [his])
    go_ret
    exact ⟨by rw [E.out]; rfl, rfl⟩
  | true =>
    obtain ⟨k, rfl, hk, hlv⟩ := isN_nat his
    have hk' : k < rs.length := by rw [H.out.len]; exact hk
    have h8 := H.out.row.c8 k hk'
    have h4 := H.out.row.c4 k hk'
    have E : Hid (slottedD d (k : Int) = (!rs[k].inS && Tn.isN d rs[k].up true && (Tn.nd d rs[k].up.toNat).hasS)) := by
      show _ = _
      unfold slottedD
      rw [his, Int.toNat_natCast, nd_at hk, ← (H.out.nds k hk' hk).inS, ← (H.out.nds k hk' hk).up]
      simp
    have U : Hid (∀ u : Nat, u < d.length → ∃ x, w.cell? ⟨b, o + u * 9 + 6, none⟩ = some (.bool x) ∧ x = (Tn.nd d u).hasS) := by
      intro u hu
      have hu' : u < rs.length := by rw [H.out.len]; exact hu
      exact ⟨_, H.out.row.c6 u hu', by rw [nd_at hu]; exact (H.out.nds u hu' hu).hasS⟩
    generalize rs[k].inS = is at *
    generalize rs[k].up = q at *
    generalize slottedD d (k : Int) = res at *
    clear hlv
    cases is with
    | true =>
      go_enter Tryz.func166, Tryz.ntmps166
      go_wp2_with (go_at_call 69; refine (dis_any H.out _ _).mono ?_; rintro e w' ⟨rfl, hww⟩; subst hww; rw [his])
      go_ret
      exact ⟨by rw [E.out]; rfl, rfl⟩
    | false =>
      cases hiu : Tn.isN d q true with
      | false =>
        have E2 : Hid (res = false) := by show _ = _; rw [E.out, hiu]; rfl
        go_enter Tryz.func166, Tryz.ntmps166
        go_wp2_with (go_at_call 69; refine (dis_any H.out _ _).mono ?_; rintro e w' ⟨rfl, hww⟩; subst hww; first | rw [his] | rw [hiu])
        go_ret
        exact ⟨by rw [E2.out]; rfl, rfl⟩
      | true =>
        obtain ⟨u, rfl, hu, _⟩ := isN_nat (isN_true hiu)
        have hur : u < rs.length := by rw [H.out.len]; exact hu
        obtain ⟨x, h6, hx⟩ := U.out u hu
        have E2 : Hid (res = x) := by show _ = _; rw [E.out, hiu, hx]; simp
        clear hx
        go_enter Tryz.func166, Tryz.ntmps166
        go_wp2_with (go_at_call 69; refine (dis_any H.out _ _).mono ?_; rintro e w' ⟨rfl, hww⟩; subst hww; first | rw [his] | rw [hiu])
        go_ret
        exact ⟨by rw [E2.out]; rfl, rfl⟩
end Go.Proofs.YtbinbojicmhdlaeGreatDoor

/-
  THE WALKS of slices.IndexFunc and slices.DeleteFunc at ints, whatever the function.
-/
namespace Go.Proofs.YtbinbojicmhdlaeGreatDoor
open Go.RowKit

theorem grow_below {a w w' : World} {row : Option Nat} (h : a.grownBy w row) (hb : Below w.heap.size w w') : a.grownBy w' row :=
  ⟨hb.os.trans h.os, hb.tape.trans h.tape, hb.output.trans h.output, Nat.le_trans h.size hb.size, fun k hk hr => (hb.block k (Nat.lt_of_lt_of_le hk h.size)).trans (h.block k hk hr)⟩
theorem grow_set {a w : World} {g : Nat} (h : a.grownBy w (some g)) (i : Nat) (u : Value) : a.grownBy (w.setCell ⟨g, i, none⟩ u) (some g) := by
  have hb : Below 0 w (w.setCell ⟨g, i, none⟩ u) := (Below.refl 0 w).setCell (Nat.zero_le _) u
  refine ⟨hb.os.trans h.os, hb.tape.trans h.tape, hb.output.trans h.output, Nat.le_trans h.size hb.size, fun k hk hr => ?_⟩
  have hk' : Below g w (w.setCell ⟨g, i, none⟩ u) := (Below.refl g w).setCell (Nat.le_refl _) u
  rw [← h.block k hk hr]
  exact heap_setCell_other _ _ _ _ (fun e => hr (by rw [e]))

/-- a function value of one int, that answers p, and lays only what is its own -/
def Tests (g : Nat) (lb : Array Value) (p : Nat → Bool) (W : World) : Prop :=
  ∀ k : Nat, Calls Tryz.prog g (#[.int .i64 (k : Int)] ++ lb) W fun e w' => e = .returned (.bool (p k)) ∧ Below W.heap.size W w'

set_option maxHeartbeats 1600000 in
theorem idxF_any {g : Nat} {lb : Array Value} {p : Nat → Bool} (eg : ∀ args w, (callFunc g args).run Tryz.prog w = .ok (.enter g args) w) {w : World} {vl : Value} {l : List Nat} (hl : IntsAt w vl l) (hF : ∀ W, Below w.heap.size w W → Tests g lb p W) :
    Calls Tryz.prog 105 #[vl, .func (.func g) #[] lb] w fun e w' => e = .returned (.int .i64 (idxI p l)) ∧ Below w.heap.size w w' := by
  obtain ⟨q, cc, rfl, h1, h2, _, hat⟩ := hl.at
  have T : Hid (∀ j (hj : j < l.length), ∃ b o, q = some ⟨b, o, none⟩ ∧ w.cell? ⟨b, o + j, none⟩ = some (.int .i64 (l[j] : Int))) := hat
  have HA : Hid (∀ W, Below w.heap.size w W → Tests g lb p W) := hF
  clear hat hl hF
  go_enter Tryz.func105, Tryz.ntmps105
  go_wp2_with fail
  go_loopw [8] (fun i wr => ∃ j : Nat, j ≤ l.length ∧ i = .int .i64 j ∧ Hid (∀ k ∈ l.take j, p k = false) ∧ Below w.heap.size w wr) (fun i _ => l.length - (intOf i).toNat)
  case atStart => exact ⟨0, Nat.zero_le _, rfl, fun k hk => by simp at hk, Below.refl _ _⟩
  case round =>
    obtain ⟨j, hj, rfl, NO, hnx⟩ := hrel
    by_cases hlt : j < l.length
    · obtain ⟨e1, o1, rfl, k1⟩ := T.out j hlt
      have y1 := keeps_below hnx (Nat.le_refl _) _ _ k1
      clear k1
      have hF := HA.out wr hnx l[j]
      cases hh : p l[j] with
      | true =>
        have E : Hid (idxI p l = (j : Int)) := idxI_some hlt hh NO.out
        rw [hh] at hF
        clear hh
        generalize l[j] = x at *
        go_wp2_with (go_at_fn g; refine hF.mono ?_; rintro e w9 ⟨rfl, hb9⟩)
        go_ret
        exact ⟨by rw [E.out]; rfl, hnx.trans (hb9.mono hnx.size)⟩
      | false =>
        have N2 : Hid (∀ k ∈ l.take (j + 1), p k = false) := by
          intro k hk
          rw [List.take_succ_eq_append_getElem hlt, List.mem_append, List.mem_singleton] at hk
          rcases hk with hk | rfl
          · exact NO.out k hk
          · exact hh
        rw [hh] at hF
        clear hh
        generalize l[j] = x at *
        go_wp2_with (go_at_fn g; refine hF.mono ?_; rintro e w9 ⟨rfl, hb9⟩)
        go_roundw
        case rel => exact ⟨j + 1, by omega, by go_num, N2, hnx.trans (hb9.mono hnx.size)⟩
        case measure => simp [intOf]; omega
    · obtain rfl : j = l.length := by omega
      have E : Hid (idxI p l = -1) := idxI_none (fun k hk => NO.out k (by rw [List.take_length]; exact hk))
      go_wp2_with fail
      go_ret
      exact ⟨by rw [E.out]; rfl, hnx⟩

theorem take_filter_succ (p : Nat → Bool) (l : List Nat) (j : Nat) (h : j < l.length) : (l.take (j + 1)).filter (fun k => !p k) = (l.take j).filter (fun k => !p k) ++ (if p l[j] then [] else [l[j]]) := by
  rw [List.take_succ_eq_append_getElem h, List.filter_append]
  congr 1
  cases hp : p l[j] <;> simp [hp]

theorem filter_first {p : Nat → Bool} {l : List Nat} {j : Nat} (h : j < l.length) (hp : p l[j] = true) (hn : ∀ k ∈ l.take j, p k = false) : (l.take (j + 1)).filter (fun k => !p k) = l.take j := by
  rw [take_filter_succ p l j h, hp]
  simp only [if_true, List.append_nil]
  rw [List.filter_eq_self]
  intro a ha
  simp [hn a ha]

/-- the row as it stands while it is rewritten -/
structure Kept1 (p : Nat → Bool) (l m : List Nat) (i j : Nat) : Prop where
  len : m.length = l.length
  lt : i < j
  le : j ≤ l.length
  done : m.take i = (l.take j).filter fun k => !p k
  cnt : ((l.take j).filter fun k => !p k).length = i
  rest : ∀ q (h : q < l.length) (h' : q < m.length), j ≤ q → m[q] = l[q]

theorem Kept1.keep {p : Nat → Bool} {l m : List Nat} {i j : Nat} (h : Kept1 p l m i j) (hj : j < l.length) (hp : p l[j] = false) : Kept1 p l (m.set i l[j]) (i + 1) (j + 1) := by
  have e := take_filter_succ p l j hj
  rw [hp] at e
  simp only [Bool.false_eq_true, if_false] at e
  have hl := h.len
  have hlt := h.lt
  refine ⟨by simpa using hl, by omega, by omega, ?_, by rw [e, List.length_append, h.cnt]; rfl, fun q hq hq' hjq => ?_⟩
  · rw [e, ← h.done]
    rw [List.take_succ_eq_append_getElem (by simp; omega)]
    simp
    rw [List.take_set_of_le (Nat.le_refl _)]
  · rw [List.getElem_set_ne (by omega)]
    exact h.rest q hq (by simpa using hq') (by omega)
theorem Kept1.skip {p : Nat → Bool} {l m : List Nat} {i j : Nat} (h : Kept1 p l m i j) (hj : j < l.length) (hp : p l[j] = true) : Kept1 p l m i (j + 1) := by
  have e := take_filter_succ p l j hj
  rw [hp] at e
  simp only [if_true, List.append_nil] at e
  have hlt := h.lt
  exact ⟨h.len, by omega, by omega, by rw [e]; exact h.done, by rw [e]; exact h.cnt, fun q hq hq' hjq => h.rest q hq hq' (by omega)⟩

theorem owns_cut {w : World} {B g c n i : Nat} {l : List Nat} (h : OwnI w B (.slice (some ⟨g, 0, none⟩) n c) l) (hn : n = l.length) (hi : i ≤ l.length) : OwnI w B (.slice (some ⟨g, 0, none⟩) i c) (l.take i) := by
  subst hn
  obtain ⟨hl, hz⟩ := h
  rcases hz with ⟨h5, _⟩ | ⟨g', cap, cur, e, h3, h6, h7, h8, h9, h10⟩
  · cases h5
  · cases e
    refine ⟨by simp, Or.inr ⟨g, c, cur, by simp [Nat.min_eq_left hi], h3, h6, by simp; omega, h8, h9, ?_⟩⟩
    rw [List.map_take, ← h10, List.take_take]
    simp [Nat.min_eq_left hi]

theorem owns_behind {B g c i : Nat} {l : List Nat} (hn : i = l.length) : ∀ (vs : List Value) (w : World) (s : Nat), l.length ≤ s → OwnI w B (.slice (some ⟨g, 0, none⟩) i c) l → OwnI (w.setCells g s vs) B (.slice (some ⟨g, 0, none⟩) i c) l
  | [], _, _, _, h => h
  | x :: vs, w, s, hs, h => by
    subst hn
    refine owns_behind rfl vs (w.setCell ⟨g, s, none⟩ x) (s + 1) (by omega) ?_
    have := owns_set h s x
    unfold OwnI
    rw [List.set_eq_of_length_le (by simpa using hs)] at this
    exact this

theorem grown_setCells {g : Nat} {a : World} : ∀ (vs : List Value) (w : World) (s : Nat), a.grownBy w (some g) → a.grownBy (w.setCells g s vs) (some g)
  | [], _, _, h => h
  | _ :: vs, _, s, h => grown_setCells vs _ (s + 1) (grow_set h s _)

theorem idx_cases2 (p : Nat → Bool) (l : List Nat) : (idxI p l = -1 ∧ ∀ k ∈ l, p k = false) ∨ ∃ j, ∃ hj : j < l.length, idxI p l = (j : Int) ∧ p l[j] = true ∧ ∀ k ∈ l.take j, p k = false := by
  cases h : l.findIdx? p with
  | none => exact Or.inl ⟨by unfold idxI; rw [h], fun k hk => List.findIdx?_eq_none_iff.mp h k hk⟩
  | some j =>
    right
    obtain ⟨hj, hp, hn⟩ := List.findIdx?_eq_some_iff_getElem.mp h
    refine ⟨j, hj, by unfold idxI; rw [h], hp, fun k hk => ?_⟩
    obtain ⟨q, hq, rfl⟩ := List.mem_take_iff_getElem.mp hk
    have := hn q (by omega)
    simpa using this

theorem own_cell {w : World} {B G n c : Nat} {l : List Nat} (h : OwnI w B (.slice (some ⟨G, 0, none⟩) n c) l) (j : Nat) (hj : j < l.length) : w.cell? ⟨G, j, none⟩ = some (.int .i64 (l[j] : Int)) ∧ w.frozen? ⟨G, j, none⟩ = false := by
  have hc := World.ownsRow.cells h (g := G) rfl j (.int .i64 (l[j] : Int)) (by simp [List.getElem?_eq_getElem hj, iv])
  rw [add_at, Nat.zero_add] at hc
  refine ⟨hc, ?_⟩
  obtain ⟨hl, hz⟩ := h
  rcases hz with ⟨h5, _⟩ | ⟨g', cap, cur, e, h3, h6, h7, h8, h9, h10⟩
  · cases h5
  · cases e
    simp [World.frozen?, h6]

theorem own_shape2 {w : World} {B : Nat} {v : Value} {l : List Nat} (h : OwnI w B v l) (hl : 0 < l.length) : ∃ G c, v = .slice (some ⟨G, 0, none⟩) l.length c ∧ B ≤ G ∧ G < w.heap.size ∧ l.length ≤ c ∧ c ≤ 9223372036854775807 := by
  obtain ⟨hl, hz⟩ := h
  rcases hz with ⟨_, h5⟩ | ⟨g', cap, cur, e, h3, h6, h7, h8, h9, h10⟩
  · omega
  · exact ⟨g', cap, e, h3, by rw [Array.getElem?_eq_some_iff] at h6; exact h6.1, h7, by unfold maxLen at h8; omega⟩

set_option maxHeartbeats 1600000 in
theorem del_any {g : Nat} {lb : Array Value} {p : Nat → Bool} (eg : ∀ args w, (callFunc g args).run Tryz.prog w = .ok (.enter g args) w) {w : World} {B : Nat} {v : Value} {l : List Nat} (hown : OwnI w B v l) (hl : l.length ≤ 1000) (hF : ∀ W, w.grownBy W v.ownBlock → Tests g lb p W) :
    Calls Tryz.prog 161 #[v, .func (.func g) #[] lb] w fun e w' => ∃ v', e = .returned v' ∧ OwnI w' B v' (l.filter fun k => !p k) ∧ v'.ownBlock = v.ownBlock ∧ w.grownBy w' v.ownBlock := by
  have hI := idxF_any eg (ints_of_owns hown) (fun W hb => hF W (grow_below (grown_refl _ _) hb))
  rcases idx_cases2 p l with ⟨e1, e2⟩ | ⟨j0, hj0, e1, e2, e3⟩
  · have hfil : (l.filter fun k => !p k) = l := by
      rw [List.filter_eq_self]
      intro a ha
      simp [e2 a ha]
    rw [hfil]
    rw [e1] at hI
    obtain ⟨pp, cc, rfl⟩ := hown.shape
    have O : Hid (OwnI w B (.slice pp l.length cc) l) := hown
    clear hown hF e1 e2 hfil
    go_enter Tryz.func161, Tryz.ntmps161
    go_wp2_with (go_at_call 105; refine hI.mono ?_; rintro e w9 ⟨rfl, hb9⟩)
    go_ret
    exact ⟨_, rfl, O.out.below hb9 (Nat.le_refl _), rfl, grow_below (grown_refl _ _) hb9⟩
  · rw [e1] at hI
    have hlp : 0 < l.length := by omega
    obtain ⟨G, cap, rfl, hBG, hGs, hlc, hcm⟩ := own_shape2 hown hlp
    have hob : (Value.slice (some ⟨G, 0, none⟩) l.length cap).ownBlock = some G := rfl
    rw [hob] at hF ⊢
    have HA : Hid (∀ W, w.grownBy W (some G) → Tests g lb p W) := hF
    have O : Hid (OwnI w B (.slice (some ⟨G, 0, none⟩) l.length cap) l) := hown
    have K0 : Hid (Kept1 p l l j0 (j0 + 1)) := by
      have hf := filter_first hj0 e2 e3
      exact ⟨rfl, by omega, by omega, hf.symm, by rw [hf]; simp; omega, fun q hq hq' _ => rfl⟩
    clear hown hF e1 e2 e3 hob
    have hne1 : ((j0 : Int) == -1) = false := beq_eq_false_iff_ne.2 (by omega)
    go_enter Tryz.func161, Tryz.ntmps161
    go_wp2_with (go_at_call 105; refine hI.mono ?_; rintro e w9 ⟨rfl, hb9⟩)
    go_loopw [5, 6, 7] (fun iv jv _ wr => ∃ (i j : Nat) (m : List Nat), iv = .int .i64 i ∧ jv = .int .i64 j ∧ Hid (Kept1 p l m i j) ∧ Hid (OwnI wr B (.slice (some ⟨G, 0, none⟩) l.length cap) m) ∧ w.grownBy wr (some G)) (fun _ jv _ _ => l.length - (intOf jv).toNat)
    case atStart => exact ⟨j0, j0 + 1, l, rfl, by go_num, K0, (O.out.below hb9 (Nat.le_refl _)), grow_below (grown_refl _ _) hb9⟩
    case round =>
      obtain ⟨i, j, m, rfl, rfl, KP, OW, hgr⟩ := hrel
      have hij := KP.out.lt
      have hjl := KP.out.le
      have hml : m.length = l.length := KP.out.len
      by_cases hlt : j < l.length
      · have hltz : (j : Int) < (l.length : Int) := by omega
        obtain ⟨cj, _⟩ := own_cell OW.out j (by omega)
        rw [KP.out.rest j hlt (by omega) (Nat.le_refl _)] at cj
        obtain ⟨ci, fi⟩ := own_cell OW.out i (by omega)
        have hC := HA.out wr hgr l[j]
        generalize (m[i]'(by omega) : Nat) = old at ci
        cases hh : p l[j] with
        | true =>
          have K2 : Hid (Kept1 p l m i (j + 1)) := KP.out.skip hlt hh
          rw [hh] at hC
          clear hh
          generalize l[j] = x at *
          go_wp2_with (go_at_fn g; refine hC.mono ?_; rintro e wa ⟨rfl, hba⟩)
          go_roundw
          case rel => exact ⟨i, j + 1, m, rfl, by go_num, K2, OW.out.below hba (Nat.le_refl _), grow_below hgr hba⟩
          case measure => simp [intOf]; omega
        | false =>
          have K2 : Hid (Kept1 p l (m.set i l[j]) (i + 1) (j + 1)) := KP.out.keep hlt hh
          rw [hh] at hC
          clear hh
          generalize l[j] = x at *
          go_wp2_with (go_at_fn g; refine hC.mono ?_; rintro e wa ⟨rfl, hba⟩; have c9 := keeps_below hba (Nat.le_refl _) _ _ ci; have f9 := (hba.frozen (p := ⟨G, i, none⟩) (lt_of_cell ci)).trans fi)
          go_roundw
          case rel =>
            refine ⟨i + 1, j + 1, m.set i x, by go_num, by go_num, K2, ?_, grow_set (grow_below hgr hba) _ _⟩
            have h1 : OwnI wa B (.slice (some ⟨G, 0, none⟩) m.length cap) m := by rw [hml]; exact OW.out.below hba (Nat.le_refl _)
            have h2 := owns_set h1 i (iv x)
            show OwnI _ _ _ _
            unfold OwnI
            rw [List.map_set, List.length_set, ← hml]
            exact h2
          case measure => simp [intOf]; omega
      · obtain rfl : j = l.length := by omega
        have hcl : ∀ ty, (Builtin.clear_ #[33] ty #[.slice (some ⟨G, i, none⟩) (l.length - i) (cap - i)]).run Tryz.prog wr = .ok (.tuple #[]) (wr.setCells G i (List.replicate (l.length - i) (.int .i64 0))) :=
          fun ty => Lib.run_clear_slice wr _ _ ty _ Tryz.underlying33 Tryz.zeroValue3 rfl rfl G i _ _ (by omega) (fun t ht => by rw [(own_cell OW.out (i + t) (by omega)).1]; rfl) (fun t ht => (own_cell OW.out (i + t) (by omega)).2)
        have R : Hid (OwnI (wr.setCells G i (List.replicate (l.length - i) (.int .i64 0))) B (.slice (some ⟨G, 0, none⟩) i cap) (l.filter fun k => !p k)) := by
          have h1 := owns_cut (i := i) OW.out (by omega) (by omega)
          rw [KP.out.done, List.take_length] at h1
          exact owns_behind (by have := KP.out.cnt; rw [List.take_length] at this; omega) _ _ _ (by have := KP.out.cnt; rw [List.take_length] at this; omega) h1
        have hgr2 := grown_setCells (List.replicate (l.length - i) (.int .i64 0)) wr i hgr
        go_wp2_with fail
        go_ret
        exact ⟨_, rfl, R.out, rfl, hgr2⟩
end Go.Proofs.YtbinbojicmhdlaeGreatDoor

/-
  THE WALKS of flat.Slot.
-/
namespace Go.Proofs.YtbinbojicmhdlaeGreatDoor
open Go.RowKit

set_option maxHeartbeats 1600000 in
theorem slot1_any {w : World} {b o c D X G : Nat} {rs : List Raw} {d : Tn.Dc} {want : ByteArray} {host : Int} (hd : DocAt w b o c rs d) (hg : Okd d) (hD : w.cell? ⟨D, 0, none⟩ = some (.slice (some ⟨b, o, none⟩) rs.length c)) (hX : w.cell? ⟨X, 0, none⟩ = some (.string want)) (hG : w.cell? ⟨G, 0, none⟩ = some (.int .i64 host)) (k : Nat) :
    Calls Tryz.prog 167 #[.int .i64 (k : Int), .pointer (some ⟨D, 0, none⟩), .pointer (some ⟨X, 0, none⟩), .pointer (some ⟨G, 0, none⟩)] w fun e w' => e = .returned (.bool (fitsD d want host k)) ∧ Below w.heap.size w w' := by
  have H : Hid (DocAt w b o c rs d) := hd
  have hA := dattr_all hd hg (k : Int) nameB
  have hname : nameB = ⟨#[110, 97, 109, 101]⟩ := rfl
  have HD : Hid (fitsD d want host k = (isSlotD d (k : Int) && ((valN d (k : Int) nameB).toList == want.toList) && (scopeD d (k : Int) == host))) := rfl
  have hS : ∀ W, DocAt W b o c rs d → Calls Tryz.prog 103 #[.slice (some ⟨b, o, none⟩) rs.length c, .int .i64 (k : Int)] W fun e w' => e = .returned (.int .i64 (scopeD d (k : Int))) ∧ Below W.heap.size W w' := fun W h => dscope_any h hg.tame k
  have hL : ∀ W, DocAt W b o c rs d → Calls Tryz.prog 160 #[.slice (some ⟨b, o, none⟩) rs.length c, .int .i64 (k : Int)] W fun e w' => e = .returned (.bool (isSlotD d (k : Int))) ∧ w' = W := fun W h => fisSlot_any h k
  clear hd
  generalize fitsD d want host k = res at *
  generalize scopeD d (k : Int) = sk at *
  generalize valN d (k : Int) nameB = vv at *
  generalize (attrN d (k : Int) nameB).isSome = vs at *
  rw [hname] at hA
  cases hx : isSlotD d (k : Int) with
  | false =>
    have E : Hid (res = false) := by show _ = _; rw [HD.out, hx]; rfl
    rw [hx] at hL
    clear hx HD
    go_enter Tryz.func167, Tryz.ntmps167
    go_wp2_with (go_at_call 48; refine hA.mono ?_; rintro e w9 ⟨rfl, hb9⟩)
    have J9 := keeps_below hb9 (Nat.le_refl _)
    have d9 := J9 _ _ hD
    have x9 := J9 _ _ hX
    have g9 := J9 _ _ hG
    have D9 : Hid (DocAt w9 b o c rs d) := H.out.keeps J9
    go_quiet ((go_at_call 160; exact Calls.quiet_of_same (hL _ (D9.out.keeps (keeps_drewN _ _)))))
    go_wp2_with fail
    go_ret
    exact ⟨by rw [E.out]; rfl, hb9.trans ⟨rfl, rfl, rfl, Nat.le_refl _, fun _ _ => rfl⟩⟩
  | true =>
    rw [hx] at hL HD
    clear hx
    cases hq : (vv.toList == want.toList) with
    | false =>
      have E : Hid (res = false) := by show _ = _; rw [HD.out, hq]; rfl
      clear HD
      go_enter Tryz.func167, Tryz.ntmps167
      go_wp2_with (go_at_call 48; refine hA.mono ?_; rintro e w9 ⟨rfl, hb9⟩)
      have J9 := keeps_below hb9 (Nat.le_refl _)
      have d9 := J9 _ _ hD
      have x9 := J9 _ _ hX
      have g9 := J9 _ _ hG
      have D9 : Hid (DocAt w9 b o c rs d) := H.out.keeps J9
      go_quiet ((go_at_call 160; exact Calls.quiet_of_same (hL _ (D9.out.keeps (keeps_drewN _ _)))))
      go_wp2_with fail
      go_ret
      exact ⟨by rw [E.out]; rfl, hb9.trans ⟨rfl, rfl, rfl, Nat.le_refl _, fun _ _ => rfl⟩⟩
    | true =>
      have E : Hid (res = (sk == host)) := by show _ = _; rw [HD.out, hq]; rfl
      clear HD
      go_enter Tryz.func167, Tryz.ntmps167
      go_wp2_with (go_at_call 48; refine hA.mono ?_; rintro e w9 ⟨rfl, hb9⟩)
      have J9 := keeps_below hb9 (Nat.le_refl _)
      have d9 := J9 _ _ hD
      have x9 := J9 _ _ hX
      have g9 := J9 _ _ hG
      have D9 : Hid (DocAt w9 b o c rs d) := H.out.keeps J9
      have SS : ∀ w'', Keeps w9 w'' → (fun w'' => w''.cell? ⟨D, 0, none⟩ = some (.slice (some ⟨b, o, none⟩) rs.length c) ∧ w''.cell? ⟨X, 0, none⟩ = some (.string want) ∧ w''.cell? ⟨G, 0, none⟩ = some (.int .i64 host)) w'' := fun w'' hk => ⟨hk _ _ d9, hk _ _ x9, hk _ _ g9⟩
      go_region_held3 (fun w'' => w''.cell? ⟨D, 0, none⟩ = some (.slice (some ⟨b, o, none⟩) rs.length c) ∧ w''.cell? ⟨X, 0, none⟩ = some (.string want) ∧ w''.cell? ⟨G, 0, none⟩ = some (.int .i64 host))
        ((apply SS; first | exact Keeps.refl _ | assumption | exact keeps_drew (Keeps.refl _)))
        (first
          | (go_at_call 160; refine (hL _ (D9.out.keeps (keeps_drew (Keeps.refl _)))).mono ?_; rintro e wb ⟨rfl, hwb⟩; subst hwb)
          | (go_at_call 103; refine (hS _ (D9.out.keeps (keeps_drew (Keeps.refl _)))).mono ?_; rintro e wa ⟨rfl, hba⟩; have Ja : Keeps w9 wa := (keeps_drew (Keeps.refl w9)).trans (keeps_below hba (Nat.le_refl _))))
      all_goals
        go_wp2_with fail
        go_ret
        exact ⟨by rw [E.out]; rfl, hb9.trans ((Below.refl _ w9).drew.trans (hba.mono hb9.size))⟩
end Go.Proofs.YtbinbojicmhdlaeGreatDoor

/-
  THE WALK of flat.Slot.
-/
namespace Go.Proofs.YtbinbojicmhdlaeGreatDoor
open Go.RowKit

theorem slot1_enters : ∀ args w, (callFunc 167 args).run Tryz.prog w = .ok (.enter 167 args) w := enters_of Tryz.func167 (by kernel_rfl) rfl

theorem slot1_tests {w : World} {b o c D X G : Nat} {rs : List Raw} {d : Tn.Dc} {want : ByteArray} {host : Int} (hd : DocAt w b o c rs d) (hg : Okd d) (hD : w.cell? ⟨D, 0, none⟩ = some (.slice (some ⟨b, o, none⟩) rs.length c)) (hX : w.cell? ⟨X, 0, none⟩ = some (.string want)) (hG : w.cell? ⟨G, 0, none⟩ = some (.int .i64 host)) :
    Tests 167 #[.pointer (some ⟨D, 0, none⟩), .pointer (some ⟨X, 0, none⟩), .pointer (some ⟨G, 0, none⟩)] (fitsD d want host) w := by
  intro k
  have e : (#[.int .i64 (k : Int)] ++ #[.pointer (some ⟨D, 0, none⟩), .pointer (some ⟨X, 0, none⟩), .pointer (some ⟨G, 0, none⟩)] : Array Value) = #[.int .i64 (k : Int), .pointer (some ⟨D, 0, none⟩), .pointer (some ⟨X, 0, none⟩), .pointer (some ⟨G, 0, none⟩)] := by simp
  rw [e]
  exact slot1_any hd hg hD hX hG k

set_option maxHeartbeats 1600000 in
theorem fslot_any {w : World} {b o c : Nat} {rs : List Raw} {d : Tn.Dc} (hd : DocAt w b o c rs d) (hg : Okd d) (n : Int) :
    Calls Tryz.prog 147 #[.slice (some ⟨b, o, none⟩) rs.length c, .int .i64 n] w fun e w' => e = .returned (.int .i64 (slotD d n)) ∧ Below w.heap.size w w' := by
  have H : Hid (DocAt w b o c rs d) := hd
  have K1 : Keeps w (w.alloc (.cells #[.slice (some ⟨b, o, none⟩) rs.length c] 24)) := keeps_alloc _ _
  have B1 : Below w.heap.size w (w.alloc (.cells #[.slice (some ⟨b, o, none⟩) rs.length c] 24)) := (Below.refl w.heap.size w).alloc (Nat.le_refl _) _
  clear hd
  cases hsl : slottedD d n with
  | false =>
    have E : Hid (slotD d n = -1) := by show _ = _; unfold slotD; rw [if_neg (by simp [hsl])]
    go_enter Tryz.func147, Tryz.ntmps147
    go_wp2_with (go_at_call 166; refine (fslotted_any (H.out.keeps K1) _).mono ?_; rintro e w' ⟨rfl, hww⟩; subst hww; rw [hsl])
    go_ret
    exact ⟨by rw [E.out]; rfl, B1⟩
  | true =>
    have hsl' := hsl
    unfold slottedD at hsl'
    simp only [Bool.and_eq_true] at hsl'
    obtain ⟨⟨⟨his, _⟩, hiu⟩, _⟩ := hsl'
    obtain ⟨k, rfl, hk, hlv⟩ := isN_nat his
    rw [Int.toNat_natCast] at hiu
    obtain ⟨u, hu, hul, hulv⟩ := isN_nat (isN_true hiu)
    have hk' : k < rs.length := by rw [H.out.len]; exact hk
    have h4 := K1 _ _ (H.out.row.c4 k hk')
    have hup : rs[k].up = (u : Int) := by rw [(H.out.nds k hk' hk).up, ← nd_at hk, hu]
    rw [hup] at h4
    have E : Hid (slotD d (k : Int) = orI ((Tn.all Tn.fuel d u).find? (fitsD d (valN d (k : Int) slotB) (u : Int)))) := by show _ = _; unfold slotD; rw [if_pos hsl, Int.toNat_natCast, hu, Int.toNat_natCast]
    have UL : Tn.lvD d u = true := hulv
    clear hlv hup hu hiu his hulv
    have q0 := cell_box w (.slice (some ⟨b, o, none⟩) rs.length c) (t := 24)
    go_enter Tryz.func147, Tryz.ntmps147
    go_upto_region 3 with (go_at_call 166; refine (fslotted_any (H.out.keeps K1) _).mono ?_; rintro e w' ⟨rfl, hww⟩; subst hww; rw [hsl])
    have K2 : Keeps w ((w.alloc (.cells #[.slice (some ⟨b, o, none⟩) rs.length c] 24)).alloc (.cells #[.int .i64 (u : Int)] 3)) := keeps_alloc' _ K1
    have hA := dattr_all (H.out.keeps K2) hg (k : Int) slotB
    have hslot : slotB = ⟨#[115, 108, 111, 116]⟩ := rfl
    generalize valN d (k : Int) slotB = want at *
    generalize (attrN d (k : Int) slotB).isSome = ws at *
    rw [hslot] at hA
    generalize hW1 : w.alloc (.cells #[.slice (some ⟨b, o, none⟩) rs.length c] 24) = w1 at *
    have q1 := cell_box w1 (.int .i64 (u : Int)) (t := 3)
    have q0' := keeps_alloc w1 (.cells #[.int .i64 (u : Int)] 3) _ _ q0
    have B2 : Below w.heap.size w (w1.alloc (.cells #[.int .i64 (u : Int)] 3)) := B1.alloc (by rw [← hW1]; simp) _
    clear hW1
    go_upto_region 4 with fail
    generalize w1.alloc (.cells #[.int .i64 (u : Int)] 3) = w2 at *
    go_upto_region 5 with (go_at_call 48; refine hA.mono ?_; rintro e w3 ⟨rfl, hb3⟩; have q03 := keeps_below hb3 (Nat.le_refl _) _ _ q0'; have q13 := keeps_below hb3 (Nat.le_refl _) _ _ q1)
    have K4 : Keeps w (w3.alloc (.cells #[.string want] 9)) := keeps_alloc' _ (K2.trans (keeps_below hb3 (Nat.le_refl _)))
    have B4 : Below w.heap.size w (w3.alloc (.cells #[.string want] 9)) := (B2.trans (hb3.mono B2.size)).alloc (Nat.le_trans B2.size hb3.size) _
    have q2 := cell_box w3 (.string want) (t := 9)
    have q04 := keeps_alloc w3 (.cells #[.string want] 9) _ _ q03
    have q14 := keeps_alloc w3 (.cells #[.string want] 9) _ _ q13
    clear q03 q13 q0' q1 q0 h4 K1 K2 B1 B2 hA hb3 hsl hslot
    generalize hW4 : w3.alloc (.cells #[.string want] 9) = w4 at *
    clear hW4
    have hAl := dall_any (H.out.keeps K4) hg.tame hg.small u UL
    go_upto_region 6 with (go_at_call 104; refine hAl.mono ?_; rintro e w5 ⟨v, rfl, hov, hb5⟩; have K45 := keeps_below hb5 (Nat.le_refl _); have q05 := K45 _ _ q04)
    have K5 : Keeps w w5 := K4.trans (keeps_below hb5 (Nat.le_refl _))
    have J5 := keeps_below hb5 (Nat.le_refl _)
    have B5 : Below w.heap.size w w5 := B4.trans (hb5.mono B4.size)
    have hF := idxF_any slot1_enters (ints_of_owns hov) (fun W hbW => slot1_tests (H.out.keeps (K5.trans (keeps_below hbW (Nat.le_refl _)))) hg (keeps_below hbW (Nat.le_refl _) _ _ (J5 _ _ q04)) (keeps_below hbW (Nat.le_refl _) _ _ (J5 _ _ q2)) (keeps_below hbW (Nat.le_refl _) _ _ (J5 _ _ q14)))
    obtain ⟨p, cc, rfl, i1, i2, _, hat⟩ := (ints_of_owns hov).at
    rcases idx_cases (fitsD d want (u : Int)) (Tn.all Tn.fuel d u) with ⟨x1, x2⟩ | ⟨j, hj, x1, x2⟩
    · rw [x1] at hF
      have E2 : Hid (slotD d (k : Int) = -1) := by show _ = _; rw [E.out, x2]; rfl
      clear x1 x2 E hat hAl
      go_wp2_with (go_at_call 105; refine hF.mono ?_; rintro e w9 ⟨rfl, hb9⟩)
      go_ret
      exact ⟨by rw [E2.out]; rfl, B5.trans (hb9.mono B5.size)⟩
    · rw [x1] at hF
      have E2 : Hid (slotD d (k : Int) = ((Tn.all Tn.fuel d u)[j] : Nat)) := by show _ = _; rw [E.out, x2]; rfl
      obtain ⟨e1, o1, rfl, k1⟩ := hat j hj
      clear x1 x2 E hat hAl
      generalize (Tn.all Tn.fuel d u)[j] = y at *
      go_wp2_with (go_at_call 105; refine hF.mono ?_; rintro e w9 ⟨rfl, hb9⟩; have k9 := keeps_below hb9 (Nat.le_refl _) _ _ k1)
      go_ret
      exact ⟨by rw [E2.out]; rfl, B5.trans (hb9.mono B5.size)⟩
end Go.Proofs.YtbinbojicmhdlaeGreatDoor

/-
  THE WALKS of flat.copyOf, Given, Kids.
-/
namespace Go.Proofs.YtbinbojicmhdlaeGreatDoor
open Go.RowKit

theorem OwnI.mono {w : World} {B C : Nat} {v : Value} {l : List Nat} (h : OwnI w B v l) (hc : C ≤ B) : OwnI w C v l := by
  obtain ⟨hl, hz⟩ := h
  refine ⟨hl, ?_⟩
  rcases hz with h5 | ⟨g, cap, cur, e, h3, h6⟩
  · exact Or.inl h5
  · exact Or.inr ⟨g, cap, cur, e, by omega, h6⟩

set_option maxHeartbeats 800000 in
theorem fcopy_any {w : World} {v : Value} {l : List Nat} (hl : IntsAt w v l) (hs : l.length ≤ 1000) :
    Calls Tryz.prog 132 #[v] w fun e w' => ∃ v', e = .returned v' ∧ OwnI w' w.heap.size v' l ∧ Below w.heap.size w w' := by
  have H : Hid (IntsAt w v l) := hl
  obtain ⟨p, c, rfl, _⟩ := hl
  go_enter Tryz.func132, Tryz.ntmps132
  go_wp2_with (at_builtin; refine append_ints (w0 := w) rfl _ _ rfl (B := w.heap.size) (l := []) rfl rfl (OwnI.nil _ _) H.out (Below.refl _ _) (Nat.le_refl _) (by simp; omega) ?_; intro v1 w1 o1 n1 s1 _)
  go_ret
  exact ⟨_, rfl, o1, n1⟩

set_option maxHeartbeats 1600000 in
theorem given1_any {w : World} {b o c D S : Nat} {rs : List Raw} {d : Tn.Dc} {n : Int} (hd : DocAt w b o c rs d) (hg : Okd d) (hD : w.cell? ⟨D, 0, none⟩ = some (.slice (some ⟨b, o, none⟩) rs.length c)) (hS : w.cell? ⟨S, 0, none⟩ = some (.int .i64 n)) (k : Nat) :
    Calls Tryz.prog 162 #[.int .i64 (k : Int), .pointer (some ⟨D, 0, none⟩), .pointer (some ⟨S, 0, none⟩)] w fun e w' => e = .returned (.bool (!(slotD d (k : Int) == n))) ∧ Below w.heap.size w w' := by
  have hL : ∀ W, Keeps w W → Calls Tryz.prog 147 #[.slice (some ⟨b, o, none⟩) rs.length c, .int .i64 (k : Int)] W fun e w' => e = .returned (.int .i64 (slotD d (k : Int))) ∧ Below W.heap.size W w' := fun W h => fslot_any (hd.keeps h) hg k
  clear hd
  generalize slotD d (k : Int) = sk at *
  go_enter Tryz.func162, Tryz.ntmps162
  go_upto_region 1 with fail
  have SS : ∀ w'', Keeps w w'' → (fun w'' => w''.cell? ⟨D, 0, none⟩ = some (.slice (some ⟨b, o, none⟩) rs.length c) ∧ w''.cell? ⟨S, 0, none⟩ = some (.int .i64 n)) w'' := fun w'' hk => ⟨hk _ _ hD, hk _ _ hS⟩
  go_region_held3 (fun w'' => w''.cell? ⟨D, 0, none⟩ = some (.slice (some ⟨b, o, none⟩) rs.length c) ∧ w''.cell? ⟨S, 0, none⟩ = some (.int .i64 n))
    ((apply SS; first | exact Keeps.refl _ | assumption | exact keeps_drew (Keeps.refl _)))
    (first
      | (go_at_call 147; refine (hL _ (keeps_drew (Keeps.refl _))).mono ?_; rintro e wa ⟨rfl, hba⟩; have Ja : Keeps w wa := (keeps_drew (Keeps.refl w)).trans (keeps_below hba (Nat.le_refl _))))
  all_goals
    go_wp2_with fail
    go_ret
    exact ⟨rfl, (Below.refl _ w).drew.trans hba⟩

theorem given1_enters : ∀ args w, (callFunc 162 args).run Tryz.prog w = .ok (.enter 162 args) w := enters_of Tryz.func162 (by kernel_rfl) rfl

theorem given1_tests {w : World} {b o c D S : Nat} {rs : List Raw} {d : Tn.Dc} {n : Int} (hd : DocAt w b o c rs d) (hg : Okd d) (hD : w.cell? ⟨D, 0, none⟩ = some (.slice (some ⟨b, o, none⟩) rs.length c)) (hS : w.cell? ⟨S, 0, none⟩ = some (.int .i64 n)) :
    Tests 162 #[.pointer (some ⟨D, 0, none⟩), .pointer (some ⟨S, 0, none⟩)] (fun k => !(slotD d (k : Int) == n)) w := by
  intro k
  have e : (#[.int .i64 (k : Int)] ++ #[.pointer (some ⟨D, 0, none⟩), .pointer (some ⟨S, 0, none⟩)] : Array Value) = #[.int .i64 (k : Int), .pointer (some ⟨D, 0, none⟩), .pointer (some ⟨S, 0, none⟩)] := by simp
  rw [e]
  exact given1_any hd hg hD hS k

set_option maxHeartbeats 1600000 in
theorem fgiven_any {w : World} {b o c : Nat} {rs : List Raw} {d : Tn.Dc} (hd : DocAt w b o c rs d) (hg : Okd d) (n : Int) :
    Calls Tryz.prog 133 #[.slice (some ⟨b, o, none⟩) rs.length c, .int .i64 n] w fun e w' => ∃ v, e = .returned v ∧ OwnI w' w.heap.size v (givenD d n) ∧ Below w.heap.size w w' := by
  have H : Hid (DocAt w b o c rs d) := hd
  have K2 : Keeps w ((w.alloc (.cells #[.slice (some ⟨b, o, none⟩) rs.length c] 24)).alloc (.cells #[.int .i64 n] 3)) := keeps_alloc' _ (keeps_alloc _ _)
  have B2 : Below w.heap.size w ((w.alloc (.cells #[.slice (some ⟨b, o, none⟩) rs.length c] 24)).alloc (.cells #[.int .i64 n] 3)) := ((Below.refl w.heap.size w).alloc (Nat.le_refl _) _).alloc (by simp) _
  clear hd
  cases hsl : isSlotD d n with
  | false =>
    have E : Hid (givenD d n = []) := by show _ = _; unfold givenD; rw [if_neg (by simp [hsl])]
    go_enter Tryz.func133, Tryz.ntmps133
    go_wp2_with (go_at_call 160; refine (fisSlot_any (H.out.keeps K2) _).mono ?_; rintro e w' ⟨rfl, hww⟩; subst hww; rw [hsl])
    go_ret
    exact ⟨_, rfl, by rw [E.out]; exact OwnI.nil _ _, B2⟩
  | true =>
    have his : Tn.isN d n false = true := by
      have h1 := hsl
      unfold isSlotD at h1
      simp only [Bool.and_eq_true] at h1
      exact isN_true h1.1
    obtain ⟨k, rfl, hk, hlv⟩ := isN_nat his
    obtain ⟨s, hsc, hsv⟩ := hg.scope k hlv
    have hsd := Tn.lv_lt hsv
    have hsr : s < rs.length := by rw [H.out.len]; exact hsd
    have E : Hid (givenD d (k : Int) = (Tn.nd d s).kids.filter fun j : Nat => !(!(slotD d (j : Int) == (k : Int)))) := by
      show _ = _
      unfold givenD
      rw [if_pos hsl, hsc, Int.toNat_natCast]
      simp
    have q0 : ((w.alloc (.cells #[.slice (some ⟨b, o, none⟩) rs.length c] 24)).alloc (.cells #[.int .i64 (k : Int)] 3)).cell? ⟨w.heap.size, 0, none⟩ = some (.slice (some ⟨b, o, none⟩) rs.length c) := by rw [World.cell?_alloc2_first]; rfl
    have q1 : ((w.alloc (.cells #[.slice (some ⟨b, o, none⟩) rs.length c] 24)).alloc (.cells #[.int .i64 (k : Int)] 3)).cell? ⟨w.heap.size + 1, 0, none⟩ = some (.int .i64 (k : Int)) := by rw [World.cell?_alloc2_new]; rfl
    have hkl : (Tn.nd d s).kids.length ≤ 1000 := hg.small s false
    have hki : IntsAt w (.slice rs[s].k.p rs[s].k.n rs[s].k.c) (Tn.nd d s).kids := by rw [nd_at hsd]; exact (H.out.nds s hsr hsd).kids
    have h5 := H.out.row.c5 s hsr
    clear hlv his
    go_enter Tryz.func133, Tryz.ntmps133
    go_upto_region 3 with (go_at_call 160; refine (fisSlot_any (H.out.keeps K2) _).mono ?_; rintro e w' ⟨rfl, hww⟩; subst hww; rw [hsl])
    have hS : ∀ W, Keeps w W → Calls Tryz.prog 103 #[.slice (some ⟨b, o, none⟩) rs.length c, .int .i64 (k : Int)] W fun e w' => e = .returned (.int .i64 (s : Int)) ∧ Below W.heap.size W w' := fun W h => by rw [← hsc]; exact dscope_any (H.out.keeps h) hg.tame k
    have hC : ∀ W, Keeps w W → Calls Tryz.prog 132 #[.slice rs[s].k.p rs[s].k.n rs[s].k.c] W fun e w' => ∃ v', e = .returned v' ∧ OwnI w' W.heap.size v' (Tn.nd d s).kids ∧ Below W.heap.size W w' := fun W h => fcopy_any (hki.keeps h) hkl
    clear hsc hki hsl hsv
    have HC : Hid (∀ W, Keeps w W → Calls Tryz.prog 132 #[.slice rs[s].k.p rs[s].k.n rs[s].k.c] W fun e w' => ∃ v', e = .returned v' ∧ OwnI w' W.heap.size v' (Tn.nd d s).kids ∧ Below W.heap.size W w') := hC
    clear hC
    generalize rs[s].k = ks at *
    obtain ⟨kp, kn, kc⟩ := ks
    simp only at h5 HC
    generalize hW2 : (w.alloc (.cells #[.slice (some ⟨b, o, none⟩) rs.length c] 24)).alloc (.cells #[.int .i64 (k : Int)] 3) = w2 at *
    clear hW2
    have SS : ∀ w'', Keeps w2 w'' → (fun w'' => w''.cell? ⟨w.heap.size, 0, none⟩ = some (.slice (some ⟨b, o, none⟩) rs.length c) ∧ w''.cell? ⟨w.heap.size + 1, 0, none⟩ = some (.int .i64 (k : Int)) ∧ w''.cell? ⟨b, o + s * 9 + 5, none⟩ = some (.slice kp kn kc)) w'' := fun w'' hk => ⟨hk _ _ q0, hk _ _ q1, hk _ _ (K2 _ _ h5)⟩
    go_region_held3 (fun w'' => w''.cell? ⟨w.heap.size, 0, none⟩ = some (.slice (some ⟨b, o, none⟩) rs.length c) ∧ w''.cell? ⟨w.heap.size + 1, 0, none⟩ = some (.int .i64 (k : Int)) ∧ w''.cell? ⟨b, o + s * 9 + 5, none⟩ = some (.slice kp kn kc))
      ((apply SS; first | exact Keeps.refl _ | assumption | exact keeps_drew (Keeps.refl _)))
      (first
        | (go_at_call 103; refine (hS _ (K2.trans (keeps_drew (Keeps.refl _)))).mono ?_; rintro e wa ⟨rfl, hba⟩; have Ja : Keeps w2 wa := (keeps_drew (Keeps.refl w2)).trans (keeps_below hba (Nat.le_refl _)))
        | (go_at_call 132; refine (HC.out _ (K2.trans Ja)).mono ?_; rintro e wb ⟨v, rfl, hov, hbb⟩; have Jb : Keeps w2 wb := Ja.trans (keeps_below hbb (Nat.le_refl _))))
    all_goals
      have BA : Below w.heap.size w wa := B2.trans (((Below.refl _ w2).drew.trans hba).mono B2.size)
      have BB : Below w.heap.size w wb := BA.trans (hbb.mono BA.size)
      have hdel := del_any given1_enters hov hkl (fun W hgr => by
        have hW := (Below.refl wa.heap.size wa).trans hbb
        have hW2 := hW.grown hgr (by have := hbb.size; omega) (fun j hj => (World.ownsRow.lt hov j hj).1)
        have JW : Keeps w2 W := Ja.trans (keeps_below hW2 (Nat.le_refl _))
        exact given1_tests (H.out.keeps (K2.trans JW)) hg (JW _ _ q0) (JW _ _ q1))
      go_wp2_with (go_at_call 161; refine hdel.mono ?_; rintro e w9 ⟨v9, rfl, ho9, _, hg9⟩)
      go_ret
      exact ⟨_, rfl, by rw [E.out]; exact ho9.mono BA.size, BB.grown hg9 BB.size (fun j hj => Nat.le_trans BA.size (World.ownsRow.lt hov j hj).1)⟩
end Go.Proofs.YtbinbojicmhdlaeGreatDoor

/-
  THE WALK of slices.Index at []int.
-/
namespace Go.Proofs.YtbinbojicmhdlaeGreatDoor
open Go.RowKit

set_option maxHeartbeats 1600000 in
theorem index_any {w : World} {vl : Value} {l : List Nat} (hl : IntsAt w vl l) (x : Nat) :
    Calls Tryz.prog 100 #[vl, .int .i64 (x : Int)] w fun e w' => e = .returned (.int .i64 (idxI (fun k => k == x) l)) ∧ w' = w := by
  obtain ⟨p, cc, rfl, h1, h2, _, hat⟩ := hl.at
  have T : Hid (∀ j (hj : j < l.length), ∃ b o, p = some ⟨b, o, none⟩ ∧ w.cell? ⟨b, o + j, none⟩ = some (.int .i64 (l[j] : Int))) := hat
  clear hat hl
  go_enter Tryz.func100, Tryz.ntmps100
  go_wp2_with fail
  go_loop [8] (fun i => ∃ j : Nat, j ≤ l.length ∧ i = .int .i64 j ∧ Hid (∀ k ∈ l.take j, (k == x) = false)) (fun i => l.length - (intOf i).toNat)
  case atStart => exact ⟨0, Nat.zero_le _, rfl, fun k hk => by simp at hk⟩
  case round =>
    obtain ⟨j, hj, rfl, NO⟩ := hrel
    by_cases hlt : j < l.length
    · obtain ⟨e1, o1, rfl, y1⟩ := T.out j hlt
      cases hh : (l[j] == x) with
      | true =>
        have E : Hid (idxI (fun k => k == x) l = (j : Int)) := idxI_some hlt hh NO.out
        have hx : l[j] = x := by simpa using hh
        rw [hx] at y1
        clear hh hx
        go_wp2_with fail
        go_ret
        exact ⟨by rw [E.out]; rfl, rfl⟩
      | false =>
        have N2 : Hid (∀ k ∈ l.take (j + 1), (k == x) = false) := by
          intro k hk
          rw [List.take_succ_eq_append_getElem hlt, List.mem_append, List.mem_singleton] at hk
          rcases hk with hk | rfl
          · exact NO.out k hk
          · exact hh
        have hx : ((x : Int) == (l[j] : Int)) = false := by
          have : l[j] ≠ x := by simpa using hh
          simp; omega
        clear hh
        generalize l[j] = y at *
        go_wp2_with fail
        exact ⟨⟨j + 1, by omega, by go_num, N2⟩, by simp [intOf]; omega⟩
    · obtain rfl : j = l.length := by omega
      have E : Hid (idxI (fun k => k == x) l = -1) := idxI_none (fun k hk => NO.out k (by rw [List.take_length]; exact hk))
      go_wp2_with fail
      go_ret
      exact ⟨by rw [E.out]; rfl, rfl⟩

end Go.Proofs.YtbinbojicmhdlaeGreatDoor

/-
  THE WALKS of flat.Kids and flat.Up.
-/
namespace Go.Proofs.YtbinbojicmhdlaeGreatDoor
open Go.RowKit

set_option maxHeartbeats 1600000 in
theorem fkids_any {w : World} {b o c : Nat} {rs : List Raw} {d : Tn.Dc} (hd : DocAt w b o c rs d) (hg : Okd d) (n : Int) :
    Calls Tryz.prog 99 #[.slice (some ⟨b, o, none⟩) rs.length c, .int .i64 n] w fun e w' => ∃ v, e = .returned v ∧ OwnI w' w.heap.size v (kidsD d n) ∧ Below w.heap.size w w' := by
  have H : Hid (DocAt w b o c rs d) := hd
  clear hd
  cases his : Tn.isN d n false with
  | false =>
    have E : Hid (kidsD d n = []) := by show _ = _; unfold kidsD; rw [if_neg (by simp [his])]
    go_enter Tryz.func99, Tryz.ntmps99
    go_wp2_with (go_at_call 69; refine (dis_any H.out _ _).mono ?_; rintro e w' ⟨rfl, hww⟩; subst hww; rw [his])
    go_ret
    exact ⟨_, rfl, by rw [E.out]; exact OwnI.nil _ _, Below.refl _ _⟩
  | true =>
    obtain ⟨k, rfl, hk, hlv⟩ := isN_nat his
    have hk' : k < rs.length := by rw [H.out.len]; exact hk
    have h5 := H.out.row.c5 k hk'
    have h6 := H.out.row.c6 k hk'
    have h7 := H.out.row.c7 k hk'
    have E : Hid (kidsD d (k : Int) = if rs[k].hasS then (Tn.nd d k).shadow else if (givenD d (k : Int)).isEmpty then (Tn.nd d k).kids else givenD d (k : Int)) := by
      show _ = _
      unfold kidsD
      rw [if_pos his, Int.toNat_natCast, (H.out.nds k hk' hk).hasS, ← nd_at hk]
    have hKl : (Tn.nd d k).kids.length ≤ 1000 := hg.small k false
    have hSl : (Tn.nd d k).shadow.length ≤ 1000 := hg.small k true
    have hki : Hid (IntsAt w (.slice rs[k].k.p rs[k].k.n rs[k].k.c) (Tn.nd d k).kids) := by rw [nd_at hk]; exact (H.out.nds k hk' hk).kids
    have hsi : Hid (IntsAt w (.slice rs[k].s.p rs[k].s.n rs[k].s.c) (Tn.nd d k).shadow) := by rw [nd_at hk]; exact (H.out.nds k hk' hk).shadow
    have hG := fgiven_any H.out hg (k : Int)
    generalize kidsD d (k : Int) = res at *
    generalize givenD d (k : Int) = gv at *
    generalize (Tn.nd d k).kids = kd at *
    generalize (Tn.nd d k).shadow = sd at *
    generalize rs[k].hasS = hs at *
    generalize rs[k].k = ks at *
    generalize rs[k].s = ss at *
    obtain ⟨kp, kn, kc⟩ := ks
    obtain ⟨sp, sn, sc⟩ := ss
    simp only at h5 h7 hki hsi
    clear hlv
    cases hs with
    | true =>
      have E2 : Hid (res = sd) := by show _ = _; rw [E.out]; rfl
      clear E
      go_enter Tryz.func99, Tryz.ntmps99
      go_wp2_with (first
        | (go_at_call 69; refine (dis_any H.out _ _).mono ?_; rintro e w' ⟨rfl, hww⟩; subst hww; rw [his])
        | (go_at_call 132; refine (fcopy_any hsi.out hSl).mono ?_; rintro e w9 ⟨v9, rfl, ho9, hb9⟩))
      go_ret
      exact ⟨_, rfl, by rw [E2.out]; exact ho9, hb9⟩
    | false =>
      cases hgv : gv.isEmpty with
      | true =>
        have E2 : Hid (res = kd) := by show _ = _; rw [E.out, hgv]; rfl
        have hgl : gv.length = 0 := by simpa using hgv
        clear E hgv
        go_enter Tryz.func99, Tryz.ntmps99
        go_wp2_with (first
          | (go_at_call 69; refine (dis_any H.out _ _).mono ?_; rintro e w' ⟨rfl, hww⟩; subst hww; rw [his])
          | (go_at_call 133; refine hG.mono ?_; rintro e w8 ⟨v8, rfl, ho8, hb8⟩; have o8 := ho8; obtain ⟨p8, c8, rfl⟩ := o8.shape; have h58 := keeps_below hb8 (Nat.le_refl _) _ _ h5)
          | (go_at_call 132; refine (fcopy_any (hki.out.keeps (keeps_below hb8 (Nat.le_refl _))) hKl).mono ?_; rintro e w9 ⟨v9, rfl, ho9, hb9⟩))
        go_ret
        exact ⟨_, rfl, by rw [E2.out]; exact ho9.mono hb8.size, hb8.trans (hb9.mono hb8.size)⟩
      | false =>
        have E2 : Hid (res = gv) := by show _ = _; rw [E.out, hgv]; rfl
        have hgl : (0 : Int) < (gv.length : Int) := by
          cases gv with
          | nil => simp at hgv
          | cons a t => simp
        clear E hgv
        go_enter Tryz.func99, Tryz.ntmps99
        go_wp2_with (first
          | (go_at_call 69; refine (dis_any H.out _ _).mono ?_; rintro e w' ⟨rfl, hww⟩; subst hww; rw [his])
          | (go_at_call 133; refine hG.mono ?_; rintro e w8 ⟨v8, rfl, ho8, hb8⟩; have o8 := ho8; obtain ⟨p8, c8, rfl⟩ := o8.shape; have h58 := keeps_below hb8 (Nat.le_refl _) _ _ h5))
        go_ret
        exact ⟨_, rfl, by rw [E2.out]; exact ho8, hb8⟩
end Go.Proofs.YtbinbojicmhdlaeGreatDoor

/-
  THE WALKS of slices.Contains at ints, and of flat.Up.
-/
namespace Go.Proofs.YtbinbojicmhdlaeGreatDoor
open Go.RowKit

set_option maxHeartbeats 800000 in
theorem contains_any {w : World} {vl : Value} {l : List Nat} (hl : IntsAt w vl l) (x : Nat) :
    Calls Tryz.prog 63 #[vl, .int .i64 (x : Int)] w fun e w' => e = .returned (.bool (l.contains x)) ∧ w' = w := by
  have hI := index_any hl x
  clear hl
  rcases idx_cases2 (fun k => k == x) l with ⟨e1, e2⟩ | ⟨j, hj, e1, e2, _⟩
  · have E : Hid (l.contains x = false) := by
      show _ = _
      cases h : l.contains x with
      | false => rfl
      | true =>
        have := e2 x (by simpa using h)
        simp at this
    rw [e1] at hI
    clear e1 e2
    go_enter Tryz.func63, Tryz.ntmps63
    go_wp2_with (go_at_call 100; refine hI.mono ?_; rintro e w9 ⟨rfl, hw9⟩; subst hw9)
    go_ret
    exact ⟨by rw [E.out]; rfl, rfl⟩
  · have E : Hid (l.contains x = true) := by
      show _ = _
      have : l[j] = x := by simpa using e2
      rw [← this]
      simp
    rw [e1] at hI
    clear e1 e2
    go_enter Tryz.func63, Tryz.ntmps63
    go_wp2_with (go_at_call 100; refine hI.mono ?_; rintro e w9 ⟨rfl, hw9⟩; subst hw9)
    go_ret
    exact ⟨by rw [E.out]; simp, rfl⟩

set_option maxHeartbeats 1600000 in
theorem fup_any {w : World} {b o c : Nat} {rs : List Raw} {d : Tn.Dc} (hd : DocAt w b o c rs d) (hg : Okd d) (n : Int) :
    Calls Tryz.prog 116 #[.slice (some ⟨b, o, none⟩) rs.length c, .int .i64 n] w fun e w' => e = .returned (.int .i64 (upF d n)) ∧ Below w.heap.size w w' := by
  have H : Hid (DocAt w b o c rs d) := hd
  clear hd
  cases his : Tn.isN d n false with
  | false =>
    have E : Hid (upF d n = -1) := by show _ = _; unfold upF; rw [if_neg (by simp [his])]
    go_enter Tryz.func116, Tryz.ntmps116
    go_wp2_with (go_at_call 69; refine (dis_any H.out _ _).mono ?_; rintro e w' ⟨rfl, hww⟩; subst hww; rw [his])
    go_ret
    exact ⟨by rw [E.out]; rfl, Below.refl _ _⟩
  | true =>
    obtain ⟨k, rfl, hk, hlv⟩ := isN_nat his
    have hk' : k < rs.length := by rw [H.out.len]; exact hk
    have h4 := H.out.row.c4 k hk'
    have E : Hid (upF d (k : Int) = if (kidsD d rs[k].up).contains k then rs[k].up else if (kidsD d (slotD d (k : Int))).contains k then slotD d (k : Int) else -1) := by
      show _ = _
      unfold upF
      rw [if_pos his, Int.toNat_natCast, (H.out.nds k hk' hk).up, ← nd_at hk]
    have hL : ∀ W, Keeps w W → Calls Tryz.prog 147 #[.slice (some ⟨b, o, none⟩) rs.length c, .int .i64 (k : Int)] W fun e w' => e = .returned (.int .i64 (slotD d (k : Int))) ∧ Below W.heap.size W w' := fun W h => fslot_any (H.out.keeps h) hg k
    have HK : Hid (∀ W x, Keeps w W → Calls Tryz.prog 99 #[.slice (some ⟨b, o, none⟩) rs.length c, .int .i64 x] W fun e w' => ∃ v, e = .returned v ∧ OwnI w' W.heap.size v (kidsD d x) ∧ Below W.heap.size W w') := fun W x h => fkids_any (H.out.keeps h) hg x
    generalize upF d (k : Int) = res at *
    generalize slotD d (k : Int) = sl at *
    generalize rs[k].up = up at *
    clear hlv
    go_enter Tryz.func116, Tryz.ntmps116
    go_upto_region 3 with (go_at_call 69; refine (dis_any H.out _ _).mono ?_; rintro e w' ⟨rfl, hww⟩; subst hww; rw [his])
    have SS : ∀ w'', Keeps w' w'' → (fun w'' => w''.cell? ⟨b, o + k * 9 + 4, none⟩ = some (.int .i64 up)) w'' := fun w'' hk => hk _ _ h4
    go_region_held3 (fun w'' => w''.cell? ⟨b, o + k * 9 + 4, none⟩ = some (.int .i64 up))
      ((apply SS; first | exact Keeps.refl _ | assumption | exact keeps_drew (Keeps.refl _) | (apply keeps_alloc'; assumption)))
      (first
        | (go_at_call 147; refine (hL _ (keeps_drew (Keeps.refl _))).mono ?_; rintro e wa ⟨rfl, hba⟩; have Ja : Keeps w' wa := (keeps_drew (Keeps.refl w')).trans (keeps_below hba (Nat.le_refl _))))
    all_goals
      have g0 : (wa.alloc (.cells #[.int .i64 up, .int .i64 sl] 3)).cell? ⟨wa.heap.size, 0, none⟩ = some (.int .i64 up) := by rw [World.cell?_alloc_new]; rfl
      have g1 : (wa.alloc (.cells #[.int .i64 up, .int .i64 sl] 3)).cell? ⟨wa.heap.size, 1, none⟩ = some (.int .i64 sl) := by rw [World.cell?_alloc_new]; rfl
      have BA : Below w'.heap.size w' wa := (Below.refl _ w').drew.trans hba
      have B0 : Below w'.heap.size w' (wa.alloc (.cells #[.int .i64 up, .int .i64 sl] 3)) := BA.alloc BA.size _
      generalize hG : wa.heap.size = G at *
      generalize wa.alloc (.cells #[.int .i64 up, .int .i64 sl] 3) = w3 at *
      clear Ja hL SS hba h4 BA hG
      have J3 := keeps_below B0 (Nat.le_refl _)
      go_wp2_with fail
      go_loopw [6, 21] (fun _ iv wr => ∃ j : Nat, iv = .int .i64 j ∧ Below w3.heap.size w3 wr ∧ (j = 0 ∨ (j = 1 ∧ Hid ((kidsD d up).contains k = false)) ∨ (j = 2 ∧ Hid ((kidsD d up).contains k = false) ∧ Hid ((kidsD d sl).contains k = false)))) (fun _ iv _ => 2 - (intOf iv).toNat)
      case atStart => exact ⟨0, rfl, Below.refl _ _, Or.inl rfl⟩
      case round =>
        obtain ⟨j, rfl, hnx, hj⟩ := hrel
        have JR := keeps_below hnx (Nat.le_refl _)
        have r0 := JR _ _ g0
        have r1 := JR _ _ g1
        have BR : Below w'.heap.size w' wr := B0.trans (hnx.mono B0.size)
        rcases hj with rfl | ⟨rfl, F1⟩ | ⟨rfl, F1, F2⟩
        · have hKK := HK.out wr up (J3.trans JR)
          cases hc : (kidsD d up).contains k with
          | true =>
            have E2 : Hid (res = up) := by show _ = _; rw [E.out, hc]; rfl
            go_wp2_with (first
              | (go_at_call 99; refine hKK.mono ?_; rintro e w8 ⟨v8, rfl, ho8, hb8⟩)
              | (go_at_call 63; refine (contains_any (ints_of_owns ho8) k).mono ?_; rintro e w9 ⟨rfl, hw9⟩; subst hw9; rw [hc]))
            go_ret
            exact ⟨by rw [E2.out]; rfl, BR.trans (hb8.mono BR.size)⟩
          | false =>
            go_wp2_with (first
              | (go_at_call 99; refine hKK.mono ?_; rintro e w8 ⟨v8, rfl, ho8, hb8⟩)
              | (go_at_call 63; refine (contains_any (ints_of_owns ho8) k).mono ?_; rintro e w9 ⟨rfl, hw9⟩; subst hw9; rw [hc]))
            go_roundw
            case rel => exact ⟨1, rfl, hnx.trans (hb8.mono hnx.size), Or.inr (Or.inl ⟨rfl, by first | exact hc | exact True.intro⟩)⟩
            case measure => simp [intOf]
        · have hKK := HK.out wr sl (J3.trans JR)
          cases hc : (kidsD d sl).contains k with
          | true =>
            have E2 : Hid (res = sl) := by show _ = _; rw [E.out, F1.out, hc]; rfl
            go_wp2_with (first
              | (go_at_call 99; refine hKK.mono ?_; rintro e w8 ⟨v8, rfl, ho8, hb8⟩)
              | (go_at_call 63; refine (contains_any (ints_of_owns ho8) k).mono ?_; rintro e w9 ⟨rfl, hw9⟩; subst hw9; rw [hc]))
            go_ret
            exact ⟨by rw [E2.out]; rfl, BR.trans (hb8.mono BR.size)⟩
          | false =>
            go_wp2_with (first
              | (go_at_call 99; refine hKK.mono ?_; rintro e w8 ⟨v8, rfl, ho8, hb8⟩)
              | (go_at_call 63; refine (contains_any (ints_of_owns ho8) k).mono ?_; rintro e w9 ⟨rfl, hw9⟩; subst hw9; rw [hc]))
            go_roundw
            case rel => exact ⟨2, rfl, hnx.trans (hb8.mono hnx.size), Or.inr (Or.inr ⟨rfl, F1, by first | exact hc | exact True.intro⟩)⟩
            case measure => simp [intOf]
        · have E2 : Hid (res = -1) := by show _ = _; rw [E.out, F1.out, F2.out]; rfl
          go_wp2_with fail
          go_ret
          exact ⟨by rw [E2.out]; rfl, BR⟩
end Go.Proofs.YtbinbojicmhdlaeGreatDoor
