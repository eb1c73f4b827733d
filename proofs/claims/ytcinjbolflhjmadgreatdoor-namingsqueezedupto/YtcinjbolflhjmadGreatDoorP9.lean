/-
  OWN WORK: Ktg, Kth, Oma, Fal, Fte, Osa, Nfr, Nal, Npl, Jma.
-/
import Derived.Test.YtcinjbolflhjmadGreatDoorP8
import Derived.Deep.RegionWith
import Derived.Test.YtcinjbolflhjmadGreatDoorP6
import Derived.Test.YtcinjbolflhjmadGreatDoorP7
import Derived.Maps.OwnSet
/-
  THE WALK of the reference's Kind.
-/
namespace Go.Proofs.YtcinjbolflhjmadGreatDoor.Kn
open Go.RowKit Go.Maps

theorem keyI : Keyed Tryz.prog 3 := int_keyed Tryz.underlying3

/-- what the reference's small map says -/
def needD (k : Nat) : Nat := if k = 15 then 14 else if k = 14 then 13 else if k = 6 then 5 else 0

theorem need_upd {w : World} {b n : Nat} {D : DataW Unit} (h : w.ownsMap Tryz.prog 3 (plainElem Tryz.prog 3) b n D) (hn : n ≤ 100) (a z : Nat) (ha : a ≤ 100) (hz : z ≤ 100) :
    ∃ w', (Instr.mapUpdate 78 (.map (some b)) (.int .i64 (a : Int)) (.int .i64 (z : Int))).run Tryz.prog w = .ok () w' ∧ w'.ownsMap Tryz.prog 3 (plainElem Tryz.prog 3) b (n + 1) (D.put (.int .i64 (a : Int)) (.lit (.int .i64 (z : Int)))) ∧ w.grownBy w' (some b) :=
  World.ownsMap.update h keyI Tryz.underlying78 (by unfold maxLen; omega) (keyOf_int_mk Tryz.underlying3 (WalkArith.wf_i64 (by omega))) (plainElem_int Tryz.underlying3 (WalkArith.wf_i64 (by omega)))

set_option maxRecDepth 100000 in
theorem need_map (W : World) : ∃ (M : Nat) (w0 w1 w2 w3 : World), (∀ t, (Instr.makeMap t none).run Tryz.prog W = .ok (.map (some M)) w0) ∧
    (Instr.mapUpdate 78 (.map (some M)) (.int .i64 6) (.int .i64 5)).run Tryz.prog w0 = .ok () w1 ∧
    (Instr.mapUpdate 78 (.map (some M)) (.int .i64 14) (.int .i64 13)).run Tryz.prog w1 = .ok () w2 ∧
    (Instr.mapUpdate 78 (.map (some M)) (.int .i64 15) (.int .i64 14)).run Tryz.prog w2 = .ok () w3 ∧
    (∀ k : Nat, k ≤ 100 → (Instr.lookup 78 (.map (some M)) (.int .i64 (k : Int)) false).run Tryz.prog w3 = .ok (.int .i64 ((needD k : Nat) : Int)) w3) ∧
    (∀ B xs, Box W B xs → Box w3 B xs) ∧ Below W.heap.size W w3 := by
  have M0 : (W.alloc (.map #[] 0)).ownsMap Tryz.prog 3 (plainElem (H := Unit) Tryz.prog 3) W.heap.size 0 (.map []) := World.ownsMap_made W Tryz.prog 3 _
  obtain ⟨w1, q1, M1, g1⟩ := need_upd M0 (by omega) 6 5 (by omega) (by omega)
  obtain ⟨w2, q2, M2, g2⟩ := need_upd M1 (by omega) 14 13 (by omega) (by omega)
  obtain ⟨w3, q3, M3, g3⟩ := need_upd M2 (by omega) 15 14 (by omega) (by omega)
  have s1 := g1.size
  have s2 := g2.size
  have s3 := g3.size
  simp at s1
  refine ⟨W.heap.size, _, w1, w2, w3, fun t => run_makeMap t W, q1, q2, q3, fun k hk => ?_, fun B xs hB => ?_, ?_⟩
  · obtain ⟨v, ps, hrun, hv⟩ := M3.lookup (t := 78) keyI Tryz.underlying78 (zeroI w3) (zd := .lit (.int .i64 0)) (zp := []) (plainElem_int Tryz.underlying3 (by decide)) (keyOf_int_mk Tryz.underlying3 (WalkArith.wf_i64 (n := (k : Int)) (by omega)))
    obtain ⟨c, rfl, hc, _⟩ := plainElem_int_inv Tryz.underlying3 hv
    rw [hrun]
    have hc1 := congrArg Prod.fst hc
    simp only at hc1
    have i0 : IsMap (.map [] : DataW Unit) := isMap_empty
    have e : c = ((needD k : Nat) : Int) := by
      unfold needD
      have ne : ∀ a : Nat, k ≠ a → Lit.int .i64 (k : Int) ≠ Lit.int .i64 (a : Int) := fun a h x => h (by injection x with _ x; omega)
      by_cases h15 : k = 15
      · subst h15
        rw [atKey_put_same ((i0.put _ _).put _ _) (by trivial)] at hc1
        injection hc1 with hc1; injection hc1 with _ hc1
        rw [← hc1]; rfl
      · rw [atKey_put_other (ne 15 h15)] at hc1
        rw [if_neg h15]
        by_cases h14 : k = 14
        · subst h14
          rw [atKey_put_same (i0.put _ _) (by trivial)] at hc1
          injection hc1 with hc1; injection hc1 with _ hc1
          rw [← hc1]; rfl
        · rw [atKey_put_other (ne 14 h14)] at hc1
          rw [if_neg h14]
          by_cases h6 : k = 6
          · subst h6
            rw [atKey_put_same i0 (by trivial)] at hc1
            injection hc1 with hc1; injection hc1 with _ hc1
            rw [← hc1]; rfl
          · rw [atKey_put_other (ne 6 h6)] at hc1
            rw [if_neg h6]
            injection hc1 with hc1; injection hc1 with _ hc1
            rw [← hc1]; rfl
    rw [e]
  · have ne : B ≠ W.heap.size := Nat.ne_of_lt hB.1
    exact (((hB.alloc _).grown g1 ne).grown g2 ne).grown g3 ne
  · exact ((((Below.refl _ _).alloc (Nat.le_refl _) _).grown g1 (by simp) (fun j hj => by cases hj; exact Nat.le_refl _)).grown g2 (by omega) (fun j hj => by cases hj; exact Nat.le_refl _)).grown g3 (by omega) (fun j hj => by cases hj; exact Nat.le_refl _)

theorem boxK3 {w w1 : World} {a b d : Obj} {t : TypeId} {nm : Array UInt8} (h : Below ((((w.alloc a).alloc b).alloc (.cells #[.string ⟨nm⟩, .bool false, .bool false, .bool false, .bool false, .bool false, .int .i64 0] t)).alloc d).heap.size ((((w.alloc a).alloc b).alloc (.cells #[.string ⟨nm⟩, .bool false, .bool false, .bool false, .bool false, .bool false, .int .i64 0] t)).alloc d) w1) :
    Box w1 (w.heap.size + 1 + 1) [.string ⟨nm⟩, .bool false, .bool false, .bool false, .bool false, .bool false, .int .i64 0] := by
  have := ((box_new ((w.alloc a).alloc b) t [.string ⟨nm⟩, .bool false, .bool false, .bool false, .bool false, .bool false, .int .i64 0]).alloc d).below h
  simpa using this

theorem below8 {B g R : Nat} {w0 w : World} (h : Below R w0 w) (hg : R ≤ g ∧ R ≤ B) (y x0 x1 x2 x3 x4 x5 x6 : Value) :
    Below R w0 ((((((((w.setCell ⟨g, 6, none⟩ y).setCell ⟨B, 0, none⟩ x0).setCell ⟨B, 1, none⟩ x1).setCell ⟨B, 2, none⟩ x2).setCell ⟨B, 3, none⟩ x3).setCell ⟨B, 4, none⟩ x4).setCell ⟨B, 5, none⟩ x5).setCell ⟨B, 6, none⟩ x6) :=
  (((((((h.setCell hg.1 _).setCell hg.2 _).setCell hg.2 _).setCell hg.2 _).setCell hg.2 _).setCell hg.2 _).setCell hg.2 _).setCell hg.2 _

theorem kt_eq : ∀ k, k < 19 → 1 ≤ k → (kt k).content = [4, 7, 8, 9, 14, 15].any (fun x : Nat => (x : Int) == (k : Int)) ∧ (kt k).leaf = [8, 9, 10, 11, 12].any (fun x : Nat => (x : Int) == (k : Int)) ∧ (kt k).level = ((k : Int) == 4 || (k : Int) == 6) ∧ (kt k).checked = ((k : Int) == 9) ∧ (kt k).named = (!([6, 10, 18].any (fun x : Nat => (x : Int) == (k : Int)))) ∧ (kt k).need = needD k := by decide

set_option maxHeartbeats 400000 in
set_option maxRecDepth 100000 in
theorem qkind_in {w : World} (k : Nat) (h1 : 1 ≤ k) (h2 : k < 19) : Calls Tryz.prog 16 #[.int .i64 k] w fun e w' => e = .returned (kval (kt k)) ∧ Below w.heap.size w w' := by
  have hN := names_at k h2
  have E : Hid (kval (kt k) = .agg #[.string ⟨(kt k).name.toArray⟩, .bool ([4, 7, 8, 9, 14, 15].any (fun x : Nat => (x : Int) == (k : Int))), .bool ([8, 9, 10, 11, 12].any (fun x : Nat => (x : Int) == (k : Int))), .bool ((k : Int) == 4 || (k : Int) == 6), .bool ((k : Int) == 9), .bool (!([6, 10, 18].any (fun x : Nat => (x : Int) == (k : Int)))), .int .i64 ((needD k : Nat) : Int)]) := by
    show _ = _
    obtain ⟨e1, e2, e3, e4, e5, e6⟩ := kt_eq k h2 h1
    unfold kval
    rw [e1, e2, e3, e4, e5, e6]
  generalize (kt k).name.toArray = nm at hN E
  go_enter Tryz.func16, Tryz.ntmps16
  go_wp2_with fail
  refine (has_at (l := [6, 10, 18]) ?_ (by decide) _).mono ?_
  · exact has_lit (by simp) rfl
  rintro e w1 ⟨rfl, b1⟩
  have HR : Hid (Box w1 w.heap.size [.string ⟨#[]⟩, .bool false, .bool false, .bool false, .bool false, .bool false, .int .i64 0]) := ((((box_new _ _ _).alloc _).alloc _).alloc _).below b1
  have HK : Hid (Box w1 (w.heap.size + 1 + 1) [.string ⟨nm⟩, .bool false, .bool false, .bool false, .bool false, .bool false, .int .i64 0]) := boxK3 b1
  have HB : Hid (Below w.heap.size w w1) := (((((Below.refl _ _).alloc (Nat.le_refl _) _).alloc (by simp) _).alloc (by simp; omega) _).alloc (by simp; omega) _).trans (b1.mono (by simp; omega))
  have HS : Hid (w.heap.size + 1 + 1 < w1.heap.size) := HK.out.1
  clear b1 hN
  have c5 := (HK.out.2 5 _ rfl).1
  have f5 := (HK.out.2 5 _ rfl).2
  generalize [6, 10, 18].any (fun x : Nat => (x : Int) == (k : Int)) = v5 at *
  generalize hR : w.heap.size = R at *
  go_wp2_with fail
  refine (has_at (l := [4, 7, 8, 9, 14, 15]) ?_ (by decide) _).mono ?_
  · exact has_lit (by simp) rfl
  rintro e w2 ⟨rfl, b2⟩
  have HR2 : Hid (Box w2 R [.string ⟨#[]⟩, .bool false, .bool false, .bool false, .bool false, .bool false, .int .i64 0]) := ((HR.out.other (by omega) _ _).alloc _).below b2
  have HK2 : Hid (Box w2 (R + 1 + 1) [.string ⟨nm⟩, .bool false, .bool false, .bool false, .bool false, .bool !v5, .int .i64 0]) := ((HK.out.set 5 (.bool !v5) (by simp)).alloc _).below b2
  have HB2 : Hid (Below R w w2) := (((HB.out.setCell (by show R ≤ R + 1 + 1; omega) _).alloc (by simp; have := HS.out; omega) _).trans (b2.mono (by simp; have := HS.out; omega)))
  have HS2 : Hid (R + 1 + 1 < w2.heap.size) := HK2.out.1
  clear b2 HR HK HB HS c5 f5
  have c1 := (HK2.out.2 1 _ rfl).1
  have f1 := (HK2.out.2 1 _ rfl).2
  generalize [4, 7, 8, 9, 14, 15].any (fun x : Nat => (x : Int) == (k : Int)) = v1 at *
  go_wp2_with fail
  refine (has_at (l := [8, 9, 10, 11, 12]) ?_ (by decide) _).mono ?_
  · exact has_lit (by simp) rfl
  rintro e w3 ⟨rfl, b3⟩
  have HR3 : Hid (Box w3 R [.string ⟨#[]⟩, .bool false, .bool false, .bool false, .bool false, .bool false, .int .i64 0]) := ((HR2.out.other (by omega) _ _).alloc _).below b3
  have HK3 : Hid (Box w3 (R + 1 + 1) [.string ⟨nm⟩, .bool v1, .bool false, .bool false, .bool false, .bool !v5, .int .i64 0]) := ((HK2.out.set 1 (.bool v1) (by simp)).alloc _).below b3
  have HB3 : Hid (Below R w w3) := (((HB2.out.setCell (by show R ≤ R + 1 + 1; omega) _).alloc (by simp; have := HS2.out; omega) _).trans (b3.mono (by simp; have := HS2.out; omega)))
  have HS3 : Hid (R + 1 + 1 < w3.heap.size) := HK3.out.1
  clear b3 HR2 HK2 HB2 HS2 c1 f1
  have c2 := (HK3.out.2 2 _ rfl).1
  have f2 := (HK3.out.2 2 _ rfl).2
  have c3 := (HK3.out.2 3 _ rfl).1
  have f3 := (HK3.out.2 3 _ rfl).2
  have c4 := (HK3.out.2 4 _ rfl).1
  have f4 := (HK3.out.2 4 _ rfl).2
  generalize [8, 9, 10, 11, 12].any (fun x : Nat => (x : Int) == (k : Int)) = v2 at *
  by_cases h4 : k = 4
  · subst h4
    obtain ⟨M, w40, w41, w42, w43, hmm, r1, r2, r3, look, bx, bel⟩ := need_map (((w3.setCell ⟨R + 1 + 1, 2, none⟩ (.bool v2)).setCell ⟨R + 1 + 1, 3, none⟩ (.bool true)).setCell ⟨R + 1 + 1, 4, none⟩ (.bool false))
    have HK4 : Hid (Box w43 (R + 1 + 1) [.string ⟨nm⟩, .bool v1, .bool v2, .bool true, .bool false, .bool !v5, .int .i64 0]) := bx _ _ (((HK3.out.set 2 (.bool v2) (by simp)).set 3 (.bool true) (by simp)).set 4 (.bool false) (by simp))
    have HR4 : Hid (Box w43 R [.string ⟨#[]⟩, .bool false, .bool false, .bool false, .bool false, .bool false, .int .i64 0]) := bx _ _ (((HR3.out.other (by omega) _ _).other (by omega) _ _).other (by omega) _ _)
    have HB4 : Hid (Below R w w43) := (((HB3.out.setCell (by show R ≤ R + 1 + 1; omega) _).setCell (by show R ≤ R + 1 + 1; omega) _).setCell (by show R ≤ R + 1 + 1; omega) _).trans (bel.mono (by simp; have := HS3.out; omega))
    have lk : (Instr.lookup 78 (.map (some M)) (.int .i64 4) false).run Tryz.prog w43 = .ok (.int .i64 0) w43 := look 4 (by omega)
    clear look bx bel HK3 HR3 HB3
    have c0 := (HK4.out.2 0 _ rfl).1
    have c1 := (HK4.out.2 1 _ rfl).1
    have c2' := (HK4.out.2 2 _ rfl).1
    have c3' := (HK4.out.2 3 _ rfl).1
    have c4' := (HK4.out.2 4 _ rfl).1
    have c5 := (HK4.out.2 5 _ rfl).1
    have c6 := (HK4.out.2 6 _ rfl).1
    have f6 := (HK4.out.2 6 _ rfl).2
    have r0 := (HR4.out.2 0 _ rfl).1
    have r1' := (HR4.out.2 1 _ rfl).1
    have r2' := (HR4.out.2 2 _ rfl).1
    have r3' := (HR4.out.2 3 _ rfl).1
    have r4 := (HR4.out.2 4 _ rfl).1
    have r5 := (HR4.out.2 5 _ rfl).1
    have r6 := (HR4.out.2 6 _ rfl).1
    have g0 := (HR4.out.2 0 _ rfl).2
    have g1 := (HR4.out.2 1 _ rfl).2
    have g2 := (HR4.out.2 2 _ rfl).2
    have g3 := (HR4.out.2 3 _ rfl).2
    have g4 := (HR4.out.2 4 _ rfl).2
    have g5 := (HR4.out.2 5 _ rfl).2
    have g6 := (HR4.out.2 6 _ rfl).2
    go_wp2_with fail
    refine bodyPost_ret (v := .agg #[.string ⟨nm⟩, .bool v1, .bool v2, .bool true, .bool false, .bool !v5, .int .i64 0]) (by simp [results, Tryz.results16, go_sem, r0, r1', r2', r3', r4, r5, r6]) rfl ⟨by rw [E.out]; rfl, ?_⟩
    rw [hR]
    exact below8 HB4.out (by omega) _ _ _ _ _ _ _ _
  · have k4 : ((k : Int) == 4) = false := by simp; omega
    have E2 : Hid (((k : Int) == 4 || (k : Int) == 6) = ((k : Int) == 6)) := by show _ = _; rw [k4]; rfl
    rw [E2.out] at E
    obtain ⟨M, w40, w41, w42, w43, hmm, r1, r2, r3, look, bx, bel⟩ := need_map (((w3.setCell ⟨R + 1 + 1, 2, none⟩ (.bool v2)).setCell ⟨R + 1 + 1, 3, none⟩ (.bool ((k : Int) == 6))).setCell ⟨R + 1 + 1, 4, none⟩ (.bool ((k : Int) == 9)))
    have HK4 : Hid (Box w43 (R + 1 + 1) [.string ⟨nm⟩, .bool v1, .bool v2, .bool ((k : Int) == 6), .bool ((k : Int) == 9), .bool !v5, .int .i64 0]) := bx _ _ (((HK3.out.set 2 (.bool v2) (by simp)).set 3 (.bool ((k : Int) == 6)) (by simp)).set 4 (.bool ((k : Int) == 9)) (by simp))
    have HR4 : Hid (Box w43 R [.string ⟨#[]⟩, .bool false, .bool false, .bool false, .bool false, .bool false, .int .i64 0]) := bx _ _ (((HR3.out.other (by omega) _ _).other (by omega) _ _).other (by omega) _ _)
    have HB4 : Hid (Below R w w43) := (((HB3.out.setCell (by show R ≤ R + 1 + 1; omega) _).setCell (by show R ≤ R + 1 + 1; omega) _).setCell (by show R ≤ R + 1 + 1; omega) _).trans (bel.mono (by simp; have := HS3.out; omega))
    have lk := look k (by omega)
    clear look bx bel HK3 HR3 HB3
    have c0 := (HK4.out.2 0 _ rfl).1
    have c1 := (HK4.out.2 1 _ rfl).1
    have c2' := (HK4.out.2 2 _ rfl).1
    have c3' := (HK4.out.2 3 _ rfl).1
    have c4' := (HK4.out.2 4 _ rfl).1
    have c5 := (HK4.out.2 5 _ rfl).1
    have c6 := (HK4.out.2 6 _ rfl).1
    have f6 := (HK4.out.2 6 _ rfl).2
    have r0 := (HR4.out.2 0 _ rfl).1
    have r1' := (HR4.out.2 1 _ rfl).1
    have r2' := (HR4.out.2 2 _ rfl).1
    have r3' := (HR4.out.2 3 _ rfl).1
    have r4 := (HR4.out.2 4 _ rfl).1
    have r5 := (HR4.out.2 5 _ rfl).1
    have r6 := (HR4.out.2 6 _ rfl).1
    have g0 := (HR4.out.2 0 _ rfl).2
    have g1 := (HR4.out.2 1 _ rfl).2
    have g2 := (HR4.out.2 2 _ rfl).2
    have g3 := (HR4.out.2 3 _ rfl).2
    have g4 := (HR4.out.2 4 _ rfl).2
    have g5 := (HR4.out.2 5 _ rfl).2
    have g6 := (HR4.out.2 6 _ rfl).2
    go_wp2_with fail
    refine bodyPost_ret (v := .agg #[.string ⟨nm⟩, .bool v1, .bool v2, .bool ((k : Int) == 6), .bool ((k : Int) == 9), .bool !v5, .int .i64 ((needD k : Nat) : Int)]) (by simp [results, Tryz.results16, go_sem, r0, r1', r2', r3', r4, r5, r6]) rfl ⟨by rw [E.out], ?_⟩
    rw [hR]
    exact below8 HB4.out (by omega) _ _ _ _ _ _ _ _

set_option maxHeartbeats 400000 in
set_option maxRecDepth 100000 in
theorem qkind_out {w : World} (r : Int) (h : ¬ (1 ≤ r ∧ r < 19)) : Calls Tryz.prog 16 #[.int .i64 r] w fun e w' => e = .returned (kval k0) ∧ Below w.heap.size w w' := by
  go_enter Tryz.func16, Tryz.ntmps16
  go_wp2_with fail
  all_goals
    refine bodyPost_ret (v := .agg #[.string ⟨#[]⟩, .bool false, .bool false, .bool false, .bool false, .bool false, .int .i64 0]) (by simp [results, Tryz.results16, go_sem]) rfl ⟨rfl, ?_⟩
    exact ((Below.refl _ _).alloc (Nat.le_refl _) _).alloc (by simp) _

/-- what the reference says of a role -/
theorem qkind_any {w : World} (r : Int) : Calls Tryz.prog 16 #[.int .i64 r] w fun e w' => e = .returned (kval (ofD r)) ∧ Below w.heap.size w w' := by
  by_cases h : 1 ≤ r ∧ r < 19
  · obtain ⟨k, rfl⟩ := Int.eq_ofNat_of_zero_le (by omega : 0 ≤ r)
    have e : ofD (k : Int) = kt k := by unfold ofD; rw [if_pos (by omega), Int.toNat_natCast]
    rw [e]
    exact qkind_in k (by omega) (by omega)
  · have e : ofD r = k0 := by
      unfold ofD
      split
      · have : r = 0 := by omega
        rw [this]; rfl
      · rfl
    rw [e]
    exact qkind_out r h
end Go.Proofs.YtcinjbolflhjmadGreatDoor.Kn

/-
  THE WALKS of the reference's Asked and Tag, and that they say what kinds.Find and kinds.Tag say.
-/
namespace Go.Proofs.YtcinjbolflhjmadGreatDoor.Kn
open Go.RowKit Go.Maps

/-- the first role from k on, of n, that has this name -/
def askL (s : List UInt8) : Nat → Nat → Int
  | 0, _ => -1
  | n + 1, k => if k ≠ 10 ∧ (kt k).name = s then (k : Int) else askL s n (k + 1)
def askD (s : List UInt8) : Int := if s = [110, 111, 110, 101] ∨ s = [112, 114, 101, 115, 101, 110, 116, 97, 116, 105, 111, 110] then 0 else askL s 17 1

theorem ask_find (s : List UInt8) : findD s = askD s := by
  unfold findD askD
  have e : nmL 19 = [([110, 111, 110, 101], 0), ([112, 114, 101, 115, 101, 110, 116, 97, 116, 105, 111, 110], 0), ([103, 114, 111, 117, 112], 1), ([109, 97, 105, 110], 2), ([110, 97, 118, 105, 103, 97, 116, 105, 111, 110], 3), ([104, 101, 97, 100, 105, 110, 103], 4), ([108, 105, 115, 116], 5), ([108, 105, 115, 116, 105, 116, 101, 109], 6), ([108, 105, 110, 107], 7), ([98, 117, 116, 116, 111, 110], 8), ([99, 104, 101, 99, 107, 98, 111, 120], 9), ([105, 109, 103], 11), ([116, 101, 120, 116, 98, 111, 120], 12), ([116, 97, 98, 108, 101], 13), ([114, 111, 119], 14), ([99, 101, 108, 108], 15), ([114, 101, 103, 105, 111, 110], 16), ([100, 105, 97, 108, 111, 103], 17)] := by decide
  rw [e]
  by_cases h20 : s = [110, 111, 110, 101]
  · rw [h20]; decide
  by_cases h21 : s = [112, 114, 101, 115, 101, 110, 116, 97, 116, 105, 111, 110]
  · rw [h21]; decide
  by_cases h1 : s = [103, 114, 111, 117, 112]
  · rw [h1]; decide
  by_cases h2 : s = [109, 97, 105, 110]
  · rw [h2]; decide
  by_cases h3 : s = [110, 97, 118, 105, 103, 97, 116, 105, 111, 110]
  · rw [h3]; decide
  by_cases h4 : s = [104, 101, 97, 100, 105, 110, 103]
  · rw [h4]; decide
  by_cases h5 : s = [108, 105, 115, 116]
  · rw [h5]; decide
  by_cases h6 : s = [108, 105, 115, 116, 105, 116, 101, 109]
  · rw [h6]; decide
  by_cases h7 : s = [108, 105, 110, 107]
  · rw [h7]; decide
  by_cases h8 : s = [98, 117, 116, 116, 111, 110]
  · rw [h8]; decide
  by_cases h9 : s = [99, 104, 101, 99, 107, 98, 111, 120]
  · rw [h9]; decide
  by_cases h11 : s = [105, 109, 103]
  · rw [h11]; decide
  by_cases h12 : s = [116, 101, 120, 116, 98, 111, 120]
  · rw [h12]; decide
  by_cases h13 : s = [116, 97, 98, 108, 101]
  · rw [h13]; decide
  by_cases h14 : s = [114, 111, 119]
  · rw [h14]; decide
  by_cases h15 : s = [99, 101, 108, 108]
  · rw [h15]; decide
  by_cases h16 : s = [114, 101, 103, 105, 111, 110]
  · rw [h16]; decide
  by_cases h17 : s = [100, 105, 97, 108, 111, 103]
  · rw [h17]; decide
  rw [if_neg (by simp [h20, h21])]
  have a : ∀ k, 1 ≤ k → k < 18 → ¬ (k ≠ 10 ∧ (kt k).name = s) := by
    intro k k1 k2 hk
    obtain ⟨k3, k4⟩ := hk
    match k, k1, k2, k3, k4 with
    | 1, _, _, _, k4 => exact h1 k4.symm
    | 2, _, _, _, k4 => exact h2 k4.symm
    | 3, _, _, _, k4 => exact h3 k4.symm
    | 4, _, _, _, k4 => exact h4 k4.symm
    | 5, _, _, _, k4 => exact h5 k4.symm
    | 6, _, _, _, k4 => exact h6 k4.symm
    | 7, _, _, _, k4 => exact h7 k4.symm
    | 8, _, _, _, k4 => exact h8 k4.symm
    | 9, _, _, _, k4 => exact h9 k4.symm
    | 11, _, _, _, k4 => exact h11 k4.symm
    | 12, _, _, _, k4 => exact h12 k4.symm
    | 13, _, _, _, k4 => exact h13 k4.symm
    | 14, _, _, _, k4 => exact h14 k4.symm
    | 15, _, _, _, k4 => exact h15 k4.symm
    | 16, _, _, _, k4 => exact h16 k4.symm
    | 17, _, _, _, k4 => exact h17 k4.symm
    | 10, _, _, k3, _ => exact k3 rfl
    | k + 18, _, k2, _, _ => omega
  have b : ∀ n k, 1 ≤ k → k + n ≤ 18 → askL s n k = -1 := by
    intro n
    induction n with
    | zero => exact fun _ _ _ => rfl
    | succ n ih =>
      intro k k1 k2
      rw [askL, if_neg (a k k1 (by omega))]
      exact ih (k + 1) (by omega) (by omega)
  rw [b 17 1 (by omega) (by omega)]
  have c : lk [([110, 111, 110, 101], 0), ([112, 114, 101, 115, 101, 110, 116, 97, 116, 105, 111, 110], 0), ([103, 114, 111, 117, 112], 1), ([109, 97, 105, 110], 2), ([110, 97, 118, 105, 103, 97, 116, 105, 111, 110], 3), ([104, 101, 97, 100, 105, 110, 103], 4), ([108, 105, 115, 116], 5), ([108, 105, 115, 116, 105, 116, 101, 109], 6), ([108, 105, 110, 107], 7), ([98, 117, 116, 116, 111, 110], 8), ([99, 104, 101, 99, 107, 98, 111, 120], 9), ([105, 109, 103], 11), ([116, 101, 120, 116, 98, 111, 120], 12), ([116, 97, 98, 108, 101], 13), ([114, 111, 119], 14), ([99, 101, 108, 108], 15), ([114, 101, 103, 105, 111, 110], 16), ([100, 105, 97, 108, 111, 103], 17)] s = none := by
    unfold lk
    simp only [List.foldl_cons, List.foldl_nil]
    rw [if_neg (Ne.symm h17), if_neg (Ne.symm h16), if_neg (Ne.symm h15), if_neg (Ne.symm h14), if_neg (Ne.symm h13), if_neg (Ne.symm h12), if_neg (Ne.symm h11), if_neg (Ne.symm h9), if_neg (Ne.symm h8), if_neg (Ne.symm h7), if_neg (Ne.symm h6), if_neg (Ne.symm h5), if_neg (Ne.symm h4), if_neg (Ne.symm h3), if_neg (Ne.symm h2), if_neg (Ne.symm h1), if_neg (Ne.symm h21), if_neg (Ne.symm h20)]
  rw [c]

theorem tag_hit : ∀ j (h : j < 12), tagD (tagL[j]'h).1 = ((tagL[j]'h).2 : Int) := by decide
theorem tag_miss (s : List UInt8) (h : ∀ i (h : i < 12), (tagL[i]'h).1 ≠ s) : tagD s = 18 := by
  have c : lk tagL s = none := by
    unfold lk tagL
    simp only [List.foldl_cons, List.foldl_nil]
    rw [if_neg (show ¬ [100, 105, 97, 108, 111, 103] = s from h 11 (by decide)), if_neg (show ¬ [116, 100] = s from h 10 (by decide)), if_neg (show ¬ [116, 114] = s from h 9 (by decide)), if_neg (show ¬ [116, 97, 98, 108, 101] = s from h 8 (by decide)), if_neg (show ¬ [98, 117, 116, 116, 111, 110] = s from h 7 (by decide)), if_neg (show ¬ [108, 105] = s from h 6 (by decide)), if_neg (show ¬ [117, 108] = s from h 5 (by decide)), if_neg (show ¬ [104, 51] = s from h 4 (by decide)), if_neg (show ¬ [104, 50] = s from h 3 (by decide)), if_neg (show ¬ [104, 49] = s from h 2 (by decide)), if_neg (show ¬ [110, 97, 118] = s from h 1 (by decide)), if_neg (show ¬ [109, 97, 105, 110] = s from h 0 (by decide))]
  unfold tagD
  rw [c]

theorem askL_step (s : List UInt8) (k : Nat) (h : k < 18) : askL s (18 - k) k = if k ≠ 10 ∧ (kt k).name = s then (k : Int) else askL s (18 - (k + 1)) (k + 1) := by
  rw [show 18 - k = (18 - (k + 1)) + 1 by omega]
  rfl

set_option maxHeartbeats 800000 in
set_option maxRecDepth 100000 in
theorem qasked_any {w : World} (s : ByteArray) : Calls Tryz.prog 69 #[.string s] w fun e w' => e = .returned (.int .i64 (askD s.data.toList)) ∧ Below w.heap.size w w' := by
  rw [← ByteArray.toList_eq]
  by_cases h1 : s.toList = [110, 111, 110, 101]
  · have E : Hid (askD s.toList = 0) := by show _ = _; unfold askD; rw [if_pos (Or.inl h1)]
    go_enter Tryz.func69, Tryz.ntmps69
    go_wp2_with fail
    go_ret
    exact ⟨by rw [E.out]; rfl, Below.refl _ _⟩
  · by_cases h2 : s.toList = [112, 114, 101, 115, 101, 110, 116, 97, 116, 105, 111, 110]
    · have E : Hid (askD s.toList = 0) := by show _ = _; unfold askD; rw [if_pos (Or.inr h2)]
      go_enter Tryz.func69, Tryz.ntmps69
      go_wp2_with fail
      go_ret
      exact ⟨by rw [E.out]; rfl, Below.refl _ _⟩
    · have E : Hid (askD s.toList = askL s.toList (18 - 1) 1) := by show _ = _; unfold askD; rw [if_neg (by simp [h1, h2])]
      have g1 : (s.toList == [110, 111, 110, 101]) = false := by simpa using h1
      have g2 : (s.toList == [112, 114, 101, 115, 101, 110, 116, 97, 116, 105, 111, 110]) = false := by simpa using h2
      clear h1 h2
      go_enter Tryz.func69, Tryz.ntmps69
      go_wp2_with fail
      go_loopw [3] (fun i wr => ∃ k : Nat, 1 ≤ k ∧ k ≤ 18 ∧ i = .int .i64 k ∧ Hid (askD s.toList = askL s.toList (18 - k) k) ∧ Hid (Below w.heap.size w wr)) (fun i _ => 18 - (intOf i).toNat)
      case atStart => exact ⟨1, Nat.le_refl _, by omega, rfl, E, Below.refl _ _⟩
      case round =>
        obtain ⟨k, k1, k18, rfl, HE, HB⟩ := hrel
        by_cases hlt : k < 18
        · by_cases h10 : k = 10
          · subst h10
            have E' : Hid (askD s.toList = askL s.toList (18 - 11) 11) := by show _ = _; rw [HE.out, askL_step _ _ hlt, if_neg (by simp)]
            go_wp2_with fail
            go_roundw
            case rel => exact ⟨11, by omega, by omega, by go_num, E', HB⟩
            case measure => simp [intOf]
          · have k10 : ((k : Int) != 10) = true := by simp; omega
            have st := askL_step s.toList k hlt
            have HS : Hid (askD s.toList = if k ≠ 10 ∧ (kt k).name = s.toList then (k : Int) else askL s.toList (18 - (k + 1)) (k + 1)) := HE.out.trans st
            have e : ofD (k : Int) = kt k := by unfold ofD; rw [if_pos (by omega), Int.toNat_natCast]
            have HQ : Hid (Calls Tryz.prog 16 #[.int .i64 k] wr fun e w' => e = .returned (kval (kt k)) ∧ Below wr.heap.size wr w') := by
              have := qkind_any (w := wr) (k : Int)
              rw [e] at this
              exact this
            clear st e HE
            obtain ⟨nb, hnb⟩ : ∃ nb : ByteArray, nb = ⟨(kt k).name.toArray⟩ := ⟨_, rfl⟩
            have HN : Hid (nb.toList = (kt k).name) := by show _ = _; rw [ByteArray.toList_eq, hnb]
            have HQ' : Hid (Calls Tryz.prog 16 #[.int .i64 k] wr fun e w' => (∃ a1 a2 a3 a4 a5 a6, e = .returned (.agg #[.string nb, a1, a2, a3, a4, a5, a6])) ∧ Below wr.heap.size wr w') := by
              refine HQ.out.mono fun e w' ⟨he, hb⟩ => ⟨⟨.bool (kt k).content, .bool (kt k).leaf, .bool (kt k).level, .bool (kt k).checked, .bool (kt k).named, .int .i64 ((kt k).need : Int), ?_⟩, hb⟩
              rw [he, kval, hnb]
            clear HQ hnb
            cases hbb : (nb.toList == s.toList) with
            | true =>
              have E' : Hid (askD s.toList = (k : Int)) := by
                show _ = _
                rw [HS.out, if_pos ⟨h10, by rw [← HN.out]; simpa using hbb⟩]
              go_wp2_with fail
              refine HQ'.out.mono ?_
              rintro e w1 ⟨⟨a1, a2, a3, a4, a5, a6, rfl⟩, b1⟩
              have HB1 : Hid (Below w.heap.size w w1) := HB.out.trans (b1.mono HB.out.size)
              clear b1
              have hfn := field_name
              go_wp2_with fail
              go_ret
              exact ⟨by rw [E'.out]; rfl, HB1.out⟩
            | false =>
              have E' : Hid (askD s.toList = askL s.toList (18 - (k + 1)) (k + 1)) := by
                show _ = _
                rw [HS.out, if_neg (fun h => by rw [← HN.out] at h; simp [h.2] at hbb)]
              go_wp2_with fail
              refine HQ'.out.mono ?_
              rintro e w1 ⟨⟨a1, a2, a3, a4, a5, a6, rfl⟩, b1⟩
              have HB1 : Hid (Below w.heap.size w w1) := HB.out.trans (b1.mono HB.out.size)
              clear b1
              have hfn := field_name
              go_wp2_with fail
              go_roundw
              case rel => exact ⟨k + 1, by omega, by omega, by go_num, E', HB1⟩
              case measure => simp [intOf]; omega
        · have hk : k = 18 := by omega
          subst hk
          have E' : Hid (askD s.toList = -1) := HE.out
          go_wp2_with fail
          go_ret
          exact ⟨by rw [E'.out]; rfl, HB.out⟩

set_option maxHeartbeats 400000 in
set_option maxRecDepth 100000 in
theorem qtag_any {w : World} (s : ByteArray) : Calls Tryz.prog 71 #[.string s] w fun e w' => e = .returned (.int .i64 (tagD s.data.toList)) ∧ Below w.heap.size w w' := by
  rw [← ByteArray.toList_eq]
  go_enter Tryz.func71, Tryz.ntmps71
  go_wp2_with fail
  have bel : Hid (Below w.heap.size w ((w.alloc (.cells #[.string ⟨#[109, 97, 105, 110]⟩, .string ⟨#[110, 97, 118]⟩, .string ⟨#[104, 49]⟩, .string ⟨#[104, 50]⟩, .string ⟨#[104, 51]⟩, .string ⟨#[117, 108]⟩, .string ⟨#[108, 105]⟩, .string ⟨#[98, 117, 116, 116, 111, 110]⟩, .string ⟨#[116, 97, 98, 108, 101]⟩, .string ⟨#[116, 114]⟩, .string ⟨#[116, 100]⟩, .string ⟨#[100, 105, 97, 108, 111, 103]⟩] 9)).alloc (.cells #[.int .i64 2, .int .i64 3, .int .i64 4, .int .i64 4, .int .i64 4, .int .i64 5, .int .i64 6, .int .i64 8, .int .i64 13, .int .i64 14, .int .i64 15, .int .i64 17] 3))) := ((Below.refl _ _).alloc (Nat.le_refl _) _).alloc (by simp) _
  have T1 : Hid (Box ((w.alloc (.cells #[.string ⟨#[109, 97, 105, 110]⟩, .string ⟨#[110, 97, 118]⟩, .string ⟨#[104, 49]⟩, .string ⟨#[104, 50]⟩, .string ⟨#[104, 51]⟩, .string ⟨#[117, 108]⟩, .string ⟨#[108, 105]⟩, .string ⟨#[98, 117, 116, 116, 111, 110]⟩, .string ⟨#[116, 97, 98, 108, 101]⟩, .string ⟨#[116, 114]⟩, .string ⟨#[116, 100]⟩, .string ⟨#[100, 105, 97, 108, 111, 103]⟩] 9)).alloc (.cells #[.int .i64 2, .int .i64 3, .int .i64 4, .int .i64 4, .int .i64 4, .int .i64 5, .int .i64 6, .int .i64 8, .int .i64 13, .int .i64 14, .int .i64 15, .int .i64 17] 3)) w.heap.size (tagL.map fun p : List UInt8 × Nat => .string ⟨p.1.toArray⟩)) := (box_new w 9 (tagL.map fun p : List UInt8 × Nat => .string ⟨p.1.toArray⟩)).alloc _
  have T2 : Hid (Box ((w.alloc (.cells #[.string ⟨#[109, 97, 105, 110]⟩, .string ⟨#[110, 97, 118]⟩, .string ⟨#[104, 49]⟩, .string ⟨#[104, 50]⟩, .string ⟨#[104, 51]⟩, .string ⟨#[117, 108]⟩, .string ⟨#[108, 105]⟩, .string ⟨#[98, 117, 116, 116, 111, 110]⟩, .string ⟨#[116, 97, 98, 108, 101]⟩, .string ⟨#[116, 114]⟩, .string ⟨#[116, 100]⟩, .string ⟨#[100, 105, 97, 108, 111, 103]⟩] 9)).alloc (.cells #[.int .i64 2, .int .i64 3, .int .i64 4, .int .i64 4, .int .i64 4, .int .i64 5, .int .i64 6, .int .i64 8, .int .i64 13, .int .i64 14, .int .i64 15, .int .i64 17] 3)) (w.heap.size + 1) (tagL.map fun p : List UInt8 × Nat => .int .i64 (p.2 : Int))) := by
    show Box _ _ _
    have := box_new (w.alloc (.cells #[.string ⟨#[109, 97, 105, 110]⟩, .string ⟨#[110, 97, 118]⟩, .string ⟨#[104, 49]⟩, .string ⟨#[104, 50]⟩, .string ⟨#[104, 51]⟩, .string ⟨#[117, 108]⟩, .string ⟨#[108, 105]⟩, .string ⟨#[98, 117, 116, 116, 111, 110]⟩, .string ⟨#[116, 97, 98, 108, 101]⟩, .string ⟨#[116, 114]⟩, .string ⟨#[116, 100]⟩, .string ⟨#[100, 105, 97, 108, 111, 103]⟩] 9)) 3 (tagL.map fun p : List UInt8 × Nat => .int .i64 (p.2 : Int))
    rw [World.size_alloc] at this
    exact this
  generalize (w.alloc _).alloc _ = W at *
  go_loopw [11] (fun i wr => wr = W ∧ ∃ j : Nat, j ≤ 12 ∧ i = .int .i64 j ∧ Hid (∀ i (h : i < 12), i < j → (tagL[i]'h).1 ≠ s.toList)) (fun i _ => 12 - (intOf i).toNat)
  case atStart => exact ⟨rfl, 0, Nat.zero_le _, rfl, fun i _ h => by omega⟩
  case round =>
    obtain ⟨rfl, j, hj, rfl, hno⟩ := hrel
    by_cases hlt : j < 12
    · have hlt' : j < tagL.length := hlt
      obtain ⟨nb, hnb⟩ : ∃ nb : ByteArray, nb = ⟨(tagL[j]).1.toArray⟩ := ⟨_, rfl⟩
      have HN : Hid (nb.toList = (tagL[j]).1) := by show _ = _; rw [ByteArray.toList_eq, hnb]
      have c1 : wr.cell? ⟨w.heap.size, j, none⟩ = some (.string nb) := by
        have := (T1.out.2 j (.string ⟨(tagL[j]).1.toArray⟩) (by simp [hlt'])).1
        rw [this, hnb]
      have c2 : wr.cell? ⟨w.heap.size + 1, j, none⟩ = some (.int .i64 ((tagL[j]).2 : Int)) := (T2.out.2 j _ (by simp [hlt'])).1
      cases hbb : (nb.toList == s.toList) with
      | true =>
        have E' : Hid (tagD s.toList = ((tagL[j]).2 : Int)) := by
          show _ = _
          have : s.toList = (tagL[j]).1 := by rw [← HN.out]; simp at hbb; exact hbb.symm
          rw [this]
          exact tag_hit j hlt
        clear hnb
        generalize ((tagL[j]).2 : Int) = z at *
        go_wp2_with fail
        go_ret
        exact ⟨by rw [E'.out]; rfl, bel.out⟩
      | false =>
        have E' : Hid (∀ i (h : i < 12), i < j + 1 → (tagL[i]'h).1 ≠ s.toList) := by
          intro i h hi
          by_cases e : i = j
          · subst e
            intro h
            have h' : nb.toList = s.toList := HN.out.trans h
            simp [h'] at hbb
          · exact hno.out i h (by omega)
        clear hnb
        generalize ((tagL[j]).2 : Int) = z at *
        go_wp2_with fail
        go_roundw
        case rel => exact ⟨trivial, j + 1, by omega, by go_num, E'⟩
        case measure => simp [intOf]; omega
    · have E' : Hid (tagD s.toList = 18) := tag_miss _ (fun i h => hno.out i h (by omega))
      go_wp2_with fail
      go_ret
      exact ⟨by rw [E'.out]; rfl, bel.out⟩
end Go.Proofs.YtcinjbolflhjmadGreatDoor.Kn

/-
  PLAIN MATHEMATICS: labels, roles, what is hidden.
-/
namespace Go.Proofs.YtcinjbolflhjmadGreatDoor
open Tn

/-- an attribute, said -/
def saidN (d : Dc) (n : Int) (name : ByteArray) : ByteArray := Wd.sqz (valN d n name)

theorem said_size {d : Dc} (h : ∀ j, Vn (nd d j)) (n : Int) (name : ByteArray) : (saidN d n name).size ≤ 4194304 := by
  have h1 := val_size h n name
  have h2 := Wd.joined_len (valN d n name)
  have : (saidN d n name).size = (Tx.joined (Wd.toksOf (valN d n name))).length := rfl
  omega

def labD (d : Dc) (n : Int) : Bool := !(saidN d n ⟨#[97, 114, 105, 97, 45, 108, 97, 98, 101, 108]⟩).toList.isEmpty || !(saidN d n ⟨#[97, 114, 105, 97, 45, 108, 97, 98, 101, 108, 108, 101, 100, 98, 121]⟩).toList.isEmpty
def hasN (d : Dc) (n : Int) (name : ByteArray) : Bool := (attrN d n name).isSome
def lowS (s : ByteArray) : ByteArray := Tx.bs (Wd.lowL s.data.toList)

def wantL (lab : Bool) : List (List UInt8) → Int
  | [] => -1
  | t :: ts => if Kn.findD (Wd.lowL t) = 0 ∧ lab = true then -1 else if 0 ≤ Kn.findD (Wd.lowL t) then Kn.findD (Wd.lowL t) else wantL lab ts
def wantD (d : Dc) (n : Int) : Int := wantL (labD d n) (Wd.toksOf (valN d n ⟨#[114, 111, 108, 101]⟩))

def isA (s : ByteArray) (l : List UInt8) : Bool := s.toList == l
def natT (lab href chk alt0 title : Bool) (tag : ByteArray) : Int :=
  if isA tag [97] && href then 7
  else if isA tag [105, 110, 112, 117, 116] && chk then 9
  else if isA tag [105, 110, 112, 117, 116] then 12
  else if isA tag [105, 109, 103] && alt0 && !lab then 0
  else if isA tag [105, 109, 103] then 11
  else if isA tag [115, 101, 99, 116, 105, 111, 110] && (lab || title) then 16
  else Kn.tagD tag.data.toList
def natD (d : Dc) (n : Int) : Int :=
  natT (labD d n) (hasN d n ⟨#[104, 114, 101, 102]⟩) (isA (lowS (saidN d n ⟨#[116, 121, 112, 101]⟩)) [99, 104, 101, 99, 107, 98, 111, 120]) (hasN d n ⟨#[97, 108, 116]⟩ && (saidN d n ⟨#[97, 108, 116]⟩).toList.isEmpty) (!(saidN d n ⟨#[116, 105, 116, 108, 101]⟩).toList.isEmpty) (nd d n.toNat).tag

/-- the role by itself -/
def aloneD (d : Dc) (n : Int) : Int := if isN d n true then (if 0 ≤ wantD d n then wantD d n else natD d n) else 10
def needI (r : Int) : Int := ((Kn.ofD r).need : Int)
def fitD (r a : Int) : Int := if needI r ≠ 0 ∧ needI r ≠ a then 18 else r

def lineF : Nat → Dc → Int → List Nat
  | 0, _, _ => []
  | f + 1, d, n => if isN d n false then n.toNat :: lineF f d (upF d n) else []
def lineD (d : Dc) (n : Int) : List Nat := lineF 64 d n

def keepA (r a : Int) : Int := if r ≠ 0 ∧ r ≠ 18 then r else a
def roleL (d : Dc) : List Nat → Int × Int
  | [] => (0, 0)
  | k :: ks => (fitD (aloneD d (k : Int)) (roleL d ks).2, keepA (fitD (aloneD d (k : Int)) (roleL d ks).2) (roleL d ks).2)
def roleD (d : Dc) (n : Int) : Int := (roleL d (lineD d n)).1
def aroundD (d : Dc) (n : Int) : Int := (roleL d (lineD d n)).2

def concD (d : Dc) (n : Int) : Bool := hasN d n ⟨#[104, 105, 100, 100, 101, 110]⟩ || isA (lowS (saidN d n ⟨#[97, 114, 105, 97, 45, 104, 105, 100, 100, 101, 110]⟩)) [116, 114, 117, 101]
def hidL (d : Dc) (l : List Nat) : Bool := l.isEmpty || decide (l.getLast?.getD 0 ≠ 0) || l.any (fun k => concD d (k : Int))
def hidD (d : Dc) (n : Int) : Bool := hidL d (lineD d n)

theorem up_kid {d : Dc} {n : Int} {m : Nat} (h : upF d n = (m : Int)) : ∃ k : Nat, n = (k : Int) ∧ k ∈ kidsD d (m : Int) := by
  unfold upF at h
  split at h
  · rename_i hi
    obtain ⟨k, rfl, _, _⟩ := isN_nat hi
    rw [Int.toNat_natCast] at h
    split at h
    · rename_i hc
      exact ⟨k, rfl, by rw [← h]; simpa using hc⟩
    · split at h
      · rename_i hc
        exact ⟨k, rfl, by rw [← h]; simpa using hc⟩
      · omega
  · omega

theorem up_cases {d : Dc} (h : Fine d) (n : Int) : upF d n = -1 ∨ ∃ m k : Nat, upF d n = (m : Int) ∧ n = (k : Int) ∧ k ∈ kidsD d (m : Int) ∧ lvD d m = true ∧ posD d m < posD d k := by
  have h0 : upF d n = -1 ∨ 0 ≤ upF d n := by
    unfold upF
    split
    · split
      · rename_i hc
        right
        have hm : n.toNat ∈ kidsD d (nd d n.toNat).up := by simpa using hc
        obtain ⟨m, e, _⟩ := kid_nat hm
        omega
      · split
        · rename_i hc
          right
          have hm : n.toNat ∈ kidsD d (slotD d n) := by simpa using hc
          obtain ⟨m, e, _⟩ := kid_nat hm
          omega
        · left; rfl
    · left; rfl
  rcases h0 with h0 | h0
  · exact Or.inl h0
  · right
    obtain ⟨m, hm⟩ : ∃ m : Nat, upF d n = (m : Int) := ⟨(upF d n).toNat, by omega⟩
    obtain ⟨k, hk, hkm⟩ := up_kid hm
    exact ⟨m, k, hm, hk, hkm, (kid_par h hkm).1, kid_pos h hkm⟩

/-- more steps tell no more -/
theorem line_more {d : Dc} (h : Fine d) : ∀ (f g : Nat) (n : Int), (∀ k : Nat, n = (k : Int) → lvD d k = true → posD d k < f) → f ≤ g → lineF g d n = lineF f d n
  | 0, g, n, hf, _ => by
    have hi : isN d n false = false := by
      cases hi : isN d n false with
      | false => rfl
      | true =>
        obtain ⟨k, rfl, _, hl⟩ := isN_nat hi
        exact absurd (hf k rfl hl) (by omega)
    cases g with
    | zero => rfl
    | succ g => rw [lineF, lineF, hi]; rfl
  | f + 1, 0, n, _, hg => by omega
  | f + 1, g + 1, n, hf, hg => by
    rw [lineF, lineF]
    split
    · rename_i hi
      obtain ⟨k, rfl, _, hl⟩ := isN_nat hi
      have hp := hf k rfl hl
      congr 1
      refine line_more h f g _ ?_ (by omega)
      intro m hm _
      rcases up_cases h (k : Int) with e | ⟨m', k', e1, e2, _, _, e3⟩
      · omega
      · have : m = m' := by omega
        have : k = k' := by omega
        subst_vars
        omega
    · rfl

theorem pos_60 {d : Dc} (h : Fine d) {k : Nat} (hk : lvD d k = true) : posD d k < 60 := Nat.lt_of_lt_of_le (pos_lt h hk) (all_few h)

theorem line_eq {d : Dc} (h : Fine d) (n : Int) : lineD d n = if isN d n false then n.toNat :: lineD d (upF d n) else [] := by
  unfold lineD
  rw [lineF]
  split
  · rw [line_more h 63 64 (upF d n) (fun k _ hk => by have := pos_60 h hk; omega) (by omega)]
  · rfl

theorem line_nil {d : Dc} (h : Fine d) {n : Int} (hn : isN d n false = false) : lineD d n = [] := by rw [line_eq h, hn]; rfl
theorem line_cons {d : Dc} (h : Fine d) {k : Nat} (hk : isN d (k : Int) false = true) : lineD d (k : Int) = k :: lineD d (upF d (k : Int)) := by rw [line_eq h, hk, Int.toNat_natCast]; rfl

theorem role_nil {d : Dc} (h : Fine d) {n : Int} (hn : isN d n false = false) : roleD d n = 0 ∧ aroundD d n = 0 := by
  unfold roleD aroundD
  rw [line_nil h hn]
  exact ⟨rfl, rfl⟩
theorem role_cons {d : Dc} (h : Fine d) {k : Nat} (hk : isN d (k : Int) false = true) : roleD d (k : Int) = fitD (aloneD d (k : Int)) (aroundD d (upF d (k : Int))) ∧ aroundD d (k : Int) = keepA (roleD d (k : Int)) (aroundD d (upF d (k : Int))) := by
  unfold roleD aroundD
  rw [line_cons h hk]
  exact ⟨rfl, rfl⟩

theorem hid_nil {d : Dc} (h : Fine d) {n : Int} (hn : isN d n false = false) : hidD d n = true := by
  unfold hidD
  rw [line_nil h hn]
  rfl
theorem hid_cons {d : Dc} (h : Fine d) {k : Nat} (hk : isN d (k : Int) false = true) : hidD d (k : Int) = (concD d (k : Int) || (decide (k ≠ 0) && (decide (upF d (k : Int) < 0) || hidD d (upF d (k : Int))))) := by
  unfold hidD
  rw [line_cons h hk]
  rcases up_cases h (k : Int) with e | ⟨m, k', e1, e2, e3, e4, _⟩
  · have hno : isN d (-1) false = false := by unfold isN; simp
    rw [e, line_nil h hno]
    unfold hidL
    by_cases h0 : k = 0 <;> simp [h0, Bool.or_comm]
  · have hkk : k = k' := by omega
    subst hkk
    have hm : isN d (m : Int) false = true := by rw [isN_iff]; exact e4
    have h0 : k ≠ 0 := by
      have := (kid_par h e3).2.2.1
      omega
    rw [e1, line_cons h hm]
    unfold hidL
    have hx : ¬ ((m : Int) < 0) := by omega
    simp [h0, hx]
    rw [Bool.or_left_comm]

theorem need_text : needI 10 = 0 := by decide
theorem need_none : needI 0 = 0 := by decide
theorem need_gen : needI 18 = 0 := by decide
theorem alone_text {d : Dc} {n : Int} (h : isN d n true = false) : aloneD d n = 10 := by unfold aloneD; rw [h]; rfl
theorem fit_zero {r a : Int} (h : needI r = 0) : fitD r a = r := by unfold fitD; rw [if_neg (by simp [h])]
theorem fit_yes {r a : Int} (h : needI r = a) : fitD r a = r := by unfold fitD; rw [if_neg (by simp [h])]
theorem fit_no {r a : Int} (h : needI r ≠ 0) (h2 : needI r ≠ a) : fitD r a = 18 := by unfold fitD; rw [if_pos ⟨h, h2⟩]
end Go.Proofs.YtcinjbolflhjmadGreatDoor

/-
  THE WALKS of tnlaw3's host and alive.
-/
namespace Go.Proofs.YtcinjbolflhjmadGreatDoor
open Go.RowKit

def hostL : List Tn.Chg := [⟨1, 0, 0, -1, ⟨#[120]⟩, ⟨#[]⟩⟩, ⟨8, 1, 0, 0, ⟨#[]⟩, ⟨#[]⟩⟩, ⟨9, 1, 0, 0, ⟨#[115, 108, 111, 116]⟩, ⟨#[]⟩⟩, ⟨1, 1, 0, -1, ⟨#[98]⟩, ⟨#[]⟩⟩]
theorem host_slot : slotD (Tn.build hostL) 3 = 2 := by decide +kernel
theorem host_given : givenD (Tn.build hostL) 2 = [3] := by decide +kernel
theorem host_kids : kidsD (Tn.build hostL) 2 = [3] := by decide +kernel
theorem host_up : upF (Tn.build hostL) 3 = 2 := by decide +kernel
theorem host_shown : shownF Tn.fuel (Tn.build hostL) 0 = [0, 1, 2, 3] := by decide +kernel
theorem host_end : EndF Tn.fuel (Tn.build hostL) 0 := endB_end _ _ _ (by decide +kernel)

theorem chgs_new (w : World) (l : List Tn.Chg) (hl : l.length ≤ 1000) : ChgsAt (w.alloc (.cells (l.flatMap chc).toArray 40)) (.slice (some ⟨w.heap.size, 0, none⟩) l.length l.length) l := by
  refine ⟨_, _, rfl, Nat.le_refl _, by unfold maxLen; omega, fun j x hx => ⟨_, 0, rfl, ?_⟩⟩
  rw [Nat.zero_add, World.cell?_alloc_new, ← hx]
  simp

theorem ChgsAt.keeps {w w' : World} {v : Value} {l : List Tn.Chg} (h : ChgsAt w v l) (k : Keeps w w') : ChgsAt w' v l := by
  obtain ⟨p, c, e, h1, h2, h4⟩ := h
  refine ⟨p, c, e, h1, h2, fun j x hx => ?_⟩
  obtain ⟨b, o, e1, e2⟩ := h4 j x hx
  exact ⟨b, o, e1, k _ _ e2⟩

end Go.Proofs.YtcinjbolflhjmadGreatDoor

/-
  THE WALK of tnlaw3's FlatTells.
-/
namespace Go.Proofs.YtcinjbolflhjmadGreatDoor
open Go.RowKit

end Go.Proofs.YtcinjbolflhjmadGreatDoor

/-
  THE WALKS of role.Said, has, Labelled, conceals, fitting; of the reference's said and Labelled.
-/
namespace Go.Proofs.YtcinjbolflhjmadGreatDoor
open Go.RowKit

set_option maxHeartbeats 800000 in
theorem osaid_any {w : World} {b o c : Nat} {rs : List Raw} {d : Tn.Dc} (hd : DocAt w b o c rs d) (hg : Okd d) (hv : ∀ j, Vn (Tn.nd d j)) (n : Int) (name : ByteArray) :
    Calls Tryz.prog 89 #[.slice (some ⟨b, o, none⟩) rs.length c, .int .i64 n, .string name] w fun e w' => e = .returned (.string (saidN d n name)) ∧ Below w.heap.size w w' := by
  have hA := dattr_all hd hg n name
  have hz := val_size hv n name
  have hS : ∀ W, Calls Tryz.prog 52 #[.string (valN d n name)] W fun e w' => e = .returned (.string (saidN d n name)) ∧ Below W.heap.size W w' := fun W => Wd.squeeze_any _ W hz
  clear hd hg hv hz
  generalize saidN d n name = r at *
  generalize valN d n name = v at *
  generalize (attrN d n name).isSome = q at *
  go_enter Tryz.func89, Tryz.ntmps89
  go_wp2_with (first
    | (go_at_call 85; refine hA.mono ?_; rintro e w1 ⟨rfl, hb1⟩)
    | (go_at_call 52; refine (hS _).mono ?_; rintro e w2 ⟨rfl, hb2⟩))
  go_ret
  exact ⟨rfl, hb1.trans (hb2.mono hb1.size)⟩

set_option maxHeartbeats 800000 in
theorem ohas_any {w : World} {b o c : Nat} {rs : List Raw} {d : Tn.Dc} (hd : DocAt w b o c rs d) (hg : Okd d) (n : Int) (name : ByteArray) :
    Calls Tryz.prog 102 #[.slice (some ⟨b, o, none⟩) rs.length c, .int .i64 n, .string name] w fun e w' => e = .returned (.bool (hasN d n name)) ∧ Below w.heap.size w w' := by
  have hA := dattr_all hd hg n name
  clear hd hg
  unfold hasN
  generalize valN d n name = v at *
  generalize (attrN d n name).isSome = q at *
  go_enter Tryz.func102, Tryz.ntmps102
  go_wp2_with (go_at_call 85; refine hA.mono ?_; rintro e w1 ⟨rfl, hb1⟩)
  go_ret
  exact ⟨rfl, hb1⟩

set_option maxHeartbeats 800000 in
theorem olab_any {w : World} {b o c : Nat} {rs : List Raw} {d : Tn.Dc} (hd : DocAt w b o c rs d) (hg : Okd d) (hv : ∀ j, Vn (Tn.nd d j)) (n : Int) :
    Calls Tryz.prog 101 #[.slice (some ⟨b, o, none⟩) rs.length c, .int .i64 n] w fun e w' => e = .returned (.bool (labD d n)) ∧ Below w.heap.size w w' := by
  have S1 := osaid_any hd hg hv n ⟨#[97, 114, 105, 97, 45, 108, 97, 98, 101, 108]⟩
  have S2 : ∀ W, Keeps w W → Calls Tryz.prog 89 #[.slice (some ⟨b, o, none⟩) rs.length c, .int .i64 n, .string ⟨#[97, 114, 105, 97, 45, 108, 97, 98, 101, 108, 108, 101, 100, 98, 121]⟩] W fun e w' => e = .returned (.string (saidN d n ⟨#[97, 114, 105, 97, 45, 108, 97, 98, 101, 108, 108, 101, 100, 98, 121]⟩)) ∧ Below W.heap.size W w' := fun W hk => osaid_any (hd.keeps hk) hg hv n _
  have E : Hid (labD d n = (!(saidN d n ⟨#[97, 114, 105, 97, 45, 108, 97, 98, 101, 108]⟩).toList.isEmpty || !(saidN d n ⟨#[97, 114, 105, 97, 45, 108, 97, 98, 101, 108, 108, 101, 100, 98, 121]⟩).toList.isEmpty)) := rfl
  clear hd hg hv
  generalize saidN d n ⟨#[97, 114, 105, 97, 45, 108, 97, 98, 101, 108]⟩ = x at *
  generalize saidN d n ⟨#[97, 114, 105, 97, 45, 108, 97, 98, 101, 108, 108, 101, 100, 98, 121]⟩ = y at *
  generalize labD d n = res at *
  cases hx : x.toList.isEmpty with
  | false =>
    rw [hx] at E
    have E2 : Hid (res = true) := E.out
    clear E
    go_enter Tryz.func101, Tryz.ntmps101
    go_wp2_with (go_at_call 89; refine S1.mono ?_; rintro e w1 ⟨rfl, hb1⟩)
    go_ret
    exact ⟨by rw [E2.out]; rfl, hb1⟩
  | true =>
    cases hy : y.toList.isEmpty with
    | false =>
      rw [hx, hy] at E
      have E2 : Hid (res = true) := E.out
      clear E
      go_enter Tryz.func101, Tryz.ntmps101
      go_wp2_with (first
        | (go_at_call 89; refine S1.mono ?_; clear S1; rintro e w1 ⟨rfl, hb1⟩; have S3 := S2 w1 (keeps_below hb1 (Nat.le_refl _)))
        | (go_at_call 89; refine S3.mono ?_; rintro e w2 ⟨rfl, hb2⟩))
      go_ret
      exact ⟨by rw [E2.out]; rfl, hb1.trans (hb2.mono hb1.size)⟩
    | true =>
      rw [hx, hy] at E
      have E2 : Hid (res = false) := E.out
      clear E
      go_enter Tryz.func101, Tryz.ntmps101
      go_wp2_with (first
        | (go_at_call 89; refine S1.mono ?_; clear S1; rintro e w1 ⟨rfl, hb1⟩; have S3 := S2 w1 (keeps_below hb1 (Nat.le_refl _)))
        | (go_at_call 89; refine S3.mono ?_; rintro e w2 ⟨rfl, hb2⟩))
      go_ret
      exact ⟨by rw [E2.out]; rfl, hb1.trans (hb2.mono hb1.size)⟩

set_option maxHeartbeats 800000 in
theorem oconc_any {w : World} {b o c : Nat} {rs : List Raw} {d : Tn.Dc} (hd : DocAt w b o c rs d) (hg : Okd d) (hv : ∀ j, Vn (Tn.nd d j)) (n : Int) :
    Calls Tryz.prog 79 #[.slice (some ⟨b, o, none⟩) rs.length c, .int .i64 n] w fun e w' => e = .returned (.bool (concD d n)) ∧ Below w.heap.size w w' := by
  have S1 := ohas_any hd hg n ⟨#[104, 105, 100, 100, 101, 110]⟩
  have S2 : ∀ W, Keeps w W → Calls Tryz.prog 89 #[.slice (some ⟨b, o, none⟩) rs.length c, .int .i64 n, .string ⟨#[97, 114, 105, 97, 45, 104, 105, 100, 100, 101, 110]⟩] W fun e w' => e = .returned (.string (saidN d n ⟨#[97, 114, 105, 97, 45, 104, 105, 100, 100, 101, 110]⟩)) ∧ Below W.heap.size W w' := fun W hk => osaid_any (hd.keeps hk) hg hv n _
  have hz := said_size hv n ⟨#[97, 114, 105, 97, 45, 104, 105, 100, 100, 101, 110]⟩
  have S4 : ∀ W, Calls Tryz.prog 100 #[.string (saidN d n ⟨#[97, 114, 105, 97, 45, 104, 105, 100, 100, 101, 110]⟩)] W fun e w' => e = .returned (.string (lowS (saidN d n ⟨#[97, 114, 105, 97, 45, 104, 105, 100, 100, 101, 110]⟩))) ∧ Below W.heap.size W w' := fun W => Wd.lower_any _ W hz
  have E : Hid (concD d n = (hasN d n ⟨#[104, 105, 100, 100, 101, 110]⟩ || ((lowS (saidN d n ⟨#[97, 114, 105, 97, 45, 104, 105, 100, 100, 101, 110]⟩)).toList == [116, 114, 117, 101]))) := rfl
  clear hd hg hv hz
  generalize hasN d n ⟨#[104, 105, 100, 100, 101, 110]⟩ = x at *
  generalize lowS (saidN d n ⟨#[97, 114, 105, 97, 45, 104, 105, 100, 100, 101, 110]⟩) = z at *
  generalize saidN d n ⟨#[97, 114, 105, 97, 45, 104, 105, 100, 100, 101, 110]⟩ = y at *
  generalize concD d n = res at *
  cases x with
  | true =>
    have E2 : Hid (res = true) := E.out
    clear E
    go_enter Tryz.func79, Tryz.ntmps79
    go_wp2_with (go_at_call 102; refine S1.mono ?_; rintro e w1 ⟨rfl, hb1⟩)
    go_ret
    exact ⟨by rw [E2.out]; rfl, hb1⟩
  | false =>
    have E2 : Hid (res = (z.toList == [116, 114, 117, 101])) := E.out
    clear E
    go_enter Tryz.func79, Tryz.ntmps79
    go_wp2_with (first
      | (go_at_call 102; refine S1.mono ?_; rintro e w1 ⟨rfl, hb1⟩; have S3 := S2 w1 (keeps_below hb1 (Nat.le_refl _)))
      | (go_at_call 89; refine S3.mono ?_; rintro e w2 ⟨rfl, hb2⟩)
      | (go_at_call 100; refine (S4 _).mono ?_; rintro e w3 ⟨rfl, hb3⟩))
    go_ret
    have B2 := hb1.trans (hb2.mono hb1.size)
    exact ⟨by rw [E2.out]; simp, B2.trans (hb3.mono B2.size)⟩

theorem ofD_agg (r : Int) : ∃ (a0 : ByteArray) (a1 a2 a3 a4 a5 : Bool), Kn.kval (Kn.ofD r) = .agg #[.string a0, .bool a1, .bool a2, .bool a3, .bool a4, .bool a5, .int .i64 (needI r)] := ⟨_, _, _, _, _, _, rfl⟩

set_option maxHeartbeats 800000 in
theorem ofit_any {w : World} (T : Kn.TabAt w) (r a : Int) :
    Calls Tryz.prog 48 #[.int .i64 r, .int .i64 a] w fun e w' => e = .returned (.int .i64 (fitD r a)) ∧ Below w.heap.size w w' := by
  have S1 := Kn.of_any T r
  obtain ⟨a0, a1, a2, a3, a4, a5, hk⟩ := ofD_agg r
  rw [hk] at S1
  have hfl := Kn.field_need
  have E : Hid (fitD r a = if needI r ≠ 0 ∧ needI r ≠ a then 18 else r) := rfl
  clear hk
  generalize fitD r a = res at *
  generalize needI r = nd at *
  by_cases h1 : nd = 0
  · have E2 : Hid (res = r) := by show _ = _; rw [E.out, if_neg (by simp [h1])]
    subst h1
    clear E
    go_enter Tryz.func48, Tryz.ntmps48
    go_wp2_with (go_at_call 29; refine S1.mono ?_; rintro e w1 ⟨rfl, hb1⟩)
    go_ret
    exact ⟨by rw [E2.out]; rfl, hb1⟩
  · have h1b : (nd != 0) = true := by simpa using h1
    by_cases h2 : nd = a
    · have E2 : Hid (res = r) := by show _ = _; rw [E.out, if_neg (by simp [h2])]
      subst h2
      clear E
      go_enter Tryz.func48, Tryz.ntmps48
      go_wp2_with (go_at_call 29; refine S1.mono ?_; rintro e w1 ⟨rfl, hb1⟩)
      go_ret
      exact ⟨by rw [E2.out]; rfl, hb1⟩
    · have h2b : (nd != a) = true := by simpa using h2
      have E2 : Hid (res = 18) := by show _ = _; rw [E.out, if_pos ⟨h1, h2⟩]
      clear E
      go_enter Tryz.func48, Tryz.ntmps48
      go_wp2_with (go_at_call 29; refine S1.mono ?_; rintro e w1 ⟨rfl, hb1⟩)
      go_ret
      exact ⟨by rw [E2.out]; rfl, hb1⟩

/-- a document, and the table of kinds -/
structure Cx (w : World) (b o c : Nat) (rs : List Raw) (d : Tn.Dc) : Prop where
  doc : DocAt w b o c rs d
  tab : Kn.TabAt w
  fine : Fine d
  vn : ∀ j, Vn (Tn.nd d j)
theorem Cx.below {w w' : World} {b o c : Nat} {rs : List Raw} {d : Tn.Dc} (h : Cx w b o c rs d) (hb : Below w.heap.size w w') : Cx w' b o c rs d := ⟨h.doc.keeps (keeps_below hb (Nat.le_refl _)), h.tab.below hb, h.fine, h.vn⟩
theorem Cx.to {w w' : World} {b o c : Nat} {rs : List Raw} {d : Tn.Dc} (h : Cx w b o c rs d) {B : Nat} (hB : w.heap.size ≤ B) (hb : Below B w w') : Cx w' b o c rs d := h.below (hb.mono hB)

set_option maxHeartbeats 800000 in
theorem qsaid_any {w : World} {b o c : Nat} {rs : List Raw} {d : Tn.Dc} (hd : DocAt w b o c rs d) (hv : ∀ j, Vn (Tn.nd d j)) (n : Int) (name : ByteArray) :
    Calls Tryz.prog 37 #[.slice (some ⟨b, o, none⟩) rs.length c, .int .i64 n, .string name] w fun e w' => e = .returned (.string (saidN d n name)) ∧ Below w.heap.size w w' := by
  have hA := rattr_all hd n name
  have hz := val_size hv n name
  have hS : ∀ W, Calls Tryz.prog 14 #[.string (valN d n name)] W fun e w' => e = .returned (.string (saidN d n name)) ∧ Below W.heap.size W w' := fun W => Wd.rsqueeze_any _ W hz
  clear hd hv hz
  generalize saidN d n name = r at *
  generalize valN d n name = v at *
  generalize (attrN d n name).isSome = q at *
  go_enter Tryz.func37, Tryz.ntmps37
  go_wp2_with (first
    | (go_at_call 18; refine hA.mono ?_; rintro e w1 ⟨rfl, hb1⟩)
    | (go_at_call 14; refine (hS _).mono ?_; rintro e w2 ⟨rfl, hb2⟩))
  go_ret
  exact ⟨rfl, hb1.trans (hb2.mono hb1.size)⟩

theorem app_empty (x y : ByteArray) : (x ++ y).toList.isEmpty = (x.toList.isEmpty && y.toList.isEmpty) := by
  rw [ByteArray.toList_eq, ByteArray.toList_eq, ByteArray.toList_eq, ByteArray.data_append, Array.toList_append]
  generalize x.data.toList = a
  generalize y.data.toList = b
  cases a <;> cases b <;> rfl

set_option maxHeartbeats 800000 in
theorem qlab_any {w : World} {b o c : Nat} {rs : List Raw} {d : Tn.Dc} (hd : DocAt w b o c rs d) (hv : ∀ j, Vn (Tn.nd d j)) (n : Int) :
    Calls Tryz.prog 70 #[.slice (some ⟨b, o, none⟩) rs.length c, .int .i64 n] w fun e w' => e = .returned (.bool (labD d n)) ∧ Below w.heap.size w w' := by
  have S1 := qsaid_any hd hv n ⟨#[97, 114, 105, 97, 45, 108, 97, 98, 101, 108]⟩
  have S2 : ∀ W, Keeps w W → Calls Tryz.prog 37 #[.slice (some ⟨b, o, none⟩) rs.length c, .int .i64 n, .string ⟨#[97, 114, 105, 97, 45, 108, 97, 98, 101, 108, 108, 101, 100, 98, 121]⟩] W fun e w' => e = .returned (.string (saidN d n ⟨#[97, 114, 105, 97, 45, 108, 97, 98, 101, 108, 108, 101, 100, 98, 121]⟩)) ∧ Below W.heap.size W w' := fun W hk => qsaid_any (hd.keeps hk) hv n _
  have E : Hid (labD d n = !(saidN d n ⟨#[97, 114, 105, 97, 45, 108, 97, 98, 101, 108]⟩ ++ saidN d n ⟨#[97, 114, 105, 97, 45, 108, 97, 98, 101, 108, 108, 101, 100, 98, 121]⟩).toList.isEmpty) := by
    show _ = _
    rw [app_empty]
    unfold labD
    rw [Bool.not_and]
  have z1 := said_size hv n ⟨#[97, 114, 105, 97, 45, 108, 97, 98, 101, 108]⟩
  have z2 := said_size hv n ⟨#[97, 114, 105, 97, 45, 108, 97, 98, 101, 108, 108, 101, 100, 98, 121]⟩
  clear hd hv
  generalize saidN d n ⟨#[97, 114, 105, 97, 45, 108, 97, 98, 101, 108]⟩ = x at *
  generalize saidN d n ⟨#[97, 114, 105, 97, 45, 108, 97, 98, 101, 108, 108, 101, 100, 98, 121]⟩ = y at *
  generalize labD d n = res at *
  go_enter Tryz.func70, Tryz.ntmps70
  go_wp2_with (first
    | (go_at_call 37; refine S1.mono ?_; clear S1; rintro e w1 ⟨rfl, hb1⟩; have S3 := S2 w1 (keeps_below hb1 (Nat.le_refl _)))
    | (go_at_call 37; refine S3.mono ?_; rintro e w2 ⟨rfl, hb2⟩))
  go_ret
  exact ⟨by rw [E.out]; simp, hb1.trans (hb2.mono hb1.size)⟩
end Go.Proofs.YtcinjbolflhjmadGreatDoor

/-
  FRAMES: all blocks are as they were, but some that are maps; sets of nodes, as maps of the call's own.
-/
namespace Go.Proofs.YtcinjbolflhjmadGreatDoor
open Go.RowKit Go.Maps

/-- all blocks are as they were, but those of S -/
structure Bt (S : List Nat) (w w' : World) : Prop where
  os : w'.os = w.os
  tape : w'.tape = w.tape
  output : w'.output = w.output
  size : w.heap.size ≤ w'.heap.size
  block : ∀ k, k < w.heap.size → k ∉ S → w'.heap[k]? = w.heap[k]?
theorem Bt.refl (S : List Nat) (w : World) : Bt S w w := ⟨rfl, rfl, rfl, Nat.le_refl _, fun _ _ _ => rfl⟩
theorem Bt.trans {S : List Nat} {a b c : World} (h : Bt S a b) (k : Bt S b c) : Bt S a c :=
  ⟨k.os.trans h.os, k.tape.trans h.tape, k.output.trans h.output, Nat.le_trans h.size k.size, fun i hi hn => (k.block i (Nat.lt_of_lt_of_le hi h.size) hn).trans (h.block i hi hn)⟩
theorem Bt.of {S : List Nat} {w w' : World} {C : Nat} (h : Below C w w') (hC : w.heap.size ≤ C) : Bt S w w' := ⟨h.os, h.tape, h.output, h.size, fun i hi _ => h.block i (by omega)⟩
theorem Bt.below {S : List Nat} {w w' : World} (h : Below w.heap.size w w') : Bt S w w' := Bt.of h (Nat.le_refl _)
theorem Bt.grow {S : List Nat} {w w' w'' : World} {A : Nat} (h : Bt S w w') (g : w'.grownBy w'' (some A)) (hA : A ∈ S) : Bt S w w'' :=
  ⟨g.os.trans h.os, g.tape.trans h.tape, g.output.trans h.output, Nat.le_trans h.size g.size, fun k hk hn => (g.block k (Nat.lt_of_lt_of_le hk h.size) (fun e => hn (by injection e with e; rw [e]; exact hA))).trans (h.block k hk hn)⟩
theorem Bt.grow1 {S : List Nat} {w w' : World} {A : Nat} (g : w.grownBy w' (some A)) (hA : A ∈ S) : Bt S w w' := (Bt.refl S w).grow g hA
theorem Bt.drew {S : List Nat} {w w' : World} (h : Bt S w w') : Bt S w w'.drew := ⟨h.os, h.tape, h.output, h.size, h.block⟩
/-- what was not there when it began need not be named -/
theorem Bt.forget {S T : List Nat} {w w' : World} (h : Bt S w w') (hS : ∀ k ∈ S, k ∈ T ∨ w.heap.size ≤ k) : Bt T w w' :=
  ⟨h.os, h.tape, h.output, h.size, fun k hk hn => h.block k hk (fun hx => by
    rcases hS k hx with h1 | h1
    · exact hn h1
    · omega)⟩
theorem Bt.to_below {S : List Nat} {w w' : World} (h : Bt S w w') (hS : ∀ k ∈ S, w.heap.size ≤ k) : Below w.heap.size w w' :=
  ⟨h.os, h.tape, h.output, h.size, fun k hk => h.block k hk (fun hx => by have := hS k hx; omega)⟩
theorem Bt.low {S : List Nat} {w w' : World} (h : Bt S w w') {C : Nat} (hC : C ≤ w.heap.size) (hS : ∀ k ∈ S, C ≤ k) : Below C w w' :=
  ⟨h.os, h.tape, h.output, h.size, fun k hk => h.block k (by omega) (fun hx => by have := hS k hx; omega)⟩
theorem Bt.high {S : List Nat} {w w' w'' : World} (h : Bt S w w') {C : Nat} (k : Below C w' w'') (hC : w.heap.size ≤ C) : Bt S w w'' :=
  ⟨k.os.trans h.os, k.tape.trans h.tape, k.output.trans h.output, Nat.le_trans h.size k.size, fun i hi hn => (k.block i (by omega)).trans (h.block i hi hn)⟩
theorem Bt.cell {S : List Nat} {w w' : World} (h : Bt S w w') {p : Addr} {v : Value} (hv : w.cell? p = some v) (hp : p.block ∉ S) : w'.cell? p = some v := by
  rw [← hv]
  exact World.cell?_of_block (h.block p.block (lt_of_cell hv) hp)
theorem Bt.owns {S : List Nat} {w w' : World} (h : Bt S w w') {C e k n : Nat} {v : Value} {xs : List Value} (ho : w.ownsRow C e k v n xs) (hS : ∀ x ∈ S, x < C) : w'.ownsRow C e k v n xs := by
  have hlt := ho.lt
  obtain ⟨hl, hz⟩ := ho
  refine ⟨hl, ?_⟩
  rcases hz with h5 | ⟨g, cap, cur, rfl, h3, h6, h7⟩
  · exact Or.inl h5
  · refine Or.inr ⟨g, cap, cur, rfl, h3, ?_, h7⟩
    rw [h.block g (hlt g rfl).2 (fun hx => by have := hS g hx; omega)]
    exact h6

/-- these blocks are maps -/
def AreMaps (S : List Nat) (w : World) : Prop := ∀ k ∈ S, ∃ es c, w.heap[k]? = some (.map es c)
theorem AreMaps.below {S : List Nat} {w w' : World} (h : AreMaps S w) (hb : Below w.heap.size w w') : AreMaps S w' := fun k hk => by
  obtain ⟨es, c, e⟩ := h k hk
  exact ⟨es, c, by rw [hb.block k (Array.getElem?_eq_some_iff.1 e).1]; exact e⟩
theorem Bt.keeps {S : List Nat} {w w' : World} (h : Bt S w w') (hm : AreMaps S w) : Keeps w w' := by
  intro a v hv
  refine h.cell hv (fun hx => ?_)
  obtain ⟨es, c, e⟩ := hm _ hx
  simp [World.cell?, e] at hv
theorem TabAt.keeps {w w' : World} (h : Kn.TabAt w) (k : Keeps w w') (hs : w.heap.size ≤ w'.heap.size) : Kn.TabAt w' :=
  ⟨Nat.lt_of_lt_of_le h.1 hs, fun i hi => by
    have r := h.2 i hi
    exact ⟨k _ _ r.c0, k _ _ r.c1, k _ _ r.c2, k _ _ r.c3, k _ _ r.c4, k _ _ r.c5, k _ _ r.c6⟩⟩
theorem Cx.keeps {w w' : World} {b o c : Nat} {rs : List Raw} {d : Tn.Dc} (h : Cx w b o c rs d) (k : Keeps w w') (hs : w.heap.size ≤ w'.heap.size) : Cx w' b o c rs d := ⟨h.doc.keeps k, TabAt.keeps h.tab k hs, h.fine, h.vn⟩

/-! ### sets -/
theorem keyU : Keyed Tryz.prog 3 := int_keyed Tryz.underlying3

/-- block b is a set that holds just the nodes of S -/
def SetAt (w : World) (b : Nat) (S : List Nat) : Prop :=
  ∃ D, w.ownsMap Tryz.prog 3 (unitElem (H := Unit)) b (S.length + 1) D ∧ ∀ kl, Maps.has D kl = true ↔ ∃ k ∈ S, kl = .int .i64 (k : Int)
/-- it holds those, and n at most -/
def PreAt (w : World) (b : Nat) (S : List Nat) (n : Nat) : Prop :=
  ∃ D, w.ownsMap Tryz.prog 3 (unitElem (H := Unit)) b (S.length + 1) D ∧ (∀ kl, Maps.has D kl = true → ∃ k, (k ∈ S ∨ k = n) ∧ kl = .int .i64 (k : Int)) ∧ ∀ k ∈ S, Maps.has D (.int .i64 (k : Int)) = true

theorem SetAt.pre {w : World} {b : Nat} {S : List Nat} (h : SetAt w b S) (n : Nat) : PreAt w b S n := by
  obtain ⟨D, h1, h2⟩ := h
  refine ⟨D, h1, fun kl hk => ?_, fun k hk => (h2 _).mpr ⟨k, hk, rfl⟩⟩
  obtain ⟨k, hk, e⟩ := (h2 kl).mp hk
  exact ⟨k, Or.inl hk, e⟩
theorem SetAt.same {w w' : World} {b : Nat} {S : List Nat} (h : SetAt w b S) (hb : w'.heap[b]? = w.heap[b]?) : SetAt w' b S := by
  obtain ⟨D, ⟨es, clock, h1, h2⟩, h4⟩ := h
  exact ⟨D, ⟨es, clock, by rw [hb]; exact h1, h2⟩, h4⟩
theorem PreAt.same {w w' : World} {b n : Nat} {S : List Nat} (h : PreAt w b S n) (hb : w'.heap[b]? = w.heap[b]?) : PreAt w' b S n := by
  obtain ⟨D, ⟨es, clock, h1, h2⟩, h4⟩ := h
  exact ⟨D, ⟨es, clock, by rw [hb]; exact h1, h2⟩, h4⟩
theorem SetAt.lt {w : World} {b : Nat} {S : List Nat} (h : SetAt w b S) : b < w.heap.size := by
  obtain ⟨D, h1, _⟩ := h
  exact h1.lt
theorem PreAt.lt {w : World} {b n : Nat} {S : List Nat} (h : PreAt w b S n) : b < w.heap.size := by
  obtain ⟨D, h1, _⟩ := h
  exact h1.lt
theorem SetAt.below {w w' : World} {b : Nat} {S : List Nat} (h : SetAt w b S) (hb : Below w.heap.size w w') : SetAt w' b S := h.same (hb.block b h.lt)
theorem PreAt.below {w w' : World} {b n : Nat} {S : List Nat} (h : PreAt w b S n) (hb : Below w.heap.size w w') : PreAt w' b S n := h.same (hb.block b h.lt)
theorem SetAt.maps {w : World} {b : Nat} {S : List Nat} (h : SetAt w b S) : AreMaps [b] w := by
  obtain ⟨D, ⟨es, clock, h1, h2⟩, h4⟩ := h
  intro k hk
  rw [List.mem_singleton] at hk
  exact ⟨es, clock, by rw [hk]; exact h1⟩
theorem PreAt.maps {w : World} {b n : Nat} {S : List Nat} (h : PreAt w b S n) : AreMaps [b] w := by
  obtain ⟨D, ⟨es, clock, h1, h2⟩, h4⟩ := h
  intro k hk
  rw [List.mem_singleton] at hk
  exact ⟨es, clock, by rw [hk]; exact h1⟩
theorem set_made (w : World) : SetAt (w.alloc (.map #[] 0)) w.heap.size [] :=
  ⟨.map [], (World.ownsMap_made w Tryz.prog 3 _).mono (by simp), fun kl => by simp [Maps.has]⟩

theorem has_put {D : DataW Unit} (h : IsMap D) (k : Nat) (kl : Lit) : Maps.has (D.put (.int .i64 (k : Int)) (.agg [])) kl = true ↔ Maps.has D kl = true ∨ kl = .int .i64 (k : Int) := by
  by_cases e : kl = .int .i64 (k : Int)
  · subst e
    rw [has_put_same h (by trivial)]
    simp
  · rw [has_put_other e]
    simp [e]

theorem SetAt.look {w : World} {b : Nat} {S : List Nat} (h : SetAt w b S) (n : Int) (hn : -1000 ≤ n) (hn2 : n ≤ 1000) : (Instr.lookup 64 (.map (some b)) (.int .i64 n) true).run Tryz.prog w = .ok (.tuple #[.agg #[], .bool (decide (0 ≤ n ∧ n.toNat ∈ S))]) w := by
  obtain ⟨D, h1, h3⟩ := h
  obtain ⟨v, ps, hrun, hv⟩ := h1.look_ok (t := 64) keyU Tryz.underlying64 (Tryz.zeroValue82 w) (zd := .agg []) (zp := []) rfl (keyOf_int_mk Tryz.underlying3 (WalkArith.wf_i64 (n := n) (by omega)))
  have e := unitElem_inv hv
  rw [hrun, e.1]
  have eq : Maps.has D (.int .i64 n) = decide (0 ≤ n ∧ n.toNat ∈ S) := by
    rw [Bool.eq_iff_iff, h3]
    simp only [decide_eq_true_eq]
    constructor
    · rintro ⟨k, hk, e⟩
      injection e with _ e
      subst e
      exact ⟨by omega, by simpa using hk⟩
    · rintro ⟨h1, h2⟩
      exact ⟨n.toNat, h2, by rw [Int.toNat_of_nonneg h1]⟩
  rw [eq]

theorem set_put {w : World} {ops : Array Oper} {rest : List Oper} {o : Oper} {a : Act} {Q : Exit → Act → World → Prop}
    (hg : o.guard = none) (m x v : Operand) (hop : o.op = Op.mapUpdate 64 m x v) (b : Nat) (S : List Nat) (k : Nat) (hk : k ≤ 1000) (ha : S.length ≤ 100000)
    (hm : a.eval m = .map (some b)) (h : PreAt w b S k) (hx : a.eval x = .int .i64 (k : Int)) (hv : a.eval v = .agg #[])
    (hK : ∀ w', SetAt w' b (S ++ [k]) → w.grownBy w' (some b) → wpList Tryz.prog ops Q rest (a.put o.dst undef) w') : wpList Tryz.prog ops Q (o :: rest) a w := by
  obtain ⟨D, h1, h2, h3⟩ := h
  refine wpList_mapUpdate_own w hg m x v 64 hop 3 82 keyU Tryz.underlying64 (unitElem (H := Unit)) b (S.length + 1) D hm h1 (by unfold maxLen; omega) _ _ (.int .i64 (k : Int)) hx hv (keyOf_int_mk Tryz.underlying3 (WalkArith.wf_i64 (by omega))) (.agg []) [] unitElem_mk ?_
  intro w' g1 g2
  refine hK w' ⟨_, by simpa using g1, fun kl => ?_⟩ g2
  rw [has_put h1.isMap]
  constructor
  · rintro (h | h)
    · obtain ⟨j, hj, e⟩ := h2 kl h
      exact ⟨j, by simpa using hj, e⟩
    · exact ⟨k, by simp, h⟩
  · rintro ⟨j, hj, e⟩
    rw [List.mem_append, List.mem_singleton] at hj
    rcases hj with hj | rfl
    · exact Or.inl (by rw [e]; exact h3 j hj)
    · exact Or.inr e
end Go.Proofs.YtcinjbolflhjmadGreatDoor

/-
  PLAIN MATHEMATICS: documents that differ in what is plain, at one node: all but that node's words is the same.
-/
namespace Go.Proofs.YtcinjbolflhjmadGreatDoor
open Tn

def plainN : List ByteArray := [⟨#[97, 108, 116]⟩, ⟨#[97, 114, 105, 97, 45, 108, 97, 98, 101, 108]⟩, ⟨#[116, 105, 116, 108, 101]⟩, ⟨#[118, 97, 108, 117, 101]⟩, ⟨#[97, 114, 105, 97, 45, 108, 101, 118, 101, 108]⟩, ⟨#[97, 114, 105, 97, 45, 99, 104, 101, 99, 107, 101, 100]⟩, ⟨#[97, 114, 105, 97, 45, 100, 105, 115, 97, 98, 108, 101, 100]⟩, ⟨#[99, 104, 101, 99, 107, 101, 100]⟩]
def plainA (a : ByteArray) : Bool := plainN.any (fun p => eqS p a)

/-- the nodes of two documents stand alike, and but for what is plain at node k say the same -/
structure Alike (d y : Dc) (k : Nat) : Prop where
  len : y.length = d.length
  live : ∀ j, (nd y j).live = (nd d j).live
  tag : ∀ j, (nd y j).tag = (nd d j).tag
  up : ∀ j, (nd y j).up = (nd d j).up
  kids : ∀ j, (nd y j).kids = (nd d j).kids
  hasS : ∀ j, (nd y j).hasS = (nd d j).hasS
  shadow : ∀ j, (nd y j).shadow = (nd d j).shadow
  inS : ∀ j, (nd y j).inS = (nd d j).inS
  attr : ∀ j a, plainA a = false → attrOf (nd y j).attrs a = attrOf (nd d j).attrs a
  other : ∀ j, j ≠ k → nd y j = nd d j

namespace Alike
variable {d y : Dc} {k : Nat}

theorem isN (h : Alike d y k) (n : Int) (el : Bool) : Tn.isN y n el = Tn.isN d n el := by
  unfold Tn.isN
  rw [h.len, h.live, h.tag]
theorem path (h : Alike d y k) : ∀ (f : Nat) (n : Int), Tn.path f y n = Tn.path f d n
  | 0, _ => rfl
  | f + 1, n => by rw [Tn.path, Tn.path, h.isN, h.up, h.path f]
theorem scopeL (h : Alike d y k) : ∀ l : List Nat, YtcinjbolflhjmadGreatDoor.scopeL y l = YtcinjbolflhjmadGreatDoor.scopeL d l
  | [] => rfl
  | x :: l => by rw [YtcinjbolflhjmadGreatDoor.scopeL, YtcinjbolflhjmadGreatDoor.scopeL, h.inS, h.up, h.scopeL l]
theorem scopeD (h : Alike d y k) (n : Int) : YtcinjbolflhjmadGreatDoor.scopeD y n = YtcinjbolflhjmadGreatDoor.scopeD d n := by
  unfold YtcinjbolflhjmadGreatDoor.scopeD pathOf
  rw [h.len, h.path, h.scopeL]
theorem all (h : Alike d y k) : ∀ (f n : Nat), Tn.all f y n = Tn.all f d n
  | 0, _ => rfl
  | f + 1, n => by
    have e : Tn.all f y = Tn.all f d := funext (h.all f)
    rw [Tn.all, Tn.all, h.isN, h.shadow, h.kids, e]
theorem attrN (h : Alike d y k) (n : Int) {a : ByteArray} (ha : plainA a = false) : YtcinjbolflhjmadGreatDoor.attrN y n a = YtcinjbolflhjmadGreatDoor.attrN d n a := by
  unfold YtcinjbolflhjmadGreatDoor.attrN
  rw [h.isN, h.attr _ _ ha]
theorem valN (h : Alike d y k) (n : Int) {a : ByteArray} (ha : plainA a = false) : YtcinjbolflhjmadGreatDoor.valN y n a = YtcinjbolflhjmadGreatDoor.valN d n a := by
  unfold YtcinjbolflhjmadGreatDoor.valN
  rw [h.attrN n ha]
theorem slotB : plainA YtcinjbolflhjmadGreatDoor.slotB = false := by decide +kernel
theorem nameB : plainA YtcinjbolflhjmadGreatDoor.nameB = false := by decide +kernel
theorem isSlotD (h : Alike d y k) (n : Int) : YtcinjbolflhjmadGreatDoor.isSlotD y n = YtcinjbolflhjmadGreatDoor.isSlotD d n := by
  unfold YtcinjbolflhjmadGreatDoor.isSlotD
  rw [h.isN, h.tag]
theorem slottedD (h : Alike d y k) (n : Int) : YtcinjbolflhjmadGreatDoor.slottedD y n = YtcinjbolflhjmadGreatDoor.slottedD d n := by
  unfold YtcinjbolflhjmadGreatDoor.slottedD
  rw [h.isN, h.inS, h.up, h.isN, h.hasS]
theorem fitsD (h : Alike d y k) (want : ByteArray) (host : Int) : YtcinjbolflhjmadGreatDoor.fitsD y want host = YtcinjbolflhjmadGreatDoor.fitsD d want host := by
  funext x
  unfold YtcinjbolflhjmadGreatDoor.fitsD
  rw [h.isSlotD, h.valN _ nameB, h.scopeD]
theorem slotD (h : Alike d y k) (n : Int) : YtcinjbolflhjmadGreatDoor.slotD y n = YtcinjbolflhjmadGreatDoor.slotD d n := by
  unfold YtcinjbolflhjmadGreatDoor.slotD
  rw [h.slottedD, h.up, h.all, h.valN _ slotB, h.fitsD]
theorem givenD (h : Alike d y k) (n : Int) : YtcinjbolflhjmadGreatDoor.givenD y n = YtcinjbolflhjmadGreatDoor.givenD d n := by
  unfold YtcinjbolflhjmadGreatDoor.givenD
  have e : (fun (x : Nat) => YtcinjbolflhjmadGreatDoor.slotD y (x : Int) == n) = (fun (x : Nat) => YtcinjbolflhjmadGreatDoor.slotD d (x : Int) == n) := funext fun x => by rw [h.slotD]
  rw [h.isSlotD, h.scopeD, h.kids, e]
theorem kidsD (h : Alike d y k) (n : Int) : YtcinjbolflhjmadGreatDoor.kidsD y n = YtcinjbolflhjmadGreatDoor.kidsD d n := by
  unfold YtcinjbolflhjmadGreatDoor.kidsD
  rw [h.isN, h.hasS, h.shadow, h.givenD, h.kids]
theorem upF (h : Alike d y k) (n : Int) : YtcinjbolflhjmadGreatDoor.upF y n = YtcinjbolflhjmadGreatDoor.upF d n := by
  unfold YtcinjbolflhjmadGreatDoor.upF
  rw [h.isN, h.up, h.kidsD, h.slotD, h.kidsD]
theorem shownF (h : Alike d y k) : ∀ (f n : Nat), YtcinjbolflhjmadGreatDoor.shownF f y n = YtcinjbolflhjmadGreatDoor.shownF f d n
  | 0, _ => rfl
  | f + 1, n => by
    have e : YtcinjbolflhjmadGreatDoor.shownF f y = YtcinjbolflhjmadGreatDoor.shownF f d := funext (h.shownF f)
    rw [YtcinjbolflhjmadGreatDoor.shownF, YtcinjbolflhjmadGreatDoor.shownF, h.kidsD, e]
theorem shD (h : Alike d y k) : YtcinjbolflhjmadGreatDoor.shD y = YtcinjbolflhjmadGreatDoor.shD d := h.shownF _ _
theorem lineF (h : Alike d y k) : ∀ (f : Nat) (n : Int), YtcinjbolflhjmadGreatDoor.lineF f y n = YtcinjbolflhjmadGreatDoor.lineF f d n
  | 0, _ => rfl
  | f + 1, n => by rw [YtcinjbolflhjmadGreatDoor.lineF, YtcinjbolflhjmadGreatDoor.lineF, h.isN, h.upF, h.lineF f]
theorem lineD (h : Alike d y k) (n : Int) : YtcinjbolflhjmadGreatDoor.lineD y n = YtcinjbolflhjmadGreatDoor.lineD d n := h.lineF _ _
theorem concD (h : Alike d y k) (n : Int) : YtcinjbolflhjmadGreatDoor.concD y n = YtcinjbolflhjmadGreatDoor.concD d n := by
  unfold YtcinjbolflhjmadGreatDoor.concD hasN saidN
  rw [h.attrN n (a := ⟨#[104, 105, 100, 100, 101, 110]⟩) (by decide +kernel), h.valN n (a := ⟨#[97, 114, 105, 97, 45, 104, 105, 100, 100, 101, 110]⟩) (by decide +kernel)]
theorem hidD (h : Alike d y k) (n : Int) : YtcinjbolflhjmadGreatDoor.hidD y n = YtcinjbolflhjmadGreatDoor.hidD d n := by
  unfold YtcinjbolflhjmadGreatDoor.hidD hidL
  have e : (fun (x : Nat) => YtcinjbolflhjmadGreatDoor.concD y (x : Int)) = (fun (x : Nat) => YtcinjbolflhjmadGreatDoor.concD d (x : Int)) := funext fun x => h.concD _
  rw [h.lineD, e]
theorem idOf (h : Alike d y k) (j : Nat) : YtcinjbolflhjmadGreatDoor.idOf y j = YtcinjbolflhjmadGreatDoor.idOf d j := by
  unfold YtcinjbolflhjmadGreatDoor.idOf
  rw [h.isN, h.attr _ _ (by decide +kernel)]
theorem hitD (h : Alike d y k) (id : ByteArray) (sc : Int) : YtcinjbolflhjmadGreatDoor.hitD y id sc = YtcinjbolflhjmadGreatDoor.hitD d id sc := by
  funext x
  unfold YtcinjbolflhjmadGreatDoor.hitD
  rw [h.idOf, h.scopeD]
theorem findD (h : Alike d y k) (n : Int) (id : ByteArray) : YtcinjbolflhjmadGreatDoor.findD y n id = YtcinjbolflhjmadGreatDoor.findD d n id := by
  unfold YtcinjbolflhjmadGreatDoor.findD
  rw [h.isN, h.all, h.scopeD, h.hitD]
theorem inD (h : Alike d y k) (l : List Cl) (n : Int) : YtcinjbolflhjmadGreatDoor.inD y l n = YtcinjbolflhjmadGreatDoor.inD d l n := by
  unfold YtcinjbolflhjmadGreatDoor.inD
  rw [h.upF]
theorem wayF (h : Alike d y k) (l : List Cl) : ∀ (f : Nat) (n : Int), YtcinjbolflhjmadGreatDoor.wayF f y l n = YtcinjbolflhjmadGreatDoor.wayF f d l n
  | 0, _ => rfl
  | f + 1, n => by rw [YtcinjbolflhjmadGreatDoor.wayF, YtcinjbolflhjmadGreatDoor.wayF, h.inD, h.wayF l f]
theorem claim1 (h : Alike d y k) (n : Nat) : YtcinjbolflhjmadGreatDoor.claim1 y n = YtcinjbolflhjmadGreatDoor.claim1 d n := by
  funext l x
  unfold YtcinjbolflhjmadGreatDoor.claim1 takes wayD
  rw [h.shD, h.wayF]
theorem asksD (h : Alike d y k) (n : Nat) : YtcinjbolflhjmadGreatDoor.asksD y n = YtcinjbolflhjmadGreatDoor.asksD d n := by
  unfold YtcinjbolflhjmadGreatDoor.asksD
  have e : (fun t => YtcinjbolflhjmadGreatDoor.findD y (n : Int) (Tx.bs t)) = (fun t => YtcinjbolflhjmadGreatDoor.findD d (n : Int) (Tx.bs t)) := funext fun t => h.findD _ _
  rw [h.valN _ (by decide +kernel), e]
theorem claimN (h : Alike d y k) : YtcinjbolflhjmadGreatDoor.claimN y = YtcinjbolflhjmadGreatDoor.claimN d := by
  funext l n
  unfold YtcinjbolflhjmadGreatDoor.claimN
  rw [h.asksD, h.claim1]
theorem claimsD (h : Alike d y k) : YtcinjbolflhjmadGreatDoor.claimsD y = YtcinjbolflhjmadGreatDoor.claimsD d := by
  unfold YtcinjbolflhjmadGreatDoor.claimsD
  rw [h.shD, h.claimN]
theorem insideD (h : Alike d y k) (l : List Cl) (n : Int) : YtcinjbolflhjmadGreatDoor.insideD y l n = YtcinjbolflhjmadGreatDoor.insideD d l n := by
  unfold YtcinjbolflhjmadGreatDoor.insideD
  rw [h.kidsD]

/-! ### of other nodes all is the same -/
theorem attrN' (h : Alike d y k) {j : Nat} (hj : j ≠ k) (a : ByteArray) : YtcinjbolflhjmadGreatDoor.attrN y (j : Int) a = YtcinjbolflhjmadGreatDoor.attrN d (j : Int) a := by
  unfold YtcinjbolflhjmadGreatDoor.attrN
  rw [h.isN, Int.toNat_natCast, h.other j hj]
theorem valN' (h : Alike d y k) {j : Nat} (hj : j ≠ k) (a : ByteArray) : YtcinjbolflhjmadGreatDoor.valN y (j : Int) a = YtcinjbolflhjmadGreatDoor.valN d (j : Int) a := by
  unfold YtcinjbolflhjmadGreatDoor.valN
  rw [h.attrN' hj]
theorem saidN' (h : Alike d y k) {j : Nat} (hj : j ≠ k) (a : ByteArray) : YtcinjbolflhjmadGreatDoor.saidN y (j : Int) a = YtcinjbolflhjmadGreatDoor.saidN d (j : Int) a := by
  unfold YtcinjbolflhjmadGreatDoor.saidN
  rw [h.valN' hj]
theorem hasN' (h : Alike d y k) {j : Nat} (hj : j ≠ k) (a : ByteArray) : YtcinjbolflhjmadGreatDoor.hasN y (j : Int) a = YtcinjbolflhjmadGreatDoor.hasN d (j : Int) a := by
  unfold YtcinjbolflhjmadGreatDoor.hasN
  rw [h.attrN' hj]
theorem labD' (h : Alike d y k) {j : Nat} (hj : j ≠ k) : YtcinjbolflhjmadGreatDoor.labD y (j : Int) = YtcinjbolflhjmadGreatDoor.labD d (j : Int) := by
  unfold YtcinjbolflhjmadGreatDoor.labD
  rw [h.saidN' hj, h.saidN' hj]
theorem aloneD' (h : Alike d y k) {j : Nat} (hj : j ≠ k) : YtcinjbolflhjmadGreatDoor.aloneD y (j : Int) = YtcinjbolflhjmadGreatDoor.aloneD d (j : Int) := by
  have e1 : YtcinjbolflhjmadGreatDoor.wantD y (j : Int) = YtcinjbolflhjmadGreatDoor.wantD d (j : Int) := by
    unfold YtcinjbolflhjmadGreatDoor.wantD
    rw [h.labD' hj, h.valN' hj]
  have e2 : YtcinjbolflhjmadGreatDoor.natD y (j : Int) = YtcinjbolflhjmadGreatDoor.natD d (j : Int) := by
    unfold YtcinjbolflhjmadGreatDoor.natD
    rw [h.labD' hj, h.hasN' hj, h.saidN' hj, h.hasN' hj, h.saidN' hj, h.saidN' hj, h.tag]
  unfold YtcinjbolflhjmadGreatDoor.aloneD
  rw [h.isN, e1, e2]
theorem roleL' (h : Alike d y k) : ∀ l : List Nat, k ∉ l → YtcinjbolflhjmadGreatDoor.roleL y l = YtcinjbolflhjmadGreatDoor.roleL d l
  | [], _ => rfl
  | x :: l, hk => by
    have hx : x ≠ k := fun e => hk (by simp [e])
    rw [YtcinjbolflhjmadGreatDoor.roleL, YtcinjbolflhjmadGreatDoor.roleL, h.roleL' l (fun e => hk (by simp [e])), h.aloneD' hx]
/-- the role of what is not that node, nor shown in it -/
theorem roleD' (h : Alike d y k) {n : Int} (hk : k ∉ YtcinjbolflhjmadGreatDoor.lineD d n) : YtcinjbolflhjmadGreatDoor.roleD y n = YtcinjbolflhjmadGreatDoor.roleD d n := by
  unfold YtcinjbolflhjmadGreatDoor.roleD
  rw [h.lineD, h.roleL' _ hk]
end Alike

/-! ### plain changes -/

theorem eqS_trans {a b c : ByteArray} (h1 : eqS a b = true) : eqS a c = eqS b c := by
  unfold eqS at *
  rw [beq_iff_eq.mp h1]
theorem eqS_symm (a b : ByteArray) : eqS a b = eqS b a := by
  unfold eqS
  rw [Bool.eq_iff_iff]
  simp only [beq_iff_eq]
  exact ⟨Eq.symm, Eq.symm⟩

/-- an attribute that is set tells nothing else of the others -/
theorem fold_not {name value a : ByteArray} (ha : eqS name a = false) : ∀ (l out : List At) (dn : Bool), (l.foldl (aStep name value) (out, dn)).1.find? (fun x => eqS x.1 a) = (out ++ l).find? (fun x => eqS x.1 a)
  | [], out, _ => by rw [List.append_nil]; rfl
  | x :: l, out, dn => by
    have key : ∀ (o2 : List At) (dn2 : Bool), o2.find? (fun z => eqS z.1 a) = (out ++ [x]).find? (fun z => eqS z.1 a) → (l.foldl (aStep name value) (o2, dn2)).1.find? (fun z => eqS z.1 a) = (out ++ x :: l).find? (fun z => eqS z.1 a) := by
      intro o2 dn2 ho
      rw [fold_not ha l o2 dn2, List.find?_append, ho, ← List.find?_append, List.append_assoc]
      rfl
    rw [List.foldl_cons]
    show (l.foldl (aStep name value) (aStep name value (out, dn) x)).1.find? _ = _
    unfold aStep
    split
    · rename_i hx
      refine key _ _ ?_
      have h1 : eqS x.1 a = false := by rw [eqS_trans hx]; exact ha
      rw [List.find?_append, List.find?_append]
      simp [h1]
    · split
      · refine key _ _ ?_
        rw [List.append_assoc, List.find?_append, List.find?_append]
        simp [ha]
      · exact key _ _ rfl
theorem attrs_not_it {name value a : ByteArray} (ha : eqS name a = false) (l : List At) : attrOf (attrsD l name value) a = attrOf l a := by
  have h := fold_not (value := value) ha l [] false
  unfold attrOf attrsD aFold
  split
  · rw [h]; rfl
  · rw [List.find?_append, h]
    simp [ha]
theorem attrs_off_it {name a : ByteArray} (ha : eqS name a = false) : ∀ l : List At, attrOf (attrsOff l name) a = attrOf l a
  | [] => rfl
  | x :: l => by
    have ih := attrs_off_it ha l
    unfold attrOf attrsOff at *
    rw [List.filter_cons]
    split
    · rw [List.find?_cons, List.find?_cons]
      split
      · rfl
      · exact ih
    · rename_i hx
      have hx : eqS x.1 name = true := by simpa using hx
      have h1 : eqS x.1 a = false := by rw [eqS_trans hx]; exact ha
      rw [List.find?_cons, h1]
      exact ih
theorem plain_ne {name a : ByteArray} (hn : plainA name = true) (ha : plainA a = false) : eqS name a = false := by
  cases h : eqS name a with
  | false => rfl
  | true =>
    unfold plainA at *
    rw [List.any_eq_true] at hn
    obtain ⟨p, hp, e⟩ := hn
    have : eqS p a = true := by rw [eqS_trans e]; exact h
    rw [List.any_eq_false] at ha
    exact absurd this (ha p hp)
end Go.Proofs.YtcinjbolflhjmadGreatDoor

/-
  PLAIN MATHEMATICS: behind a plain change the documents stand alike.
-/
namespace Go.Proofs.YtcinjbolflhjmadGreatDoor
open Tn

def plainC (x : Chg) : Bool := x.kind == 7 || ((x.kind == 5 || x.kind == 6) && plainA x.name)

theorem alike_with {d : Dc} {k : Nat} {n : Nd} (hk : k < d.length) (h1 : n.live = (nd d k).live) (h2 : n.tag = (nd d k).tag) (h3 : n.up = (nd d k).up) (h4 : n.kids = (nd d k).kids) (h5 : n.hasS = (nd d k).hasS) (h6 : n.shadow = (nd d k).shadow) (h7 : n.inS = (nd d k).inS)
    (ha : ∀ a, plainA a = false → attrOf n.attrs a = attrOf (nd d k).attrs a) {y : Dc} (hl : y.length = d.length) (hy : ∀ j, nd y j = nd (withd d k n) j) : Alike d y k := by
  have e : ∀ j, nd y j = if j = k then n else nd d j := fun j => by rw [hy, nd_withd d k n (by omega)]
  refine ⟨hl, fun j => ?_, fun j => ?_, fun j => ?_, fun j => ?_, fun j => ?_, fun j => ?_, fun j => ?_, fun j a hp => ?_, fun j hj => ?_⟩
  all_goals rw [e j]
  all_goals by_cases q : j = k
  all_goals first
    | (rw [if_pos q, q]; first | exact h1 | exact h2 | exact h3 | exact h4 | exact h5 | exact h6 | exact h7 | exact ha _ hp | exact absurd q hj)
    | rw [if_neg q]

theorem good_len {d y : Dc} (hd : Tn.Good d) (hy : Tn.Good y) (h : ∀ j, lvD y j = lvD d j) : y.length = d.length := by
  have h1 := hd.last
  have h2 := hy.last
  rw [← h] at h1
  rw [h] at h2
  have a := lv_lt h1
  have b := lv_lt h2
  have := hd.len.1
  have := hy.len.1
  omega

theorem plain_alike {d : Dc} (h : Tn.Good d) {x : Chg} (hp : plainC x = true) (he : applyE d x = 0) : ∃ k : Nat, x.node = (k : Int) ∧ lvD d k = true ∧ Alike d (applyD d x) k := by
  have hg : Tn.Good (applyD d x) := by
    have := good_step h x
    unfold Tn.step at this
    rwa [if_pos he] at this
  unfold applyE at he
  split at he
  · omega
  · rename_i hk
    cases hi : isN d x.node false with
    | false => simp [hi] at he
    | true =>
      obtain ⟨k, hn, hkl, hlv⟩ := isN_nat hi
      rw [hi, if_neg (by simp)] at he
      have hm := chg_mid h x hi he
      refine ⟨k, hn, hlv, ?_⟩
      have nodes : ∀ n : Nd, chgD d x = withd d k n → ∀ j, nd (applyD d x) j = nd (withd d k n) j := fun n e j => by unfold applyD; rw [nd_trim hm, e]
      have live : ∀ n : Nd, chgD d x = withd d k n → n.live = (nd d k).live → (applyD d x).length = d.length := fun n e hl => by
        refine good_len h hg (fun j => ?_)
        unfold lvD
        rw [nodes n e, nd_withd d k n (by omega)]
        split
        · rename_i q; rw [q]; exact hl
        · rfl
      unfold plainC at hp
      simp only [Bool.or_eq_true, Bool.and_eq_true, beq_iff_eq] at hp
      rcases hp with h7 | ⟨h5 | h6, ha⟩
      · have e : chgD d x = withd d k { nd d k with text := x.value } := by
          unfold chgD
          rw [if_neg (by omega), if_neg (by omega), if_pos h7]
          unfold sayD
          rw [hn, Int.toNat_natCast]
        exact alike_with (n := { nd d k with text := x.value }) hkl rfl rfl rfl rfl rfl rfl rfl (fun _ _ => rfl) (live _ e rfl) (nodes _ e)
      · have e : chgD d x = withd d k { nd d k with attrs := attrsD (nd d k).attrs x.name x.value } := by
          unfold chgD
          rw [if_neg (by omega), if_neg (by omega), if_neg (by omega), if_pos h5]
          unfold attrD
          rw [hn, Int.toNat_natCast]
        exact alike_with (n := { nd d k with attrs := attrsD (nd d k).attrs x.name x.value }) hkl rfl rfl rfl rfl rfl rfl rfl (fun a hp => attrs_not_it (plain_ne ha hp) _) (live _ e rfl) (nodes _ e)
      · have e : chgD d x = withd d k { nd d k with attrs := attrsOff (nd d k).attrs x.name } := by
          unfold chgD
          rw [if_neg (by omega), if_neg (by omega), if_neg (by omega), if_neg (by omega), if_pos h6]
          unfold clearD
          rw [hn, Int.toNat_natCast]
        exact alike_with (n := { nd d k with attrs := attrsOff (nd d k).attrs x.name }) hkl rfl rfl rfl rfl rfl rfl rfl (fun a hp => attrs_off_it (plain_ne ha hp) _) (live _ e rfl) (nodes _ e)
end Go.Proofs.YtcinjbolflhjmadGreatDoor

/-
  PLAIN MATHEMATICS: texts, joined.
-/
namespace Go.Proofs.YtcinjbolflhjmadGreatDoor

def txs (l : List ByteArray) : List (List UInt8) := l.map (·.data.toList)
def joinB (l : List ByteArray) : ByteArray := Tx.bs (Tx.joined (txs l))
end Go.Proofs.YtcinjbolflhjmadGreatDoor
