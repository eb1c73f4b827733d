/-
  OWN WORK: Dfr, Da0, Dad, Dca, Dcr, Ina, Dsa, Dcs, Dap, Dbr.
-/
import Derived.Test.YtookcjdibpccpabP7
import Derived.Test.YtookcjdibpccpabP8
import Derived.Test.YtookcjdibpccpabP4
import Derived.Deep.RegionHeld3
import Derived.Test.YtookcjdibpccpabP0
import Derived.Test.YtookcjdibpccpabP1
import Derived.Test.YtookcjdibpccpabP5
/-
  THE WALK of dom.fresh.
-/
namespace Go.Proofs.Ytookcjdibpccpab
open Go.RowKit

def freshV (x : Tn.Chg) : Value :=
  if x.kind = 1 ∨ x.kind = 9 then
    if Tn.nameL x.name.data.toList = true then .tuple #[.agg #[.bool true, .string x.name, .string ⟨#[]⟩, .slice none 0 0, .int .i64 0, .slice none 0 0, .bool false, .slice none 0 0, .bool false], .int .i64 0]
    else .tuple #[zeroN, .int .i64 7]
  else if 60 < x.value.size then .tuple #[zeroN, .int .i64 4]
  else .tuple #[.agg #[.bool true, .string ⟨#[]⟩, .string x.value, .slice none 0 0, .int .i64 0, .slice none 0 0, .bool false, .slice none 0 0, .bool false], .int .i64 0]

theorem below9 {B g : Nat} {w0 w : World} (h : Below B w0 w) (hg : B ≤ g) (x0 x1 x2 x3 x4 x5 x6 x7 x8 : Value) :
    Below B w0 (((((((((w.setCell ⟨g, 0, none⟩ x0).setCell ⟨g, 1, none⟩ x1).setCell ⟨g, 2, none⟩ x2).setCell ⟨g, 3, none⟩ x3).setCell ⟨g, 4, none⟩ x4).setCell ⟨g, 5, none⟩ x5).setCell ⟨g, 6, none⟩ x6).setCell ⟨g, 7, none⟩ x7).setCell ⟨g, 8, none⟩ x8) :=
  ((((((((h.setCell hg _).setCell hg _).setCell hg _).setCell hg _).setCell hg _).setCell hg _).setCell hg _).setCell hg _).setCell hg _

set_option maxHeartbeats 1600000 in
theorem dfresh_any {w : World} (x : Tn.Chg) (hn : x.name.size ≤ 4194304) (hv : x.value.size ≤ 4194304) :
    Calls Try.prog 82 #[.agg #[.int .i64 x.kind, .int .i64 x.node, .int .i64 x.to, .int .i64 x.before, .string x.name, .string x.value]] w fun e w' => e = .returned (freshV x) ∧ Below w.heap.size w w' := by
  obtain ⟨kd, nk, tt, bf, nm, vl⟩ := x
  simp only at hn hv
  have hB : Below w.heap.size w ((w.alloc (.cells #[.int .i64 kd, .int .i64 nk, .int .i64 tt, .int .i64 bf, .string nm, .string vl] 28)).alloc (.cells #[.bool false, .string ⟨#[]⟩, .string ⟨#[]⟩, .slice none 0 0, .int .i64 0, .slice none 0 0, .bool false, .slice none 0 0, .bool false] 50)) := ((Below.refl _ _).alloc (Nat.le_refl _) _).alloc (by simp) _
  by_cases hk : kd = 1 ∨ kd = 9
  · have hN := name_any nm ((w.alloc (.cells #[.int .i64 kd, .int .i64 nk, .int .i64 tt, .int .i64 bf, .string nm, .string vl] 28)).alloc (.cells #[.bool false, .string ⟨#[]⟩, .string ⟨#[]⟩, .slice none 0 0, .int .i64 0, .slice none 0 0, .bool false, .slice none 0 0, .bool false] 50)) hn
    cases hb : Tn.nameL nm.data.toList with
    | true =>
      rw [hb] at hN
      have E : Hid (freshV ⟨kd, nk, tt, bf, nm, vl⟩ = .tuple #[.agg #[.bool true, .string nm, .string ⟨#[]⟩, .slice none 0 0, .int .i64 0, .slice none 0 0, .bool false, .slice none 0 0, .bool false], .int .i64 0]) := by
        show _ = _; unfold freshV; rw [if_pos hk, if_pos hb]
      clear hb
      rcases hk with rfl | rfl
      · go_enter Try.func82, Try.ntmps82
        go_wp2_with (go_at_call 79; refine hN.mono ?_; rintro e w9 ⟨rfl, hb9⟩; have J := keeps_below hb9 (Nat.le_refl _); have x4 := J ⟨w.heap.size, 4, none⟩ _ (by rw [World.cell?_alloc2_first]; try rfl); have x5 := J ⟨w.heap.size, 5, none⟩ _ (by rw [World.cell?_alloc2_first]; try rfl); have r0 := J ⟨w.heap.size + 1, 0, none⟩ _ (by rw [World.cell?_alloc2_new]; try rfl); have f0 : w9.frozen? ⟨w.heap.size + 1, 0, none⟩ = false := (hb9.frozen (p := ⟨w.heap.size + 1, 0, none⟩) (by simp)).trans (World.frozen?_alloc2_new _ _ _ _); have r1 := J ⟨w.heap.size + 1, 1, none⟩ _ (by rw [World.cell?_alloc2_new]; try rfl); have f1 : w9.frozen? ⟨w.heap.size + 1, 1, none⟩ = false := (hb9.frozen (p := ⟨w.heap.size + 1, 1, none⟩) (by simp)).trans (World.frozen?_alloc2_new _ _ _ _); have r2 := J ⟨w.heap.size + 1, 2, none⟩ _ (by rw [World.cell?_alloc2_new]; try rfl); have f2 : w9.frozen? ⟨w.heap.size + 1, 2, none⟩ = false := (hb9.frozen (p := ⟨w.heap.size + 1, 2, none⟩) (by simp)).trans (World.frozen?_alloc2_new _ _ _ _); have r3 := J ⟨w.heap.size + 1, 3, none⟩ _ (by rw [World.cell?_alloc2_new]; try rfl); have f3 : w9.frozen? ⟨w.heap.size + 1, 3, none⟩ = false := (hb9.frozen (p := ⟨w.heap.size + 1, 3, none⟩) (by simp)).trans (World.frozen?_alloc2_new _ _ _ _); have r4 := J ⟨w.heap.size + 1, 4, none⟩ _ (by rw [World.cell?_alloc2_new]; try rfl); have f4 : w9.frozen? ⟨w.heap.size + 1, 4, none⟩ = false := (hb9.frozen (p := ⟨w.heap.size + 1, 4, none⟩) (by simp)).trans (World.frozen?_alloc2_new _ _ _ _); have r5 := J ⟨w.heap.size + 1, 5, none⟩ _ (by rw [World.cell?_alloc2_new]; try rfl); have f5 : w9.frozen? ⟨w.heap.size + 1, 5, none⟩ = false := (hb9.frozen (p := ⟨w.heap.size + 1, 5, none⟩) (by simp)).trans (World.frozen?_alloc2_new _ _ _ _); have r6 := J ⟨w.heap.size + 1, 6, none⟩ _ (by rw [World.cell?_alloc2_new]; try rfl); have f6 : w9.frozen? ⟨w.heap.size + 1, 6, none⟩ = false := (hb9.frozen (p := ⟨w.heap.size + 1, 6, none⟩) (by simp)).trans (World.frozen?_alloc2_new _ _ _ _); have r7 := J ⟨w.heap.size + 1, 7, none⟩ _ (by rw [World.cell?_alloc2_new]; try rfl); have f7 : w9.frozen? ⟨w.heap.size + 1, 7, none⟩ = false := (hb9.frozen (p := ⟨w.heap.size + 1, 7, none⟩) (by simp)).trans (World.frozen?_alloc2_new _ _ _ _); have r8 := J ⟨w.heap.size + 1, 8, none⟩ _ (by rw [World.cell?_alloc2_new]; try rfl); have f8 : w9.frozen? ⟨w.heap.size + 1, 8, none⟩ = false := (hb9.frozen (p := ⟨w.heap.size + 1, 8, none⟩) (by simp)).trans (World.frozen?_alloc2_new _ _ _ _))
        refine bodyPost_ret (v := .tuple #[.agg #[.bool true, .string nm, .string ⟨#[]⟩, .slice none 0 0, .int .i64 0, .slice none 0 0, .bool false, .slice none 0 0, .bool false], .int .i64 0]) (by simp [results, Try.results82, go_sem, r0, r1, r2, r3, r4, r5, r6, r7, r8]) rfl ⟨by rw [E.out], ?_⟩
        exact below9 (hB.trans (hb9.mono (by simp; omega))) (by omega) _ _ _ _ _ _ _ _ _
      · go_enter Try.func82, Try.ntmps82
        go_wp2_with (go_at_call 79; refine hN.mono ?_; rintro e w9 ⟨rfl, hb9⟩; have J := keeps_below hb9 (Nat.le_refl _); have x4 := J ⟨w.heap.size, 4, none⟩ _ (by rw [World.cell?_alloc2_first]; try rfl); have x5 := J ⟨w.heap.size, 5, none⟩ _ (by rw [World.cell?_alloc2_first]; try rfl); have r0 := J ⟨w.heap.size + 1, 0, none⟩ _ (by rw [World.cell?_alloc2_new]; try rfl); have f0 : w9.frozen? ⟨w.heap.size + 1, 0, none⟩ = false := (hb9.frozen (p := ⟨w.heap.size + 1, 0, none⟩) (by simp)).trans (World.frozen?_alloc2_new _ _ _ _); have r1 := J ⟨w.heap.size + 1, 1, none⟩ _ (by rw [World.cell?_alloc2_new]; try rfl); have f1 : w9.frozen? ⟨w.heap.size + 1, 1, none⟩ = false := (hb9.frozen (p := ⟨w.heap.size + 1, 1, none⟩) (by simp)).trans (World.frozen?_alloc2_new _ _ _ _); have r2 := J ⟨w.heap.size + 1, 2, none⟩ _ (by rw [World.cell?_alloc2_new]; try rfl); have f2 : w9.frozen? ⟨w.heap.size + 1, 2, none⟩ = false := (hb9.frozen (p := ⟨w.heap.size + 1, 2, none⟩) (by simp)).trans (World.frozen?_alloc2_new _ _ _ _); have r3 := J ⟨w.heap.size + 1, 3, none⟩ _ (by rw [World.cell?_alloc2_new]; try rfl); have f3 : w9.frozen? ⟨w.heap.size + 1, 3, none⟩ = false := (hb9.frozen (p := ⟨w.heap.size + 1, 3, none⟩) (by simp)).trans (World.frozen?_alloc2_new _ _ _ _); have r4 := J ⟨w.heap.size + 1, 4, none⟩ _ (by rw [World.cell?_alloc2_new]; try rfl); have f4 : w9.frozen? ⟨w.heap.size + 1, 4, none⟩ = false := (hb9.frozen (p := ⟨w.heap.size + 1, 4, none⟩) (by simp)).trans (World.frozen?_alloc2_new _ _ _ _); have r5 := J ⟨w.heap.size + 1, 5, none⟩ _ (by rw [World.cell?_alloc2_new]; try rfl); have f5 : w9.frozen? ⟨w.heap.size + 1, 5, none⟩ = false := (hb9.frozen (p := ⟨w.heap.size + 1, 5, none⟩) (by simp)).trans (World.frozen?_alloc2_new _ _ _ _); have r6 := J ⟨w.heap.size + 1, 6, none⟩ _ (by rw [World.cell?_alloc2_new]; try rfl); have f6 : w9.frozen? ⟨w.heap.size + 1, 6, none⟩ = false := (hb9.frozen (p := ⟨w.heap.size + 1, 6, none⟩) (by simp)).trans (World.frozen?_alloc2_new _ _ _ _); have r7 := J ⟨w.heap.size + 1, 7, none⟩ _ (by rw [World.cell?_alloc2_new]; try rfl); have f7 : w9.frozen? ⟨w.heap.size + 1, 7, none⟩ = false := (hb9.frozen (p := ⟨w.heap.size + 1, 7, none⟩) (by simp)).trans (World.frozen?_alloc2_new _ _ _ _); have r8 := J ⟨w.heap.size + 1, 8, none⟩ _ (by rw [World.cell?_alloc2_new]; try rfl); have f8 : w9.frozen? ⟨w.heap.size + 1, 8, none⟩ = false := (hb9.frozen (p := ⟨w.heap.size + 1, 8, none⟩) (by simp)).trans (World.frozen?_alloc2_new _ _ _ _))
        refine bodyPost_ret (v := .tuple #[.agg #[.bool true, .string nm, .string ⟨#[]⟩, .slice none 0 0, .int .i64 0, .slice none 0 0, .bool false, .slice none 0 0, .bool false], .int .i64 0]) (by simp [results, Try.results82, go_sem, r0, r1, r2, r3, r4, r5, r6, r7, r8]) rfl ⟨by rw [E.out], ?_⟩
        exact below9 (hB.trans (hb9.mono (by simp; omega))) (by omega) _ _ _ _ _ _ _ _ _
    | false =>
      rw [hb] at hN
      have E : Hid (freshV ⟨kd, nk, tt, bf, nm, vl⟩ = .tuple #[.agg #[.bool false, .string ⟨#[]⟩, .string ⟨#[]⟩, .slice none 0 0, .int .i64 0, .slice none 0 0, .bool false, .slice none 0 0, .bool false], .int .i64 7]) := by
        show _ = _; unfold freshV; rw [if_pos hk, if_neg (by rw [hb]; simp)]; rfl
      clear hb
      rcases hk with rfl | rfl
      · go_enter Try.func82, Try.ntmps82
        go_wp2_with (go_at_call 79; refine hN.mono ?_; rintro e w9 ⟨rfl, hb9⟩; have J := keeps_below hb9 (Nat.le_refl _); have x4 := J ⟨w.heap.size, 4, none⟩ _ (by rw [World.cell?_alloc2_first]; try rfl); have x5 := J ⟨w.heap.size, 5, none⟩ _ (by rw [World.cell?_alloc2_first]; try rfl); have r0 := J ⟨w.heap.size + 1, 0, none⟩ _ (by rw [World.cell?_alloc2_new]; try rfl); have f0 : w9.frozen? ⟨w.heap.size + 1, 0, none⟩ = false := (hb9.frozen (p := ⟨w.heap.size + 1, 0, none⟩) (by simp)).trans (World.frozen?_alloc2_new _ _ _ _); have r1 := J ⟨w.heap.size + 1, 1, none⟩ _ (by rw [World.cell?_alloc2_new]; try rfl); have f1 : w9.frozen? ⟨w.heap.size + 1, 1, none⟩ = false := (hb9.frozen (p := ⟨w.heap.size + 1, 1, none⟩) (by simp)).trans (World.frozen?_alloc2_new _ _ _ _); have r2 := J ⟨w.heap.size + 1, 2, none⟩ _ (by rw [World.cell?_alloc2_new]; try rfl); have f2 : w9.frozen? ⟨w.heap.size + 1, 2, none⟩ = false := (hb9.frozen (p := ⟨w.heap.size + 1, 2, none⟩) (by simp)).trans (World.frozen?_alloc2_new _ _ _ _); have r3 := J ⟨w.heap.size + 1, 3, none⟩ _ (by rw [World.cell?_alloc2_new]; try rfl); have f3 : w9.frozen? ⟨w.heap.size + 1, 3, none⟩ = false := (hb9.frozen (p := ⟨w.heap.size + 1, 3, none⟩) (by simp)).trans (World.frozen?_alloc2_new _ _ _ _); have r4 := J ⟨w.heap.size + 1, 4, none⟩ _ (by rw [World.cell?_alloc2_new]; try rfl); have f4 : w9.frozen? ⟨w.heap.size + 1, 4, none⟩ = false := (hb9.frozen (p := ⟨w.heap.size + 1, 4, none⟩) (by simp)).trans (World.frozen?_alloc2_new _ _ _ _); have r5 := J ⟨w.heap.size + 1, 5, none⟩ _ (by rw [World.cell?_alloc2_new]; try rfl); have f5 : w9.frozen? ⟨w.heap.size + 1, 5, none⟩ = false := (hb9.frozen (p := ⟨w.heap.size + 1, 5, none⟩) (by simp)).trans (World.frozen?_alloc2_new _ _ _ _); have r6 := J ⟨w.heap.size + 1, 6, none⟩ _ (by rw [World.cell?_alloc2_new]; try rfl); have f6 : w9.frozen? ⟨w.heap.size + 1, 6, none⟩ = false := (hb9.frozen (p := ⟨w.heap.size + 1, 6, none⟩) (by simp)).trans (World.frozen?_alloc2_new _ _ _ _); have r7 := J ⟨w.heap.size + 1, 7, none⟩ _ (by rw [World.cell?_alloc2_new]; try rfl); have f7 : w9.frozen? ⟨w.heap.size + 1, 7, none⟩ = false := (hb9.frozen (p := ⟨w.heap.size + 1, 7, none⟩) (by simp)).trans (World.frozen?_alloc2_new _ _ _ _); have r8 := J ⟨w.heap.size + 1, 8, none⟩ _ (by rw [World.cell?_alloc2_new]; try rfl); have f8 : w9.frozen? ⟨w.heap.size + 1, 8, none⟩ = false := (hb9.frozen (p := ⟨w.heap.size + 1, 8, none⟩) (by simp)).trans (World.frozen?_alloc2_new _ _ _ _))
        refine bodyPost_ret (v := .tuple #[.agg #[.bool false, .string ⟨#[]⟩, .string ⟨#[]⟩, .slice none 0 0, .int .i64 0, .slice none 0 0, .bool false, .slice none 0 0, .bool false], .int .i64 7]) (by simp [results, Try.results82, go_sem, r0, r1, r2, r3, r4, r5, r6, r7, r8]) rfl ⟨by rw [E.out], ?_⟩
        exact below9 (hB.trans (hb9.mono (by simp; omega))) (by omega) _ _ _ _ _ _ _ _ _
      · go_enter Try.func82, Try.ntmps82
        go_wp2_with (go_at_call 79; refine hN.mono ?_; rintro e w9 ⟨rfl, hb9⟩; have J := keeps_below hb9 (Nat.le_refl _); have x4 := J ⟨w.heap.size, 4, none⟩ _ (by rw [World.cell?_alloc2_first]; try rfl); have x5 := J ⟨w.heap.size, 5, none⟩ _ (by rw [World.cell?_alloc2_first]; try rfl); have r0 := J ⟨w.heap.size + 1, 0, none⟩ _ (by rw [World.cell?_alloc2_new]; try rfl); have f0 : w9.frozen? ⟨w.heap.size + 1, 0, none⟩ = false := (hb9.frozen (p := ⟨w.heap.size + 1, 0, none⟩) (by simp)).trans (World.frozen?_alloc2_new _ _ _ _); have r1 := J ⟨w.heap.size + 1, 1, none⟩ _ (by rw [World.cell?_alloc2_new]; try rfl); have f1 : w9.frozen? ⟨w.heap.size + 1, 1, none⟩ = false := (hb9.frozen (p := ⟨w.heap.size + 1, 1, none⟩) (by simp)).trans (World.frozen?_alloc2_new _ _ _ _); have r2 := J ⟨w.heap.size + 1, 2, none⟩ _ (by rw [World.cell?_alloc2_new]; try rfl); have f2 : w9.frozen? ⟨w.heap.size + 1, 2, none⟩ = false := (hb9.frozen (p := ⟨w.heap.size + 1, 2, none⟩) (by simp)).trans (World.frozen?_alloc2_new _ _ _ _); have r3 := J ⟨w.heap.size + 1, 3, none⟩ _ (by rw [World.cell?_alloc2_new]; try rfl); have f3 : w9.frozen? ⟨w.heap.size + 1, 3, none⟩ = false := (hb9.frozen (p := ⟨w.heap.size + 1, 3, none⟩) (by simp)).trans (World.frozen?_alloc2_new _ _ _ _); have r4 := J ⟨w.heap.size + 1, 4, none⟩ _ (by rw [World.cell?_alloc2_new]; try rfl); have f4 : w9.frozen? ⟨w.heap.size + 1, 4, none⟩ = false := (hb9.frozen (p := ⟨w.heap.size + 1, 4, none⟩) (by simp)).trans (World.frozen?_alloc2_new _ _ _ _); have r5 := J ⟨w.heap.size + 1, 5, none⟩ _ (by rw [World.cell?_alloc2_new]; try rfl); have f5 : w9.frozen? ⟨w.heap.size + 1, 5, none⟩ = false := (hb9.frozen (p := ⟨w.heap.size + 1, 5, none⟩) (by simp)).trans (World.frozen?_alloc2_new _ _ _ _); have r6 := J ⟨w.heap.size + 1, 6, none⟩ _ (by rw [World.cell?_alloc2_new]; try rfl); have f6 : w9.frozen? ⟨w.heap.size + 1, 6, none⟩ = false := (hb9.frozen (p := ⟨w.heap.size + 1, 6, none⟩) (by simp)).trans (World.frozen?_alloc2_new _ _ _ _); have r7 := J ⟨w.heap.size + 1, 7, none⟩ _ (by rw [World.cell?_alloc2_new]; try rfl); have f7 : w9.frozen? ⟨w.heap.size + 1, 7, none⟩ = false := (hb9.frozen (p := ⟨w.heap.size + 1, 7, none⟩) (by simp)).trans (World.frozen?_alloc2_new _ _ _ _); have r8 := J ⟨w.heap.size + 1, 8, none⟩ _ (by rw [World.cell?_alloc2_new]; try rfl); have f8 : w9.frozen? ⟨w.heap.size + 1, 8, none⟩ = false := (hb9.frozen (p := ⟨w.heap.size + 1, 8, none⟩) (by simp)).trans (World.frozen?_alloc2_new _ _ _ _))
        refine bodyPost_ret (v := .tuple #[.agg #[.bool false, .string ⟨#[]⟩, .string ⟨#[]⟩, .slice none 0 0, .int .i64 0, .slice none 0 0, .bool false, .slice none 0 0, .bool false], .int .i64 7]) (by simp [results, Try.results82, go_sem, r0, r1, r2, r3, r4, r5, r6, r7, r8]) rfl ⟨by rw [E.out], ?_⟩
        exact below9 (hB.trans (hb9.mono (by simp; omega))) (by omega) _ _ _ _ _ _ _ _ _
  · have k1 : (kd == 1) = false := by simp; omega
    have k9 : (kd == 9) = false := by simp; omega
    by_cases hs : 60 < vl.size
    · have E : Hid (freshV ⟨kd, nk, tt, bf, nm, vl⟩ = .tuple #[.agg #[.bool false, .string ⟨#[]⟩, .string ⟨#[]⟩, .slice none 0 0, .int .i64 0, .slice none 0 0, .bool false, .slice none 0 0, .bool false], .int .i64 4]) := by
        show _ = _; unfold freshV; rw [if_neg hk, if_pos hs]; rfl
      go_enter Try.func82, Try.ntmps82
      go_wp2_with fail
      refine bodyPost_ret (v := .tuple #[.agg #[.bool false, .string ⟨#[]⟩, .string ⟨#[]⟩, .slice none 0 0, .int .i64 0, .slice none 0 0, .bool false, .slice none 0 0, .bool false], .int .i64 4]) (by simp [results, Try.results82, go_sem]) rfl ⟨by rw [E.out], ?_⟩
      exact ((Below.refl _ _).alloc (Nat.le_refl _) _).alloc (by simp) _
    · have E : Hid (freshV ⟨kd, nk, tt, bf, nm, vl⟩ = .tuple #[.agg #[.bool true, .string ⟨#[]⟩, .string vl, .slice none 0 0, .int .i64 0, .slice none 0 0, .bool false, .slice none 0 0, .bool false], .int .i64 0]) := by
        show _ = _; unfold freshV; rw [if_neg hk, if_neg hs]
      go_enter Try.func82, Try.ntmps82
      go_wp2_with fail
      refine bodyPost_ret (v := .tuple #[.agg #[.bool true, .string ⟨#[]⟩, .string vl, .slice none 0 0, .int .i64 0, .slice none 0 0, .bool false, .slice none 0 0, .bool false], .int .i64 0]) (by simp [results, Try.results82, go_sem]) rfl ⟨by rw [E.out], ?_⟩
      exact ((Below.refl _ _).alloc (Nat.le_refl _) _).alloc (by simp) _
end Go.Proofs.Ytookcjdibpccpab

/-
  WHAT dom.add makes, in plain mathematics.
-/
namespace Go.Proofs.Ytookcjdibpccpab
open Go.RowKit

/-- why no node is made -/
def freshE (x : Tn.Chg) : Int := if x.kind = 1 ∨ x.kind = 9 then (if Tn.nameL x.name.data.toList = true then 0 else 7) else if 60 < x.value.size then 4 else 0
/-- the node that is made -/
def newR (x : Tn.Chg) : Raw := if x.kind = 1 ∨ x.kind = 9 then ⟨true, x.name, ⟨#[]⟩, ⟨none, 0, 0⟩, 0, ⟨none, 0, 0⟩, false, ⟨none, 0, 0⟩, false⟩ else ⟨true, ⟨#[]⟩, x.value, ⟨none, 0, 0⟩, 0, ⟨none, 0, 0⟩, false, ⟨none, 0, 0⟩, false⟩
def newNd (x : Tn.Chg) : Tn.Nd := if x.kind = 1 ∨ x.kind = 9 then { Tn.zero with live := true, tag := x.name } else { Tn.zero with live := true, text := x.value }
theorem bare_new (x : Tn.Chg) : Bare (newR x) (newNd x) := by
  unfold newR newNd
  split <;> exact ⟨rfl, rfl, rfl, rfl, rfl, rfl, rfl, rfl, rfl, rfl, rfl, rfl⟩
theorem freshV_cases (x : Tn.Chg) : (freshE x ≠ 0 ∧ freshV x = .tuple #[zeroN, .int .i64 (freshE x)]) ∨ (freshE x = 0 ∧ freshV x = .tuple #[(newR x).agg, .int .i64 0]) := by
  unfold freshE freshV newR
  by_cases hk : x.kind = 1 ∨ x.kind = 9
  · by_cases hn : Tn.nameL x.name.data.toList = true
    · simp [hk, hn, Raw.agg]
    · simp [hk, hn]
  · by_cases hv : 60 < x.value.size
    · simp [hk, hv]
    · simp [hk, hv, Raw.agg]

/-- the document with the node, not yet in anything -/
def addIn (d : Tn.Dc) (x : Tn.Chg) : Tn.Dc := (if Tn.free d = d.length then d ++ [Tn.zero] else d).set (Tn.free d) (newNd x)
def addCode (d : Tn.Dc) (x : Tn.Chg) (m : Nat) (before : Int) (s : Bool) : Int :=
  if freshE x ≠ 0 then freshE x
  else if s = true ∧ (Tn.nd d m).hasS = false then 8
  else if 60 ≤ Tn.free d then 5
  else putCode (addIn d x) (Tn.free d) m before s

theorem BoxAt.fr {w w' : World} {g g' Y : Nat} {rs rs' : List Raw} {r : Raw} (h : BoxAt w Y r) (k : Fr g rs w g' rs' w') (hn : ¬ DB g rs Y) : BoxAt w' Y r :=
  ⟨k.cell h.c0 hn, k.cell h.c1 hn, k.cell h.c2 hn, k.cell h.c3 hn, k.cell h.c4 hn, k.cell h.c5 hn, k.cell h.c6 hn, k.cell h.c7 hn, k.cell h.c8 hn⟩
theorem alloc_at (w : World) (b : Obj) : (w.alloc b).heap[w.heap.size]? = some b := by show (w.heap.push b)[w.heap.size]? = some b; simp
end Go.Proofs.Ytookcjdibpccpab

/-
  THE WALK of dom.add, in a document of the call's own.
-/
namespace Go.Proofs.Ytookcjdibpccpab
open Go.RowKit

set_option maxHeartbeats 3200000 in
set_option maxRecDepth 100000 in
theorem dadd_Out {w : World} {B g c : Nat} {rs : List Raw} {d : Tn.Dc} (h : Owned w B g c rs d) (hB : B ≤ w.heap.size) (hlr : rs.length ≤ 900) (x : Tn.Chg) (h9 : (x.kind == 9) = false) (h10 : (x.kind == 10) = false) (hnm : x.name.size ≤ 4194304) (hvl : x.value.size ≤ 4194304) {m : Nat} (hxm : x.node = (m : Int)) (hm : m < rs.length)
    (hls : ∀ s, (Tn.liD (addIn d x) m s).length ≤ 1000)
    (hT : freshE x = 0 → Tn.free d < 60 → 0 ≤ putAt (Tn.listOf (Tn.nd (addIn d x) m) false) x.before → (Tn.listOf (Tn.nd (addIn d x) m) false).length < 12 → Tame (putDoc (addIn d x) (Tn.free d) m x.before false) ∧ (∀ j t, (Tn.liD (putDoc (addIn d x) (Tn.free d) m x.before false) j t).length ≤ 1000) ∧ Tn.lvD (putDoc (addIn d x) (Tn.free d) m x.before false) (Tn.free d) = true) :
    Calls Try.prog 63 #[.slice (some ⟨g, 0, none⟩) rs.length c, chg6 x] w fun e w' => ∃ dv nv, e = .returned (.tuple #[dv, .int .i64 nv, .int .i64 (addCode d x m x.before false)]) ∧ Below B w w' ∧ (addCode d x m x.before false = 0 → nv = (Tn.free d : Int) ∧ ∃ g' c' rs', dv = .slice (some ⟨g', 0, none⟩) rs'.length c' ∧ Owned w' B g' c' rs' (putDoc (addIn d x) (Tn.free d) m x.before false) ∧ Fr g rs w g' rs' w') := by
  have h0 : 0 < rs.length := by omega
  obtain ⟨kd, nd0, tt, bf, nm, vl⟩ := x
  simp only at hxm hnm hvl h9 h10
  subst hxm
  simp only at hls hT
  have W1 : Below w.heap.size w (w.alloc (.cells #[.int .i64 kd, .int .i64 (m : Int), .int .i64 tt, .int .i64 bf, .string nm, .string vl] 28)) := (Below.refl _ _).alloc (Nat.le_refl _) _
  have hFr := dfresh_any (w := w.alloc (.cells #[.int .i64 kd, .int .i64 (m : Int), .int .i64 tt, .int .i64 bf, .string nm, .string vl] 28)) ⟨kd, (m : Int), tt, bf, nm, vl⟩ hnm hvl
  simp only at hFr
  have x0 : (w.alloc (.cells #[.int .i64 kd, .int .i64 (m : Int), .int .i64 tt, .int .i64 bf, .string nm, .string vl] 28)).cell? ⟨w.heap.size, 0, none⟩ = some (.int .i64 kd) := by rw [World.cell?_alloc_new]; rfl
  have x1 : (w.alloc (.cells #[.int .i64 kd, .int .i64 (m : Int), .int .i64 tt, .int .i64 bf, .string nm, .string vl] 28)).cell? ⟨w.heap.size, 1, none⟩ = some (.int .i64 (m : Int)) := by rw [World.cell?_alloc_new]; rfl
  have x2 : (w.alloc (.cells #[.int .i64 kd, .int .i64 (m : Int), .int .i64 tt, .int .i64 bf, .string nm, .string vl] 28)).cell? ⟨w.heap.size, 2, none⟩ = some (.int .i64 tt) := by rw [World.cell?_alloc_new]; rfl
  have x3 : (w.alloc (.cells #[.int .i64 kd, .int .i64 (m : Int), .int .i64 tt, .int .i64 bf, .string nm, .string vl] 28)).cell? ⟨w.heap.size, 3, none⟩ = some (.int .i64 bf) := by rw [World.cell?_alloc_new]; rfl
  have x4 : (w.alloc (.cells #[.int .i64 kd, .int .i64 (m : Int), .int .i64 tt, .int .i64 bf, .string nm, .string vl] 28)).cell? ⟨w.heap.size, 4, none⟩ = some (.string nm) := by rw [World.cell?_alloc_new]; rfl
  have x5 : (w.alloc (.cells #[.int .i64 kd, .int .i64 (m : Int), .int .i64 tt, .int .i64 bf, .string nm, .string vl] 28)).cell? ⟨w.heap.size, 5, none⟩ = some (.string vl) := by rw [World.cell?_alloc_new]; rfl
  have BA : Below B w (w.alloc (.cells #[.int .i64 kd, .int .i64 (m : Int), .int .i64 tt, .int .i64 bf, .string nm, .string vl] 28)) := (Below.refl B w).alloc hB _
  have O1 : Owned (w.alloc (.cells #[.int .i64 kd, .int .i64 (m : Int), .int .i64 tt, .int .i64 bf, .string nm, .string vl] 28)) B g c rs d := h.below W1 (Nat.le_refl _)
  have F1 : Fr g rs w g rs (w.alloc (.cells #[.int .i64 kd, .int .i64 (m : Int), .int .i64 tt, .int .i64 bf, .string nm, .string vl] 28)) := (Fr.refl g rs w).below W1
  have hz1 : w.heap.size < (w.alloc (.cells #[.int .i64 kd, .int .i64 (m : Int), .int .i64 tt, .int .i64 bf, .string nm, .string vl] 28)).heap.size := by simp
  have hfX : ¬ DB g rs w.heap.size := h.free h0 (Nat.le_refl _)
  unfold chg6
  simp only
  clear h W1
  rcases freshV_cases ⟨kd, (m : Int), tt, bf, nm, vl⟩ with ⟨hfe, hfv⟩ | ⟨hfe, hfv⟩
  · have E : Hid (addCode d ⟨kd, (m : Int), tt, bf, nm, vl⟩ m bf false = freshE ⟨kd, (m : Int), tt, bf, nm, vl⟩) := by show _ = _; unfold addCode; rw [if_pos hfe]
    rw [hfv] at hFr
    unfold zeroN at hFr
    have hq : (freshE ⟨kd, (m : Int), tt, bf, nm, vl⟩ == 0) = false := by simpa using hfe
    have QN : Hid _ := hfe
    clear hT hls hfv hfe
    generalize freshE ⟨kd, (m : Int), tt, bf, nm, vl⟩ = fe at *
    go_enter Try.func63, Try.ntmps63
    go_wp2_with (go_at_call 82; refine hFr.mono ?_; rintro e w2 ⟨rfl, hb2⟩)
    go_ret3
    refine ⟨.slice (some ⟨g, 0, none⟩) rs.length c, 0, by rw [E.out]; rfl, ?_, fun hc => absurd (by rw [← E.out]; exact hc) QN.out⟩
    exact (BA.trans (hb2.mono (by omega))).alloc (by have := hb2.size; omega) _
  · rw [hfv] at hFr
    have hB0 : Below (w.alloc (.cells #[.int .i64 kd, .int .i64 (m : Int), .int .i64 tt, .int .i64 bf, .string nm, .string vl] 28)).heap.size (w.alloc (.cells #[.int .i64 kd, .int .i64 (m : Int), .int .i64 tt, .int .i64 bf, .string nm, .string vl] 28)) (w.alloc (.cells #[.int .i64 kd, .int .i64 (m : Int), .int .i64 tt, .int .i64 bf, .string nm, .string vl] 28)) := Below.refl _ _
    have AC : Hid (addCode d ⟨kd, (m : Int), tt, bf, nm, vl⟩ m bf false = if false = true ∧ (Tn.nd d m).hasS = false then 8 else if 60 ≤ Tn.free d then 5 else putCode (addIn d ⟨kd, (m : Int), tt, bf, nm, vl⟩) (Tn.free d) m bf false) := by
      show _ = _
      unfold addCode
      rw [if_neg (by simp [hfe])]
    have hbare := bare_new ⟨kd, (m : Int), tt, bf, nm, vl⟩
    have hAI : Hid (addIn d ⟨kd, (m : Int), tt, bf, nm, vl⟩ = (if Tn.free d = d.length then d ++ [Tn.zero] else d).set (Tn.free d) (newNd ⟨kd, (m : Int), tt, bf, nm, vl⟩)) := rfl
    have HT2 : Hid _ := hT hfe
    have HLS : Hid _ := hls
    obtain ⟨nR, hnR⟩ : ∃ r, r = newR ⟨kd, (m : Int), tt, bf, nm, vl⟩ := ⟨_, rfl⟩
    rw [← hnR] at hFr hbare
    have ea := hbare.a
    have ek := hbare.k
    have es := hbare.s
    obtain ⟨lv, tg, tx, la, up, lk, hs, ls, ins⟩ := nR
    simp only at ea ek es
    subst ea
    subst ek
    subst es
    simp only [Raw.agg] at hFr
    clear hT hls hfv hnR hB0 hfe
    generalize newNd ⟨kd, (m : Int), tt, bf, nm, vl⟩ = nN at *
    generalize addIn d ⟨kd, (m : Int), tt, bf, nm, vl⟩ = dA at *
    obtain ⟨n, hn⟩ : ∃ n, n = Tn.free d := ⟨_, rfl⟩
    rw [← hn] at AC HT2 hAI ⊢
    have HN : Hid (n = Tn.free d) := hn
    clear hn
    go_enter Try.func63, Try.ntmps63
    go_upto_region 1 with fail
    generalize w.alloc (.cells #[.int .i64 kd, .int .i64 (m : Int), .int .i64 tt, .int .i64 bf, .string nm, .string vl] 28) = wA at *
    go_upto_region 2 with (go_at_call 82; refine hFr.mono ?_; rintro e w2 ⟨rfl, hb2⟩)
    have B2 : Below wA.heap.size wA (w2.alloc (.cells #[.bool lv, .string tg, .string tx, .slice none 0 0, .int .i64 up, .slice none 0 0, .bool hs, .slice none 0 0, .bool ins] 50)) := hb2.alloc hb2.size _
    have K2 := keeps_below B2 (Nat.le_refl _)
    have u0 := K2 _ _ x0
    have u1 := K2 _ _ x1
    have u3 := K2 _ _ x3
    have O3 : Hid (Owned (w2.alloc (.cells #[.bool lv, .string tg, .string tx, .slice none 0 0, .int .i64 up, .slice none 0 0, .bool hs, .slice none 0 0, .bool ins] 50)) B g c rs d) := O1.below B2 (Nat.le_refl _)
    have F3 : Fr g rs w g rs (w2.alloc (.cells #[.bool lv, .string tg, .string tx, .slice none 0 0, .int .i64 up, .slice none 0 0, .bool hs, .slice none 0 0, .bool ins] 50)) := F1.below B2
    have B3 : Below B w (w2.alloc (.cells #[.bool lv, .string tg, .string tx, .slice none 0 0, .int .i64 up, .slice none 0 0, .bool hs, .slice none 0 0, .bool ins] 50)) := BA.trans (B2.mono (by omega))
    have bY := box_new w2 (⟨lv, tg, tx, ⟨none, 0, 0⟩, up, ⟨none, 0, 0⟩, hs, ⟨none, 0, 0⟩, ins⟩ : Raw) 50
    have hfY : ¬ DB g rs w2.heap.size := O1.free h0 hb2.size
    simp only at bY
    go_upto_region 4 with fail
    generalize w2.alloc (.cells #[.bool lv, .string tg, .string tx, .slice none 0 0, .int .i64 up, .slice none 0 0, .bool hs, .slice none 0 0, .bool ins] 50) = w3 at *
    generalize w2.heap.size = Y at *
    generalize hX : w.heap.size = X at *
    have HX : Hid _ := hX
    clear hX
    clear x0 x1 x2 x3 x4 x5 K2 B2 hb2 O1 F1 BA hFr
    have D3 : Hid (DocAt w3 g 0 c rs d) := O3.out.doc h0

    go_quiet (fail)
    have OQ : Hid (Owned (w3.drewN nq) B g c rs d) := O3.out.below (below_drewN w3.heap.size w3 nq) (Nat.le_refl _)
    have FQ : Fr g rs w g rs (w3.drewN nq) := F3.below (below_drewN _ w3 nq)
    have BQ : Below B w (w3.drewN nq) := B3.trans (below_drewN B w3 nq)
    have v1 : (w3.drewN nq).cell? ⟨X, 1, none⟩ = some (.int .i64 (m : Int)) := u1
    have bQ : BoxAt (w3.drewN nq) Y ⟨lv, tg, tx, ⟨none, 0, 0⟩, up, ⟨none, 0, 0⟩, hs, ⟨none, 0, 0⟩, ins⟩ := bY.keeps (keeps_drewN w3 nq)

    generalize w3.drewN nq = w4 at *
    clear u0 u1 u3 O3 F3 B3 bY D3
    have DQ : Hid (DocAt w4 g 0 c rs d) := OQ.out.doc h0
    have hFF := dfree_any DQ.out (by omega)
    rw [← HN.out] at hFF
    go_upto_region 10 with (go_at_call 83; refine hFF.mono ?_; rintro e w5 ⟨rfl, hb5⟩)
    have O5 : Hid (Owned w5 B g c rs d) := OQ.out.below hb5 (Nat.le_refl _)
    have F5 := FQ.below hb5
    have hBw5 : B ≤ w5.heap.size := by
      have e1 := HX.out
      have e2 := F5.size
      omega
    have B5 := BQ.trans (hb5.mono (by have e1 := HX.out; have e2 := FQ.size; omega))
    have v15 := keeps_below hb5 (Nat.le_refl _) _ _ v1
    have b5 := bQ.keeps (keeps_below hb5 (Nat.le_refl _))
    clear OQ FQ BQ v1 bQ DQ hFF hb5
    have hf3 : n ≤ rs.length := by
      have e1 := (Tn.free_spec d).1
      rw [← HN.out, ← O5.out.len] at e1
      exact e1
    by_cases h60 : 60 ≤ n
    · have ACQ : Hid (addCode d ⟨kd, (m : Int), tt, bf, nm, vl⟩ m bf false = 5) := by show _ = _; rw [AC.out, if_neg (by simp), if_pos h60]
      go_wp2_with fail
      go_ret3
      exact ⟨_, 0, by rw [ACQ.out]; rfl, B5, fun hc => by rw [ACQ.out] at hc; cases hc⟩
    · have ACQ : Hid (addCode d ⟨kd, (m : Int), tt, bf, nm, vl⟩ m bf false = putCode dA n m bf false) := by show _ = _; rw [AC.out, if_neg (by simp), if_neg h60]
      by_cases hnl : n < rs.length
      · have AI : Hid (dA = d.set n nN) := by show _ = _; rw [hAI.out, if_neg (by have := O5.out.len; omega)]
        have hq : ((n : Int) == (rs.length : Int)) = false := by simp; omega
        obtain ⟨O6, F6⟩ := O5.out.bare (k := n) hnl hbare
        rw [← AI.out] at O6
        have hPut := dput_any O6 (Nat.le_trans hBw5 (set9_grown _ _ _ _).size) (n := n) (m := m) (by simpa using hnl) (by simpa using hm) HLS.out bf false (HT2.out (by omega))
        simp only [List.length_set] at hPut
        have DJ := O5.out.doc (by omega)
        obtain ⟨hBg, hgl, hfz⟩ := O5.out.at (by omega)
        have q0 := DJ.row.c0 _ hnl
        have q1 := DJ.row.c1 _ hnl
        have q2 := DJ.row.c2 _ hnl
        have q3 := DJ.row.c3 _ hnl
        have q4 := DJ.row.c4 _ hnl
        have q5 := DJ.row.c5 _ hnl
        have q6 := DJ.row.c6 _ hnl
        have q7 := DJ.row.c7 _ hnl
        have q8 := DJ.row.c8 _ hnl
        rw [Nat.zero_add] at q0 q1 q2 q3 q4 q5 q6 q7 q8
        have v6 := F6.cell v15 hfX
        have QF6 : Hid _ := F5.trans F6
        have QB6 : Hid (Below B w (set9 w5 g n ⟨lv, tg, tx, ⟨none, 0, 0⟩, up, ⟨none, 0, 0⟩, hs, ⟨none, 0, 0⟩, ins⟩)) := B5.grown (set9_grown _ _ _ _) hBw5 (fun k hk => by cases hk; exact hBg)
        clear O6 F6 DJ
        obtain ⟨wS, hwS⟩ : ∃ wS, wS = set9 w5 g n ⟨lv, tg, tx, ⟨none, 0, 0⟩, up, ⟨none, 0, 0⟩, hs, ⟨none, 0, 0⟩, ins⟩ := ⟨_, rfl⟩
        rw [← hwS] at hPut v6 QF6 QB6
        unfold set9 at hwS
        simp only at hwS
        have HW : Hid _ := hwS
        clear hwS
        generalize rs[n] = rx at *
        obtain ⟨rl, rt, rv, ⟨ap, an, ac⟩, ru, ⟨kp, kn, kc⟩, rh, ⟨sp, sn, sc⟩, ri⟩ := rx
        simp only at q0 q1 q2 q3 q4 q5 q6 q7 q8
        obtain ⟨y0, y1, y2, y3, y4, y5, y6, y7, y8⟩ := b5
        simp only at y0 y1 y2 y3 y4 y5 y6 y7 y8
        have hxl : (n : Int) < (rs.length : Int) := by omega
        go_upto_region 15 with fail
        rw [← HW.out]
        go_wp2_with (go_at_call 78; refine hPut.mono ?_; rintro e w7 ⟨rfl, hb7, ho7⟩)
        have HO : Hid _ := ho7
        go_ret3
        refine ⟨.slice (some ⟨g, 0, none⟩) rs.length c, (n : Int), by rw [ACQ.out]; rfl, QB6.out.trans hb7, fun hc => ?_⟩
        rw [ACQ.out] at hc
        obtain ⟨rs7, h71, O7, F7⟩ := HO.out hc
        exact ⟨rfl, g, c, rs7, by rw [h71], O7, QF6.out.trans F7⟩
      · have hq : ((n : Int) == (rs.length : Int)) = true := by simp; omega
        have W6 : Below w5.heap.size w5 (w5.alloc (.cells #[.bool false, .string ⟨#[]⟩, .string ⟨#[]⟩, .slice none 0 0, .int .i64 0, .slice none 0 0, .bool false, .slice none 0 0, .bool false] 50)) := (Below.refl _ _).alloc (Nat.le_refl _) _
        obtain ⟨g', c', w6, hr, O6', F6', B6'⟩ := Owned.push (w := w5.alloc (.cells #[.bool false, .string ⟨#[]⟩, .string ⟨#[]⟩, .slice none 0 0, .int .i64 0, .slice none 0 0, .bool false, .slice none 0 0, .bool false] 50)) (O5.out.below W6 (Nat.le_refl _)) (Nat.le_trans hBw5 W6.size) h0 (by omega) 25 (a := w5.heap.size) (alloc_at _ _)
        have hlq : Hid ((rs ++ [zeroR]).length = rs.length + 1) := by show _ = _; simp
        have hfY' := hfY
        have b6 := (b5.keeps (keeps_below W6 (Nat.le_refl _))).fr F6' hfY
        have v16 := F6'.cell (keeps_below W6 (Nat.le_refl _) _ _ v15) hfX
        have hfX6 : ¬ DB g' (rs ++ [zeroR]) X := fun e => hfX (F6'.back X (lt_of_cell (keeps_below W6 (Nat.le_refl _) _ _ v15)) e)
        have F7' := (F5.below W6).trans F6'
        have B7' := (B5.trans (W6.mono hBw5)).trans B6'
        have hBw6 : B ≤ w6.heap.size := by
          have e1 := HX.out
          have e2 := F7'.size
          omega
        have O8 : Hid _ := O6'
        have AI : Hid (dA = (d ++ [Tn.zero]).set n nN) := by show _ = _; rw [hAI.out, if_pos (by have := O5.out.len; omega)]
        clear F6' B6' O6' W6 b5 v15 hfX hfY hfY' F5 B5
        generalize rs ++ [zeroR] = rq at *
        have hnq : n < rq.length := by rw [hlq.out]; omega
        have hmq : m < rq.length := by rw [hlq.out]; omega
        go_upto_region 14 with (at_builtin; refine wpList_append_at _ rfl _ _ 25 25 rfl _ _ rfl rfl hr ?_)
        clear hr
        obtain ⟨O6, F6⟩ := O8.out.bare (k := n) hnq hbare
        rw [← AI.out] at O6
        have hPut := dput_any O6 (Nat.le_trans hBw6 (set9_grown _ _ _ _).size) (n := n) (m := m) (by simpa using hnq) (by simpa using hmq) HLS.out bf false (HT2.out (by omega))
        simp only [List.length_set] at hPut
        have DJ := O8.out.doc (by omega)
        obtain ⟨hBg, hgl, hfz⟩ := O8.out.at (by omega)
        have q0 := DJ.row.c0 _ hnq
        have q1 := DJ.row.c1 _ hnq
        have q2 := DJ.row.c2 _ hnq
        have q3 := DJ.row.c3 _ hnq
        have q4 := DJ.row.c4 _ hnq
        have q5 := DJ.row.c5 _ hnq
        have q6 := DJ.row.c6 _ hnq
        have q7 := DJ.row.c7 _ hnq
        have q8 := DJ.row.c8 _ hnq
        rw [Nat.zero_add] at q0 q1 q2 q3 q4 q5 q6 q7 q8
        have v6 := F6.cell v16 hfX6
        have QF6 : Hid _ := F7'.trans F6
        have QB6 : Hid (Below B w (set9 w6 g' n ⟨lv, tg, tx, ⟨none, 0, 0⟩, up, ⟨none, 0, 0⟩, hs, ⟨none, 0, 0⟩, ins⟩)) := B7'.grown (set9_grown _ _ _ _) hBw6 (fun k hk => by cases hk; exact hBg)
        clear O6 F6 DJ
        obtain ⟨wS, hwS⟩ : ∃ wS, wS = set9 w6 g' n ⟨lv, tg, tx, ⟨none, 0, 0⟩, up, ⟨none, 0, 0⟩, hs, ⟨none, 0, 0⟩, ins⟩ := ⟨_, rfl⟩
        rw [← hwS] at hPut v6 QF6 QB6
        unfold set9 at hwS
        simp only at hwS
        have HW : Hid _ := hwS
        clear hwS
        generalize rq[n] = rx at *
        obtain ⟨rl, rt, rv, ⟨ap, an, ac⟩, ru, ⟨kp, kn, kc⟩, rh, ⟨sp, sn, sc⟩, ri⟩ := rx
        simp only at q0 q1 q2 q3 q4 q5 q6 q7 q8
        obtain ⟨y0, y1, y2, y3, y4, y5, y6, y7, y8⟩ := b6
        simp only at y0 y1 y2 y3 y4 y5 y6 y7 y8
        have hxl : (n : Int) < (rq.length : Int) := by omega
        go_upto_region 15 with fail
        rw [← HW.out]
        go_wp2_with (go_at_call 78; refine hPut.mono ?_; rintro e w7 ⟨rfl, hb7, ho7⟩)
        have HO : Hid _ := ho7
        go_ret3
        refine ⟨.slice (some ⟨g', 0, none⟩) rq.length c', (n : Int), by rw [ACQ.out]; rfl, QB6.out.trans hb7, fun hc => ?_⟩
        rw [ACQ.out] at hc
        obtain ⟨rs7, h71, O7, F7⟩ := HO.out hc
        exact ⟨rfl, g', c', rs7, by rw [h71], O7, QF6.out.trans F7⟩
end Go.Proofs.Ytookcjdibpccpab

/-
  THE WALK of dom.change, in a document of the call's own: a node is made.
-/
namespace Go.Proofs.Ytookcjdibpccpab
open Go.RowKit

set_option maxHeartbeats 400000 in
set_option maxRecDepth 100000 in
theorem dchange_make {w : World} {B g c : Nat} {rs : List Raw} {d : Tn.Dc} (h : Owned w B g c rs d) (hB : B ≤ w.heap.size) (hlr : rs.length ≤ 900) (kd : Int) (hkd : kd = 1 ∨ kd = 2) (tt bf : Int) (nm vl : ByteArray) (hnm : nm.size ≤ 4194304) (hvl : vl.size ≤ 4194304) {m : Nat} (hm : m < rs.length)
    (hls : ∀ s, (Tn.liD (addIn d ⟨kd, (m : Int), tt, bf, nm, vl⟩) m s).length ≤ 1000)
    (hT : freshE ⟨kd, (m : Int), tt, bf, nm, vl⟩ = 0 → Tn.free d < 60 → 0 ≤ putAt (Tn.listOf (Tn.nd (addIn d ⟨kd, (m : Int), tt, bf, nm, vl⟩) m) false) bf → (Tn.listOf (Tn.nd (addIn d ⟨kd, (m : Int), tt, bf, nm, vl⟩) m) false).length < 12 → Tame (putDoc (addIn d ⟨kd, (m : Int), tt, bf, nm, vl⟩) (Tn.free d) m bf false) ∧ (∀ j t, (Tn.liD (putDoc (addIn d ⟨kd, (m : Int), tt, bf, nm, vl⟩) (Tn.free d) m bf false) j t).length ≤ 1000) ∧ Tn.lvD (putDoc (addIn d ⟨kd, (m : Int), tt, bf, nm, vl⟩) (Tn.free d) m bf false) (Tn.free d) = true) :
    Calls Try.prog 34 #[.slice (some ⟨g, 0, none⟩) rs.length c, chg6 ⟨kd, (m : Int), tt, bf, nm, vl⟩] w fun e w' => ∃ dv nv cd, e = .returned (.tuple #[dv, .int .i64 nv, .int .i64 cd]) ∧ Below B w w' ∧ cd = (if Tn.isN d (m : Int) true = true then addCode d ⟨kd, (m : Int), tt, bf, nm, vl⟩ m bf false else 8) ∧ (cd = 0 → nv = (Tn.free d : Int) ∧ ∃ g' c' rs', dv = .slice (some ⟨g', 0, none⟩) rs'.length c' ∧ Owned w' B g' c' rs' (putDoc (addIn d ⟨kd, (m : Int), tt, bf, nm, vl⟩) (Tn.free d) m bf false)) := by
  have H : Hid (Owned w B g c rs d) := h
  clear h
  rcases hkd with rfl | rfl
  · skip
    have W1 : Below w.heap.size w (w.alloc (.cells #[.int .i64 1, .int .i64 (m : Int), .int .i64 tt, .int .i64 bf, .string nm, .string vl] 28)) := (Below.refl _ _).alloc (Nat.le_refl _) _
    have O1 := H.out.below W1 (Nat.le_refl _)
    have HA : Hid (Calls Try.prog 63 #[.slice (some ⟨g, 0, none⟩) rs.length c, chg6 ⟨1, (m : Int), tt, bf, nm, vl⟩] (w.alloc (.cells #[.int .i64 1, .int .i64 (m : Int), .int .i64 tt, .int .i64 bf, .string nm, .string vl] 28)) fun e w' => ∃ dv nv, e = .returned (.tuple #[dv, .int .i64 nv, .int .i64 (addCode d ⟨1, (m : Int), tt, bf, nm, vl⟩ m bf false)]) ∧ Below B (w.alloc (.cells #[.int .i64 1, .int .i64 (m : Int), .int .i64 tt, .int .i64 bf, .string nm, .string vl] 28)) w' ∧ (addCode d ⟨1, (m : Int), tt, bf, nm, vl⟩ m bf false = 0 → nv = (Tn.free d : Int) ∧ ∃ g' c' rs', dv = .slice (some ⟨g', 0, none⟩) rs'.length c' ∧ Owned w' B g' c' rs' (putDoc (addIn d ⟨1, (m : Int), tt, bf, nm, vl⟩) (Tn.free d) m bf false) ∧ Fr g rs (w.alloc (.cells #[.int .i64 1, .int .i64 (m : Int), .int .i64 tt, .int .i64 bf, .string nm, .string vl] 28)) g' rs' w')) :=
      dadd_Out O1 (Nat.le_trans hB W1.size) hlr ⟨1, (m : Int), tt, bf, nm, vl⟩ rfl rfl hnm hvl rfl hm hls hT
    have HD : Hid (DocAt (w.alloc (.cells #[.int .i64 1, .int .i64 (m : Int), .int .i64 tt, .int .i64 bf, .string nm, .string vl] 28)) g 0 c rs d) := O1.doc (by omega)
    have HB1 : Hid (Below B w (w.alloc (.cells #[.int .i64 1, .int .i64 (m : Int), .int .i64 tt, .int .i64 bf, .string nm, .string vl] 28))) := (Below.refl B w).alloc hB _
    have x4 : (w.alloc (.cells #[.int .i64 1, .int .i64 (m : Int), .int .i64 tt, .int .i64 bf, .string nm, .string vl] 28)).cell? ⟨w.heap.size, 0, none⟩ = some (.int .i64 1) := by rw [World.cell?_alloc_new]; rfl
    clear hls hT W1 O1
    cases hi : Tn.isN d (m : Int) true with
    | true =>
      unfold chg6
      simp only
      go_enter Try.func34, Try.ntmps34
      go_wp2_with fail
      refine (dis_any HD.out (m : Int) true).mono ?_
      rintro e w1 ⟨rfl, hw1⟩
      subst hw1
      rw [hi]
      go_wp2_with fail
      refine HA.out.mono ?_
      rintro e w2 ⟨dv, nv, rfl, b2, hz⟩
      have HZ : Hid (addCode d ⟨1, (m : Int), tt, bf, nm, vl⟩ m bf false = 0 → nv = (Tn.free d : Int) ∧ ∃ (g' c' : Nat) (rs' : List Raw), dv = .slice (some ⟨g', 0, none⟩) rs'.length c' ∧ Owned w2 B g' c' rs' (putDoc (addIn d ⟨1, (m : Int), tt, bf, nm, vl⟩) (Tn.free d) m bf false) ∧ Fr g rs (w.alloc (.cells #[.int .i64 1, .int .i64 (m : Int), .int .i64 tt, .int .i64 bf, .string nm, .string vl] 28)) g' rs' w2) := hz
      clear hz
      generalize hcd : addCode d _ m bf false = cd at *
      go_wp2_with fail
      go_ret3
      refine ⟨_, _, _, rfl, HB1.out.trans b2, rfl, fun h0 => ?_⟩
      obtain ⟨h1, g', c', rs', h2, h3, _⟩ := HZ.out h0
      exact ⟨h1, g', c', rs', h2, h3⟩
    | false =>
      unfold chg6
      simp only
      go_enter Try.func34, Try.ntmps34
      go_wp2_with fail
      refine (dis_any HD.out (m : Int) true).mono ?_
      rintro e w1 ⟨rfl, hw1⟩
      subst hw1
      rw [hi]
      go_wp2_with fail
      go_ret3
      exact ⟨_, _, _, rfl, HB1.out, rfl, fun h => by cases h⟩
  · skip
    have W1 : Below w.heap.size w (w.alloc (.cells #[.int .i64 2, .int .i64 (m : Int), .int .i64 tt, .int .i64 bf, .string nm, .string vl] 28)) := (Below.refl _ _).alloc (Nat.le_refl _) _
    have O1 := H.out.below W1 (Nat.le_refl _)
    have HA : Hid (Calls Try.prog 63 #[.slice (some ⟨g, 0, none⟩) rs.length c, chg6 ⟨2, (m : Int), tt, bf, nm, vl⟩] (w.alloc (.cells #[.int .i64 2, .int .i64 (m : Int), .int .i64 tt, .int .i64 bf, .string nm, .string vl] 28)) fun e w' => ∃ dv nv, e = .returned (.tuple #[dv, .int .i64 nv, .int .i64 (addCode d ⟨2, (m : Int), tt, bf, nm, vl⟩ m bf false)]) ∧ Below B (w.alloc (.cells #[.int .i64 2, .int .i64 (m : Int), .int .i64 tt, .int .i64 bf, .string nm, .string vl] 28)) w' ∧ (addCode d ⟨2, (m : Int), tt, bf, nm, vl⟩ m bf false = 0 → nv = (Tn.free d : Int) ∧ ∃ g' c' rs', dv = .slice (some ⟨g', 0, none⟩) rs'.length c' ∧ Owned w' B g' c' rs' (putDoc (addIn d ⟨2, (m : Int), tt, bf, nm, vl⟩) (Tn.free d) m bf false) ∧ Fr g rs (w.alloc (.cells #[.int .i64 2, .int .i64 (m : Int), .int .i64 tt, .int .i64 bf, .string nm, .string vl] 28)) g' rs' w')) :=
      dadd_Out O1 (Nat.le_trans hB W1.size) hlr ⟨2, (m : Int), tt, bf, nm, vl⟩ rfl rfl hnm hvl rfl hm hls hT
    have HD : Hid (DocAt (w.alloc (.cells #[.int .i64 2, .int .i64 (m : Int), .int .i64 tt, .int .i64 bf, .string nm, .string vl] 28)) g 0 c rs d) := O1.doc (by omega)
    have HB1 : Hid (Below B w (w.alloc (.cells #[.int .i64 2, .int .i64 (m : Int), .int .i64 tt, .int .i64 bf, .string nm, .string vl] 28))) := (Below.refl B w).alloc hB _
    have x4 : (w.alloc (.cells #[.int .i64 2, .int .i64 (m : Int), .int .i64 tt, .int .i64 bf, .string nm, .string vl] 28)).cell? ⟨w.heap.size, 0, none⟩ = some (.int .i64 2) := by rw [World.cell?_alloc_new]; rfl
    clear hls hT W1 O1
    cases hi : Tn.isN d (m : Int) true with
    | true =>
      unfold chg6
      simp only
      go_enter Try.func34, Try.ntmps34
      go_wp2_with fail
      refine (dis_any HD.out (m : Int) true).mono ?_
      rintro e w1 ⟨rfl, hw1⟩
      subst hw1
      rw [hi]
      go_wp2_with fail
      refine HA.out.mono ?_
      rintro e w2 ⟨dv, nv, rfl, b2, hz⟩
      have HZ : Hid (addCode d ⟨2, (m : Int), tt, bf, nm, vl⟩ m bf false = 0 → nv = (Tn.free d : Int) ∧ ∃ (g' c' : Nat) (rs' : List Raw), dv = .slice (some ⟨g', 0, none⟩) rs'.length c' ∧ Owned w2 B g' c' rs' (putDoc (addIn d ⟨2, (m : Int), tt, bf, nm, vl⟩) (Tn.free d) m bf false) ∧ Fr g rs (w.alloc (.cells #[.int .i64 2, .int .i64 (m : Int), .int .i64 tt, .int .i64 bf, .string nm, .string vl] 28)) g' rs' w2) := hz
      clear hz
      generalize hcd : addCode d _ m bf false = cd at *
      go_wp2_with fail
      go_ret3
      refine ⟨_, _, _, rfl, HB1.out.trans b2, rfl, fun h0 => ?_⟩
      obtain ⟨h1, g', c', rs', h2, h3, _⟩ := HZ.out h0
      exact ⟨h1, g', c', rs', h2, h3⟩
    | false =>
      unfold chg6
      simp only
      go_enter Try.func34, Try.ntmps34
      go_wp2_with fail
      refine (dis_any HD.out (m : Int) true).mono ?_
      rintro e w1 ⟨rfl, hw1⟩
      subst hw1
      rw [hi]
      go_wp2_with fail
      go_ret3
      exact ⟨_, _, _, rfl, HB1.out, rfl, fun h => by cases h⟩
end Go.Proofs.Ytookcjdibpccpab

/-
  THE WALK of dom.change, in a document of the call's own: a node goes.
-/
namespace Go.Proofs.Ytookcjdibpccpab
open Go.RowKit

set_option maxHeartbeats 400000 in
set_option maxRecDepth 100000 in
theorem dchange_remove {w : World} {B g c : Nat} {rs : List Raw} {d : Tn.Dc} (h : Owned w B g c rs d) (hB : B ≤ w.heap.size) (tt bf : Int) (nm vl : ByteArray) {m : Nat} (hn : m < rs.length) (hm0 : m ≠ 0) (hup : ∃ u : Nat, (Tn.nd d m).up = (u : Int) ∧ u < rs.length) (hls : ∀ j s, (Tn.liD d j s).length ≤ 1000)
    (hT : Tame (moveIn d m) ∧ (∀ j s, (Tn.liD (moveIn d m) j s).length ≤ 1000) ∧ Tn.lvD (moveIn d m) m = true) (hlt : ∀ k ∈ Tn.all Tn.fuel (moveIn d m) m, k < rs.length) :
    Calls Try.prog 34 #[.slice (some ⟨g, 0, none⟩) rs.length c, chg6 ⟨4, (m : Int), tt, bf, nm, vl⟩] w fun e w' => ∃ rs' : List Raw, e = .returned (.tuple #[.slice (some ⟨g, 0, none⟩) rs'.length c, .int .i64 (m : Int), .int .i64 0]) ∧ Below B w w' ∧ Owned w' B g c rs' (killD (Tn.all Tn.fuel (moveIn d m) m) (moveIn d m)) := by
  have W1 : Below w.heap.size w (w.alloc (.cells #[.int .i64 4, .int .i64 (m : Int), .int .i64 tt, .int .i64 bf, .string nm, .string vl] 28)).drew := ((Below.refl _ _).alloc (Nat.le_refl _) _).drew
  have O1 := h.below W1 (Nat.le_refl _)
  have HA : Hid (Calls Try.prog 58 #[.slice (some ⟨g, 0, none⟩) rs.length c, .int .i64 (m : Int)] (w.alloc (.cells #[.int .i64 4, .int .i64 (m : Int), .int .i64 tt, .int .i64 bf, .string nm, .string vl] 28)).drew fun e w' => e = .returned (.int .i64 0) ∧ Below B w w' ∧ w'.cell? ⟨w.heap.size, 1, none⟩ = some (.int .i64 (m : Int)) ∧ Hid (∃ rs' : List Raw, rs'.length = rs.length ∧ Owned w' B g c rs' (killD (Tn.all Tn.fuel (moveIn d m) m) (moveIn d m)))) := by
    have := dremove_any O1 (Nat.le_trans hB W1.size) hn (fun _ => hup) hls (fun _ => hT) (fun _ => hlt)
    have hc : remCode m = 0 := by unfold remCode; rw [if_neg hm0]
    rw [hc] at this
    refine this.mono ?_
    rintro e w' ⟨e1, e2, e3⟩
    obtain ⟨rs', q1, q2, q3⟩ := e3 rfl
    refine ⟨e1, ((Below.refl B w).alloc hB _).drew.trans e2, ?_, ⟨rs', q1, q2⟩⟩
    have x1 : (w.alloc (.cells #[.int .i64 4, .int .i64 (m : Int), .int .i64 tt, .int .i64 bf, .string nm, .string vl] 28)).drew.cell? ⟨w.heap.size, 1, none⟩ = some (.int .i64 (m : Int)) := by rw [World.cell?_drew, World.cell?_alloc_new]; rfl
    exact q3.cell x1 (h.free (by omega) (Nat.le_refl _))
  have x1 : (w.alloc (.cells #[.int .i64 4, .int .i64 (m : Int), .int .i64 tt, .int .i64 bf, .string nm, .string vl] 28)).cell? ⟨w.heap.size, 1, none⟩ = some (.int .i64 (m : Int)) := by rw [World.cell?_alloc_new]; rfl
  clear hup hls hT hlt W1 O1 h
  generalize killD (Tn.all Tn.fuel (moveIn d m) m) (moveIn d m) = d' at *
  unfold chg6
  simp only
  go_enter Try.func34, Try.ntmps34
  go_wp2_with fail
  have SS : ∀ w'', Keeps (w.alloc (.cells #[.int .i64 4, .int .i64 (m : Int), .int .i64 tt, .int .i64 bf, .string nm, .string vl] 28)) w'' → (fun w'' => w''.cell? ⟨w.heap.size, 1, none⟩ = some (.int .i64 (m : Int))) w'' := fun w'' hk => hk _ _ x1
  go_region_held3 (fun w'' => w''.cell? ⟨w.heap.size, 1, none⟩ = some (.int .i64 (m : Int)))
    ((first | assumption | (apply SS; first | exact Keeps.refl _ | exact keeps_drew (Keeps.refl _))))
    (first
      | (go_at_call 58; refine HA.out.mono ?_; rintro e w2 ⟨rfl, b2, q2, HZ⟩))
  all_goals
    go_wp2_with fail
    go_ret3
    obtain ⟨rs', e1, e2⟩ := HZ.out
    exact ⟨rs', by rw [e1]; rfl, b2, e2⟩
end Go.Proofs.Ytookcjdibpccpab

/-
  THE WALK of slices.Insert at []Attr, at the end of a row of the call's own.
-/
namespace Go.Proofs.Ytookcjdibpccpab
open Go.RowKit

set_option maxHeartbeats 3200000 in
set_option maxRecDepth 100000 in
theorem insA_end {w : World} {B : Nat} {v : Value} {l : List Tn.At} {vb : Nat} {n u : ByteArray} (hown : OwnA w B v l) (hB : B ≤ w.heap.size) (hl : l.length ≤ 1000) (hvb : w.heap[vb]? = some (.cells #[.string n, .string u] 55 (0, 0))) :
    Calls Try.prog 80 #[v, .int .i64 (l.length : Int), .slice (some ⟨vb, 0, none⟩) 1 1] w fun e w' => ∃ v', e = .returned v' ∧ OwnA w' B v' (l ++ [(n, u)]) ∧ w.grownBy w' v.ownBlock ∧ (v'.ownBlock = v.ownBlock ∨ ∃ g, w.heap.size ≤ g ∧ v'.ownBlock = some g) := by
  obtain ⟨i0, hi0, hz0, hz1, hz2⟩ := info_parts infoA
  have hnews : ∀ (j : Nat) (y : Value), (av (n, u))[j]? = some y → w.cell? ((⟨vb, 0, none⟩ : Addr).add j) = some y := by
    intro j y hy
    rw [add_at, Nat.zero_add]
    match j, hy with
    | 0, hy => simp [av] at hy; subst hy; simp [World.cell?, hvb]
    | 1, hy => simp [av] at hy; subst hy; simp [World.cell?, hvb]
    | j + 2, hy => simp [av] at hy
  have h1 : ∀ y ∈ av (n, u), y.oneCell' = true := by
    intro y hy
    simp [av] at hy
    rcases hy with rfl | rfl <;> rfl
  obtain ⟨p, c, rfl⟩ := hown.shape
  obtain ⟨v', w', hr, ho', hg', hb'⟩ := run_append_blk 48 Try.underlying48 hi0 hz0 hz1 hz2 rfl (by decide) (by decide) hown hB ⟨vb, 0, none⟩ 1 1 (av (n, u)) rfl (by decide) hnews h1 (by omega)
  have R : Hid (OwnA w' B v' (l ++ [(n, u)])) := by
    show OwnA _ _ _ _
    unfold OwnA
    simpa using ho'
  have hlc : l.length ≤ c := by
    obtain ⟨_, _, he, h, _⟩ := (attrs_of_owns hown).at
    cases he
    exact h
  have hcm : c ≤ 9223372036854775807 := by
    obtain ⟨_, _, he, _, h, _⟩ := (attrs_of_owns hown).at
    cases he
    exact h
  clear hown ho' hnews h1 hvb
  generalize (Value.slice p l.length c).ownBlock = ob at *
  go_enter Try.func80, Try.ntmps80
  go_wp2_with (at_builtin; refine wpList_append_at _ rfl _ _ 48 48 rfl _ _ rfl rfl hr ?_)
  all_goals
    go_ret
    exact ⟨_, rfl, R.out, hg', hb'⟩
end Go.Proofs.Ytookcjdibpccpab

/-
  THE WALK of dom.setAttr, in a document of the call's own, at a node that has no attribute yet.
-/
namespace Go.Proofs.Ytookcjdibpccpab
open Go.RowKit

theorem Owned.inner {w : World} {B g c : Nat} {rs : List Raw} {d : Tn.Dc} (h : Owned w B g c rs d) {k : Nat} (hk : k < rs.length) {t : Fin 3} {y : Nat} (hy : blk rs[k] t = some y) (i : Nat) (v : Value) {n' : Tn.Nd} (hnd : OwnNd (w.setCell ⟨y, i, none⟩ v) B rs[k] n') :
    Owned (w.setCell ⟨y, i, none⟩ v) B g c rs (d.set k n') := by
  have hyg : y ≠ g := fun e => h.sep.row k hk t (by rw [hy, e])
  refine ⟨owns_other h.row (by intro e; injection e with e; exact hyg e.symm) v, by rw [List.length_set]; exact h.len, fun j hj hj' => ?_, h.sep, fun j hj t' x e => by simpa using h.low j hj t' x e⟩
  by_cases e : k = j
  · subst e
    rw [List.getElem_set_self]
    exact hnd
  · rw [List.getElem_set_ne e]
    refine (h.nds j hj (by rw [← h.len]; exact hj)).grown (grow_set (grown_refl w (some y)) i v) (fun t' x hx ex => ?_)
    injection ex with ex
    subst ex
    exact e (h.sep.one k hk t j hj t' _ hy hx).1

theorem ownA_at {w : World} {B : Nat} {v : Value} {l : List Tn.At} (h : OwnA w B v l) (hn : 0 < l.length) : ∃ y c, v = .slice (some ⟨y, 0, none⟩) l.length c ∧ B ≤ y ∧ y < w.heap.size ∧ (∀ j, w.frozen? ⟨y, j, none⟩ = false) ∧ ∀ j x, (l.flatMap av)[j]? = some x → w.cell? ⟨y, j, none⟩ = some x := by
  obtain ⟨p, c, rfl⟩ := owns_shape h
  have hcl := cells_of_owns h
  obtain ⟨hl, hz⟩ := h
  rcases hz with ⟨h5, h5'⟩ | ⟨g', cap, cur, e, h3, h6, h7, h8, h9, h10⟩
  · have hl0 : (l.flatMap av).length = l.length * 2 := flat_len av 2 av_len l
    first
      | (rw [h5'] at hl0; simp at hl0; omega)
      | (injection h5 with a b c; omega)
  · cases e
    refine ⟨g', c, rfl, h3, ?_, fun j => by simp [World.frozen?, h6], fun j x hx => ?_⟩
    · apply Classical.byContradiction
      intro hn
      rw [Array.getElem?_eq_none (by omega)] at h6
      cases h6
    · obtain ⟨p2, c2, e2, _, _, _, hc2⟩ := hcl
      cases e2
      obtain ⟨b, o, e3, e4⟩ := hc2 j x hx
      cases e3
      rwa [Nat.zero_add] at e4

theorem Fr.inner {w : World} {g : Nat} {rs : List Raw} {k : Nat} (hk : k < rs.length) {t : Fin 3} {y : Nat} (hy : blk rs[k] t = some y) (i : Nat) (v : Value) : Fr g rs w g rs (w.setCell ⟨y, i, none⟩ v) :=
  ⟨by simp, fun x _ hn => heap_setCell_other _ _ _ _ (fun e => hn (Or.inr ⟨k, hk, t, by rw [hy]; first | exact congrArg some e.symm | exact congrArg some e⟩)), fun _ _ h => h⟩

set_option maxHeartbeats 400000 in
set_option maxRecDepth 100000 in
theorem dsetattr0 {w : World} {B g c : Nat} {rs : List Raw} {d : Tn.Dc} (h : Owned w B g c rs d) (hB : B ≤ w.heap.size) {k : Nat} (hk : k < rs.length) (h0 : (Tn.nd d k).attrs = []) (nm vl : ByteArray) (hnm : Tn.nameL nm.data.toList = true) (hsz : nm.size ≤ 4194304) (hvl : vl.size ≤ 60) :
    Calls Try.prog 60 #[.pointer (some ⟨g, k * 9, none⟩), .string nm, .string vl] w fun e w' => e = .returned (.int .i64 0) ∧ Below B w w' ∧ ∃ rs', rs'.length = rs.length ∧ Owned w' B g c rs' (d.set k { Tn.nd d k with attrs := [(nm, vl)] }) ∧ Fr g rs w g rs' w' := by
  have H : Hid (Owned w B g c rs d) := h
  have hd := h.doc (by omega)
  have hkd : k < d.length := by rw [← h.len]; exact hk
  have c3 := hd.row.c3 k hk
  have own := (h.nds k hk hkd).attrs
  have ha : d[k].attrs = [] := by rw [← nd_at hkd]; exact h0
  rw [ha] at own
  have hA : AttrsAt w (.slice rs[k].a.p rs[k].a.n rs[k].a.c) [] := attrs_of_owns own
  have e0 : rs[k].a.n = 0 := by
    obtain ⟨p, c', e, _⟩ := hA.at
    injection e
  rw [e0] at c3 hA own
  have HI : Hid (Calls Try.prog 52 #[.slice rs[k].a.p 0 rs[k].a.c, .string nm] w fun e w' => e = .returned (.tuple #[.int .i64 0, .bool false]) ∧ Below w.heap.size w w') := by
    refine (dattrAt_any hA List.Pairwise.nil (by simp) nm).mono ?_
    rintro e w' ⟨i, st, e1, e2⟩
    have : i = 0 := by have := st.le; simpa using this
    subst this
    exact ⟨e1, e2⟩
  clear hd ha h0 hA h
  generalize hap : rs[k].a.p = ap at *
  generalize hac : rs[k].a.c = ac at *
  simp only [Nat.zero_add] at c3
  go_enter Try.func60, Try.ntmps60
  go_wp2_with fail
  refine HI.out.mono ?_
  rintro e w1 ⟨rfl, b1⟩
  go_wp2_with fail
  refine (name_any nm _ hsz).mono ?_
  rintro e w2 ⟨rfl, b2⟩
  rw [hnm]
  have B2 : Below w.heap.size w w2 := b1.trans (b2.mono b1.size)
  have d3 := keeps_below B2 (Nat.le_refl _) _ _ c3
  have OW2 := own.below B2 (Nat.le_refl _)
  clear b1 b2 own c3
  have fg : ∀ j, w2.frozen? ⟨g, j, none⟩ = false := below_frozen B2 (H.out.at (by omega)).2.1 (H.out.at (by omega)).2.2
  have O2 : Hid (Owned (w2.alloc (.cells #[.string nm, .string ⟨#[]⟩] 55)) B g c rs d) := (H.out.below B2 (Nat.le_refl _)).below ((Below.refl _ _).alloc (Nat.le_refl _) _) (Nat.le_refl _)
  have F2 : Hid (Fr g rs w g rs (w2.alloc (.cells #[.string nm, .string ⟨#[]⟩] 55))) := ((Fr.refl g rs w).below B2).below ((Below.refl _ _).alloc (Nat.le_refl _) _)
  have hw2 : B ≤ w2.heap.size := Nat.le_trans hB B2.size
  have BB2 : Hid (Below B w (w2.alloc (.cells #[.string nm, .string ⟨#[]⟩] 55))) := (B2.mono hB).alloc hw2 _
  have OW3 : OwnA (w2.alloc (.cells #[.string nm, .string ⟨#[]⟩] 55)) B (.slice ap 0 ac) [] := OW2.below ((Below.refl w2.heap.size _).alloc (Nat.le_refl _) _) (Nat.le_refl _)
  have hin := insA_end (vb := w2.heap.size) (n := nm) (u := ⟨#[]⟩) OW3 (by simp; omega) (by simp) (by show (w2.heap.push _)[w2.heap.size]? = _; simp)
  have HIN : Hid (Calls Try.prog 80 #[.slice ap 0 ac, .int .i64 0, .slice (some ⟨w2.heap.size, 0, none⟩) 1 1] (w2.alloc (.cells #[.string nm, .string ⟨#[]⟩] 55)) fun e w' => ∃ v', e = .returned v' ∧ OwnA w' B v' [(nm, ⟨#[]⟩)] ∧ (w2.alloc (.cells #[.string nm, .string ⟨#[]⟩] 55)).grownBy w' (Value.slice ap 0 ac).ownBlock ∧ (v'.ownBlock = (Value.slice ap 0 ac).ownBlock ∨ ∃ g, (w2.alloc (.cells #[.string nm, .string ⟨#[]⟩] 55)).heap.size ≤ g ∧ v'.ownBlock = some g)) := hin
  clear hin OW3 OW2 B2 HI
  go_wp2_with fail
  refine HIN.out.mono ?_
  rintro e w4 ⟨v', rfl, o4, gr4, hb4⟩
  obtain ⟨y, c', rfl, hy1, hy2, hyf, hyc⟩ := ownA_at o4 (by simp)
  have y1 := hyc 1 (.string ⟨#[]⟩) rfl
  have f1 := hyf 1
  have hob : (Value.slice ap 0 ac).ownBlock = blk rs[k] 0 := by
    have := sblk_own rs[k].a
    rw [e0, hap, hac] at this
    exact this
  rw [hob] at gr4 hb4
  have hgl : g < (w2.alloc (.cells #[.string nm, .string ⟨#[]⟩] 55)).heap.size := (O2.out.at (by omega)).2.1
  have hgne : some g ≠ blk rs[k] 0 := fun e => O2.out.sep.row k hk 0 e.symm
  have hblg := gr4.block g hgl hgne
  have d4 : w4.cell? ⟨g, k * 9 + 3, none⟩ = some (.slice ap 0 ac) := by
    rw [World.cell?_of_block (a := ⟨g, k * 9 + 3, none⟩) hblg]
    exact (keeps_alloc w2 _) _ _ d3
  have fg4 : w4.frozen? ⟨g, k * 9 + 3, none⟩ = false := by
    rw [World.frozen?_of_block (a := ⟨g, k * 9 + 3, none⟩) hblg]
    exact below_frozen ((Below.refl w2.heap.size w2).alloc (Nat.le_refl _) _) (lt_of_cell d3) fg _
  have hyb : blk rs[k] 0 = some y ∨ (w2.alloc (.cells #[.string nm, .string ⟨#[]⟩] 55)).heap.size ≤ y := by
    rcases hb4 with e | ⟨z, hz, e⟩
    · exact Or.inl e.symm
    · right
      have : y = z := by simpa [Value.ownBlock] using e
      omega
  have hyg : y ≠ g := by
    intro e
    rcases hyb with h | h
    · exact hgne (by rw [h, e])
    · omega
  obtain ⟨r', hr'⟩ : ∃ r' : Raw, r' = { rs[k] with a := ⟨some ⟨y, 0, none⟩, 1, c'⟩ } := ⟨_, rfl⟩
  have ndk := O2.out.nds k hk hkd
  have nd4 : OwnNd w4 B r' { d[k] with attrs := [(nm, ⟨#[]⟩)] } := by
    rw [hr']
    exact ⟨ndk.live, ndk.tag, ndk.text, ndk.up, ndk.hasS, ndk.inS, o4, owns_grown ndk.kids gr4 (fun x hx e => by have := (O2.out.sep.one k hk 0 k hk 1 x e hx).2; cases this), owns_grown ndk.shadow gr4 (fun x hx e => by have := (O2.out.sep.one k hk 0 k hk 2 x e hx).2; cases this)⟩
  have hoth : ∀ t', t' ≠ (0 : Fin 3) → lst r' t' = lst rs[k] t' := by
    intro t' ht
    rw [hr']
    match t', ht with
    | 1, _ => rfl
    | 2, _ => rfl
  have hnew : blk r' 0 = blk rs[k] 0 ∨ ∃ x, (w2.alloc (.cells #[.string nm, .string ⟨#[]⟩] 55)).heap.size ≤ x ∧ x < w4.heap.size ∧ blk r' 0 = some x := by
    have e : blk r' 0 = some y := by rw [hr']; rfl
    rcases hyb with h | h
    · exact Or.inl (by rw [e, h])
    · exact Or.inr ⟨y, h, hy2, e⟩
  have hcel : r'.cells = rs[k].cells.set 3 (.slice (some ⟨y, 0, none⟩) 1 c') := by rw [hr']; rfl
  have O5 : Owned (w4.setCell ⟨g, k * 9 + 3, none⟩ (.slice (some ⟨y, 0, none⟩) 1 c')) B g c (rs.set k r') (d.set k { d[k] with attrs := [(nm, ⟨#[]⟩)] }) :=
    O2.out.list hk 0 gr4 hoth hnew nd4 3 (by decide) _ hcel
  have F5 : Fr g rs w g (rs.set k r') (w4.setCell ⟨g, k * 9 + 3, none⟩ (.slice (some ⟨y, 0, none⟩) 1 c')) := F2.out.trans (Fr.list hk 0 gr4 hoth hnew _ _)
  have hk' : k < (rs.set k r').length := by simpa using hk
  have hbk : blk (rs.set k r')[k] 0 = some y := by rw [List.getElem_set_self, hr']; rfl
  have hgs : (rs.set k r')[k] = r' := by rw [List.getElem_set_self]
  have ndk5 := O5.nds k hk' (by simpa using hkd)
  have e5 : (d.set k { d[k] with attrs := [(nm, ⟨#[]⟩)] })[k]'(by simpa using hkd) = { d[k] with attrs := [(nm, ⟨#[]⟩)] } := by rw [List.getElem_set_self]
  rw [e5] at ndk5
  have nd6 : OwnNd ((w4.setCell ⟨g, k * 9 + 3, none⟩ (.slice (some ⟨y, 0, none⟩) 1 c')).setCell ⟨y, 1, none⟩ (.string vl)) B (rs.set k r')[k] { d[k] with attrs := [(nm, vl)] } := by
    refine ⟨ndk5.live, ndk5.tag, ndk5.text, ndk5.up, ndk5.hasS, ndk5.inS, ?_, ?_, ?_⟩
    · have := ndk5.attrs
      rw [hgs, hr'] at this ⊢
      exact owns_set this 1 (.string vl)
    · refine owns_other ndk5.kids (fun e => ?_) _
      rw [sblk_own] at e
      have := (O5.sep.one k hk' 0 k hk' 1 y hbk e).2
      cases this
    · refine owns_other ndk5.shadow (fun e => ?_) _
      rw [sblk_own] at e
      have := (O5.sep.one k hk' 0 k hk' 2 y hbk e).2
      cases this
  have O6 : Hid (Owned ((w4.setCell ⟨g, k * 9 + 3, none⟩ (.slice (some ⟨y, 0, none⟩) 1 c')).setCell ⟨y, 1, none⟩ (.string vl)) B g c (rs.set k r') (d.set k { Tn.nd d k with attrs := [(nm, vl)] })) := by
    have := O5.inner hk' hbk 1 (.string vl) nd6
    rw [List.set_set] at this
    rw [nd_at hkd]
    exact this
  have F6 : Hid (Fr g rs w g (rs.set k r') ((w4.setCell ⟨g, k * 9 + 3, none⟩ (.slice (some ⟨y, 0, none⟩) 1 c')).setCell ⟨y, 1, none⟩ (.string vl))) := F5.trans (Fr.inner hk' hbk 1 _)
  have BB6 : Hid (Below B w ((w4.setCell ⟨g, k * 9 + 3, none⟩ (.slice (some ⟨y, 0, none⟩) 1 c')).setCell ⟨y, 1, none⟩ (.string vl))) := by
    have hBg : B ≤ g := (O2.out.at (by omega)).1
    have b4 := BB2.out.grown gr4 (by simp; omega) (fun j hj => by
      have := World.ownsRow.lt ndk.attrs j (by rw [sblk_own]; exact hj.symm ▸ rfl)
      exact this.1)
    exact (b4.setCell (p := ⟨g, k * 9 + 3, none⟩) hBg _).setCell (p := ⟨y, 1, none⟩) hy1 _
  have hlen : Hid ((rs.set k r').length = rs.length) := by show _ = _; simp
  clear O5 F5 hk' hbk hgs ndk5 e5 nd6 nd4 hoth hnew hcel ndk hyb hblg hgne hgl hob gr4 hb4 o4 hyc hyf hr' HIN BB2 F2 O2 d3 fg hap hac e0 H
  have hyg' : g ≠ y := fun e => hyg e.symm
  go_wp2_with fail
  go_ret
  exact ⟨rfl, BB6.out, rs.set k r', hlen.out, O6.out, F6.out⟩
end Go.Proofs.Ytookcjdibpccpab

/-
  THE WALK of dom.change, in a document of the call's own: an attribute, at a node that has none yet.
-/
namespace Go.Proofs.Ytookcjdibpccpab
open Go.RowKit

set_option maxHeartbeats 400000 in
set_option maxRecDepth 100000 in
theorem dchange_attr0 {w : World} {B g c : Nat} {rs : List Raw} {d : Tn.Dc} (h : Owned w B g c rs d) (hB : B ≤ w.heap.size) (hlr : rs.length ≤ 900) (tt bf : Int) (nm vl : ByteArray) {m : Nat} (hm : m < rs.length) (hi : Tn.isN d (m : Int) true = true) (h0 : (Tn.nd d m).attrs = []) (hnm : Tn.nameL nm.data.toList = true) (hsz : nm.size ≤ 4194304) (hvl : vl.size ≤ 60) :
    Calls Try.prog 34 #[.slice (some ⟨g, 0, none⟩) rs.length c, chg6 ⟨5, (m : Int), tt, bf, nm, vl⟩] w fun e w' => ∃ rs' : List Raw, e = .returned (.tuple #[.slice (some ⟨g, 0, none⟩) rs'.length c, .int .i64 (m : Int), .int .i64 0]) ∧ Below B w w' ∧ Owned w' B g c rs' (d.set m { Tn.nd d m with attrs := [(nm, vl)] }) := by
  have W0 : Below w.heap.size w (w.alloc (.cells #[.int .i64 5, .int .i64 (m : Int), .int .i64 tt, .int .i64 bf, .string nm, .string vl] 28)) := (Below.refl _ _).alloc (Nat.le_refl _) _
  have W1 : Below w.heap.size w (w.alloc (.cells #[.int .i64 5, .int .i64 (m : Int), .int .i64 tt, .int .i64 bf, .string nm, .string vl] 28)).drew := W0.drew
  have O1 := h.below W1 (Nat.le_refl _)
  have HD : Hid (DocAt (w.alloc (.cells #[.int .i64 5, .int .i64 (m : Int), .int .i64 tt, .int .i64 bf, .string nm, .string vl] 28)) g 0 c rs d) := (h.below W0 (Nat.le_refl _)).doc (by omega)
  have HA : Hid (Calls Try.prog 60 #[.pointer (some ⟨g, m * 9, none⟩), .string nm, .string vl] (w.alloc (.cells #[.int .i64 5, .int .i64 (m : Int), .int .i64 tt, .int .i64 bf, .string nm, .string vl] 28)).drew fun e w' => e = .returned (.int .i64 0) ∧ Below B w w' ∧ (fun w'' => w''.cell? ⟨w.heap.size, 1, none⟩ = some (.int .i64 (m : Int)) ∧ w''.cell? ⟨w.heap.size, 4, none⟩ = some (.string nm) ∧ w''.cell? ⟨w.heap.size, 5, none⟩ = some (.string vl)) w' ∧ Hid (∃ rs' : List Raw, rs'.length = rs.length ∧ Owned w' B g c rs' (d.set m { Tn.nd d m with attrs := [(nm, vl)] }))) := by
    refine (dsetattr0 O1 (Nat.le_trans hB W1.size) hm h0 nm vl hnm hsz hvl).mono ?_
    rintro e w' ⟨e1, e2, rs', q1, q2, q3⟩
    have nf := h.free (by omega) (Nat.le_refl _)
    refine ⟨e1, ((Below.refl B w).alloc hB _).drew.trans e2, ⟨?_, ?_, ?_⟩, ⟨rs', q1, q2⟩⟩
    · exact q3.cell (p := ⟨w.heap.size, 1, none⟩) (by rw [World.cell?_drew, World.cell?_alloc_new]; rfl) nf
    · exact q3.cell (p := ⟨w.heap.size, 4, none⟩) (by rw [World.cell?_drew, World.cell?_alloc_new]; rfl) nf
    · exact q3.cell (p := ⟨w.heap.size, 5, none⟩) (by rw [World.cell?_drew, World.cell?_alloc_new]; rfl) nf
  have x1 : (w.alloc (.cells #[.int .i64 5, .int .i64 (m : Int), .int .i64 tt, .int .i64 bf, .string nm, .string vl] 28)).cell? ⟨w.heap.size, 1, none⟩ = some (.int .i64 (m : Int)) := by rw [World.cell?_alloc_new]; rfl
  have x4 : (w.alloc (.cells #[.int .i64 5, .int .i64 (m : Int), .int .i64 tt, .int .i64 bf, .string nm, .string vl] 28)).cell? ⟨w.heap.size, 4, none⟩ = some (.string nm) := by rw [World.cell?_alloc_new]; rfl
  have x5 : (w.alloc (.cells #[.int .i64 5, .int .i64 (m : Int), .int .i64 tt, .int .i64 bf, .string nm, .string vl] 28)).cell? ⟨w.heap.size, 5, none⟩ = some (.string vl) := by rw [World.cell?_alloc_new]; rfl
  have hm1 : (m : Int) < (rs.length : Int) := by omega
  clear W0 W1 O1 h h0
  generalize d.set m { Tn.nd d m with attrs := [(nm, vl)] } = d' at *
  unfold chg6
  simp only
  go_enter Try.func34, Try.ntmps34
  go_wp2_with fail
  refine (dis_any HD.out (m : Int) true).mono ?_
  rintro e w1 ⟨rfl, hw1⟩
  subst hw1
  rw [hi]
  go_wp2_with fail
  have SS : ∀ w'', Keeps (w.alloc (.cells #[.int .i64 5, .int .i64 (m : Int), .int .i64 tt, .int .i64 bf, .string nm, .string vl] 28)) w'' → (fun w'' => w''.cell? ⟨w.heap.size, 1, none⟩ = some (.int .i64 (m : Int)) ∧ w''.cell? ⟨w.heap.size, 4, none⟩ = some (.string nm) ∧ w''.cell? ⟨w.heap.size, 5, none⟩ = some (.string vl)) w'' := fun w'' hk => ⟨hk _ _ x1, hk _ _ x4, hk _ _ x5⟩
  go_region_held3 (fun w'' => w''.cell? ⟨w.heap.size, 1, none⟩ = some (.int .i64 (m : Int)) ∧ w''.cell? ⟨w.heap.size, 4, none⟩ = some (.string nm) ∧ w''.cell? ⟨w.heap.size, 5, none⟩ = some (.string vl))
    ((first | assumption | (apply SS; first | exact Keeps.refl _ | exact keeps_drew (Keeps.refl _))))
    (first
      | (go_at_call 60; refine HA.out.mono ?_; rintro e w2 ⟨rfl, b2, q2, HZ⟩))
  all_goals
    go_wp2_with fail
    go_ret3
    obtain ⟨rs', e1, e2⟩ := HZ.out
    exact ⟨rs', by rw [e1]; rfl, b2, e2⟩
end Go.Proofs.Ytookcjdibpccpab

/-
  THE WALK of dom.Apply, over what change makes.
-/
namespace Go.Proofs.Ytookcjdibpccpab
open Go.RowKit

/-- what change makes of a document of the call's own: the error, the node, the document -/
def Chs (d : Tn.Dc) (x : Tn.Chg) (cd nv : Int) (D : Tn.Dc) : Prop := ∀ (B : Nat) (W : World) (g c : Nat) (rs : List Raw), B ≤ W.heap.size → Owned W B g c rs d →
  Calls Try.prog 34 #[.slice (some ⟨g, 0, none⟩) rs.length c, chg6 x] W fun e w' => ∃ dv v, e = .returned (.tuple #[dv, .int .i64 v, .int .i64 cd]) ∧ Below B W w' ∧ Hid (cd = 0 → v = nv ∧ ∃ (g' c' : Nat) (rs' : List Raw), dv = .slice (some ⟨g', 0, none⟩) rs'.length c' ∧ Owned w' B g' c' rs' D)

set_option maxHeartbeats 400000 in
set_option maxRecDepth 100000 in
theorem dapply_chs {w : World} {b o c : Nat} {rs : List Raw} {d : Tn.Dc} (hd : DocAt w b o c rs d) (h0 : 0 < rs.length) (hlen : d.length ≤ 1000) (hls : ∀ j s, (Tn.liD d j s).length ≤ 1000) (hal : ∀ k, (Tn.nd d k).attrs.length ≤ 1000)
    (kd nn tt bf : Int) (nm vl : ByteArray) (hk1 : 1 ≤ kd) (hk2 : kd ≤ 10) (hi : Tn.isN d nn false = true) {cd nv : Int} {D : Tn.Dc} (hC : Chs d ⟨kd, nn, tt, bf, nm, vl⟩ cd nv D) (hD : cd = 0 → Tn.lvD D 0 = true) :
    Calls Try.prog 9 #[.slice (some ⟨b, o, none⟩) rs.length c, chg6 ⟨kd, nn, tt, bf, nm, vl⟩] w fun e w' => ∃ v, e = .returned v ∧ Below w.heap.size w w' ∧ ((cd ≠ 0 ∧ v = .tuple #[.slice none 0 0, .int .i64 0, .int .i64 cd]) ∨ (cd = 0 ∧ ∃ (g' c' : Nat) (rs' : List Raw), v = .tuple #[.slice (some ⟨g', 0, none⟩) rs'.length c', .int .i64 nv, .int .i64 0] ∧ DocAt w' g' 0 c' rs' (Tn.trimD D) ∧ 0 < rs'.length)) := by
  have B1 : Below w.heap.size w (w.alloc (.cells #[.int .i64 kd, .int .i64 nn, .int .i64 tt, .int .i64 bf, .string nm, .string vl] 28)) := (Below.refl _ _).alloc (Nat.le_refl _) _
  have HD : Hid (DocAt (w.alloc (.cells #[.int .i64 kd, .int .i64 nn, .int .i64 tt, .int .i64 bf, .string nm, .string vl] 28)) b o c rs d) := hd.keeps (keeps_below B1 (Nat.le_refl _))
  have HC : Hid (Chs d ⟨kd, nn, tt, bf, nm, vl⟩ cd nv D) := hC
  have hlr : Hid (rs.length = d.length) := hd.len
  have HD0 : Hid (cd = 0 → Tn.lvD D 0 = true) := hD
  have BB1 : Hid (Below w.heap.size w (w.alloc (.cells #[.int .i64 kd, .int .i64 nn, .int .i64 tt, .int .i64 bf, .string nm, .string vl] 28))) := B1
  clear hd hC hD B1
  unfold chg6
  simp only
  go_enter Try.func9, Try.ntmps9
  go_wp2_with fail
  refine (dis_any HD.out nn false).mono ?_
  rintro e w1 ⟨rfl, hw1⟩
  subst hw1
  rw [hi]
  go_wp2_with fail
  have S0 : (fun w'' : World => w''.cell? ⟨w.heap.size, 0, none⟩ = some (.int .i64 kd) ∧ w''.cell? ⟨w.heap.size, 1, none⟩ = some (.int .i64 nn) ∧ w''.cell? ⟨w.heap.size, 2, none⟩ = some (.int .i64 tt) ∧ w''.cell? ⟨w.heap.size, 3, none⟩ = some (.int .i64 bf) ∧ w''.cell? ⟨w.heap.size, 4, none⟩ = some (.string nm) ∧ w''.cell? ⟨w.heap.size, 5, none⟩ = some (.string vl)) (w.alloc (.cells #[.int .i64 kd, .int .i64 nn, .int .i64 tt, .int .i64 bf, .string nm, .string vl] 28)) := by
    refine ⟨?_, ?_, ?_, ?_, ?_, ?_⟩ <;> (rw [World.cell?_alloc_new]; rfl)
  have SK : ∀ w'', (∀ j, w''.cell? ⟨w.heap.size, j, none⟩ = (w.alloc (.cells #[.int .i64 kd, .int .i64 nn, .int .i64 tt, .int .i64 bf, .string nm, .string vl] 28)).cell? ⟨w.heap.size, j, none⟩) → (fun w'' : World => w''.cell? ⟨w.heap.size, 0, none⟩ = some (.int .i64 kd) ∧ w''.cell? ⟨w.heap.size, 1, none⟩ = some (.int .i64 nn) ∧ w''.cell? ⟨w.heap.size, 2, none⟩ = some (.int .i64 tt) ∧ w''.cell? ⟨w.heap.size, 3, none⟩ = some (.int .i64 bf) ∧ w''.cell? ⟨w.heap.size, 4, none⟩ = some (.string nm) ∧ w''.cell? ⟨w.heap.size, 5, none⟩ = some (.string vl)) w'' := fun w'' hk => by
    obtain ⟨s0, s1, s2, s3, s4, s5⟩ := S0
    exact ⟨(hk 0).trans s0, (hk 1).trans s1, (hk 2).trans s2, (hk 3).trans s3, (hk 4).trans s4, (hk 5).trans s5⟩
  have HSK : Hid (∀ w'', (∀ j, w''.cell? ⟨w.heap.size, j, none⟩ = (w.alloc (.cells #[.int .i64 kd, .int .i64 nn, .int .i64 tt, .int .i64 bf, .string nm, .string vl] 28)).cell? ⟨w.heap.size, j, none⟩) → (fun w'' : World => w''.cell? ⟨w.heap.size, 0, none⟩ = some (.int .i64 kd) ∧ w''.cell? ⟨w.heap.size, 1, none⟩ = some (.int .i64 nn) ∧ w''.cell? ⟨w.heap.size, 2, none⟩ = some (.int .i64 tt) ∧ w''.cell? ⟨w.heap.size, 3, none⟩ = some (.int .i64 bf) ∧ w''.cell? ⟨w.heap.size, 4, none⟩ = some (.string nm) ∧ w''.cell? ⟨w.heap.size, 5, none⟩ = some (.string vl)) w'') := SK
  clear SK
  have HOwn : Hid (Calls Try.prog 35 #[.slice (some ⟨b, o, none⟩) rs.length c] (w.alloc (.cells #[.int .i64 kd, .int .i64 nn, .int .i64 tt, .int .i64 bf, .string nm, .string vl] 28)).drew fun e w' => ∃ (g c' : Nat) (rs' : List Raw), e = .returned (.slice (some ⟨g, 0, none⟩) rs'.length c') ∧ Hid (Owned w' (w.alloc (.cells #[.int .i64 kd, .int .i64 nn, .int .i64 tt, .int .i64 bf, .string nm, .string vl] 28)).drew.heap.size g c' rs' d) ∧ Hid (Below (w.alloc (.cells #[.int .i64 kd, .int .i64 nn, .int .i64 tt, .int .i64 bf, .string nm, .string vl] 28)).drew.heap.size (w.alloc (.cells #[.int .i64 kd, .int .i64 nn, .int .i64 tt, .int .i64 bf, .string nm, .string vl] 28)).drew w')) := by
    refine (down_any (HD.out.keeps (keeps_drew (Keeps.refl _))) h0 hlen hls hal).mono ?_
    rintro e w' ⟨g, c', rs', e1, e2, e3⟩
    exact ⟨g, c', rs', e1, e2.owned, e3⟩
  clear hls hal
  go_region_held3 (fun w'' : World => w''.cell? ⟨w.heap.size, 0, none⟩ = some (.int .i64 kd) ∧ w''.cell? ⟨w.heap.size, 1, none⟩ = some (.int .i64 nn) ∧ w''.cell? ⟨w.heap.size, 2, none⟩ = some (.int .i64 tt) ∧ w''.cell? ⟨w.heap.size, 3, none⟩ = some (.int .i64 bf) ∧ w''.cell? ⟨w.heap.size, 4, none⟩ = some (.string nm) ∧ w''.cell? ⟨w.heap.size, 5, none⟩ = some (.string vl))
    ((first | assumption | (apply HSK.out; intro j; first | rfl | exact World.cell?_drew _ _)))
    (first
      | (go_at_call 35; refine HOwn.out.mono ?_; rintro e w2 ⟨g, c', rs', rfl, O2, b2⟩; have q2 : (fun w'' : World => w''.cell? ⟨w.heap.size, 0, none⟩ = some (.int .i64 kd) ∧ w''.cell? ⟨w.heap.size, 1, none⟩ = some (.int .i64 nn) ∧ w''.cell? ⟨w.heap.size, 2, none⟩ = some (.int .i64 tt) ∧ w''.cell? ⟨w.heap.size, 3, none⟩ = some (.int .i64 bf) ∧ w''.cell? ⟨w.heap.size, 4, none⟩ = some (.string nm) ∧ w''.cell? ⟨w.heap.size, 5, none⟩ = some (.string vl)) w2 := HSK.out w2 (fun j => (b2.out.cell (by simp)).trans (World.cell?_drew _ _)))
      | (go_at_call 34; refine (HC.out _ w2 g c' rs' b2.out.size O2.out).mono ?_; rintro e w3 ⟨dv, v, rfl, b3, HZ⟩; have q3 : (fun w'' : World => w''.cell? ⟨w.heap.size, 0, none⟩ = some (.int .i64 kd) ∧ w''.cell? ⟨w.heap.size, 1, none⟩ = some (.int .i64 nn) ∧ w''.cell? ⟨w.heap.size, 2, none⟩ = some (.int .i64 tt) ∧ w''.cell? ⟨w.heap.size, 3, none⟩ = some (.int .i64 bf) ∧ w''.cell? ⟨w.heap.size, 4, none⟩ = some (.string nm) ∧ w''.cell? ⟨w.heap.size, 5, none⟩ = some (.string vl)) w3 := HSK.out w3 (fun j => (b3.cell (by simp)).trans ((b2.out.cell (by simp)).trans (World.cell?_drew _ _)))))
  all_goals
    have B3 : Hid (Below w.heap.size w w3) := by
      have h1 := BB1.out.drew.trans (b2.out.mono (by simp))
      exact h1.trans (b3.mono (by simp))
    clear q2 q3 b2 b3 O2 HOwn HSK HC S0 BB1 HD
    by_cases hcd : cd = 0
    · subst hcd
      obtain ⟨rfl, g', c'', rs'', rfl, O3⟩ := HZ.out rfl
      have hl0 : 0 < rs''.length := by
        have := Tn.lv_lt (HD0.out rfl)
        have e := O3.len
        omega
      have HTr : Hid (Calls Try.prog 36 #[.slice (some ⟨g', 0, none⟩) rs''.length c''] w3 fun e w' => ∃ rs', e = .returned (.slice (some ⟨g', 0, none⟩) rs'.length c'') ∧ DocAt w3 g' 0 c'' rs' (Tn.trimD D) ∧ 0 < rs'.length ∧ w' = w3) := dtrim_any (O3.doc hl0) hl0 (HD0.out rfl)
      clear HZ O3
      go_wp2_with fail
      refine HTr.out.mono ?_
      rintro e w4 ⟨rs4, rfl, D4, hl4, rfl⟩
      have HD4 : Hid (DocAt w4 g' 0 c'' rs4 (Tn.trimD D)) := D4
      clear D4 HTr
      go_wp2_with fail
      go_ret3
      exact ⟨_, rfl, B3.out, g', c'', rs4, rfl, HD4.out, hl4⟩
    · have hne : (cd != 0) = true := by simpa using hcd
      clear HZ
      go_wp2_with fail
      go_ret3
      exact ⟨_, rfl, B3.out, Or.inl ⟨hcd, rfl⟩⟩
end Go.Proofs.Ytookcjdibpccpab

/-
  PLAIN MATHEMATICS: what dom makes of a good document is what the reference makes: a node is made.
-/
namespace Go.Proofs.Ytookcjdibpccpab
open Tn

theorem lastAt_none {l : List Nat} {b : Int} (h : ∀ j (hj : j < l.length), ¬ ((l[j] : Int) = b)) : ∀ k, k ≤ l.length → lastAt l b k = -1
  | 0, _ => rfl
  | k + 1, hk => by
    rw [lastAt, if_neg (by rw [List.getElem?_eq_getElem (by omega)]; exact h k (by omega))]
    exact lastAt_none h k (by omega)
theorem lastAt_one {l : List Nat} {b : Int} {j : Nat} (hj : j < l.length) (e : (l[j] : Int) = b) (hn : l.Nodup) : ∀ k, k ≤ l.length → j < k → lastAt l b k = (j : Int)
  | 0, _, h => by omega
  | k + 1, hk, h => by
    rw [lastAt]
    by_cases ek : k = j
    · subst ek
      rw [if_pos (by rw [List.getElem?_eq_getElem hj]; exact e)]
    · rw [if_neg (by
        rw [List.getElem?_eq_getElem (by omega)]
        intro e2
        have e3 : l[k]'(by omega) = l[j] := by
          have : ((l[k]'(by omega) : Nat) : Int) = (l[j] : Int) := by rw [e]; exact e2
          omega
        exact ek ((List.getElem_inj hn).mp e3))]
      exact lastAt_one hj e hn k (by omega) (by omega)
theorem place_putAt {l : List Nat} (hn : l.Nodup) (b : Int) : place l b = putAt l b := by
  unfold place putAt
  split
  · rcases idx_cases2 (fun k => (k : Int) == b) l with ⟨e, hno⟩ | ⟨j, hj, e, hp, _⟩
    · rw [e]
      exact lastAt_none (fun j hj h => by have := hno l[j] (List.getElem_mem hj); simp [h] at this) _ (Nat.le_refl _)
    · rw [e]
      exact lastAt_one hj (by simpa using hp) hn _ (Nat.le_refl _) hj
  · rfl

theorem addIn_withd (d : Dc) (x : Chg) : addIn d x = withd d (free d) (newNd x) := by
  unfold addIn withd
  split
  · rename_i e
    rw [e, List.set_append_right _ _ (Nat.le_refl _)]
    simp
  · rfl
theorem addIn_nd (d : Dc) (x : Chg) (hf : free d ≤ d.length) (j : Nat) : nd (addIn d x) j = if j = free d then newNd x else nd d j := by
  rw [addIn_withd d x]
  exact nd_withd d (free d) (newNd x) hf j

/-- two documents of one length whose nodes are the same are one -/
theorem doc_ext {a b : Dc} (hl : a.length = b.length) (h : ∀ j, nd a j = nd b j) : a = b := by
  apply List.ext_getElem hl
  intro i h1 h2
  have := h i
  unfold nd at this
  rw [List.getElem?_eq_getElem h1, List.getElem?_eq_getElem h2] at this
  exact this

theorem nd_setL (d : Dc) (k : Nat) (n : Nd) (hk : k < d.length) (j : Nat) : nd (d.set k n) j = if j = k then n else nd d j := by
  unfold nd
  rw [List.getElem?_set]
  by_cases e : k = j
  · subst e
    rw [if_pos rfl, if_pos hk, if_pos rfl]
    rfl
  · rw [if_neg e, if_neg (fun h => e h.symm)]

theorem len_withd (d : Dc) (k : Nat) (n : Nd) (hk : k ≤ d.length) : (withd d k n).length = max d.length (k + 1) := by
  unfold withd
  split
  · simp; omega
  · simp; omega

theorem made_newNd (x : Chg) (hk : x.kind = 1 ∨ x.kind = 2) (m : Nat) : made (newN x) m false = { newNd x with up := (m : Int), inS := false } := by
  unfold made newN newNd isText
  rcases hk with h | h <;> rw [h] <;> rfl

theorem li_addIn {d : Dc} (h : Tn.Good d) (x : Chg) (j : Nat) (t : Bool) : liD (addIn d x) j t = liD d j t := by
  obtain ⟨hf1, hf2⟩ := free_spec d
  unfold liD
  rw [addIn_nd d x hf1]
  by_cases e : j = free d
  · rw [if_pos e, e, h.dead _ hf2]
    unfold newNd
    split <;> (cases t <;> rfl)
  · rw [if_neg e]

/-- the document in which the node was made -/
theorem put_make {d : Dc} (h : Tn.Good d) (x : Chg) (hk : x.kind = 1 ∨ x.kind = 2) {m : Nat} (hm : lvD d m = true) (b : Int) :
    putDoc (addIn d x) (free d) m b false = put1 (withd d (free d) (made (newN x) m false)) (free d) m b false := by
  obtain ⟨hf1, hf2⟩ := free_spec d
  obtain ⟨r, hr, hR⟩ := h.tr
  have hml := lv_lt hm
  have hmk : m ≠ free d := fun e => by rw [e, hf2] at hm; cases hm
  have hla : (addIn d x).length = max d.length (free d + 1) := by rw [addIn_withd d x]; exact len_withd _ _ _ hf1
  have hm1 : m < (addIn d x).length := by omega
  have hf3 : free d < (addIn d x).length := by omega
  have hm2 : m < (withd d (free d) (made (newN x) m false)).length := by rw [len_withd _ _ _ hf1]; omega
  have hlist : listOf (nd (withd d (free d) (made (newN x) m false)) m) false = listOf (nd d m) false := by rw [nd_withd _ _ _ hf1, if_neg hmk]
  have hlist2 : listOf (nd (addIn d x) m) false = listOf (nd d m) false := by rw [addIn_nd d x hf1, if_neg hmk]
  have hpl : place (listOf (nd d m) false) b = putAt (listOf (nd d m) false) b := place_putAt (hr.1.nodup m false) b
  refine doc_ext ?_ fun j => ?_
  · rw [put1_len _ _ _ _ _ hm2, len_withd _ _ _ hf1]
    unfold putDoc putIn
    rw [List.length_set, List.length_set, hla]
  · rw [put1_nd _ _ _ _ _ hm2, hlist, hpl, nd_withd _ _ _ hf1, nd_withd _ _ _ hf1, if_neg hmk, made_newNd x hk]
    unfold putDoc
    have hpi : ∀ i, nd (putIn (addIn d x) (free d) m b false) i = if i = m then setList (nd d m) false (insertAt (listOf (nd d m) false) (putAt (listOf (nd d m) false) b).toNat (free d)) else nd (addIn d x) i := by
      intro i
      unfold putIn
      rw [nd_setL _ _ _ hm1, hlist2, addIn_nd d x hf1 m, if_neg hmk]
    have hpk : nd (putIn (addIn d x) (free d) m b false) (free d) = newNd x := by
      rw [hpi, if_neg (fun e => hmk e.symm), addIn_nd d x hf1, if_pos rfl]
    rw [nd_setL _ _ _ (by unfold putIn; rw [List.length_set]; exact hf3), hpk]
    by_cases e : j = free d
    · skip
      simp only [e, if_true]
      rw [if_neg (fun e3 => hmk e3.symm)]
    · rw [if_neg e, hpi, addIn_nd d x hf1, if_neg e, if_neg e]
end Go.Proofs.Ytookcjdibpccpab
