/-
  OWN WORK: Jse, Jav, Jun, Jub, Jsw, Jwj.
-/
import Derived.Test.YtpnineimnjibaafDoorP1
import Derived.Test.YtpnineimnjibaafDoorP3
import Derived.Test.YtpnineimnjibaafDoorP2
import Derived.Deep.CutRange
/-
  THE WALK of the reference's SameEvents, at events that read the same.
-/
namespace Go.Proofs.YtpnineimnjibaafDoor
open Go.RowKit Go.Lib

/-- one item in a block by itself -/
theorem izs_one {w : World} {P : Nat → Prop} {g : Nat} {y : Iz} {kv : Value} (h : w.heap[g]? = some (.cells (izc (y, kv)).toArray 33)) (hk : IzsAt w P kv y.kids) (hg : P g) : IzsAt w P (.slice (some ⟨g, 0, none⟩) 1 1) [y] := by
  refine .mk (some ⟨g, 0, none⟩) 1 [y] [kv] rfl (Nat.le_refl _) (by decide) (fun j hj hj' => ?_) (fun j hj hj' => ?_)
  · obtain rfl : j = 0 := by simp at hj; exact hj
    have c : ∀ i, w.cell? ⟨g, i, none⟩ = (izc (y, kv))[i]? := fun i => by rw [cell_of_block h i]; simp
    refine ⟨g, 0, rfl, hg, ?_⟩
    simp only [Nat.zero_mul, Nat.add_zero, List.getElem_cons_zero]
    exact ⟨(c 0).trans rfl, (c 1).trans rfl, (c 2).trans rfl, (c 3).trans rfl, (c 4).trans rfl, (c 5).trans rfl, (c 6).trans rfl, (c 7).trans rfl⟩
  · obtain rfl : j = 0 := by simp at hj; exact hj
    exact hk

set_option maxHeartbeats 6400000 in
set_option maxRecDepth 100000 in
theorem ysameevents {P Q : Nat → Prop} {v1 v2 : Value} {l : List Ez} {w : World} (hr1 : EzsAt w P v1 l) (hr2 : EzsAt w Q v2 l) :
    Calls Tryd.prog 10 #[v1, v2] w fun e w' => e = .returned (.bool true) ∧ Below w.heap.size w w' := by
  obtain ⟨p1, c1, rfl, y1, y2, hat1⟩ := hr1
  obtain ⟨p2, c2, rfl, u1, u2, hat2⟩ := hr2
  have T1 : Hid (∀ j (hj : j < l.length), ∃ b o kv, p1 = some ⟨b, o, none⟩ ∧ P b ∧ EzAt w b (o + j * 12) l[j] kv ∧ IzsAt w P kv l[j].item.kids) := hat1
  have T2 : Hid (∀ j (hj : j < l.length), ∃ b o kv, p2 = some ⟨b, o, none⟩ ∧ Q b ∧ EzAt w b (o + j * 12) l[j] kv ∧ IzsAt w Q kv l[j].item.kids) := hat2
  clear hat1 hat2
  go_enter Tryd.func10, Tryd.ntmps10
  go_wp2_with fail
  go_loopw [15] (fun i wr => ∃ j : Nat, j ≤ l.length ∧ i = .int .i64 j ∧ Below w.heap.size w wr) (fun i _ => l.length - (RowKit.intOf i).toNat)
  case atStart => exact ⟨0, Nat.zero_le _, rfl, Below.refl _ _⟩
  case round =>
    obtain ⟨j, hj, rfl, hnx⟩ := hrel
    have hbz := hnx.size
    by_cases hlt : j < l.length
    · obtain ⟨b1, o1, kv1, rfl, _, hc1, hrow1⟩ := T1.out j hlt
      obtain ⟨b2, o2, kv2, rfl, _, hc2, hrow2⟩ := T2.out j hlt
      have KB : Keeps w wr := keeps_below hnx (Nat.le_refl _)
      have e0 := KB _ _ hc1.c0
      have e1 := KB _ _ hc1.c1
      have e2 := KB _ _ hc1.c2
      have e3 := KB _ _ hc1.c3
      have e4 := KB _ _ hc1.it.c0
      have e5 := KB _ _ hc1.it.c1
      have e6 := KB _ _ hc1.it.c2
      have e7 := KB _ _ hc1.it.c3
      have e8 := KB _ _ hc1.it.c4
      have e9 := KB _ _ hc1.it.c5
      have e10 := KB _ _ hc1.it.c6
      have e11 := KB _ _ hc1.it.c7
      have g0 := KB _ _ hc2.c0
      have g1 := KB _ _ hc2.c1
      have g2 := KB _ _ hc2.c2
      have g3 := KB _ _ hc2.c3
      have g4 := KB _ _ hc2.it.c0
      have g5 := KB _ _ hc2.it.c1
      have g6 := KB _ _ hc2.it.c2
      have g7 := KB _ _ hc2.it.c3
      have g8 := KB _ _ hc2.it.c4
      have g9 := KB _ _ hc2.it.c5
      have g10 := KB _ _ hc2.it.c6
      have g11 := KB _ _ hc2.it.c7
      simp only [Nat.add_assoc (o1 + j * 12), Nat.reduceAdd] at e5 e6 e7 e8 e9 e10 e11
      simp only [Nat.add_assoc (o2 + j * 12), Nat.reduceAdd] at g5 g6 g7 g8 g9 g10 g11
      obtain ⟨pk1, ck1, rfl⟩ := hrow1.shape
      obtain ⟨pk2, ck2, rfl⟩ := hrow2.shape
      have CCc : Hid (∀ W, Below w.heap.size w W → Calls Tryd.prog 20 #[.slice (some ⟨W.heap.size, 0, none⟩) 1 1, .slice (some ⟨W.heap.size + 1, 0, none⟩) 1 1] ((W.alloc (.cells (izc (l[j].item, .slice pk1 l[j].item.kids.length ck1)).toArray 33)).alloc (.cells (izc (l[j].item, .slice pk2 l[j].item.kids.length ck2)).toArray 33))
          fun e w' => e = .returned (.bool true) ∧ Below W.heap.size W w') := fun W hW => by
        have hz : (W.alloc (.cells (izc (l[j].item, .slice pk1 l[j].item.kids.length ck1)).toArray 33)).heap.size = W.heap.size + 1 := by simp
        have B2 : Below W.heap.size W ((W.alloc (.cells (izc (l[j].item, .slice pk1 l[j].item.kids.length ck1)).toArray 33)).alloc (.cells (izc (l[j].item, .slice pk2 l[j].item.kids.length ck2)).toArray 33)) := ((Below.refl _ _).alloc (Nat.le_refl _) _).alloc (by omega) _
        have hA := (hrow1.under hW).any (Q := fun _ => True) (fun _ _ _ => trivial)
        have hB := (hrow2.under hW).any (Q := fun _ => True) (fun _ _ _ => trivial)
        refine (usame_true (P := fun _ => True) (Q := fun _ => True) (nodesZ [l[j].item]).length _ _ [l[j].item] _ (izs_one (g := W.heap.size) (y := l[j].item) (kv := .slice pk1 l[j].item.kids.length ck1) ?_ (hA.under B2) trivial) (izs_one (g := W.heap.size + 1) (y := l[j].item) (kv := .slice pk2 l[j].item.kids.length ck2) ?_ (hB.under B2) trivial) (Nat.le_refl _)).mono ?_
        · rw [heap_alloc_old _ _ (by omega), heap_alloc_new]
        · rw [← hz, heap_alloc_new]
        · rintro e w' ⟨h1, h2⟩
          exact ⟨h1, B2.trans (h2.mono B2.size)⟩
      unfold izc at CCc
      simp only at CCc
      clear hc1 hc2 hrow1 hrow2 KB
      generalize l[j].item.kids.length = kl at *
      generalize l[j].item.node = x0 at *
      generalize l[j].item.role = x1 at *
      generalize l[j].item.name = x2 at *
      generalize l[j].item.about = x3 at *
      generalize l[j].item.level = x4 at *
      generalize l[j].item.checked = x5 at *
      generalize l[j].item.off = x6 at *
      generalize l[j].kind = z0 at *
      generalize l[j].node = z1 at *
      generalize l[j].tgt = z2 at *
      generalize l[j].at_ = z3 at *
      go_upto_region 6 with fail
      have SS : ∀ w'', Keeps wr w'' → (fun w'' : World => w''.cell? ⟨b1, o1 + j * 12, none⟩ = some (.int .i64 z0) ∧ w''.cell? ⟨b1, o1 + j * 12 + 1, none⟩ = some (.int .i64 z1) ∧ w''.cell? ⟨b1, o1 + j * 12 + 2, none⟩ = some (.int .i64 z2) ∧ w''.cell? ⟨b1, o1 + j * 12 + 3, none⟩ = some (.int .i64 z3) ∧ w''.cell? ⟨b1, o1 + j * 12 + 4, none⟩ = some (.int .i64 x0) ∧ w''.cell? ⟨b1, o1 + j * 12 + 5, none⟩ = some (.int .i64 x1) ∧ w''.cell? ⟨b1, o1 + j * 12 + 6, none⟩ = some (.string x2) ∧ w''.cell? ⟨b1, o1 + j * 12 + 7, none⟩ = some (.string x3) ∧ w''.cell? ⟨b1, o1 + j * 12 + 8, none⟩ = some (.int .i64 x4) ∧ w''.cell? ⟨b1, o1 + j * 12 + 9, none⟩ = some (.int .i64 x5) ∧ w''.cell? ⟨b1, o1 + j * 12 + 10, none⟩ = some (.bool x6) ∧ w''.cell? ⟨b1, o1 + j * 12 + 11, none⟩ = some (.slice pk1 kl ck1) ∧ w''.cell? ⟨b2, o2 + j * 12, none⟩ = some (.int .i64 z0) ∧ w''.cell? ⟨b2, o2 + j * 12 + 1, none⟩ = some (.int .i64 z1) ∧ w''.cell? ⟨b2, o2 + j * 12 + 2, none⟩ = some (.int .i64 z2) ∧ w''.cell? ⟨b2, o2 + j * 12 + 3, none⟩ = some (.int .i64 z3) ∧ w''.cell? ⟨b2, o2 + j * 12 + 4, none⟩ = some (.int .i64 x0) ∧ w''.cell? ⟨b2, o2 + j * 12 + 5, none⟩ = some (.int .i64 x1) ∧ w''.cell? ⟨b2, o2 + j * 12 + 6, none⟩ = some (.string x2) ∧ w''.cell? ⟨b2, o2 + j * 12 + 7, none⟩ = some (.string x3) ∧ w''.cell? ⟨b2, o2 + j * 12 + 8, none⟩ = some (.int .i64 x4) ∧ w''.cell? ⟨b2, o2 + j * 12 + 9, none⟩ = some (.int .i64 x5) ∧ w''.cell? ⟨b2, o2 + j * 12 + 10, none⟩ = some (.bool x6) ∧ w''.cell? ⟨b2, o2 + j * 12 + 11, none⟩ = some (.slice pk2 kl ck2)) w'' := fun w'' k => ⟨k _ _ e0, k _ _ e1, k _ _ e2, k _ _ e3, k _ _ e4, k _ _ e5, k _ _ e6, k _ _ e7, k _ _ e8, k _ _ e9, k _ _ e10, k _ _ e11, k _ _ g0, k _ _ g1, k _ _ g2, k _ _ g3, k _ _ g4, k _ _ g5, k _ _ g6, k _ _ g7, k _ _ g8, k _ _ g9, k _ _ g10, k _ _ g11⟩
      go_region_held3 (fun w'' : World => w''.cell? ⟨b1, o1 + j * 12, none⟩ = some (.int .i64 z0) ∧ w''.cell? ⟨b1, o1 + j * 12 + 1, none⟩ = some (.int .i64 z1) ∧ w''.cell? ⟨b1, o1 + j * 12 + 2, none⟩ = some (.int .i64 z2) ∧ w''.cell? ⟨b1, o1 + j * 12 + 3, none⟩ = some (.int .i64 z3) ∧ w''.cell? ⟨b1, o1 + j * 12 + 4, none⟩ = some (.int .i64 x0) ∧ w''.cell? ⟨b1, o1 + j * 12 + 5, none⟩ = some (.int .i64 x1) ∧ w''.cell? ⟨b1, o1 + j * 12 + 6, none⟩ = some (.string x2) ∧ w''.cell? ⟨b1, o1 + j * 12 + 7, none⟩ = some (.string x3) ∧ w''.cell? ⟨b1, o1 + j * 12 + 8, none⟩ = some (.int .i64 x4) ∧ w''.cell? ⟨b1, o1 + j * 12 + 9, none⟩ = some (.int .i64 x5) ∧ w''.cell? ⟨b1, o1 + j * 12 + 10, none⟩ = some (.bool x6) ∧ w''.cell? ⟨b1, o1 + j * 12 + 11, none⟩ = some (.slice pk1 kl ck1) ∧ w''.cell? ⟨b2, o2 + j * 12, none⟩ = some (.int .i64 z0) ∧ w''.cell? ⟨b2, o2 + j * 12 + 1, none⟩ = some (.int .i64 z1) ∧ w''.cell? ⟨b2, o2 + j * 12 + 2, none⟩ = some (.int .i64 z2) ∧ w''.cell? ⟨b2, o2 + j * 12 + 3, none⟩ = some (.int .i64 z3) ∧ w''.cell? ⟨b2, o2 + j * 12 + 4, none⟩ = some (.int .i64 x0) ∧ w''.cell? ⟨b2, o2 + j * 12 + 5, none⟩ = some (.int .i64 x1) ∧ w''.cell? ⟨b2, o2 + j * 12 + 6, none⟩ = some (.string x2) ∧ w''.cell? ⟨b2, o2 + j * 12 + 7, none⟩ = some (.string x3) ∧ w''.cell? ⟨b2, o2 + j * 12 + 8, none⟩ = some (.int .i64 x4) ∧ w''.cell? ⟨b2, o2 + j * 12 + 9, none⟩ = some (.int .i64 x5) ∧ w''.cell? ⟨b2, o2 + j * 12 + 10, none⟩ = some (.bool x6) ∧ w''.cell? ⟨b2, o2 + j * 12 + 11, none⟩ = some (.slice pk2 kl ck2))
        ((apply SS; repeat (first | exact Keeps.refl _ | apply keeps_drew | apply keeps_alloc')))
        (fail)
      · have HX : Hid ((((wr.alloc (.cells #[.int .i64 z0, .int .i64 z1, .int .i64 z2, .int .i64 z3, .int .i64 x0, .int .i64 x1, .string x2, .string x3, .int .i64 x4, .int .i64 x5, .bool x6, .slice pk1 kl ck1] 35)).alloc (.cells #[.int .i64 z0, .int .i64 z1, .int .i64 z2, .int .i64 z3, .int .i64 x0, .int .i64 x1, .string x2, .string x3, .int .i64 x4, .int .i64 x5, .bool x6, .slice pk2 kl ck2] 35)).drew).heap[wr.heap.size]? = some (.cells #[.int .i64 z0, .int .i64 z1, .int .i64 z2, .int .i64 z3, .int .i64 x0, .int .i64 x1, .string x2, .string x3, .int .i64 x4, .int .i64 x5, .bool x6, .slice pk1 kl ck1] 35)) := by
          show ((wr.alloc (.cells #[.int .i64 z0, .int .i64 z1, .int .i64 z2, .int .i64 z3, .int .i64 x0, .int .i64 x1, .string x2, .string x3, .int .i64 x4, .int .i64 x5, .bool x6, .slice pk1 kl ck1] 35)).alloc (.cells #[.int .i64 z0, .int .i64 z1, .int .i64 z2, .int .i64 z3, .int .i64 x0, .int .i64 x1, .string x2, .string x3, .int .i64 x4, .int .i64 x5, .bool x6, .slice pk2 kl ck2] 35)).heap[wr.heap.size]? = _
          rw [heap_alloc_old _ _ (by simp), heap_alloc_new]
        have HY : Hid ((((wr.alloc (.cells #[.int .i64 z0, .int .i64 z1, .int .i64 z2, .int .i64 z3, .int .i64 x0, .int .i64 x1, .string x2, .string x3, .int .i64 x4, .int .i64 x5, .bool x6, .slice pk1 kl ck1] 35)).alloc (.cells #[.int .i64 z0, .int .i64 z1, .int .i64 z2, .int .i64 z3, .int .i64 x0, .int .i64 x1, .string x2, .string x3, .int .i64 x4, .int .i64 x5, .bool x6, .slice pk2 kl ck2] 35)).drew).heap[wr.heap.size + 1]? = some (.cells #[.int .i64 z0, .int .i64 z1, .int .i64 z2, .int .i64 z3, .int .i64 x0, .int .i64 x1, .string x2, .string x3, .int .i64 x4, .int .i64 x5, .bool x6, .slice pk2 kl ck2] 35)) := by
          show ((wr.alloc (.cells #[.int .i64 z0, .int .i64 z1, .int .i64 z2, .int .i64 z3, .int .i64 x0, .int .i64 x1, .string x2, .string x3, .int .i64 x4, .int .i64 x5, .bool x6, .slice pk1 kl ck1] 35)).alloc (.cells #[.int .i64 z0, .int .i64 z1, .int .i64 z2, .int .i64 z3, .int .i64 x0, .int .i64 x1, .string x2, .string x3, .int .i64 x4, .int .i64 x5, .bool x6, .slice pk2 kl ck2] 35)).heap[wr.heap.size + 1]? = _
          rw [show wr.heap.size + 1 = (wr.alloc (.cells #[.int .i64 z0, .int .i64 z1, .int .i64 z2, .int .i64 z3, .int .i64 x0, .int .i64 x1, .string x2, .string x3, .int .i64 x4, .int .i64 x5, .bool x6, .slice pk1 kl ck1] 35)).heap.size by simp, heap_alloc_new]
        have BQ : Below w.heap.size w ((wr.alloc (.cells #[.int .i64 z0, .int .i64 z1, .int .i64 z2, .int .i64 z3, .int .i64 x0, .int .i64 x1, .string x2, .string x3, .int .i64 x4, .int .i64 x5, .bool x6, .slice pk1 kl ck1] 35)).alloc (.cells #[.int .i64 z0, .int .i64 z1, .int .i64 z2, .int .i64 z3, .int .i64 x0, .int .i64 x1, .string x2, .string x3, .int .i64 x4, .int .i64 x5, .bool x6, .slice pk2 kl ck2] 35)).drew := ((hnx.alloc hbz _).alloc (by simp; omega) _).drew
        clear e0 g0 e1 g1 e2 g2 e3 g3 e4 g4 e5 g5 e6 g6 e7 g7 e8 g8 e9 g9 e10 g10 e11 g11 SS
        generalize ((wr.alloc (.cells #[.int .i64 z0, .int .i64 z1, .int .i64 z2, .int .i64 z3, .int .i64 x0, .int .i64 x1, .string x2, .string x3, .int .i64 x4, .int .i64 x5, .bool x6, .slice pk1 kl ck1] 35)).alloc (.cells #[.int .i64 z0, .int .i64 z1, .int .i64 z2, .int .i64 z3, .int .i64 x0, .int .i64 x1, .string x2, .string x3, .int .i64 x4, .int .i64 x5, .bool x6, .slice pk2 kl ck2] 35)).drew = W at *
        generalize wr.heap.size + 1 = Y at *
        generalize wr.heap.size = X at *
        have q0 : W.cell? ⟨X, 0, none⟩ = some (.int .i64 z0) := cell_of_block HX.out 0
        have q1 : W.cell? ⟨X, 1, none⟩ = some (.int .i64 z1) := cell_of_block HX.out 1
        have q2 : W.cell? ⟨X, 2, none⟩ = some (.int .i64 z2) := cell_of_block HX.out 2
        have q3 : W.cell? ⟨X, 3, none⟩ = some (.int .i64 z3) := cell_of_block HX.out 3
        have q4 : W.cell? ⟨X, 4, none⟩ = some (.int .i64 x0) := cell_of_block HX.out 4
        have q5 : W.cell? ⟨X, 5, none⟩ = some (.int .i64 x1) := cell_of_block HX.out 5
        have q6 : W.cell? ⟨X, 6, none⟩ = some (.string x2) := cell_of_block HX.out 6
        have q7 : W.cell? ⟨X, 7, none⟩ = some (.string x3) := cell_of_block HX.out 7
        have q8 : W.cell? ⟨X, 8, none⟩ = some (.int .i64 x4) := cell_of_block HX.out 8
        have q9 : W.cell? ⟨X, 9, none⟩ = some (.int .i64 x5) := cell_of_block HX.out 9
        have q10 : W.cell? ⟨X, 10, none⟩ = some (.bool x6) := cell_of_block HX.out 10
        have q11 : W.cell? ⟨X, 11, none⟩ = some (.slice pk1 kl ck1) := cell_of_block HX.out 11
        have r0 : W.cell? ⟨Y, 0, none⟩ = some (.int .i64 z0) := cell_of_block HY.out 0
        have r1 : W.cell? ⟨Y, 1, none⟩ = some (.int .i64 z1) := cell_of_block HY.out 1
        have r2 : W.cell? ⟨Y, 2, none⟩ = some (.int .i64 z2) := cell_of_block HY.out 2
        have r3 : W.cell? ⟨Y, 3, none⟩ = some (.int .i64 z3) := cell_of_block HY.out 3
        have r4 : W.cell? ⟨Y, 4, none⟩ = some (.int .i64 x0) := cell_of_block HY.out 4
        have r5 : W.cell? ⟨Y, 5, none⟩ = some (.int .i64 x1) := cell_of_block HY.out 5
        have r6 : W.cell? ⟨Y, 6, none⟩ = some (.string x2) := cell_of_block HY.out 6
        have r7 : W.cell? ⟨Y, 7, none⟩ = some (.string x3) := cell_of_block HY.out 7
        have r8 : W.cell? ⟨Y, 8, none⟩ = some (.int .i64 x4) := cell_of_block HY.out 8
        have r9 : W.cell? ⟨Y, 9, none⟩ = some (.int .i64 x5) := cell_of_block HY.out 9
        have r10 : W.cell? ⟨Y, 10, none⟩ = some (.bool x6) := cell_of_block HY.out 10
        have r11 : W.cell? ⟨Y, 11, none⟩ = some (.slice pk2 kl ck2) := cell_of_block HY.out 11
        have k4 := keeps_alloc W (.cells #[.int .i64 x0, .int .i64 x1, .string x2, .string x3, .int .i64 x4, .int .i64 x5, .bool x6, .slice pk1 kl ck1] 33) _ _ r4
        have k5 := keeps_alloc W (.cells #[.int .i64 x0, .int .i64 x1, .string x2, .string x3, .int .i64 x4, .int .i64 x5, .bool x6, .slice pk1 kl ck1] 33) _ _ r5
        have k6 := keeps_alloc W (.cells #[.int .i64 x0, .int .i64 x1, .string x2, .string x3, .int .i64 x4, .int .i64 x5, .bool x6, .slice pk1 kl ck1] 33) _ _ r6
        have k7 := keeps_alloc W (.cells #[.int .i64 x0, .int .i64 x1, .string x2, .string x3, .int .i64 x4, .int .i64 x5, .bool x6, .slice pk1 kl ck1] 33) _ _ r7
        have k8 := keeps_alloc W (.cells #[.int .i64 x0, .int .i64 x1, .string x2, .string x3, .int .i64 x4, .int .i64 x5, .bool x6, .slice pk1 kl ck1] 33) _ _ r8
        have k9 := keeps_alloc W (.cells #[.int .i64 x0, .int .i64 x1, .string x2, .string x3, .int .i64 x4, .int .i64 x5, .bool x6, .slice pk1 kl ck1] 33) _ _ r9
        have k10 := keeps_alloc W (.cells #[.int .i64 x0, .int .i64 x1, .string x2, .string x3, .int .i64 x4, .int .i64 x5, .bool x6, .slice pk1 kl ck1] 33) _ _ r10
        have k11 := keeps_alloc W (.cells #[.int .i64 x0, .int .i64 x1, .string x2, .string x3, .int .i64 x4, .int .i64 x5, .bool x6, .slice pk1 kl ck1] 33) _ _ r11
        have CC := CCc.out W BQ
        clear CCc hnx HX HY
        go_wp2_with (go_at_call 20; refine CC.mono ?_; clear CC; rintro e w5 ⟨rfl, hb5⟩)
        go_roundw
        case rel => exact ⟨j + 1, by omega, by go_num, BQ.trans (hb5.mono BQ.size)⟩
        case measure => simp [RowKit.intOf]; omega
      · have HX : Hid ((((wr.alloc (.cells #[.int .i64 z0, .int .i64 z1, .int .i64 z2, .int .i64 z3, .int .i64 x0, .int .i64 x1, .string x2, .string x3, .int .i64 x4, .int .i64 x5, .bool x6, .slice pk2 kl ck2] 35)).alloc (.cells #[.int .i64 z0, .int .i64 z1, .int .i64 z2, .int .i64 z3, .int .i64 x0, .int .i64 x1, .string x2, .string x3, .int .i64 x4, .int .i64 x5, .bool x6, .slice pk1 kl ck1] 35)).drew).heap[wr.heap.size]? = some (.cells #[.int .i64 z0, .int .i64 z1, .int .i64 z2, .int .i64 z3, .int .i64 x0, .int .i64 x1, .string x2, .string x3, .int .i64 x4, .int .i64 x5, .bool x6, .slice pk2 kl ck2] 35)) := by
          show ((wr.alloc (.cells #[.int .i64 z0, .int .i64 z1, .int .i64 z2, .int .i64 z3, .int .i64 x0, .int .i64 x1, .string x2, .string x3, .int .i64 x4, .int .i64 x5, .bool x6, .slice pk2 kl ck2] 35)).alloc (.cells #[.int .i64 z0, .int .i64 z1, .int .i64 z2, .int .i64 z3, .int .i64 x0, .int .i64 x1, .string x2, .string x3, .int .i64 x4, .int .i64 x5, .bool x6, .slice pk1 kl ck1] 35)).heap[wr.heap.size]? = _
          rw [heap_alloc_old _ _ (by simp), heap_alloc_new]
        have HY : Hid ((((wr.alloc (.cells #[.int .i64 z0, .int .i64 z1, .int .i64 z2, .int .i64 z3, .int .i64 x0, .int .i64 x1, .string x2, .string x3, .int .i64 x4, .int .i64 x5, .bool x6, .slice pk2 kl ck2] 35)).alloc (.cells #[.int .i64 z0, .int .i64 z1, .int .i64 z2, .int .i64 z3, .int .i64 x0, .int .i64 x1, .string x2, .string x3, .int .i64 x4, .int .i64 x5, .bool x6, .slice pk1 kl ck1] 35)).drew).heap[wr.heap.size + 1]? = some (.cells #[.int .i64 z0, .int .i64 z1, .int .i64 z2, .int .i64 z3, .int .i64 x0, .int .i64 x1, .string x2, .string x3, .int .i64 x4, .int .i64 x5, .bool x6, .slice pk1 kl ck1] 35)) := by
          show ((wr.alloc (.cells #[.int .i64 z0, .int .i64 z1, .int .i64 z2, .int .i64 z3, .int .i64 x0, .int .i64 x1, .string x2, .string x3, .int .i64 x4, .int .i64 x5, .bool x6, .slice pk2 kl ck2] 35)).alloc (.cells #[.int .i64 z0, .int .i64 z1, .int .i64 z2, .int .i64 z3, .int .i64 x0, .int .i64 x1, .string x2, .string x3, .int .i64 x4, .int .i64 x5, .bool x6, .slice pk1 kl ck1] 35)).heap[wr.heap.size + 1]? = _
          rw [show wr.heap.size + 1 = (wr.alloc (.cells #[.int .i64 z0, .int .i64 z1, .int .i64 z2, .int .i64 z3, .int .i64 x0, .int .i64 x1, .string x2, .string x3, .int .i64 x4, .int .i64 x5, .bool x6, .slice pk2 kl ck2] 35)).heap.size by simp, heap_alloc_new]
        have BQ : Below w.heap.size w ((wr.alloc (.cells #[.int .i64 z0, .int .i64 z1, .int .i64 z2, .int .i64 z3, .int .i64 x0, .int .i64 x1, .string x2, .string x3, .int .i64 x4, .int .i64 x5, .bool x6, .slice pk2 kl ck2] 35)).alloc (.cells #[.int .i64 z0, .int .i64 z1, .int .i64 z2, .int .i64 z3, .int .i64 x0, .int .i64 x1, .string x2, .string x3, .int .i64 x4, .int .i64 x5, .bool x6, .slice pk1 kl ck1] 35)).drew := ((hnx.alloc hbz _).alloc (by simp; omega) _).drew
        clear e0 g0 e1 g1 e2 g2 e3 g3 e4 g4 e5 g5 e6 g6 e7 g7 e8 g8 e9 g9 e10 g10 e11 g11 SS
        generalize ((wr.alloc (.cells #[.int .i64 z0, .int .i64 z1, .int .i64 z2, .int .i64 z3, .int .i64 x0, .int .i64 x1, .string x2, .string x3, .int .i64 x4, .int .i64 x5, .bool x6, .slice pk2 kl ck2] 35)).alloc (.cells #[.int .i64 z0, .int .i64 z1, .int .i64 z2, .int .i64 z3, .int .i64 x0, .int .i64 x1, .string x2, .string x3, .int .i64 x4, .int .i64 x5, .bool x6, .slice pk1 kl ck1] 35)).drew = W at *
        generalize wr.heap.size + 1 = Y at *
        generalize wr.heap.size = X at *
        have q0 : W.cell? ⟨Y, 0, none⟩ = some (.int .i64 z0) := cell_of_block HY.out 0
        have q1 : W.cell? ⟨Y, 1, none⟩ = some (.int .i64 z1) := cell_of_block HY.out 1
        have q2 : W.cell? ⟨Y, 2, none⟩ = some (.int .i64 z2) := cell_of_block HY.out 2
        have q3 : W.cell? ⟨Y, 3, none⟩ = some (.int .i64 z3) := cell_of_block HY.out 3
        have q4 : W.cell? ⟨Y, 4, none⟩ = some (.int .i64 x0) := cell_of_block HY.out 4
        have q5 : W.cell? ⟨Y, 5, none⟩ = some (.int .i64 x1) := cell_of_block HY.out 5
        have q6 : W.cell? ⟨Y, 6, none⟩ = some (.string x2) := cell_of_block HY.out 6
        have q7 : W.cell? ⟨Y, 7, none⟩ = some (.string x3) := cell_of_block HY.out 7
        have q8 : W.cell? ⟨Y, 8, none⟩ = some (.int .i64 x4) := cell_of_block HY.out 8
        have q9 : W.cell? ⟨Y, 9, none⟩ = some (.int .i64 x5) := cell_of_block HY.out 9
        have q10 : W.cell? ⟨Y, 10, none⟩ = some (.bool x6) := cell_of_block HY.out 10
        have q11 : W.cell? ⟨Y, 11, none⟩ = some (.slice pk1 kl ck1) := cell_of_block HY.out 11
        have r0 : W.cell? ⟨X, 0, none⟩ = some (.int .i64 z0) := cell_of_block HX.out 0
        have r1 : W.cell? ⟨X, 1, none⟩ = some (.int .i64 z1) := cell_of_block HX.out 1
        have r2 : W.cell? ⟨X, 2, none⟩ = some (.int .i64 z2) := cell_of_block HX.out 2
        have r3 : W.cell? ⟨X, 3, none⟩ = some (.int .i64 z3) := cell_of_block HX.out 3
        have r4 : W.cell? ⟨X, 4, none⟩ = some (.int .i64 x0) := cell_of_block HX.out 4
        have r5 : W.cell? ⟨X, 5, none⟩ = some (.int .i64 x1) := cell_of_block HX.out 5
        have r6 : W.cell? ⟨X, 6, none⟩ = some (.string x2) := cell_of_block HX.out 6
        have r7 : W.cell? ⟨X, 7, none⟩ = some (.string x3) := cell_of_block HX.out 7
        have r8 : W.cell? ⟨X, 8, none⟩ = some (.int .i64 x4) := cell_of_block HX.out 8
        have r9 : W.cell? ⟨X, 9, none⟩ = some (.int .i64 x5) := cell_of_block HX.out 9
        have r10 : W.cell? ⟨X, 10, none⟩ = some (.bool x6) := cell_of_block HX.out 10
        have r11 : W.cell? ⟨X, 11, none⟩ = some (.slice pk2 kl ck2) := cell_of_block HX.out 11
        have k4 := keeps_alloc W (.cells #[.int .i64 x0, .int .i64 x1, .string x2, .string x3, .int .i64 x4, .int .i64 x5, .bool x6, .slice pk1 kl ck1] 33) _ _ r4
        have k5 := keeps_alloc W (.cells #[.int .i64 x0, .int .i64 x1, .string x2, .string x3, .int .i64 x4, .int .i64 x5, .bool x6, .slice pk1 kl ck1] 33) _ _ r5
        have k6 := keeps_alloc W (.cells #[.int .i64 x0, .int .i64 x1, .string x2, .string x3, .int .i64 x4, .int .i64 x5, .bool x6, .slice pk1 kl ck1] 33) _ _ r6
        have k7 := keeps_alloc W (.cells #[.int .i64 x0, .int .i64 x1, .string x2, .string x3, .int .i64 x4, .int .i64 x5, .bool x6, .slice pk1 kl ck1] 33) _ _ r7
        have k8 := keeps_alloc W (.cells #[.int .i64 x0, .int .i64 x1, .string x2, .string x3, .int .i64 x4, .int .i64 x5, .bool x6, .slice pk1 kl ck1] 33) _ _ r8
        have k9 := keeps_alloc W (.cells #[.int .i64 x0, .int .i64 x1, .string x2, .string x3, .int .i64 x4, .int .i64 x5, .bool x6, .slice pk1 kl ck1] 33) _ _ r9
        have k10 := keeps_alloc W (.cells #[.int .i64 x0, .int .i64 x1, .string x2, .string x3, .int .i64 x4, .int .i64 x5, .bool x6, .slice pk1 kl ck1] 33) _ _ r10
        have k11 := keeps_alloc W (.cells #[.int .i64 x0, .int .i64 x1, .string x2, .string x3, .int .i64 x4, .int .i64 x5, .bool x6, .slice pk1 kl ck1] 33) _ _ r11
        have CC := CCc.out W BQ
        clear CCc hnx HX HY
        go_wp2_with (go_at_call 20; refine CC.mono ?_; clear CC; rintro e w5 ⟨rfl, hb5⟩)
        go_roundw
        case rel => exact ⟨j + 1, by omega, by go_num, BQ.trans (hb5.mono BQ.size)⟩
        case measure => simp [RowKit.intOf]; omega
    · obtain rfl : j = l.length := by omega
      go_wp2_with fail
      go_ret
      exact ⟨rfl, hnx⟩
end Go.Proofs.YtpnineimnjibaafDoor

/-
  THE WALK of tnlaw10's alive.
-/
namespace Go.Proofs.YtpnineimnjibaafDoor
open Go.RowKit Go.Lib

def e7 : Ez := ⟨1, 7, 0, 0, zeroI⟩
theorem e7_good : EvGood e7 := by
  have h : ∀ z : Int, z = 0 ∨ z = 1 ∨ z = 7 → I6 z := fun z hz => by rcases hz with rfl | rfl | rfl <;> exact ⟨by decide, by decide⟩
  refine ⟨h _ (by simp [e7]), h _ (by simp [e7]), h _ (by simp [e7]), h _ (by simp [e7]), ?_, ?_⟩
  · show Num1 zeroI
    unfold zeroI
    rw [Num1]
    exact ⟨⟨h _ (Or.inl rfl), h _ (Or.inl rfl), h _ (Or.inl rfl), h _ (Or.inl rfl), h _ (Or.inl rfl), h _ (Or.inl rfl), h _ (Or.inl rfl)⟩, by rw [NumZ]; trivial⟩
  · show deep1 zeroI ≤ 61
    unfold zeroI
    rw [deep1, deepZ]
    decide
theorem e7_bytes : 8 < (eventsB [e7]).length ∧ (eventsB [e7]).length ≤ 700000000 := by
  have h0 := numB_ge 0
  have h1 := numB_ge 1
  have h7 := numB_ge 7
  have g0 := numB_le (n := 0) ⟨by decide, by decide⟩
  have g1 := numB_le (n := 1) ⟨by decide, by decide⟩
  have g7 := numB_le (n := 7) ⟨by decide, by decide⟩
  have e : (eventsB [e7]).length = (numB 1).length + (numB 7).length + 10 * (numB 0).length := by
    simp only [eventsB, eventB, evHeadB, itemB_eq, headB, flagB, textB, e7, zeroI, itemsB, Iz.node, Iz.role, Iz.name, Iz.about, Iz.level, Iz.checked, Iz.off, Iz.kids, List.length_append, List.length_nil]
    have : ((⟨#[]⟩ : ByteArray).size : Int) = 0 := rfl
    simp only [this]
    simp
    omega
  omega
/-- one event, in a block by itself -/
theorem ezs_one {w : World} {P : Nat → Prop} {g : Nat} {y : Ez} {kv : Value} (h : w.heap[g]? = some (.cells (ezc (y, kv)).toArray 35)) (hk : IzsAt w P kv y.item.kids) (hg : P g) : EzsAt w P (.slice (some ⟨g, 0, none⟩) 1 1) [y] := by
  refine ⟨some ⟨g, 0, none⟩, 1, rfl, Nat.le_refl _, by decide, fun j hj => ?_⟩
  obtain rfl : j = 0 := by simp at hj; exact hj
  have c : ∀ i, w.cell? ⟨g, i, none⟩ = (ezc (y, kv))[i]? := fun i => by rw [cell_of_block h i]; simp
  refine ⟨g, 0, kv, rfl, hg, ?_, hk⟩
  simp only [Nat.zero_mul, Nat.add_zero, List.getElem_cons_zero]
  exact ⟨(c 0).trans rfl, (c 1).trans rfl, (c 2).trans rfl, (c 3).trans rfl, ⟨(c 4).trans rfl, (c 5).trans rfl, (c 6).trans rfl, (c 7).trans rfl, (c 8).trans rfl, (c 9).trans rfl, (c 10).trans rfl, (c 11).trans rfl⟩⟩

set_option maxHeartbeats 1600000 in
set_option maxRecDepth 100000 in
theorem yalive {w : World} (hL : LtB w.heap.size w) : Calls Tryd.prog 11 #[] w fun e w' => e = .returned (.bool true) ∧ Below w.heap.size w w' := by
  have B1 : Below w.heap.size w (w.alloc (.cells (ezc (e7, .slice none 0 0)).toArray 35)) := (Below.refl _ _).alloc (Nat.le_refl _) _
  have z1 : (w.alloc (.cells (ezc (e7, .slice none 0 0)).toArray 35)).heap.size = w.heap.size + 1 := by simp
  have C1 := ybytes_any (w := w.alloc (.cells (ezc (e7, .slice none 0 0)).toArray 35)) (l := [e7]) (ezs_one (g := w.heap.size) (heap_alloc_new _ _) (IzsAt.nil _ _) (by omega)) (fun e he => by rw [List.mem_singleton] at he; rw [he]; exact e7_good.num) ((hL.on B1).up B1.size) e7_bytes.2
  have HC2 : Hid (∀ (W : World) (v : Value), Below w.heap.size w W → OwnB W (w.alloc (.cells (ezc (e7, .slice none 0 0)).toArray 35)).heap.size v (eventsB [e7]) → Calls Tryd.prog 6 #[v] W fun e w' => ∃ pv err, e = .returned (.tuple #[pv, .int .i64 err]) ∧ Out w' W.heap.size (some [e7]) pv err ∧ Below W.heap.size W w') := by
    intro W v hW ho
    have hlt := World.ownsRow.lt ho
    have hp : parseF (eventsB [e7]) = some [e7] := parse_iff.mpr ⟨rfl, fun e he => by rw [List.mem_singleton] at he; rw [he]; exact e7_good⟩
    have hlen : (eventsB [e7]).length ≤ 100000000 := by
      have g0 := numB_le (n := 0) ⟨by decide, by decide⟩
      have g1 := numB_le (n := 1) ⟨by decide, by decide⟩
      have g7 := numB_le (n := 7) ⟨by decide, by decide⟩
      have e : (eventsB [e7]).length = (numB 1).length + (numB 7).length + 10 * (numB 0).length := by
        simp only [eventsB, eventB, evHeadB, itemB_eq, headB, flagB, textB, e7, zeroI, itemsB, Iz.node, Iz.role, Iz.name, Iz.about, Iz.level, Iz.checked, Iz.off, Iz.kids, List.length_append, List.length_nil]
        have : ((⟨#[]⟩ : ByteArray).size : Int) = 0 := rfl
        simp only [this]
        simp
        omega
      omega
    have hb : BsAt W (fun g => g < W.heap.size) v (eventsB [e7]) := ho.bs.frame (fun g hg hlt => ⟨rfl, hlt⟩)
    rw [← hp]
    exact yparse hb ((hL.on hW).up hW.size) hlen
  have HB1 : Hid (Below w.heap.size w (w.alloc (.cells (ezc (e7, .slice none 0 0)).toArray 35))) := B1
  have HLEN : 8 < (eventsB [e7]).length := e7_bytes.1
  have HLM : (eventsB [e7]).length ≤ 700000000 := e7_bytes.2
  have HW : Hid (ezc (e7, .slice none 0 0) = [.int .i64 1, .int .i64 7, .int .i64 0, .int .i64 0, .int .i64 0, .int .i64 0, .string ⟨#[]⟩, .string ⟨#[]⟩, .int .i64 0, .int .i64 0, .bool false, .slice none 0 0]) := rfl
  rw [HW.out] at HC2 C1 HB1
  clear hL B1 z1 HW
  go_enter Tryd.func11, Tryd.ntmps11
  go_upto_region 2 with (go_at_call 8; refine C1.mono ?_; clear C1; rintro e w5 ⟨v5, rfl, ho5, hb5⟩)
  have HB5 : Hid (Below w.heap.size w w5) := HB1.out.trans (hb5.mono HB1.out.size)
  have C2 := HC2.out w5 v5 HB5.out ho5
  obtain ⟨p5, c5, rfl⟩ := ho5.shape
  clear HC2 ho5 hb5 HB1
  generalize (eventsB [e7]).length = n at *
  go_upto_region 3 with (go_at_call 6; refine C2.mono ?_; clear C2; rintro e w6 ⟨pv, err, rfl, hout, hb6⟩)
  have HB6 : Hid (Below w.heap.size w w6) := HB5.out.trans (hb6.mono HB5.out.size)
  rcases hout with ⟨l, hl, rfl, p, c, rfl, y1, y2, hat⟩ | ⟨hn, _⟩
  · cases hl
    obtain ⟨b, o, kv, rfl, _, hc, _⟩ := hat 0 (by simp)
    have c1 : w6.cell? ⟨b, o + 1, none⟩ = some (.int .i64 7) := by
      have := hc.c1
      simpa [e7] using this
    simp only [List.length_singleton] at y1 ⊢
    have HN8 : Hid (decide ((8 : Int) < (n : Int)) = true) := decide_eq_true (by omega)
    clear hat hc hb6 HB5
    go_wp2_with fail
    go_ret
    exact ⟨by rw [HN8.out]; rfl, HB6.out⟩
  · cases hn
end Go.Proofs.YtpnineimnjibaafDoor

/-
  THE WALKS of the reference's num, item and Bytes.
-/
namespace Go.Proofs.YtpnineimnjibaafDoor
open Go.RowKit Go.Lib

/-- a text of these bytes -/
def bsS (l : Bs) : ByteArray := ⟨l.toArray⟩
theorem bsS_app (a b : Bs) : bsS a ++ bsS b = bsS (a ++ b) := by
  apply ByteArray.ext
  simp [bsS]
theorem bsS_size (l : Bs) : (bsS l).size = l.length := by simp [bsS, ByteArray.size]
theorem bsS_data (l : Bs) : (bsS l).data.toList = l := by simp [bsS]
theorem bsS_of (s : ByteArray) : bsS s.data.toList = s := by simp [bsS]
set_option maxHeartbeats 800000 in
theorem yunum {w : World} (hL : Lt w) {n : Int} (hn : I6 n) : Calls Tryd.prog 18 #[.int .i64 n] w fun e w' => e = .returned (.string (bsS (numB n))) ∧ Below w.heap.size w w' := by
  have C := yitoa hL hn
  have HE : Hid (bsS (itoa n) ++ (⟨#[32]⟩ : ByteArray) = bsS (numB n)) := bsS_app (itoa n) [32]
  have HS : (bsS (itoa n)).size ≤ 21 := by rw [bsS_size]; have := itoa_le20 hn; omega
  change Calls Tryd.prog 28 #[.int .i64 n] w fun e w' => e = .returned (.string (bsS (itoa n))) ∧ Below w.heap.size w w' at C
  generalize bsS (itoa n) = s at *
  generalize bsS (numB n) = t at *
  clear hL hn
  go_enter Tryd.func18, Tryd.ntmps18
  go_wp2_with (go_at_call 28; refine C.mono ?_; rintro e w' ⟨rfl, hb⟩)
  go_ret
  exact ⟨by rw [HE.out]; rfl, hb⟩

theorem dec01 : decDigits 0 = [48] ∧ decDigits 1 = [49] := by
  constructor <;> (rw [decDigits, dif_pos (by decide)]; rfl)
theorem flag_text (b : Bool) : bsS (flagB b) = if b then ⟨#[49, 32]⟩ else ⟨#[48, 32]⟩ := by
  have h0 : itoa 0 = [48] := dec01.1
  have h1 : itoa 1 = [49] := dec01.2
  cases b with
  | false =>
    show bsS (itoa 0 ++ [32]) = _
    rw [h0]; rfl
  | true =>
    show bsS (itoa 1 ++ [32]) = _
    rw [h1]; rfl
theorem head_text (x : Iz) : bsS (headB x) = (((((((((bsS (numB x.node) ++ bsS (numB x.role)) ++ bsS (numB x.level)) ++ bsS (numB x.checked)) ++ bsS (flagB x.off)) ++ bsS (numB (x.name.size : Int))) ++ x.name) ++ bsS (numB (x.about.size : Int))) ++ x.about) ++ bsS (numB (x.kids.length : Int))) := by
  rw [← bsS_of x.name, ← bsS_of x.about]
  simp only [bsS_app, headB, textB, List.append_assoc, bsS_size]
  rfl

set_option maxHeartbeats 3200000 in
set_option maxRecDepth 100000 in
theorem yuitem (m : Nat) : ∀ (x : Iz) (kv : Value) (w : World), deep1 x ≤ m → IzsAt w (fun g => g < w.heap.size) kv x.kids → Num1 x → LtB w.heap.size w → (itemB x).length ≤ 700000000 →
    Calls Tryd.prog 19 #[itV x kv] w fun e w' => e = .returned (.string (bsS (itemB x))) ∧ Below w.heap.size w w' := by
  induction m with
  | zero => intro x kv w hd; rw [deep1_eq] at hd; omega
  | succ m ih =>
    intro x kv w hd hr hn hL hsz
    rw [deep1_eq] at hd
    obtain ⟨h6, hnk⟩ := (num1_eq x).mp hn
    obtain ⟨i0, i1, i2, i3, i5, i6, i7⟩ := h6
    have HH := head_text x
    have HI : Hid (bsS (itemB x) = bsS (headB x) ++ bsS (itemsB x.kids)) := by show _ = _; rw [bsS_app, itemB_eq]
    rw [flag_text] at HH
    have IH : Hid (∀ (j : Nat) (h : j < x.kids.length) (kv : Value) (W : World), IzsAt W (fun g => g < W.heap.size) kv x.kids[j].kids → Below w.heap.size w W →
        Calls Tryd.prog 19 #[itV x.kids[j] kv] W fun e w' => e = .returned (.string (bsS (itemB x.kids[j]))) ∧ Below W.heap.size W w') := by
      intro j hj kv W hr hb
      have hm := List.getElem_mem hj
      exact ih x.kids[j] kv W (deepZ_le.mp (by omega) _ hm) hr (numZ_mem.mp hnk _ hm) (fun w' h' => hL w' (hb.trans (h'.mono hb.size))) (by
        have h1 := itemsB_take x.kids j hj
        have h2 := itemsB_take_le x.kids (j + 1)
        rw [h1, List.length_append] at h2
        rw [itemB_eq, List.length_append] at hsz
        omega)
    obtain ⟨p, c, rfl, y1, y2, hat⟩ := hr.at
    have T : Hid (∀ j (hj : j < x.kids.length), ∃ b o kv, p = some ⟨b, o, none⟩ ∧ b < w.heap.size ∧ IzAt w b (o + j * 8) x.kids[j] kv ∧ IzsAt w (fun g => g < w.heap.size) kv x.kids[j].kids) := hat
    have HX : Hid ((w.alloc (.cells #[.int .i64 x.node, .int .i64 x.role, .string x.name, .string x.about, .int .i64 x.level, .int .i64 x.checked, .bool x.off, .slice p x.kids.length c] 33)).heap[w.heap.size]? = some (.cells #[.int .i64 x.node, .int .i64 x.role, .string x.name, .string x.about, .int .i64 x.level, .int .i64 x.checked, .bool x.off, .slice p x.kids.length c] 33)) := heap_alloc_new _ _
    have HB1 : Hid (Below w.heap.size w (w.alloc (.cells #[.int .i64 x.node, .int .i64 x.role, .string x.name, .string x.about, .int .i64 x.level, .int .i64 x.checked, .bool x.off, .slice p x.kids.length c] 33))) := (Below.refl _ _).alloc (Nat.le_refl _) _
    have HZ1 : Hid ((w.alloc (.cells #[.int .i64 x.node, .int .i64 x.role, .string x.name, .string x.about, .int .i64 x.level, .int .i64 x.checked, .bool x.off, .slice p x.kids.length c] 33)).heap.size = w.heap.size + 1) := by show _ = _; simp
    have CN : ∀ (n : Int), I6 n → ∀ w1 : World, Below w.heap.size w w1 → Hid (∀ W, Below w1.heap.size w1 W → Calls Tryd.prog 18 #[.int .i64 n] W fun e w' => e = .returned (.string (bsS (numB n))) ∧ Below w1.heap.size w1 w') := by
      intro n hn w1 hb1 W hW
      refine (yunum (hL W (hb1.trans (hW.mono hb1.size))) hn).mono ?_
      rintro e w' ⟨e1, h1⟩
      exact ⟨e1, hW.trans (h1.mono hW.size)⟩
    have K0 := CN x.node i0 _ HB1.out
    have K1 := CN x.role i1 _ HB1.out
    have K4 := CN x.level i2 _ HB1.out
    have K5 := CN x.checked i3 _ HB1.out
    have K2 := CN (x.name.size : Int) i5 _ HB1.out
    have K3 := CN (x.about.size : Int) i6 _ HB1.out
    have K7 := CN (x.kids.length : Int) i7 _ HB1.out
    have s0 : (bsS (numB x.node)).size ≤ 21 := by rw [bsS_size]; exact numB_le i0
    have s1 : (bsS (numB x.role)).size ≤ 21 := by rw [bsS_size]; exact numB_le i1
    have s4 : (bsS (numB x.level)).size ≤ 21 := by rw [bsS_size]; exact numB_le i2
    have s5 : (bsS (numB x.checked)).size ≤ 21 := by rw [bsS_size]; exact numB_le i3
    have s2 : (bsS (numB (x.name.size : Int))).size ≤ 21 := by rw [bsS_size]; exact numB_le i5
    have s3 : (bsS (numB (x.about.size : Int))).size ≤ 21 := by rw [bsS_size]; exact numB_le i6
    have s7 : (bsS (numB (x.kids.length : Int))).size ≤ 21 := by rw [bsS_size]; exact numB_le i7
    have hit := itemB_eq x
    have hall : (headB x).length + (itemsB x.kids).length ≤ 700000000 := by rw [← List.length_append, ← hit]; exact hsz
    have HA : Hid (∀ j, (bsS (headB x)).size + (bsS (itemsB (x.kids.take j))).size ≤ 700000000) := fun j => by
      show _ ≤ _
      rw [bsS_size, bsS_size]
      have := itemsB_take_le x.kids j
      omega
    have q2 : x.name.size ≤ 700000000 := by
      have h1 := congrArg ByteArray.size HH
      simp only [ByteArray.size_append] at h1
      rw [bsS_size] at h1
      omega
    have q3 : x.about.size ≤ 700000000 := by
      have h1 := congrArg ByteArray.size HH
      simp only [ByteArray.size_append] at h1
      rw [bsS_size] at h1
      omega
    have HHH : Hid _ := HH
    have HS7 : Hid (∀ j (h : j < x.kids.length), (bsS (itemB x.kids[j])).size ≤ 700000000) := fun j hj => by
      show _ ≤ _
      rw [bsS_size]
      have h1 := itemsB_take x.kids j hj
      have h2 := itemsB_take_le x.kids (j + 1)
      rw [h1, List.length_append] at h2
      omega
    have HTK : Hid (∀ j (h : j < x.kids.length), bsS (itemsB (x.kids.take (j + 1))) = bsS (itemsB (x.kids.take j)) ++ bsS (itemB x.kids[j])) := fun j hj => by
      show _ = _
      rw [bsS_app, itemsB_take x.kids j hj]
    unfold itV
    clear hr hat hd hn hnk i0 i1 i2 i3 i5 i6 i7 CN hit hall hsz ih HH hL
    generalize bsS (numB x.node) = t0 at *
    generalize bsS (numB x.role) = t1 at *
    generalize bsS (numB x.level) = t4 at *
    generalize bsS (numB x.checked) = t5 at *
    generalize bsS (numB (x.name.size : Int)) = t2 at *
    generalize bsS (numB (x.about.size : Int)) = t3 at *
    generalize bsS (numB (x.kids.length : Int)) = t7 at *
    generalize bsS (headB x) = hd at *
    generalize bsS (itemB x) = res at *
    generalize x.kids = ks at *
    generalize x.node = x0 at *
    generalize x.role = x1 at *
    generalize x.name = x2 at *
    generalize x.about = x3 at *
    generalize x.level = x4 at *
    generalize x.checked = x5 at *
    generalize x.off = x6 at *
    go_enter Tryd.func19, Tryd.ntmps19
    go_upto_region 2 with fail
    generalize hw1 : w.alloc (.cells #[.int .i64 x0, .int .i64 x1, .string x2, .string x3, .int .i64 x4, .int .i64 x5, .bool x6, .slice p ks.length c] 33) = w1 at *
    clear hw1
    generalize hG : w.heap.size = G at *
    have HG : Hid (w.heap.size = G) := hG
    clear hG
    have d6 : w1.cell? ⟨G, 6, none⟩ = some (.bool x6) := cell_of_block HX.out 6
    obtain ⟨fl, hfl⟩ : ∃ fl : ByteArray, fl = if x6 = true then ⟨#[49, 32]⟩ else ⟨#[48, 32]⟩ := ⟨_, rfl⟩
    have sf : fl.size ≤ 21 := by rw [hfl]; cases x6 <;> decide
    rw [← hfl] at HHH
    have HFL : Hid _ := hfl
    clear hfl
    go_upto_if 8 with fail
    go_cut [3] from 7 to 8 (fun v wc => v = .string fl ∧ wc = w1)
    case first =>
      cases x6 with
      | true =>
        go_wp2_with fail
        go_meet
        exact ⟨by rw [HFL.out]; rfl, rfl⟩
      | false =>
        go_wp2_with fail
        go_meet
        exact ⟨by rw [HFL.out]; rfl, rfl⟩
    case rest =>
      obtain ⟨rfl, rfl⟩ := hcut
      have SS : ∀ w'' : World, Below wc.heap.size wc w'' → (fun w'' : World => w''.cell? ⟨G, 0, none⟩ = some (.int .i64 x0) ∧ w''.cell? ⟨G, 1, none⟩ = some (.int .i64 x1) ∧ w''.cell? ⟨G, 2, none⟩ = some (.string x2) ∧ w''.cell? ⟨G, 3, none⟩ = some (.string x3) ∧ w''.cell? ⟨G, 4, none⟩ = some (.int .i64 x4) ∧ w''.cell? ⟨G, 5, none⟩ = some (.int .i64 x5) ∧ w''.cell? ⟨G, 7, none⟩ = some (.slice p ks.length c)) w'' := fun w'' hb => by
        have hx : w''.heap[G]? = some (.cells #[.int .i64 x0, .int .i64 x1, .string x2, .string x3, .int .i64 x4, .int .i64 x5, .bool x6, .slice p ks.length c] 33) := by
          rw [hb.block G (by have := HZ1.out; omega)]; exact HX.out
        exact ⟨cell_of_block hx 0, cell_of_block hx 1, cell_of_block hx 2, cell_of_block hx 3, cell_of_block hx 4, cell_of_block hx 5, cell_of_block hx 7⟩
      clear d6 HFL
      go_upto_region 4 with fail
      have g2 : ¬ 9223372036854775807 < t0.size + t1.size := by omega
      have g3 : ¬ 9223372036854775807 < t0.size + t1.size + t4.size := by omega
      have g4 : ¬ 9223372036854775807 < t0.size + t1.size + t4.size + t5.size := by omega
      have g5 : ¬ 9223372036854775807 < t0.size + t1.size + t4.size + t5.size + fl.size := by omega
      have g6 : ¬ 9223372036854775807 < t0.size + t1.size + t4.size + t5.size + fl.size + t2.size := by omega
      have g7 : ¬ 9223372036854775807 < t0.size + t1.size + t4.size + t5.size + fl.size + t2.size + x2.size := by omega
      have g8 : ¬ 9223372036854775807 < t0.size + t1.size + t4.size + t5.size + fl.size + t2.size + x2.size + t3.size := by omega
      have g9 : ¬ 9223372036854775807 < t0.size + t1.size + t4.size + t5.size + fl.size + t2.size + x2.size + t3.size + x3.size := by omega
      have g10 : ¬ 9223372036854775807 < t0.size + t1.size + t4.size + t5.size + fl.size + t2.size + x2.size + t3.size + x3.size + t7.size := by omega
      clear s0 s1 s2 s3 s4 s5 s7 sf q2 q3
      go_region_held3 (fun w'' : World => w''.cell? ⟨G, 0, none⟩ = some (.int .i64 x0) ∧ w''.cell? ⟨G, 1, none⟩ = some (.int .i64 x1) ∧ w''.cell? ⟨G, 2, none⟩ = some (.string x2) ∧ w''.cell? ⟨G, 3, none⟩ = some (.string x3) ∧ w''.cell? ⟨G, 4, none⟩ = some (.int .i64 x4) ∧ w''.cell? ⟨G, 5, none⟩ = some (.int .i64 x5) ∧ w''.cell? ⟨G, 7, none⟩ = some (.slice p ks.length c))
        ((with_reducible refine SS _ ?_; first | with_reducible assumption | with_reducible exact Below.refl _ _ | with_reducible exact (Below.refl _ _).drew))
        (first
          | (go_at_call_of 18 x0; refine (K0.out _ (by first | assumption | exact Below.refl _ _ | exact (Below.refl _ _).drew)).mono ?_; rintro e w5 ⟨rfl, hb5⟩)
          | (go_at_call_of 18 x1; refine (K1.out _ (by first | assumption | exact Below.refl _ _ | exact (Below.refl _ _).drew)).mono ?_; rintro e w5 ⟨rfl, hb5⟩)
          | (go_at_call_of 18 x4; refine (K4.out _ (by first | assumption | exact Below.refl _ _ | exact (Below.refl _ _).drew)).mono ?_; rintro e w5 ⟨rfl, hb5⟩)
          | (go_at_call_of 18 x5; refine (K5.out _ (by first | assumption | exact Below.refl _ _ | exact (Below.refl _ _).drew)).mono ?_; rintro e w5 ⟨rfl, hb5⟩)
          | (go_at_call_of 18 x2; refine (K2.out _ (by first | assumption | exact Below.refl _ _ | exact (Below.refl _ _).drew)).mono ?_; rintro e w5 ⟨rfl, hb5⟩)
          | (go_at_call_of 18 x3; refine (K3.out _ (by first | assumption | exact Below.refl _ _ | exact (Below.refl _ _).drew)).mono ?_; rintro e w5 ⟨rfl, hb5⟩)
          | (go_at_call_of 18 ks; refine (K7.out _ (by first | assumption | exact Below.refl _ _ | exact (Below.refl _ _).drew)).mono ?_; rintro e w5 ⟨rfl, hb5⟩))
      rw [← HHH.out]
      have HX5 : Hid (w5.heap[G]? = some (.cells #[.int .i64 x0, .int .i64 x1, .string x2, .string x3, .int .i64 x4, .int .i64 x5, .bool x6, .slice p ks.length c] 33)) := by
        show _ = _
        rw [hb5.block G (by have := HZ1.out; omega)]; exact HX.out
      have HB5 : Hid (Below G w w5) := HB1.out.trans (hb5.mono (by have := HZ1.out; omega))
      have d7 : w5.cell? ⟨G, 7, none⟩ = some (.slice p ks.length c) := cell_of_block HX5.out 7
      clear g2 g3 g4 g5 g6 g7 g8 g9 g10 SS HX5 HX HB1 HHH K0 K1 K2 K3 K4 K5 K7 hb5
      go_wp2_with fail
      go_loopw [4, 50] (fun sv iv wr => ∃ (j : Nat) (s : ByteArray), j ≤ ks.length ∧ iv = .int .i64 j ∧ sv = .string s ∧ Hid (s = hd ++ bsS (itemsB (ks.take j))) ∧ Hid (Below G w wr)) (fun _ iv _ => ks.length - (RowKit.intOf iv).toNat)
      case atStart => exact ⟨0, hd, Nat.zero_le _, rfl, rfl, by show _ = _; rw [List.take_zero, itemsB]; exact (ByteArray.append_empty).symm, HB5⟩
      case round =>
        obtain ⟨j, s, hj, rfl, rfl, HE, HB⟩ := hrel
        by_cases hlt : j < ks.length
        · obtain ⟨b1, o1, kv1, rfl, hb1, hc1, hrow1⟩ := T.out j hlt
          have K : ∀ i u, w.cell? ⟨b1, i, none⟩ = some u → wr.cell? ⟨b1, i, none⟩ = some u := fun i u h => (HB.out.cell (p := ⟨b1, i, none⟩) hb1).trans h
          have e0 := K _ _ hc1.c0
          have e1 := K _ _ hc1.c1
          have e2 := K _ _ hc1.c2
          have e3 := K _ _ hc1.c3
          have e4 := K _ _ hc1.c4
          have e5 := K _ _ hc1.c5
          have e6 := K _ _ hc1.c6
          have e7 := K _ _ hc1.c7
          have hBr : G ≤ wr.heap.size := by have h1 := HB.out.size; have h2 := HG.out; omega
          have HA2 : Hid (∀ o : Obj, IzsAt (wr.alloc o) (fun g => g < (wr.alloc o).heap.size) kv1 ks[j].kids ∧ Below G w (wr.alloc o)) := fun o => by
            have hW := HB.out.alloc hBr o
            exact ⟨hrow1.frame (fun g hg hlt => ⟨hW.block g hg, by simp; omega⟩), hW⟩
          have C := fun W h1 h2 => IH.out j hlt kv1 W h1 h2
          unfold itV at C
          have HC : Hid _ := C
          have gs : ¬ 9223372036854775807 < s.size + (bsS (itemB ks[j])).size := by
            have h1 := HA.out j
            have h2 := HS7.out j hlt
            rw [HE.out, ByteArray.size_append]
            omega
          have HE2 : Hid (s ++ bsS (itemB ks[j]) = hd ++ bsS (itemsB (ks.take (j + 1)))) := by
            show _ = _
            rw [HE.out, HTK.out j hlt, ByteArray.append_assoc]
          obtain ⟨pk, ck, rfl⟩ := hrow1.shape
          clear hc1 K hb1 C hrow1 hBr HE
          generalize bsS (itemB ks[j]) = sb at *
          generalize ks[j].kids = kk at *
          generalize ks[j].node = y0 at *
          generalize ks[j].role = y1 at *
          generalize ks[j].name = y2 at *
          generalize ks[j].about = y3 at *
          generalize ks[j].level = y4 at *
          generalize ks[j].checked = y5 at *
          generalize ks[j].off = y6 at *
          go_upto_region 8 with fail
          have HB8 : Hid ((wr.alloc (.cells #[.int .i64 y0, .int .i64 y1, .string y2, .string y3, .int .i64 y4, .int .i64 y5, .bool y6, .slice pk kk.length ck] 33)).heap[wr.heap.size]? = some (.cells #[.int .i64 y0, .int .i64 y1, .string y2, .string y3, .int .i64 y4, .int .i64 y5, .bool y6, .slice pk kk.length ck] 33)) := heap_alloc_new _ _
          have HA3 := HA2.out (.cells #[.int .i64 y0, .int .i64 y1, .string y2, .string y3, .int .i64 y4, .int .i64 y5, .bool y6, .slice pk kk.length ck] 33)
          clear HA2 e0 e1 e2 e3 e4 e5 e6 e7
          generalize hwa : wr.alloc (.cells #[.int .i64 y0, .int .i64 y1, .string y2, .string y3, .int .i64 y4, .int .i64 y5, .bool y6, .slice pk kk.length ck] 33) = wa at *
          clear hwa
          generalize wr.heap.size = R at *
          obtain ⟨a1, a2⟩ := HA3
          have C := HC.out wa a1 a2
          have HW9 : Hid (Below G w wa) := a2
          have HGa : Hid (G ≤ wa.heap.size) := by have h1 := a2.size; have h2 := HG.out; show _ ≤ _; omega
          have g0 : wa.cell? ⟨R, 0, none⟩ = some (.int .i64 y0) := cell_of_block HB8.out 0
          have g1 : wa.cell? ⟨R, 1, none⟩ = some (.int .i64 y1) := cell_of_block HB8.out 1
          have g2 : wa.cell? ⟨R, 2, none⟩ = some (.string y2) := cell_of_block HB8.out 2
          have g3 : wa.cell? ⟨R, 3, none⟩ = some (.string y3) := cell_of_block HB8.out 3
          have g4 : wa.cell? ⟨R, 4, none⟩ = some (.int .i64 y4) := cell_of_block HB8.out 4
          have g5 : wa.cell? ⟨R, 5, none⟩ = some (.int .i64 y5) := cell_of_block HB8.out 5
          have g6 : wa.cell? ⟨R, 6, none⟩ = some (.bool y6) := cell_of_block HB8.out 6
          have g7 : wa.cell? ⟨R, 7, none⟩ = some (.slice pk kk.length ck) := cell_of_block HB8.out 7
          clear HC a1 a2 HB8
          go_wp2_with (go_at_call 19; refine C.mono ?_; clear C; rintro e w9 ⟨rfl, k9⟩)
          go_roundw
          case rel => exact ⟨j + 1, s ++ sb, by omega, by go_num, by first | rfl | trivial, HE2, HW9.out.trans (k9.mono HGa.out)⟩
          case measure => simp [RowKit.intOf]; omega
        · obtain rfl : j = ks.length := by omega
          rw [List.take_length] at HE
          go_wp2_with fail
          go_ret
          exact ⟨by rw [HI.out, ← HE.out]; rfl, by rw [HG.out]; exact HB.out⟩
end Go.Proofs.YtpnineimnjibaafDoor

/-
  THE WALK of the reference's Bytes.
-/
namespace Go.Proofs.YtpnineimnjibaafDoor
open Go.RowKit Go.Lib

/-- these bytes are this text, now and behind whatever is done beside them -/
def TextOf (w : World) (v : Value) (l : Bs) : Prop := ∀ w' : World, Below w.heap.size w w' → (convert 23 9 v).run Tryd.prog w' = .ok (.string (bsS l)) w'
theorem TextOf.on {w w' : World} {v : Value} {l : Bs} (h : TextOf w v l) (hb : Below w.heap.size w w') : TextOf w' v l := fun w2 h2 => h w2 (hb.trans (h2.mono hb.size))
theorem TextOf.here {w : World} {v : Value} {l : Bs} (h : TextOf w v l) : (convert 23 9 v).run Tryd.prog w = .ok (.string (bsS l)) w := h w (Below.refl _ _)
theorem BsAt.textOf {w : World} {P : Nat → Prop} {v : Value} {l : Bs} (h : BsAt w P v l) : TextOf w v l := fun _ hb => (h.under hb).text
theorem to_bytes (s : ByteArray) (w : World) : ∃ v w1, (convert 9 23 (.string s)).run Tryd.prog w = .ok v w1 ∧ (∃ a n c, v = .slice (some a) n c) ∧ TextOf w1 v s.data.toList ∧ Below w.heap.size w w1 := by
  refine ⟨_, _, run_bytes_of_string w 9 23 5 s Tryd.underlying9 Tryd.underlying23 Tryd.underlying5, ⟨_, _, _, rfl⟩, fun w' hb => ?_, ((Below.refl _ _).drew).alloc (Nat.le_refl _) _⟩
  have hsz : s.size = s.data.toList.length := rfl
  rw [hsz]
  refine run_convert_bytes_back w' 23 9 5 ⟨w.heap.size, 0, none⟩ _ s.data.toList Tryd.underlying23 Tryd.underlying5 Tryd.underlying9 (fun j hj => ?_)
  rw [add_at, Nat.zero_add, hb.cell (show (⟨w.heap.size, j, none⟩ : Addr).block < _ by simp)]
  have hs : w.heap.size = w.drew.heap.size := rfl
  rw [hs, World.cell?_alloc_mark]
  unfold bytesRow
  rw [Array.getElem?_append_left (by simpa using hj), Array.getElem?_map]
  have := List.getElem?_eq_getElem hj
  rw [Array.getElem?_toList] at this
  rw [this]
  rfl
theorem ev_text (e : Ez) : bsS (eventB e) = ((((bsS (numB e.kind) ++ bsS (numB e.node)) ++ bsS (numB e.tgt)) ++ bsS (numB e.at_)) ++ bsS (itemB e.item)) := by
  simp only [bsS_app, eventB, evHeadB, List.append_assoc]

set_option maxHeartbeats 3200000 in
set_option maxRecDepth 100000 in
theorem yubytes_any {w : World} {v : Value} {l : List Ez} (h : EzsAt w (fun g => g < w.heap.size) v l) (hn : ∀ e ∈ l, EvNum e) (hL : LtB w.heap.size w) (hsz : (eventsB l).length ≤ 700000000) :
    Calls Tryd.prog 9 #[v] w fun e w' => ∃ v', e = .returned v' ∧ (∃ a n c, v' = .slice (some a) n c) ∧ TextOf w' v' (eventsB l) ∧ Below w.heap.size w w' := by
  obtain ⟨p, c, rfl, y1, y2, hat⟩ := h
  generalize hB : w.heap.size = B at *
  have HB : Hid (w.heap.size = B) := hB
  have T : Hid (∀ j (hj : j < l.length), ∃ b o kv, p = some ⟨b, o, none⟩ ∧ b < B ∧ EzAt w b (o + j * 12) l[j] kv ∧ IzsAt w (fun g => g < B) kv l[j].item.kids) := hat
  have CN : Hid (∀ (n : Int), I6 n → ∀ w1 : World, Below B w w1 → Hid (∀ W, Below w1.heap.size w1 W → Calls Tryd.prog 18 #[.int .i64 n] W fun e w' => e = .returned (.string (bsS (numB n))) ∧ Below w1.heap.size w1 w')) := by
    intro n hn w1 hb1 W hW
    have hz := hb1.size
    refine (yunum (hL W (hb1.trans (hW.mono (by omega)))) hn).mono ?_
    rintro e w' ⟨e1, h1⟩
    exact ⟨e1, hW.trans (h1.mono hW.size)⟩
  have CI : Hid (∀ (j : Nat) (h : j < l.length) (kv : Value) (w1 : World), IzsAt w1 (fun g => g < w1.heap.size) kv l[j].item.kids → Below B w w1 → Hid (∀ W, Below w1.heap.size w1 W →
      Calls Tryd.prog 19 #[itV l[j].item kv] W fun e w' => e = .returned (.string (bsS (itemB l[j].item))) ∧ Below w1.heap.size w1 w')) := by
    intro j hj kv w1 hr hb1 W hW
    have hz := hb1.size
    have hzw := hW.size
    refine (yuitem (deep1 l[j].item) l[j].item kv W (Nat.le_refl _) (hr.frame (fun g hg hlt => ⟨hW.block g hlt, by omega⟩)) (hn _ (List.getElem_mem hj)).2.2.2.2 (fun w' h' => hL w' ((hb1.trans (hW.mono (by omega))).trans (h'.mono (by omega)))) (by
      have h1 := eventsB_take l j hj
      have h2 := eventsB_take_le l (j + 1)
      rw [h1, List.length_append] at h2
      omega)).mono ?_
    rintro e w' ⟨e1, h1⟩
    exact ⟨e1, hW.trans (h1.mono hW.size)⟩
  have HN : Hid (∀ e ∈ l, EvNum e) := hn
  have HSZ : Hid (∀ j (h : j < l.length), (bsS (eventsB (l.take j))).size + (bsS (eventB l[j])).size ≤ 700000000) := fun j hj => by
    have h1 : (eventsB (l.take (j + 1))).length = (eventsB (l.take j)).length + (eventB l[j]).length := by rw [List.take_succ_eq_append_getElem hj, eventsB_snoc, List.length_append]
    have h2 := eventsB_take_le l (j + 1)
    show _ ≤ _
    rw [bsS_size, bsS_size]
    omega
  have HTK : Hid (∀ j (h : j < l.length), bsS (eventsB (l.take (j + 1))) = bsS (eventsB (l.take j)) ++ bsS (eventB l[j])) := fun j hj => by
    show _ = _
    rw [bsS_app, List.take_succ_eq_append_getElem hj, eventsB_snoc]
  clear hat hL hn hsz hB
  go_enter Tryd.func9, Tryd.ntmps9
  go_wp2_with fail
  go_loopw [3, 8] (fun sv iv wr => ∃ (j : Nat) (s : ByteArray), j ≤ l.length ∧ iv = .int .i64 j ∧ sv = .string s ∧ Hid (s = bsS (eventsB (l.take j))) ∧ Hid (Below B w wr)) (fun _ iv _ => l.length - (RowKit.intOf iv).toNat)
  case atStart => exact ⟨0, ⟨#[]⟩, Nat.zero_le _, rfl, rfl, rfl, Below.refl _ _⟩
  case round =>
    obtain ⟨j, s, hj, rfl, rfl, HE, HR⟩ := hrel
    by_cases hlt : j < l.length
    · obtain ⟨b1, o1, kv1, rfl, hb1, hc1, hrow1⟩ := T.out j hlt
      have K : ∀ i u, w.cell? ⟨b1, i, none⟩ = some u → wr.cell? ⟨b1, i, none⟩ = some u := fun i u h => (HR.out.cell (p := ⟨b1, i, none⟩) hb1).trans h
      have f0 := K _ _ hc1.c0
      have f1 := K _ _ hc1.c1
      have f2 := K _ _ hc1.c2
      have f3 := K _ _ hc1.c3
      have e0 := K _ _ hc1.it.c0
      have e1 := K _ _ hc1.it.c1
      have e2 := K _ _ hc1.it.c2
      have e3 := K _ _ hc1.it.c3
      have e4 := K _ _ hc1.it.c4
      have e5 := K _ _ hc1.it.c5
      have e6 := K _ _ hc1.it.c6
      have e7 := K _ _ hc1.it.c7
      simp only [Nat.add_assoc (o1 + j * 12), Nat.reduceAdd] at e1 e2 e3 e4 e5 e6 e7
      have hBr : B ≤ wr.heap.size := by have h1 := HR.out.size; have h2 := HB.out; omega
      have HA : Hid (∀ o : Obj, IzsAt (wr.alloc o) (fun g => g < (wr.alloc o).heap.size) kv1 l[j].item.kids ∧ Below B w (wr.alloc o)) := fun o => by
        have hW := HR.out.alloc hBr o
        exact ⟨hrow1.frame (fun g hg hlt => ⟨hW.block g hg, by simp; omega⟩), hW⟩
      obtain ⟨i0, i1, i2, i3, _⟩ := HN.out _ (List.getElem_mem hlt)
      have HX0 : Hid (∀ o, Hid (∀ W, Below (wr.alloc o).heap.size (wr.alloc o) W → Calls Tryd.prog 18 #[.int .i64 l[j].kind] W fun e w' => e = .returned (.string (bsS (numB l[j].kind))) ∧ Below (wr.alloc o).heap.size (wr.alloc o) w')) := fun o => CN.out l[j].kind i0 _ (HA.out o).2
      have HX1 : Hid (∀ o, Hid (∀ W, Below (wr.alloc o).heap.size (wr.alloc o) W → Calls Tryd.prog 18 #[.int .i64 l[j].node] W fun e w' => e = .returned (.string (bsS (numB l[j].node))) ∧ Below (wr.alloc o).heap.size (wr.alloc o) w')) := fun o => CN.out l[j].node i1 _ (HA.out o).2
      have HX2 : Hid (∀ o, Hid (∀ W, Below (wr.alloc o).heap.size (wr.alloc o) W → Calls Tryd.prog 18 #[.int .i64 l[j].tgt] W fun e w' => e = .returned (.string (bsS (numB l[j].tgt))) ∧ Below (wr.alloc o).heap.size (wr.alloc o) w')) := fun o => CN.out l[j].tgt i2 _ (HA.out o).2
      have HX3 : Hid (∀ o, Hid (∀ W, Below (wr.alloc o).heap.size (wr.alloc o) W → Calls Tryd.prog 18 #[.int .i64 l[j].at_] W fun e w' => e = .returned (.string (bsS (numB l[j].at_))) ∧ Below (wr.alloc o).heap.size (wr.alloc o) w')) := fun o => CN.out l[j].at_ i3 _ (HA.out o).2
      have HX4 : Hid (∀ o, Hid (∀ W, Below (wr.alloc o).heap.size (wr.alloc o) W → Calls Tryd.prog 19 #[itV l[j].item kv1] W fun e w' => e = .returned (.string (bsS (itemB l[j].item))) ∧ Below (wr.alloc o).heap.size (wr.alloc o) w')) := fun o => CI.out j hlt kv1 _ (HA.out o).1 (HA.out o).2
      unfold itV at HX4
      have s0 : (bsS (numB l[j].kind)).size ≤ 21 := by rw [bsS_size]; exact numB_le i0
      have s1 : (bsS (numB l[j].node)).size ≤ 21 := by rw [bsS_size]; exact numB_le i1
      have s2 : (bsS (numB l[j].tgt)).size ≤ 21 := by rw [bsS_size]; exact numB_le i2
      have s3 : (bsS (numB l[j].at_)).size ≤ 21 := by rw [bsS_size]; exact numB_le i3
      have HET := ev_text l[j]
      have s4 : s.size ≤ 700000000 := by
        have h1 := HSZ.out j hlt
        rw [HE.out]
        omega
      have s5 : (bsS (itemB l[j].item)).size ≤ 700000000 := by
        have h1 := HSZ.out j hlt
        have h2 := congrArg ByteArray.size HET
        simp only [ByteArray.size_append] at h2
        omega
      have HE2 : Hid (((((s ++ bsS (numB l[j].kind)) ++ bsS (numB l[j].node)) ++ bsS (numB l[j].tgt)) ++ bsS (numB l[j].at_)) ++ bsS (itemB l[j].item) = bsS (eventsB (l.take (j + 1)))) := by
        show _ = _
        rw [HTK.out j hlt, HET, HE.out]
        simp only [ByteArray.append_assoc]
      obtain ⟨pk, ck, rfl⟩ := hrow1.shape
      clear hc1 K hb1 hrow1 hBr HE HET i0 i1 i2 i3
      generalize bsS (numB l[j].kind) = t0 at *
      generalize bsS (numB l[j].node) = t1 at *
      generalize bsS (numB l[j].tgt) = t2 at *
      generalize bsS (numB l[j].at_) = t3 at *
      generalize bsS (itemB l[j].item) = t4 at *
      generalize hNx : bsS (eventsB (l.take (j + 1))) = nx at *
      have HNX : Hid (bsS (eventsB (l.take (j + 1))) = nx) := hNx
      clear hNx
      generalize l[j].kind = z0 at *
      generalize l[j].node = z1 at *
      generalize l[j].tgt = z2 at *
      generalize l[j].at_ = z3 at *
      generalize l[j].item.kids = kk at *
      generalize l[j].item.node = y0 at *
      generalize l[j].item.role = y1 at *
      generalize l[j].item.name = y2 at *
      generalize l[j].item.about = y3 at *
      generalize l[j].item.level = y4 at *
      generalize l[j].item.checked = y5 at *
      generalize l[j].item.off = y6 at *
      go_upto_region 5 with fail
      have HX : Hid ((wr.alloc (.cells #[.int .i64 z0, .int .i64 z1, .int .i64 z2, .int .i64 z3, .int .i64 y0, .int .i64 y1, .string y2, .string y3, .int .i64 y4, .int .i64 y5, .bool y6, .slice pk kk.length ck] 35)).heap[wr.heap.size]? = some (.cells #[.int .i64 z0, .int .i64 z1, .int .i64 z2, .int .i64 z3, .int .i64 y0, .int .i64 y1, .string y2, .string y3, .int .i64 y4, .int .i64 y5, .bool y6, .slice pk kk.length ck] 35)) := heap_alloc_new _ _
      have HW1 : Hid (Below B w (wr.alloc (.cells #[.int .i64 z0, .int .i64 z1, .int .i64 z2, .int .i64 z3, .int .i64 y0, .int .i64 y1, .string y2, .string y3, .int .i64 y4, .int .i64 y5, .bool y6, .slice pk kk.length ck] 35))) := (HA.out _).2
      have HZ : Hid ((wr.alloc (.cells #[.int .i64 z0, .int .i64 z1, .int .i64 z2, .int .i64 z3, .int .i64 y0, .int .i64 y1, .string y2, .string y3, .int .i64 y4, .int .i64 y5, .bool y6, .slice pk kk.length ck] 35)).heap.size = wr.heap.size + 1) := by show _ = _; simp
      have K0 := HX0.out (.cells #[.int .i64 z0, .int .i64 z1, .int .i64 z2, .int .i64 z3, .int .i64 y0, .int .i64 y1, .string y2, .string y3, .int .i64 y4, .int .i64 y5, .bool y6, .slice pk kk.length ck] 35)
      have K1 := HX1.out (.cells #[.int .i64 z0, .int .i64 z1, .int .i64 z2, .int .i64 z3, .int .i64 y0, .int .i64 y1, .string y2, .string y3, .int .i64 y4, .int .i64 y5, .bool y6, .slice pk kk.length ck] 35)
      have K2 := HX2.out (.cells #[.int .i64 z0, .int .i64 z1, .int .i64 z2, .int .i64 z3, .int .i64 y0, .int .i64 y1, .string y2, .string y3, .int .i64 y4, .int .i64 y5, .bool y6, .slice pk kk.length ck] 35)
      have K3 := HX3.out (.cells #[.int .i64 z0, .int .i64 z1, .int .i64 z2, .int .i64 z3, .int .i64 y0, .int .i64 y1, .string y2, .string y3, .int .i64 y4, .int .i64 y5, .bool y6, .slice pk kk.length ck] 35)
      have K4 := HX4.out (.cells #[.int .i64 z0, .int .i64 z1, .int .i64 z2, .int .i64 z3, .int .i64 y0, .int .i64 y1, .string y2, .string y3, .int .i64 y4, .int .i64 y5, .bool y6, .slice pk kk.length ck] 35)
      clear f0 f1 f2 f3 e0 e1 e2 e3 e4 e5 e6 e7 HR HA HX0 HX1 HX2 HX3 HX4
      generalize hwa : wr.alloc (.cells #[.int .i64 z0, .int .i64 z1, .int .i64 z2, .int .i64 z3, .int .i64 y0, .int .i64 y1, .string y2, .string y3, .int .i64 y4, .int .i64 y5, .bool y6, .slice pk kk.length ck] 35) = wa at *
      clear hwa
      generalize wr.heap.size = R at *
      have SS : ∀ w'' : World, Below wa.heap.size wa w'' → (fun w'' : World => w''.cell? ⟨R, 0, none⟩ = some (.int .i64 z0) ∧ w''.cell? ⟨R, 1, none⟩ = some (.int .i64 z1) ∧ w''.cell? ⟨R, 2, none⟩ = some (.int .i64 z2) ∧ w''.cell? ⟨R, 3, none⟩ = some (.int .i64 z3) ∧ w''.cell? ⟨R, 4, none⟩ = some (.int .i64 y0) ∧ w''.cell? ⟨R, 5, none⟩ = some (.int .i64 y1) ∧ w''.cell? ⟨R, 6, none⟩ = some (.string y2) ∧ w''.cell? ⟨R, 7, none⟩ = some (.string y3) ∧ w''.cell? ⟨R, 8, none⟩ = some (.int .i64 y4) ∧ w''.cell? ⟨R, 9, none⟩ = some (.int .i64 y5) ∧ w''.cell? ⟨R, 10, none⟩ = some (.bool y6) ∧ w''.cell? ⟨R, 11, none⟩ = some (.slice pk kk.length ck)) w'' := fun w'' hb => by
        have hx : w''.heap[R]? = some (.cells #[.int .i64 z0, .int .i64 z1, .int .i64 z2, .int .i64 z3, .int .i64 y0, .int .i64 y1, .string y2, .string y3, .int .i64 y4, .int .i64 y5, .bool y6, .slice pk kk.length ck] 35) := by
          rw [hb.block R (by have := HZ.out; omega)]; exact HX.out
        exact ⟨cell_of_block hx 0, cell_of_block hx 1, cell_of_block hx 2, cell_of_block hx 3, cell_of_block hx 4, cell_of_block hx 5, cell_of_block hx 6, cell_of_block hx 7, cell_of_block hx 8, cell_of_block hx 9, cell_of_block hx 10, cell_of_block hx 11⟩
      have g1 : ¬ 9223372036854775807 < s.size + t0.size := by omega
      have g2 : ¬ 9223372036854775807 < s.size + t0.size + t1.size := by omega
      have g3 : ¬ 9223372036854775807 < s.size + t0.size + t1.size + t2.size := by omega
      have g4 : ¬ 9223372036854775807 < s.size + t0.size + t1.size + t2.size + t3.size := by omega
      have g5 : ¬ 9223372036854775807 < s.size + t0.size + t1.size + t2.size + t3.size + t4.size := by omega
      clear s0 s1 s2 s3 s4 s5
      go_region_held3 (fun w'' : World => w''.cell? ⟨R, 0, none⟩ = some (.int .i64 z0) ∧ w''.cell? ⟨R, 1, none⟩ = some (.int .i64 z1) ∧ w''.cell? ⟨R, 2, none⟩ = some (.int .i64 z2) ∧ w''.cell? ⟨R, 3, none⟩ = some (.int .i64 z3) ∧ w''.cell? ⟨R, 4, none⟩ = some (.int .i64 y0) ∧ w''.cell? ⟨R, 5, none⟩ = some (.int .i64 y1) ∧ w''.cell? ⟨R, 6, none⟩ = some (.string y2) ∧ w''.cell? ⟨R, 7, none⟩ = some (.string y3) ∧ w''.cell? ⟨R, 8, none⟩ = some (.int .i64 y4) ∧ w''.cell? ⟨R, 9, none⟩ = some (.int .i64 y5) ∧ w''.cell? ⟨R, 10, none⟩ = some (.bool y6) ∧ w''.cell? ⟨R, 11, none⟩ = some (.slice pk kk.length ck))
        ((with_reducible refine SS _ ?_; first | with_reducible assumption | with_reducible exact Below.refl _ _ | with_reducible exact (Below.refl _ _).drew))
        (first
          | (go_at_call_of 18 z0; refine (K0.out _ (by first | assumption | exact Below.refl _ _ | exact (Below.refl _ _).drew)).mono ?_; rintro e w5 ⟨rfl, hb5⟩)
          | (go_at_call_of 18 z1; refine (K1.out _ (by first | assumption | exact Below.refl _ _ | exact (Below.refl _ _).drew)).mono ?_; rintro e w5 ⟨rfl, hb5⟩)
          | (go_at_call_of 18 z2; refine (K2.out _ (by first | assumption | exact Below.refl _ _ | exact (Below.refl _ _).drew)).mono ?_; rintro e w5 ⟨rfl, hb5⟩)
          | (go_at_call_of 18 z3; refine (K3.out _ (by first | assumption | exact Below.refl _ _ | exact (Below.refl _ _).drew)).mono ?_; rintro e w5 ⟨rfl, hb5⟩)
          | (go_at_call_of 19 y6; refine (K4.out _ (by first | assumption | exact Below.refl _ _ | exact (Below.refl _ _).drew)).mono ?_; rintro e w5 ⟨rfl, hb5⟩))
      have HB9 : Hid (Below B w w5) := HW1.out.trans (hb5.mono (by have h1 := HW1.out.size; have h2 := HB.out; omega))
      clear SS g1 g2 g3 g4 g5 K0 K1 K2 K3 K4 hb5 HX HW1
      go_wp2_with fail
      go_roundw
      case rel => exact ⟨j + 1, nx, by omega, by go_num, by first | (rw [HE2.out]) | trivial, by rw [HNX.out]; rfl, HB9⟩
      case measure => simp [RowKit.intOf]; omega
    · obtain rfl : j = l.length := by omega
      rw [List.take_length] at HE
      obtain ⟨vb, w5, hconv, ⟨a, n, cp, rfl⟩, ht, hb5⟩ := to_bytes s wr
      have HT : Hid (TextOf w5 (.slice (some a) n cp) (eventsB l)) := by
        have e : s.data.toList = eventsB l := by rw [HE.out, bsS_data]
        rw [e] at ht
        exact ht
      clear ht HE
      go_wp2_with fail
      go_ret
      exact ⟨_, rfl, ⟨_, _, _, rfl⟩, HT.out, by
        have h1 := HR.out.size
        have h2 := HB.out
        exact HR.out.trans (hb5.mono (by omega))⟩
end Go.Proofs.YtpnineimnjibaafDoor

/-
  A REGION THAT DRAWS ITS ORDER: the condition on the world may be turned on the way, to one that says more.
-/
namespace Go.Proofs.YtpnineimnjibaafDoor
open Go.RowKit Go.Lib

theorem wpAnyH_switch {P : Program} {md : Region.Mode} {ops : Array Oper} {Q : Exit → Act → World → Prop} {S S' : World → Prop} (hS : ∀ w, S' w → S w) :
    ∀ (fuel : Nat) (listed : Array Bool) (a : Act) (w : World), wpAnyH P md ops Q S' fuel listed a w → wpAnyH P md ops Q S fuel listed a w
  | 0, _, _, _, h => h
  | fuel + 1, _, _, _, h => ⟨h.1, fun i hi => wpOp_mono (fun a' w' h' => ⟨hS _ h'.1, wpAnyH_switch hS fuel _ a' w' h'.2⟩) (h.2 i hi)⟩

theorem EzsAt.shape {w : World} {P : Nat → Prop} {v : Value} {l : List Ez} (h : EzsAt w P v l) : ∃ p c, v = .slice p l.length c := by
  obtain ⟨p, c, e, _⟩ := h
  exact ⟨p, c, e⟩
theorem EzsAt.under {w w' : World} {P : Nat → Prop} {v : Value} {l : List Ez} (h : EzsAt w P v l) (hb : Below w.heap.size w w') : EzsAt w' P v l := h.frame (fun g hg hlt => ⟨hb.block g hlt, hg⟩)
theorem OwnEr.shape3 {w : World} {B : Nat} {v : Value} {l : List Ez} (h : OwnEr w B v l) : ∃ p n c, v = .slice p n c := by
  obtain ⟨p, c, e⟩ := h.shape
  exact ⟨p, _, c, e⟩
/-- wire.Bytes, in the form that laws take -/
theorem ybytes_text {w : World} {v : Value} {l : List Ez} (h : EzsAt w (fun g => g < w.heap.size) v l) (hn : ∀ e ∈ l, EvNum e) (hL : LtB w.heap.size w) (hsz : (eventsB l).length ≤ 700000000) :
    Calls Tryd.prog 8 #[v] w fun e w' => ∃ p n c, e = .returned (.slice p n c) ∧ TextOf w' (.slice p n c) (eventsB l) ∧ Below w.heap.size w w' :=
  (ybytes_any h hn hL hsz).mono fun e w' ⟨v', e1, h1, h2⟩ => by
    obtain ⟨p, c, rfl⟩ := h1.shape
    exact ⟨p, _, c, e1, h1.bs.textOf, h2⟩
end Go.Proofs.YtpnineimnjibaafDoor

/-
  THE WALK of tnlaw10's WireJoined (the region laid by mkjwj.py).
-/
namespace Go.Proofs.YtpnineimnjibaafDoor
open Go.RowKit Go.Lib

set_option maxHeartbeats 6400000 in
set_option maxRecDepth 100000 in
theorem ywirejoined {w : World} {v1 v2 : Value} {a b : List Ez} (h1 : EzsAt w (fun g => g < w.heap.size) v1 a) (h2 : EzsAt w (fun g => g < w.heap.size) v2 b) (n1 : ∀ e ∈ a, EvNum e) (n2 : ∀ e ∈ b, EvNum e)
    (z1 : ∀ n c, v1 = .slice none n c → c = 0) (z2 : ∀ n c, v2 = .slice none n c → c = 0) (hL : LtB w.heap.size w) (hs1 : (eventsB a).length ≤ 300000000) (hs2 : (eventsB b).length ≤ 300000000) (hl : a.length + b.length ≤ 100000000) :
    Calls Tryd.prog 5 #[v1, v2] w fun e w' => e = .returned (.bool true) ∧ Below w.heap.size w w' := by
  have CA := yalive hL
  have H1 : Hid (∀ W, Below w.heap.size w W → EzsAt W (fun g => g < w.heap.size) v1 a) := fun W hb => h1.under hb
  have H2 : Hid (∀ W, Below w.heap.size w W → EzsAt W (fun g => g < w.heap.size) v2 b) := fun W hb => h2.under hb
  have HC1 : Hid (∀ W, Below w.heap.size w W → Calls Tryd.prog 8 #[v1] W fun e w' => ∃ p n c, e = .returned (.slice p n c) ∧ TextOf w' (.slice p n c) (eventsB a) ∧ Below W.heap.size W w') := fun W hb =>
    ybytes_text ((h1.under hb).frame (fun g hg _ => ⟨rfl, by have := hb.size; omega⟩)) n1 ((hL.on hb).up hb.size) (by omega)
  have HC2 : Hid (∀ W, Below w.heap.size w W → Calls Tryd.prog 8 #[v2] W fun e w' => ∃ p n c, e = .returned (.slice p n c) ∧ TextOf w' (.slice p n c) (eventsB b) ∧ Below W.heap.size W w') := fun W hb =>
    ybytes_text ((h2.under hb).frame (fun g hg _ => ⟨rfl, by have := hb.size; omega⟩)) n2 ((hL.on hb).up hb.size) (by omega)
  have HC3 : Hid (∀ W v, Below w.heap.size w W → OwnEr W w.heap.size v (([] ++ a) ++ b) → Calls Tryd.prog 8 #[v] W fun e w' => ∃ p n c, e = .returned (.slice p n c) ∧ TextOf w' (.slice p n c) (eventsB (a ++ b)) ∧ Below W.heap.size W w') := fun W v hb ho => by
    rw [List.nil_append] at ho
    refine ybytes_text (ho.ezs hb.size) (fun e he => ?_) ((hL.on hb).up hb.size) (by rw [eventsB_app, List.length_append]; omega)
    rcases List.mem_append.mp he with he | he
    · exact n1 e he
    · exact n2 e he
  have HQ : ((bsS (eventsB (a ++ b))).toList == (bsS (eventsB a) ++ bsS (eventsB b)).toList) = true := by
    rw [bsS_app, eventsB_app]
    simp
  have HG : ¬ 9223372036854775807 < (bsS (eventsB a)).size + (bsS (eventsB b)).size := by rw [bsS_size, bsS_size]; omega
  have HZ1 : Hid (∀ n c, v1 = .slice none n c → c = 0) := z1
  have HZ2 : Hid (∀ n c, v2 = .slice none n c → c = 0) := z2
  have HL1 : Hid (([] : List Ez).length + a.length ≤ 100000000 ∧ ([] ++ a).length + b.length ≤ 100000000) := ⟨by simp only [List.length_nil]; omega, by simp only [List.nil_append]; omega⟩
  obtain ⟨p1, c1, rfl⟩ := h1.shape
  obtain ⟨p2, c2, rfl⟩ := h2.shape
  clear n1 n2 z1 z2 hL hs1 hs2 hl h1 h2
  go_enter Tryd.func5, Tryd.ntmps5
  go_upto_region 3 with (go_at_call 11; refine CA.mono ?_; clear CA; rintro e w5 ⟨rfl, hb5⟩)
  have HB5 : Hid (Below w.heap.size w w5) := hb5
  have bd : Below w.heap.size w w5.drew := hb5.drew
  have HE : Hid (∀ W, Below w.heap.size w W → Below w.heap.size w (W.alloc (.cells #[] 35)) ∧ OwnEr (W.alloc (.cells #[] 35)) w.heap.size (.slice (some ⟨W.heap.size, 0, none⟩) 0 0) []) := fun W hb => ⟨hb.alloc hb.size _, OwnEr.empty (heap_alloc_new _ _) hb.size⟩
  have hz5 : w.heap.size ≤ w5.heap.size := hb5.size
  clear hb5
  refine wp_region_held_drew (S := fun _ : World => True) (by kernel_rfl) ?_ (fun hHeld => ?_)
  · exact trivial
  refine wpAnyH_take (i := 1) (v := ?v1) rfl (by kernel_rfl) (by kernel_rfl) (by kernel_rfl) (fun _ _ _ h => h) (Or.inl ⟨by kernel_rfl, ?hy1⟩) (by assumption) ?rest1
  case hy1 => intro wS hSw; clear hSw; first | (go_simp; done) | (go_simp; with_reducible rfl) | with_reducible rfl
  (try simp only [List.getElem_toArray, List.getElem_cons_succ, List.getElem_cons_zero]); (try dsimp only); (try go_frame)
  refine wpAnyH_take (i := 3) (v := ?v3) rfl (by kernel_rfl) (by kernel_rfl) (by kernel_rfl) (fun _ _ _ h => h) (Or.inl ⟨by kernel_rfl, ?hy3⟩) (by assumption) ?rest3
  case hy3 => intro wS hSw; clear hSw; first | (go_simp; done) | (go_simp; with_reducible rfl) | with_reducible rfl
  (try simp only [List.getElem_toArray, List.getElem_cons_succ, List.getElem_cons_zero]); (try dsimp only); (try go_frame)
  refine wpAnyH_take (i := 7) (v := ?v7) rfl (by kernel_rfl) (by kernel_rfl) (by kernel_rfl) (fun _ _ _ h => h) (Or.inl ⟨by kernel_rfl, ?hy7⟩) (by assumption) ?rest7
  case hy7 => intro wS hSw; clear hSw; first | (go_simp; done) | (go_simp; with_reducible rfl) | with_reducible rfl
  (try simp only [List.getElem_toArray, List.getElem_cons_succ, List.getElem_cons_zero]); (try dsimp only); (try go_frame)
  refine wpAnyH_take (i := 10) (v := ?v10) rfl (by kernel_rfl) (by kernel_rfl) (by kernel_rfl) (fun _ _ _ h => h) (Or.inl ⟨by kernel_rfl, ?hy10⟩) (by assumption) ?rest10
  case hy10 => intro wS hSw; clear hSw; first | (go_simp; done) | (go_simp; with_reducible rfl) | with_reducible rfl
  (try simp only [List.getElem_toArray, List.getElem_cons_succ, List.getElem_cons_zero]); (try dsimp only); (try go_frame)
  refine wpAnyH_ready (rs := [0]) (by kernel_rfl) (by simp) ?_
  refine AllReadyH.cons rfl (fun K hK => ?_) AllReadyH.nil
  go_simp
  (try go_wp2_with fail)
  clear hHeld
  refine hK.out _ _ ?_ (fun hHeld => ?_)
  · exact trivial
  clear hK K
  (try simp only [List.getElem_toArray, List.getElem_cons_zero]); (try dsimp only); (try go_frame)
  refine wpAnyH_ready (rs := [2]) (by kernel_rfl) (by simp) ?_
  refine AllReadyH.cons rfl (fun K hK => ?_) AllReadyH.nil
  (refine step_append_events rfl _ _ rfl rfl rfl (HE.out w5.drew bd).2 (H1.out _ (HE.out w5.drew bd).1) HZ1.out (HE.out w5.drew bd).1.size HL1.out.1 ?_; intro v6 w6 o6 b6 s6; have B6 := (HE.out w5.drew bd).1.trans b6; clear b6 s6)
  clear hHeld
  refine hK.out _ _ ?_ (fun hHeld => ?_)
  · exact trivial
  clear hK K
  (try simp only [List.getElem_toArray, List.getElem_cons_succ, List.getElem_cons_zero]); (try dsimp only); (try go_frame)
  refine wpAnyH_ready (rs := [4]) (by kernel_rfl) (by simp) ?_
  refine AllReadyH.cons rfl (fun K hK => ?_) AllReadyH.nil
  (refine step_append_events rfl _ _ rfl rfl rfl o6 (H2.out _ B6) HZ2.out B6.size HL1.out.2 ?_; intro v7 w7 o7 b7 s7; have B7 := B6.trans b7; obtain ⟨p7, n7, c7, e7⟩ := o7.shape3; subst e7; clear b7 s7 o6 B6)
  clear hHeld
  refine hK.out _ _ ?_ (fun hHeld => ?_)
  · exact trivial
  clear hK K
  (try simp only [List.getElem_toArray, List.getElem_cons_succ, List.getElem_cons_zero]); (try dsimp only); (try go_frame)
  refine wpAnyH_ready (rs := [5]) (by kernel_rfl) (by simp) ?_
  refine AllReadyH.cons rfl (fun K hK => ?_) AllReadyH.nil
  go_simp
  (go_at_call 8; refine (HC3.out _ _ B7 o7).mono ?_; rintro e w8 ⟨p8, n8, c8, rfl, t8, b8⟩; have B8 := B7.trans (b8.mono B7.size); clear b8 o7 B7)
  go_wp2_with fail
  clear hHeld
  refine hK.out _ _ ?_ (fun hHeld => ?_)
  · exact trivial
  clear hK K
  (try simp only [List.getElem_toArray, List.getElem_cons_succ, List.getElem_cons_zero]); (try dsimp only); (try go_frame)
  refine wpAnyH_switch (S' := fun W : World => Below w8.heap.size w8 W) (fun wS hSw => by exact trivial) _ _ _ _ ?_
  clear hHeld
  have hHeld : (fun W : World => Below w8.heap.size w8 W) w8 := by exact Below.refl _ _
  refine wpAnyH_take (i := 6) (v := ?v6) rfl (by kernel_rfl) (by kernel_rfl) (by kernel_rfl) (fun _ _ _ h => h) (Or.inl ⟨by kernel_rfl, ?hy6⟩) (by assumption) ?rest6
  case hy6 => intro wS hSw; (try dsimp only at hSw); have q8 := (t8.on hSw).here; clear hSw; first | (go_simp; done) | (go_simp; with_reducible rfl) | with_reducible rfl
  (try simp only [List.getElem_toArray, List.getElem_cons_succ, List.getElem_cons_zero]); (try dsimp only); (try go_frame)
  refine wpAnyH_ready (rs := [8]) (by kernel_rfl) (by simp) ?_
  refine AllReadyH.cons rfl (fun K hK => ?_) AllReadyH.nil
  go_simp
  (go_at_call 8; refine (HC1.out _ B8).mono ?_; rintro e w9 ⟨p9, n9, c9, rfl, t9, b9⟩; have B9 := B8.trans (b9.mono B8.size); clear B8)
  go_wp2_with fail
  clear hHeld
  refine hK.out _ _ ?_ (fun hHeld => ?_)
  · exact b9
  clear hK K
  (try simp only [List.getElem_toArray, List.getElem_cons_succ, List.getElem_cons_zero]); (try dsimp only); (try go_frame)
  refine wpAnyH_switch (S' := fun W : World => Below w8.heap.size w8 W ∧ Below w9.heap.size w9 W) (fun wS hSw => by exact hSw.1) _ _ _ _ ?_
  clear hHeld
  have hHeld : (fun W : World => Below w8.heap.size w8 W ∧ Below w9.heap.size w9 W) w9 := by exact ⟨b9, Below.refl _ _⟩
  refine wpAnyH_take (i := 9) (v := ?v9) rfl (by kernel_rfl) (by kernel_rfl) (by kernel_rfl) (fun _ _ _ h => h) (Or.inl ⟨by kernel_rfl, ?hy9⟩) (by assumption) ?rest9
  case hy9 => intro wS hSw; (try dsimp only at hSw); have q9 := (t9.on hSw.2).here; clear hSw; first | (go_simp; done) | (go_simp; with_reducible rfl) | with_reducible rfl
  (try simp only [List.getElem_toArray, List.getElem_cons_succ, List.getElem_cons_zero]); (try dsimp only); (try go_frame)
  refine wpAnyH_ready (rs := [11]) (by kernel_rfl) (by simp) ?_
  refine AllReadyH.cons rfl (fun K hK => ?_) AllReadyH.nil
  go_simp
  (go_at_call 8; refine (HC2.out _ B9).mono ?_; rintro e wa ⟨pa, na, ca, rfl, ta, ba⟩; have Ba := B9.trans (ba.mono B9.size); clear B9)
  go_wp2_with fail
  clear hHeld
  refine hK.out _ _ ?_ (fun hHeld => ?_)
  · exact ⟨b9.trans (ba.mono b9.size), ba⟩
  clear hK K
  (try simp only [List.getElem_toArray, List.getElem_cons_succ, List.getElem_cons_zero]); (try dsimp only); (try go_frame)
  refine wpAnyH_switch (S' := fun W : World => (Below w8.heap.size w8 W ∧ Below w9.heap.size w9 W) ∧ Below wa.heap.size wa W) (fun wS hSw => by exact hSw.1) _ _ _ _ ?_
  clear hHeld
  have hHeld : (fun W : World => (Below w8.heap.size w8 W ∧ Below w9.heap.size w9 W) ∧ Below wa.heap.size wa W) wa := by exact ⟨⟨b9.trans (ba.mono b9.size), ba⟩, Below.refl _ _⟩
  refine wpAnyH_take (i := 12) (v := ?v12) rfl (by kernel_rfl) (by kernel_rfl) (by kernel_rfl) (fun _ _ _ h => h) (Or.inl ⟨by kernel_rfl, ?hy12⟩) (by assumption) ?rest12
  case hy12 => intro wS hSw; (try dsimp only at hSw); have qa := (ta.on hSw.2).here; clear hSw; first | (go_simp; done) | (go_simp; with_reducible rfl) | with_reducible rfl
  (try simp only [List.getElem_toArray, List.getElem_cons_succ, List.getElem_cons_zero]); (try dsimp only); (try go_frame)
  refine wpAnyH_take (i := 13) (v := ?v13) rfl (by kernel_rfl) (by kernel_rfl) (by kernel_rfl) (fun _ _ _ h => h) (Or.inl ⟨by kernel_rfl, ?hy13⟩) (by assumption) ?rest13
  case hy13 => intro wS hSw; clear hSw; first | (go_simp; done) | (go_simp; with_reducible rfl) | with_reducible rfl
  (try simp only [List.getElem_toArray, List.getElem_cons_succ, List.getElem_cons_zero]); (try dsimp only); (try go_frame)
  refine wpAnyH_take (i := 14) (v := ?v14) rfl (by kernel_rfl) (by kernel_rfl) (by kernel_rfl) (fun _ _ _ h => h) (Or.inl ⟨by kernel_rfl, ?hy14⟩) (by assumption) ?rest14
  case hy14 => intro wS hSw; clear hSw; first | (go_simp; done) | (go_simp; with_reducible rfl) | with_reducible rfl
  (try simp only [List.getElem_toArray, List.getElem_cons_succ, List.getElem_cons_zero]); (try dsimp only); (try go_frame)
  refine wpAnyH_take (i := 15) (v := ?v15) rfl (by kernel_rfl) (by kernel_rfl) (by kernel_rfl) (fun _ _ _ h => h) (Or.inl ⟨by kernel_rfl, ?hy15⟩) (by assumption) ?rest15
  case hy15 => intro wS hSw; clear hSw; first | (go_simp; done) | (go_simp; with_reducible rfl) | with_reducible rfl
  (try simp only [List.getElem_toArray, List.getElem_cons_succ, List.getElem_cons_zero]); (try dsimp only); (try go_frame)
  refine wpAnyH_done (by kernel_rfl) ?_ _
  go_wp2_with fail
  go_ret
  exact ⟨rfl, Ba⟩
end Go.Proofs.YtpnineimnjibaafDoor
