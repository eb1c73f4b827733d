/-
  OWN WORK: Dcb, Dad, Dca, Dcr, Dcs, Dap, Dbr, Dbs, Dch, Dmb.
-/
import Derived.Test.YtookcjdibpccpaaP10
import Derived.Test.YtookcjdibpccpaaP4
import Derived.Test.YtookcjdibpccpaaP9
import Derived.Deep.RegionHeld3
import Derived.Test.YtookcjdibpccpaaP7
import Derived.Test.YtookcjdibpccpaaP8
/-
  THE WALK of dom.change, in a document of the call's own: a node is made in a shadow tree.
-/
namespace Go.Proofs.Ytookcjdibpccpaa
open Go.RowKit

set_option maxHeartbeats 400000 in
set_option maxRecDepth 100000 in
theorem dchange_Nine {w : World} {B g c : Nat} {rs : List Raw} {d : Tn.Dc} (h : Owned w B g c rs d) (hB : B ≤ w.heap.size) (hlr : rs.length ≤ 900) (tt bf : Int) (nm vl : ByteArray) (hnm : nm.size ≤ 4194304) (hvl : vl.size ≤ 4194304) {m : Nat} (hm : m < rs.length)
    (hls : ∀ s, (Tn.liD (addIn d ⟨9, (m : Int), tt, bf, nm, vl⟩) m s).length ≤ 1000)
    (hT : freshE ⟨9, (m : Int), tt, bf, nm, vl⟩ = 0 → Tn.free d < 60 → 0 ≤ putAt (Tn.listOf (Tn.nd (addIn d ⟨9, (m : Int), tt, bf, nm, vl⟩) m) true) (-1) → (Tn.listOf (Tn.nd (addIn d ⟨9, (m : Int), tt, bf, nm, vl⟩) m) true).length < 12 → Tame (putDoc (addIn d ⟨9, (m : Int), tt, bf, nm, vl⟩) (Tn.free d) m (-1) true) ∧ (∀ j t, (Tn.liD (putDoc (addIn d ⟨9, (m : Int), tt, bf, nm, vl⟩) (Tn.free d) m (-1) true) j t).length ≤ 1000) ∧ Tn.lvD (putDoc (addIn d ⟨9, (m : Int), tt, bf, nm, vl⟩) (Tn.free d) m (-1) true) (Tn.free d) = true) :
    Calls Try.prog 57 #[.slice (some ⟨g, 0, none⟩) rs.length c, chg6 ⟨9, (m : Int), tt, bf, nm, vl⟩] w fun e w' => ∃ dv nv cd, e = .returned (.tuple #[dv, .int .i64 nv, .int .i64 cd]) ∧ Below B w w' ∧ cd = (if Tn.isN d (m : Int) true = true then addCode d ⟨9, (m : Int), tt, bf, nm, vl⟩ m (-1) true else 8) ∧ (cd = 0 → nv = (Tn.free d : Int) ∧ ∃ g' c' rs', dv = .slice (some ⟨g', 0, none⟩) rs'.length c' ∧ Owned w' B g' c' rs' (putDoc (addIn d ⟨9, (m : Int), tt, bf, nm, vl⟩) (Tn.free d) m (-1) true)) := by
  have H : Hid (Owned w B g c rs d) := h
  clear h
  have W1 : Below w.heap.size w (w.alloc (.cells #[.int .i64 9, .int .i64 (m : Int), .int .i64 tt, .int .i64 bf, .string nm, .string vl] 32)) := (Below.refl _ _).alloc (Nat.le_refl _) _
  have O1 := H.out.below W1 (Nat.le_refl _)
  have HA : Hid (Calls Try.prog 73 #[.slice (some ⟨g, 0, none⟩) rs.length c, chg6 ⟨9, (m : Int), tt, bf, nm, vl⟩] (w.alloc (.cells #[.int .i64 9, .int .i64 (m : Int), .int .i64 tt, .int .i64 bf, .string nm, .string vl] 32)) fun e w' => ∃ dv nv, e = .returned (.tuple #[dv, .int .i64 nv, .int .i64 (addCode d ⟨9, (m : Int), tt, bf, nm, vl⟩ m (-1) true)]) ∧ Below B (w.alloc (.cells #[.int .i64 9, .int .i64 (m : Int), .int .i64 tt, .int .i64 bf, .string nm, .string vl] 32)) w' ∧ (addCode d ⟨9, (m : Int), tt, bf, nm, vl⟩ m (-1) true = 0 → nv = (Tn.free d : Int) ∧ ∃ g' c' rs', dv = .slice (some ⟨g', 0, none⟩) rs'.length c' ∧ Owned w' B g' c' rs' (putDoc (addIn d ⟨9, (m : Int), tt, bf, nm, vl⟩) (Tn.free d) m (-1) true) ∧ Fr g rs (w.alloc (.cells #[.int .i64 9, .int .i64 (m : Int), .int .i64 tt, .int .i64 bf, .string nm, .string vl] 32)) g' rs' w')) :=
    dadd_Nine O1 (Nat.le_trans hB W1.size) hlr ⟨9, (m : Int), tt, bf, nm, vl⟩ rfl hnm hvl rfl hm hls hT
  have HD : Hid (DocAt (w.alloc (.cells #[.int .i64 9, .int .i64 (m : Int), .int .i64 tt, .int .i64 bf, .string nm, .string vl] 32)) g 0 c rs d) := O1.doc (by omega)
  have HB1 : Hid (Below B w (w.alloc (.cells #[.int .i64 9, .int .i64 (m : Int), .int .i64 tt, .int .i64 bf, .string nm, .string vl] 32))) := (Below.refl B w).alloc hB _
  have x4 : (w.alloc (.cells #[.int .i64 9, .int .i64 (m : Int), .int .i64 tt, .int .i64 bf, .string nm, .string vl] 32)).cell? ⟨w.heap.size, 0, none⟩ = some (.int .i64 9) := by rw [World.cell?_alloc_new]; rfl
  clear hls hT W1 O1
  cases hi : Tn.isN d (m : Int) true with
  | true =>
    unfold chg6
    simp only
    go_enter Try.func57, Try.ntmps57
    go_wp2_with fail
    refine (dis_any HD.out (m : Int) true).mono ?_
    rintro e w1 ⟨rfl, hw1⟩
    subst hw1
    rw [hi]
    go_wp2_with fail
    refine HA.out.mono ?_
    rintro e w2 ⟨dv, nv, rfl, b2, hz⟩
    have HZ : Hid (addCode d ⟨9, (m : Int), tt, bf, nm, vl⟩ m (-1) true = 0 → nv = (Tn.free d : Int) ∧ ∃ (g' c' : Nat) (rs' : List Raw), dv = .slice (some ⟨g', 0, none⟩) rs'.length c' ∧ Owned w2 B g' c' rs' (putDoc (addIn d ⟨9, (m : Int), tt, bf, nm, vl⟩) (Tn.free d) m (-1) true) ∧ Fr g rs (w.alloc (.cells #[.int .i64 9, .int .i64 (m : Int), .int .i64 tt, .int .i64 bf, .string nm, .string vl] 32)) g' rs' w2) := hz
    clear hz
    generalize hcd : addCode d _ m (-1) true = cd at *
    go_wp2_with fail
    go_ret3
    refine ⟨_, _, _, rfl, HB1.out.trans b2, rfl, fun h0 => ?_⟩
    obtain ⟨h1, g', c', rs', h2, h3, _⟩ := HZ.out h0
    exact ⟨h1, g', c', rs', h2, h3⟩
  | false =>
    unfold chg6
    simp only
    go_enter Try.func57, Try.ntmps57
    go_wp2_with fail
    refine (dis_any HD.out (m : Int) true).mono ?_
    rintro e w1 ⟨rfl, hw1⟩
    subst hw1
    rw [hi]
    go_wp2_with fail
    go_ret3
    exact ⟨_, _, _, rfl, HB1.out, rfl, fun h => by cases h⟩

set_option maxHeartbeats 400000 in
set_option maxRecDepth 100000 in
theorem dchange_Ten {w : World} {B g c : Nat} {rs : List Raw} {d : Tn.Dc} (h : Owned w B g c rs d) (hB : B ≤ w.heap.size) (hlr : rs.length ≤ 900) (tt bf : Int) (nm vl : ByteArray) (hnm : nm.size ≤ 4194304) (hvl : vl.size ≤ 4194304) {m : Nat} (hm : m < rs.length)
    (hls : ∀ s, (Tn.liD (addIn d ⟨10, (m : Int), tt, bf, nm, vl⟩) m s).length ≤ 1000)
    (hT : freshE ⟨10, (m : Int), tt, bf, nm, vl⟩ = 0 → Tn.free d < 60 → 0 ≤ putAt (Tn.listOf (Tn.nd (addIn d ⟨10, (m : Int), tt, bf, nm, vl⟩) m) true) (-1) → (Tn.listOf (Tn.nd (addIn d ⟨10, (m : Int), tt, bf, nm, vl⟩) m) true).length < 12 → Tame (putDoc (addIn d ⟨10, (m : Int), tt, bf, nm, vl⟩) (Tn.free d) m (-1) true) ∧ (∀ j t, (Tn.liD (putDoc (addIn d ⟨10, (m : Int), tt, bf, nm, vl⟩) (Tn.free d) m (-1) true) j t).length ≤ 1000) ∧ Tn.lvD (putDoc (addIn d ⟨10, (m : Int), tt, bf, nm, vl⟩) (Tn.free d) m (-1) true) (Tn.free d) = true) :
    Calls Try.prog 57 #[.slice (some ⟨g, 0, none⟩) rs.length c, chg6 ⟨10, (m : Int), tt, bf, nm, vl⟩] w fun e w' => ∃ dv nv cd, e = .returned (.tuple #[dv, .int .i64 nv, .int .i64 cd]) ∧ Below B w w' ∧ cd = (if Tn.isN d (m : Int) true = true then addCode d ⟨10, (m : Int), tt, bf, nm, vl⟩ m (-1) true else 8) ∧ (cd = 0 → nv = (Tn.free d : Int) ∧ ∃ g' c' rs', dv = .slice (some ⟨g', 0, none⟩) rs'.length c' ∧ Owned w' B g' c' rs' (putDoc (addIn d ⟨10, (m : Int), tt, bf, nm, vl⟩) (Tn.free d) m (-1) true)) := by
  have H : Hid (Owned w B g c rs d) := h
  clear h
  have W1 : Below w.heap.size w (w.alloc (.cells #[.int .i64 10, .int .i64 (m : Int), .int .i64 tt, .int .i64 bf, .string nm, .string vl] 32)) := (Below.refl _ _).alloc (Nat.le_refl _) _
  have O1 := H.out.below W1 (Nat.le_refl _)
  have HA : Hid (Calls Try.prog 73 #[.slice (some ⟨g, 0, none⟩) rs.length c, chg6 ⟨10, (m : Int), tt, bf, nm, vl⟩] (w.alloc (.cells #[.int .i64 10, .int .i64 (m : Int), .int .i64 tt, .int .i64 bf, .string nm, .string vl] 32)) fun e w' => ∃ dv nv, e = .returned (.tuple #[dv, .int .i64 nv, .int .i64 (addCode d ⟨10, (m : Int), tt, bf, nm, vl⟩ m (-1) true)]) ∧ Below B (w.alloc (.cells #[.int .i64 10, .int .i64 (m : Int), .int .i64 tt, .int .i64 bf, .string nm, .string vl] 32)) w' ∧ (addCode d ⟨10, (m : Int), tt, bf, nm, vl⟩ m (-1) true = 0 → nv = (Tn.free d : Int) ∧ ∃ g' c' rs', dv = .slice (some ⟨g', 0, none⟩) rs'.length c' ∧ Owned w' B g' c' rs' (putDoc (addIn d ⟨10, (m : Int), tt, bf, nm, vl⟩) (Tn.free d) m (-1) true) ∧ Fr g rs (w.alloc (.cells #[.int .i64 10, .int .i64 (m : Int), .int .i64 tt, .int .i64 bf, .string nm, .string vl] 32)) g' rs' w')) :=
    dadd_Ten O1 (Nat.le_trans hB W1.size) hlr ⟨10, (m : Int), tt, bf, nm, vl⟩ rfl hnm hvl rfl hm hls hT
  have HD : Hid (DocAt (w.alloc (.cells #[.int .i64 10, .int .i64 (m : Int), .int .i64 tt, .int .i64 bf, .string nm, .string vl] 32)) g 0 c rs d) := O1.doc (by omega)
  have HB1 : Hid (Below B w (w.alloc (.cells #[.int .i64 10, .int .i64 (m : Int), .int .i64 tt, .int .i64 bf, .string nm, .string vl] 32))) := (Below.refl B w).alloc hB _
  have x4 : (w.alloc (.cells #[.int .i64 10, .int .i64 (m : Int), .int .i64 tt, .int .i64 bf, .string nm, .string vl] 32)).cell? ⟨w.heap.size, 0, none⟩ = some (.int .i64 10) := by rw [World.cell?_alloc_new]; rfl
  clear hls hT W1 O1
  cases hi : Tn.isN d (m : Int) true with
  | true =>
    unfold chg6
    simp only
    go_enter Try.func57, Try.ntmps57
    go_wp2_with fail
    refine (dis_any HD.out (m : Int) true).mono ?_
    rintro e w1 ⟨rfl, hw1⟩
    subst hw1
    rw [hi]
    go_wp2_with fail
    refine HA.out.mono ?_
    rintro e w2 ⟨dv, nv, rfl, b2, hz⟩
    have HZ : Hid (addCode d ⟨10, (m : Int), tt, bf, nm, vl⟩ m (-1) true = 0 → nv = (Tn.free d : Int) ∧ ∃ (g' c' : Nat) (rs' : List Raw), dv = .slice (some ⟨g', 0, none⟩) rs'.length c' ∧ Owned w2 B g' c' rs' (putDoc (addIn d ⟨10, (m : Int), tt, bf, nm, vl⟩) (Tn.free d) m (-1) true) ∧ Fr g rs (w.alloc (.cells #[.int .i64 10, .int .i64 (m : Int), .int .i64 tt, .int .i64 bf, .string nm, .string vl] 32)) g' rs' w2) := hz
    clear hz
    generalize hcd : addCode d _ m (-1) true = cd at *
    go_wp2_with fail
    go_ret3
    refine ⟨_, _, _, rfl, HB1.out.trans b2, rfl, fun h0 => ?_⟩
    obtain ⟨h1, g', c', rs', h2, h3, _⟩ := HZ.out h0
    exact ⟨h1, g', c', rs', h2, h3⟩
  | false =>
    unfold chg6
    simp only
    go_enter Try.func57, Try.ntmps57
    go_wp2_with fail
    refine (dis_any HD.out (m : Int) true).mono ?_
    rintro e w1 ⟨rfl, hw1⟩
    subst hw1
    rw [hi]
    go_wp2_with fail
    go_ret3
    exact ⟨_, _, _, rfl, HB1.out, rfl, fun h => by cases h⟩
end Go.Proofs.Ytookcjdibpccpaa

/-
  THE WALK of dom.add, in a document of the call's own.
-/
namespace Go.Proofs.Ytookcjdibpccpaa
open Go.RowKit

set_option maxHeartbeats 3200000 in
set_option maxRecDepth 100000 in
theorem dadd_Out {w : World} {B g c : Nat} {rs : List Raw} {d : Tn.Dc} (h : Owned w B g c rs d) (hB : B ≤ w.heap.size) (hlr : rs.length ≤ 900) (x : Tn.Chg) (h9 : (x.kind == 9) = false) (h10 : (x.kind == 10) = false) (hnm : x.name.size ≤ 4194304) (hvl : x.value.size ≤ 4194304) {m : Nat} (hxm : x.node = (m : Int)) (hm : m < rs.length)
    (hls : ∀ s, (Tn.liD (addIn d x) m s).length ≤ 1000)
    (hT : freshE x = 0 → Tn.free d < 60 → 0 ≤ putAt (Tn.listOf (Tn.nd (addIn d x) m) false) x.before → (Tn.listOf (Tn.nd (addIn d x) m) false).length < 12 → Tame (putDoc (addIn d x) (Tn.free d) m x.before false) ∧ (∀ j t, (Tn.liD (putDoc (addIn d x) (Tn.free d) m x.before false) j t).length ≤ 1000) ∧ Tn.lvD (putDoc (addIn d x) (Tn.free d) m x.before false) (Tn.free d) = true) :
    Calls Try.prog 73 #[.slice (some ⟨g, 0, none⟩) rs.length c, chg6 x] w fun e w' => ∃ dv nv, e = .returned (.tuple #[dv, .int .i64 nv, .int .i64 (addCode d x m x.before false)]) ∧ Below B w w' ∧ (addCode d x m x.before false = 0 → nv = (Tn.free d : Int) ∧ ∃ g' c' rs', dv = .slice (some ⟨g', 0, none⟩) rs'.length c' ∧ Owned w' B g' c' rs' (putDoc (addIn d x) (Tn.free d) m x.before false) ∧ Fr g rs w g' rs' w') := by
  have h0 : 0 < rs.length := by omega
  obtain ⟨kd, nd0, tt, bf, nm, vl⟩ := x
  simp only at hxm hnm hvl h9 h10
  subst hxm
  simp only at hls hT
  have W1 : Below w.heap.size w (w.alloc (.cells #[.int .i64 kd, .int .i64 (m : Int), .int .i64 tt, .int .i64 bf, .string nm, .string vl] 32)) := (Below.refl _ _).alloc (Nat.le_refl _) _
  have hFr := dfresh_any (w := w.alloc (.cells #[.int .i64 kd, .int .i64 (m : Int), .int .i64 tt, .int .i64 bf, .string nm, .string vl] 32)) ⟨kd, (m : Int), tt, bf, nm, vl⟩ hnm hvl
  simp only at hFr
  have x0 : (w.alloc (.cells #[.int .i64 kd, .int .i64 (m : Int), .int .i64 tt, .int .i64 bf, .string nm, .string vl] 32)).cell? ⟨w.heap.size, 0, none⟩ = some (.int .i64 kd) := by rw [World.cell?_alloc_new]; rfl
  have x1 : (w.alloc (.cells #[.int .i64 kd, .int .i64 (m : Int), .int .i64 tt, .int .i64 bf, .string nm, .string vl] 32)).cell? ⟨w.heap.size, 1, none⟩ = some (.int .i64 (m : Int)) := by rw [World.cell?_alloc_new]; rfl
  have x2 : (w.alloc (.cells #[.int .i64 kd, .int .i64 (m : Int), .int .i64 tt, .int .i64 bf, .string nm, .string vl] 32)).cell? ⟨w.heap.size, 2, none⟩ = some (.int .i64 tt) := by rw [World.cell?_alloc_new]; rfl
  have x3 : (w.alloc (.cells #[.int .i64 kd, .int .i64 (m : Int), .int .i64 tt, .int .i64 bf, .string nm, .string vl] 32)).cell? ⟨w.heap.size, 3, none⟩ = some (.int .i64 bf) := by rw [World.cell?_alloc_new]; rfl
  have x4 : (w.alloc (.cells #[.int .i64 kd, .int .i64 (m : Int), .int .i64 tt, .int .i64 bf, .string nm, .string vl] 32)).cell? ⟨w.heap.size, 4, none⟩ = some (.string nm) := by rw [World.cell?_alloc_new]; rfl
  have x5 : (w.alloc (.cells #[.int .i64 kd, .int .i64 (m : Int), .int .i64 tt, .int .i64 bf, .string nm, .string vl] 32)).cell? ⟨w.heap.size, 5, none⟩ = some (.string vl) := by rw [World.cell?_alloc_new]; rfl
  have BA : Below B w (w.alloc (.cells #[.int .i64 kd, .int .i64 (m : Int), .int .i64 tt, .int .i64 bf, .string nm, .string vl] 32)) := (Below.refl B w).alloc hB _
  have O1 : Owned (w.alloc (.cells #[.int .i64 kd, .int .i64 (m : Int), .int .i64 tt, .int .i64 bf, .string nm, .string vl] 32)) B g c rs d := h.below W1 (Nat.le_refl _)
  have F1 : Fr g rs w g rs (w.alloc (.cells #[.int .i64 kd, .int .i64 (m : Int), .int .i64 tt, .int .i64 bf, .string nm, .string vl] 32)) := (Fr.refl g rs w).below W1
  have hz1 : w.heap.size < (w.alloc (.cells #[.int .i64 kd, .int .i64 (m : Int), .int .i64 tt, .int .i64 bf, .string nm, .string vl] 32)).heap.size := by simp
  have hfX : ¬ DB g rs w.heap.size := h.free h0 (Nat.le_refl _)
  unfold chg6
  simp only
  clear h W1
  rcases freshV_cases ⟨kd, (m : Int), tt, bf, nm, vl⟩ with ⟨hfe, hfv⟩ | ⟨hfe, hfv⟩
  · have E : Hid (addCode d ⟨kd, (m : Int), tt, bf, nm, vl⟩ m bf false = freshE ⟨kd, (m : Int), tt, bf, nm, vl⟩) := by show _ = _; unfold addCode; rw [if_pos hfe]
    rw [hfv] at hFr
    unfold zeroN at hFr
    have hq : (freshE ⟨kd, (m : Int), tt, bf, nm, vl⟩ == 0) = false := by simpa using hfe
    have QN : Hid _ := hfe
    clear hT hls hfv hfe
    generalize freshE ⟨kd, (m : Int), tt, bf, nm, vl⟩ = fe at *
    go_enter Try.func73, Try.ntmps73
    go_wp2_with (go_at_call 87; refine hFr.mono ?_; rintro e w2 ⟨rfl, hb2⟩)
    go_ret3
    refine ⟨.slice (some ⟨g, 0, none⟩) rs.length c, 0, by rw [E.out]; rfl, ?_, fun hc => absurd (by rw [← E.out]; exact hc) QN.out⟩
    exact (BA.trans (hb2.mono (by omega))).alloc (by have := hb2.size; omega) _
  · rw [hfv] at hFr
    have hB0 : Below (w.alloc (.cells #[.int .i64 kd, .int .i64 (m : Int), .int .i64 tt, .int .i64 bf, .string nm, .string vl] 32)).heap.size (w.alloc (.cells #[.int .i64 kd, .int .i64 (m : Int), .int .i64 tt, .int .i64 bf, .string nm, .string vl] 32)) (w.alloc (.cells #[.int .i64 kd, .int .i64 (m : Int), .int .i64 tt, .int .i64 bf, .string nm, .string vl] 32)) := Below.refl _ _
    have AC : Hid (addCode d ⟨kd, (m : Int), tt, bf, nm, vl⟩ m bf false = if false = true ∧ (Tn.nd d m).hasS = false then 8 else if 60 ≤ Tn.free d then 5 else putCode (addIn d ⟨kd, (m : Int), tt, bf, nm, vl⟩) (Tn.free d) m bf false) := by
      show _ = _
      unfold addCode
      rw [if_neg (by simp [hfe])]
    have hbare := bare_new ⟨kd, (m : Int), tt, bf, nm, vl⟩
    have hAI : Hid (addIn d ⟨kd, (m : Int), tt, bf, nm, vl⟩ = (if Tn.free d = d.length then d ++ [Tn.zero] else d).set (Tn.free d) (newNd ⟨kd, (m : Int), tt, bf, nm, vl⟩)) := rfl
    have HT2 : Hid _ := hT hfe
    have HLS : Hid _ := hls
    obtain ⟨nR, hnR⟩ : ∃ r, r = newR ⟨kd, (m : Int), tt, bf, nm, vl⟩ := ⟨_, rfl⟩
    rw [← hnR] at hFr hbare
    have ea := hbare.a
    have ek := hbare.k
    have es := hbare.s
    obtain ⟨lv, tg, tx, la, up, lk, hs, ls, ins⟩ := nR
    simp only at ea ek es
    subst ea
    subst ek
    subst es
    simp only [Raw.agg] at hFr
    clear hT hls hfv hnR hB0 hfe
    generalize newNd ⟨kd, (m : Int), tt, bf, nm, vl⟩ = nN at *
    generalize addIn d ⟨kd, (m : Int), tt, bf, nm, vl⟩ = dA at *
    obtain ⟨n, hn⟩ : ∃ n, n = Tn.free d := ⟨_, rfl⟩
    rw [← hn] at AC HT2 hAI ⊢
    have HN : Hid (n = Tn.free d) := hn
    clear hn
    go_enter Try.func73, Try.ntmps73
    go_upto_region 1 with fail
    generalize w.alloc (.cells #[.int .i64 kd, .int .i64 (m : Int), .int .i64 tt, .int .i64 bf, .string nm, .string vl] 32) = wA at *
    go_upto_region 2 with (go_at_call 87; refine hFr.mono ?_; rintro e w2 ⟨rfl, hb2⟩)
    have B2 : Below wA.heap.size wA (w2.alloc (.cells #[.bool lv, .string tg, .string tx, .slice none 0 0, .int .i64 up, .slice none 0 0, .bool hs, .slice none 0 0, .bool ins] 56)) := hb2.alloc hb2.size _
    have K2 := keeps_below B2 (Nat.le_refl _)
    have u0 := K2 _ _ x0
    have u1 := K2 _ _ x1
    have u3 := K2 _ _ x3
    have O3 : Hid (Owned (w2.alloc (.cells #[.bool lv, .string tg, .string tx, .slice none 0 0, .int .i64 up, .slice none 0 0, .bool hs, .slice none 0 0, .bool ins] 56)) B g c rs d) := O1.below B2 (Nat.le_refl _)
    have F3 : Fr g rs w g rs (w2.alloc (.cells #[.bool lv, .string tg, .string tx, .slice none 0 0, .int .i64 up, .slice none 0 0, .bool hs, .slice none 0 0, .bool ins] 56)) := F1.below B2
    have B3 : Below B w (w2.alloc (.cells #[.bool lv, .string tg, .string tx, .slice none 0 0, .int .i64 up, .slice none 0 0, .bool hs, .slice none 0 0, .bool ins] 56)) := BA.trans (B2.mono (by omega))
    have bY := box_new w2 (⟨lv, tg, tx, ⟨none, 0, 0⟩, up, ⟨none, 0, 0⟩, hs, ⟨none, 0, 0⟩, ins⟩ : Raw) 56
    have hfY : ¬ DB g rs w2.heap.size := O1.free h0 hb2.size
    simp only at bY
    go_upto_region 4 with fail
    generalize w2.alloc (.cells #[.bool lv, .string tg, .string tx, .slice none 0 0, .int .i64 up, .slice none 0 0, .bool hs, .slice none 0 0, .bool ins] 56) = w3 at *
    generalize w2.heap.size = Y at *
    generalize hX : w.heap.size = X at *
    have HX : Hid _ := hX
    clear hX
    clear x0 x1 x2 x3 x4 x5 K2 B2 hb2 O1 F1 BA hFr
    have D3 : Hid (DocAt w3 g 0 c rs d) := O3.out.doc h0

    go_quiet (fail)
    have OQ : Hid (Owned (w3.drewN nq) B g c rs d) := O3.out.below (below_drewN w3.heap.size w3 nq) (Nat.le_refl _)
    have FQ : Fr g rs w g rs (w3.drewN nq) := F3.below (below_drewN _ w3 nq)
    have BQ : Below B w (w3.drewN nq) := B3.trans (below_drewN B w3 nq)
    have v1 : (w3.drewN nq).cell? ⟨X, 1, none⟩ = some (.int .i64 (m : Int)) := u1
    have bQ : BoxAt (w3.drewN nq) Y ⟨lv, tg, tx, ⟨none, 0, 0⟩, up, ⟨none, 0, 0⟩, hs, ⟨none, 0, 0⟩, ins⟩ := bY.keeps (keeps_drewN w3 nq)

    generalize w3.drewN nq = w4 at *
    clear u0 u1 u3 O3 F3 B3 bY D3
    have DQ : Hid (DocAt w4 g 0 c rs d) := OQ.out.doc h0
    have hFF := dfree_any DQ.out (by omega)
    rw [← HN.out] at hFF
    go_upto_region 10 with (go_at_call 88; refine hFF.mono ?_; rintro e w5 ⟨rfl, hb5⟩)
    have O5 : Hid (Owned w5 B g c rs d) := OQ.out.below hb5 (Nat.le_refl _)
    have F5 := FQ.below hb5
    have hBw5 : B ≤ w5.heap.size := by
      have e1 := HX.out
      have e2 := F5.size
      omega
    have B5 := BQ.trans (hb5.mono (by have e1 := HX.out; have e2 := FQ.size; omega))
    have v15 := keeps_below hb5 (Nat.le_refl _) _ _ v1
    have b5 := bQ.keeps (keeps_below hb5 (Nat.le_refl _))
    clear OQ FQ BQ v1 bQ DQ hFF hb5
    have hf3 : n ≤ rs.length := by
      have e1 := (Tn.free_spec d).1
      rw [← HN.out, ← O5.out.len] at e1
      exact e1
    by_cases h60 : 60 ≤ n
    · have ACQ : Hid (addCode d ⟨kd, (m : Int), tt, bf, nm, vl⟩ m bf false = 5) := by show _ = _; rw [AC.out, if_neg (by simp), if_pos h60]
      go_wp2_with fail
      go_ret3
      exact ⟨_, 0, by rw [ACQ.out]; rfl, B5, fun hc => by rw [ACQ.out] at hc; cases hc⟩
    · have ACQ : Hid (addCode d ⟨kd, (m : Int), tt, bf, nm, vl⟩ m bf false = putCode dA n m bf false) := by show _ = _; rw [AC.out, if_neg (by simp), if_neg h60]
      by_cases hnl : n < rs.length
      · have AI : Hid (dA = d.set n nN) := by show _ = _; rw [hAI.out, if_neg (by have := O5.out.len; omega)]
        have hq : ((n : Int) == (rs.length : Int)) = false := by simp; omega
        obtain ⟨O6, F6⟩ := O5.out.bare (k := n) hnl hbare
        rw [← AI.out] at O6
        have hPut := dput_any O6 (Nat.le_trans hBw5 (set9_grown _ _ _ _).size) (n := n) (m := m) (by simpa using hnl) (by simpa using hm) HLS.out bf false (HT2.out (by omega))
        simp only [List.length_set] at hPut
        have DJ := O5.out.doc (by omega)
        obtain ⟨hBg, hgl, hfz⟩ := O5.out.at (by omega)
        have q0 := DJ.row.c0 _ hnl
        have q1 := DJ.row.c1 _ hnl
        have q2 := DJ.row.c2 _ hnl
        have q3 := DJ.row.c3 _ hnl
        have q4 := DJ.row.c4 _ hnl
        have q5 := DJ.row.c5 _ hnl
        have q6 := DJ.row.c6 _ hnl
        have q7 := DJ.row.c7 _ hnl
        have q8 := DJ.row.c8 _ hnl
        rw [Nat.zero_add] at q0 q1 q2 q3 q4 q5 q6 q7 q8
        have v6 := F6.cell v15 hfX
        have QF6 : Hid _ := F5.trans F6
        have QB6 : Hid (Below B w (set9 w5 g n ⟨lv, tg, tx, ⟨none, 0, 0⟩, up, ⟨none, 0, 0⟩, hs, ⟨none, 0, 0⟩, ins⟩)) := B5.grown (set9_grown _ _ _ _) hBw5 (fun k hk => by cases hk; exact hBg)
        clear O6 F6 DJ
        obtain ⟨wS, hwS⟩ : ∃ wS, wS = set9 w5 g n ⟨lv, tg, tx, ⟨none, 0, 0⟩, up, ⟨none, 0, 0⟩, hs, ⟨none, 0, 0⟩, ins⟩ := ⟨_, rfl⟩
        rw [← hwS] at hPut v6 QF6 QB6
        unfold set9 at hwS
        simp only at hwS
        have HW : Hid _ := hwS
        clear hwS
        generalize rs[n] = rx at *
        obtain ⟨rl, rt, rv, ⟨ap, an, ac⟩, ru, ⟨kp, kn, kc⟩, rh, ⟨sp, sn, sc⟩, ri⟩ := rx
        simp only at q0 q1 q2 q3 q4 q5 q6 q7 q8
        obtain ⟨y0, y1, y2, y3, y4, y5, y6, y7, y8⟩ := b5
        simp only at y0 y1 y2 y3 y4 y5 y6 y7 y8
        have hxl : (n : Int) < (rs.length : Int) := by omega
        go_upto_region 15 with fail
        rw [← HW.out]
        go_wp2_with (go_at_call 84; refine hPut.mono ?_; rintro e w7 ⟨rfl, hb7, ho7⟩)
        have HO : Hid _ := ho7
        go_ret3
        refine ⟨.slice (some ⟨g, 0, none⟩) rs.length c, (n : Int), by rw [ACQ.out]; rfl, QB6.out.trans hb7, fun hc => ?_⟩
        rw [ACQ.out] at hc
        obtain ⟨rs7, h71, O7, F7⟩ := HO.out hc
        exact ⟨rfl, g, c, rs7, by rw [h71], O7, QF6.out.trans F7⟩
      · have hq : ((n : Int) == (rs.length : Int)) = true := by simp; omega
        have W6 : Below w5.heap.size w5 (w5.alloc (.cells #[.bool false, .string ⟨#[]⟩, .string ⟨#[]⟩, .slice none 0 0, .int .i64 0, .slice none 0 0, .bool false, .slice none 0 0, .bool false] 56)) := (Below.refl _ _).alloc (Nat.le_refl _) _
        obtain ⟨g', c', w6, hr, O6', F6', B6'⟩ := Owned.push (w := w5.alloc (.cells #[.bool false, .string ⟨#[]⟩, .string ⟨#[]⟩, .slice none 0 0, .int .i64 0, .slice none 0 0, .bool false, .slice none 0 0, .bool false] 56)) (O5.out.below W6 (Nat.le_refl _)) (Nat.le_trans hBw5 W6.size) h0 (by omega) 34 (a := w5.heap.size) (alloc_at _ _)
        have hlq : Hid ((rs ++ [zeroR]).length = rs.length + 1) := by show _ = _; simp
        have hfY' := hfY
        have b6 := (b5.keeps (keeps_below W6 (Nat.le_refl _))).fr F6' hfY
        have v16 := F6'.cell (keeps_below W6 (Nat.le_refl _) _ _ v15) hfX
        have hfX6 : ¬ DB g' (rs ++ [zeroR]) X := fun e => hfX (F6'.back X (lt_of_cell (keeps_below W6 (Nat.le_refl _) _ _ v15)) e)
        have F7' := (F5.below W6).trans F6'
        have B7' := (B5.trans (W6.mono hBw5)).trans B6'
        have hBw6 : B ≤ w6.heap.size := by
          have e1 := HX.out
          have e2 := F7'.size
          omega
        have O8 : Hid _ := O6'
        have AI : Hid (dA = (d ++ [Tn.zero]).set n nN) := by show _ = _; rw [hAI.out, if_pos (by have := O5.out.len; omega)]
        clear F6' B6' O6' W6 b5 v15 hfX hfY hfY' F5 B5
        generalize rs ++ [zeroR] = rq at *
        have hnq : n < rq.length := by rw [hlq.out]; omega
        have hmq : m < rq.length := by rw [hlq.out]; omega
        go_upto_region 14 with (at_builtin; refine wpList_append_at _ rfl _ _ 34 34 rfl _ _ rfl rfl hr ?_)
        clear hr
        obtain ⟨O6, F6⟩ := O8.out.bare (k := n) hnq hbare
        rw [← AI.out] at O6
        have hPut := dput_any O6 (Nat.le_trans hBw6 (set9_grown _ _ _ _).size) (n := n) (m := m) (by simpa using hnq) (by simpa using hmq) HLS.out bf false (HT2.out (by omega))
        simp only [List.length_set] at hPut
        have DJ := O8.out.doc (by omega)
        obtain ⟨hBg, hgl, hfz⟩ := O8.out.at (by omega)
        have q0 := DJ.row.c0 _ hnq
        have q1 := DJ.row.c1 _ hnq
        have q2 := DJ.row.c2 _ hnq
        have q3 := DJ.row.c3 _ hnq
        have q4 := DJ.row.c4 _ hnq
        have q5 := DJ.row.c5 _ hnq
        have q6 := DJ.row.c6 _ hnq
        have q7 := DJ.row.c7 _ hnq
        have q8 := DJ.row.c8 _ hnq
        rw [Nat.zero_add] at q0 q1 q2 q3 q4 q5 q6 q7 q8
        have v6 := F6.cell v16 hfX6
        have QF6 : Hid _ := F7'.trans F6
        have QB6 : Hid (Below B w (set9 w6 g' n ⟨lv, tg, tx, ⟨none, 0, 0⟩, up, ⟨none, 0, 0⟩, hs, ⟨none, 0, 0⟩, ins⟩)) := B7'.grown (set9_grown _ _ _ _) hBw6 (fun k hk => by cases hk; exact hBg)
        clear O6 F6 DJ
        obtain ⟨wS, hwS⟩ : ∃ wS, wS = set9 w6 g' n ⟨lv, tg, tx, ⟨none, 0, 0⟩, up, ⟨none, 0, 0⟩, hs, ⟨none, 0, 0⟩, ins⟩ := ⟨_, rfl⟩
        rw [← hwS] at hPut v6 QF6 QB6
        unfold set9 at hwS
        simp only at hwS
        have HW : Hid _ := hwS
        clear hwS
        generalize rq[n] = rx at *
        obtain ⟨rl, rt, rv, ⟨ap, an, ac⟩, ru, ⟨kp, kn, kc⟩, rh, ⟨sp, sn, sc⟩, ri⟩ := rx
        simp only at q0 q1 q2 q3 q4 q5 q6 q7 q8
        obtain ⟨y0, y1, y2, y3, y4, y5, y6, y7, y8⟩ := b6
        simp only at y0 y1 y2 y3 y4 y5 y6 y7 y8
        have hxl : (n : Int) < (rq.length : Int) := by omega
        go_upto_region 15 with fail
        rw [← HW.out]
        go_wp2_with (go_at_call 84; refine hPut.mono ?_; rintro e w7 ⟨rfl, hb7, ho7⟩)
        have HO : Hid _ := ho7
        go_ret3
        refine ⟨.slice (some ⟨g', 0, none⟩) rq.length c', (n : Int), by rw [ACQ.out]; rfl, QB6.out.trans hb7, fun hc => ?_⟩
        rw [ACQ.out] at hc
        obtain ⟨rs7, h71, O7, F7⟩ := HO.out hc
        exact ⟨rfl, g', c', rs7, by rw [h71], O7, QF6.out.trans F7⟩
end Go.Proofs.Ytookcjdibpccpaa

/-
  THE WALK of dom.change, in a document of the call's own: a node is made.
-/
namespace Go.Proofs.Ytookcjdibpccpaa
open Go.RowKit

set_option maxHeartbeats 400000 in
set_option maxRecDepth 100000 in
theorem dchange_make {w : World} {B g c : Nat} {rs : List Raw} {d : Tn.Dc} (h : Owned w B g c rs d) (hB : B ≤ w.heap.size) (hlr : rs.length ≤ 900) (kd : Int) (hkd : kd = 1 ∨ kd = 2) (tt bf : Int) (nm vl : ByteArray) (hnm : nm.size ≤ 4194304) (hvl : vl.size ≤ 4194304) {m : Nat} (hm : m < rs.length)
    (hls : ∀ s, (Tn.liD (addIn d ⟨kd, (m : Int), tt, bf, nm, vl⟩) m s).length ≤ 1000)
    (hT : freshE ⟨kd, (m : Int), tt, bf, nm, vl⟩ = 0 → Tn.free d < 60 → 0 ≤ putAt (Tn.listOf (Tn.nd (addIn d ⟨kd, (m : Int), tt, bf, nm, vl⟩) m) false) bf → (Tn.listOf (Tn.nd (addIn d ⟨kd, (m : Int), tt, bf, nm, vl⟩) m) false).length < 12 → Tame (putDoc (addIn d ⟨kd, (m : Int), tt, bf, nm, vl⟩) (Tn.free d) m bf false) ∧ (∀ j t, (Tn.liD (putDoc (addIn d ⟨kd, (m : Int), tt, bf, nm, vl⟩) (Tn.free d) m bf false) j t).length ≤ 1000) ∧ Tn.lvD (putDoc (addIn d ⟨kd, (m : Int), tt, bf, nm, vl⟩) (Tn.free d) m bf false) (Tn.free d) = true) :
    Calls Try.prog 57 #[.slice (some ⟨g, 0, none⟩) rs.length c, chg6 ⟨kd, (m : Int), tt, bf, nm, vl⟩] w fun e w' => ∃ dv nv cd, e = .returned (.tuple #[dv, .int .i64 nv, .int .i64 cd]) ∧ Below B w w' ∧ cd = (if Tn.isN d (m : Int) true = true then addCode d ⟨kd, (m : Int), tt, bf, nm, vl⟩ m bf false else 8) ∧ (cd = 0 → nv = (Tn.free d : Int) ∧ ∃ g' c' rs', dv = .slice (some ⟨g', 0, none⟩) rs'.length c' ∧ Owned w' B g' c' rs' (putDoc (addIn d ⟨kd, (m : Int), tt, bf, nm, vl⟩) (Tn.free d) m bf false)) := by
  have H : Hid (Owned w B g c rs d) := h
  clear h
  rcases hkd with rfl | rfl
  · skip
    have W1 : Below w.heap.size w (w.alloc (.cells #[.int .i64 1, .int .i64 (m : Int), .int .i64 tt, .int .i64 bf, .string nm, .string vl] 32)) := (Below.refl _ _).alloc (Nat.le_refl _) _
    have O1 := H.out.below W1 (Nat.le_refl _)
    have HA : Hid (Calls Try.prog 73 #[.slice (some ⟨g, 0, none⟩) rs.length c, chg6 ⟨1, (m : Int), tt, bf, nm, vl⟩] (w.alloc (.cells #[.int .i64 1, .int .i64 (m : Int), .int .i64 tt, .int .i64 bf, .string nm, .string vl] 32)) fun e w' => ∃ dv nv, e = .returned (.tuple #[dv, .int .i64 nv, .int .i64 (addCode d ⟨1, (m : Int), tt, bf, nm, vl⟩ m bf false)]) ∧ Below B (w.alloc (.cells #[.int .i64 1, .int .i64 (m : Int), .int .i64 tt, .int .i64 bf, .string nm, .string vl] 32)) w' ∧ (addCode d ⟨1, (m : Int), tt, bf, nm, vl⟩ m bf false = 0 → nv = (Tn.free d : Int) ∧ ∃ g' c' rs', dv = .slice (some ⟨g', 0, none⟩) rs'.length c' ∧ Owned w' B g' c' rs' (putDoc (addIn d ⟨1, (m : Int), tt, bf, nm, vl⟩) (Tn.free d) m bf false) ∧ Fr g rs (w.alloc (.cells #[.int .i64 1, .int .i64 (m : Int), .int .i64 tt, .int .i64 bf, .string nm, .string vl] 32)) g' rs' w')) :=
      dadd_Out O1 (Nat.le_trans hB W1.size) hlr ⟨1, (m : Int), tt, bf, nm, vl⟩ rfl rfl hnm hvl rfl hm hls hT
    have HD : Hid (DocAt (w.alloc (.cells #[.int .i64 1, .int .i64 (m : Int), .int .i64 tt, .int .i64 bf, .string nm, .string vl] 32)) g 0 c rs d) := O1.doc (by omega)
    have HB1 : Hid (Below B w (w.alloc (.cells #[.int .i64 1, .int .i64 (m : Int), .int .i64 tt, .int .i64 bf, .string nm, .string vl] 32))) := (Below.refl B w).alloc hB _
    have x4 : (w.alloc (.cells #[.int .i64 1, .int .i64 (m : Int), .int .i64 tt, .int .i64 bf, .string nm, .string vl] 32)).cell? ⟨w.heap.size, 0, none⟩ = some (.int .i64 1) := by rw [World.cell?_alloc_new]; rfl
    clear hls hT W1 O1
    cases hi : Tn.isN d (m : Int) true with
    | true =>
      unfold chg6
      simp only
      go_enter Try.func57, Try.ntmps57
      go_wp2_with fail
      refine (dis_any HD.out (m : Int) true).mono ?_
      rintro e w1 ⟨rfl, hw1⟩
      subst hw1
      rw [hi]
      go_wp2_with fail
      refine HA.out.mono ?_
      rintro e w2 ⟨dv, nv, rfl, b2, hz⟩
      have HZ : Hid (addCode d ⟨1, (m : Int), tt, bf, nm, vl⟩ m bf false = 0 → nv = (Tn.free d : Int) ∧ ∃ (g' c' : Nat) (rs' : List Raw), dv = .slice (some ⟨g', 0, none⟩) rs'.length c' ∧ Owned w2 B g' c' rs' (putDoc (addIn d ⟨1, (m : Int), tt, bf, nm, vl⟩) (Tn.free d) m bf false) ∧ Fr g rs (w.alloc (.cells #[.int .i64 1, .int .i64 (m : Int), .int .i64 tt, .int .i64 bf, .string nm, .string vl] 32)) g' rs' w2) := hz
      clear hz
      generalize hcd : addCode d _ m bf false = cd at *
      go_wp2_with fail
      go_ret3
      refine ⟨_, _, _, rfl, HB1.out.trans b2, rfl, fun h0 => ?_⟩
      obtain ⟨h1, g', c', rs', h2, h3, _⟩ := HZ.out h0
      exact ⟨h1, g', c', rs', h2, h3⟩
    | false =>
      unfold chg6
      simp only
      go_enter Try.func57, Try.ntmps57
      go_wp2_with fail
      refine (dis_any HD.out (m : Int) true).mono ?_
      rintro e w1 ⟨rfl, hw1⟩
      subst hw1
      rw [hi]
      go_wp2_with fail
      go_ret3
      exact ⟨_, _, _, rfl, HB1.out, rfl, fun h => by cases h⟩
  · skip
    have W1 : Below w.heap.size w (w.alloc (.cells #[.int .i64 2, .int .i64 (m : Int), .int .i64 tt, .int .i64 bf, .string nm, .string vl] 32)) := (Below.refl _ _).alloc (Nat.le_refl _) _
    have O1 := H.out.below W1 (Nat.le_refl _)
    have HA : Hid (Calls Try.prog 73 #[.slice (some ⟨g, 0, none⟩) rs.length c, chg6 ⟨2, (m : Int), tt, bf, nm, vl⟩] (w.alloc (.cells #[.int .i64 2, .int .i64 (m : Int), .int .i64 tt, .int .i64 bf, .string nm, .string vl] 32)) fun e w' => ∃ dv nv, e = .returned (.tuple #[dv, .int .i64 nv, .int .i64 (addCode d ⟨2, (m : Int), tt, bf, nm, vl⟩ m bf false)]) ∧ Below B (w.alloc (.cells #[.int .i64 2, .int .i64 (m : Int), .int .i64 tt, .int .i64 bf, .string nm, .string vl] 32)) w' ∧ (addCode d ⟨2, (m : Int), tt, bf, nm, vl⟩ m bf false = 0 → nv = (Tn.free d : Int) ∧ ∃ g' c' rs', dv = .slice (some ⟨g', 0, none⟩) rs'.length c' ∧ Owned w' B g' c' rs' (putDoc (addIn d ⟨2, (m : Int), tt, bf, nm, vl⟩) (Tn.free d) m bf false) ∧ Fr g rs (w.alloc (.cells #[.int .i64 2, .int .i64 (m : Int), .int .i64 tt, .int .i64 bf, .string nm, .string vl] 32)) g' rs' w')) :=
      dadd_Out O1 (Nat.le_trans hB W1.size) hlr ⟨2, (m : Int), tt, bf, nm, vl⟩ rfl rfl hnm hvl rfl hm hls hT
    have HD : Hid (DocAt (w.alloc (.cells #[.int .i64 2, .int .i64 (m : Int), .int .i64 tt, .int .i64 bf, .string nm, .string vl] 32)) g 0 c rs d) := O1.doc (by omega)
    have HB1 : Hid (Below B w (w.alloc (.cells #[.int .i64 2, .int .i64 (m : Int), .int .i64 tt, .int .i64 bf, .string nm, .string vl] 32))) := (Below.refl B w).alloc hB _
    have x4 : (w.alloc (.cells #[.int .i64 2, .int .i64 (m : Int), .int .i64 tt, .int .i64 bf, .string nm, .string vl] 32)).cell? ⟨w.heap.size, 0, none⟩ = some (.int .i64 2) := by rw [World.cell?_alloc_new]; rfl
    clear hls hT W1 O1
    cases hi : Tn.isN d (m : Int) true with
    | true =>
      unfold chg6
      simp only
      go_enter Try.func57, Try.ntmps57
      go_wp2_with fail
      refine (dis_any HD.out (m : Int) true).mono ?_
      rintro e w1 ⟨rfl, hw1⟩
      subst hw1
      rw [hi]
      go_wp2_with fail
      refine HA.out.mono ?_
      rintro e w2 ⟨dv, nv, rfl, b2, hz⟩
      have HZ : Hid (addCode d ⟨2, (m : Int), tt, bf, nm, vl⟩ m bf false = 0 → nv = (Tn.free d : Int) ∧ ∃ (g' c' : Nat) (rs' : List Raw), dv = .slice (some ⟨g', 0, none⟩) rs'.length c' ∧ Owned w2 B g' c' rs' (putDoc (addIn d ⟨2, (m : Int), tt, bf, nm, vl⟩) (Tn.free d) m bf false) ∧ Fr g rs (w.alloc (.cells #[.int .i64 2, .int .i64 (m : Int), .int .i64 tt, .int .i64 bf, .string nm, .string vl] 32)) g' rs' w2) := hz
      clear hz
      generalize hcd : addCode d _ m bf false = cd at *
      go_wp2_with fail
      go_ret3
      refine ⟨_, _, _, rfl, HB1.out.trans b2, rfl, fun h0 => ?_⟩
      obtain ⟨h1, g', c', rs', h2, h3, _⟩ := HZ.out h0
      exact ⟨h1, g', c', rs', h2, h3⟩
    | false =>
      unfold chg6
      simp only
      go_enter Try.func57, Try.ntmps57
      go_wp2_with fail
      refine (dis_any HD.out (m : Int) true).mono ?_
      rintro e w1 ⟨rfl, hw1⟩
      subst hw1
      rw [hi]
      go_wp2_with fail
      go_ret3
      exact ⟨_, _, _, rfl, HB1.out, rfl, fun h => by cases h⟩
end Go.Proofs.Ytookcjdibpccpaa

/-
  THE WALK of dom.change, in a document of the call's own: a node goes.
-/
namespace Go.Proofs.Ytookcjdibpccpaa
open Go.RowKit

set_option maxHeartbeats 400000 in
set_option maxRecDepth 100000 in
theorem dchange_remove {w : World} {B g c : Nat} {rs : List Raw} {d : Tn.Dc} (h : Owned w B g c rs d) (hB : B ≤ w.heap.size) (tt bf : Int) (nm vl : ByteArray) {m : Nat} (hn : m < rs.length) (hm0 : m ≠ 0) (hup : ∃ u : Nat, (Tn.nd d m).up = (u : Int) ∧ u < rs.length) (hls : ∀ j s, (Tn.liD d j s).length ≤ 1000)
    (hT : Tame (moveIn d m) ∧ (∀ j s, (Tn.liD (moveIn d m) j s).length ≤ 1000) ∧ Tn.lvD (moveIn d m) m = true) (hlt : ∀ k ∈ Tn.all Tn.fuel (moveIn d m) m, k < rs.length) :
    Calls Try.prog 57 #[.slice (some ⟨g, 0, none⟩) rs.length c, chg6 ⟨4, (m : Int), tt, bf, nm, vl⟩] w fun e w' => ∃ rs' : List Raw, e = .returned (.tuple #[.slice (some ⟨g, 0, none⟩) rs'.length c, .int .i64 (m : Int), .int .i64 0]) ∧ Below B w w' ∧ Owned w' B g c rs' (killD (Tn.all Tn.fuel (moveIn d m) m) (moveIn d m)) := by
  have W1 : Below w.heap.size w (w.alloc (.cells #[.int .i64 4, .int .i64 (m : Int), .int .i64 tt, .int .i64 bf, .string nm, .string vl] 32)).drew := ((Below.refl _ _).alloc (Nat.le_refl _) _).drew
  have O1 := h.below W1 (Nat.le_refl _)
  have HA : Hid (Calls Try.prog 68 #[.slice (some ⟨g, 0, none⟩) rs.length c, .int .i64 (m : Int)] (w.alloc (.cells #[.int .i64 4, .int .i64 (m : Int), .int .i64 tt, .int .i64 bf, .string nm, .string vl] 32)).drew fun e w' => e = .returned (.int .i64 0) ∧ Below B w w' ∧ w'.cell? ⟨w.heap.size, 1, none⟩ = some (.int .i64 (m : Int)) ∧ Hid (∃ rs' : List Raw, rs'.length = rs.length ∧ Owned w' B g c rs' (killD (Tn.all Tn.fuel (moveIn d m) m) (moveIn d m)))) := by
    have := dremove_any O1 (Nat.le_trans hB W1.size) hn (fun _ => hup) hls (fun _ => hT) (fun _ => hlt)
    have hc : remCode m = 0 := by unfold remCode; rw [if_neg hm0]
    rw [hc] at this
    refine this.mono ?_
    rintro e w' ⟨e1, e2, e3⟩
    obtain ⟨rs', q1, q2, q3⟩ := e3 rfl
    refine ⟨e1, ((Below.refl B w).alloc hB _).drew.trans e2, ?_, ⟨rs', q1, q2⟩⟩
    have x1 : (w.alloc (.cells #[.int .i64 4, .int .i64 (m : Int), .int .i64 tt, .int .i64 bf, .string nm, .string vl] 32)).drew.cell? ⟨w.heap.size, 1, none⟩ = some (.int .i64 (m : Int)) := by rw [World.cell?_drew, World.cell?_alloc_new]; rfl
    exact q3.cell x1 (h.free (by omega) (Nat.le_refl _))
  have x1 : (w.alloc (.cells #[.int .i64 4, .int .i64 (m : Int), .int .i64 tt, .int .i64 bf, .string nm, .string vl] 32)).cell? ⟨w.heap.size, 1, none⟩ = some (.int .i64 (m : Int)) := by rw [World.cell?_alloc_new]; rfl
  clear hup hls hT hlt W1 O1 h
  generalize killD (Tn.all Tn.fuel (moveIn d m) m) (moveIn d m) = d' at *
  unfold chg6
  simp only
  go_enter Try.func57, Try.ntmps57
  go_wp2_with fail
  have SS : ∀ w'', Keeps (w.alloc (.cells #[.int .i64 4, .int .i64 (m : Int), .int .i64 tt, .int .i64 bf, .string nm, .string vl] 32)) w'' → (fun w'' => w''.cell? ⟨w.heap.size, 1, none⟩ = some (.int .i64 (m : Int))) w'' := fun w'' hk => hk _ _ x1
  go_region_held3 (fun w'' => w''.cell? ⟨w.heap.size, 1, none⟩ = some (.int .i64 (m : Int)))
    ((first | assumption | (apply SS; first | exact Keeps.refl _ | exact keeps_drew (Keeps.refl _))))
    (first
      | (go_at_call 68; refine HA.out.mono ?_; rintro e w2 ⟨rfl, b2, q2, HZ⟩))
  all_goals
    go_wp2_with fail
    go_ret3
    obtain ⟨rs', e1, e2⟩ := HZ.out
    exact ⟨rs', by rw [e1]; rfl, b2, e2⟩
end Go.Proofs.Ytookcjdibpccpaa

/-
  THE WALK of dom.change, in a document of the call's own: an attribute, at a node that has none yet.
-/
namespace Go.Proofs.Ytookcjdibpccpaa
open Go.RowKit

set_option maxHeartbeats 400000 in
set_option maxRecDepth 100000 in
theorem dchange_attr0 {w : World} {B g c : Nat} {rs : List Raw} {d : Tn.Dc} (h : Owned w B g c rs d) (hB : B ≤ w.heap.size) (hlr : rs.length ≤ 900) (tt bf : Int) (nm vl : ByteArray) {m : Nat} (hm : m < rs.length) (hi : Tn.isN d (m : Int) true = true) (h0 : (Tn.nd d m).attrs = []) (hnm : Tn.nameL nm.data.toList = true) (hsz : nm.size ≤ 4194304) (hvl : vl.size ≤ 60) :
    Calls Try.prog 57 #[.slice (some ⟨g, 0, none⟩) rs.length c, chg6 ⟨5, (m : Int), tt, bf, nm, vl⟩] w fun e w' => ∃ rs' : List Raw, e = .returned (.tuple #[.slice (some ⟨g, 0, none⟩) rs'.length c, .int .i64 (m : Int), .int .i64 0]) ∧ Below B w w' ∧ Owned w' B g c rs' (d.set m { Tn.nd d m with attrs := [(nm, vl)] }) := by
  have W0 : Below w.heap.size w (w.alloc (.cells #[.int .i64 5, .int .i64 (m : Int), .int .i64 tt, .int .i64 bf, .string nm, .string vl] 32)) := (Below.refl _ _).alloc (Nat.le_refl _) _
  have W1 : Below w.heap.size w (w.alloc (.cells #[.int .i64 5, .int .i64 (m : Int), .int .i64 tt, .int .i64 bf, .string nm, .string vl] 32)).drew := W0.drew
  have O1 := h.below W1 (Nat.le_refl _)
  have HD : Hid (DocAt (w.alloc (.cells #[.int .i64 5, .int .i64 (m : Int), .int .i64 tt, .int .i64 bf, .string nm, .string vl] 32)) g 0 c rs d) := (h.below W0 (Nat.le_refl _)).doc (by omega)
  have HA : Hid (Calls Try.prog 70 #[.pointer (some ⟨g, m * 9, none⟩), .string nm, .string vl] (w.alloc (.cells #[.int .i64 5, .int .i64 (m : Int), .int .i64 tt, .int .i64 bf, .string nm, .string vl] 32)).drew fun e w' => e = .returned (.int .i64 0) ∧ Below B w w' ∧ (fun w'' => w''.cell? ⟨w.heap.size, 1, none⟩ = some (.int .i64 (m : Int)) ∧ w''.cell? ⟨w.heap.size, 4, none⟩ = some (.string nm) ∧ w''.cell? ⟨w.heap.size, 5, none⟩ = some (.string vl)) w' ∧ Hid (∃ rs' : List Raw, rs'.length = rs.length ∧ Owned w' B g c rs' (d.set m { Tn.nd d m with attrs := [(nm, vl)] }))) := by
    refine (dsetattr0 O1 (Nat.le_trans hB W1.size) hm h0 nm vl hnm hsz hvl).mono ?_
    rintro e w' ⟨e1, e2, rs', q1, q2, q3⟩
    have nf := h.free (by omega) (Nat.le_refl _)
    refine ⟨e1, ((Below.refl B w).alloc hB _).drew.trans e2, ⟨?_, ?_, ?_⟩, ⟨rs', q1, q2⟩⟩
    · exact q3.cell (p := ⟨w.heap.size, 1, none⟩) (by rw [World.cell?_drew, World.cell?_alloc_new]; rfl) nf
    · exact q3.cell (p := ⟨w.heap.size, 4, none⟩) (by rw [World.cell?_drew, World.cell?_alloc_new]; rfl) nf
    · exact q3.cell (p := ⟨w.heap.size, 5, none⟩) (by rw [World.cell?_drew, World.cell?_alloc_new]; rfl) nf
  have x1 : (w.alloc (.cells #[.int .i64 5, .int .i64 (m : Int), .int .i64 tt, .int .i64 bf, .string nm, .string vl] 32)).cell? ⟨w.heap.size, 1, none⟩ = some (.int .i64 (m : Int)) := by rw [World.cell?_alloc_new]; rfl
  have x4 : (w.alloc (.cells #[.int .i64 5, .int .i64 (m : Int), .int .i64 tt, .int .i64 bf, .string nm, .string vl] 32)).cell? ⟨w.heap.size, 4, none⟩ = some (.string nm) := by rw [World.cell?_alloc_new]; rfl
  have x5 : (w.alloc (.cells #[.int .i64 5, .int .i64 (m : Int), .int .i64 tt, .int .i64 bf, .string nm, .string vl] 32)).cell? ⟨w.heap.size, 5, none⟩ = some (.string vl) := by rw [World.cell?_alloc_new]; rfl
  have hm1 : (m : Int) < (rs.length : Int) := by omega
  clear W0 W1 O1 h h0
  generalize d.set m { Tn.nd d m with attrs := [(nm, vl)] } = d' at *
  unfold chg6
  simp only
  go_enter Try.func57, Try.ntmps57
  go_wp2_with fail
  refine (dis_any HD.out (m : Int) true).mono ?_
  rintro e w1 ⟨rfl, hw1⟩
  subst hw1
  rw [hi]
  go_wp2_with fail
  have SS : ∀ w'', Keeps (w.alloc (.cells #[.int .i64 5, .int .i64 (m : Int), .int .i64 tt, .int .i64 bf, .string nm, .string vl] 32)) w'' → (fun w'' => w''.cell? ⟨w.heap.size, 1, none⟩ = some (.int .i64 (m : Int)) ∧ w''.cell? ⟨w.heap.size, 4, none⟩ = some (.string nm) ∧ w''.cell? ⟨w.heap.size, 5, none⟩ = some (.string vl)) w'' := fun w'' hk => ⟨hk _ _ x1, hk _ _ x4, hk _ _ x5⟩
  go_region_held3 (fun w'' => w''.cell? ⟨w.heap.size, 1, none⟩ = some (.int .i64 (m : Int)) ∧ w''.cell? ⟨w.heap.size, 4, none⟩ = some (.string nm) ∧ w''.cell? ⟨w.heap.size, 5, none⟩ = some (.string vl))
    ((first | assumption | (apply SS; first | exact Keeps.refl _ | exact keeps_drew (Keeps.refl _))))
    (first
      | (go_at_call 70; refine HA.out.mono ?_; rintro e w2 ⟨rfl, b2, q2, HZ⟩))
  all_goals
    go_wp2_with fail
    go_ret3
    obtain ⟨rs', e1, e2⟩ := HZ.out
    exact ⟨rs', by rw [e1]; rfl, b2, e2⟩
end Go.Proofs.Ytookcjdibpccpaa

/-
  THE WALK of dom.Apply, over what change makes.
-/
namespace Go.Proofs.Ytookcjdibpccpaa
open Go.RowKit

/-- what change makes of a document of the call's own: the error, the node, the document -/
def Chs (d : Tn.Dc) (x : Tn.Chg) (cd nv : Int) (D : Tn.Dc) : Prop := ∀ (B : Nat) (W : World) (g c : Nat) (rs : List Raw), B ≤ W.heap.size → Owned W B g c rs d →
  Calls Try.prog 57 #[.slice (some ⟨g, 0, none⟩) rs.length c, chg6 x] W fun e w' => ∃ dv v, e = .returned (.tuple #[dv, .int .i64 v, .int .i64 cd]) ∧ Below B W w' ∧ Hid (cd = 0 → v = nv ∧ ∃ (g' c' : Nat) (rs' : List Raw), dv = .slice (some ⟨g', 0, none⟩) rs'.length c' ∧ Owned w' B g' c' rs' D)

set_option maxHeartbeats 400000 in
set_option maxRecDepth 100000 in
theorem dapply_chs {w : World} {b o c : Nat} {rs : List Raw} {d : Tn.Dc} (hd : DocAt w b o c rs d) (h0 : 0 < rs.length) (hlen : d.length ≤ 1000) (hls : ∀ j s, (Tn.liD d j s).length ≤ 1000) (hal : ∀ k, (Tn.nd d k).attrs.length ≤ 1000)
    (kd nn tt bf : Int) (nm vl : ByteArray) (hk1 : 1 ≤ kd) (hk2 : kd ≤ 10) (hi : Tn.isN d nn false = true) {cd nv : Int} {D : Tn.Dc} (hC : Chs d ⟨kd, nn, tt, bf, nm, vl⟩ cd nv D) (hD : cd = 0 → Tn.lvD D 0 = true) :
    Calls Try.prog 41 #[.slice (some ⟨b, o, none⟩) rs.length c, chg6 ⟨kd, nn, tt, bf, nm, vl⟩] w fun e w' => ∃ v, e = .returned v ∧ Below w.heap.size w w' ∧ ((cd ≠ 0 ∧ v = .tuple #[.slice none 0 0, .int .i64 0, .int .i64 cd]) ∨ (cd = 0 ∧ ∃ (g' c' : Nat) (rs' : List Raw), v = .tuple #[.slice (some ⟨g', 0, none⟩) rs'.length c', .int .i64 nv, .int .i64 0] ∧ DocAt w' g' 0 c' rs' (Tn.trimD D) ∧ 0 < rs'.length)) := by
  have B1 : Below w.heap.size w (w.alloc (.cells #[.int .i64 kd, .int .i64 nn, .int .i64 tt, .int .i64 bf, .string nm, .string vl] 32)) := (Below.refl _ _).alloc (Nat.le_refl _) _
  have HD : Hid (DocAt (w.alloc (.cells #[.int .i64 kd, .int .i64 nn, .int .i64 tt, .int .i64 bf, .string nm, .string vl] 32)) b o c rs d) := hd.keeps (keeps_below B1 (Nat.le_refl _))
  have HC : Hid (Chs d ⟨kd, nn, tt, bf, nm, vl⟩ cd nv D) := hC
  have hlr : Hid (rs.length = d.length) := hd.len
  have HD0 : Hid (cd = 0 → Tn.lvD D 0 = true) := hD
  have BB1 : Hid (Below w.heap.size w (w.alloc (.cells #[.int .i64 kd, .int .i64 nn, .int .i64 tt, .int .i64 bf, .string nm, .string vl] 32))) := B1
  clear hd hC hD B1
  unfold chg6
  simp only
  go_enter Try.func41, Try.ntmps41
  go_wp2_with fail
  refine (dis_any HD.out nn false).mono ?_
  rintro e w1 ⟨rfl, hw1⟩
  subst hw1
  rw [hi]
  go_wp2_with fail
  have S0 : (fun w'' : World => w''.cell? ⟨w.heap.size, 0, none⟩ = some (.int .i64 kd) ∧ w''.cell? ⟨w.heap.size, 1, none⟩ = some (.int .i64 nn) ∧ w''.cell? ⟨w.heap.size, 2, none⟩ = some (.int .i64 tt) ∧ w''.cell? ⟨w.heap.size, 3, none⟩ = some (.int .i64 bf) ∧ w''.cell? ⟨w.heap.size, 4, none⟩ = some (.string nm) ∧ w''.cell? ⟨w.heap.size, 5, none⟩ = some (.string vl)) (w.alloc (.cells #[.int .i64 kd, .int .i64 nn, .int .i64 tt, .int .i64 bf, .string nm, .string vl] 32)) := by
    refine ⟨?_, ?_, ?_, ?_, ?_, ?_⟩ <;> (rw [World.cell?_alloc_new]; rfl)
  have SK : ∀ w'', (∀ j, w''.cell? ⟨w.heap.size, j, none⟩ = (w.alloc (.cells #[.int .i64 kd, .int .i64 nn, .int .i64 tt, .int .i64 bf, .string nm, .string vl] 32)).cell? ⟨w.heap.size, j, none⟩) → (fun w'' : World => w''.cell? ⟨w.heap.size, 0, none⟩ = some (.int .i64 kd) ∧ w''.cell? ⟨w.heap.size, 1, none⟩ = some (.int .i64 nn) ∧ w''.cell? ⟨w.heap.size, 2, none⟩ = some (.int .i64 tt) ∧ w''.cell? ⟨w.heap.size, 3, none⟩ = some (.int .i64 bf) ∧ w''.cell? ⟨w.heap.size, 4, none⟩ = some (.string nm) ∧ w''.cell? ⟨w.heap.size, 5, none⟩ = some (.string vl)) w'' := fun w'' hk => by
    obtain ⟨s0, s1, s2, s3, s4, s5⟩ := S0
    exact ⟨(hk 0).trans s0, (hk 1).trans s1, (hk 2).trans s2, (hk 3).trans s3, (hk 4).trans s4, (hk 5).trans s5⟩
  have HSK : Hid (∀ w'', (∀ j, w''.cell? ⟨w.heap.size, j, none⟩ = (w.alloc (.cells #[.int .i64 kd, .int .i64 nn, .int .i64 tt, .int .i64 bf, .string nm, .string vl] 32)).cell? ⟨w.heap.size, j, none⟩) → (fun w'' : World => w''.cell? ⟨w.heap.size, 0, none⟩ = some (.int .i64 kd) ∧ w''.cell? ⟨w.heap.size, 1, none⟩ = some (.int .i64 nn) ∧ w''.cell? ⟨w.heap.size, 2, none⟩ = some (.int .i64 tt) ∧ w''.cell? ⟨w.heap.size, 3, none⟩ = some (.int .i64 bf) ∧ w''.cell? ⟨w.heap.size, 4, none⟩ = some (.string nm) ∧ w''.cell? ⟨w.heap.size, 5, none⟩ = some (.string vl)) w'') := SK
  clear SK
  have HOwn : Hid (Calls Try.prog 25 #[.slice (some ⟨b, o, none⟩) rs.length c] (w.alloc (.cells #[.int .i64 kd, .int .i64 nn, .int .i64 tt, .int .i64 bf, .string nm, .string vl] 32)).drew fun e w' => ∃ (g c' : Nat) (rs' : List Raw), e = .returned (.slice (some ⟨g, 0, none⟩) rs'.length c') ∧ Hid (Owned w' (w.alloc (.cells #[.int .i64 kd, .int .i64 nn, .int .i64 tt, .int .i64 bf, .string nm, .string vl] 32)).drew.heap.size g c' rs' d) ∧ Hid (Below (w.alloc (.cells #[.int .i64 kd, .int .i64 nn, .int .i64 tt, .int .i64 bf, .string nm, .string vl] 32)).drew.heap.size (w.alloc (.cells #[.int .i64 kd, .int .i64 nn, .int .i64 tt, .int .i64 bf, .string nm, .string vl] 32)).drew w')) := by
    refine (down_any (HD.out.keeps (keeps_drew (Keeps.refl _))) h0 hlen hls hal).mono ?_
    rintro e w' ⟨g, c', rs', e1, e2, e3⟩
    exact ⟨g, c', rs', e1, e2.owned, e3⟩
  clear hls hal
  go_region_held3 (fun w'' : World => w''.cell? ⟨w.heap.size, 0, none⟩ = some (.int .i64 kd) ∧ w''.cell? ⟨w.heap.size, 1, none⟩ = some (.int .i64 nn) ∧ w''.cell? ⟨w.heap.size, 2, none⟩ = some (.int .i64 tt) ∧ w''.cell? ⟨w.heap.size, 3, none⟩ = some (.int .i64 bf) ∧ w''.cell? ⟨w.heap.size, 4, none⟩ = some (.string nm) ∧ w''.cell? ⟨w.heap.size, 5, none⟩ = some (.string vl))
    ((first | assumption | (apply HSK.out; intro j; first | rfl | exact World.cell?_drew _ _)))
    (first
      | (go_at_call 25; refine HOwn.out.mono ?_; rintro e w2 ⟨g, c', rs', rfl, O2, b2⟩; have q2 : (fun w'' : World => w''.cell? ⟨w.heap.size, 0, none⟩ = some (.int .i64 kd) ∧ w''.cell? ⟨w.heap.size, 1, none⟩ = some (.int .i64 nn) ∧ w''.cell? ⟨w.heap.size, 2, none⟩ = some (.int .i64 tt) ∧ w''.cell? ⟨w.heap.size, 3, none⟩ = some (.int .i64 bf) ∧ w''.cell? ⟨w.heap.size, 4, none⟩ = some (.string nm) ∧ w''.cell? ⟨w.heap.size, 5, none⟩ = some (.string vl)) w2 := HSK.out w2 (fun j => (b2.out.cell (by simp)).trans (World.cell?_drew _ _)))
      | (go_at_call 57; refine (HC.out _ w2 g c' rs' b2.out.size O2.out).mono ?_; rintro e w3 ⟨dv, v, rfl, b3, HZ⟩; have q3 : (fun w'' : World => w''.cell? ⟨w.heap.size, 0, none⟩ = some (.int .i64 kd) ∧ w''.cell? ⟨w.heap.size, 1, none⟩ = some (.int .i64 nn) ∧ w''.cell? ⟨w.heap.size, 2, none⟩ = some (.int .i64 tt) ∧ w''.cell? ⟨w.heap.size, 3, none⟩ = some (.int .i64 bf) ∧ w''.cell? ⟨w.heap.size, 4, none⟩ = some (.string nm) ∧ w''.cell? ⟨w.heap.size, 5, none⟩ = some (.string vl)) w3 := HSK.out w3 (fun j => (b3.cell (by simp)).trans ((b2.out.cell (by simp)).trans (World.cell?_drew _ _)))))
  all_goals
    have B3 : Hid (Below w.heap.size w w3) := by
      have h1 := BB1.out.drew.trans (b2.out.mono (by simp))
      exact h1.trans (b3.mono (by simp))
    clear q2 q3 b2 b3 O2 HOwn HSK HC S0 BB1 HD
    by_cases hcd : cd = 0
    · subst hcd
      obtain ⟨rfl, g', c'', rs'', rfl, O3⟩ := HZ.out rfl
      have hl0 : 0 < rs''.length := by
        have := Tn.lv_lt (HD0.out rfl)
        have e := O3.len
        omega
      have HTr : Hid (Calls Try.prog 58 #[.slice (some ⟨g', 0, none⟩) rs''.length c''] w3 fun e w' => ∃ rs', e = .returned (.slice (some ⟨g', 0, none⟩) rs'.length c'') ∧ DocAt w3 g' 0 c'' rs' (Tn.trimD D) ∧ 0 < rs'.length ∧ w' = w3) := dtrim_any (O3.doc hl0) hl0 (HD0.out rfl)
      clear HZ O3
      go_wp2_with fail
      refine HTr.out.mono ?_
      rintro e w4 ⟨rs4, rfl, D4, hl4, rfl⟩
      have HD4 : Hid (DocAt w4 g' 0 c'' rs4 (Tn.trimD D)) := D4
      clear D4 HTr
      go_wp2_with fail
      go_ret3
      exact ⟨_, rfl, B3.out, g', c'', rs4, rfl, HD4.out, hl4⟩
    · have hne : (cd != 0) = true := by simpa using hcd
      clear HZ
      go_wp2_with fail
      go_ret3
      exact ⟨_, rfl, B3.out, Or.inl ⟨hcd, rfl⟩⟩
end Go.Proofs.Ytookcjdibpccpaa

/-
  PLAIN MATHEMATICS: what dom makes of a good document is what the reference makes: a node is made.
-/
namespace Go.Proofs.Ytookcjdibpccpaa
open Tn

theorem lastAt_none {l : List Nat} {b : Int} (h : ∀ j (hj : j < l.length), ¬ ((l[j] : Int) = b)) : ∀ k, k ≤ l.length → lastAt l b k = -1
  | 0, _ => rfl
  | k + 1, hk => by
    rw [lastAt, if_neg (by rw [List.getElem?_eq_getElem (by omega)]; exact h k (by omega))]
    exact lastAt_none h k (by omega)
theorem lastAt_one {l : List Nat} {b : Int} {j : Nat} (hj : j < l.length) (e : (l[j] : Int) = b) (hn : l.Nodup) : ∀ k, k ≤ l.length → j < k → lastAt l b k = (j : Int)
  | 0, _, h => by omega
  | k + 1, hk, h => by
    rw [lastAt]
    by_cases ek : k = j
    · subst ek
      rw [if_pos (by rw [List.getElem?_eq_getElem hj]; exact e)]
    · rw [if_neg (by
        rw [List.getElem?_eq_getElem (by omega)]
        intro e2
        have e3 : l[k]'(by omega) = l[j] := by
          have : ((l[k]'(by omega) : Nat) : Int) = (l[j] : Int) := by rw [e]; exact e2
          omega
        exact ek ((List.getElem_inj hn).mp e3))]
      exact lastAt_one hj e hn k (by omega) (by omega)
theorem place_putAt {l : List Nat} (hn : l.Nodup) (b : Int) : place l b = putAt l b := by
  unfold place putAt
  split
  · rcases idx_cases2 (fun k => (k : Int) == b) l with ⟨e, hno⟩ | ⟨j, hj, e, hp, _⟩
    · rw [e]
      exact lastAt_none (fun j hj h => by have := hno l[j] (List.getElem_mem hj); simp [h] at this) _ (Nat.le_refl _)
    · rw [e]
      exact lastAt_one hj (by simpa using hp) hn _ (Nat.le_refl _) hj
  · rfl

theorem addIn_withd (d : Dc) (x : Chg) : addIn d x = withd d (free d) (newNd x) := by
  unfold addIn withd
  split
  · rename_i e
    rw [e, List.set_append_right _ _ (Nat.le_refl _)]
    simp
  · rfl
theorem addIn_nd (d : Dc) (x : Chg) (hf : free d ≤ d.length) (j : Nat) : nd (addIn d x) j = if j = free d then newNd x else nd d j := by
  rw [addIn_withd d x]
  exact nd_withd d (free d) (newNd x) hf j

/-- two documents of one length whose nodes are the same are one -/
theorem doc_ext {a b : Dc} (hl : a.length = b.length) (h : ∀ j, nd a j = nd b j) : a = b := by
  apply List.ext_getElem hl
  intro i h1 h2
  have := h i
  unfold nd at this
  rw [List.getElem?_eq_getElem h1, List.getElem?_eq_getElem h2] at this
  exact this

theorem nd_setL (d : Dc) (k : Nat) (n : Nd) (hk : k < d.length) (j : Nat) : nd (d.set k n) j = if j = k then n else nd d j := by
  unfold nd
  rw [List.getElem?_set]
  by_cases e : k = j
  · subst e
    rw [if_pos rfl, if_pos hk, if_pos rfl]
    rfl
  · rw [if_neg e, if_neg (fun h => e h.symm)]

theorem len_withd (d : Dc) (k : Nat) (n : Nd) (hk : k ≤ d.length) : (withd d k n).length = max d.length (k + 1) := by
  unfold withd
  split
  · simp; omega
  · simp; omega

theorem made_newNd (x : Chg) (hk : x.kind = 1 ∨ x.kind = 2) (m : Nat) : made (newN x) m false = { newNd x with up := (m : Int), inS := false } := by
  unfold made newN newNd isText
  rcases hk with h | h <;> rw [h] <;> rfl

theorem li_addIn {d : Dc} (h : Tn.Good d) (x : Chg) (j : Nat) (t : Bool) : liD (addIn d x) j t = liD d j t := by
  obtain ⟨hf1, hf2⟩ := free_spec d
  unfold liD
  rw [addIn_nd d x hf1]
  by_cases e : j = free d
  · rw [if_pos e, e, h.dead _ hf2]
    unfold newNd
    split <;> (cases t <;> rfl)
  · rw [if_neg e]

/-- the document in which the node was made -/
theorem put_make {d : Dc} (h : Tn.Good d) (x : Chg) (hk : x.kind = 1 ∨ x.kind = 2) {m : Nat} (hm : lvD d m = true) (b : Int) :
    putDoc (addIn d x) (free d) m b false = put1 (withd d (free d) (made (newN x) m false)) (free d) m b false := by
  obtain ⟨hf1, hf2⟩ := free_spec d
  obtain ⟨r, hr, hR⟩ := h.tr
  have hml := lv_lt hm
  have hmk : m ≠ free d := fun e => by rw [e, hf2] at hm; cases hm
  have hla : (addIn d x).length = max d.length (free d + 1) := by rw [addIn_withd d x]; exact len_withd _ _ _ hf1
  have hm1 : m < (addIn d x).length := by omega
  have hf3 : free d < (addIn d x).length := by omega
  have hm2 : m < (withd d (free d) (made (newN x) m false)).length := by rw [len_withd _ _ _ hf1]; omega
  have hlist : listOf (nd (withd d (free d) (made (newN x) m false)) m) false = listOf (nd d m) false := by rw [nd_withd _ _ _ hf1, if_neg hmk]
  have hlist2 : listOf (nd (addIn d x) m) false = listOf (nd d m) false := by rw [addIn_nd d x hf1, if_neg hmk]
  have hpl : place (listOf (nd d m) false) b = putAt (listOf (nd d m) false) b := place_putAt (hr.1.nodup m false) b
  refine doc_ext ?_ fun j => ?_
  · rw [put1_len _ _ _ _ _ hm2, len_withd _ _ _ hf1]
    unfold putDoc putIn
    rw [List.length_set, List.length_set, hla]
  · rw [put1_nd _ _ _ _ _ hm2, hlist, hpl, nd_withd _ _ _ hf1, nd_withd _ _ _ hf1, if_neg hmk, made_newNd x hk]
    unfold putDoc
    have hpi : ∀ i, nd (putIn (addIn d x) (free d) m b false) i = if i = m then setList (nd d m) false (insertAt (listOf (nd d m) false) (putAt (listOf (nd d m) false) b).toNat (free d)) else nd (addIn d x) i := by
      intro i
      unfold putIn
      rw [nd_setL _ _ _ hm1, hlist2, addIn_nd d x hf1 m, if_neg hmk]
    have hpk : nd (putIn (addIn d x) (free d) m b false) (free d) = newNd x := by
      rw [hpi, if_neg (fun e => hmk e.symm), addIn_nd d x hf1, if_pos rfl]
    rw [nd_setL _ _ _ (by unfold putIn; rw [List.length_set]; exact hf3), hpk]
    by_cases e : j = free d
    · skip
      simp only [e, if_true]
      rw [if_neg (fun e3 => hmk e3.symm)]
    · rw [if_neg e, hpi, addIn_nd d x hf1, if_neg e, if_neg e]
end Go.Proofs.Ytookcjdibpccpaa

/-
  PLAIN MATHEMATICS: the document in which a node was made; and what is left when it goes.
-/
namespace Go.Proofs.Ytookcjdibpccpaa
open Tn

/-- lists may lose nodes: all roads still end -/
theorem tame_sub {d d' : Dc} (h : Tame d) (hl : d'.length = d.length) (hv : ∀ k, (nd d' k).live = (nd d k).live) (hu : ∀ k, (nd d' k).up = (nd d k).up) (hs : ∀ k s, (liD d' k s).Sublist (liD d k s)) : Tame d' := by
  have hi : ∀ n, isN d' n false = isN d n false := by
    intro n
    unfold isN
    rw [hl, hv]
    simp
  have hp : ∀ f n, path f d' n = path f d n := by
    intro f
    induction f with
    | zero => intro n; rfl
    | succ f ih => intro n; rw [path, path, hi, hu, ih]
  have hsh : ∀ k, (nd d' k).shadow.Sublist (nd d k).shadow := fun k => hs k true
  have hki : ∀ k, (nd d' k).kids.Sublist (nd d k).kids := fun k => hs k false
  have ha : ∀ f n, (all f d' n).Sublist (all f d n) := by
    intro f
    induction f with
    | zero => intro n; exact List.Sublist.refl _
    | succ f ih =>
      intro n
      have fm : ∀ {l l' : List Nat}, l'.Sublist l → (l'.flatMap (all f d')).Sublist (l.flatMap (all f d)) := by
        intro l l' hll
        induction hll with
        | slnil => exact List.Sublist.refl _
        | cons a _ ih2 => rw [List.flatMap_cons]; exact ih2.trans (List.sublist_append_right _ _)
        | cons_cons a _ ih2 => rw [List.flatMap_cons, List.flatMap_cons]; exact (ih a).append ih2
      rw [all, all, hi]
      split
      · exact ((fm (hsh n)).append (fm (hki n))).cons_cons n
      · exact List.Sublist.refl _
  refine ⟨by rw [hl]; exact h.len, fun n => ?_, fun f n => ?_, fun k hk => ?_⟩
  · unfold pathOf
    rw [hl, hp]
    exact h.path n
  · rw [hl]
    exact Nat.le_trans (ha f n).length_le (h.few f n)
  · have he : ∀ f k, Tn.Ends f d k → Tn.Ends f d' k := by
      intro f
      induction f with
      | zero => intro k hk; exact hk
      | succ f ih =>
        intro k hk
        exact ⟨by rw [hl]; exact hk.1, fun j hj => ih j (hk.2.1 j ((hsh k).subset hj)), fun j hj => ih j (hk.2.2 j ((hki k).subset hj))⟩
    refine he _ k (h.ends k ?_)
    unfold lvD at hk ⊢
    rw [← hv]
    exact hk

variable {d : Dc} {x : Chg} {m : Nat} {b : Int}

theorem make_len (h : Tn.Good d) (hk : x.kind = 1 ∨ x.kind = 2) (hm : lvD d m = true) : (putDoc (addIn d x) (free d) m b false).length = max d.length (free d + 1) := by
  obtain ⟨hf1, _⟩ := free_spec d
  have hml := lv_lt hm
  rw [put_make h x hk hm b, put1_len _ _ _ _ _ (by rw [len_withd _ _ _ hf1]; omega), len_withd _ _ _ hf1]

theorem make_nd (h : Tn.Good d) (hk : x.kind = 1 ∨ x.kind = 2) (hm : lvD d m = true) (j : Nat) :
    nd (putDoc (addIn d x) (free d) m b false) j = if j = m then { nd d m with kids := insertAt (nd d m).kids (putAt (nd d m).kids b).toNat (free d) } else if j = free d then { newNd x with up := (m : Int), inS := false } else nd d j := by
  obtain ⟨hf1, hf2⟩ := free_spec d
  obtain ⟨r, hr, _⟩ := h.tr
  have hml := lv_lt hm
  have hmk : m ≠ free d := fun e => by rw [e, hf2] at hm; cases hm
  have hpl : place (nd d m).kids b = putAt (nd d m).kids b := place_putAt (hr.1.nodup m false) b
  rw [put_make h x hk hm b, put1_nd _ _ _ _ _ (by rw [len_withd _ _ _ hf1]; omega), nd_withd _ _ _ hf1, nd_withd _ _ _ hf1, if_neg hmk, made_newNd x hk]
  unfold setList listOf
  simp only [Bool.false_eq_true, if_false]
  rw [hpl]

theorem make_TrD (h : Tn.Good d) {r : Nat → Nat} (hr : TrD d r) (hk : x.kind = 1 ∨ x.kind = 2) (hm : lvD d m = true) : TrD (putDoc (addIn d x) (free d) m b false) (fun j => if j = free d then r m + 1 else r j) := by
  rw [put_make h x hk hm b]
  exact make_tr h hr (newN_new x) hm b false

theorem make_lv (h : Tn.Good d) (hk : x.kind = 1 ∨ x.kind = 2) (hm : lvD d m = true) : lvD (putDoc (addIn d x) (free d) m b false) (free d) = true := by
  obtain ⟨hf1, hf2⟩ := free_spec d
  have hmk : m ≠ free d := fun e => by rw [e, hf2] at hm; cases hm
  unfold lvD
  rw [make_nd h hk hm, if_neg (fun e => hmk e.symm), if_pos rfl]
  unfold newNd
  split <;> rfl

theorem make_li (h : Tn.Good d) (hk : x.kind = 1 ∨ x.kind = 2) (hm : lvD d m = true) (j : Nat) (t : Bool) : (liD (putDoc (addIn d x) (free d) m b false) j t).length ≤ 13 := by
  unfold liD
  rw [make_nd h hk hm]
  split
  · cases t
    · show (insertAt (nd d m).kids _ _).length ≤ 13
      rw [len_insertAt]
      have := h.small m false
      unfold liD at this
      simp only [listOf, Bool.false_eq_true, if_false] at this
      omega
    · have := h.small m true
      unfold liD at this
      simp only [listOf, if_true] at this ⊢
      omega
  · split
    · unfold newNd
      split <;> (cases t <;> simp [listOf, zero])
    · have := h.small j t
      unfold liD at this
      omega

theorem make_tame (h : Tn.Good d) (hk : x.kind = 1 ∨ x.kind = 2) (hm : lvD d m = true) : Tame (putDoc (addIn d x) (free d) m b false) := by
  obtain ⟨r, hr, hR⟩ := h.tr
  obtain ⟨hf1, hf2⟩ := free_spec d
  have hf0 : free d ≠ 0 := fun e => by rw [e, hr.1.root] at hf2; cases hf2
  have hmk : m ≠ free d := fun e => by rw [e, hf2] at hm; cases hm
  have hlen := h.len
  refine tame_of (make_TrD h hr hk hm) (fun k hk' => ?_) ?_ (by rw [make_len h hk hm]; omega)
  · by_cases e : k = free d
    · rw [if_pos e]
      have := hR m hm
      omega
    · rw [if_neg e]
      have hkd : lvD d k = true := by
        unfold lvD at hk' ⊢
        rw [make_nd h hk hm] at hk'
        by_cases e2 : k = m
        · rw [e2]; exact hm
        · rw [if_neg e2, if_neg e] at hk'; exact hk'
      have := hR k hkd
      omega
  · rw [make_nd h hk hm]
    by_cases e : 0 = m
    · rw [if_pos e]
      show (nd d m).up = -1
      rw [← e]
      exact h.rootUp
    · rw [if_neg e, if_neg (fun e2 => hf0 e2.symm)]
      exact h.rootUp

/-- a document that ends with a live node stays as it is -/
theorem trim_same {d : Dc} (h0 : 0 < d.length) (hl : lvD d (d.length - 1) = true) : trimD d = d := by
  unfold trimD
  obtain ⟨n, e⟩ : ∃ n, d.length = n + 1 := ⟨d.length - 1, by omega⟩
  have hl' : (nd d n).live = true := by
    unfold lvD at hl
    rw [e] at hl
    exact hl
  rw [e, last_here d n hl', ← e, List.take_length]

theorem trim_zero {d : Dc} (h0 : 0 < d.length) (hl : lvD d (d.length - 1) = true) : trimD (d ++ [zero]) = d := by
  unfold trimD
  have hlen : (d ++ [zero]).length = d.length + 1 := by simp
  have hnd : ∀ j, j < d.length → nd (d ++ [zero]) j = nd d j := by
    intro j hj
    unfold nd
    rw [List.getElem?_append_left hj]
  have hz : nd (d ++ [zero]) d.length = zero := by
    unfold nd
    rw [List.getElem?_append_right (Nat.le_refl _)]
    simp
  rw [hlen, lastLive, hz]
  simp only [zero, Bool.false_eq_true, false_and, if_false]
  obtain ⟨n, e⟩ : ∃ n, d.length = n + 1 := ⟨d.length - 1, by omega⟩
  have hl' : (nd (d ++ [zero]) n).live = true := by
    rw [hnd n (by omega)]
    unfold lvD at hl
    rw [e] at hl
    exact hl
  have := last_here (d ++ [zero]) n hl'
  rw [e]
  unfold zero at this
  rw [this, ← e]
  simp

theorem make_last (h : Tn.Good d) (hk : x.kind = 1 ∨ x.kind = 2) (hm : lvD d m = true) : trimD (putDoc (addIn d x) (free d) m b false) = putDoc (addIn d x) (free d) m b false := by
  obtain ⟨hf1, hf2⟩ := free_spec d
  have hlen := make_len (b := b) h hk hm
  have h0 := h.len
  refine trim_same (by rw [hlen]; omega) ?_
  rw [hlen]
  by_cases e : free d = d.length
  · rw [show max d.length (free d + 1) - 1 = free d by omega]
    exact make_lv h hk hm
  · rw [show max d.length (free d + 1) - 1 = d.length - 1 by omega]
    have hl := h.last
    unfold lvD at hl ⊢
    rw [make_nd h hk hm]
    by_cases e2 : d.length - 1 = m
    · rw [if_pos e2]; exact hm
    · rw [if_neg e2]
      by_cases e3 : d.length - 1 = free d
      · unfold lvD at hf2
        rw [← e3, hl] at hf2
        cases hf2
      · rw [if_neg e3]; exact hl

/-- what was made, taken out of its list again -/
theorem taken_nd (h : Tn.Good d) (hk : x.kind = 1 ∨ x.kind = 2) (hm : lvD d m = true) (j : Nat) :
    nd (moveIn (putDoc (addIn d x) (free d) m b false) (free d)) j = if j = free d then { newNd x with up := (m : Int), inS := false } else nd d j := by
  obtain ⟨hf1, hf2⟩ := free_spec d
  obtain ⟨r, hr, _⟩ := h.tr
  have hmk : m ≠ free d := fun e => by rw [e, hf2] at hm; cases hm
  have hml := lv_lt hm
  have hnk : nd (putDoc (addIn d x) (free d) m b false) (free d) = { newNd x with up := (m : Int), inS := false } := by
    rw [make_nd h hk hm, if_neg (fun e => hmk e.symm), if_pos rfl]
  have hup : upD (putDoc (addIn d x) (free d) m b false) (free d) = m := by
    unfold upD
    rw [hnk]
    simp
  unfold moveIn takeS
  rw [hup, hnk, nd_setL _ _ _ (by rw [make_len h hk hm]; omega)]
  have hno : free d ∉ (nd d m).kids := fun hmem => by
    have := (hr.1.mem m false (free d) hmem).2.1
    rw [hf2] at this
    cases this
  by_cases e : j = m
  · rw [if_pos e, if_neg (fun e2 => hmk (by rw [← e, e2])), e]
    rw [make_nd h hk hm, if_pos rfl]
    unfold setList listOf insertAt
    simp only [Bool.false_eq_true, if_false]
    have hflt : ∀ l : List Nat, free d ∉ l → l.filter (fun k => !(k == free d)) = l := by
      intro l hl
      rw [List.filter_eq_self]
      intro a ha
      simp
      intro e
      rw [e] at ha
      exact hl ha
    rw [List.filter_append, List.filter_append]
    have h1 : ([free d] : List Nat).filter (fun k => !(k == free d)) = [] := by simp
    rw [h1, List.append_nil, ← List.filter_append, List.take_append_drop, hflt _ hno]
  · rw [if_neg e]
    rw [make_nd h hk hm, if_neg e]

theorem taken_len (h : Tn.Good d) (hk : x.kind = 1 ∨ x.kind = 2) (hm : lvD d m = true) : (moveIn (putDoc (addIn d x) (free d) m b false) (free d)).length = max d.length (free d + 1) := by
  unfold moveIn takeS
  rw [List.length_set, make_len h hk hm]

theorem taken_all (h : Tn.Good d) (hk : x.kind = 1 ∨ x.kind = 2) (hm : lvD d m = true) : all fuel (moveIn (putDoc (addIn d x) (free d) m b false) (free d)) (free d) = [free d] := by
  have hn := taken_nd (b := b) h hk hm (free d)
  rw [if_pos rfl] at hn
  have hl := taken_len (b := b) h hk hm
  have hi : isN (moveIn (putDoc (addIn d x) (free d) m b false) (free d)) (free d : Int) false = true := by
    unfold isN
    rw [hl, Int.toNat_natCast, hn]
    have : (newNd x).live = true := by unfold newNd; split <;> rfl
    simp [this]
    omega
  have k1 : (newNd x).kids = [] := by unfold newNd; split <;> rfl
  have k2 : (newNd x).shadow = [] := by unfold newNd; split <;> rfl
  show all (63 + 1) _ _ = _
  rw [all, if_pos hi, hn]
  show free d :: ((newNd x).shadow.flatMap _ ++ (newNd x).kids.flatMap _) = _
  rw [k1, k2]
  rfl

theorem unmade (h : Tn.Good d) (hk : x.kind = 1 ∨ x.kind = 2) (hm : lvD d m = true) : trimD (killD (all fuel (moveIn (putDoc (addIn d x) (free d) m b false) (free d)) (free d)) (moveIn (putDoc (addIn d x) (free d) m b false) (free d))) = d := by
  obtain ⟨hf1, hf2⟩ := free_spec d
  have h0 := h.len
  have hl := taken_len (b := b) h hk hm
  rw [taken_all h hk hm]
  have hnd : ∀ j, nd (killD [free d] (moveIn (putDoc (addIn d x) (free d) m b false) (free d))) j = nd d j := by
    intro j
    show nd (List.set _ (free d) zero) j = _
    rw [nd_setL _ _ _ (by rw [hl]; omega), taken_nd h hk hm]
    by_cases e : j = free d
    · rw [if_pos e, e, h.dead _ hf2]
    · rw [if_neg e, if_neg e]
  have hkl : (killD [free d] (moveIn (putDoc (addIn d x) (free d) m b false) (free d))).length = max d.length (free d + 1) := by
    rw [killD_len, hl]
  by_cases e : free d = d.length
  · have : killD [free d] (moveIn (putDoc (addIn d x) (free d) m b false) (free d)) = d ++ [zero] := by
      refine doc_ext (by rw [hkl]; simp; omega) fun j => ?_
      rw [hnd]
      unfold nd
      by_cases hj : j < d.length
      · rw [List.getElem?_append_left hj]
      · rw [List.getElem?_eq_none (by omega), List.getElem?_append_right (by omega)]
        cases hjj : j - d.length with
        | zero => simp
        | succ n => simp
    rw [this]
    exact trim_zero h0.1 h.last
  · have : killD [free d] (moveIn (putDoc (addIn d x) (free d) m b false) (free d)) = d := doc_ext (by rw [hkl]; omega) hnd
    rw [this]
    exact trim_same h0.1 h.last
end Go.Proofs.Ytookcjdibpccpaa

/-
  WHAT dom.change makes of documents of the call's own: a node is made; and goes again.
-/
namespace Go.Proofs.Ytookcjdibpccpaa
open Go.RowKit

/-- the error of what is made -/
def makeCode (d : Tn.Dc) (x : Tn.Chg) (m : Nat) : Int := if Tn.isN d (m : Int) true = true then addCode d x m x.before false else 8

theorem chs_make {d : Tn.Dc} (h : Tn.Good d) {m : Nat} (hm : Tn.lvD d m = true) (kd tt bf : Int) (nm vl : ByteArray) (hkd : kd = 1 ∨ kd = 2) (hnm : nm.size ≤ 4194304) (hvl : vl.size ≤ 4194304) :
    Chs d ⟨kd, (m : Int), tt, bf, nm, vl⟩ (makeCode d ⟨kd, (m : Int), tt, bf, nm, vl⟩ m) (Tn.free d : Int) (putDoc (addIn d ⟨kd, (m : Int), tt, bf, nm, vl⟩) (Tn.free d) m bf false) := by
  intro B W g c rs hB hO
  have hl := hO.len
  have hlen := h.len
  have hml := Tn.lv_lt hm
  refine (dchange_make hO hB (by omega) kd hkd tt bf nm vl hnm hvl (m := m) (by omega) (fun s => ?_) (fun _ _ _ _ => ⟨make_tame h hkd hm, fun j t => ?_, make_lv h hkd hm⟩)).mono ?_
  · rw [li_addIn h]
    have := h.small m s
    omega
  · have := make_li (x := ⟨kd, (m : Int), tt, bf, nm, vl⟩) (b := bf) h hkd hm j t
    omega
  · rintro e w' ⟨dv, nv, cd, e1, e2, e3, e4⟩
    refine ⟨dv, nv, ?_, e2, ?_⟩
    · rw [e1, e3]; rfl
    · intro h0
      have : cd = 0 := by rw [e3]; exact h0
      obtain ⟨q1, g', c', rs', q2, q3⟩ := e4 this
      exact ⟨q1, g', c', rs', q2, q3⟩

theorem moveIn_tame {d : Tn.Dc} (h : Tame d) {n u : Nat} (hu : Tn.upD d n = u) (hul : u < d.length) : Tame (moveIn d n) ∧ (∀ j s, (Tn.liD (moveIn d n) j s).Sublist (Tn.liD d j s)) ∧ (∀ j, Tn.lvD (moveIn d n) j = Tn.lvD d j) ∧ (moveIn d n).length = d.length := by
  have hnd : ∀ j, Tn.nd (moveIn d n) j = if j = u then Tn.setList (Tn.nd d u) (Tn.nd d n).inS ((Tn.listOf (Tn.nd d u) (Tn.nd d n).inS).filter fun k => !(k == n)) else Tn.nd d j := by
    intro j
    unfold moveIn takeS
    rw [hu]
    exact nd_setL _ _ _ hul j
  have hl : (moveIn d n).length = d.length := by unfold moveIn takeS; rw [List.length_set]
  have hsl : ∀ (a : Tn.Nd) (s : Bool) (l : List Nat), (Tn.setList a s l).live = a.live ∧ (Tn.setList a s l).up = a.up := by
    intro a s l
    unfold Tn.setList
    cases s <;> exact ⟨rfl, rfl⟩
  have hv : ∀ k, (Tn.nd (moveIn d n) k).live = (Tn.nd d k).live := by
    intro k
    rw [hnd]
    split
    · rename_i e; rw [(hsl _ _ _).1, e]
    · rfl
  have hup : ∀ k, (Tn.nd (moveIn d n) k).up = (Tn.nd d k).up := by
    intro k
    rw [hnd]
    split
    · rename_i e; rw [(hsl _ _ _).2, e]
    · rfl
  have hs : ∀ j s, (Tn.liD (moveIn d n) j s).Sublist (Tn.liD d j s) := by
    intro j s
    unfold Tn.liD
    rw [hnd]
    split
    · rename_i e
      rw [e]
      unfold Tn.setList Tn.listOf
      cases s <;> cases (Tn.nd d n).inS <;> simp
    · exact List.Sublist.refl _
  exact ⟨tame_sub h hl hv hup hs, hs, hv, hl⟩

theorem chs_unmake {d : Tn.Dc} (h : Tn.Good d) {x : Tn.Chg} {m : Nat} {b : Int} (hm : Tn.lvD d m = true) (hkd : x.kind = 1 ∨ x.kind = 2) (tt bf : Int) (nm vl : ByteArray) :
    Chs (putDoc (addIn d x) (Tn.free d) m b false) ⟨4, (Tn.free d : Int), tt, bf, nm, vl⟩ 0 (Tn.free d : Int) (killD (Tn.all Tn.fuel (moveIn (putDoc (addIn d x) (Tn.free d) m b false) (Tn.free d)) (Tn.free d)) (moveIn (putDoc (addIn d x) (Tn.free d) m b false) (Tn.free d))) := by
  intro B W g c rs hB hO
  obtain ⟨hf1, hf2⟩ := Tn.free_spec d
  obtain ⟨r, hr, _⟩ := h.tr
  have hl := hO.len
  have hlen := make_len (x := x) (b := b) h hkd hm
  have hml := Tn.lv_lt hm
  have hf0 : Tn.free d ≠ 0 := fun e => by rw [e, hr.1.root] at hf2; cases hf2
  have hmk : m ≠ Tn.free d := fun e => by rw [e, hf2] at hm; cases hm
  have hup : (Tn.nd (putDoc (addIn d x) (Tn.free d) m b false) (Tn.free d)).up = (m : Int) := by
    rw [make_nd h hkd hm, if_neg (fun e => hmk e.symm), if_pos rfl]
  have hT := moveIn_tame (make_tame (x := x) (b := b) h hkd hm) (n := Tn.free d) (u := m) (by unfold Tn.upD; rw [hup]; simp) (by omega)
  refine (dchange_remove hO hB tt bf nm vl (m := Tn.free d) (by omega) hf0 ⟨m, hup, by omega⟩ (fun j s => ?_) ⟨hT.1, fun j s => ?_, ?_⟩ (fun k hk => ?_)).mono ?_
  · have := make_li (x := x) (b := b) h hkd hm j s
    omega
  · have h1 := (hT.2.1 j s).length_le
    have := make_li (x := x) (b := b) h hkd hm j s
    omega
  · rw [hT.2.2.1]
    exact make_lv h hkd hm
  · rw [taken_all h hkd hm] at hk
    simp at hk
    omega
  · rintro e w' ⟨rs', e1, e2, e3⟩
    exact ⟨_, _, e1, e2, fun _ => ⟨rfl, g, c, rs', rfl, e3⟩⟩
end Go.Proofs.Ytookcjdibpccpaa

/-
  PLAIN MATHEMATICS: a node moves; and back.
-/
namespace Go.Proofs.Ytookcjdibpccpaa
open Tn

variable {d : Dc} {n t : Nat} {b : Int}

theorem set_other (a : Nd) (s : Bool) (l : List Nat) : (setList a s l).live = a.live ∧ (setList a s l).up = a.up ∧ (setList a s l).inS = a.inS ∧ (setList a s l).attrs = a.attrs ∧ (setList a s l).tag = a.tag := by
  unfold setList
  cases s <;> exact ⟨rfl, rfl, rfl, rfl, rfl⟩

theorem up_live (h : Tn.Good d) (hn0 : 0 < n) (hn : lvD d n = true) : lvD d (upD d n) = true ∧ upD d n ≠ n ∧ (nd d n).up = ((upD d n : Nat) : Int) := by
  obtain ⟨r, hr, _⟩ := h.tr
  refine ⟨hr.1.upLive hn0 hn, fun e => ?_, ?_⟩
  · have := hr.1.rank n hn0 hn
    rw [e] at this
    omega
  · have := hr.2 n hn0 hn
    unfold upD
    omega

theorem mv_nd (h : Tn.Good d) (hn0 : 0 < n) (hn : lvD d n = true) (j : Nat) : nd (moveIn d n) j = if j = upD d n then setList (nd d (upD d n)) (nd d n).inS ((listOf (nd d (upD d n)) (nd d n).inS).filter fun k => !(k == n)) else nd d j := by
  unfold moveIn takeS
  exact nd_setL _ _ _ (lv_lt (up_live h hn0 hn).1) j

theorem mv_len : (moveIn d n).length = d.length := by unfold moveIn takeS; rw [List.length_set]

/-- behind put of a node that stands in no list -/
theorem put_nd {d : Dc} {n t : Nat} {b : Int} (hn : n < d.length) (ht : t < d.length) (hne : t ≠ n) (j : Nat) : nd (putDoc d n t b false) j = if j = n then { nd d n with up := (t : Int), inS := false } else if j = t then { nd d t with kids := insertAt (nd d t).kids (putAt (nd d t).kids b).toNat n } else nd d j := by
  have hpi : ∀ i, nd (putIn d n t b false) i = if i = t then { nd d t with kids := insertAt (nd d t).kids (putAt (nd d t).kids b).toNat n } else nd d i := by
    intro i
    unfold putIn
    exact nd_setL _ _ _ ht i
  have hpn : nd (putIn d n t b false) n = nd d n := by rw [hpi n, if_neg (fun e => hne e.symm)]
  unfold putDoc
  rw [nd_setL _ _ _ (by unfold putIn; rw [List.length_set]; exact hn), hpn, hpi]
theorem put_len {d : Dc} {n t : Nat} {b : Int} : (putDoc d n t b false).length = d.length := by unfold putDoc putIn; rw [List.length_set, List.length_set]

theorem filter_same {l : List Nat} (h : n ∉ l) : l.filter (fun k => !(k == n)) = l := by
  rw [List.filter_eq_self]
  intro a ha
  simp
  intro e
  rw [e] at ha
  exact h ha
theorem without_same {l : List Nat} (h : n ∉ l) : without l n = l := filter_same h

theorem in_one (h : Tn.Good d) {j : Nat} {s : Bool} (hm : n ∈ liD d j s) : j = upD d n ∧ s = (nd d n).inS := by
  obtain ⟨r, hr, _⟩ := h.tr
  have := hr.1.mem j s n hm
  exact ⟨this.2.2.2.1.symm, this.2.2.2.2.symm⟩

/-- what dom makes of a move is what the reference makes -/
theorem put_move (h : Tn.Good d) (hn0 : 0 < n) (hn : lvD d n = true) (ht : lvD d t = true) (hne : t ≠ n) :
    putDoc (moveIn d n) n t b false = put1 (withd (takeD d n) n { nd d n with up := (t : Int), inS := false }) n t b false := by
  obtain ⟨r, hr, _⟩ := h.tr
  obtain ⟨hu1, hu2, hu3⟩ := up_live h hn0 hn
  have hul := lv_lt hu1
  have hnl := lv_lt hn
  have htl := lv_lt ht
  have htu : (nd d n).up.toNat = upD d n := rfl
  have hlt : (takeD d n).length = d.length := by
    unfold takeD
    rw [htu, len_withd _ _ _ (Nat.le_of_lt hul)]
    omega
  have htk : ∀ j, nd (takeD d n) j = if j = upD d n then { nd d (upD d n) with kids := without (nd d (upD d n)).kids n, shadow := without (nd d (upD d n)).shadow n } else nd d j := by
    intro j
    unfold takeD
    rw [htu]
    exact nd_withd _ _ _ (Nat.le_of_lt hul) j
  have hsame : ∀ j, nd (takeD d n) j = nd (moveIn d n) j := by
    intro j
    rw [htk, mv_nd h hn0 hn]
    split
    · unfold setList listOf
      cases hs : (nd d n).inS with
      | false =>
        have : n ∉ (nd d (upD d n)).shadow := fun hm => by
          have := (in_one h (j := upD d n) (s := true) hm).2
          rw [hs] at this
          cases this
        simp only [Bool.false_eq_true, if_false]
        rw [without_same this]
        rfl
      | true =>
        have : n ∉ (nd d (upD d n)).kids := fun hm => by
          have := (in_one h (j := upD d n) (s := false) hm).2
          rw [hs] at this
          cases this
        simp only [if_true]
        rw [without_same this]
        rfl
    · rfl
  have hd2 : ∀ j, nd (withd (takeD d n) n { nd d n with up := (t : Int), inS := false }) j = if j = n then { nd d n with up := (t : Int), inS := false } else nd (moveIn d n) j := by
    intro j
    rw [nd_withd _ _ _ (by rw [hlt]; omega), hsame]
  have hl2 : (withd (takeD d n) n { nd d n with up := (t : Int), inS := false }).length = d.length := by
    rw [len_withd _ _ _ (by rw [hlt]; omega), hlt]
    omega
  have hnn : nd (moveIn d n) n = nd d n := by rw [mv_nd h hn0 hn, if_neg (fun e => hu2 e.symm)]
  have hnd : (nd (moveIn d n) t).kids.Nodup := by
    rw [mv_nd h hn0 hn]
    split
    · rename_i e
      unfold setList listOf
      cases (nd d n).inS with
      | false =>
        simp only [Bool.false_eq_true, if_false]
        exact (hr.1.nodup (upD d n) false).sublist List.filter_sublist
      | true => exact hr.1.nodup (upD d n) false
    · exact hr.1.nodup t false
  refine doc_ext ?_ fun j => ?_
  · rw [put1_len _ _ _ _ _ (by rw [hl2]; exact htl), hl2, put_len, mv_len]
  · rw [put_nd (by rw [mv_len]; exact hnl) (by rw [mv_len]; exact htl) hne, put1_nd _ _ _ _ _ (by rw [hl2]; exact htl), hd2, hd2, if_neg hne, hnn]
    unfold setList listOf
    simp only [Bool.false_eq_true, if_false]
    rw [place_putAt hnd]
    by_cases e : j = n
    · rw [if_pos e, if_neg (fun e2 => hne (by rw [← e2, e])), if_pos e]
    · rw [if_neg e, if_neg e]

theorem within_ne (h : Tn.Good d) (ht : lvD d t = true) (hw : within d (t : Int) (n : Int) = false) : t ≠ n := by
  obtain ⟨r, hr, _⟩ := h.tr
  have := (within_desc hr ht h.rootUp n).mp hw
  intro e
  exact this (by rw [e]; exact desc_refl _)

theorem moved_tame (h : Tn.Good d) (hn0 : 0 < n) (hn : lvD d n = true) (ht : lvD d t = true) (hw : within d (t : Int) (n : Int) = false) : Tame (putDoc (moveIn d n) n t b false) := by
  obtain ⟨r, hr, hR⟩ := h.tr
  have hne := within_ne h ht hw
  have hnd := (within_desc hr ht h.rootUp n).mp hw
  have hT := move_tr hr hn0 hn ht hnd (off_move h hn0 hn (t := t)) b
  rw [← put_move h hn0 hn ht hne] at hT
  have hlen := h.len
  have hnl := lv_lt hn
  have htl := lv_lt ht
  have hu := up_live h hn0 hn
  have hlv : ∀ j, lvD (putDoc (moveIn d n) n t b false) j = lvD d j := by
    intro j
    unfold lvD
    have hmv : ∀ i, (nd (moveIn d n) i).live = (nd d i).live := by
      intro i
      rw [mv_nd h hn0 hn]
      split
      · rename_i e; rw [(set_other _ _ _).1, e]
      · rfl
    rw [put_nd (by rw [mv_len]; exact hnl) (by rw [mv_len]; exact htl) hne]
    split
    · rename_i e; rw [e]; exact hmv n
    · split
      · rename_i e; rw [e]; exact hmv t
      · exact hmv j
  refine tame_of hT (fun k hk => ?_) ?_ (by rw [put_len, mv_len]; omega)
  · rw [hlv] at hk
    have h1 := hR k hk
    have h2 := hR t ht
    split <;> omega
  · rw [put_nd (by rw [mv_len]; exact hnl) (by rw [mv_len]; exact htl) hne, if_neg (by omega)]
    have h0 : (nd (moveIn d n) 0).up = -1 := by
      rw [mv_nd h hn0 hn]
      split
      · rename_i e; rw [(set_other _ _ _).2.1, ← e]; exact h.rootUp
      · exact h.rootUp
    split
    · rename_i e
      show (nd (moveIn d n) t).up = -1
      rw [← e]
      exact h0
    · exact h0

theorem mv_live (h : Tn.Good d) (hn0 : 0 < n) (hn : lvD d n = true) (j : Nat) : (nd (moveIn d n) j).live = (nd d j).live := by
  rw [mv_nd h hn0 hn]
  split
  · rename_i e; rw [(set_other _ _ _).1, e]
  · rfl

theorem moved_lv (h : Tn.Good d) (hn0 : 0 < n) (hn : lvD d n = true) (ht : lvD d t = true) (hne : t ≠ n) (j : Nat) : lvD (putDoc (moveIn d n) n t b false) j = lvD d j := by
  unfold lvD
  rw [put_nd (by rw [mv_len]; exact lv_lt hn) (by rw [mv_len]; exact lv_lt ht) hne]
  split
  · rename_i e; rw [e]; exact mv_live h hn0 hn n
  · split
    · rename_i e; rw [e]; exact mv_live h hn0 hn t
    · exact mv_live h hn0 hn j

theorem mv_li (h : Tn.Good d) (hn0 : 0 < n) (hn : lvD d n = true) (j : Nat) (s : Bool) : (liD (moveIn d n) j s).length ≤ 12 := by
  have h12 := h.small j s
  unfold liD at h12 ⊢
  rw [mv_nd h hn0 hn]
  split
  · rename_i e
    rw [e] at h12
    unfold setList listOf at *
    cases s <;> cases (nd d n).inS <;> simp only [Bool.false_eq_true, if_false, if_true] at h12 ⊢
    · exact Nat.le_trans (List.length_filter_le _ _) h12
    · exact h12
    · exact h12
    · exact Nat.le_trans (List.length_filter_le _ _) h12
  · exact h12

theorem moved_li (h : Tn.Good d) (hn0 : 0 < n) (hn : lvD d n = true) (ht : lvD d t = true) (hne : t ≠ n) (j : Nat) (s : Bool) : (liD (putDoc (moveIn d n) n t b false) j s).length ≤ 13 := by
  have hm := fun j s => mv_li h hn0 hn (d := d) j s
  unfold liD at hm ⊢
  rw [put_nd (by rw [mv_len]; exact lv_lt hn) (by rw [mv_len]; exact lv_lt ht) hne]
  split
  · have := hm n s
    unfold listOf at this ⊢
    cases s <;> simp only [Bool.false_eq_true, if_false, if_true] at this ⊢ <;> omega
  · split
    · have := hm t s
      unfold listOf at this ⊢
      cases s <;> simp only [Bool.false_eq_true, if_false, if_true] at this ⊢
      · rw [len_insertAt]; omega
      · omega
    · have := hm j s
      omega

theorem moved_last (h : Tn.Good d) (hn0 : 0 < n) (hn : lvD d n = true) (ht : lvD d t = true) (hne : t ≠ n) : trimD (putDoc (moveIn d n) n t b false) = putDoc (moveIn d n) n t b false := by
  have hl : (putDoc (moveIn d n) n t b false).length = d.length := by rw [put_len, mv_len]
  refine trim_same (by rw [hl]; exact h.len.1) ?_
  rw [hl, moved_lv h hn0 hn ht hne]
  exact h.last
end Go.Proofs.Ytookcjdibpccpaa
