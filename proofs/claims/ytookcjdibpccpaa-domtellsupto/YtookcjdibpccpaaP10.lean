/-
  OWN WORK: Dcx, Opu, Dfr, Da0, Dae, Daf.
-/
import Derived.Test.YtookcjdibpccpaaP9
import Derived.Deep.RegionHeld3
import Derived.Test.YtookcjdibpccpaaP8
/-
  THE WALKS of dom.change, in a document of the call's own: an attribute is set, one goes, a text, a shadow tree; the root does not go.
-/
namespace Go.Proofs.Ytookcjdibpccpaa
open Go.RowKit

set_option maxHeartbeats 400000 in
set_option maxRecDepth 100000 in
theorem dchange_attr5 {w : World} {B g c : Nat} {rs : List Raw} {d : Tn.Dc} (h : Owned w B g c rs d) (hB : B ≤ w.heap.size) (tt bf : Int) (nm vl : ByteArray) {m : Nat} (hm : m < rs.length) (hrl : rs.length ≤ 900) (hr : Rising (Tn.nd d m).attrs) (h8 : (Tn.nd d m).attrs.length ≤ 8) (hnm : nm.size ≤ 4194304) (hvl : vl.size ≤ 4194304) :
    Calls Try.prog 57 #[.slice (some ⟨g, 0, none⟩) rs.length c, chg6 ⟨5, (m : Int), tt, bf, nm, vl⟩] w fun e w' => ∃ dv nv cd, e = .returned (.tuple #[dv, .int .i64 nv, .int .i64 cd]) ∧ Below B w w' ∧ cd = (if Tn.isN d (m : Int) true = true then setE (Tn.nd d m).attrs nm vl else 8) ∧ (cd = 0 → nv = (m : Int) ∧ ∃ (g' c' : Nat) (rs' : List Raw), dv = .slice (some ⟨g', 0, none⟩) rs'.length c' ∧ Owned w' B g' c' rs' (d.set m { Tn.nd d m with attrs := Tn.attrsD (Tn.nd d m).attrs nm vl })) := by
  have W0 : Below w.heap.size w (w.alloc (.cells #[.int .i64 5, .int .i64 (m : Int), .int .i64 tt, .int .i64 bf, .string nm, .string vl] 32)) := (Below.refl _ _).alloc (Nat.le_refl _) _
  have W1 : Below w.heap.size w (w.alloc (.cells #[.int .i64 5, .int .i64 (m : Int), .int .i64 tt, .int .i64 bf, .string nm, .string vl] 32)).drew := W0.drew
  have O1 := h.below W1 (Nat.le_refl _)
  have HD : Hid (DocAt (w.alloc (.cells #[.int .i64 5, .int .i64 (m : Int), .int .i64 tt, .int .i64 bf, .string nm, .string vl] 32)) g 0 c rs d) := (h.below W0 (Nat.le_refl _)).doc (by omega)
  have HB1 : Hid (Below B w (w.alloc (.cells #[.int .i64 5, .int .i64 (m : Int), .int .i64 tt, .int .i64 bf, .string nm, .string vl] 32))) := (Below.refl B w).alloc hB _
  have S0 : (fun w'' : World => w''.cell? ⟨w.heap.size, 0, none⟩ = some (.int .i64 5) ∧ w''.cell? ⟨w.heap.size, 1, none⟩ = some (.int .i64 (m : Int)) ∧ w''.cell? ⟨w.heap.size, 2, none⟩ = some (.int .i64 tt) ∧ w''.cell? ⟨w.heap.size, 3, none⟩ = some (.int .i64 bf) ∧ w''.cell? ⟨w.heap.size, 4, none⟩ = some (.string nm) ∧ w''.cell? ⟨w.heap.size, 5, none⟩ = some (.string vl)) (w.alloc (.cells #[.int .i64 5, .int .i64 (m : Int), .int .i64 tt, .int .i64 bf, .string nm, .string vl] 32)) := by
    refine ⟨?_, ?_, ?_, ?_, ?_, ?_⟩ <;> (rw [World.cell?_alloc_new]; rfl)
  have HA : Hid (Calls Try.prog 70 #[.pointer (some ⟨g, m * 9, none⟩), .string nm, .string vl] (w.alloc (.cells #[.int .i64 5, .int .i64 (m : Int), .int .i64 tt, .int .i64 bf, .string nm, .string vl] 32)).drew fun e w' => e = .returned (.int .i64 (setE (Tn.nd d m).attrs nm vl)) ∧ Below B w w' ∧ (fun w'' : World => w''.cell? ⟨w.heap.size, 0, none⟩ = some (.int .i64 5) ∧ w''.cell? ⟨w.heap.size, 1, none⟩ = some (.int .i64 (m : Int)) ∧ w''.cell? ⟨w.heap.size, 2, none⟩ = some (.int .i64 tt) ∧ w''.cell? ⟨w.heap.size, 3, none⟩ = some (.int .i64 bf) ∧ w''.cell? ⟨w.heap.size, 4, none⟩ = some (.string nm) ∧ w''.cell? ⟨w.heap.size, 5, none⟩ = some (.string vl)) w' ∧ Hid (setE (Tn.nd d m).attrs nm vl = 0 → ∃ rs' : List Raw, rs'.length = rs.length ∧ Owned w' B g c rs' (d.set m { Tn.nd d m with attrs := Tn.attrsD (Tn.nd d m).attrs nm vl }))) := by
    refine (dsetattr_any O1 (Nat.le_trans hB W1.size) hm hr h8 nm vl hnm hvl).mono ?_
    rintro e w' ⟨e1, e2, e3, e4⟩
    have nf := h.free (by omega) (Nat.le_refl _)
    have kc : ∀ j v, (w.alloc (.cells #[.int .i64 5, .int .i64 (m : Int), .int .i64 tt, .int .i64 bf, .string nm, .string vl] 32)).cell? ⟨w.heap.size, j, none⟩ = some v → w'.cell? ⟨w.heap.size, j, none⟩ = some v := fun j v hv => e4.cell (p := ⟨w.heap.size, j, none⟩) (by rw [World.cell?_drew]; exact hv) nf
    obtain ⟨s0, s1, s2, s3, s4, s5⟩ := S0
    refine ⟨e1, ((Below.refl B w).alloc hB _).drew.trans e2, ⟨kc _ _ s0, kc _ _ s1, kc _ _ s2, kc _ _ s3, kc _ _ s4, kc _ _ s5⟩, fun hc => ?_⟩
    obtain ⟨rs', q1, q2, _⟩ := e3 hc
    exact ⟨rs', q1, q2⟩
  clear W0 W1 O1 h
  generalize setE (Tn.nd d m).attrs nm vl = cd0 at *
  generalize d.set m { Tn.nd d m with attrs := Tn.attrsD (Tn.nd d m).attrs nm vl } = d' at *
  cases hi : Tn.isN d (m : Int) true with
  | true =>
    unfold chg6
    simp only
    go_enter Try.func57, Try.ntmps57
    go_wp2_with fail
    refine (dis_any HD.out (m : Int) true).mono ?_
    rintro e w1 ⟨rfl, hw1⟩
    subst hw1
    rw [hi]
    go_wp2_with fail
    have SS : ∀ w'', Keeps (w.alloc (.cells #[.int .i64 5, .int .i64 (m : Int), .int .i64 tt, .int .i64 bf, .string nm, .string vl] 32)) w'' → (fun w'' : World => w''.cell? ⟨w.heap.size, 0, none⟩ = some (.int .i64 5) ∧ w''.cell? ⟨w.heap.size, 1, none⟩ = some (.int .i64 (m : Int)) ∧ w''.cell? ⟨w.heap.size, 2, none⟩ = some (.int .i64 tt) ∧ w''.cell? ⟨w.heap.size, 3, none⟩ = some (.int .i64 bf) ∧ w''.cell? ⟨w.heap.size, 4, none⟩ = some (.string nm) ∧ w''.cell? ⟨w.heap.size, 5, none⟩ = some (.string vl)) w'' := fun w'' hk => by
      obtain ⟨s0, s1, s2, s3, s4, s5⟩ := S0
      exact ⟨hk _ _ s0, hk _ _ s1, hk _ _ s2, hk _ _ s3, hk _ _ s4, hk _ _ s5⟩
    go_region_held3 (fun w'' : World => w''.cell? ⟨w.heap.size, 0, none⟩ = some (.int .i64 5) ∧ w''.cell? ⟨w.heap.size, 1, none⟩ = some (.int .i64 (m : Int)) ∧ w''.cell? ⟨w.heap.size, 2, none⟩ = some (.int .i64 tt) ∧ w''.cell? ⟨w.heap.size, 3, none⟩ = some (.int .i64 bf) ∧ w''.cell? ⟨w.heap.size, 4, none⟩ = some (.string nm) ∧ w''.cell? ⟨w.heap.size, 5, none⟩ = some (.string vl))
      ((first | assumption | (apply SS; first | exact Keeps.refl _ | exact keeps_drew (Keeps.refl _))))
      (first
        | (go_at_call 70; refine HA.out.mono ?_; rintro e w2 ⟨rfl, b2, q2, HZ⟩))
    all_goals
      go_wp2_with fail
      go_ret3
      refine ⟨_, _, _, rfl, b2, rfl, fun hc => ?_⟩
      obtain ⟨rs', e1, e2⟩ := HZ.out hc
      exact ⟨rfl, g, c, rs', by rw [e1]; rfl, e2⟩
  | false =>
    unfold chg6
    simp only
    go_enter Try.func57, Try.ntmps57
    go_wp2_with fail
    refine (dis_any HD.out (m : Int) true).mono ?_
    rintro e w1 ⟨rfl, hw1⟩
    subst hw1
    rw [hi]
    go_wp2_with fail
    go_ret3
    exact ⟨_, _, _, rfl, HB1.out, rfl, fun h => by cases h⟩

set_option maxHeartbeats 400000 in
set_option maxRecDepth 100000 in
theorem dchange_clear6 {w : World} {B g c : Nat} {rs : List Raw} {d : Tn.Dc} (h : Owned w B g c rs d) (hB : B ≤ w.heap.size) (tt bf : Int) (nm vl : ByteArray) {m : Nat} (hm : m < rs.length) (hrl : rs.length ≤ 900) (hr : Rising (Tn.nd d m).attrs) (h8 : (Tn.nd d m).attrs.length ≤ 8) :
    Calls Try.prog 57 #[.slice (some ⟨g, 0, none⟩) rs.length c, chg6 ⟨6, (m : Int), tt, bf, nm, vl⟩] w fun e w' => ∃ dv nv cd, e = .returned (.tuple #[dv, .int .i64 nv, .int .i64 cd]) ∧ Below B w w' ∧ cd = (if Tn.isN d (m : Int) true = true then clrE (Tn.nd d m).attrs nm else 8) ∧ (cd = 0 → nv = (m : Int) ∧ ∃ (g' c' : Nat) (rs' : List Raw), dv = .slice (some ⟨g', 0, none⟩) rs'.length c' ∧ Owned w' B g' c' rs' (d.set m { Tn.nd d m with attrs := Tn.attrsOff (Tn.nd d m).attrs nm })) := by
  have W0 : Below w.heap.size w (w.alloc (.cells #[.int .i64 6, .int .i64 (m : Int), .int .i64 tt, .int .i64 bf, .string nm, .string vl] 32)) := (Below.refl _ _).alloc (Nat.le_refl _) _
  have W1 : Below w.heap.size w (w.alloc (.cells #[.int .i64 6, .int .i64 (m : Int), .int .i64 tt, .int .i64 bf, .string nm, .string vl] 32)).drew := W0.drew
  have O1 := h.below W1 (Nat.le_refl _)
  have HD : Hid (DocAt (w.alloc (.cells #[.int .i64 6, .int .i64 (m : Int), .int .i64 tt, .int .i64 bf, .string nm, .string vl] 32)) g 0 c rs d) := (h.below W0 (Nat.le_refl _)).doc (by omega)
  have HB1 : Hid (Below B w (w.alloc (.cells #[.int .i64 6, .int .i64 (m : Int), .int .i64 tt, .int .i64 bf, .string nm, .string vl] 32))) := (Below.refl B w).alloc hB _
  have S0 : (fun w'' : World => w''.cell? ⟨w.heap.size, 0, none⟩ = some (.int .i64 6) ∧ w''.cell? ⟨w.heap.size, 1, none⟩ = some (.int .i64 (m : Int)) ∧ w''.cell? ⟨w.heap.size, 2, none⟩ = some (.int .i64 tt) ∧ w''.cell? ⟨w.heap.size, 3, none⟩ = some (.int .i64 bf) ∧ w''.cell? ⟨w.heap.size, 4, none⟩ = some (.string nm) ∧ w''.cell? ⟨w.heap.size, 5, none⟩ = some (.string vl)) (w.alloc (.cells #[.int .i64 6, .int .i64 (m : Int), .int .i64 tt, .int .i64 bf, .string nm, .string vl] 32)) := by
    refine ⟨?_, ?_, ?_, ?_, ?_, ?_⟩ <;> (rw [World.cell?_alloc_new]; rfl)
  have HA : Hid (Calls Try.prog 71 #[.pointer (some ⟨g, m * 9, none⟩), .string nm] (w.alloc (.cells #[.int .i64 6, .int .i64 (m : Int), .int .i64 tt, .int .i64 bf, .string nm, .string vl] 32)).drew fun e w' => e = .returned (.int .i64 (clrE (Tn.nd d m).attrs nm)) ∧ Below B w w' ∧ (fun w'' : World => w''.cell? ⟨w.heap.size, 0, none⟩ = some (.int .i64 6) ∧ w''.cell? ⟨w.heap.size, 1, none⟩ = some (.int .i64 (m : Int)) ∧ w''.cell? ⟨w.heap.size, 2, none⟩ = some (.int .i64 tt) ∧ w''.cell? ⟨w.heap.size, 3, none⟩ = some (.int .i64 bf) ∧ w''.cell? ⟨w.heap.size, 4, none⟩ = some (.string nm) ∧ w''.cell? ⟨w.heap.size, 5, none⟩ = some (.string vl)) w' ∧ Hid (clrE (Tn.nd d m).attrs nm = 0 → ∃ rs' : List Raw, rs'.length = rs.length ∧ Owned w' B g c rs' (d.set m { Tn.nd d m with attrs := Tn.attrsOff (Tn.nd d m).attrs nm }))) := by
    refine (dclear_any O1 (Nat.le_trans hB W1.size) hm hr h8 nm).mono ?_
    rintro e w' ⟨e1, e2, e3, e4⟩
    have nf := h.free (by omega) (Nat.le_refl _)
    have kc : ∀ j v, (w.alloc (.cells #[.int .i64 6, .int .i64 (m : Int), .int .i64 tt, .int .i64 bf, .string nm, .string vl] 32)).cell? ⟨w.heap.size, j, none⟩ = some v → w'.cell? ⟨w.heap.size, j, none⟩ = some v := fun j v hv => e4.cell (p := ⟨w.heap.size, j, none⟩) (by rw [World.cell?_drew]; exact hv) nf
    obtain ⟨s0, s1, s2, s3, s4, s5⟩ := S0
    refine ⟨e1, ((Below.refl B w).alloc hB _).drew.trans e2, ⟨kc _ _ s0, kc _ _ s1, kc _ _ s2, kc _ _ s3, kc _ _ s4, kc _ _ s5⟩, fun hc => ?_⟩
    obtain ⟨rs', q1, q2, _⟩ := e3 hc
    exact ⟨rs', q1, q2⟩
  clear W0 W1 O1 h
  generalize clrE (Tn.nd d m).attrs nm = cd0 at *
  generalize d.set m { Tn.nd d m with attrs := Tn.attrsOff (Tn.nd d m).attrs nm } = d' at *
  cases hi : Tn.isN d (m : Int) true with
  | true =>
    unfold chg6
    simp only
    go_enter Try.func57, Try.ntmps57
    go_wp2_with fail
    refine (dis_any HD.out (m : Int) true).mono ?_
    rintro e w1 ⟨rfl, hw1⟩
    subst hw1
    rw [hi]
    go_wp2_with fail
    have SS : ∀ w'', Keeps (w.alloc (.cells #[.int .i64 6, .int .i64 (m : Int), .int .i64 tt, .int .i64 bf, .string nm, .string vl] 32)) w'' → (fun w'' : World => w''.cell? ⟨w.heap.size, 0, none⟩ = some (.int .i64 6) ∧ w''.cell? ⟨w.heap.size, 1, none⟩ = some (.int .i64 (m : Int)) ∧ w''.cell? ⟨w.heap.size, 2, none⟩ = some (.int .i64 tt) ∧ w''.cell? ⟨w.heap.size, 3, none⟩ = some (.int .i64 bf) ∧ w''.cell? ⟨w.heap.size, 4, none⟩ = some (.string nm) ∧ w''.cell? ⟨w.heap.size, 5, none⟩ = some (.string vl)) w'' := fun w'' hk => by
      obtain ⟨s0, s1, s2, s3, s4, s5⟩ := S0
      exact ⟨hk _ _ s0, hk _ _ s1, hk _ _ s2, hk _ _ s3, hk _ _ s4, hk _ _ s5⟩
    go_region_held3 (fun w'' : World => w''.cell? ⟨w.heap.size, 0, none⟩ = some (.int .i64 6) ∧ w''.cell? ⟨w.heap.size, 1, none⟩ = some (.int .i64 (m : Int)) ∧ w''.cell? ⟨w.heap.size, 2, none⟩ = some (.int .i64 tt) ∧ w''.cell? ⟨w.heap.size, 3, none⟩ = some (.int .i64 bf) ∧ w''.cell? ⟨w.heap.size, 4, none⟩ = some (.string nm) ∧ w''.cell? ⟨w.heap.size, 5, none⟩ = some (.string vl))
      ((first | assumption | (apply SS; first | exact Keeps.refl _ | exact keeps_drew (Keeps.refl _))))
      (first
        | (go_at_call 71; refine HA.out.mono ?_; rintro e w2 ⟨rfl, b2, q2, HZ⟩))
    all_goals
      go_wp2_with fail
      go_ret3
      refine ⟨_, _, _, rfl, b2, rfl, fun hc => ?_⟩
      obtain ⟨rs', e1, e2⟩ := HZ.out hc
      exact ⟨rfl, g, c, rs', by rw [e1]; rfl, e2⟩
  | false =>
    unfold chg6
    simp only
    go_enter Try.func57, Try.ntmps57
    go_wp2_with fail
    refine (dis_any HD.out (m : Int) true).mono ?_
    rintro e w1 ⟨rfl, hw1⟩
    subst hw1
    rw [hi]
    go_wp2_with fail
    go_ret3
    exact ⟨_, _, _, rfl, HB1.out, rfl, fun h => by cases h⟩

set_option maxHeartbeats 400000 in
set_option maxRecDepth 100000 in
theorem dchange_say7 {w : World} {B g c : Nat} {rs : List Raw} {d : Tn.Dc} (h : Owned w B g c rs d) (hB : B ≤ w.heap.size) (tt bf : Int) (nm vl : ByteArray) {m : Nat} (hm : m < rs.length) (hrl : rs.length ≤ 900) (hvl : vl.size ≤ 4194304) :
    Calls Try.prog 57 #[.slice (some ⟨g, 0, none⟩) rs.length c, chg6 ⟨7, (m : Int), tt, bf, nm, vl⟩] w fun e w' => ∃ dv nv cd, e = .returned (.tuple #[dv, .int .i64 nv, .int .i64 cd]) ∧ Below B w w' ∧ cd = (sayC (Tn.nd d m) vl) ∧ (cd = 0 → nv = (m : Int) ∧ ∃ (g' c' : Nat) (rs' : List Raw), dv = .slice (some ⟨g', 0, none⟩) rs'.length c' ∧ Owned w' B g' c' rs' (d.set m { Tn.nd d m with text := vl })) := by
  have W0 : Below w.heap.size w (w.alloc (.cells #[.int .i64 7, .int .i64 (m : Int), .int .i64 tt, .int .i64 bf, .string nm, .string vl] 32)) := (Below.refl _ _).alloc (Nat.le_refl _) _
  have W1 : Below w.heap.size w (w.alloc (.cells #[.int .i64 7, .int .i64 (m : Int), .int .i64 tt, .int .i64 bf, .string nm, .string vl] 32)).drew := W0.drew
  have O1 := h.below W1 (Nat.le_refl _)
  have HD : Hid (DocAt (w.alloc (.cells #[.int .i64 7, .int .i64 (m : Int), .int .i64 tt, .int .i64 bf, .string nm, .string vl] 32)) g 0 c rs d) := (h.below W0 (Nat.le_refl _)).doc (by omega)
  have HB1 : Hid (Below B w (w.alloc (.cells #[.int .i64 7, .int .i64 (m : Int), .int .i64 tt, .int .i64 bf, .string nm, .string vl] 32))) := (Below.refl B w).alloc hB _
  have S0 : (fun w'' : World => w''.cell? ⟨w.heap.size, 0, none⟩ = some (.int .i64 7) ∧ w''.cell? ⟨w.heap.size, 1, none⟩ = some (.int .i64 (m : Int)) ∧ w''.cell? ⟨w.heap.size, 2, none⟩ = some (.int .i64 tt) ∧ w''.cell? ⟨w.heap.size, 3, none⟩ = some (.int .i64 bf) ∧ w''.cell? ⟨w.heap.size, 4, none⟩ = some (.string nm) ∧ w''.cell? ⟨w.heap.size, 5, none⟩ = some (.string vl)) (w.alloc (.cells #[.int .i64 7, .int .i64 (m : Int), .int .i64 tt, .int .i64 bf, .string nm, .string vl] 32)) := by
    refine ⟨?_, ?_, ?_, ?_, ?_, ?_⟩ <;> (rw [World.cell?_alloc_new]; rfl)
  have HA : Hid (Calls Try.prog 69 #[.pointer (some ⟨g, m * 9, none⟩), .string vl] (w.alloc (.cells #[.int .i64 7, .int .i64 (m : Int), .int .i64 tt, .int .i64 bf, .string nm, .string vl] 32)).drew fun e w' => e = .returned (.int .i64 (sayC (Tn.nd d m) vl)) ∧ Below B w w' ∧ (fun w'' : World => w''.cell? ⟨w.heap.size, 0, none⟩ = some (.int .i64 7) ∧ w''.cell? ⟨w.heap.size, 1, none⟩ = some (.int .i64 (m : Int)) ∧ w''.cell? ⟨w.heap.size, 2, none⟩ = some (.int .i64 tt) ∧ w''.cell? ⟨w.heap.size, 3, none⟩ = some (.int .i64 bf) ∧ w''.cell? ⟨w.heap.size, 4, none⟩ = some (.string nm) ∧ w''.cell? ⟨w.heap.size, 5, none⟩ = some (.string vl)) w' ∧ Hid (sayC (Tn.nd d m) vl = 0 → ∃ rs' : List Raw, rs'.length = rs.length ∧ Owned w' B g c rs' (d.set m { Tn.nd d m with text := vl }))) := by
    refine (dsayO O1 hm vl hvl).mono ?_
    rintro e w' ⟨e1, e2, e3, e4⟩
    have nf := h.free (by omega) (Nat.le_refl _)
    have kc : ∀ j v, (w.alloc (.cells #[.int .i64 7, .int .i64 (m : Int), .int .i64 tt, .int .i64 bf, .string nm, .string vl] 32)).cell? ⟨w.heap.size, j, none⟩ = some v → w'.cell? ⟨w.heap.size, j, none⟩ = some v := fun j v hv => e4.cell (p := ⟨w.heap.size, j, none⟩) (by rw [World.cell?_drew]; exact hv) nf
    obtain ⟨s0, s1, s2, s3, s4, s5⟩ := S0
    refine ⟨e1, ((Below.refl B w).alloc hB _).drew.trans e2, ⟨kc _ _ s0, kc _ _ s1, kc _ _ s2, kc _ _ s3, kc _ _ s4, kc _ _ s5⟩, fun hc => ?_⟩
    obtain ⟨rs', q1, q2, _⟩ := e3 hc
    exact ⟨rs', q1, q2⟩
  clear W0 W1 O1 h
  generalize sayC (Tn.nd d m) vl = cd0 at *
  generalize d.set m { Tn.nd d m with text := vl } = d' at *
  unfold chg6
  simp only
  go_enter Try.func57, Try.ntmps57
  go_wp2_with fail
  have SS : ∀ w'', Keeps (w.alloc (.cells #[.int .i64 7, .int .i64 (m : Int), .int .i64 tt, .int .i64 bf, .string nm, .string vl] 32)) w'' → (fun w'' : World => w''.cell? ⟨w.heap.size, 0, none⟩ = some (.int .i64 7) ∧ w''.cell? ⟨w.heap.size, 1, none⟩ = some (.int .i64 (m : Int)) ∧ w''.cell? ⟨w.heap.size, 2, none⟩ = some (.int .i64 tt) ∧ w''.cell? ⟨w.heap.size, 3, none⟩ = some (.int .i64 bf) ∧ w''.cell? ⟨w.heap.size, 4, none⟩ = some (.string nm) ∧ w''.cell? ⟨w.heap.size, 5, none⟩ = some (.string vl)) w'' := fun w'' hk => by
    obtain ⟨s0, s1, s2, s3, s4, s5⟩ := S0
    exact ⟨hk _ _ s0, hk _ _ s1, hk _ _ s2, hk _ _ s3, hk _ _ s4, hk _ _ s5⟩
  go_region_held3 (fun w'' : World => w''.cell? ⟨w.heap.size, 0, none⟩ = some (.int .i64 7) ∧ w''.cell? ⟨w.heap.size, 1, none⟩ = some (.int .i64 (m : Int)) ∧ w''.cell? ⟨w.heap.size, 2, none⟩ = some (.int .i64 tt) ∧ w''.cell? ⟨w.heap.size, 3, none⟩ = some (.int .i64 bf) ∧ w''.cell? ⟨w.heap.size, 4, none⟩ = some (.string nm) ∧ w''.cell? ⟨w.heap.size, 5, none⟩ = some (.string vl))
    ((first | assumption | (apply SS; first | exact Keeps.refl _ | exact keeps_drew (Keeps.refl _))))
    (first
      | (go_at_call 69; refine HA.out.mono ?_; rintro e w2 ⟨rfl, b2, q2, HZ⟩))
  all_goals
    go_wp2_with fail
    go_ret3
    refine ⟨_, _, _, rfl, b2, rfl, fun hc => ?_⟩
    obtain ⟨rs', e1, e2⟩ := HZ.out hc
    exact ⟨rfl, g, c, rs', by rw [e1]; rfl, e2⟩

set_option maxHeartbeats 400000 in
set_option maxRecDepth 100000 in
theorem dchange_shad8 {w : World} {B g c : Nat} {rs : List Raw} {d : Tn.Dc} (h : Owned w B g c rs d) (hB : B ≤ w.heap.size) (tt bf : Int) (nm vl : ByteArray) {m : Nat} (hm : m < rs.length) (hrl : rs.length ≤ 900)  :
    Calls Try.prog 57 #[.slice (some ⟨g, 0, none⟩) rs.length c, chg6 ⟨8, (m : Int), tt, bf, nm, vl⟩] w fun e w' => ∃ dv nv cd, e = .returned (.tuple #[dv, .int .i64 nv, .int .i64 cd]) ∧ Below B w w' ∧ cd = (if Tn.isN d (m : Int) true = true then shadC m (Tn.nd d m) else 8) ∧ (cd = 0 → nv = (m : Int) ∧ ∃ (g' c' : Nat) (rs' : List Raw), dv = .slice (some ⟨g', 0, none⟩) rs'.length c' ∧ Owned w' B g' c' rs' (d.set m { Tn.nd d m with hasS := true })) := by
  have W0 : Below w.heap.size w (w.alloc (.cells #[.int .i64 8, .int .i64 (m : Int), .int .i64 tt, .int .i64 bf, .string nm, .string vl] 32)) := (Below.refl _ _).alloc (Nat.le_refl _) _
  have W1 : Below w.heap.size w (w.alloc (.cells #[.int .i64 8, .int .i64 (m : Int), .int .i64 tt, .int .i64 bf, .string nm, .string vl] 32)).drew := W0.drew
  have O1 := h.below W1 (Nat.le_refl _)
  have HD : Hid (DocAt (w.alloc (.cells #[.int .i64 8, .int .i64 (m : Int), .int .i64 tt, .int .i64 bf, .string nm, .string vl] 32)) g 0 c rs d) := (h.below W0 (Nat.le_refl _)).doc (by omega)
  have HB1 : Hid (Below B w (w.alloc (.cells #[.int .i64 8, .int .i64 (m : Int), .int .i64 tt, .int .i64 bf, .string nm, .string vl] 32))) := (Below.refl B w).alloc hB _
  have S0 : (fun w'' : World => w''.cell? ⟨w.heap.size, 0, none⟩ = some (.int .i64 8) ∧ w''.cell? ⟨w.heap.size, 1, none⟩ = some (.int .i64 (m : Int)) ∧ w''.cell? ⟨w.heap.size, 2, none⟩ = some (.int .i64 tt) ∧ w''.cell? ⟨w.heap.size, 3, none⟩ = some (.int .i64 bf) ∧ w''.cell? ⟨w.heap.size, 4, none⟩ = some (.string nm) ∧ w''.cell? ⟨w.heap.size, 5, none⟩ = some (.string vl)) (w.alloc (.cells #[.int .i64 8, .int .i64 (m : Int), .int .i64 tt, .int .i64 bf, .string nm, .string vl] 32)) := by
    refine ⟨?_, ?_, ?_, ?_, ?_, ?_⟩ <;> (rw [World.cell?_alloc_new]; rfl)
  have HA : Hid (Calls Try.prog 72 #[.slice (some ⟨g, 0, none⟩) rs.length c, .int .i64 (m : Int)] (w.alloc (.cells #[.int .i64 8, .int .i64 (m : Int), .int .i64 tt, .int .i64 bf, .string nm, .string vl] 32)).drew fun e w' => e = .returned (.int .i64 (shadC m (Tn.nd d m))) ∧ Below B w w' ∧ (fun w'' : World => w''.cell? ⟨w.heap.size, 0, none⟩ = some (.int .i64 8) ∧ w''.cell? ⟨w.heap.size, 1, none⟩ = some (.int .i64 (m : Int)) ∧ w''.cell? ⟨w.heap.size, 2, none⟩ = some (.int .i64 tt) ∧ w''.cell? ⟨w.heap.size, 3, none⟩ = some (.int .i64 bf) ∧ w''.cell? ⟨w.heap.size, 4, none⟩ = some (.string nm) ∧ w''.cell? ⟨w.heap.size, 5, none⟩ = some (.string vl)) w' ∧ Hid (shadC m (Tn.nd d m) = 0 → ∃ rs' : List Raw, rs'.length = rs.length ∧ Owned w' B g c rs' (d.set m { Tn.nd d m with hasS := true }))) := by
    refine (dgiveO O1 hm).mono ?_
    rintro e w' ⟨e1, e2, e3, e4⟩
    have nf := h.free (by omega) (Nat.le_refl _)
    have kc : ∀ j v, (w.alloc (.cells #[.int .i64 8, .int .i64 (m : Int), .int .i64 tt, .int .i64 bf, .string nm, .string vl] 32)).cell? ⟨w.heap.size, j, none⟩ = some v → w'.cell? ⟨w.heap.size, j, none⟩ = some v := fun j v hv => e4.cell (p := ⟨w.heap.size, j, none⟩) (by rw [World.cell?_drew]; exact hv) nf
    obtain ⟨s0, s1, s2, s3, s4, s5⟩ := S0
    refine ⟨e1, ((Below.refl B w).alloc hB _).drew.trans e2, ⟨kc _ _ s0, kc _ _ s1, kc _ _ s2, kc _ _ s3, kc _ _ s4, kc _ _ s5⟩, fun hc => ?_⟩
    obtain ⟨rs', q1, q2, _⟩ := e3 hc
    exact ⟨rs', q1, q2⟩
  clear W0 W1 O1 h
  generalize shadC m (Tn.nd d m) = cd0 at *
  generalize d.set m { Tn.nd d m with hasS := true } = d' at *
  cases hi : Tn.isN d (m : Int) true with
  | true =>
    unfold chg6
    simp only
    go_enter Try.func57, Try.ntmps57
    go_wp2_with fail
    refine (dis_any HD.out (m : Int) true).mono ?_
    rintro e w1 ⟨rfl, hw1⟩
    subst hw1
    rw [hi]
    go_wp2_with fail
    have SS : ∀ w'', Keeps (w.alloc (.cells #[.int .i64 8, .int .i64 (m : Int), .int .i64 tt, .int .i64 bf, .string nm, .string vl] 32)) w'' → (fun w'' : World => w''.cell? ⟨w.heap.size, 0, none⟩ = some (.int .i64 8) ∧ w''.cell? ⟨w.heap.size, 1, none⟩ = some (.int .i64 (m : Int)) ∧ w''.cell? ⟨w.heap.size, 2, none⟩ = some (.int .i64 tt) ∧ w''.cell? ⟨w.heap.size, 3, none⟩ = some (.int .i64 bf) ∧ w''.cell? ⟨w.heap.size, 4, none⟩ = some (.string nm) ∧ w''.cell? ⟨w.heap.size, 5, none⟩ = some (.string vl)) w'' := fun w'' hk => by
      obtain ⟨s0, s1, s2, s3, s4, s5⟩ := S0
      exact ⟨hk _ _ s0, hk _ _ s1, hk _ _ s2, hk _ _ s3, hk _ _ s4, hk _ _ s5⟩
    go_region_held3 (fun w'' : World => w''.cell? ⟨w.heap.size, 0, none⟩ = some (.int .i64 8) ∧ w''.cell? ⟨w.heap.size, 1, none⟩ = some (.int .i64 (m : Int)) ∧ w''.cell? ⟨w.heap.size, 2, none⟩ = some (.int .i64 tt) ∧ w''.cell? ⟨w.heap.size, 3, none⟩ = some (.int .i64 bf) ∧ w''.cell? ⟨w.heap.size, 4, none⟩ = some (.string nm) ∧ w''.cell? ⟨w.heap.size, 5, none⟩ = some (.string vl))
      ((first | assumption | (apply SS; first | exact Keeps.refl _ | exact keeps_drew (Keeps.refl _))))
      (first
        | (go_at_call 72; refine HA.out.mono ?_; rintro e w2 ⟨rfl, b2, q2, HZ⟩))
    all_goals
      go_wp2_with fail
      go_ret3
      refine ⟨_, _, _, rfl, b2, rfl, fun hc => ?_⟩
      obtain ⟨rs', e1, e2⟩ := HZ.out hc
      exact ⟨rfl, g, c, rs', by rw [e1]; rfl, e2⟩
  | false =>
    unfold chg6
    simp only
    go_enter Try.func57, Try.ntmps57
    go_wp2_with fail
    refine (dis_any HD.out (m : Int) true).mono ?_
    rintro e w1 ⟨rfl, hw1⟩
    subst hw1
    rw [hi]
    go_wp2_with fail
    go_ret3
    exact ⟨_, _, _, rfl, HB1.out, rfl, fun h => by cases h⟩
end Go.Proofs.Ytookcjdibpccpaa

/-
  A DOCUMENT OF THE CALL's OWN, and one node more.
-/
namespace Go.Proofs.Ytookcjdibpccpaa
open Go.RowKit

theorem zeroR_one : ∀ u ∈ zeroR.cells, u.oneCell' = true := by
  intro u hu
  have := oneCells_mem [zeroR] u (by simpa using hu)
  exact this

/-- append of the zero node -/
theorem Owned.push {w : World} {B g c : Nat} {rs : List Raw} {d : Tn.Dc} (h : Owned w B g c rs d) (hB : B ≤ w.heap.size) (h0 : 0 < rs.length) (hl : rs.length ≤ 1000) (ty : TypeId) {a : Nat} (ha : w.heap[a]? = some (.cells zeroR.cells.toArray 56 (0, 0))) :
    ∃ g' c' w', (Builtin.append_ #[34, 34] ty #[.slice (some ⟨g, 0, none⟩) rs.length c, .slice (some ⟨a, 0, none⟩) 1 1]).run Try.prog w = .ok (.slice (some ⟨g', 0, none⟩) (rs ++ [zeroR]).length c') w' ∧ Owned w' B g' c' (rs ++ [zeroR]) (d ++ [Tn.zero]) ∧ Fr g rs w g' (rs ++ [zeroR]) w' ∧ Below B w w' := by
  obtain ⟨i0, hi, hz0, hz1, hz2⟩ := info_parts infoN
  obtain ⟨hBg, hgl, _⟩ := h.at h0
  have hnews : ∀ j u, zeroR.cells[j]? = some u → w.cell? ((⟨a, 0, none⟩ : Addr).add j) = some u := by
    intro j u hu
    rw [add_at, Nat.zero_add]
    simp [World.cell?, ha, hu]
  obtain ⟨v', w', hr, ho, hgr, hb⟩ := run_append_blk ty Try.underlying34 hi hz0 hz1 hz2 rfl (by decide) (by decide) h.row hB ⟨a, 0, none⟩ 1 1 zeroR.cells rfl (by decide) hnews zeroR_one (by omega)
  have hob : (Value.slice (some ⟨g, 0, none⟩) rs.length c).ownBlock = some g := rfl
  rw [hob] at hgr hb
  have ho2 : OwnN w' B v' (rs ++ [zeroR]) := by
    unfold OwnN
    simpa using ho
  obtain ⟨g', c', rfl, h1, h2, h3, h4, _, _⟩ := own_at ho2 (by simp)
  have hg' : g' = g ∨ w.heap.size ≤ g' := by
    rcases hb with e | ⟨y, hy, e⟩
    · left
      simpa [Value.ownBlock] using e
    · right
      have e' : g' = y := by simpa [Value.ownBlock] using e
      omega
  have hbk : ∀ j (hj : j < (rs ++ [zeroR]).length) t x, blk (rs ++ [zeroR])[j] t = some x → ∃ hj1 : j < rs.length, blk rs[j] t = some x := by
    intro j hj t x e
    by_cases hj1 : j < rs.length
    · rw [List.getElem_append_left hj1] at e
      exact ⟨hj1, e⟩
    · have hj2 : j = rs.length := by simp at hj; omega
      subst hj2
      simp only [List.getElem_append_right (Nat.le_refl _), Nat.sub_self, List.getElem_cons_zero] at e
      rw [bare_zero.blk t] at e
      cases e
  refine ⟨g', c', w', hr, ⟨ho2, by simp [h.len], ?_, ⟨?_, ?_⟩, ?_⟩, ⟨hgr.size, ?_, ?_⟩, ?_⟩
  · intro j hj hj'
    by_cases hj1 : j < rs.length
    · have hj2 : j < d.length := by rw [← h.len]; exact hj1
      rw [List.getElem_append_left hj1, List.getElem_append_left hj2]
      exact (h.nds j hj1 hj2).grown hgr (fun t x hx e2 => h.sep.row j hj1 t (by rw [hx]; exact e2.symm))
    · have hj2 : j = rs.length := by simp at hj; omega
      subst hj2
      have e1 : (rs ++ [zeroR])[rs.length]'hj = zeroR := by simp
      have e2 : (d ++ [Tn.zero])[rs.length]'hj' = Tn.zero := by
        have := h.len
        simp [this]
      rw [e1, e2]
      exact bare_zero.own _ _
  · intro j hj t e
    obtain ⟨hj1, e2⟩ := hbk j hj t g' e
    rcases hg' with rfl | hg'
    · exact h.sep.row j hj1 t e2
    · have := h.low j hj1 t _ e2
      omega
  · intro j hj t j' hj' t' x e1 e2
    obtain ⟨hj1, g1⟩ := hbk j hj t x e1
    obtain ⟨hj2, g2⟩ := hbk j' hj' t' x e2
    exact h.sep.one j hj1 t j' hj2 t' x g1 g2
  · intro j hj t x e
    obtain ⟨hj1, e2⟩ := hbk j hj t x e
    exact Nat.lt_of_lt_of_le (h.low j hj1 t x e2) hgr.size
  · intro x hx hn
    exact hgr.block x hx (fun e => hn (Or.inl (by cases e; rfl)))
  · rintro x hx (e | ⟨j, hj, t, e⟩)
    · rcases hg' with e2 | e2
      · exact Or.inl (by rw [e, e2])
      · omega
    · obtain ⟨hj1, e2⟩ := hbk j hj t x e
      exact Or.inr ⟨j, hj1, t, e2⟩
  · exact (Below.refl B w).grown hgr hB (fun k hk => by cases hk; exact hBg)
end Go.Proofs.Ytookcjdibpccpaa

/-
  THE WALK of dom.fresh.
-/
namespace Go.Proofs.Ytookcjdibpccpaa
open Go.RowKit

def freshV (x : Tn.Chg) : Value :=
  if x.kind = 1 ∨ x.kind = 9 then
    if Tn.nameL x.name.data.toList = true then .tuple #[.agg #[.bool true, .string x.name, .string ⟨#[]⟩, .slice none 0 0, .int .i64 0, .slice none 0 0, .bool false, .slice none 0 0, .bool false], .int .i64 0]
    else .tuple #[zeroN, .int .i64 7]
  else if 60 < x.value.size then .tuple #[zeroN, .int .i64 4]
  else .tuple #[.agg #[.bool true, .string ⟨#[]⟩, .string x.value, .slice none 0 0, .int .i64 0, .slice none 0 0, .bool false, .slice none 0 0, .bool false], .int .i64 0]

theorem below9 {B g : Nat} {w0 w : World} (h : Below B w0 w) (hg : B ≤ g) (x0 x1 x2 x3 x4 x5 x6 x7 x8 : Value) :
    Below B w0 (((((((((w.setCell ⟨g, 0, none⟩ x0).setCell ⟨g, 1, none⟩ x1).setCell ⟨g, 2, none⟩ x2).setCell ⟨g, 3, none⟩ x3).setCell ⟨g, 4, none⟩ x4).setCell ⟨g, 5, none⟩ x5).setCell ⟨g, 6, none⟩ x6).setCell ⟨g, 7, none⟩ x7).setCell ⟨g, 8, none⟩ x8) :=
  ((((((((h.setCell hg _).setCell hg _).setCell hg _).setCell hg _).setCell hg _).setCell hg _).setCell hg _).setCell hg _).setCell hg _

set_option maxHeartbeats 1600000 in
theorem dfresh_any {w : World} (x : Tn.Chg) (hn : x.name.size ≤ 4194304) (hv : x.value.size ≤ 4194304) :
    Calls Try.prog 87 #[.agg #[.int .i64 x.kind, .int .i64 x.node, .int .i64 x.to, .int .i64 x.before, .string x.name, .string x.value]] w fun e w' => e = .returned (freshV x) ∧ Below w.heap.size w w' := by
  obtain ⟨kd, nk, tt, bf, nm, vl⟩ := x
  simp only at hn hv
  have hB : Below w.heap.size w ((w.alloc (.cells #[.int .i64 kd, .int .i64 nk, .int .i64 tt, .int .i64 bf, .string nm, .string vl] 32)).alloc (.cells #[.bool false, .string ⟨#[]⟩, .string ⟨#[]⟩, .slice none 0 0, .int .i64 0, .slice none 0 0, .bool false, .slice none 0 0, .bool false] 56)) := ((Below.refl _ _).alloc (Nat.le_refl _) _).alloc (by simp) _
  by_cases hk : kd = 1 ∨ kd = 9
  · have hN := name_any nm ((w.alloc (.cells #[.int .i64 kd, .int .i64 nk, .int .i64 tt, .int .i64 bf, .string nm, .string vl] 32)).alloc (.cells #[.bool false, .string ⟨#[]⟩, .string ⟨#[]⟩, .slice none 0 0, .int .i64 0, .slice none 0 0, .bool false, .slice none 0 0, .bool false] 56)) hn
    cases hb : Tn.nameL nm.data.toList with
    | true =>
      rw [hb] at hN
      have E : Hid (freshV ⟨kd, nk, tt, bf, nm, vl⟩ = .tuple #[.agg #[.bool true, .string nm, .string ⟨#[]⟩, .slice none 0 0, .int .i64 0, .slice none 0 0, .bool false, .slice none 0 0, .bool false], .int .i64 0]) := by
        show _ = _; unfold freshV; rw [if_pos hk, if_pos hb]
      clear hb
      rcases hk with rfl | rfl
      · go_enter Try.func87, Try.ntmps87
        go_wp2_with (go_at_call 17; refine hN.mono ?_; rintro e w9 ⟨rfl, hb9⟩; have J := keeps_below hb9 (Nat.le_refl _); have x4 := J ⟨w.heap.size, 4, none⟩ _ (by rw [World.cell?_alloc2_first]; try rfl); have x5 := J ⟨w.heap.size, 5, none⟩ _ (by rw [World.cell?_alloc2_first]; try rfl); have r0 := J ⟨w.heap.size + 1, 0, none⟩ _ (by rw [World.cell?_alloc2_new]; try rfl); have f0 : w9.frozen? ⟨w.heap.size + 1, 0, none⟩ = false := (hb9.frozen (p := ⟨w.heap.size + 1, 0, none⟩) (by simp)).trans (World.frozen?_alloc2_new _ _ _ _); have r1 := J ⟨w.heap.size + 1, 1, none⟩ _ (by rw [World.cell?_alloc2_new]; try rfl); have f1 : w9.frozen? ⟨w.heap.size + 1, 1, none⟩ = false := (hb9.frozen (p := ⟨w.heap.size + 1, 1, none⟩) (by simp)).trans (World.frozen?_alloc2_new _ _ _ _); have r2 := J ⟨w.heap.size + 1, 2, none⟩ _ (by rw [World.cell?_alloc2_new]; try rfl); have f2 : w9.frozen? ⟨w.heap.size + 1, 2, none⟩ = false := (hb9.frozen (p := ⟨w.heap.size + 1, 2, none⟩) (by simp)).trans (World.frozen?_alloc2_new _ _ _ _); have r3 := J ⟨w.heap.size + 1, 3, none⟩ _ (by rw [World.cell?_alloc2_new]; try rfl); have f3 : w9.frozen? ⟨w.heap.size + 1, 3, none⟩ = false := (hb9.frozen (p := ⟨w.heap.size + 1, 3, none⟩) (by simp)).trans (World.frozen?_alloc2_new _ _ _ _); have r4 := J ⟨w.heap.size + 1, 4, none⟩ _ (by rw [World.cell?_alloc2_new]; try rfl); have f4 : w9.frozen? ⟨w.heap.size + 1, 4, none⟩ = false := (hb9.frozen (p := ⟨w.heap.size + 1, 4, none⟩) (by simp)).trans (World.frozen?_alloc2_new _ _ _ _); have r5 := J ⟨w.heap.size + 1, 5, none⟩ _ (by rw [World.cell?_alloc2_new]; try rfl); have f5 : w9.frozen? ⟨w.heap.size + 1, 5, none⟩ = false := (hb9.frozen (p := ⟨w.heap.size + 1, 5, none⟩) (by simp)).trans (World.frozen?_alloc2_new _ _ _ _); have r6 := J ⟨w.heap.size + 1, 6, none⟩ _ (by rw [World.cell?_alloc2_new]; try rfl); have f6 : w9.frozen? ⟨w.heap.size + 1, 6, none⟩ = false := (hb9.frozen (p := ⟨w.heap.size + 1, 6, none⟩) (by simp)).trans (World.frozen?_alloc2_new _ _ _ _); have r7 := J ⟨w.heap.size + 1, 7, none⟩ _ (by rw [World.cell?_alloc2_new]; try rfl); have f7 : w9.frozen? ⟨w.heap.size + 1, 7, none⟩ = false := (hb9.frozen (p := ⟨w.heap.size + 1, 7, none⟩) (by simp)).trans (World.frozen?_alloc2_new _ _ _ _); have r8 := J ⟨w.heap.size + 1, 8, none⟩ _ (by rw [World.cell?_alloc2_new]; try rfl); have f8 : w9.frozen? ⟨w.heap.size + 1, 8, none⟩ = false := (hb9.frozen (p := ⟨w.heap.size + 1, 8, none⟩) (by simp)).trans (World.frozen?_alloc2_new _ _ _ _))
        refine bodyPost_ret (v := .tuple #[.agg #[.bool true, .string nm, .string ⟨#[]⟩, .slice none 0 0, .int .i64 0, .slice none 0 0, .bool false, .slice none 0 0, .bool false], .int .i64 0]) (by simp [results, Try.results87, go_sem, r0, r1, r2, r3, r4, r5, r6, r7, r8]) rfl ⟨by rw [E.out], ?_⟩
        exact below9 (hB.trans (hb9.mono (by simp; omega))) (by omega) _ _ _ _ _ _ _ _ _
      · go_enter Try.func87, Try.ntmps87
        go_wp2_with (go_at_call 17; refine hN.mono ?_; rintro e w9 ⟨rfl, hb9⟩; have J := keeps_below hb9 (Nat.le_refl _); have x4 := J ⟨w.heap.size, 4, none⟩ _ (by rw [World.cell?_alloc2_first]; try rfl); have x5 := J ⟨w.heap.size, 5, none⟩ _ (by rw [World.cell?_alloc2_first]; try rfl); have r0 := J ⟨w.heap.size + 1, 0, none⟩ _ (by rw [World.cell?_alloc2_new]; try rfl); have f0 : w9.frozen? ⟨w.heap.size + 1, 0, none⟩ = false := (hb9.frozen (p := ⟨w.heap.size + 1, 0, none⟩) (by simp)).trans (World.frozen?_alloc2_new _ _ _ _); have r1 := J ⟨w.heap.size + 1, 1, none⟩ _ (by rw [World.cell?_alloc2_new]; try rfl); have f1 : w9.frozen? ⟨w.heap.size + 1, 1, none⟩ = false := (hb9.frozen (p := ⟨w.heap.size + 1, 1, none⟩) (by simp)).trans (World.frozen?_alloc2_new _ _ _ _); have r2 := J ⟨w.heap.size + 1, 2, none⟩ _ (by rw [World.cell?_alloc2_new]; try rfl); have f2 : w9.frozen? ⟨w.heap.size + 1, 2, none⟩ = false := (hb9.frozen (p := ⟨w.heap.size + 1, 2, none⟩) (by simp)).trans (World.frozen?_alloc2_new _ _ _ _); have r3 := J ⟨w.heap.size + 1, 3, none⟩ _ (by rw [World.cell?_alloc2_new]; try rfl); have f3 : w9.frozen? ⟨w.heap.size + 1, 3, none⟩ = false := (hb9.frozen (p := ⟨w.heap.size + 1, 3, none⟩) (by simp)).trans (World.frozen?_alloc2_new _ _ _ _); have r4 := J ⟨w.heap.size + 1, 4, none⟩ _ (by rw [World.cell?_alloc2_new]; try rfl); have f4 : w9.frozen? ⟨w.heap.size + 1, 4, none⟩ = false := (hb9.frozen (p := ⟨w.heap.size + 1, 4, none⟩) (by simp)).trans (World.frozen?_alloc2_new _ _ _ _); have r5 := J ⟨w.heap.size + 1, 5, none⟩ _ (by rw [World.cell?_alloc2_new]; try rfl); have f5 : w9.frozen? ⟨w.heap.size + 1, 5, none⟩ = false := (hb9.frozen (p := ⟨w.heap.size + 1, 5, none⟩) (by simp)).trans (World.frozen?_alloc2_new _ _ _ _); have r6 := J ⟨w.heap.size + 1, 6, none⟩ _ (by rw [World.cell?_alloc2_new]; try rfl); have f6 : w9.frozen? ⟨w.heap.size + 1, 6, none⟩ = false := (hb9.frozen (p := ⟨w.heap.size + 1, 6, none⟩) (by simp)).trans (World.frozen?_alloc2_new _ _ _ _); have r7 := J ⟨w.heap.size + 1, 7, none⟩ _ (by rw [World.cell?_alloc2_new]; try rfl); have f7 : w9.frozen? ⟨w.heap.size + 1, 7, none⟩ = false := (hb9.frozen (p := ⟨w.heap.size + 1, 7, none⟩) (by simp)).trans (World.frozen?_alloc2_new _ _ _ _); have r8 := J ⟨w.heap.size + 1, 8, none⟩ _ (by rw [World.cell?_alloc2_new]; try rfl); have f8 : w9.frozen? ⟨w.heap.size + 1, 8, none⟩ = false := (hb9.frozen (p := ⟨w.heap.size + 1, 8, none⟩) (by simp)).trans (World.frozen?_alloc2_new _ _ _ _))
        refine bodyPost_ret (v := .tuple #[.agg #[.bool true, .string nm, .string ⟨#[]⟩, .slice none 0 0, .int .i64 0, .slice none 0 0, .bool false, .slice none 0 0, .bool false], .int .i64 0]) (by simp [results, Try.results87, go_sem, r0, r1, r2, r3, r4, r5, r6, r7, r8]) rfl ⟨by rw [E.out], ?_⟩
        exact below9 (hB.trans (hb9.mono (by simp; omega))) (by omega) _ _ _ _ _ _ _ _ _
    | false =>
      rw [hb] at hN
      have E : Hid (freshV ⟨kd, nk, tt, bf, nm, vl⟩ = .tuple #[.agg #[.bool false, .string ⟨#[]⟩, .string ⟨#[]⟩, .slice none 0 0, .int .i64 0, .slice none 0 0, .bool false, .slice none 0 0, .bool false], .int .i64 7]) := by
        show _ = _; unfold freshV; rw [if_pos hk, if_neg (by rw [hb]; simp)]; rfl
      clear hb
      rcases hk with rfl | rfl
      · go_enter Try.func87, Try.ntmps87
        go_wp2_with (go_at_call 17; refine hN.mono ?_; rintro e w9 ⟨rfl, hb9⟩; have J := keeps_below hb9 (Nat.le_refl _); have x4 := J ⟨w.heap.size, 4, none⟩ _ (by rw [World.cell?_alloc2_first]; try rfl); have x5 := J ⟨w.heap.size, 5, none⟩ _ (by rw [World.cell?_alloc2_first]; try rfl); have r0 := J ⟨w.heap.size + 1, 0, none⟩ _ (by rw [World.cell?_alloc2_new]; try rfl); have f0 : w9.frozen? ⟨w.heap.size + 1, 0, none⟩ = false := (hb9.frozen (p := ⟨w.heap.size + 1, 0, none⟩) (by simp)).trans (World.frozen?_alloc2_new _ _ _ _); have r1 := J ⟨w.heap.size + 1, 1, none⟩ _ (by rw [World.cell?_alloc2_new]; try rfl); have f1 : w9.frozen? ⟨w.heap.size + 1, 1, none⟩ = false := (hb9.frozen (p := ⟨w.heap.size + 1, 1, none⟩) (by simp)).trans (World.frozen?_alloc2_new _ _ _ _); have r2 := J ⟨w.heap.size + 1, 2, none⟩ _ (by rw [World.cell?_alloc2_new]; try rfl); have f2 : w9.frozen? ⟨w.heap.size + 1, 2, none⟩ = false := (hb9.frozen (p := ⟨w.heap.size + 1, 2, none⟩) (by simp)).trans (World.frozen?_alloc2_new _ _ _ _); have r3 := J ⟨w.heap.size + 1, 3, none⟩ _ (by rw [World.cell?_alloc2_new]; try rfl); have f3 : w9.frozen? ⟨w.heap.size + 1, 3, none⟩ = false := (hb9.frozen (p := ⟨w.heap.size + 1, 3, none⟩) (by simp)).trans (World.frozen?_alloc2_new _ _ _ _); have r4 := J ⟨w.heap.size + 1, 4, none⟩ _ (by rw [World.cell?_alloc2_new]; try rfl); have f4 : w9.frozen? ⟨w.heap.size + 1, 4, none⟩ = false := (hb9.frozen (p := ⟨w.heap.size + 1, 4, none⟩) (by simp)).trans (World.frozen?_alloc2_new _ _ _ _); have r5 := J ⟨w.heap.size + 1, 5, none⟩ _ (by rw [World.cell?_alloc2_new]; try rfl); have f5 : w9.frozen? ⟨w.heap.size + 1, 5, none⟩ = false := (hb9.frozen (p := ⟨w.heap.size + 1, 5, none⟩) (by simp)).trans (World.frozen?_alloc2_new _ _ _ _); have r6 := J ⟨w.heap.size + 1, 6, none⟩ _ (by rw [World.cell?_alloc2_new]; try rfl); have f6 : w9.frozen? ⟨w.heap.size + 1, 6, none⟩ = false := (hb9.frozen (p := ⟨w.heap.size + 1, 6, none⟩) (by simp)).trans (World.frozen?_alloc2_new _ _ _ _); have r7 := J ⟨w.heap.size + 1, 7, none⟩ _ (by rw [World.cell?_alloc2_new]; try rfl); have f7 : w9.frozen? ⟨w.heap.size + 1, 7, none⟩ = false := (hb9.frozen (p := ⟨w.heap.size + 1, 7, none⟩) (by simp)).trans (World.frozen?_alloc2_new _ _ _ _); have r8 := J ⟨w.heap.size + 1, 8, none⟩ _ (by rw [World.cell?_alloc2_new]; try rfl); have f8 : w9.frozen? ⟨w.heap.size + 1, 8, none⟩ = false := (hb9.frozen (p := ⟨w.heap.size + 1, 8, none⟩) (by simp)).trans (World.frozen?_alloc2_new _ _ _ _))
        refine bodyPost_ret (v := .tuple #[.agg #[.bool false, .string ⟨#[]⟩, .string ⟨#[]⟩, .slice none 0 0, .int .i64 0, .slice none 0 0, .bool false, .slice none 0 0, .bool false], .int .i64 7]) (by simp [results, Try.results87, go_sem, r0, r1, r2, r3, r4, r5, r6, r7, r8]) rfl ⟨by rw [E.out], ?_⟩
        exact below9 (hB.trans (hb9.mono (by simp; omega))) (by omega) _ _ _ _ _ _ _ _ _
      · go_enter Try.func87, Try.ntmps87
        go_wp2_with (go_at_call 17; refine hN.mono ?_; rintro e w9 ⟨rfl, hb9⟩; have J := keeps_below hb9 (Nat.le_refl _); have x4 := J ⟨w.heap.size, 4, none⟩ _ (by rw [World.cell?_alloc2_first]; try rfl); have x5 := J ⟨w.heap.size, 5, none⟩ _ (by rw [World.cell?_alloc2_first]; try rfl); have r0 := J ⟨w.heap.size + 1, 0, none⟩ _ (by rw [World.cell?_alloc2_new]; try rfl); have f0 : w9.frozen? ⟨w.heap.size + 1, 0, none⟩ = false := (hb9.frozen (p := ⟨w.heap.size + 1, 0, none⟩) (by simp)).trans (World.frozen?_alloc2_new _ _ _ _); have r1 := J ⟨w.heap.size + 1, 1, none⟩ _ (by rw [World.cell?_alloc2_new]; try rfl); have f1 : w9.frozen? ⟨w.heap.size + 1, 1, none⟩ = false := (hb9.frozen (p := ⟨w.heap.size + 1, 1, none⟩) (by simp)).trans (World.frozen?_alloc2_new _ _ _ _); have r2 := J ⟨w.heap.size + 1, 2, none⟩ _ (by rw [World.cell?_alloc2_new]; try rfl); have f2 : w9.frozen? ⟨w.heap.size + 1, 2, none⟩ = false := (hb9.frozen (p := ⟨w.heap.size + 1, 2, none⟩) (by simp)).trans (World.frozen?_alloc2_new _ _ _ _); have r3 := J ⟨w.heap.size + 1, 3, none⟩ _ (by rw [World.cell?_alloc2_new]; try rfl); have f3 : w9.frozen? ⟨w.heap.size + 1, 3, none⟩ = false := (hb9.frozen (p := ⟨w.heap.size + 1, 3, none⟩) (by simp)).trans (World.frozen?_alloc2_new _ _ _ _); have r4 := J ⟨w.heap.size + 1, 4, none⟩ _ (by rw [World.cell?_alloc2_new]; try rfl); have f4 : w9.frozen? ⟨w.heap.size + 1, 4, none⟩ = false := (hb9.frozen (p := ⟨w.heap.size + 1, 4, none⟩) (by simp)).trans (World.frozen?_alloc2_new _ _ _ _); have r5 := J ⟨w.heap.size + 1, 5, none⟩ _ (by rw [World.cell?_alloc2_new]; try rfl); have f5 : w9.frozen? ⟨w.heap.size + 1, 5, none⟩ = false := (hb9.frozen (p := ⟨w.heap.size + 1, 5, none⟩) (by simp)).trans (World.frozen?_alloc2_new _ _ _ _); have r6 := J ⟨w.heap.size + 1, 6, none⟩ _ (by rw [World.cell?_alloc2_new]; try rfl); have f6 : w9.frozen? ⟨w.heap.size + 1, 6, none⟩ = false := (hb9.frozen (p := ⟨w.heap.size + 1, 6, none⟩) (by simp)).trans (World.frozen?_alloc2_new _ _ _ _); have r7 := J ⟨w.heap.size + 1, 7, none⟩ _ (by rw [World.cell?_alloc2_new]; try rfl); have f7 : w9.frozen? ⟨w.heap.size + 1, 7, none⟩ = false := (hb9.frozen (p := ⟨w.heap.size + 1, 7, none⟩) (by simp)).trans (World.frozen?_alloc2_new _ _ _ _); have r8 := J ⟨w.heap.size + 1, 8, none⟩ _ (by rw [World.cell?_alloc2_new]; try rfl); have f8 : w9.frozen? ⟨w.heap.size + 1, 8, none⟩ = false := (hb9.frozen (p := ⟨w.heap.size + 1, 8, none⟩) (by simp)).trans (World.frozen?_alloc2_new _ _ _ _))
        refine bodyPost_ret (v := .tuple #[.agg #[.bool false, .string ⟨#[]⟩, .string ⟨#[]⟩, .slice none 0 0, .int .i64 0, .slice none 0 0, .bool false, .slice none 0 0, .bool false], .int .i64 7]) (by simp [results, Try.results87, go_sem, r0, r1, r2, r3, r4, r5, r6, r7, r8]) rfl ⟨by rw [E.out], ?_⟩
        exact below9 (hB.trans (hb9.mono (by simp; omega))) (by omega) _ _ _ _ _ _ _ _ _
  · have k1 : (kd == 1) = false := by simp; omega
    have k9 : (kd == 9) = false := by simp; omega
    by_cases hs : 60 < vl.size
    · have E : Hid (freshV ⟨kd, nk, tt, bf, nm, vl⟩ = .tuple #[.agg #[.bool false, .string ⟨#[]⟩, .string ⟨#[]⟩, .slice none 0 0, .int .i64 0, .slice none 0 0, .bool false, .slice none 0 0, .bool false], .int .i64 4]) := by
        show _ = _; unfold freshV; rw [if_neg hk, if_pos hs]; rfl
      go_enter Try.func87, Try.ntmps87
      go_wp2_with fail
      refine bodyPost_ret (v := .tuple #[.agg #[.bool false, .string ⟨#[]⟩, .string ⟨#[]⟩, .slice none 0 0, .int .i64 0, .slice none 0 0, .bool false, .slice none 0 0, .bool false], .int .i64 4]) (by simp [results, Try.results87, go_sem]) rfl ⟨by rw [E.out], ?_⟩
      exact ((Below.refl _ _).alloc (Nat.le_refl _) _).alloc (by simp) _
    · have E : Hid (freshV ⟨kd, nk, tt, bf, nm, vl⟩ = .tuple #[.agg #[.bool true, .string ⟨#[]⟩, .string vl, .slice none 0 0, .int .i64 0, .slice none 0 0, .bool false, .slice none 0 0, .bool false], .int .i64 0]) := by
        show _ = _; unfold freshV; rw [if_neg hk, if_neg hs]
      go_enter Try.func87, Try.ntmps87
      go_wp2_with fail
      refine bodyPost_ret (v := .tuple #[.agg #[.bool true, .string ⟨#[]⟩, .string vl, .slice none 0 0, .int .i64 0, .slice none 0 0, .bool false, .slice none 0 0, .bool false], .int .i64 0]) (by simp [results, Try.results87, go_sem]) rfl ⟨by rw [E.out], ?_⟩
      exact ((Below.refl _ _).alloc (Nat.le_refl _) _).alloc (by simp) _
end Go.Proofs.Ytookcjdibpccpaa

/-
  WHAT dom.add makes, in plain mathematics.
-/
namespace Go.Proofs.Ytookcjdibpccpaa
open Go.RowKit

/-- why no node is made -/
def freshE (x : Tn.Chg) : Int := if x.kind = 1 ∨ x.kind = 9 then (if Tn.nameL x.name.data.toList = true then 0 else 7) else if 60 < x.value.size then 4 else 0
/-- the node that is made -/
def newR (x : Tn.Chg) : Raw := if x.kind = 1 ∨ x.kind = 9 then ⟨true, x.name, ⟨#[]⟩, ⟨none, 0, 0⟩, 0, ⟨none, 0, 0⟩, false, ⟨none, 0, 0⟩, false⟩ else ⟨true, ⟨#[]⟩, x.value, ⟨none, 0, 0⟩, 0, ⟨none, 0, 0⟩, false, ⟨none, 0, 0⟩, false⟩
def newNd (x : Tn.Chg) : Tn.Nd := if x.kind = 1 ∨ x.kind = 9 then { Tn.zero with live := true, tag := x.name } else { Tn.zero with live := true, text := x.value }
theorem bare_new (x : Tn.Chg) : Bare (newR x) (newNd x) := by
  unfold newR newNd
  split <;> exact ⟨rfl, rfl, rfl, rfl, rfl, rfl, rfl, rfl, rfl, rfl, rfl, rfl⟩
theorem freshV_cases (x : Tn.Chg) : (freshE x ≠ 0 ∧ freshV x = .tuple #[zeroN, .int .i64 (freshE x)]) ∨ (freshE x = 0 ∧ freshV x = .tuple #[(newR x).agg, .int .i64 0]) := by
  unfold freshE freshV newR
  by_cases hk : x.kind = 1 ∨ x.kind = 9
  · by_cases hn : Tn.nameL x.name.data.toList = true
    · simp [hk, hn, Raw.agg]
    · simp [hk, hn]
  · by_cases hv : 60 < x.value.size
    · simp [hk, hv]
    · simp [hk, hv, Raw.agg]

/-- the document with the node, not yet in anything -/
def addIn (d : Tn.Dc) (x : Tn.Chg) : Tn.Dc := (if Tn.free d = d.length then d ++ [Tn.zero] else d).set (Tn.free d) (newNd x)
def addCode (d : Tn.Dc) (x : Tn.Chg) (m : Nat) (before : Int) (s : Bool) : Int :=
  if freshE x ≠ 0 then freshE x
  else if s = true ∧ (Tn.nd d m).hasS = false then 8
  else if 60 ≤ Tn.free d then 5
  else putCode (addIn d x) (Tn.free d) m before s

theorem BoxAt.fr {w w' : World} {g g' Y : Nat} {rs rs' : List Raw} {r : Raw} (h : BoxAt w Y r) (k : Fr g rs w g' rs' w') (hn : ¬ DB g rs Y) : BoxAt w' Y r :=
  ⟨k.cell h.c0 hn, k.cell h.c1 hn, k.cell h.c2 hn, k.cell h.c3 hn, k.cell h.c4 hn, k.cell h.c5 hn, k.cell h.c6 hn, k.cell h.c7 hn, k.cell h.c8 hn⟩
theorem alloc_at (w : World) (b : Obj) : (w.alloc b).heap[w.heap.size]? = some b := by show (w.heap.push b)[w.heap.size]? = some b; simp
end Go.Proofs.Ytookcjdibpccpaa

/-
  THE WALK of dom.add, in a document of the call's own, at the kind 9.
-/
namespace Go.Proofs.Ytookcjdibpccpaa
open Go.RowKit

set_option maxHeartbeats 3200000 in
set_option maxRecDepth 100000 in
theorem dadd_Nine {w : World} {B g c : Nat} {rs : List Raw} {d : Tn.Dc} (h : Owned w B g c rs d) (hB : B ≤ w.heap.size) (hlr : rs.length ≤ 900) (x : Tn.Chg) (hkd : x.kind = 9) (hnm : x.name.size ≤ 4194304) (hvl : x.value.size ≤ 4194304) {m : Nat} (hxm : x.node = (m : Int)) (hm : m < rs.length)
    (hls : ∀ s, (Tn.liD (addIn d x) m s).length ≤ 1000)
    (hT : freshE x = 0 → Tn.free d < 60 → 0 ≤ putAt (Tn.listOf (Tn.nd (addIn d x) m) true) (-1) → (Tn.listOf (Tn.nd (addIn d x) m) true).length < 12 → Tame (putDoc (addIn d x) (Tn.free d) m (-1) true) ∧ (∀ j t, (Tn.liD (putDoc (addIn d x) (Tn.free d) m (-1) true) j t).length ≤ 1000) ∧ Tn.lvD (putDoc (addIn d x) (Tn.free d) m (-1) true) (Tn.free d) = true) :
    Calls Try.prog 73 #[.slice (some ⟨g, 0, none⟩) rs.length c, chg6 x] w fun e w' => ∃ dv nv, e = .returned (.tuple #[dv, .int .i64 nv, .int .i64 (addCode d x m (-1) true)]) ∧ Below B w w' ∧ (addCode d x m (-1) true = 0 → nv = (Tn.free d : Int) ∧ ∃ g' c' rs', dv = .slice (some ⟨g', 0, none⟩) rs'.length c' ∧ Owned w' B g' c' rs' (putDoc (addIn d x) (Tn.free d) m (-1) true) ∧ Fr g rs w g' rs' w') := by
  have h0 : 0 < rs.length := by omega
  obtain ⟨kd, nd0, tt, bf, nm, vl⟩ := x
  simp only at hxm hnm hvl hkd
  subst hxm
  subst hkd
  have W1 : Below w.heap.size w (w.alloc (.cells #[.int .i64 9, .int .i64 (m : Int), .int .i64 tt, .int .i64 bf, .string nm, .string vl] 32)) := (Below.refl _ _).alloc (Nat.le_refl _) _
  have hFr := dfresh_any (w := w.alloc (.cells #[.int .i64 9, .int .i64 (m : Int), .int .i64 tt, .int .i64 bf, .string nm, .string vl] 32)) ⟨9, (m : Int), tt, bf, nm, vl⟩ hnm hvl
  simp only at hFr
  have x0 : (w.alloc (.cells #[.int .i64 9, .int .i64 (m : Int), .int .i64 tt, .int .i64 bf, .string nm, .string vl] 32)).cell? ⟨w.heap.size, 0, none⟩ = some (.int .i64 9) := by rw [World.cell?_alloc_new]; rfl
  have x1 : (w.alloc (.cells #[.int .i64 9, .int .i64 (m : Int), .int .i64 tt, .int .i64 bf, .string nm, .string vl] 32)).cell? ⟨w.heap.size, 1, none⟩ = some (.int .i64 (m : Int)) := by rw [World.cell?_alloc_new]; rfl
  have x2 : (w.alloc (.cells #[.int .i64 9, .int .i64 (m : Int), .int .i64 tt, .int .i64 bf, .string nm, .string vl] 32)).cell? ⟨w.heap.size, 2, none⟩ = some (.int .i64 tt) := by rw [World.cell?_alloc_new]; rfl
  have x3 : (w.alloc (.cells #[.int .i64 9, .int .i64 (m : Int), .int .i64 tt, .int .i64 bf, .string nm, .string vl] 32)).cell? ⟨w.heap.size, 3, none⟩ = some (.int .i64 bf) := by rw [World.cell?_alloc_new]; rfl
  have x4 : (w.alloc (.cells #[.int .i64 9, .int .i64 (m : Int), .int .i64 tt, .int .i64 bf, .string nm, .string vl] 32)).cell? ⟨w.heap.size, 4, none⟩ = some (.string nm) := by rw [World.cell?_alloc_new]; rfl
  have x5 : (w.alloc (.cells #[.int .i64 9, .int .i64 (m : Int), .int .i64 tt, .int .i64 bf, .string nm, .string vl] 32)).cell? ⟨w.heap.size, 5, none⟩ = some (.string vl) := by rw [World.cell?_alloc_new]; rfl
  have BA : Below B w (w.alloc (.cells #[.int .i64 9, .int .i64 (m : Int), .int .i64 tt, .int .i64 bf, .string nm, .string vl] 32)) := (Below.refl B w).alloc hB _
  have O1 : Owned (w.alloc (.cells #[.int .i64 9, .int .i64 (m : Int), .int .i64 tt, .int .i64 bf, .string nm, .string vl] 32)) B g c rs d := h.below W1 (Nat.le_refl _)
  have F1 : Fr g rs w g rs (w.alloc (.cells #[.int .i64 9, .int .i64 (m : Int), .int .i64 tt, .int .i64 bf, .string nm, .string vl] 32)) := (Fr.refl g rs w).below W1
  have hz1 : w.heap.size < (w.alloc (.cells #[.int .i64 9, .int .i64 (m : Int), .int .i64 tt, .int .i64 bf, .string nm, .string vl] 32)).heap.size := by simp
  have hfX : ¬ DB g rs w.heap.size := h.free h0 (Nat.le_refl _)
  unfold chg6
  simp only
  clear h W1
  rcases freshV_cases ⟨9, (m : Int), tt, bf, nm, vl⟩ with ⟨hfe, hfv⟩ | ⟨hfe, hfv⟩
  · have E : Hid (addCode d ⟨9, (m : Int), tt, bf, nm, vl⟩ m (-1) true = freshE ⟨9, (m : Int), tt, bf, nm, vl⟩) := by show _ = _; unfold addCode; rw [if_pos hfe]
    rw [hfv] at hFr
    unfold zeroN at hFr
    have hq : (freshE ⟨9, (m : Int), tt, bf, nm, vl⟩ == 0) = false := by simpa using hfe
    have QN : Hid _ := hfe
    clear hT hls hfv hfe
    generalize freshE ⟨9, (m : Int), tt, bf, nm, vl⟩ = fe at *
    go_enter Try.func73, Try.ntmps73
    go_wp2_with (go_at_call 87; refine hFr.mono ?_; rintro e w2 ⟨rfl, hb2⟩)
    go_ret3
    refine ⟨.slice (some ⟨g, 0, none⟩) rs.length c, 0, by rw [E.out]; rfl, ?_, fun hc => absurd (by rw [← E.out]; exact hc) QN.out⟩
    exact (BA.trans (hb2.mono (by omega))).alloc (by have := hb2.size; omega) _
  · rw [hfv] at hFr
    have hB0 : Below (w.alloc (.cells #[.int .i64 9, .int .i64 (m : Int), .int .i64 tt, .int .i64 bf, .string nm, .string vl] 32)).heap.size (w.alloc (.cells #[.int .i64 9, .int .i64 (m : Int), .int .i64 tt, .int .i64 bf, .string nm, .string vl] 32)) (w.alloc (.cells #[.int .i64 9, .int .i64 (m : Int), .int .i64 tt, .int .i64 bf, .string nm, .string vl] 32)) := Below.refl _ _
    have AC : Hid (addCode d ⟨9, (m : Int), tt, bf, nm, vl⟩ m (-1) true = if true = true ∧ (Tn.nd d m).hasS = false then 8 else if 60 ≤ Tn.free d then 5 else putCode (addIn d ⟨9, (m : Int), tt, bf, nm, vl⟩) (Tn.free d) m (-1) true) := by
      show _ = _
      unfold addCode
      rw [if_neg (by simp [hfe])]
    have hbare := bare_new ⟨9, (m : Int), tt, bf, nm, vl⟩
    have hAI : Hid (addIn d ⟨9, (m : Int), tt, bf, nm, vl⟩ = (if Tn.free d = d.length then d ++ [Tn.zero] else d).set (Tn.free d) (newNd ⟨9, (m : Int), tt, bf, nm, vl⟩)) := rfl
    have HT2 : Hid _ := hT hfe
    have HLS : Hid _ := hls
    obtain ⟨nR, hnR⟩ : ∃ r, r = newR ⟨9, (m : Int), tt, bf, nm, vl⟩ := ⟨_, rfl⟩
    rw [← hnR] at hFr hbare
    have ea := hbare.a
    have ek := hbare.k
    have es := hbare.s
    obtain ⟨lv, tg, tx, la, up, lk, hs, ls, ins⟩ := nR
    simp only at ea ek es
    subst ea
    subst ek
    subst es
    simp only [Raw.agg] at hFr
    clear hT hls hfv hnR hB0 hfe
    generalize newNd ⟨9, (m : Int), tt, bf, nm, vl⟩ = nN at *
    generalize addIn d ⟨9, (m : Int), tt, bf, nm, vl⟩ = dA at *
    obtain ⟨n, hn⟩ : ∃ n, n = Tn.free d := ⟨_, rfl⟩
    rw [← hn] at AC HT2 hAI ⊢
    have HN : Hid (n = Tn.free d) := hn
    clear hn
    go_enter Try.func73, Try.ntmps73
    go_upto_region 1 with fail
    generalize w.alloc (.cells #[.int .i64 9, .int .i64 (m : Int), .int .i64 tt, .int .i64 bf, .string nm, .string vl] 32) = wA at *
    go_upto_region 2 with (go_at_call 87; refine hFr.mono ?_; rintro e w2 ⟨rfl, hb2⟩)
    have B2 : Below wA.heap.size wA (w2.alloc (.cells #[.bool lv, .string tg, .string tx, .slice none 0 0, .int .i64 up, .slice none 0 0, .bool hs, .slice none 0 0, .bool ins] 56)) := hb2.alloc hb2.size _
    have K2 := keeps_below B2 (Nat.le_refl _)
    have u0 := K2 _ _ x0
    have u1 := K2 _ _ x1
    have u3 := K2 _ _ x3
    have O3 : Hid (Owned (w2.alloc (.cells #[.bool lv, .string tg, .string tx, .slice none 0 0, .int .i64 up, .slice none 0 0, .bool hs, .slice none 0 0, .bool ins] 56)) B g c rs d) := O1.below B2 (Nat.le_refl _)
    have F3 : Fr g rs w g rs (w2.alloc (.cells #[.bool lv, .string tg, .string tx, .slice none 0 0, .int .i64 up, .slice none 0 0, .bool hs, .slice none 0 0, .bool ins] 56)) := F1.below B2
    have B3 : Below B w (w2.alloc (.cells #[.bool lv, .string tg, .string tx, .slice none 0 0, .int .i64 up, .slice none 0 0, .bool hs, .slice none 0 0, .bool ins] 56)) := BA.trans (B2.mono (by omega))
    have bY := box_new w2 (⟨lv, tg, tx, ⟨none, 0, 0⟩, up, ⟨none, 0, 0⟩, hs, ⟨none, 0, 0⟩, ins⟩ : Raw) 56
    have hfY : ¬ DB g rs w2.heap.size := O1.free h0 hb2.size
    simp only at bY
    go_upto_region 4 with fail
    generalize w2.alloc (.cells #[.bool lv, .string tg, .string tx, .slice none 0 0, .int .i64 up, .slice none 0 0, .bool hs, .slice none 0 0, .bool ins] 56) = w3 at *
    generalize w2.heap.size = Y at *
    generalize hX : w.heap.size = X at *
    have HX : Hid _ := hX
    clear hX
    clear x0 x1 x2 x3 x4 x5 K2 B2 hb2 O1 F1 BA hFr
    have D3 : Hid (DocAt w3 g 0 c rs d) := O3.out.doc h0
    have c6 := D3.out.row.c6 m hm
    go_quiet (fail)
    have OQ : Hid (Owned (w3.drewN nq) B g c rs d) := O3.out.below (below_drewN w3.heap.size w3 nq) (Nat.le_refl _)
    have FQ : Fr g rs w g rs (w3.drewN nq) := F3.below (below_drewN _ w3 nq)
    have BQ : Below B w (w3.drewN nq) := B3.trans (below_drewN B w3 nq)
    have v1 : (w3.drewN nq).cell? ⟨X, 1, none⟩ = some (.int .i64 (m : Int)) := u1
    have bQ : BoxAt (w3.drewN nq) Y ⟨lv, tg, tx, ⟨none, 0, 0⟩, up, ⟨none, 0, 0⟩, hs, ⟨none, 0, 0⟩, ins⟩ := bY.keeps (keeps_drewN w3 nq)
    have c6q : (w3.drewN nq).cell? ⟨g, 0 + m * 9 + 6, none⟩ = some (.bool rs[m].hasS) := c6
    generalize w3.drewN nq = w4 at *
    clear u0 u1 u3 O3 F3 B3 bY D3
    have hml : m < d.length := by have := OQ.out.len; omega
    have cS : rs[m].hasS = (Tn.nd d m).hasS := by
      have e := ((OQ.out.doc h0).nds m hm hml).hasS
      rw [e]
      unfold Tn.nd
      simp [hml]
    rw [cS, Nat.zero_add] at c6q
    clear cS
    rcases hS : (Tn.nd d m).hasS with _ | _
    · have ACQ : Hid (addCode d ⟨9, (m : Int), tt, bf, nm, vl⟩ m (-1) true = 8) := by show _ = _; rw [AC.out, hS]; rfl
      rw [hS] at c6q
      clear hS
      go_wp2_with fail
      go_ret3
      exact ⟨.slice (some ⟨g, 0, none⟩) rs.length c, 0, by rw [ACQ.out]; rfl, BQ, fun hc => by rw [ACQ.out] at hc; cases hc⟩
    · rw [hS] at c6q
      have HS : Hid _ := hS
      clear hS
      have DQ : Hid (DocAt w4 g 0 c rs d) := OQ.out.doc h0
      have hFF := dfree_any DQ.out (by omega)
      rw [← HN.out] at hFF
      go_upto_region 10 with (go_at_call 88; refine hFF.mono ?_; rintro e w5 ⟨rfl, hb5⟩)
      have O5 : Hid (Owned w5 B g c rs d) := OQ.out.below hb5 (Nat.le_refl _)
      have F5 := FQ.below hb5
      have hBw5 : B ≤ w5.heap.size := by
        have e1 := HX.out
        have e2 := F5.size
        omega
      have B5 := BQ.trans (hb5.mono (by have e1 := HX.out; have e2 := FQ.size; omega))
      have v15 := keeps_below hb5 (Nat.le_refl _) _ _ v1
      have b5 := bQ.keeps (keeps_below hb5 (Nat.le_refl _))
      clear OQ FQ BQ v1 bQ DQ hFF hb5
      have hf3 : n ≤ rs.length := by
        have e1 := (Tn.free_spec d).1
        rw [← HN.out, ← O5.out.len] at e1
        exact e1
      by_cases h60 : 60 ≤ n
      · have ACQ : Hid (addCode d ⟨9, (m : Int), tt, bf, nm, vl⟩ m (-1) true = 5) := by show _ = _; rw [AC.out, if_neg (by rw [HS.out]; simp), if_pos h60]
        go_wp2_with fail
        go_ret3
        exact ⟨_, 0, by rw [ACQ.out]; rfl, B5, fun hc => by rw [ACQ.out] at hc; cases hc⟩
      · have ACQ : Hid (addCode d ⟨9, (m : Int), tt, bf, nm, vl⟩ m (-1) true = putCode dA n m (-1) true) := by show _ = _; rw [AC.out, if_neg (by rw [HS.out]; simp), if_neg h60]
        by_cases hnl : n < rs.length
        · have AI : Hid (dA = d.set n nN) := by show _ = _; rw [hAI.out, if_neg (by have := O5.out.len; omega)]
          have hq : ((n : Int) == (rs.length : Int)) = false := by simp; omega
          obtain ⟨O6, F6⟩ := O5.out.bare (k := n) hnl hbare
          rw [← AI.out] at O6
          have hPut := dput_any O6 (Nat.le_trans hBw5 (set9_grown _ _ _ _).size) (n := n) (m := m) (by simpa using hnl) (by simpa using hm) HLS.out (-1) true (HT2.out (by omega))
          simp only [List.length_set] at hPut
          have DJ := O5.out.doc (by omega)
          obtain ⟨hBg, hgl, hfz⟩ := O5.out.at (by omega)
          have q0 := DJ.row.c0 _ hnl
          have q1 := DJ.row.c1 _ hnl
          have q2 := DJ.row.c2 _ hnl
          have q3 := DJ.row.c3 _ hnl
          have q4 := DJ.row.c4 _ hnl
          have q5 := DJ.row.c5 _ hnl
          have q6 := DJ.row.c6 _ hnl
          have q7 := DJ.row.c7 _ hnl
          have q8 := DJ.row.c8 _ hnl
          rw [Nat.zero_add] at q0 q1 q2 q3 q4 q5 q6 q7 q8
          have v6 := F6.cell v15 hfX
          have QF6 : Hid _ := F5.trans F6
          have QB6 : Hid (Below B w (set9 w5 g n ⟨lv, tg, tx, ⟨none, 0, 0⟩, up, ⟨none, 0, 0⟩, hs, ⟨none, 0, 0⟩, ins⟩)) := B5.grown (set9_grown _ _ _ _) hBw5 (fun k hk => by cases hk; exact hBg)
          clear O6 F6 DJ
          obtain ⟨wS, hwS⟩ : ∃ wS, wS = set9 w5 g n ⟨lv, tg, tx, ⟨none, 0, 0⟩, up, ⟨none, 0, 0⟩, hs, ⟨none, 0, 0⟩, ins⟩ := ⟨_, rfl⟩
          rw [← hwS] at hPut v6 QF6 QB6
          unfold set9 at hwS
          simp only at hwS
          have HW : Hid _ := hwS
          clear hwS
          generalize rs[n] = rx at *
          obtain ⟨rl, rt, rv, ⟨ap, an, ac⟩, ru, ⟨kp, kn, kc⟩, rh, ⟨sp, sn, sc⟩, ri⟩ := rx
          simp only at q0 q1 q2 q3 q4 q5 q6 q7 q8
          obtain ⟨y0, y1, y2, y3, y4, y5, y6, y7, y8⟩ := b5
          simp only at y0 y1 y2 y3 y4 y5 y6 y7 y8
          have hxl : (n : Int) < (rs.length : Int) := by omega
          go_upto_region 15 with fail
          rw [← HW.out]
          go_wp2_with (go_at_call 84; refine hPut.mono ?_; rintro e w7 ⟨rfl, hb7, ho7⟩)
          have HO : Hid _ := ho7
          go_ret3
          refine ⟨.slice (some ⟨g, 0, none⟩) rs.length c, (n : Int), by rw [ACQ.out]; rfl, QB6.out.trans hb7, fun hc => ?_⟩
          rw [ACQ.out] at hc
          obtain ⟨rs7, h71, O7, F7⟩ := HO.out hc
          exact ⟨rfl, g, c, rs7, by rw [h71], O7, QF6.out.trans F7⟩
        · have hq : ((n : Int) == (rs.length : Int)) = true := by simp; omega
          have W6 : Below w5.heap.size w5 (w5.alloc (.cells #[.bool false, .string ⟨#[]⟩, .string ⟨#[]⟩, .slice none 0 0, .int .i64 0, .slice none 0 0, .bool false, .slice none 0 0, .bool false] 56)) := (Below.refl _ _).alloc (Nat.le_refl _) _
          obtain ⟨g', c', w6, hr, O6', F6', B6'⟩ := Owned.push (w := w5.alloc (.cells #[.bool false, .string ⟨#[]⟩, .string ⟨#[]⟩, .slice none 0 0, .int .i64 0, .slice none 0 0, .bool false, .slice none 0 0, .bool false] 56)) (O5.out.below W6 (Nat.le_refl _)) (Nat.le_trans hBw5 W6.size) h0 (by omega) 34 (a := w5.heap.size) (alloc_at _ _)
          have hlq : Hid ((rs ++ [zeroR]).length = rs.length + 1) := by show _ = _; simp
          have hfY' := hfY
          have b6 := (b5.keeps (keeps_below W6 (Nat.le_refl _))).fr F6' hfY
          have v16 := F6'.cell (keeps_below W6 (Nat.le_refl _) _ _ v15) hfX
          have hfX6 : ¬ DB g' (rs ++ [zeroR]) X := fun e => hfX (F6'.back X (lt_of_cell (keeps_below W6 (Nat.le_refl _) _ _ v15)) e)
          have F7' := (F5.below W6).trans F6'
          have B7' := (B5.trans (W6.mono hBw5)).trans B6'
          have hBw6 : B ≤ w6.heap.size := by
            have e1 := HX.out
            have e2 := F7'.size
            omega
          have O8 : Hid _ := O6'
          have AI : Hid (dA = (d ++ [Tn.zero]).set n nN) := by show _ = _; rw [hAI.out, if_pos (by have := O5.out.len; omega)]
          clear F6' B6' O6' W6 b5 v15 hfX hfY hfY' F5 B5
          generalize rs ++ [zeroR] = rq at *
          have hnq : n < rq.length := by rw [hlq.out]; omega
          have hmq : m < rq.length := by rw [hlq.out]; omega
          go_upto_region 14 with (at_builtin; refine wpList_append_at _ rfl _ _ 34 34 rfl _ _ rfl rfl hr ?_)
          clear hr
          obtain ⟨O6, F6⟩ := O8.out.bare (k := n) hnq hbare
          rw [← AI.out] at O6
          have hPut := dput_any O6 (Nat.le_trans hBw6 (set9_grown _ _ _ _).size) (n := n) (m := m) (by simpa using hnq) (by simpa using hmq) HLS.out (-1) true (HT2.out (by omega))
          simp only [List.length_set] at hPut
          have DJ := O8.out.doc (by omega)
          obtain ⟨hBg, hgl, hfz⟩ := O8.out.at (by omega)
          have q0 := DJ.row.c0 _ hnq
          have q1 := DJ.row.c1 _ hnq
          have q2 := DJ.row.c2 _ hnq
          have q3 := DJ.row.c3 _ hnq
          have q4 := DJ.row.c4 _ hnq
          have q5 := DJ.row.c5 _ hnq
          have q6 := DJ.row.c6 _ hnq
          have q7 := DJ.row.c7 _ hnq
          have q8 := DJ.row.c8 _ hnq
          rw [Nat.zero_add] at q0 q1 q2 q3 q4 q5 q6 q7 q8
          have v6 := F6.cell v16 hfX6
          have QF6 : Hid _ := F7'.trans F6
          have QB6 : Hid (Below B w (set9 w6 g' n ⟨lv, tg, tx, ⟨none, 0, 0⟩, up, ⟨none, 0, 0⟩, hs, ⟨none, 0, 0⟩, ins⟩)) := B7'.grown (set9_grown _ _ _ _) hBw6 (fun k hk => by cases hk; exact hBg)
          clear O6 F6 DJ
          obtain ⟨wS, hwS⟩ : ∃ wS, wS = set9 w6 g' n ⟨lv, tg, tx, ⟨none, 0, 0⟩, up, ⟨none, 0, 0⟩, hs, ⟨none, 0, 0⟩, ins⟩ := ⟨_, rfl⟩
          rw [← hwS] at hPut v6 QF6 QB6
          unfold set9 at hwS
          simp only at hwS
          have HW : Hid _ := hwS
          clear hwS
          generalize rq[n] = rx at *
          obtain ⟨rl, rt, rv, ⟨ap, an, ac⟩, ru, ⟨kp, kn, kc⟩, rh, ⟨sp, sn, sc⟩, ri⟩ := rx
          simp only at q0 q1 q2 q3 q4 q5 q6 q7 q8
          obtain ⟨y0, y1, y2, y3, y4, y5, y6, y7, y8⟩ := b6
          simp only at y0 y1 y2 y3 y4 y5 y6 y7 y8
          have hxl : (n : Int) < (rq.length : Int) := by omega
          go_upto_region 15 with fail
          rw [← HW.out]
          go_wp2_with (go_at_call 84; refine hPut.mono ?_; rintro e w7 ⟨rfl, hb7, ho7⟩)
          have HO : Hid _ := ho7
          go_ret3
          refine ⟨.slice (some ⟨g', 0, none⟩) rq.length c', (n : Int), by rw [ACQ.out]; rfl, QB6.out.trans hb7, fun hc => ?_⟩
          rw [ACQ.out] at hc
          obtain ⟨rs7, h71, O7, F7⟩ := HO.out hc
          exact ⟨rfl, g', c', rs7, by rw [h71], O7, QF6.out.trans F7⟩
end Go.Proofs.Ytookcjdibpccpaa

/-
  THE WALK of dom.add, in a document of the call's own, at the kind 10.
-/
namespace Go.Proofs.Ytookcjdibpccpaa
open Go.RowKit

set_option maxHeartbeats 3200000 in
set_option maxRecDepth 100000 in
theorem dadd_Ten {w : World} {B g c : Nat} {rs : List Raw} {d : Tn.Dc} (h : Owned w B g c rs d) (hB : B ≤ w.heap.size) (hlr : rs.length ≤ 900) (x : Tn.Chg) (hkd : x.kind = 10) (hnm : x.name.size ≤ 4194304) (hvl : x.value.size ≤ 4194304) {m : Nat} (hxm : x.node = (m : Int)) (hm : m < rs.length)
    (hls : ∀ s, (Tn.liD (addIn d x) m s).length ≤ 1000)
    (hT : freshE x = 0 → Tn.free d < 60 → 0 ≤ putAt (Tn.listOf (Tn.nd (addIn d x) m) true) (-1) → (Tn.listOf (Tn.nd (addIn d x) m) true).length < 12 → Tame (putDoc (addIn d x) (Tn.free d) m (-1) true) ∧ (∀ j t, (Tn.liD (putDoc (addIn d x) (Tn.free d) m (-1) true) j t).length ≤ 1000) ∧ Tn.lvD (putDoc (addIn d x) (Tn.free d) m (-1) true) (Tn.free d) = true) :
    Calls Try.prog 73 #[.slice (some ⟨g, 0, none⟩) rs.length c, chg6 x] w fun e w' => ∃ dv nv, e = .returned (.tuple #[dv, .int .i64 nv, .int .i64 (addCode d x m (-1) true)]) ∧ Below B w w' ∧ (addCode d x m (-1) true = 0 → nv = (Tn.free d : Int) ∧ ∃ g' c' rs', dv = .slice (some ⟨g', 0, none⟩) rs'.length c' ∧ Owned w' B g' c' rs' (putDoc (addIn d x) (Tn.free d) m (-1) true) ∧ Fr g rs w g' rs' w') := by
  have h0 : 0 < rs.length := by omega
  obtain ⟨kd, nd0, tt, bf, nm, vl⟩ := x
  simp only at hxm hnm hvl hkd
  subst hxm
  subst hkd
  have W1 : Below w.heap.size w (w.alloc (.cells #[.int .i64 10, .int .i64 (m : Int), .int .i64 tt, .int .i64 bf, .string nm, .string vl] 32)) := (Below.refl _ _).alloc (Nat.le_refl _) _
  have hFr := dfresh_any (w := w.alloc (.cells #[.int .i64 10, .int .i64 (m : Int), .int .i64 tt, .int .i64 bf, .string nm, .string vl] 32)) ⟨10, (m : Int), tt, bf, nm, vl⟩ hnm hvl
  simp only at hFr
  have x0 : (w.alloc (.cells #[.int .i64 10, .int .i64 (m : Int), .int .i64 tt, .int .i64 bf, .string nm, .string vl] 32)).cell? ⟨w.heap.size, 0, none⟩ = some (.int .i64 10) := by rw [World.cell?_alloc_new]; rfl
  have x1 : (w.alloc (.cells #[.int .i64 10, .int .i64 (m : Int), .int .i64 tt, .int .i64 bf, .string nm, .string vl] 32)).cell? ⟨w.heap.size, 1, none⟩ = some (.int .i64 (m : Int)) := by rw [World.cell?_alloc_new]; rfl
  have x2 : (w.alloc (.cells #[.int .i64 10, .int .i64 (m : Int), .int .i64 tt, .int .i64 bf, .string nm, .string vl] 32)).cell? ⟨w.heap.size, 2, none⟩ = some (.int .i64 tt) := by rw [World.cell?_alloc_new]; rfl
  have x3 : (w.alloc (.cells #[.int .i64 10, .int .i64 (m : Int), .int .i64 tt, .int .i64 bf, .string nm, .string vl] 32)).cell? ⟨w.heap.size, 3, none⟩ = some (.int .i64 bf) := by rw [World.cell?_alloc_new]; rfl
  have x4 : (w.alloc (.cells #[.int .i64 10, .int .i64 (m : Int), .int .i64 tt, .int .i64 bf, .string nm, .string vl] 32)).cell? ⟨w.heap.size, 4, none⟩ = some (.string nm) := by rw [World.cell?_alloc_new]; rfl
  have x5 : (w.alloc (.cells #[.int .i64 10, .int .i64 (m : Int), .int .i64 tt, .int .i64 bf, .string nm, .string vl] 32)).cell? ⟨w.heap.size, 5, none⟩ = some (.string vl) := by rw [World.cell?_alloc_new]; rfl
  have BA : Below B w (w.alloc (.cells #[.int .i64 10, .int .i64 (m : Int), .int .i64 tt, .int .i64 bf, .string nm, .string vl] 32)) := (Below.refl B w).alloc hB _
  have O1 : Owned (w.alloc (.cells #[.int .i64 10, .int .i64 (m : Int), .int .i64 tt, .int .i64 bf, .string nm, .string vl] 32)) B g c rs d := h.below W1 (Nat.le_refl _)
  have F1 : Fr g rs w g rs (w.alloc (.cells #[.int .i64 10, .int .i64 (m : Int), .int .i64 tt, .int .i64 bf, .string nm, .string vl] 32)) := (Fr.refl g rs w).below W1
  have hz1 : w.heap.size < (w.alloc (.cells #[.int .i64 10, .int .i64 (m : Int), .int .i64 tt, .int .i64 bf, .string nm, .string vl] 32)).heap.size := by simp
  have hfX : ¬ DB g rs w.heap.size := h.free h0 (Nat.le_refl _)
  unfold chg6
  simp only
  clear h W1
  rcases freshV_cases ⟨10, (m : Int), tt, bf, nm, vl⟩ with ⟨hfe, hfv⟩ | ⟨hfe, hfv⟩
  · have E : Hid (addCode d ⟨10, (m : Int), tt, bf, nm, vl⟩ m (-1) true = freshE ⟨10, (m : Int), tt, bf, nm, vl⟩) := by show _ = _; unfold addCode; rw [if_pos hfe]
    rw [hfv] at hFr
    unfold zeroN at hFr
    have hq : (freshE ⟨10, (m : Int), tt, bf, nm, vl⟩ == 0) = false := by simpa using hfe
    have QN : Hid _ := hfe
    clear hT hls hfv hfe
    generalize freshE ⟨10, (m : Int), tt, bf, nm, vl⟩ = fe at *
    go_enter Try.func73, Try.ntmps73
    go_wp2_with (go_at_call 87; refine hFr.mono ?_; rintro e w2 ⟨rfl, hb2⟩)
    go_ret3
    refine ⟨.slice (some ⟨g, 0, none⟩) rs.length c, 0, by rw [E.out]; rfl, ?_, fun hc => absurd (by rw [← E.out]; exact hc) QN.out⟩
    exact (BA.trans (hb2.mono (by omega))).alloc (by have := hb2.size; omega) _
  · rw [hfv] at hFr
    have hB0 : Below (w.alloc (.cells #[.int .i64 10, .int .i64 (m : Int), .int .i64 tt, .int .i64 bf, .string nm, .string vl] 32)).heap.size (w.alloc (.cells #[.int .i64 10, .int .i64 (m : Int), .int .i64 tt, .int .i64 bf, .string nm, .string vl] 32)) (w.alloc (.cells #[.int .i64 10, .int .i64 (m : Int), .int .i64 tt, .int .i64 bf, .string nm, .string vl] 32)) := Below.refl _ _
    have AC : Hid (addCode d ⟨10, (m : Int), tt, bf, nm, vl⟩ m (-1) true = if true = true ∧ (Tn.nd d m).hasS = false then 8 else if 60 ≤ Tn.free d then 5 else putCode (addIn d ⟨10, (m : Int), tt, bf, nm, vl⟩) (Tn.free d) m (-1) true) := by
      show _ = _
      unfold addCode
      rw [if_neg (by simp [hfe])]
    have hbare := bare_new ⟨10, (m : Int), tt, bf, nm, vl⟩
    have hAI : Hid (addIn d ⟨10, (m : Int), tt, bf, nm, vl⟩ = (if Tn.free d = d.length then d ++ [Tn.zero] else d).set (Tn.free d) (newNd ⟨10, (m : Int), tt, bf, nm, vl⟩)) := rfl
    have HT2 : Hid _ := hT hfe
    have HLS : Hid _ := hls
    obtain ⟨nR, hnR⟩ : ∃ r, r = newR ⟨10, (m : Int), tt, bf, nm, vl⟩ := ⟨_, rfl⟩
    rw [← hnR] at hFr hbare
    have ea := hbare.a
    have ek := hbare.k
    have es := hbare.s
    obtain ⟨lv, tg, tx, la, up, lk, hs, ls, ins⟩ := nR
    simp only at ea ek es
    subst ea
    subst ek
    subst es
    simp only [Raw.agg] at hFr
    clear hT hls hfv hnR hB0 hfe
    generalize newNd ⟨10, (m : Int), tt, bf, nm, vl⟩ = nN at *
    generalize addIn d ⟨10, (m : Int), tt, bf, nm, vl⟩ = dA at *
    obtain ⟨n, hn⟩ : ∃ n, n = Tn.free d := ⟨_, rfl⟩
    rw [← hn] at AC HT2 hAI ⊢
    have HN : Hid (n = Tn.free d) := hn
    clear hn
    go_enter Try.func73, Try.ntmps73
    go_upto_region 1 with fail
    generalize w.alloc (.cells #[.int .i64 10, .int .i64 (m : Int), .int .i64 tt, .int .i64 bf, .string nm, .string vl] 32) = wA at *
    go_upto_region 2 with (go_at_call 87; refine hFr.mono ?_; rintro e w2 ⟨rfl, hb2⟩)
    have B2 : Below wA.heap.size wA (w2.alloc (.cells #[.bool lv, .string tg, .string tx, .slice none 0 0, .int .i64 up, .slice none 0 0, .bool hs, .slice none 0 0, .bool ins] 56)) := hb2.alloc hb2.size _
    have K2 := keeps_below B2 (Nat.le_refl _)
    have u0 := K2 _ _ x0
    have u1 := K2 _ _ x1
    have u3 := K2 _ _ x3
    have O3 : Hid (Owned (w2.alloc (.cells #[.bool lv, .string tg, .string tx, .slice none 0 0, .int .i64 up, .slice none 0 0, .bool hs, .slice none 0 0, .bool ins] 56)) B g c rs d) := O1.below B2 (Nat.le_refl _)
    have F3 : Fr g rs w g rs (w2.alloc (.cells #[.bool lv, .string tg, .string tx, .slice none 0 0, .int .i64 up, .slice none 0 0, .bool hs, .slice none 0 0, .bool ins] 56)) := F1.below B2
    have B3 : Below B w (w2.alloc (.cells #[.bool lv, .string tg, .string tx, .slice none 0 0, .int .i64 up, .slice none 0 0, .bool hs, .slice none 0 0, .bool ins] 56)) := BA.trans (B2.mono (by omega))
    have bY := box_new w2 (⟨lv, tg, tx, ⟨none, 0, 0⟩, up, ⟨none, 0, 0⟩, hs, ⟨none, 0, 0⟩, ins⟩ : Raw) 56
    have hfY : ¬ DB g rs w2.heap.size := O1.free h0 hb2.size
    simp only at bY
    go_upto_region 4 with fail
    generalize w2.alloc (.cells #[.bool lv, .string tg, .string tx, .slice none 0 0, .int .i64 up, .slice none 0 0, .bool hs, .slice none 0 0, .bool ins] 56) = w3 at *
    generalize w2.heap.size = Y at *
    generalize hX : w.heap.size = X at *
    have HX : Hid _ := hX
    clear hX
    clear x0 x1 x2 x3 x4 x5 K2 B2 hb2 O1 F1 BA hFr
    have D3 : Hid (DocAt w3 g 0 c rs d) := O3.out.doc h0
    have c6 := D3.out.row.c6 m hm
    go_quiet (fail)
    have OQ : Hid (Owned (w3.drewN nq) B g c rs d) := O3.out.below (below_drewN w3.heap.size w3 nq) (Nat.le_refl _)
    have FQ : Fr g rs w g rs (w3.drewN nq) := F3.below (below_drewN _ w3 nq)
    have BQ : Below B w (w3.drewN nq) := B3.trans (below_drewN B w3 nq)
    have v1 : (w3.drewN nq).cell? ⟨X, 1, none⟩ = some (.int .i64 (m : Int)) := u1
    have bQ : BoxAt (w3.drewN nq) Y ⟨lv, tg, tx, ⟨none, 0, 0⟩, up, ⟨none, 0, 0⟩, hs, ⟨none, 0, 0⟩, ins⟩ := bY.keeps (keeps_drewN w3 nq)
    have c6q : (w3.drewN nq).cell? ⟨g, 0 + m * 9 + 6, none⟩ = some (.bool rs[m].hasS) := c6
    generalize w3.drewN nq = w4 at *
    clear u0 u1 u3 O3 F3 B3 bY D3
    have hml : m < d.length := by have := OQ.out.len; omega
    have cS : rs[m].hasS = (Tn.nd d m).hasS := by
      have e := ((OQ.out.doc h0).nds m hm hml).hasS
      rw [e]
      unfold Tn.nd
      simp [hml]
    rw [cS, Nat.zero_add] at c6q
    clear cS
    rcases hS : (Tn.nd d m).hasS with _ | _
    · have ACQ : Hid (addCode d ⟨10, (m : Int), tt, bf, nm, vl⟩ m (-1) true = 8) := by show _ = _; rw [AC.out, hS]; rfl
      rw [hS] at c6q
      clear hS
      go_wp2_with fail
      go_ret3
      exact ⟨.slice (some ⟨g, 0, none⟩) rs.length c, 0, by rw [ACQ.out]; rfl, BQ, fun hc => by rw [ACQ.out] at hc; cases hc⟩
    · rw [hS] at c6q
      have HS : Hid _ := hS
      clear hS
      have DQ : Hid (DocAt w4 g 0 c rs d) := OQ.out.doc h0
      have hFF := dfree_any DQ.out (by omega)
      rw [← HN.out] at hFF
      go_upto_region 10 with (go_at_call 88; refine hFF.mono ?_; rintro e w5 ⟨rfl, hb5⟩)
      have O5 : Hid (Owned w5 B g c rs d) := OQ.out.below hb5 (Nat.le_refl _)
      have F5 := FQ.below hb5
      have hBw5 : B ≤ w5.heap.size := by
        have e1 := HX.out
        have e2 := F5.size
        omega
      have B5 := BQ.trans (hb5.mono (by have e1 := HX.out; have e2 := FQ.size; omega))
      have v15 := keeps_below hb5 (Nat.le_refl _) _ _ v1
      have b5 := bQ.keeps (keeps_below hb5 (Nat.le_refl _))
      clear OQ FQ BQ v1 bQ DQ hFF hb5
      have hf3 : n ≤ rs.length := by
        have e1 := (Tn.free_spec d).1
        rw [← HN.out, ← O5.out.len] at e1
        exact e1
      by_cases h60 : 60 ≤ n
      · have ACQ : Hid (addCode d ⟨10, (m : Int), tt, bf, nm, vl⟩ m (-1) true = 5) := by show _ = _; rw [AC.out, if_neg (by rw [HS.out]; simp), if_pos h60]
        go_wp2_with fail
        go_ret3
        exact ⟨_, 0, by rw [ACQ.out]; rfl, B5, fun hc => by rw [ACQ.out] at hc; cases hc⟩
      · have ACQ : Hid (addCode d ⟨10, (m : Int), tt, bf, nm, vl⟩ m (-1) true = putCode dA n m (-1) true) := by show _ = _; rw [AC.out, if_neg (by rw [HS.out]; simp), if_neg h60]
        by_cases hnl : n < rs.length
        · have AI : Hid (dA = d.set n nN) := by show _ = _; rw [hAI.out, if_neg (by have := O5.out.len; omega)]
          have hq : ((n : Int) == (rs.length : Int)) = false := by simp; omega
          obtain ⟨O6, F6⟩ := O5.out.bare (k := n) hnl hbare
          rw [← AI.out] at O6
          have hPut := dput_any O6 (Nat.le_trans hBw5 (set9_grown _ _ _ _).size) (n := n) (m := m) (by simpa using hnl) (by simpa using hm) HLS.out (-1) true (HT2.out (by omega))
          simp only [List.length_set] at hPut
          have DJ := O5.out.doc (by omega)
          obtain ⟨hBg, hgl, hfz⟩ := O5.out.at (by omega)
          have q0 := DJ.row.c0 _ hnl
          have q1 := DJ.row.c1 _ hnl
          have q2 := DJ.row.c2 _ hnl
          have q3 := DJ.row.c3 _ hnl
          have q4 := DJ.row.c4 _ hnl
          have q5 := DJ.row.c5 _ hnl
          have q6 := DJ.row.c6 _ hnl
          have q7 := DJ.row.c7 _ hnl
          have q8 := DJ.row.c8 _ hnl
          rw [Nat.zero_add] at q0 q1 q2 q3 q4 q5 q6 q7 q8
          have v6 := F6.cell v15 hfX
          have QF6 : Hid _ := F5.trans F6
          have QB6 : Hid (Below B w (set9 w5 g n ⟨lv, tg, tx, ⟨none, 0, 0⟩, up, ⟨none, 0, 0⟩, hs, ⟨none, 0, 0⟩, ins⟩)) := B5.grown (set9_grown _ _ _ _) hBw5 (fun k hk => by cases hk; exact hBg)
          clear O6 F6 DJ
          obtain ⟨wS, hwS⟩ : ∃ wS, wS = set9 w5 g n ⟨lv, tg, tx, ⟨none, 0, 0⟩, up, ⟨none, 0, 0⟩, hs, ⟨none, 0, 0⟩, ins⟩ := ⟨_, rfl⟩
          rw [← hwS] at hPut v6 QF6 QB6
          unfold set9 at hwS
          simp only at hwS
          have HW : Hid _ := hwS
          clear hwS
          generalize rs[n] = rx at *
          obtain ⟨rl, rt, rv, ⟨ap, an, ac⟩, ru, ⟨kp, kn, kc⟩, rh, ⟨sp, sn, sc⟩, ri⟩ := rx
          simp only at q0 q1 q2 q3 q4 q5 q6 q7 q8
          obtain ⟨y0, y1, y2, y3, y4, y5, y6, y7, y8⟩ := b5
          simp only at y0 y1 y2 y3 y4 y5 y6 y7 y8
          have hxl : (n : Int) < (rs.length : Int) := by omega
          go_upto_region 15 with fail
          rw [← HW.out]
          go_wp2_with (go_at_call 84; refine hPut.mono ?_; rintro e w7 ⟨rfl, hb7, ho7⟩)
          have HO : Hid _ := ho7
          go_ret3
          refine ⟨.slice (some ⟨g, 0, none⟩) rs.length c, (n : Int), by rw [ACQ.out]; rfl, QB6.out.trans hb7, fun hc => ?_⟩
          rw [ACQ.out] at hc
          obtain ⟨rs7, h71, O7, F7⟩ := HO.out hc
          exact ⟨rfl, g, c, rs7, by rw [h71], O7, QF6.out.trans F7⟩
        · have hq : ((n : Int) == (rs.length : Int)) = true := by simp; omega
          have W6 : Below w5.heap.size w5 (w5.alloc (.cells #[.bool false, .string ⟨#[]⟩, .string ⟨#[]⟩, .slice none 0 0, .int .i64 0, .slice none 0 0, .bool false, .slice none 0 0, .bool false] 56)) := (Below.refl _ _).alloc (Nat.le_refl _) _
          obtain ⟨g', c', w6, hr, O6', F6', B6'⟩ := Owned.push (w := w5.alloc (.cells #[.bool false, .string ⟨#[]⟩, .string ⟨#[]⟩, .slice none 0 0, .int .i64 0, .slice none 0 0, .bool false, .slice none 0 0, .bool false] 56)) (O5.out.below W6 (Nat.le_refl _)) (Nat.le_trans hBw5 W6.size) h0 (by omega) 34 (a := w5.heap.size) (alloc_at _ _)
          have hlq : Hid ((rs ++ [zeroR]).length = rs.length + 1) := by show _ = _; simp
          have hfY' := hfY
          have b6 := (b5.keeps (keeps_below W6 (Nat.le_refl _))).fr F6' hfY
          have v16 := F6'.cell (keeps_below W6 (Nat.le_refl _) _ _ v15) hfX
          have hfX6 : ¬ DB g' (rs ++ [zeroR]) X := fun e => hfX (F6'.back X (lt_of_cell (keeps_below W6 (Nat.le_refl _) _ _ v15)) e)
          have F7' := (F5.below W6).trans F6'
          have B7' := (B5.trans (W6.mono hBw5)).trans B6'
          have hBw6 : B ≤ w6.heap.size := by
            have e1 := HX.out
            have e2 := F7'.size
            omega
          have O8 : Hid _ := O6'
          have AI : Hid (dA = (d ++ [Tn.zero]).set n nN) := by show _ = _; rw [hAI.out, if_pos (by have := O5.out.len; omega)]
          clear F6' B6' O6' W6 b5 v15 hfX hfY hfY' F5 B5
          generalize rs ++ [zeroR] = rq at *
          have hnq : n < rq.length := by rw [hlq.out]; omega
          have hmq : m < rq.length := by rw [hlq.out]; omega
          go_upto_region 14 with (at_builtin; refine wpList_append_at _ rfl _ _ 34 34 rfl _ _ rfl rfl hr ?_)
          clear hr
          obtain ⟨O6, F6⟩ := O8.out.bare (k := n) hnq hbare
          rw [← AI.out] at O6
          have hPut := dput_any O6 (Nat.le_trans hBw6 (set9_grown _ _ _ _).size) (n := n) (m := m) (by simpa using hnq) (by simpa using hmq) HLS.out (-1) true (HT2.out (by omega))
          simp only [List.length_set] at hPut
          have DJ := O8.out.doc (by omega)
          obtain ⟨hBg, hgl, hfz⟩ := O8.out.at (by omega)
          have q0 := DJ.row.c0 _ hnq
          have q1 := DJ.row.c1 _ hnq
          have q2 := DJ.row.c2 _ hnq
          have q3 := DJ.row.c3 _ hnq
          have q4 := DJ.row.c4 _ hnq
          have q5 := DJ.row.c5 _ hnq
          have q6 := DJ.row.c6 _ hnq
          have q7 := DJ.row.c7 _ hnq
          have q8 := DJ.row.c8 _ hnq
          rw [Nat.zero_add] at q0 q1 q2 q3 q4 q5 q6 q7 q8
          have v6 := F6.cell v16 hfX6
          have QF6 : Hid _ := F7'.trans F6
          have QB6 : Hid (Below B w (set9 w6 g' n ⟨lv, tg, tx, ⟨none, 0, 0⟩, up, ⟨none, 0, 0⟩, hs, ⟨none, 0, 0⟩, ins⟩)) := B7'.grown (set9_grown _ _ _ _) hBw6 (fun k hk => by cases hk; exact hBg)
          clear O6 F6 DJ
          obtain ⟨wS, hwS⟩ : ∃ wS, wS = set9 w6 g' n ⟨lv, tg, tx, ⟨none, 0, 0⟩, up, ⟨none, 0, 0⟩, hs, ⟨none, 0, 0⟩, ins⟩ := ⟨_, rfl⟩
          rw [← hwS] at hPut v6 QF6 QB6
          unfold set9 at hwS
          simp only at hwS
          have HW : Hid _ := hwS
          clear hwS
          generalize rq[n] = rx at *
          obtain ⟨rl, rt, rv, ⟨ap, an, ac⟩, ru, ⟨kp, kn, kc⟩, rh, ⟨sp, sn, sc⟩, ri⟩ := rx
          simp only at q0 q1 q2 q3 q4 q5 q6 q7 q8
          obtain ⟨y0, y1, y2, y3, y4, y5, y6, y7, y8⟩ := b6
          simp only at y0 y1 y2 y3 y4 y5 y6 y7 y8
          have hxl : (n : Int) < (rq.length : Int) := by omega
          go_upto_region 15 with fail
          rw [← HW.out]
          go_wp2_with (go_at_call 84; refine hPut.mono ?_; rintro e w7 ⟨rfl, hb7, ho7⟩)
          have HO : Hid _ := ho7
          go_ret3
          refine ⟨.slice (some ⟨g', 0, none⟩) rq.length c', (n : Int), by rw [ACQ.out]; rfl, QB6.out.trans hb7, fun hc => ?_⟩
          rw [ACQ.out] at hc
          obtain ⟨rs7, h71, O7, F7⟩ := HO.out hc
          exact ⟨rfl, g', c', rs7, by rw [h71], O7, QF6.out.trans F7⟩
end Go.Proofs.Ytookcjdibpccpaa
