/-
  OWN WORK: Kta, Ktb, Ktc, Ktd, Kte, Ktj, Ktl.
-/
import Derived.Test.YtookcjdibpccpacDoorRows
import Derived.WalkKit
import Derived.ProofKit
import Derived.WalkSpells
import Derived.WalkLawsBesides
import Derived.OpenShut
import Derived.Deep.DeepHandedRow
import Derived.Lib.LaidTab
import Derived.LaidMore
import Derived.Maps.OwnOps
import Derived.Maps.OwnSet
import Derived.Maps.Views
import Derived.Laws.StructEq
/-
  WHAT ROLES ARE, AS A TABLE; the package's own table holds it, cell for cell.
-/
namespace Go.Proofs.YtookcjdibpccpacDoor
open Go.RowKit

structure Kd where
  name : List UInt8
  content : Bool
  leaf : Bool
  level : Bool
  checked : Bool
  named : Bool
  need : Nat

def kl : List Kd := [
  ⟨[], false, false, false, false, false, 0⟩,
  ⟨[103, 114, 111, 117, 112], false, false, false, false, true, 0⟩,
  ⟨[109, 97, 105, 110], false, false, false, false, true, 0⟩,
  ⟨[110, 97, 118, 105, 103, 97, 116, 105, 111, 110], false, false, false, false, true, 0⟩,
  ⟨[104, 101, 97, 100, 105, 110, 103], true, false, true, false, true, 0⟩,
  ⟨[108, 105, 115, 116], false, false, false, false, true, 0⟩,
  ⟨[108, 105, 115, 116, 105, 116, 101, 109], false, false, true, false, false, 5⟩,
  ⟨[108, 105, 110, 107], true, false, false, false, true, 0⟩,
  ⟨[98, 117, 116, 116, 111, 110], true, true, false, false, true, 0⟩,
  ⟨[99, 104, 101, 99, 107, 98, 111, 120], true, true, false, true, true, 0⟩,
  ⟨[116, 101, 120, 116], false, true, false, false, false, 0⟩,
  ⟨[105, 109, 103], false, true, false, false, true, 0⟩,
  ⟨[116, 101, 120, 116, 98, 111, 120], false, true, false, false, true, 0⟩,
  ⟨[116, 97, 98, 108, 101], false, false, false, false, true, 0⟩,
  ⟨[114, 111, 119], true, false, false, false, true, 13⟩,
  ⟨[99, 101, 108, 108], true, false, false, false, true, 14⟩,
  ⟨[114, 101, 103, 105, 111, 110], false, false, false, false, true, 0⟩,
  ⟨[100, 105, 97, 108, 111, 103], false, false, false, false, true, 0⟩,
  ⟨[103, 101, 110, 101, 114, 105, 99], false, false, false, false, false, 0⟩]
def k0 : Kd := ⟨[], false, false, false, false, false, 0⟩
def kt (i : Nat) : Kd := kl.getD i k0
def kval (k : Kd) : Value := .agg #[.string ⟨k.name.toArray⟩, .bool k.content, .bool k.leaf, .bool k.level, .bool k.checked, .bool k.named, .int .i64 (k.need : Int)]
def kd {H : Type} (k : Kd) : DataW H := .agg [.lit (.string k.name), .lit (.bool k.content), .lit (.bool k.leaf), .lit (.bool k.level), .lit (.bool k.checked), .lit (.bool k.named), .lit (.int .i64 (k.need : Int))]

structure RowAt (w : World) (i : Nat) : Prop where
  c0 : w.cell? ⟨0, i * 7, none⟩ = some (.string ⟨(kt i).name.toArray⟩)
  c1 : w.cell? ⟨0, i * 7 + 1, none⟩ = some (.bool (kt i).content)
  c2 : w.cell? ⟨0, i * 7 + 2, none⟩ = some (.bool (kt i).leaf)
  c3 : w.cell? ⟨0, i * 7 + 3, none⟩ = some (.bool (kt i).level)
  c4 : w.cell? ⟨0, i * 7 + 4, none⟩ = some (.bool (kt i).checked)
  c5 : w.cell? ⟨0, i * 7 + 5, none⟩ = some (.bool (kt i).named)
  c6 : w.cell? ⟨0, i * 7 + 6, none⟩ = some (.int .i64 ((kt i).need : Int))
def TabAt (w : World) : Prop := 0 < w.heap.size ∧ ∀ i, i < 19 → RowAt w i

theorem TabAt.below {w w' : World} (h : TabAt w) (hb : Below w.heap.size w w') : TabAt w' :=
  ⟨Nat.lt_of_lt_of_le h.1 hb.size, fun i hi => by
    have r := h.2 i hi
    have c : ∀ o, w'.cell? ⟨0, o, none⟩ = w.cell? ⟨0, o, none⟩ := fun o => hb.cell (by exact h.1)
    exact ⟨by rw [c]; exact r.c0, by rw [c]; exact r.c1, by rw [c]; exact r.c2, by rw [c]; exact r.c3, by rw [c]; exact r.c4, by rw [c]; exact r.c5, by rw [c]; exact r.c6⟩⟩

theorem gTab : Tryd.prog.globalNamed "townreader/kinds.byRole" = some 0 := by kernel_rfl
theorem gTabType : (Tryd.prog.globals[0]?).map (·.type) = some 28 := by kernel_rfl
theorem cellsK : Tryd.prog.cellsOf 24 = 7 := by kernel_rfl
theorem cellsKA : Tryd.prog.cellsOf 28 = 133 := by kernel_rfl
theorem cellsS : Tryd.prog.cellsOf 9 = 1 := by kernel_rfl
theorem cellsB : Tryd.prog.cellsOf 4 = 1 := by kernel_rfl
theorem cellsI : Tryd.prog.cellsOf 3 = 1 := by kernel_rfl
theorem laid_eq {H : Type} : (Rows.laid_townreader_kinds_byRole : DataW H) = .agg ((List.range 19).map fun i => kd (kt i)) := rfl

theorem tab_of_laid {W : World} (h : laidMetH Tryd.prog [("townreader/kinds.byRole", Rows.laid_townreader_kinds_byRole)] W) : TabAt W := by
  rw [MakeChecks.laidMetH_plain _ _ _ (by kernel_rfl)] at h
  obtain ⟨ps, ⟨g0, t0, cs0, f0, p0, q0, hg0, ht0, hv0, hd0, _⟩, _⟩ := h
  obtain rfl := Option.some.inj (gTab.symm.trans hg0)
  obtain rfl := Option.some.inj (gTabType.symm.trans ht0)
  obtain ⟨xs, m, rfl, hx, hlen, hn, hel⟩ := DataW.trod_array Tryd.underlying28 hd0
  rw [laid_eq] at hx
  have hx1 : ((List.range 19).map fun i => kd (kt i)) = xs.map (·.1) := by
    have := congrArg Prod.fst hx
    simpa using this
  have cell : ∀ i v, cs0.toList[i]? = some v → W.cell? ⟨0, i, none⟩ = some v := by
    intro i v hv
    have := World.var?_cell hg0 hv0 i
    rw [this]
    simpa using hv
  have rows : ∀ i, i < 19 → RowAt W i := by
    intro i hi
    have e1 := hel i hi
    rw [cellsK] at e1
    have hxi : i < xs.length := by omega
    rw [List.getElem?_eq_getElem hxi] at e1
    have e2 : (xs[i]).1 = kd (kt i) := by
      have := congrArg (fun l => l[i]?) hx1
      simp [hi, hxi] at this
      exact this.symm
    obtain ⟨ys, m', _, e3, l3, n3, hf⟩ := DataW.trod_struct Tryd.underlying24 e1
    rw [cellsK] at l3
    have e4 : [DataW.lit (.string (kt i).name), .lit (.bool (kt i).content), .lit (.bool (kt i).leaf), .lit (.bool (kt i).level), .lit (.bool (kt i).checked), .lit (.bool (kt i).named), .lit (.int .i64 ((kt i).need : Int))] = ys.map (·.1) := by
      rw [e3] at e2
      unfold kd at e2
      injection e2 with e2
      exact e2.symm
    have g0 : DataW.trod (fun x => ()) Tryd.prog W 0 (fun x => true) false m' 9 (List.take (Tryd.prog.cellsOf 9) (List.drop 0 (List.take 7 (List.drop (i * 7) cs0.toList)))) = ys[0]? := hf 0 _ rfl
    rw [cellsS] at g0
    have g1 : DataW.trod (fun x => ()) Tryd.prog W 0 (fun x => true) false m' 4 (List.take (Tryd.prog.cellsOf 4) (List.drop 1 (List.take 7 (List.drop (i * 7) cs0.toList)))) = ys[1]? := hf 1 _ rfl
    rw [cellsB] at g1
    have g2 : DataW.trod (fun x => ()) Tryd.prog W 0 (fun x => true) false m' 4 (List.take (Tryd.prog.cellsOf 4) (List.drop 2 (List.take 7 (List.drop (i * 7) cs0.toList)))) = ys[2]? := hf 2 _ rfl
    rw [cellsB] at g2
    have g3 : DataW.trod (fun x => ()) Tryd.prog W 0 (fun x => true) false m' 4 (List.take (Tryd.prog.cellsOf 4) (List.drop 3 (List.take 7 (List.drop (i * 7) cs0.toList)))) = ys[3]? := hf 3 _ rfl
    rw [cellsB] at g3
    have g4 : DataW.trod (fun x => ()) Tryd.prog W 0 (fun x => true) false m' 4 (List.take (Tryd.prog.cellsOf 4) (List.drop 4 (List.take 7 (List.drop (i * 7) cs0.toList)))) = ys[4]? := hf 4 _ rfl
    rw [cellsB] at g4
    have g5 : DataW.trod (fun x => ()) Tryd.prog W 0 (fun x => true) false m' 4 (List.take (Tryd.prog.cellsOf 4) (List.drop 5 (List.take 7 (List.drop (i * 7) cs0.toList)))) = ys[5]? := hf 5 _ rfl
    rw [cellsB] at g5
    have g6 : DataW.trod (fun x => ()) Tryd.prog W 0 (fun x => true) false m' 3 (List.take (Tryd.prog.cellsOf 3) (List.drop 6 (List.take 7 (List.drop (i * 7) cs0.toList)))) = ys[6]? := hf 6 _ rfl
    rw [cellsI] at g6
    have at7 : ∀ j, j < 7 → cs0.toList[i * 7 + j]? = (List.take 7 (List.drop (i * 7) cs0.toList))[j]? := by
      intro j hj
      rw [List.getElem?_take_of_lt hj, List.getElem?_drop]
    clear hx hx1 hel e1 hf e3 hd0
    generalize List.take 7 (List.drop (i * 7) cs0.toList) = L at *
    match L, l3, ys, n3 with
    | [c0, c1, c2, c3, c4, c5, c6], _, [y0, y1, y2, y3, y4, y5, y6], _ =>
      simp only [List.drop_zero, List.drop_succ_cons, List.take_succ_cons, List.take_zero, List.getElem?_cons_zero, List.getElem?_cons_succ] at g0 g1 g2 g3 g4 g5 g6
      simp only [List.map_cons, List.map_nil, List.cons.injEq, and_true] at e4
      obtain ⟨f0, f1, f2, f3, f4, f5, f6⟩ := e4
      obtain ⟨s, h1, h2, _⟩ := DataW.trod_string Tryd.underlying9 g0
      obtain ⟨b1, i1, j1⟩ := DataW.trod_bool Tryd.underlying4 g1
      obtain ⟨b2, i2, j2⟩ := DataW.trod_bool Tryd.underlying4 g2
      obtain ⟨b3, i3, j3⟩ := DataW.trod_bool Tryd.underlying4 g3
      obtain ⟨b4, i4, j4⟩ := DataW.trod_bool Tryd.underlying4 g4
      obtain ⟨b5, i5, j5⟩ := DataW.trod_bool Tryd.underlying4 g5
      obtain ⟨z6, i6, j6, _⟩ := DataW.trod_int Tryd.underlying3 g6
      subst h2 j1 j2 j3 j4 j5 j6
      simp only [List.cons.injEq, and_true] at h1 i1 i2 i3 i4 i5 i6
      subst h1 i1 i2 i3 i4 i5 i6
      simp only [DataW.lit.injEq, Lit.string.injEq, Lit.bool.injEq, Lit.int.injEq, true_and] at f0 f1 f2 f3 f4 f5 f6
      refine ⟨cell _ _ ?_, cell _ _ ?_, cell _ _ ?_, cell _ _ ?_, cell _ _ ?_, cell _ _ ?_, cell _ _ ?_⟩
      · have := at7 0 (by omega)
        rw [Nat.add_zero] at this
        rw [this, f0]
        simp
      · rw [at7 1 (by omega), f1]; rfl
      · rw [at7 2 (by omega), f2]; rfl
      · rw [at7 3 (by omega), f3]; rfl
      · rw [at7 4 (by omega), f4]; rfl
      · rw [at7 5 (by omega), f5]; rfl
      · rw [at7 6 (by omega), f6]; rfl
  refine ⟨?_, rows⟩
  have h0 := (rows 0 (by omega)).c0
  exact World.block_lt_of_cell? _ _ h0
end Go.Proofs.YtookcjdibpccpacDoor

/-
  THE WALK of kinds.Of.
-/
namespace Go.Proofs.YtookcjdibpccpacDoor
open Go.RowKit

theorem field_name (x0 x1 x2 x3 x4 x5 x6 : Value) (w : World) : (Instr.field 24 (.agg #[x0, x1, x2, x3, x4, x5, x6]) 0).run Tryd.prog w = .ok x0 w := by kernel_rfl
theorem field_leaf (x0 x1 x2 x3 x4 x5 x6 : Value) (w : World) : (Instr.field 24 (.agg #[x0, x1, x2, x3, x4, x5, x6]) 2).run Tryd.prog w = .ok x2 w := by kernel_rfl
theorem field_need (x0 x1 x2 x3 x4 x5 x6 : Value) (w : World) : (Instr.field 24 (.agg #[x0, x1, x2, x3, x4, x5, x6]) 6).run Tryd.prog w = .ok x6 w := by kernel_rfl

def ofD (r : Int) : Kd := if 0 ≤ r ∧ r < 19 then kt r.toNat else k0

set_option maxHeartbeats 400000 in
theorem of_any {w : World} (T : TabAt w) (r : Int) : Calls Tryd.prog 5 #[.int .i64 r] w fun e w' => e = .returned (kval (ofD r)) ∧ Below w.heap.size w w' := by
  by_cases h0 : 0 ≤ r
  · by_cases h1 : r < 19
    · obtain ⟨k, rfl⟩ := Int.eq_ofNat_of_zero_le h0
      have hk : k < 19 := by omega
      have R := T.2 k hk
      have E : Hid (ofD (k : Int) = kt k) := by show _ = _; unfold ofD; rw [if_pos ⟨h0, h1⟩, Int.toNat_natCast]
      have al : ∀ o j, (w.alloc o).cell? ⟨0, j, none⟩ = w.cell? ⟨0, j, none⟩ := fun o j => World.cell?_alloc_lt _ _ _ (by exact T.1)
      obtain ⟨c0, c1, c2, c3, c4, c5, c6⟩ := R
      have d0 := fun o => (al o _).trans c0
      have d1 := fun o => (al o _).trans c1
      have d2 := fun o => (al o _).trans c2
      have d3 := fun o => (al o _).trans c3
      have d4 := fun o => (al o _).trans c4
      have d5 := fun o => (al o _).trans c5
      have d6 := fun o => (al o _).trans c6
      clear T al c0 c1 c2 c3 c4 c5 c6
      generalize kt k = K at *
      obtain ⟨nm, b1, b2, b3, b4, b5, z⟩ := K
      simp only at d0 d1 d2 d3 d4 d5 d6
      go_enter Tryd.func5, Tryd.ntmps5
      go_wp2_with fail
      refine bodyPost_ret (v := .agg #[.string ⟨nm.toArray⟩, .bool b1, .bool b2, .bool b3, .bool b4, .bool b5, .int .i64 (z : Int)]) (by simp [results, Tryd.results5, go_sem]) rfl ⟨by rw [E.out]; rfl, ?_⟩
      exact (Below.refl _ _).alloc (Nat.le_refl _) _
    · have E : Hid (ofD r = k0) := by show _ = _; unfold ofD; rw [if_neg (by omega)]
      clear T
      go_enter Tryd.func5, Tryd.ntmps5
      go_wp2_with fail
      refine bodyPost_ret (v := .agg #[.string ⟨#[]⟩, .bool false, .bool false, .bool false, .bool false, .bool false, .int .i64 0]) (by simp [results, Tryd.results5, go_sem]) rfl ⟨by rw [E.out]; rfl, ?_⟩
      exact (Below.refl _ _).alloc (Nat.le_refl _) _
  · have E : Hid (ofD r = k0) := by show _ = _; unfold ofD; rw [if_neg (by omega)]
    clear T
    go_enter Tryd.func5, Tryd.ntmps5
    go_wp2_with fail
    refine bodyPost_ret (v := .agg #[.string ⟨#[]⟩, .bool false, .bool false, .bool false, .bool false, .bool false, .int .i64 0]) (by simp [results, Tryd.results5, go_sem]) rfl ⟨by rw [E.out]; rfl, ?_⟩
    exact (Below.refl _ _).alloc (Nat.le_refl _) _

end Go.Proofs.YtookcjdibpccpacDoor

/-
  MAPS OF TEXTS TO NUMBERS, OF THE CALL's OWN: what was put last for a text is there.
-/
namespace Go.Proofs.YtookcjdibpccpacDoor
open Go.RowKit Go.Maps

theorem keyS : Keyed Tryd.prog 9 := string_keyed Tryd.underlying9
theorem zeroI (w : World) : (zeroValue 3).run Tryd.prog w = .ok (.int .i64 0) w := by kernel_rfl

def mp (ps : List (List UInt8 × Nat)) : DataW Unit := ps.foldl (fun D p => D.put (.string p.1) (.lit (.int .i64 (p.2 : Int)))) (.map [])
/-- what was put last -/
def lk (ps : List (List UInt8 × Nat)) (s : List UInt8) : Option Nat := ps.foldl (fun a p => if p.1 = s then some p.2 else a) none

theorem mp_is (ps : List (List UInt8 × Nat)) : ∀ D : DataW Unit, IsMap D → IsMap (ps.foldl (fun D p => D.put (.string p.1) (.lit (.int .i64 (p.2 : Int)))) D) := by
  induction ps with
  | nil => exact fun D h => h
  | cons p ps ih => exact fun D h => ih _ (h.put _ _)

theorem mp_look (s : List UInt8) (ps : List (List UInt8 × Nat)) : ∀ (D : DataW Unit) (a : Option Nat), IsMap D →
    (∀ z, D.atKey (.string s) z = (match a with | some n => .lit (.int .i64 (n : Int)) | none => z)) → has D (.string s) = a.isSome →
    (∀ z, (ps.foldl (fun D p => D.put (.string p.1) (.lit (.int .i64 (p.2 : Int)))) D).atKey (.string s) z = (match ps.foldl (fun a p => if p.1 = s then some p.2 else a) a with | some n => .lit (.int .i64 (n : Int)) | none => z)) ∧
    has (ps.foldl (fun D p => D.put (.string p.1) (.lit (.int .i64 (p.2 : Int)))) D) (.string s) = (ps.foldl (fun a p => if p.1 = s then some p.2 else a) a).isSome := by
  induction ps with
  | nil => exact fun D a _ h1 h2 => ⟨h1, h2⟩
  | cons p ps ih =>
    intro D a hD h1 h2
    rw [List.foldl_cons, List.foldl_cons]
    by_cases e : p.1 = s
    · rw [if_pos e, e]
      exact ih _ _ (hD.put _ _) (fun z => by rw [atKey_put_same hD (by trivial)]) (by rw [has_put_same hD (by trivial)]; rfl)
    · rw [if_neg e]
      have ne : Lit.string s ≠ Lit.string p.1 := fun h => e (by injection h with h; exact h.symm)
      exact ih _ _ (hD.put _ _) (fun z => by rw [atKey_put_other ne]; exact h1 z) (by rw [has_put_other ne]; exact h2)

theorem mp_at (ps : List (List UInt8 × Nat)) (s : List UInt8) : (mp ps).atKey (.string s) (.lit (.int .i64 0)) = .lit (.int .i64 (((lk ps s).getD 0 : Nat) : Int)) := by
  have h := (mp_look s ps (.map []) none isMap_empty (fun _ => rfl) rfl).1 (.lit (.int .i64 0))
  unfold mp lk
  rw [h]
  cases ps.foldl (fun a p => if p.1 = s then some p.2 else a) none <;> rfl
theorem mp_has (ps : List (List UInt8 × Nat)) (s : List UInt8) : has (mp ps) (.string s) = (lk ps s).isSome :=
  (mp_look s ps (.map []) none isMap_empty (fun _ => rfl) rfl).2

/-- block b is a map that was filled so -/
def MapAt (w : World) (b : Nat) (ps : List (List UInt8 × Nat)) : Prop := w.ownsMap Tryd.prog 9 (plainElem Tryd.prog 3) b ps.length (mp ps)

theorem map_made (w : World) : MapAt (w.alloc (.map #[] 0)) w.heap.size [] := World.ownsMap_made w Tryd.prog 9 _

theorem keyL (l : List UInt8) (h : l.length ≤ 1000) : keyOf Tryd.prog 9 (.string ⟨l.toArray⟩) = some (.string l) := by
  have := WideMaps.keyOf_string_mk (s := ⟨l.toArray⟩) Tryd.underlying9 (by show l.toArray.size ≤ maxLen; unfold maxLen; simp; omega)
  simpa using this

theorem map_put {w : World} {ops : Array Oper} {rest : List Oper} {o : Oper} {a : Act} {Q : Exit → Act → World → Prop}
    (hg : o.guard = none) (m x v : Operand) (hop : o.op = Op.mapUpdate 30 m x v) (b : Nat) (ps : List (List UInt8 × Nat)) (l : List UInt8) (n : Nat) (hl : l.length ≤ 1000) (hp : ps.length ≤ 1000) (hn : n ≤ 1000)
    (hm : a.eval m = .map (some b)) (h : MapAt w b ps) (hx : a.eval x = .string ⟨l.toArray⟩) (hv : a.eval v = .int .i64 (n : Int))
    (hK : ∀ w', MapAt w' b (ps ++ [(l, n)]) → w.grownBy w' (some b) → wpList Tryd.prog ops Q rest (a.put o.dst undef) w') : wpList Tryd.prog ops Q (o :: rest) a w := by
  refine wpList_mapUpdate_own w hg m x v 30 hop 9 3 keyS Tryd.underlying30 _ b ps.length (mp ps) hm h (by unfold maxLen; omega) _ _ (.string l) hx hv (keyL l hl) (.lit (.int .i64 (n : Int))) [] (plainElem_int Tryd.underlying3 (WalkArith.wf_i64 (by omega))) ?_
  intro w' g1 g2
  refine hK w' ?_ g2
  unfold MapAt mp
  rw [List.length_append, List.foldl_append]
  exact g1

theorem map_upd {w : World} {b : Nat} {ps : List (List UInt8 × Nat)} (h : MapAt w b ps) (l : List UInt8) (n : Nat) (hl : l.length ≤ 1000) (hp : ps.length ≤ 1000) (hn : n ≤ 1000) :
    ∃ w', (Instr.mapUpdate 30 (.map (some b)) (.string ⟨l.toArray⟩) (.int .i64 (n : Int))).run Tryd.prog w = .ok () w' ∧ MapAt w' b (ps ++ [(l, n)]) ∧ w.grownBy w' (some b) := by
  obtain ⟨w', g0, g1, g2⟩ := World.ownsMap.update h keyS Tryd.underlying30 (by unfold maxLen; omega) (keyL l hl) (val := .int .i64 (n : Int)) (d := .lit (.int .i64 (n : Int))) (ps := []) (plainElem_int Tryd.underlying3 (WalkArith.wf_i64 (by omega)))
  refine ⟨w', g0, ?_, g2⟩
  unfold MapAt mp
  rw [List.length_append, List.foldl_append]
  exact g1

theorem map_look {w : World} {ops : Array Oper} {rest : List Oper} {o : Oper} {a : Act} {Q : Exit → Act → World → Prop}
    (hg : o.guard = none) (m x : Operand) (hop : o.op = Op.lookup 30 m x true) (b : Nat) (ps : List (List UInt8 × Nat)) (s : ByteArray) (hs : s.size ≤ maxLen)
    (hm : a.eval m = .map (some b)) (h : MapAt w b ps) (hx : a.eval x = .string s)
    (hK : wpList Tryd.prog ops Q rest (a.put o.dst (.tuple #[.int .i64 (((lk ps s.data.toList).getD 0 : Nat) : Int), .bool (lk ps s.data.toList).isSome])) w) : wpList Tryd.prog ops Q (o :: rest) a w := by
  refine wpList_lookup_own_ok_int w hg m x 30 hop 9 3 .i64 keyS Tryd.underlying30 Tryd.underlying3 (zeroI _) b ps.length (mp ps) hm h _ (.string s.data.toList) hx (WideMaps.keyOf_string_mk Tryd.underlying9 hs) ?_
  intro c hc _
  rw [mp_at] at hc
  have e : c = (((lk ps s.data.toList).getD 0 : Nat) : Int) := by injection hc with hc; injection hc with _ hc; exact hc.symm
  rw [mp_has, e]
  exact hK
end Go.Proofs.YtookcjdibpccpacDoor

/-
  THE WALKS of kinds.rolesByName, rolesByTag, Find, Tag.
-/
namespace Go.Proofs.YtookcjdibpccpacDoor
open Go.RowKit Go.Maps

def tagL : List (List UInt8 × Nat) := [([109, 97, 105, 110], 2), ([110, 97, 118], 3), ([104, 49], 4), ([104, 50], 4), ([104, 51], 4), ([117, 108], 5), ([108, 105], 6), ([98, 117, 116, 116, 111, 110], 8), ([116, 97, 98, 108, 101], 13), ([116, 114], 14), ([116, 100], 15), ([100, 105, 97, 108, 111, 103], 17)]
/-- what stands in the map behind the rounds of the roles below k -/
def nmL : Nat → List (List UInt8 × Nat)
  | 0 => [([110, 111, 110, 101], 0), ([112, 114, 101, 115, 101, 110, 116, 97, 116, 105, 111, 110], 0)]
  | k + 1 => if k = 0 ∨ k = 10 ∨ k = 18 then nmL k else nmL k ++ [((kt k).name, k)]
theorem nmL_len : ∀ k, (nmL k).length ≤ k + 2
  | 0 => Nat.le_refl _
  | k + 1 => by
    have := nmL_len k
    unfold nmL
    split
    · omega
    · simp; omega
theorem kt_len : ∀ k, k < 19 → (kt k).name.length ≤ 1000 := by decide

set_option maxHeartbeats 800000 in
set_option maxRecDepth 100000 in
theorem byTag_any (w : World) : Calls Tryd.prog 9 #[] w fun e w' => ∃ b, e = .returned (.map (some b)) ∧ MapAt w' b tagL ∧ Below w.heap.size w w' := by
  obtain ⟨w0, hw0⟩ : ∃ w0, w0 = w.alloc (.map #[] 0) := ⟨_, rfl⟩
  have M0 : MapAt w0 w.heap.size [] := by rw [hw0]; exact map_made w
  have B0 : Below w.heap.size w w0 := by rw [hw0]; exact (Below.refl _ _).alloc (Nat.le_refl _) _
  have S0 : w.heap.size < w0.heap.size := by rw [hw0]; simp
  have W0 : Hid (w0 = w.alloc (.map #[] 0)) := hw0
  obtain ⟨w1, q1, M1, g1⟩ := map_upd M0 [109, 97, 105, 110] 2 (by decide) (by decide) (by decide)
  have B1 := B0.grown g1 (Nat.le_of_lt S0) (fun j hj => by cases hj; exact Nat.le_refl _)
  have S1 := Nat.lt_of_lt_of_le S0 g1.size
  have r1 : (Instr.mapUpdate 30 (.map (some w.heap.size)) (.string ⟨#[109, 97, 105, 110]⟩) (.int .i64 2)).run Tryd.prog w0 = .ok () w1 := q1
  obtain ⟨w2, q2, M2, g2⟩ := map_upd M1 [110, 97, 118] 3 (by decide) (by decide) (by decide)
  have B2 := B1.grown g2 (Nat.le_of_lt S1) (fun j hj => by cases hj; exact Nat.le_refl _)
  have S2 := Nat.lt_of_lt_of_le S1 g2.size
  have r2 : (Instr.mapUpdate 30 (.map (some w.heap.size)) (.string ⟨#[110, 97, 118]⟩) (.int .i64 3)).run Tryd.prog w1 = .ok () w2 := q2
  obtain ⟨w3, q3, M3, g3⟩ := map_upd M2 [104, 49] 4 (by decide) (by decide) (by decide)
  have B3 := B2.grown g3 (Nat.le_of_lt S2) (fun j hj => by cases hj; exact Nat.le_refl _)
  have S3 := Nat.lt_of_lt_of_le S2 g3.size
  have r3 : (Instr.mapUpdate 30 (.map (some w.heap.size)) (.string ⟨#[104, 49]⟩) (.int .i64 4)).run Tryd.prog w2 = .ok () w3 := q3
  obtain ⟨w4, q4, M4, g4⟩ := map_upd M3 [104, 50] 4 (by decide) (by decide) (by decide)
  have B4 := B3.grown g4 (Nat.le_of_lt S3) (fun j hj => by cases hj; exact Nat.le_refl _)
  have S4 := Nat.lt_of_lt_of_le S3 g4.size
  have r4 : (Instr.mapUpdate 30 (.map (some w.heap.size)) (.string ⟨#[104, 50]⟩) (.int .i64 4)).run Tryd.prog w3 = .ok () w4 := q4
  obtain ⟨w5, q5, M5, g5⟩ := map_upd M4 [104, 51] 4 (by decide) (by decide) (by decide)
  have B5 := B4.grown g5 (Nat.le_of_lt S4) (fun j hj => by cases hj; exact Nat.le_refl _)
  have S5 := Nat.lt_of_lt_of_le S4 g5.size
  have r5 : (Instr.mapUpdate 30 (.map (some w.heap.size)) (.string ⟨#[104, 51]⟩) (.int .i64 4)).run Tryd.prog w4 = .ok () w5 := q5
  obtain ⟨w6, q6, M6, g6⟩ := map_upd M5 [117, 108] 5 (by decide) (by decide) (by decide)
  have B6 := B5.grown g6 (Nat.le_of_lt S5) (fun j hj => by cases hj; exact Nat.le_refl _)
  have S6 := Nat.lt_of_lt_of_le S5 g6.size
  have r6 : (Instr.mapUpdate 30 (.map (some w.heap.size)) (.string ⟨#[117, 108]⟩) (.int .i64 5)).run Tryd.prog w5 = .ok () w6 := q6
  obtain ⟨w7, q7, M7, g7⟩ := map_upd M6 [108, 105] 6 (by decide) (by decide) (by decide)
  have B7 := B6.grown g7 (Nat.le_of_lt S6) (fun j hj => by cases hj; exact Nat.le_refl _)
  have S7 := Nat.lt_of_lt_of_le S6 g7.size
  have r7 : (Instr.mapUpdate 30 (.map (some w.heap.size)) (.string ⟨#[108, 105]⟩) (.int .i64 6)).run Tryd.prog w6 = .ok () w7 := q7
  obtain ⟨w8, q8, M8, g8⟩ := map_upd M7 [98, 117, 116, 116, 111, 110] 8 (by decide) (by decide) (by decide)
  have B8 := B7.grown g8 (Nat.le_of_lt S7) (fun j hj => by cases hj; exact Nat.le_refl _)
  have S8 := Nat.lt_of_lt_of_le S7 g8.size
  have r8 : (Instr.mapUpdate 30 (.map (some w.heap.size)) (.string ⟨#[98, 117, 116, 116, 111, 110]⟩) (.int .i64 8)).run Tryd.prog w7 = .ok () w8 := q8
  obtain ⟨w9, q9, M9, g9⟩ := map_upd M8 [116, 97, 98, 108, 101] 13 (by decide) (by decide) (by decide)
  have B9 := B8.grown g9 (Nat.le_of_lt S8) (fun j hj => by cases hj; exact Nat.le_refl _)
  have S9 := Nat.lt_of_lt_of_le S8 g9.size
  have r9 : (Instr.mapUpdate 30 (.map (some w.heap.size)) (.string ⟨#[116, 97, 98, 108, 101]⟩) (.int .i64 13)).run Tryd.prog w8 = .ok () w9 := q9
  obtain ⟨w10, q10, M10, g10⟩ := map_upd M9 [116, 114] 14 (by decide) (by decide) (by decide)
  have B10 := B9.grown g10 (Nat.le_of_lt S9) (fun j hj => by cases hj; exact Nat.le_refl _)
  have S10 := Nat.lt_of_lt_of_le S9 g10.size
  have r10 : (Instr.mapUpdate 30 (.map (some w.heap.size)) (.string ⟨#[116, 114]⟩) (.int .i64 14)).run Tryd.prog w9 = .ok () w10 := q10
  obtain ⟨w11, q11, M11, g11⟩ := map_upd M10 [116, 100] 15 (by decide) (by decide) (by decide)
  have B11 := B10.grown g11 (Nat.le_of_lt S10) (fun j hj => by cases hj; exact Nat.le_refl _)
  have S11 := Nat.lt_of_lt_of_le S10 g11.size
  have r11 : (Instr.mapUpdate 30 (.map (some w.heap.size)) (.string ⟨#[116, 100]⟩) (.int .i64 15)).run Tryd.prog w10 = .ok () w11 := q11
  obtain ⟨w12, q12, M12, g12⟩ := map_upd M11 [100, 105, 97, 108, 111, 103] 17 (by decide) (by decide) (by decide)
  have B12 := B11.grown g12 (Nat.le_of_lt S11) (fun j hj => by cases hj; exact Nat.le_refl _)
  have S12 := Nat.lt_of_lt_of_le S11 g12.size
  have r12 : (Instr.mapUpdate 30 (.map (some w.heap.size)) (.string ⟨#[100, 105, 97, 108, 111, 103]⟩) (.int .i64 17)).run Tryd.prog w11 = .ok () w12 := q12
  clear q1 g1 q2 g2 q3 g3 q4 g4 q5 g5 q6 g6 q7 g7 q8 g8 q9 g9 q10 g10 q11 g11 q12 g12 M0 M1 M2 M3 M4 M5 M6 M7 M8 M9 M10 M11 B0 B1 B2 B3 B4 B5 B6 B7 B8 B9 B10 B11 S0 S1 S2 S3 S4 S5 S6 S7 S8 S9 S10 S11 hw0
  have MM : Hid (MapAt w12 w.heap.size _) := M12
  have BB : Hid (Below w.heap.size w w12) := B12
  have SS : Hid (w.heap.size < w12.heap.size) := S12
  clear M12 B12 S12
  have hmm : ∀ t, (Instr.makeMap t none).run Tryd.prog w = .ok (.map (some w.heap.size)) w0 := fun t => by rw [W0.out]; exact run_makeMap t w
  go_enter Tryd.func9, Tryd.ntmps9
  go_wp2_with fail
  go_ret
  exact ⟨_, rfl, MM.out, BB.out⟩

set_option maxHeartbeats 800000 in
set_option maxRecDepth 100000 in
theorem byName_any {w : World} (T : TabAt w) : Calls Tryd.prog 8 #[] w fun e w' => ∃ b, e = .returned (.map (some b)) ∧ MapAt w' b (nmL 19) ∧ Below w.heap.size w w' := by
  have HT : Hid (TabAt w) := T
  clear T
  obtain ⟨w0, hw0⟩ : ∃ w0, w0 = w.alloc (.map #[] 0) := ⟨_, rfl⟩
  have M0 : MapAt w0 w.heap.size [] := by rw [hw0]; exact map_made w
  have B0 : Below w.heap.size w w0 := by rw [hw0]; exact (Below.refl _ _).alloc (Nat.le_refl _) _
  have S0 : w.heap.size < w0.heap.size := by rw [hw0]; simp
  have W0 : Hid (w0 = w.alloc (.map #[] 0)) := hw0
  obtain ⟨w1, q1, M1, g1⟩ := map_upd M0 [110, 111, 110, 101] 0 (by decide) (by decide) (by decide)
  have B1 := B0.grown g1 (Nat.le_of_lt S0) (fun j hj => by cases hj; exact Nat.le_refl _)
  have S1 := Nat.lt_of_lt_of_le S0 g1.size
  have r1 : (Instr.mapUpdate 30 (.map (some w.heap.size)) (.string ⟨#[110, 111, 110, 101]⟩) (.int .i64 0)).run Tryd.prog w0 = .ok () w1 := q1
  obtain ⟨w2, q2, M2, g2⟩ := map_upd M1 [112, 114, 101, 115, 101, 110, 116, 97, 116, 105, 111, 110] 0 (by decide) (by decide) (by decide)
  have B2 := B1.grown g2 (Nat.le_of_lt S1) (fun j hj => by cases hj; exact Nat.le_refl _)
  have S2 := Nat.lt_of_lt_of_le S1 g2.size
  have r2 : (Instr.mapUpdate 30 (.map (some w.heap.size)) (.string ⟨#[112, 114, 101, 115, 101, 110, 116, 97, 116, 105, 111, 110]⟩) (.int .i64 0)).run Tryd.prog w1 = .ok () w2 := q2
  clear q1 g1 q2 g2 M0 M1 B0 B1 S0 S1 hw0
  have MM : Hid (MapAt w2 w.heap.size _) := M2
  have BB : Hid (Below w.heap.size w w2) := B2
  have SS : Hid (w.heap.size < w2.heap.size) := S2
  clear M2 B2 S2
  have hmm : ∀ t, (Instr.makeMap t none).run Tryd.prog w = .ok (.map (some w.heap.size)) w0 := fun t => by rw [W0.out]; exact run_makeMap t w
  go_enter Tryd.func8, Tryd.ntmps8
  go_wp2_with fail
  go_loopw [2] (fun i wr => ∃ k : Nat, 1 ≤ k ∧ k ≤ 19 ∧ i = .int .i64 k ∧ Hid (MapAt wr w.heap.size (nmL k)) ∧ Hid (Below w.heap.size w wr) ∧ Hid (w.heap.size < wr.heap.size)) (fun i _ => 19 - (intOf i).toNat)
  case atStart => exact ⟨1, Nat.le_refl _, by omega, rfl, MM, BB, SS⟩
  case round =>
    obtain ⟨k, h1, h19, rfl, HM, HB, HS⟩ := hrel
    by_cases hlt : k < 19
    · have c0 : wr.cell? ⟨0, k * 7, none⟩ = some (.string ⟨(kt k).name.toArray⟩) := ((HT.out).below HB.out).2 k hlt |>.c0
      obtain ⟨w', q, M', g⟩ := map_upd HM.out (kt k).name k (kt_len k hlt) (by have := nmL_len k; omega) (by omega)
      have HM' : Hid (MapAt w' w.heap.size (nmL k ++ [((kt k).name, k)])) := M'
      have HB' : Hid (Below w.heap.size w w') := HB.out.grown g (Nat.le_of_lt HS.out) (fun j hj => by cases hj; exact Nat.le_refl _)
      have HS' : Hid (w.heap.size < w'.heap.size) := Nat.lt_of_lt_of_le HS.out g.size
      clear M' g
      by_cases h10 : k = 10 ∨ k = 18
      · have E : Hid (nmL (k + 1) = nmL k) := by show _ = _; rw [nmL, if_pos (Or.inr h10)]
        clear q c0
        rcases h10 with rfl | rfl
        · go_wp2
          go_roundw
          case rel => exact ⟨11, by omega, by omega, by go_num, by rw [E.out]; exact HM, HB, HS⟩
          case measure => simp [intOf]
        · go_wp2
          go_roundw
          case rel => exact ⟨19, by omega, by omega, by go_num, by rw [E.out]; exact HM, HB, HS⟩
          case measure => simp [intOf]
      · have E : Hid (nmL (k + 1) = nmL k ++ [((kt k).name, k)]) := by show _ = _; rw [nmL, if_neg (by omega)]
        have k10 : ((k : Int) != 10) = true := by simp; omega
        have k18 : ((k : Int) != 18) = true := by simp; omega
        generalize (kt k).name.toArray = nm at *
        go_wp2
        go_roundw
        case rel => exact ⟨k + 1, by omega, by omega, by go_num, by rw [E.out]; exact HM', HB', HS'⟩
        case measure => simp [intOf]; omega
    · have hk : k = 19 := by omega
      subst hk
      go_wp2
      go_ret
      exact ⟨_, rfl, HM.out, HB.out⟩
end Go.Proofs.YtookcjdibpccpacDoor

/-
  THE WALKS of kinds.Find, kinds.Tag.
-/
namespace Go.Proofs.YtookcjdibpccpacDoor
open Go.RowKit Go.Maps

def findD (s : List UInt8) : Int := match lk (nmL 19) s with | some n => (n : Int) | none => -1
def tagD (s : List UInt8) : Int := match lk tagL s with | some n => (n : Int) | none => 18

set_option maxHeartbeats 400000 in
set_option maxRecDepth 100000 in
theorem find_any {w : World} (T : TabAt w) (s : ByteArray) (hs : s.size ≤ maxLen) : Calls Tryd.prog 6 #[.string s] w fun e w' => e = .returned (.int .i64 (findD s.data.toList)) ∧ Below w.heap.size w w' := by
  have HB : Hid (Calls Tryd.prog 8 #[] w fun e w' => ∃ b, e = .returned (.map (some b)) ∧ MapAt w' b (nmL 19) ∧ Below w.heap.size w w') := byName_any T
  clear T
  cases h : lk (nmL 19) s.data.toList with
  | some n =>
    have E : Hid (findD s.data.toList = (n : Int)) := by show _ = _; unfold findD; rw [h]
    go_enter Tryd.func6, Tryd.ntmps6
    go_wp2_with (first
      | (go_at_call 8; refine Calls.mono HB.out ?_; rintro e w1 ⟨b, rfl, M, bel⟩)
      | (at_lookup; refine map_look rfl _ _ rfl b _ s hs rfl M rfl ?_; rw [h]))
    go_ret
    exact ⟨by rw [E.out]; rfl, bel⟩
  | none =>
    have E : Hid (findD s.data.toList = -1) := by show _ = _; unfold findD; rw [h]
    go_enter Tryd.func6, Tryd.ntmps6
    go_wp2_with (first
      | (go_at_call 8; refine Calls.mono HB.out ?_; rintro e w1 ⟨b, rfl, M, bel⟩)
      | (at_lookup; refine map_look rfl _ _ rfl b _ s hs rfl M rfl ?_; rw [h]))
    go_ret
    exact ⟨by rw [E.out]; rfl, bel⟩

set_option maxHeartbeats 400000 in
set_option maxRecDepth 100000 in
theorem tag_any (w : World) (s : ByteArray) (hs : s.size ≤ maxLen) : Calls Tryd.prog 7 #[.string s] w fun e w' => e = .returned (.int .i64 (tagD s.data.toList)) ∧ Below w.heap.size w w' := by
  have HB : Hid (Calls Tryd.prog 9 #[] w fun e w' => ∃ b, e = .returned (.map (some b)) ∧ MapAt w' b tagL ∧ Below w.heap.size w w') := byTag_any w
  cases h : lk tagL s.data.toList with
  | some n =>
    have E : Hid (tagD s.data.toList = (n : Int)) := by show _ = _; unfold tagD; rw [h]
    go_enter Tryd.func7, Tryd.ntmps7
    go_wp2_with (first
      | (go_at_call 9; refine Calls.mono HB.out ?_; rintro e w1 ⟨b, rfl, M, bel⟩)
      | (at_lookup; refine map_look rfl _ _ rfl b _ s hs rfl M rfl ?_; rw [h]))
    go_ret
    exact ⟨by rw [E.out]; rfl, bel⟩
  | none =>
    have E : Hid (tagD s.data.toList = 18) := by show _ = _; unfold tagD; rw [h]
    go_enter Tryd.func7, Tryd.ntmps7
    go_wp2_with (first
      | (go_at_call 9; refine Calls.mono HB.out ?_; rintro e w1 ⟨b, rfl, M, bel⟩)
      | (at_lookup; refine map_look rfl _ _ rfl b _ s hs rfl M rfl ?_; rw [h]))
    go_ret
    exact ⟨by rw [E.out]; rfl, bel⟩
end Go.Proofs.YtookcjdibpccpacDoor

/-
  THE WALK of tnlaw4.alive.
-/
namespace Go.Proofs.YtookcjdibpccpacDoor
open Go.RowKit Go.Maps

theorem alive_walk {w : World} (T : TabAt w) : Calls Tryd.prog 4 #[] w fun e w' => e = .returned (.bool true) ∧ Below w.heap.size w w' := by
  have HT : Hid (TabAt w) := T
  clear T
  have hfl := field_leaf
  go_enter Tryd.func4, Tryd.ntmps4
  go_wp2_with fail
  refine (of_any HT.out 8).mono ?_
  rintro e w1 ⟨rfl, b1⟩
  have HT1 : Hid (TabAt w1) := HT.out.below b1
  rw [show kval (ofD 8) = .agg #[.string ⟨#[98, 117, 116, 116, 111, 110]⟩, .bool true, .bool true, .bool false, .bool false, .bool true, .int .i64 0] from rfl]
  go_wp2_with fail
  refine (find_any HT1.out ⟨#[98, 117, 116, 116, 111, 110]⟩ (by decide)).mono ?_
  rintro e w2 ⟨rfl, b2⟩
  have HT2 : Hid (TabAt w2) := HT1.out.below b2
  rw [show findD (ByteArray.data ⟨#[98, 117, 116, 116, 111, 110]⟩).toList = 8 by decide]
  go_wp2_with fail
  refine (find_any HT2.out ⟨#[110, 111, 110, 101]⟩ (by decide)).mono ?_
  rintro e w3 ⟨rfl, b3⟩
  rw [show findD (ByteArray.data ⟨#[110, 111, 110, 101]⟩).toList = 0 by decide]
  go_wp2_with fail
  refine (tag_any _ ⟨#[117, 108]⟩ (by decide)).mono ?_
  rintro e w4 ⟨rfl, b4⟩
  rw [show tagD (ByteArray.data ⟨#[117, 108]⟩).toList = 5 by decide]
  go_wp2_with fail
  refine (tag_any _ ⟨#[122, 122]⟩ (by decide)).mono ?_
  rintro e w5 ⟨rfl, b5⟩
  rw [show tagD (ByteArray.data ⟨#[122, 122]⟩).toList = 18 by decide]
  go_wp2_with fail
  go_ret
  have B1 := b1
  have B2 := B1.trans (b2.mono B1.size)
  have B3 := B2.trans (b3.mono B2.size)
  have B4 := B3.trans (b4.mono B3.size)
  exact ⟨rfl, B4.trans (b5.mono B4.size)⟩
end Go.Proofs.YtookcjdibpccpacDoor

/-
  THE WALK of tnlaw4.KindsNeed.
-/
namespace Go.Proofs.YtookcjdibpccpacDoor
open Go.RowKit Go.Maps

theorem need_zero : ∀ k, k < 19 → k ≠ 6 ∧ k ≠ 14 ∧ k ≠ 15 → (kt k).need = 0 := by decide

theorem of_need {w : World} (T : TabAt w) (r : Int) (h : r ≠ 6 ∧ r ≠ 14 ∧ r ≠ 15) : Calls Tryd.prog 5 #[.int .i64 r] w fun e w' => (∃ (a0 : ByteArray) (a1 a2 a3 a4 a5 : Bool), e = .returned (.agg #[.string a0, .bool a1, .bool a2, .bool a3, .bool a4, .bool a5, .int .i64 0])) ∧ Below w.heap.size w w' := by
  refine (of_any T r).mono fun e w' ⟨he, hb⟩ => ⟨⟨⟨(ofD r).name.toArray⟩, (ofD r).content, (ofD r).leaf, (ofD r).level, (ofD r).checked, (ofD r).named, ?_⟩, hb⟩
  have e1 : (ofD r).need = 0 := by
    unfold ofD
    split
    · next hr => exact need_zero _ (by omega) (by omega)
    · rfl
  rw [he, kval, e1]
  rfl

theorem b3_of {w w2 w3 : World} {a : Obj} (h : Below w.heap.size w w2) (e : Below (w2.alloc a).heap.size (w2.alloc a) w3) : Below w.heap.size w w3 := by
  have B3 := h.alloc h.size a
  exact B3.trans (e.mono B3.size)

theorem needy {w : World} (T : TabAt w) (r m : Nat) (x y : ByteArray) (a1 a2 a3 a4 a5 c1 c2 c3 c4 c5 : Bool) (z : Nat) (hr : kval (ofD (r : Int)) = .agg #[.string x, .bool a1, .bool a2, .bool a3, .bool a4, .bool a5, .int .i64 (m : Int)]) (hm : kval (ofD (m : Int)) = .agg #[.string y, .bool c1, .bool c2, .bool c3, .bool c4, .bool c5, .int .i64 (z : Int)])
    (h0 : 0 < m) (h1 : (y.toList == []) = false) (h2 : c2 = false) (h3 : z ≠ r) (h4 : m ≠ r) : Calls Tryd.prog 3 #[.int .i64 r] w fun e w' => e = .returned (.bool true) ∧ Below w.heap.size w w' := by
  have HT : Hid (TabAt w) := T
  have HR : Hid (kval (ofD (r : Int)) = .agg #[.string x, .bool a1, .bool a2, .bool a3, .bool a4, .bool a5, .int .i64 (m : Int)]) := hr
  have HM : Hid (kval (ofD (m : Int)) = .agg #[.string y, .bool c1, .bool c2, .bool c3, .bool c4, .bool c5, .int .i64 (z : Int)]) := hm
  clear T hr hm
  have hfn := field_name
  have hfl := field_leaf
  have hfd := field_need
  subst h2
  have g0 : ((m : Int) == 0) = false := by simp; omega
  have g3 : ((z : Int) != (r : Int)) = true := by simp; omega
  have g4 : ((m : Int) != (r : Int)) = true := by simp; omega
  go_enter Tryd.func3, Tryd.ntmps3
  go_wp2_with fail
  refine (alive_walk HT.out).mono ?_
  rintro e w1 ⟨rfl, e1⟩
  have HT1 : Hid (TabAt w1) := HT.out.below e1
  go_wp2_with fail
  refine (of_any HT1.out (r : Int)).mono ?_
  rintro e w2 ⟨rfl, e2⟩
  rw [HR.out]
  have HT2 : Hid (TabAt w2) := HT1.out.below e2
  go_wp2_with fail
  refine (of_any (HT2.out.below ((Below.refl _ _).alloc (Nat.le_refl _) _)) (m : Int)).mono ?_
  rintro e w3 ⟨rfl, e3⟩
  rw [HM.out]
  have k6 : ∀ o, (w3.alloc o).cell? ⟨w2.heap.size, 6, none⟩ = some (.int .i64 (m : Int)) := fun o => (World.cell?_alloc_lt _ _ _ (by have := e3.size; simp at this; exact this)).trans ((e3.cell (by simp)).trans (by rw [World.cell?_alloc_new]; rfl))
  have B3 : Below w.heap.size w w3 := b3_of (e1.trans (e2.mono e1.size)) e3
  clear e1 e2 e3
  go_wp2_with fail
  go_ret
  exact ⟨rfl, B3.alloc B3.size _⟩

theorem need_walk {w : World} (T : TabAt w) (r : Int) : Calls Tryd.prog 3 #[.int .i64 r] w fun e w' => e = .returned (.bool true) ∧ Below w.heap.size w w' := by
  by_cases h6 : r = 6
  · subst h6
    exact needy T 6 5 ⟨#[108, 105, 115, 116, 105, 116, 101, 109]⟩ ⟨#[108, 105, 115, 116]⟩ false false true false false false false false false true 0 rfl rfl (by omega) (by rw [ByteArray.toList_eq]; rfl) rfl (by omega) (by omega)
  by_cases h14 : r = 14
  · subst h14
    exact needy T 14 13 ⟨#[114, 111, 119]⟩ ⟨#[116, 97, 98, 108, 101]⟩ true false false false true false false false false true 0 rfl rfl (by omega) (by rw [ByteArray.toList_eq]; rfl) rfl (by omega) (by omega)
  by_cases h15 : r = 15
  · subst h15
    exact needy T 15 14 ⟨#[99, 101, 108, 108]⟩ ⟨#[114, 111, 119]⟩ true false false false true true false false false true 13 rfl rfl (by omega) (by rw [ByteArray.toList_eq]; rfl) rfl (by omega) (by omega)
  have HT : Hid (TabAt w) := T
  clear T
  have hfd := field_need
  go_enter Tryd.func3, Tryd.ntmps3
  go_wp2_with fail
  refine (alive_walk HT.out).mono ?_
  rintro e w1 ⟨rfl, e1⟩
  have HT1 : Hid (TabAt w1) := HT.out.below e1
  go_wp2_with fail
  refine (of_need HT1.out r ⟨h6, h14, h15⟩).mono ?_
  rintro e w2 ⟨⟨p0, p1, p2, p3, p4, p5, rfl⟩, e2⟩
  have B2 := e1.trans (e2.mono e1.size)
  clear e1 e2
  go_wp2_with fail
  go_ret
  exact ⟨rfl, B2.alloc B2.size _⟩
end Go.Proofs.YtookcjdibpccpacDoor
