/-
  OWN WORK: Ktb, Ktc, Ktd, Kte, Ktf, Ktg, Kth, Oma, Vma, Vmb, Trm, Trg.
-/
import Derived.Test.YtbinbojicmhdlaeGreatDoorP6
import Derived.Deep.RegionWith
import Derived.Test.YtbinbojicmhdlaeGreatDoorP5
/-
  THE WALK of kinds.Of.
-/
namespace Go.Proofs.YtbinbojicmhdlaeGreatDoor.Kn
open Go.RowKit

theorem field_need (x0 x1 x2 x3 x4 x5 x6 : Value) (w : World) : (Instr.field 49 (.agg #[x0, x1, x2, x3, x4, x5, x6]) 6).run Tryz.prog w = .ok x6 w := by kernel_rfl

def ofD (r : Int) : Kd := if 0 ≤ r ∧ r < 19 then kt r.toNat else k0

set_option maxHeartbeats 400000 in
theorem of_any {w : World} (T : TabAt w) (r : Int) : Calls Tryz.prog 41 #[.int .i64 r] w fun e w' => e = .returned (kval (ofD r)) ∧ Below w.heap.size w w' := by
  by_cases h0 : 0 ≤ r
  · by_cases h1 : r < 19
    · obtain ⟨k, rfl⟩ := Int.eq_ofNat_of_zero_le h0
      have hk : k < 19 := by omega
      have R := T.2 k hk
      have E : Hid (ofD (k : Int) = kt k) := by show _ = _; unfold ofD; rw [if_pos ⟨h0, h1⟩, Int.toNat_natCast]
      have al : ∀ o j, (w.alloc o).cell? ⟨0, j, none⟩ = w.cell? ⟨0, j, none⟩ := fun o j => World.cell?_alloc_lt _ _ _ (by exact T.1)
      obtain ⟨c0, c1, c2, c3, c4, c5, c6⟩ := R
      have d0 := fun o => (al o _).trans c0
      have d1 := fun o => (al o _).trans c1
      have d2 := fun o => (al o _).trans c2
      have d3 := fun o => (al o _).trans c3
      have d4 := fun o => (al o _).trans c4
      have d5 := fun o => (al o _).trans c5
      have d6 := fun o => (al o _).trans c6
      clear T al c0 c1 c2 c3 c4 c5 c6
      generalize kt k = K at *
      obtain ⟨nm, b1, b2, b3, b4, b5, z⟩ := K
      simp only at d0 d1 d2 d3 d4 d5 d6
      go_enter Tryz.func41, Tryz.ntmps41
      go_wp2_with fail
      refine bodyPost_ret (v := .agg #[.string ⟨nm.toArray⟩, .bool b1, .bool b2, .bool b3, .bool b4, .bool b5, .int .i64 (z : Int)]) (by simp [results, Tryz.results41, go_sem]) rfl ⟨by rw [E.out]; rfl, ?_⟩
      exact (Below.refl _ _).alloc (Nat.le_refl _) _
    · have E : Hid (ofD r = k0) := by show _ = _; unfold ofD; rw [if_neg (by omega)]
      clear T
      go_enter Tryz.func41, Tryz.ntmps41
      go_wp2_with fail
      refine bodyPost_ret (v := .agg #[.string ⟨#[]⟩, .bool false, .bool false, .bool false, .bool false, .bool false, .int .i64 0]) (by simp [results, Tryz.results41, go_sem]) rfl ⟨by rw [E.out]; rfl, ?_⟩
      exact (Below.refl _ _).alloc (Nat.le_refl _) _
  · have E : Hid (ofD r = k0) := by show _ = _; unfold ofD; rw [if_neg (by omega)]
    clear T
    go_enter Tryz.func41, Tryz.ntmps41
    go_wp2_with fail
    refine bodyPost_ret (v := .agg #[.string ⟨#[]⟩, .bool false, .bool false, .bool false, .bool false, .bool false, .int .i64 0]) (by simp [results, Tryz.results41, go_sem]) rfl ⟨by rw [E.out]; rfl, ?_⟩
    exact (Below.refl _ _).alloc (Nat.le_refl _) _

end Go.Proofs.YtbinbojicmhdlaeGreatDoor.Kn

/-
  MAPS OF TEXTS TO NUMBERS, OF THE CALL's OWN: what was put last for a text is there.
-/
namespace Go.Proofs.YtbinbojicmhdlaeGreatDoor.Kn
open Go.RowKit Go.Maps

theorem keyS : Keyed Tryz.prog 9 := string_keyed Tryz.underlying9
theorem zeroI (w : World) : (zeroValue 3).run Tryz.prog w = .ok (.int .i64 0) w := by kernel_rfl

def mp (ps : List (List UInt8 × Nat)) : DataW Unit := ps.foldl (fun D p => D.put (.string p.1) (.lit (.int .i64 (p.2 : Int)))) (.map [])
/-- what was put last -/
def lk (ps : List (List UInt8 × Nat)) (s : List UInt8) : Option Nat := ps.foldl (fun a p => if p.1 = s then some p.2 else a) none

theorem mp_look (s : List UInt8) (ps : List (List UInt8 × Nat)) : ∀ (D : DataW Unit) (a : Option Nat), IsMap D →
    (∀ z, D.atKey (.string s) z = (match a with | some n => .lit (.int .i64 (n : Int)) | none => z)) → has D (.string s) = a.isSome →
    (∀ z, (ps.foldl (fun D p => D.put (.string p.1) (.lit (.int .i64 (p.2 : Int)))) D).atKey (.string s) z = (match ps.foldl (fun a p => if p.1 = s then some p.2 else a) a with | some n => .lit (.int .i64 (n : Int)) | none => z)) ∧
    has (ps.foldl (fun D p => D.put (.string p.1) (.lit (.int .i64 (p.2 : Int)))) D) (.string s) = (ps.foldl (fun a p => if p.1 = s then some p.2 else a) a).isSome := by
  induction ps with
  | nil => exact fun D a _ h1 h2 => ⟨h1, h2⟩
  | cons p ps ih =>
    intro D a hD h1 h2
    rw [List.foldl_cons, List.foldl_cons]
    by_cases e : p.1 = s
    · rw [if_pos e, e]
      exact ih _ _ (hD.put _ _) (fun z => by rw [atKey_put_same hD (by trivial)]) (by rw [has_put_same hD (by trivial)]; rfl)
    · rw [if_neg e]
      have ne : Lit.string s ≠ Lit.string p.1 := fun h => e (by injection h with h; exact h.symm)
      exact ih _ _ (hD.put _ _) (fun z => by rw [atKey_put_other ne]; exact h1 z) (by rw [has_put_other ne]; exact h2)

theorem mp_at (ps : List (List UInt8 × Nat)) (s : List UInt8) : (mp ps).atKey (.string s) (.lit (.int .i64 0)) = .lit (.int .i64 (((lk ps s).getD 0 : Nat) : Int)) := by
  have h := (mp_look s ps (.map []) none isMap_empty (fun _ => rfl) rfl).1 (.lit (.int .i64 0))
  unfold mp lk
  rw [h]
  cases ps.foldl (fun a p => if p.1 = s then some p.2 else a) none <;> rfl
theorem mp_has (ps : List (List UInt8 × Nat)) (s : List UInt8) : has (mp ps) (.string s) = (lk ps s).isSome :=
  (mp_look s ps (.map []) none isMap_empty (fun _ => rfl) rfl).2

/-- block b is a map that was filled so -/
def MapAt (w : World) (b : Nat) (ps : List (List UInt8 × Nat)) : Prop := w.ownsMap Tryz.prog 9 (plainElem Tryz.prog 3) b ps.length (mp ps)

theorem map_made (w : World) : MapAt (w.alloc (.map #[] 0)) w.heap.size [] := World.ownsMap_made w Tryz.prog 9 _

theorem keyL (l : List UInt8) (h : l.length ≤ 1000) : keyOf Tryz.prog 9 (.string ⟨l.toArray⟩) = some (.string l) := by
  have := WideMaps.keyOf_string_mk (s := ⟨l.toArray⟩) Tryz.underlying9 (by show l.toArray.size ≤ maxLen; unfold maxLen; simp; omega)
  simpa using this

theorem map_upd {w : World} {b : Nat} {ps : List (List UInt8 × Nat)} (h : MapAt w b ps) (l : List UInt8) (n : Nat) (hl : l.length ≤ 1000) (hp : ps.length ≤ 1000) (hn : n ≤ 1000) :
    ∃ w', (Instr.mapUpdate 77 (.map (some b)) (.string ⟨l.toArray⟩) (.int .i64 (n : Int))).run Tryz.prog w = .ok () w' ∧ MapAt w' b (ps ++ [(l, n)]) ∧ w.grownBy w' (some b) := by
  obtain ⟨w', g0, g1, g2⟩ := World.ownsMap.update h keyS Tryz.underlying77 (by unfold maxLen; omega) (keyL l hl) (val := .int .i64 (n : Int)) (d := .lit (.int .i64 (n : Int))) (ps := []) (plainElem_int Tryz.underlying3 (WalkArith.wf_i64 (by omega)))
  refine ⟨w', g0, ?_, g2⟩
  unfold MapAt mp
  rw [List.length_append, List.foldl_append]
  exact g1

theorem map_look {w : World} {ops : Array Oper} {rest : List Oper} {o : Oper} {a : Act} {Q : Exit → Act → World → Prop}
    (hg : o.guard = none) (m x : Operand) (hop : o.op = Op.lookup 77 m x true) (b : Nat) (ps : List (List UInt8 × Nat)) (s : ByteArray) (hs : s.size ≤ maxLen)
    (hm : a.eval m = .map (some b)) (h : MapAt w b ps) (hx : a.eval x = .string s)
    (hK : wpList Tryz.prog ops Q rest (a.put o.dst (.tuple #[.int .i64 (((lk ps s.data.toList).getD 0 : Nat) : Int), .bool (lk ps s.data.toList).isSome])) w) : wpList Tryz.prog ops Q (o :: rest) a w := by
  refine wpList_lookup_own_ok_int w hg m x 77 hop 9 3 .i64 keyS Tryz.underlying77 Tryz.underlying3 (zeroI _) b ps.length (mp ps) hm h _ (.string s.data.toList) hx (WideMaps.keyOf_string_mk Tryz.underlying9 hs) ?_
  intro c hc _
  rw [mp_at] at hc
  have e : c = (((lk ps s.data.toList).getD 0 : Nat) : Int) := by injection hc with hc; injection hc with _ hc; exact hc.symm
  rw [mp_has, e]
  exact hK
end Go.Proofs.YtbinbojicmhdlaeGreatDoor.Kn

/-
  THE WALKS of kinds.rolesByName, rolesByTag, Find, Tag.
-/
namespace Go.Proofs.YtbinbojicmhdlaeGreatDoor.Kn
open Go.RowKit Go.Maps

def tagL : List (List UInt8 × Nat) := [([109, 97, 105, 110], 2), ([110, 97, 118], 3), ([104, 49], 4), ([104, 50], 4), ([104, 51], 4), ([117, 108], 5), ([108, 105], 6), ([98, 117, 116, 116, 111, 110], 8), ([116, 97, 98, 108, 101], 13), ([116, 114], 14), ([116, 100], 15), ([100, 105, 97, 108, 111, 103], 17)]
/-- what stands in the map behind the rounds of the roles below k -/
def nmL : Nat → List (List UInt8 × Nat)
  | 0 => [([110, 111, 110, 101], 0), ([112, 114, 101, 115, 101, 110, 116, 97, 116, 105, 111, 110], 0)]
  | k + 1 => if k = 0 ∨ k = 10 ∨ k = 18 then nmL k else nmL k ++ [((kt k).name, k)]
theorem nmL_len : ∀ k, (nmL k).length ≤ k + 2
  | 0 => Nat.le_refl _
  | k + 1 => by
    have := nmL_len k
    unfold nmL
    split
    · omega
    · simp; omega
theorem kt_len : ∀ k, k < 19 → (kt k).name.length ≤ 1000 := by decide

set_option maxHeartbeats 800000 in
set_option maxRecDepth 100000 in
theorem byTag_any (w : World) : Calls Tryz.prog 172 #[] w fun e w' => ∃ b, e = .returned (.map (some b)) ∧ MapAt w' b tagL ∧ Below w.heap.size w w' := by
  obtain ⟨w0, hw0⟩ : ∃ w0, w0 = w.alloc (.map #[] 0) := ⟨_, rfl⟩
  have M0 : MapAt w0 w.heap.size [] := by rw [hw0]; exact map_made w
  have B0 : Below w.heap.size w w0 := by rw [hw0]; exact (Below.refl _ _).alloc (Nat.le_refl _) _
  have S0 : w.heap.size < w0.heap.size := by rw [hw0]; simp
  have W0 : Hid (w0 = w.alloc (.map #[] 0)) := hw0
  obtain ⟨w1, q1, M1, g1⟩ := map_upd M0 [109, 97, 105, 110] 2 (by decide) (by decide) (by decide)
  have B1 := B0.grown g1 (Nat.le_of_lt S0) (fun j hj => by cases hj; exact Nat.le_refl _)
  have S1 := Nat.lt_of_lt_of_le S0 g1.size
  have r1 : (Instr.mapUpdate 77 (.map (some w.heap.size)) (.string ⟨#[109, 97, 105, 110]⟩) (.int .i64 2)).run Tryz.prog w0 = .ok () w1 := q1
  obtain ⟨w2, q2, M2, g2⟩ := map_upd M1 [110, 97, 118] 3 (by decide) (by decide) (by decide)
  have B2 := B1.grown g2 (Nat.le_of_lt S1) (fun j hj => by cases hj; exact Nat.le_refl _)
  have S2 := Nat.lt_of_lt_of_le S1 g2.size
  have r2 : (Instr.mapUpdate 77 (.map (some w.heap.size)) (.string ⟨#[110, 97, 118]⟩) (.int .i64 3)).run Tryz.prog w1 = .ok () w2 := q2
  obtain ⟨w3, q3, M3, g3⟩ := map_upd M2 [104, 49] 4 (by decide) (by decide) (by decide)
  have B3 := B2.grown g3 (Nat.le_of_lt S2) (fun j hj => by cases hj; exact Nat.le_refl _)
  have S3 := Nat.lt_of_lt_of_le S2 g3.size
  have r3 : (Instr.mapUpdate 77 (.map (some w.heap.size)) (.string ⟨#[104, 49]⟩) (.int .i64 4)).run Tryz.prog w2 = .ok () w3 := q3
  obtain ⟨w4, q4, M4, g4⟩ := map_upd M3 [104, 50] 4 (by decide) (by decide) (by decide)
  have B4 := B3.grown g4 (Nat.le_of_lt S3) (fun j hj => by cases hj; exact Nat.le_refl _)
  have S4 := Nat.lt_of_lt_of_le S3 g4.size
  have r4 : (Instr.mapUpdate 77 (.map (some w.heap.size)) (.string ⟨#[104, 50]⟩) (.int .i64 4)).run Tryz.prog w3 = .ok () w4 := q4
  obtain ⟨w5, q5, M5, g5⟩ := map_upd M4 [104, 51] 4 (by decide) (by decide) (by decide)
  have B5 := B4.grown g5 (Nat.le_of_lt S4) (fun j hj => by cases hj; exact Nat.le_refl _)
  have S5 := Nat.lt_of_lt_of_le S4 g5.size
  have r5 : (Instr.mapUpdate 77 (.map (some w.heap.size)) (.string ⟨#[104, 51]⟩) (.int .i64 4)).run Tryz.prog w4 = .ok () w5 := q5
  obtain ⟨w6, q6, M6, g6⟩ := map_upd M5 [117, 108] 5 (by decide) (by decide) (by decide)
  have B6 := B5.grown g6 (Nat.le_of_lt S5) (fun j hj => by cases hj; exact Nat.le_refl _)
  have S6 := Nat.lt_of_lt_of_le S5 g6.size
  have r6 : (Instr.mapUpdate 77 (.map (some w.heap.size)) (.string ⟨#[117, 108]⟩) (.int .i64 5)).run Tryz.prog w5 = .ok () w6 := q6
  obtain ⟨w7, q7, M7, g7⟩ := map_upd M6 [108, 105] 6 (by decide) (by decide) (by decide)
  have B7 := B6.grown g7 (Nat.le_of_lt S6) (fun j hj => by cases hj; exact Nat.le_refl _)
  have S7 := Nat.lt_of_lt_of_le S6 g7.size
  have r7 : (Instr.mapUpdate 77 (.map (some w.heap.size)) (.string ⟨#[108, 105]⟩) (.int .i64 6)).run Tryz.prog w6 = .ok () w7 := q7
  obtain ⟨w8, q8, M8, g8⟩ := map_upd M7 [98, 117, 116, 116, 111, 110] 8 (by decide) (by decide) (by decide)
  have B8 := B7.grown g8 (Nat.le_of_lt S7) (fun j hj => by cases hj; exact Nat.le_refl _)
  have S8 := Nat.lt_of_lt_of_le S7 g8.size
  have r8 : (Instr.mapUpdate 77 (.map (some w.heap.size)) (.string ⟨#[98, 117, 116, 116, 111, 110]⟩) (.int .i64 8)).run Tryz.prog w7 = .ok () w8 := q8
  obtain ⟨w9, q9, M9, g9⟩ := map_upd M8 [116, 97, 98, 108, 101] 13 (by decide) (by decide) (by decide)
  have B9 := B8.grown g9 (Nat.le_of_lt S8) (fun j hj => by cases hj; exact Nat.le_refl _)
  have S9 := Nat.lt_of_lt_of_le S8 g9.size
  have r9 : (Instr.mapUpdate 77 (.map (some w.heap.size)) (.string ⟨#[116, 97, 98, 108, 101]⟩) (.int .i64 13)).run Tryz.prog w8 = .ok () w9 := q9
  obtain ⟨w10, q10, M10, g10⟩ := map_upd M9 [116, 114] 14 (by decide) (by decide) (by decide)
  have B10 := B9.grown g10 (Nat.le_of_lt S9) (fun j hj => by cases hj; exact Nat.le_refl _)
  have S10 := Nat.lt_of_lt_of_le S9 g10.size
  have r10 : (Instr.mapUpdate 77 (.map (some w.heap.size)) (.string ⟨#[116, 114]⟩) (.int .i64 14)).run Tryz.prog w9 = .ok () w10 := q10
  obtain ⟨w11, q11, M11, g11⟩ := map_upd M10 [116, 100] 15 (by decide) (by decide) (by decide)
  have B11 := B10.grown g11 (Nat.le_of_lt S10) (fun j hj => by cases hj; exact Nat.le_refl _)
  have S11 := Nat.lt_of_lt_of_le S10 g11.size
  have r11 : (Instr.mapUpdate 77 (.map (some w.heap.size)) (.string ⟨#[116, 100]⟩) (.int .i64 15)).run Tryz.prog w10 = .ok () w11 := q11
  obtain ⟨w12, q12, M12, g12⟩ := map_upd M11 [100, 105, 97, 108, 111, 103] 17 (by decide) (by decide) (by decide)
  have B12 := B11.grown g12 (Nat.le_of_lt S11) (fun j hj => by cases hj; exact Nat.le_refl _)
  have S12 := Nat.lt_of_lt_of_le S11 g12.size
  have r12 : (Instr.mapUpdate 77 (.map (some w.heap.size)) (.string ⟨#[100, 105, 97, 108, 111, 103]⟩) (.int .i64 17)).run Tryz.prog w11 = .ok () w12 := q12
  clear q1 g1 q2 g2 q3 g3 q4 g4 q5 g5 q6 g6 q7 g7 q8 g8 q9 g9 q10 g10 q11 g11 q12 g12 M0 M1 M2 M3 M4 M5 M6 M7 M8 M9 M10 M11 B0 B1 B2 B3 B4 B5 B6 B7 B8 B9 B10 B11 S0 S1 S2 S3 S4 S5 S6 S7 S8 S9 S10 S11 hw0
  have MM : Hid (MapAt w12 w.heap.size _) := M12
  have BB : Hid (Below w.heap.size w w12) := B12
  have SS : Hid (w.heap.size < w12.heap.size) := S12
  clear M12 B12 S12
  have hmm : ∀ t, (Instr.makeMap t none).run Tryz.prog w = .ok (.map (some w.heap.size)) w0 := fun t => by rw [W0.out]; exact run_makeMap t w
  go_enter Tryz.func172, Tryz.ntmps172
  go_wp2_with fail
  go_ret
  exact ⟨_, rfl, MM.out, BB.out⟩

set_option maxHeartbeats 800000 in
set_option maxRecDepth 100000 in
theorem byName_any {w : World} (T : TabAt w) : Calls Tryz.prog 171 #[] w fun e w' => ∃ b, e = .returned (.map (some b)) ∧ MapAt w' b (nmL 19) ∧ Below w.heap.size w w' := by
  have HT : Hid (TabAt w) := T
  clear T
  obtain ⟨w0, hw0⟩ : ∃ w0, w0 = w.alloc (.map #[] 0) := ⟨_, rfl⟩
  have M0 : MapAt w0 w.heap.size [] := by rw [hw0]; exact map_made w
  have B0 : Below w.heap.size w w0 := by rw [hw0]; exact (Below.refl _ _).alloc (Nat.le_refl _) _
  have S0 : w.heap.size < w0.heap.size := by rw [hw0]; simp
  have W0 : Hid (w0 = w.alloc (.map #[] 0)) := hw0
  obtain ⟨w1, q1, M1, g1⟩ := map_upd M0 [110, 111, 110, 101] 0 (by decide) (by decide) (by decide)
  have B1 := B0.grown g1 (Nat.le_of_lt S0) (fun j hj => by cases hj; exact Nat.le_refl _)
  have S1 := Nat.lt_of_lt_of_le S0 g1.size
  have r1 : (Instr.mapUpdate 77 (.map (some w.heap.size)) (.string ⟨#[110, 111, 110, 101]⟩) (.int .i64 0)).run Tryz.prog w0 = .ok () w1 := q1
  obtain ⟨w2, q2, M2, g2⟩ := map_upd M1 [112, 114, 101, 115, 101, 110, 116, 97, 116, 105, 111, 110] 0 (by decide) (by decide) (by decide)
  have B2 := B1.grown g2 (Nat.le_of_lt S1) (fun j hj => by cases hj; exact Nat.le_refl _)
  have S2 := Nat.lt_of_lt_of_le S1 g2.size
  have r2 : (Instr.mapUpdate 77 (.map (some w.heap.size)) (.string ⟨#[112, 114, 101, 115, 101, 110, 116, 97, 116, 105, 111, 110]⟩) (.int .i64 0)).run Tryz.prog w1 = .ok () w2 := q2
  clear q1 g1 q2 g2 M0 M1 B0 B1 S0 S1 hw0
  have MM : Hid (MapAt w2 w.heap.size _) := M2
  have BB : Hid (Below w.heap.size w w2) := B2
  have SS : Hid (w.heap.size < w2.heap.size) := S2
  clear M2 B2 S2
  have hmm : ∀ t, (Instr.makeMap t none).run Tryz.prog w = .ok (.map (some w.heap.size)) w0 := fun t => by rw [W0.out]; exact run_makeMap t w
  go_enter Tryz.func171, Tryz.ntmps171
  go_wp2_with fail
  go_loopw [2] (fun i wr => ∃ k : Nat, 1 ≤ k ∧ k ≤ 19 ∧ i = .int .i64 k ∧ Hid (MapAt wr w.heap.size (nmL k)) ∧ Hid (Below w.heap.size w wr) ∧ Hid (w.heap.size < wr.heap.size)) (fun i _ => 19 - (intOf i).toNat)
  case atStart => exact ⟨1, Nat.le_refl _, by omega, rfl, MM, BB, SS⟩
  case round =>
    obtain ⟨k, h1, h19, rfl, HM, HB, HS⟩ := hrel
    by_cases hlt : k < 19
    · have c0 : wr.cell? ⟨0, k * 7, none⟩ = some (.string ⟨(kt k).name.toArray⟩) := ((HT.out).below HB.out).2 k hlt |>.c0
      obtain ⟨w', q, M', g⟩ := map_upd HM.out (kt k).name k (kt_len k hlt) (by have := nmL_len k; omega) (by omega)
      have HM' : Hid (MapAt w' w.heap.size (nmL k ++ [((kt k).name, k)])) := M'
      have HB' : Hid (Below w.heap.size w w') := HB.out.grown g (Nat.le_of_lt HS.out) (fun j hj => by cases hj; exact Nat.le_refl _)
      have HS' : Hid (w.heap.size < w'.heap.size) := Nat.lt_of_lt_of_le HS.out g.size
      clear M' g
      by_cases h10 : k = 10 ∨ k = 18
      · have E : Hid (nmL (k + 1) = nmL k) := by show _ = _; rw [nmL, if_pos (Or.inr h10)]
        clear q c0
        rcases h10 with rfl | rfl
        · go_wp2
          go_roundw
          case rel => exact ⟨11, by omega, by omega, by go_num, by rw [E.out]; exact HM, HB, HS⟩
          case measure => simp [intOf]
        · go_wp2
          go_roundw
          case rel => exact ⟨19, by omega, by omega, by go_num, by rw [E.out]; exact HM, HB, HS⟩
          case measure => simp [intOf]
      · have E : Hid (nmL (k + 1) = nmL k ++ [((kt k).name, k)]) := by show _ = _; rw [nmL, if_neg (by omega)]
        have k10 : ((k : Int) != 10) = true := by simp; omega
        have k18 : ((k : Int) != 18) = true := by simp; omega
        generalize (kt k).name.toArray = nm at *
        go_wp2
        go_roundw
        case rel => exact ⟨k + 1, by omega, by omega, by go_num, by rw [E.out]; exact HM', HB', HS'⟩
        case measure => simp [intOf]; omega
    · have hk : k = 19 := by omega
      subst hk
      go_wp2
      go_ret
      exact ⟨_, rfl, HM.out, HB.out⟩
end Go.Proofs.YtbinbojicmhdlaeGreatDoor.Kn

/-
  THE WALKS of kinds.Find, kinds.Tag.
-/
namespace Go.Proofs.YtbinbojicmhdlaeGreatDoor.Kn
open Go.RowKit Go.Maps

def findD (s : List UInt8) : Int := match lk (nmL 19) s with | some n => (n : Int) | none => -1
def tagD (s : List UInt8) : Int := match lk tagL s with | some n => (n : Int) | none => 18

set_option maxHeartbeats 400000 in
set_option maxRecDepth 100000 in
theorem find_any {w : World} (T : TabAt w) (s : ByteArray) (hs : s.size ≤ maxLen) : Calls Tryz.prog 152 #[.string s] w fun e w' => e = .returned (.int .i64 (findD s.data.toList)) ∧ Below w.heap.size w w' := by
  have HB : Hid (Calls Tryz.prog 171 #[] w fun e w' => ∃ b, e = .returned (.map (some b)) ∧ MapAt w' b (nmL 19) ∧ Below w.heap.size w w') := byName_any T
  clear T
  cases h : lk (nmL 19) s.data.toList with
  | some n =>
    have E : Hid (findD s.data.toList = (n : Int)) := by show _ = _; unfold findD; rw [h]
    go_enter Tryz.func152, Tryz.ntmps152
    go_wp2_with (first
      | (go_at_call 171; refine Calls.mono HB.out ?_; rintro e w1 ⟨b, rfl, M, bel⟩)
      | (at_lookup; refine map_look rfl _ _ rfl b _ s hs rfl M rfl ?_; rw [h]))
    go_ret
    exact ⟨by rw [E.out]; rfl, bel⟩
  | none =>
    have E : Hid (findD s.data.toList = -1) := by show _ = _; unfold findD; rw [h]
    go_enter Tryz.func152, Tryz.ntmps152
    go_wp2_with (first
      | (go_at_call 171; refine Calls.mono HB.out ?_; rintro e w1 ⟨b, rfl, M, bel⟩)
      | (at_lookup; refine map_look rfl _ _ rfl b _ s hs rfl M rfl ?_; rw [h]))
    go_ret
    exact ⟨by rw [E.out]; rfl, bel⟩

set_option maxHeartbeats 400000 in
set_option maxRecDepth 100000 in
theorem tag_any (w : World) (s : ByteArray) (hs : s.size ≤ maxLen) : Calls Tryz.prog 155 #[.string s] w fun e w' => e = .returned (.int .i64 (tagD s.data.toList)) ∧ Below w.heap.size w w' := by
  have HB : Hid (Calls Tryz.prog 172 #[] w fun e w' => ∃ b, e = .returned (.map (some b)) ∧ MapAt w' b tagL ∧ Below w.heap.size w w') := byTag_any w
  cases h : lk tagL s.data.toList with
  | some n =>
    have E : Hid (tagD s.data.toList = (n : Int)) := by show _ = _; unfold tagD; rw [h]
    go_enter Tryz.func155, Tryz.ntmps155
    go_wp2_with (first
      | (go_at_call 172; refine Calls.mono HB.out ?_; rintro e w1 ⟨b, rfl, M, bel⟩)
      | (at_lookup; refine map_look rfl _ _ rfl b _ s hs rfl M rfl ?_; rw [h]))
    go_ret
    exact ⟨by rw [E.out]; rfl, bel⟩
  | none =>
    have E : Hid (tagD s.data.toList = 18) := by show _ = _; unfold tagD; rw [h]
    go_enter Tryz.func155, Tryz.ntmps155
    go_wp2_with (first
      | (go_at_call 172; refine Calls.mono HB.out ?_; rintro e w1 ⟨b, rfl, M, bel⟩)
      | (at_lookup; refine map_look rfl _ _ rfl b _ s hs rfl M rfl ?_; rw [h]))
    go_ret
    exact ⟨by rw [E.out]; rfl, bel⟩
end Go.Proofs.YtbinbojicmhdlaeGreatDoor.Kn

/-
  THE WALKS of the reference's Kind, Asked, Tag.
-/
namespace Go.Proofs.YtbinbojicmhdlaeGreatDoor.Kn
open Go.RowKit Go.Maps

/-- a row of these integers -/
def HasAt (w : World) (b : Nat) (l : List Nat) : Prop := ∀ (j : Nat) (x : Nat), l[j]? = some x → w.cell? ⟨b, j, none⟩ = some (.int .i64 (x : Int))

theorem any_take_succ (l : List Nat) (r : Int) (j : Nat) (h : j < l.length) : ((l.take (j + 1)).any fun x => (x : Int) == r) = (((l.take j).any fun x => (x : Int) == r) || ((l[j] : Int) == r)) := by
  rw [List.take_succ_eq_append_getElem h, List.any_append]
  simp

set_option maxHeartbeats 800000 in
theorem has_any {w : World} {b c : Nat} {l : List Nat} (h : HasAt w b l) (hl : l.length ≤ 100) (r : Int) : Calls Tryz.prog 23 #[.slice (some ⟨b, 0, none⟩) l.length c, .int .i64 r] w fun e w' => e = .returned (.bool (l.any fun x => (x : Int) == r)) ∧ w' = w := by
  have H : Hid (HasAt w b l) := h
  clear h
  go_enter Tryz.func23, Tryz.ntmps23
  go_wp2
  go_loopw [9] (fun i wr => wr = w ∧ ∃ j : Nat, j ≤ l.length ∧ i = .int .i64 j ∧ Hid (((l.take j).any fun x => (x : Int) == r) = false)) (fun i _ => l.length - (intOf i).toNat)
  case atStart => exact ⟨rfl, 0, Nat.zero_le _, rfl, by show _ = _; simp⟩
  case round =>
    obtain ⟨rfl, j, hj, rfl, hno⟩ := hrel
    by_cases hlt : j < l.length
    · have hc := H.out j l[j] (List.getElem?_eq_getElem hlt)
      by_cases he : (l[j] : Int) = r
      · have E : Hid ((l.any fun x => (x : Int) == r) = true) := by
          show _ = _
          rw [List.any_eq_true]
          exact ⟨l[j], List.getElem_mem hlt, by simpa using he⟩
        rw [he] at hc
        clear he
        go_wp2
        go_ret
        exact ⟨by rw [E.out]; rfl, rfl⟩
      · have E : Hid (((l.take (j + 1)).any fun x => (x : Int) == r) = false) := by
          show _ = _
          rw [any_take_succ l r j hlt, hno.out]
          simpa using he
        generalize (l[j] : Int) = x at *
        go_wp2
        go_roundw
        case rel => exact ⟨trivial, j + 1, by omega, by go_num, E⟩
        case measure => simp [intOf]; omega
    · have E : Hid ((l.any fun x => (x : Int) == r) = false) := by
        show _ = _
        have := hno.out
        rwa [show j = l.length by omega, List.take_length] at this
      go_wp2
      go_ret
      exact ⟨by rw [E.out]; rfl, rfl⟩

theorem has_new (W : World) (t : TypeId) (l : List Nat) : HasAt (W.alloc (.cells (l.map fun x : Nat => Value.int .i64 (x : Int)).toArray t)) W.heap.size l := by
  intro j x hx
  rw [World.cell?_alloc_new]
  simp [hx]

theorem has_lit {W : World} {t : TypeId} {arr : Array Value} {l : List Nat} {b : Nat} (hb : b = W.heap.size) (h : arr = (l.map fun x : Nat => Value.int .i64 (x : Int)).toArray) : HasAt (W.alloc (.cells arr t)) b l := by
  rw [hb, h]
  exact has_new W t l

theorem has_at {w : World} {b c : Nat} {l : List Nat} (h : HasAt w b l) (hl : l.length ≤ 100) (r : Int) : Calls Tryz.prog 23 #[.slice (some ⟨b, 0, none⟩) l.length c, .int .i64 r] w fun e w' => e = .returned (.bool (l.any fun x => (x : Int) == r)) ∧ Below w.heap.size w w' :=
  (has_any h hl r).mono fun _ _ ⟨a, b⟩ => ⟨a, by rw [b]; exact Below.refl _ _⟩

/-- a box of these cells, to be written -/
def Box (w : World) (B : Nat) (xs : List Value) : Prop := B < w.heap.size ∧ ∀ (j : Nat) (x : Value), xs[j]? = some x → w.cell? ⟨B, j, none⟩ = some x ∧ w.frozen? ⟨B, j, none⟩ = false

theorem Box.below {w w' : World} {B : Nat} {xs : List Value} (h : Box w B xs) (hb : Below w.heap.size w w') : Box w' B xs :=
  ⟨Nat.lt_of_lt_of_le h.1 hb.size, fun j x hx => by
    have := h.2 j x hx
    exact ⟨(hb.cell (by exact h.1)).trans this.1, (hb.frozen (by exact h.1)).trans this.2⟩⟩
theorem Box.alloc {w : World} {B : Nat} {xs : List Value} (h : Box w B xs) (o : Obj) : Box (w.alloc o) B xs := h.below ((Below.refl _ _).alloc (Nat.le_refl _) o)
theorem Box.grown {w w' : World} {B M : Nat} {xs : List Value} (h : Box w B xs) (hg : w.grownBy w' (some M)) (ne : B ≠ M) : Box w' B xs := by
  have hb : w'.heap[B]? = w.heap[B]? := hg.block B h.1 (fun e => ne (by injection e))
  refine ⟨Nat.lt_of_lt_of_le h.1 hg.size, fun j x hx => ?_⟩
  have := h.2 j x hx
  exact ⟨by rw [World.cell?_of_block hb]; exact this.1, by rw [World.frozen?_of_block hb]; exact this.2⟩
theorem Box.set {w : World} {B : Nat} {xs : List Value} (h : Box w B xs) (i : Nat) (v : Value) (hi : i < xs.length) : Box (w.setCell ⟨B, i, none⟩ v) B (xs.set i v) := by
  refine ⟨by simpa using h.1, fun j x hx => ⟨?_, ?_⟩⟩
  · rw [List.getElem?_set] at hx
    by_cases e : i = j
    · subst e
      rw [if_pos rfl, if_pos hi] at hx
      cases hx
      exact World.cell?_setCell_same _ _ _ (h.2 i _ (List.getElem?_eq_getElem hi)).1
    · rw [if_neg e] at hx
      rw [World.cell?_setCell_other _ _ _ _ (by intro h; cases h; exact e rfl)]
      exact (h.2 j x hx).1
  · rw [World.frozen?_setCell]
    rw [List.getElem?_set] at hx
    by_cases e : i = j
    · subst e
      exact (h.2 i _ (List.getElem?_eq_getElem hi)).2
    · rw [if_neg e] at hx
      exact (h.2 j x hx).2
theorem Box.other {w : World} {B B' : Nat} {xs : List Value} (h : Box w B xs) (ne : B' ≠ B) (i : Nat) (v : Value) : Box (w.setCell ⟨B', i, none⟩ v) B xs := by
  refine ⟨by simpa using h.1, fun j x hx => ⟨?_, ?_⟩⟩
  · rw [World.cell?_setCell_other _ _ _ _ (by intro h; cases h; exact ne rfl)]
    exact (h.2 j x hx).1
  · rw [World.frozen?_setCell]
    exact (h.2 j x hx).2
theorem box_new (w : World) (t : TypeId) (xs : List Value) : Box (w.alloc (.cells xs.toArray t)) w.heap.size xs := by
  refine ⟨by simp, fun j x hx => ⟨?_, ?_⟩⟩
  · rw [World.cell?_alloc_new]
    simpa using hx
  · exact World.frozen?_alloc_new _ _ _ _

theorem names_at : ∀ (k : Nat) (h : k < 19), ([Value.string { data := #[] }, Value.string { data := #[103, 114, 111, 117, 112] }, Value.string { data := #[109, 97, 105, 110] }, Value.string { data := #[110, 97, 118, 105, 103, 97, 116, 105, 111, 110] }, Value.string { data := #[104, 101, 97, 100, 105, 110, 103] }, Value.string { data := #[108, 105, 115, 116] }, Value.string { data := #[108, 105, 115, 116, 105, 116, 101, 109] }, Value.string { data := #[108, 105, 110, 107] }, Value.string { data := #[98, 117, 116, 116, 111, 110] }, Value.string { data := #[99, 104, 101, 99, 107, 98, 111, 120] }, Value.string { data := #[116, 101, 120, 116] }, Value.string { data := #[105, 109, 103] }, Value.string { data := #[116, 101, 120, 116, 98, 111, 120] }, Value.string { data := #[116, 97, 98, 108, 101] }, Value.string { data := #[114, 111, 119] }, Value.string { data := #[99, 101, 108, 108] }, Value.string { data := #[114, 101, 103, 105, 111, 110] }, Value.string { data := #[100, 105, 97, 108, 111, 103] }, Value.string { data := #[103, 101, 110, 101, 114, 105, 99] }] : List Value)[k]'(by simpa using h) = Value.string { data := (kt k).name.toArray } := by
  intro k h
  match k, h with
  | 0, _ => rfl
  | 1, _ => rfl
  | 2, _ => rfl
  | 3, _ => rfl
  | 4, _ => rfl
  | 5, _ => rfl
  | 6, _ => rfl
  | 7, _ => rfl
  | 8, _ => rfl
  | 9, _ => rfl
  | 10, _ => rfl
  | 11, _ => rfl
  | 12, _ => rfl
  | 13, _ => rfl
  | 14, _ => rfl
  | 15, _ => rfl
  | 16, _ => rfl
  | 17, _ => rfl
  | 18, _ => rfl
  | k + 19, h => exact absurd h (by omega)

end Go.Proofs.YtbinbojicmhdlaeGreatDoor.Kn

/-
  THE WALK of the reference's Kind.
-/
namespace Go.Proofs.YtbinbojicmhdlaeGreatDoor.Kn
open Go.RowKit Go.Maps

theorem keyI : Keyed Tryz.prog 3 := int_keyed Tryz.underlying3

/-- what the reference's small map says -/
def needD (k : Nat) : Nat := if k = 15 then 14 else if k = 14 then 13 else if k = 6 then 5 else 0

theorem need_upd {w : World} {b n : Nat} {D : DataW Unit} (h : w.ownsMap Tryz.prog 3 (plainElem Tryz.prog 3) b n D) (hn : n ≤ 100) (a z : Nat) (ha : a ≤ 100) (hz : z ≤ 100) :
    ∃ w', (Instr.mapUpdate 81 (.map (some b)) (.int .i64 (a : Int)) (.int .i64 (z : Int))).run Tryz.prog w = .ok () w' ∧ w'.ownsMap Tryz.prog 3 (plainElem Tryz.prog 3) b (n + 1) (D.put (.int .i64 (a : Int)) (.lit (.int .i64 (z : Int)))) ∧ w.grownBy w' (some b) :=
  World.ownsMap.update h keyI Tryz.underlying81 (by unfold maxLen; omega) (keyOf_int_mk Tryz.underlying3 (WalkArith.wf_i64 (by omega))) (plainElem_int Tryz.underlying3 (WalkArith.wf_i64 (by omega)))

set_option maxRecDepth 100000 in
theorem need_map (W : World) : ∃ (M : Nat) (w0 w1 w2 w3 : World), (∀ t, (Instr.makeMap t none).run Tryz.prog W = .ok (.map (some M)) w0) ∧
    (Instr.mapUpdate 81 (.map (some M)) (.int .i64 6) (.int .i64 5)).run Tryz.prog w0 = .ok () w1 ∧
    (Instr.mapUpdate 81 (.map (some M)) (.int .i64 14) (.int .i64 13)).run Tryz.prog w1 = .ok () w2 ∧
    (Instr.mapUpdate 81 (.map (some M)) (.int .i64 15) (.int .i64 14)).run Tryz.prog w2 = .ok () w3 ∧
    (∀ k : Nat, k ≤ 100 → (Instr.lookup 81 (.map (some M)) (.int .i64 (k : Int)) false).run Tryz.prog w3 = .ok (.int .i64 ((needD k : Nat) : Int)) w3) ∧
    (∀ B xs, Box W B xs → Box w3 B xs) ∧ Below W.heap.size W w3 := by
  have M0 : (W.alloc (.map #[] 0)).ownsMap Tryz.prog 3 (plainElem (H := Unit) Tryz.prog 3) W.heap.size 0 (.map []) := World.ownsMap_made W Tryz.prog 3 _
  obtain ⟨w1, q1, M1, g1⟩ := need_upd M0 (by omega) 6 5 (by omega) (by omega)
  obtain ⟨w2, q2, M2, g2⟩ := need_upd M1 (by omega) 14 13 (by omega) (by omega)
  obtain ⟨w3, q3, M3, g3⟩ := need_upd M2 (by omega) 15 14 (by omega) (by omega)
  have s1 := g1.size
  have s2 := g2.size
  have s3 := g3.size
  simp at s1
  refine ⟨W.heap.size, _, w1, w2, w3, fun t => run_makeMap t W, q1, q2, q3, fun k hk => ?_, fun B xs hB => ?_, ?_⟩
  · obtain ⟨v, ps, hrun, hv⟩ := M3.lookup (t := 81) keyI Tryz.underlying81 (zeroI w3) (zd := .lit (.int .i64 0)) (zp := []) (plainElem_int Tryz.underlying3 (by decide)) (keyOf_int_mk Tryz.underlying3 (WalkArith.wf_i64 (n := (k : Int)) (by omega)))
    obtain ⟨c, rfl, hc, _⟩ := plainElem_int_inv Tryz.underlying3 hv
    rw [hrun]
    have hc1 := congrArg Prod.fst hc
    simp only at hc1
    have i0 : IsMap (.map [] : DataW Unit) := isMap_empty
    have e : c = ((needD k : Nat) : Int) := by
      unfold needD
      have ne : ∀ a : Nat, k ≠ a → Lit.int .i64 (k : Int) ≠ Lit.int .i64 (a : Int) := fun a h x => h (by injection x with _ x; omega)
      by_cases h15 : k = 15
      · subst h15
        rw [atKey_put_same ((i0.put _ _).put _ _) (by trivial)] at hc1
        injection hc1 with hc1; injection hc1 with _ hc1
        rw [← hc1]; rfl
      · rw [atKey_put_other (ne 15 h15)] at hc1
        rw [if_neg h15]
        by_cases h14 : k = 14
        · subst h14
          rw [atKey_put_same (i0.put _ _) (by trivial)] at hc1
          injection hc1 with hc1; injection hc1 with _ hc1
          rw [← hc1]; rfl
        · rw [atKey_put_other (ne 14 h14)] at hc1
          rw [if_neg h14]
          by_cases h6 : k = 6
          · subst h6
            rw [atKey_put_same i0 (by trivial)] at hc1
            injection hc1 with hc1; injection hc1 with _ hc1
            rw [← hc1]; rfl
          · rw [atKey_put_other (ne 6 h6)] at hc1
            rw [if_neg h6]
            injection hc1 with hc1; injection hc1 with _ hc1
            rw [← hc1]; rfl
    rw [e]
  · have ne : B ≠ W.heap.size := Nat.ne_of_lt hB.1
    exact (((hB.alloc _).grown g1 ne).grown g2 ne).grown g3 ne
  · exact ((((Below.refl _ _).alloc (Nat.le_refl _) _).grown g1 (by simp) (fun j hj => by cases hj; exact Nat.le_refl _)).grown g2 (by omega) (fun j hj => by cases hj; exact Nat.le_refl _)).grown g3 (by omega) (fun j hj => by cases hj; exact Nat.le_refl _)

theorem boxK3 {w w1 : World} {a b d : Obj} {t : TypeId} {nm : Array UInt8} (h : Below ((((w.alloc a).alloc b).alloc (.cells #[.string ⟨nm⟩, .bool false, .bool false, .bool false, .bool false, .bool false, .int .i64 0] t)).alloc d).heap.size ((((w.alloc a).alloc b).alloc (.cells #[.string ⟨nm⟩, .bool false, .bool false, .bool false, .bool false, .bool false, .int .i64 0] t)).alloc d) w1) :
    Box w1 (w.heap.size + 1 + 1) [.string ⟨nm⟩, .bool false, .bool false, .bool false, .bool false, .bool false, .int .i64 0] := by
  have := ((box_new ((w.alloc a).alloc b) t [.string ⟨nm⟩, .bool false, .bool false, .bool false, .bool false, .bool false, .int .i64 0]).alloc d).below h
  simpa using this

theorem below8 {B g R : Nat} {w0 w : World} (h : Below R w0 w) (hg : R ≤ g ∧ R ≤ B) (y x0 x1 x2 x3 x4 x5 x6 : Value) :
    Below R w0 ((((((((w.setCell ⟨g, 6, none⟩ y).setCell ⟨B, 0, none⟩ x0).setCell ⟨B, 1, none⟩ x1).setCell ⟨B, 2, none⟩ x2).setCell ⟨B, 3, none⟩ x3).setCell ⟨B, 4, none⟩ x4).setCell ⟨B, 5, none⟩ x5).setCell ⟨B, 6, none⟩ x6) :=
  (((((((h.setCell hg.1 _).setCell hg.2 _).setCell hg.2 _).setCell hg.2 _).setCell hg.2 _).setCell hg.2 _).setCell hg.2 _).setCell hg.2 _

theorem kt_eq : ∀ k, k < 19 → 1 ≤ k → (kt k).content = [4, 7, 8, 9, 14, 15].any (fun x : Nat => (x : Int) == (k : Int)) ∧ (kt k).leaf = [8, 9, 10, 11, 12].any (fun x : Nat => (x : Int) == (k : Int)) ∧ (kt k).level = ((k : Int) == 4 || (k : Int) == 6) ∧ (kt k).checked = ((k : Int) == 9) ∧ (kt k).named = (!([6, 10, 18].any (fun x : Nat => (x : Int) == (k : Int)))) ∧ (kt k).need = needD k := by decide

set_option maxHeartbeats 400000 in
set_option maxRecDepth 100000 in
theorem qkind_in {w : World} (k : Nat) (h1 : 1 ≤ k) (h2 : k < 19) : Calls Tryz.prog 26 #[.int .i64 k] w fun e w' => e = .returned (kval (kt k)) ∧ Below w.heap.size w w' := by
  have hN := names_at k h2
  have E : Hid (kval (kt k) = .agg #[.string ⟨(kt k).name.toArray⟩, .bool ([4, 7, 8, 9, 14, 15].any (fun x : Nat => (x : Int) == (k : Int))), .bool ([8, 9, 10, 11, 12].any (fun x : Nat => (x : Int) == (k : Int))), .bool ((k : Int) == 4 || (k : Int) == 6), .bool ((k : Int) == 9), .bool (!([6, 10, 18].any (fun x : Nat => (x : Int) == (k : Int)))), .int .i64 ((needD k : Nat) : Int)]) := by
    show _ = _
    obtain ⟨e1, e2, e3, e4, e5, e6⟩ := kt_eq k h2 h1
    unfold kval
    rw [e1, e2, e3, e4, e5, e6]
  generalize (kt k).name.toArray = nm at hN E
  go_enter Tryz.func26, Tryz.ntmps26
  go_wp2_with fail
  refine (has_at (l := [6, 10, 18]) ?_ (by decide) _).mono ?_
  · exact has_lit (by simp) rfl
  rintro e w1 ⟨rfl, b1⟩
  have HR : Hid (Box w1 w.heap.size [.string ⟨#[]⟩, .bool false, .bool false, .bool false, .bool false, .bool false, .int .i64 0]) := ((((box_new _ _ _).alloc _).alloc _).alloc _).below b1
  have HK : Hid (Box w1 (w.heap.size + 1 + 1) [.string ⟨nm⟩, .bool false, .bool false, .bool false, .bool false, .bool false, .int .i64 0]) := boxK3 b1
  have HB : Hid (Below w.heap.size w w1) := (((((Below.refl _ _).alloc (Nat.le_refl _) _).alloc (by simp) _).alloc (by simp; omega) _).alloc (by simp; omega) _).trans (b1.mono (by simp; omega))
  have HS : Hid (w.heap.size + 1 + 1 < w1.heap.size) := HK.out.1
  clear b1 hN
  have c5 := (HK.out.2 5 _ rfl).1
  have f5 := (HK.out.2 5 _ rfl).2
  generalize [6, 10, 18].any (fun x : Nat => (x : Int) == (k : Int)) = v5 at *
  generalize hR : w.heap.size = R at *
  go_wp2_with fail
  refine (has_at (l := [4, 7, 8, 9, 14, 15]) ?_ (by decide) _).mono ?_
  · exact has_lit (by simp) rfl
  rintro e w2 ⟨rfl, b2⟩
  have HR2 : Hid (Box w2 R [.string ⟨#[]⟩, .bool false, .bool false, .bool false, .bool false, .bool false, .int .i64 0]) := ((HR.out.other (by omega) _ _).alloc _).below b2
  have HK2 : Hid (Box w2 (R + 1 + 1) [.string ⟨nm⟩, .bool false, .bool false, .bool false, .bool false, .bool !v5, .int .i64 0]) := ((HK.out.set 5 (.bool !v5) (by simp)).alloc _).below b2
  have HB2 : Hid (Below R w w2) := (((HB.out.setCell (by show R ≤ R + 1 + 1; omega) _).alloc (by simp; have := HS.out; omega) _).trans (b2.mono (by simp; have := HS.out; omega)))
  have HS2 : Hid (R + 1 + 1 < w2.heap.size) := HK2.out.1
  clear b2 HR HK HB HS c5 f5
  have c1 := (HK2.out.2 1 _ rfl).1
  have f1 := (HK2.out.2 1 _ rfl).2
  generalize [4, 7, 8, 9, 14, 15].any (fun x : Nat => (x : Int) == (k : Int)) = v1 at *
  go_wp2_with fail
  refine (has_at (l := [8, 9, 10, 11, 12]) ?_ (by decide) _).mono ?_
  · exact has_lit (by simp) rfl
  rintro e w3 ⟨rfl, b3⟩
  have HR3 : Hid (Box w3 R [.string ⟨#[]⟩, .bool false, .bool false, .bool false, .bool false, .bool false, .int .i64 0]) := ((HR2.out.other (by omega) _ _).alloc _).below b3
  have HK3 : Hid (Box w3 (R + 1 + 1) [.string ⟨nm⟩, .bool v1, .bool false, .bool false, .bool false, .bool !v5, .int .i64 0]) := ((HK2.out.set 1 (.bool v1) (by simp)).alloc _).below b3
  have HB3 : Hid (Below R w w3) := (((HB2.out.setCell (by show R ≤ R + 1 + 1; omega) _).alloc (by simp; have := HS2.out; omega) _).trans (b3.mono (by simp; have := HS2.out; omega)))
  have HS3 : Hid (R + 1 + 1 < w3.heap.size) := HK3.out.1
  clear b3 HR2 HK2 HB2 HS2 c1 f1
  have c2 := (HK3.out.2 2 _ rfl).1
  have f2 := (HK3.out.2 2 _ rfl).2
  have c3 := (HK3.out.2 3 _ rfl).1
  have f3 := (HK3.out.2 3 _ rfl).2
  have c4 := (HK3.out.2 4 _ rfl).1
  have f4 := (HK3.out.2 4 _ rfl).2
  generalize [8, 9, 10, 11, 12].any (fun x : Nat => (x : Int) == (k : Int)) = v2 at *
  by_cases h4 : k = 4
  · subst h4
    obtain ⟨M, w40, w41, w42, w43, hmm, r1, r2, r3, look, bx, bel⟩ := need_map (((w3.setCell ⟨R + 1 + 1, 2, none⟩ (.bool v2)).setCell ⟨R + 1 + 1, 3, none⟩ (.bool true)).setCell ⟨R + 1 + 1, 4, none⟩ (.bool false))
    have HK4 : Hid (Box w43 (R + 1 + 1) [.string ⟨nm⟩, .bool v1, .bool v2, .bool true, .bool false, .bool !v5, .int .i64 0]) := bx _ _ (((HK3.out.set 2 (.bool v2) (by simp)).set 3 (.bool true) (by simp)).set 4 (.bool false) (by simp))
    have HR4 : Hid (Box w43 R [.string ⟨#[]⟩, .bool false, .bool false, .bool false, .bool false, .bool false, .int .i64 0]) := bx _ _ (((HR3.out.other (by omega) _ _).other (by omega) _ _).other (by omega) _ _)
    have HB4 : Hid (Below R w w43) := (((HB3.out.setCell (by show R ≤ R + 1 + 1; omega) _).setCell (by show R ≤ R + 1 + 1; omega) _).setCell (by show R ≤ R + 1 + 1; omega) _).trans (bel.mono (by simp; have := HS3.out; omega))
    have lk : (Instr.lookup 81 (.map (some M)) (.int .i64 4) false).run Tryz.prog w43 = .ok (.int .i64 0) w43 := look 4 (by omega)
    clear look bx bel HK3 HR3 HB3
    have c0 := (HK4.out.2 0 _ rfl).1
    have c1 := (HK4.out.2 1 _ rfl).1
    have c2' := (HK4.out.2 2 _ rfl).1
    have c3' := (HK4.out.2 3 _ rfl).1
    have c4' := (HK4.out.2 4 _ rfl).1
    have c5 := (HK4.out.2 5 _ rfl).1
    have c6 := (HK4.out.2 6 _ rfl).1
    have f6 := (HK4.out.2 6 _ rfl).2
    have r0 := (HR4.out.2 0 _ rfl).1
    have r1' := (HR4.out.2 1 _ rfl).1
    have r2' := (HR4.out.2 2 _ rfl).1
    have r3' := (HR4.out.2 3 _ rfl).1
    have r4 := (HR4.out.2 4 _ rfl).1
    have r5 := (HR4.out.2 5 _ rfl).1
    have r6 := (HR4.out.2 6 _ rfl).1
    have g0 := (HR4.out.2 0 _ rfl).2
    have g1 := (HR4.out.2 1 _ rfl).2
    have g2 := (HR4.out.2 2 _ rfl).2
    have g3 := (HR4.out.2 3 _ rfl).2
    have g4 := (HR4.out.2 4 _ rfl).2
    have g5 := (HR4.out.2 5 _ rfl).2
    have g6 := (HR4.out.2 6 _ rfl).2
    go_wp2_with fail
    refine bodyPost_ret (v := .agg #[.string ⟨nm⟩, .bool v1, .bool v2, .bool true, .bool false, .bool !v5, .int .i64 0]) (by simp [results, Tryz.results26, go_sem, r0, r1', r2', r3', r4, r5, r6]) rfl ⟨by rw [E.out]; rfl, ?_⟩
    rw [hR]
    exact below8 HB4.out (by omega) _ _ _ _ _ _ _ _
  · have k4 : ((k : Int) == 4) = false := by simp; omega
    have E2 : Hid (((k : Int) == 4 || (k : Int) == 6) = ((k : Int) == 6)) := by show _ = _; rw [k4]; rfl
    rw [E2.out] at E
    obtain ⟨M, w40, w41, w42, w43, hmm, r1, r2, r3, look, bx, bel⟩ := need_map (((w3.setCell ⟨R + 1 + 1, 2, none⟩ (.bool v2)).setCell ⟨R + 1 + 1, 3, none⟩ (.bool ((k : Int) == 6))).setCell ⟨R + 1 + 1, 4, none⟩ (.bool ((k : Int) == 9)))
    have HK4 : Hid (Box w43 (R + 1 + 1) [.string ⟨nm⟩, .bool v1, .bool v2, .bool ((k : Int) == 6), .bool ((k : Int) == 9), .bool !v5, .int .i64 0]) := bx _ _ (((HK3.out.set 2 (.bool v2) (by simp)).set 3 (.bool ((k : Int) == 6)) (by simp)).set 4 (.bool ((k : Int) == 9)) (by simp))
    have HR4 : Hid (Box w43 R [.string ⟨#[]⟩, .bool false, .bool false, .bool false, .bool false, .bool false, .int .i64 0]) := bx _ _ (((HR3.out.other (by omega) _ _).other (by omega) _ _).other (by omega) _ _)
    have HB4 : Hid (Below R w w43) := (((HB3.out.setCell (by show R ≤ R + 1 + 1; omega) _).setCell (by show R ≤ R + 1 + 1; omega) _).setCell (by show R ≤ R + 1 + 1; omega) _).trans (bel.mono (by simp; have := HS3.out; omega))
    have lk := look k (by omega)
    clear look bx bel HK3 HR3 HB3
    have c0 := (HK4.out.2 0 _ rfl).1
    have c1 := (HK4.out.2 1 _ rfl).1
    have c2' := (HK4.out.2 2 _ rfl).1
    have c3' := (HK4.out.2 3 _ rfl).1
    have c4' := (HK4.out.2 4 _ rfl).1
    have c5 := (HK4.out.2 5 _ rfl).1
    have c6 := (HK4.out.2 6 _ rfl).1
    have f6 := (HK4.out.2 6 _ rfl).2
    have r0 := (HR4.out.2 0 _ rfl).1
    have r1' := (HR4.out.2 1 _ rfl).1
    have r2' := (HR4.out.2 2 _ rfl).1
    have r3' := (HR4.out.2 3 _ rfl).1
    have r4 := (HR4.out.2 4 _ rfl).1
    have r5 := (HR4.out.2 5 _ rfl).1
    have r6 := (HR4.out.2 6 _ rfl).1
    have g0 := (HR4.out.2 0 _ rfl).2
    have g1 := (HR4.out.2 1 _ rfl).2
    have g2 := (HR4.out.2 2 _ rfl).2
    have g3 := (HR4.out.2 3 _ rfl).2
    have g4 := (HR4.out.2 4 _ rfl).2
    have g5 := (HR4.out.2 5 _ rfl).2
    have g6 := (HR4.out.2 6 _ rfl).2
    go_wp2_with fail
    refine bodyPost_ret (v := .agg #[.string ⟨nm⟩, .bool v1, .bool v2, .bool ((k : Int) == 6), .bool ((k : Int) == 9), .bool !v5, .int .i64 ((needD k : Nat) : Int)]) (by simp [results, Tryz.results26, go_sem, r0, r1', r2', r3', r4, r5, r6]) rfl ⟨by rw [E.out], ?_⟩
    rw [hR]
    exact below8 HB4.out (by omega) _ _ _ _ _ _ _ _

set_option maxHeartbeats 400000 in
set_option maxRecDepth 100000 in
theorem qkind_out {w : World} (r : Int) (h : ¬ (1 ≤ r ∧ r < 19)) : Calls Tryz.prog 26 #[.int .i64 r] w fun e w' => e = .returned (kval k0) ∧ Below w.heap.size w w' := by
  go_enter Tryz.func26, Tryz.ntmps26
  go_wp2_with fail
  all_goals
    refine bodyPost_ret (v := .agg #[.string ⟨#[]⟩, .bool false, .bool false, .bool false, .bool false, .bool false, .int .i64 0]) (by simp [results, Tryz.results26, go_sem]) rfl ⟨rfl, ?_⟩
    exact ((Below.refl _ _).alloc (Nat.le_refl _) _).alloc (by simp) _

/-- what the reference says of a role -/
theorem qkind_any {w : World} (r : Int) : Calls Tryz.prog 26 #[.int .i64 r] w fun e w' => e = .returned (kval (ofD r)) ∧ Below w.heap.size w w' := by
  by_cases h : 1 ≤ r ∧ r < 19
  · obtain ⟨k, rfl⟩ := Int.eq_ofNat_of_zero_le (by omega : 0 ≤ r)
    have e : ofD (k : Int) = kt k := by unfold ofD; rw [if_pos (by omega), Int.toNat_natCast]
    rw [e]
    exact qkind_in k (by omega) (by omega)
  · have e : ofD r = k0 := by
      unfold ofD
      split
      · have : r = 0 := by omega
        rw [this]; rfl
      · rfl
    rw [e]
    exact qkind_out r h
end Go.Proofs.YtbinbojicmhdlaeGreatDoor.Kn

/-
  THE WALKS of the reference's Asked and Tag, and that they say what kinds.Find and kinds.Tag say.
-/
namespace Go.Proofs.YtbinbojicmhdlaeGreatDoor.Kn
open Go.RowKit Go.Maps

end Go.Proofs.YtbinbojicmhdlaeGreatDoor.Kn

/-
  PLAIN MATHEMATICS: labels, roles, what is hidden.
-/
namespace Go.Proofs.YtbinbojicmhdlaeGreatDoor
open Tn

/-- an attribute, said -/
def saidN (d : Dc) (n : Int) (name : ByteArray) : ByteArray := Wd.sqz (valN d n name)

theorem said_size {d : Dc} (h : ∀ j, Vn (nd d j)) (n : Int) (name : ByteArray) : (saidN d n name).size ≤ 4194304 := by
  have h1 := val_size h n name
  have h2 := Wd.joined_len (valN d n name)
  have : (saidN d n name).size = (Tx.joined (Wd.toksOf (valN d n name))).length := rfl
  omega

def labD (d : Dc) (n : Int) : Bool := !(saidN d n ⟨#[97, 114, 105, 97, 45, 108, 97, 98, 101, 108]⟩).toList.isEmpty || !(saidN d n ⟨#[97, 114, 105, 97, 45, 108, 97, 98, 101, 108, 108, 101, 100, 98, 121]⟩).toList.isEmpty
def hasN (d : Dc) (n : Int) (name : ByteArray) : Bool := (attrN d n name).isSome
def lowS (s : ByteArray) : ByteArray := Tx.bs (Wd.lowL s.data.toList)

def wantL (lab : Bool) : List (List UInt8) → Int
  | [] => -1
  | t :: ts => if Kn.findD (Wd.lowL t) = 0 ∧ lab = true then -1 else if 0 ≤ Kn.findD (Wd.lowL t) then Kn.findD (Wd.lowL t) else wantL lab ts
def wantD (d : Dc) (n : Int) : Int := wantL (labD d n) (Wd.toksOf (valN d n ⟨#[114, 111, 108, 101]⟩))

def isA (s : ByteArray) (l : List UInt8) : Bool := s.toList == l
def natT (lab href chk alt0 title : Bool) (tag : ByteArray) : Int :=
  if isA tag [97] && href then 7
  else if isA tag [105, 110, 112, 117, 116] && chk then 9
  else if isA tag [105, 110, 112, 117, 116] then 12
  else if isA tag [105, 109, 103] && alt0 && !lab then 0
  else if isA tag [105, 109, 103] then 11
  else if isA tag [115, 101, 99, 116, 105, 111, 110] && (lab || title) then 16
  else Kn.tagD tag.data.toList
def natD (d : Dc) (n : Int) : Int :=
  natT (labD d n) (hasN d n ⟨#[104, 114, 101, 102]⟩) (isA (lowS (saidN d n ⟨#[116, 121, 112, 101]⟩)) [99, 104, 101, 99, 107, 98, 111, 120]) (hasN d n ⟨#[97, 108, 116]⟩ && (saidN d n ⟨#[97, 108, 116]⟩).toList.isEmpty) (!(saidN d n ⟨#[116, 105, 116, 108, 101]⟩).toList.isEmpty) (nd d n.toNat).tag

/-- the role by itself -/
def aloneD (d : Dc) (n : Int) : Int := if isN d n true then (if 0 ≤ wantD d n then wantD d n else natD d n) else 10
def needI (r : Int) : Int := ((Kn.ofD r).need : Int)
def fitD (r a : Int) : Int := if needI r ≠ 0 ∧ needI r ≠ a then 18 else r

def lineF : Nat → Dc → Int → List Nat
  | 0, _, _ => []
  | f + 1, d, n => if isN d n false then n.toNat :: lineF f d (upF d n) else []
def lineD (d : Dc) (n : Int) : List Nat := lineF 64 d n

def keepA (r a : Int) : Int := if r ≠ 0 ∧ r ≠ 18 then r else a
def roleL (d : Dc) : List Nat → Int × Int
  | [] => (0, 0)
  | k :: ks => (fitD (aloneD d (k : Int)) (roleL d ks).2, keepA (fitD (aloneD d (k : Int)) (roleL d ks).2) (roleL d ks).2)
def roleD (d : Dc) (n : Int) : Int := (roleL d (lineD d n)).1
def concD (d : Dc) (n : Int) : Bool := hasN d n ⟨#[104, 105, 100, 100, 101, 110]⟩ || isA (lowS (saidN d n ⟨#[97, 114, 105, 97, 45, 104, 105, 100, 100, 101, 110]⟩)) [116, 114, 117, 101]
def hidL (d : Dc) (l : List Nat) : Bool := l.isEmpty || decide (l.getLast?.getD 0 ≠ 0) || l.any (fun k => concD d (k : Int))
def hidD (d : Dc) (n : Int) : Bool := hidL d (lineD d n)

theorem up_kid {d : Dc} {n : Int} {m : Nat} (h : upF d n = (m : Int)) : ∃ k : Nat, n = (k : Int) ∧ k ∈ kidsD d (m : Int) := by
  unfold upF at h
  split at h
  · rename_i hi
    obtain ⟨k, rfl, _, _⟩ := isN_nat hi
    rw [Int.toNat_natCast] at h
    split at h
    · rename_i hc
      exact ⟨k, rfl, by rw [← h]; simpa using hc⟩
    · split at h
      · rename_i hc
        exact ⟨k, rfl, by rw [← h]; simpa using hc⟩
      · omega
  · omega

theorem up_cases {d : Dc} (h : Fine d) (n : Int) : upF d n = -1 ∨ ∃ m k : Nat, upF d n = (m : Int) ∧ n = (k : Int) ∧ k ∈ kidsD d (m : Int) ∧ lvD d m = true ∧ posD d m < posD d k := by
  have h0 : upF d n = -1 ∨ 0 ≤ upF d n := by
    unfold upF
    split
    · split
      · rename_i hc
        right
        have hm : n.toNat ∈ kidsD d (nd d n.toNat).up := by simpa using hc
        obtain ⟨m, e, _⟩ := kid_nat hm
        omega
      · split
        · rename_i hc
          right
          have hm : n.toNat ∈ kidsD d (slotD d n) := by simpa using hc
          obtain ⟨m, e, _⟩ := kid_nat hm
          omega
        · left; rfl
    · left; rfl
  rcases h0 with h0 | h0
  · exact Or.inl h0
  · right
    obtain ⟨m, hm⟩ : ∃ m : Nat, upF d n = (m : Int) := ⟨(upF d n).toNat, by omega⟩
    obtain ⟨k, hk, hkm⟩ := up_kid hm
    exact ⟨m, k, hm, hk, hkm, (kid_par h hkm).1, kid_pos h hkm⟩

/-- more steps tell no more -/
theorem line_more {d : Dc} (h : Fine d) : ∀ (f g : Nat) (n : Int), (∀ k : Nat, n = (k : Int) → lvD d k = true → posD d k < f) → f ≤ g → lineF g d n = lineF f d n
  | 0, g, n, hf, _ => by
    have hi : isN d n false = false := by
      cases hi : isN d n false with
      | false => rfl
      | true =>
        obtain ⟨k, rfl, _, hl⟩ := isN_nat hi
        exact absurd (hf k rfl hl) (by omega)
    cases g with
    | zero => rfl
    | succ g => rw [lineF, lineF, hi]; rfl
  | f + 1, 0, n, _, hg => by omega
  | f + 1, g + 1, n, hf, hg => by
    rw [lineF, lineF]
    split
    · rename_i hi
      obtain ⟨k, rfl, _, hl⟩ := isN_nat hi
      have hp := hf k rfl hl
      congr 1
      refine line_more h f g _ ?_ (by omega)
      intro m hm _
      rcases up_cases h (k : Int) with e | ⟨m', k', e1, e2, _, _, e3⟩
      · omega
      · have : m = m' := by omega
        have : k = k' := by omega
        subst_vars
        omega
    · rfl

theorem pos_60 {d : Dc} (h : Fine d) {k : Nat} (hk : lvD d k = true) : posD d k < 60 := Nat.lt_of_lt_of_le (pos_lt h hk) (all_few h)

theorem line_eq {d : Dc} (h : Fine d) (n : Int) : lineD d n = if isN d n false then n.toNat :: lineD d (upF d n) else [] := by
  unfold lineD
  rw [lineF]
  split
  · rw [line_more h 63 64 (upF d n) (fun k _ hk => by have := pos_60 h hk; omega) (by omega)]
  · rfl

theorem line_nil {d : Dc} (h : Fine d) {n : Int} (hn : isN d n false = false) : lineD d n = [] := by rw [line_eq h, hn]; rfl
theorem line_cons {d : Dc} (h : Fine d) {k : Nat} (hk : isN d (k : Int) false = true) : lineD d (k : Int) = k :: lineD d (upF d (k : Int)) := by rw [line_eq h, hk, Int.toNat_natCast]; rfl

theorem alone_text {d : Dc} {n : Int} (h : isN d n true = false) : aloneD d n = 10 := by unfold aloneD; rw [h]; rfl
end Go.Proofs.YtbinbojicmhdlaeGreatDoor

/-
  PLAIN MATHEMATICS: who owns what; nothing is within itself.
-/
namespace Go.Proofs.YtbinbojicmhdlaeGreatDoor
open Tn

/-- a claim: who owns, what -/
abbrev Cl := Nat × Nat

def ownerD (l : List Cl) (n : Int) : Int := match l.find? (fun c => decide ((c.2 : Int) = n)) with | some c => (c.1 : Int) | none => -1
def inD (d : Dc) (l : List Cl) (n : Int) : Int := if 0 ≤ ownerD l n then ownerD l n else upF d n
def insideD (d : Dc) (l : List Cl) (n : Int) : List Nat := (kidsD d n).filter (fun (k : Nat) => decide (ownerD l (k : Int) < 0)) ++ (l.filter (fun c => decide ((c.1 : Int) = n))).map (·.2)

/-- the way up -/
def wayF : Nat → Dc → List Cl → Int → List Nat
  | 0, _, _, _ => []
  | f + 1, d, l, n => if 0 ≤ n then n.toNat :: wayF f d l (inD d l n) else []
def wayD (d : Dc) (l : List Cl) (n : Int) : List Nat := wayF 64 d l n

def shD (d : Dc) : List Nat := shownF fuel d 0
def takes (d : Dc) (l : List Cl) (n : Nat) (k : Int) : Bool := decide (1 ≤ k) && (shD d).contains k.toNat && decide (ownerD l k < 0) && !(wayD d l (n : Int)).contains k.toNat
def claim1 (d : Dc) (n : Nat) (l : List Cl) (k : Int) : List Cl := if takes d l n k then l ++ [(n, k.toNat)] else l
def asksD (d : Dc) (n : Nat) : List Int := (Wd.toksOf (valN d (n : Int) ⟨#[97, 114, 105, 97, 45, 111, 119, 110, 115]⟩)).map (fun t => findD d (n : Int) (Tx.bs t))
def claimN (d : Dc) (l : List Cl) (n : Nat) : List Cl := (asksD d n).foldl (claim1 d n) l
def claimsD (d : Dc) : List Cl := (shD d).foldl (claimN d) []

structure Forest (d : Dc) (l : List Cl) : Prop where
  own : ∀ c ∈ l, c.1 ∈ shD d ∧ c.2 ∈ shD d ∧ 0 < c.2
  nodup : (l.map (·.2)).Nodup
  rank : ∃ r : Nat → Nat, ∀ x ∈ shD d, x ≠ 0 → ∃ y ∈ shD d, inD d l (x : Int) = (y : Int) ∧ r y < r x

theorem owner_none {l : List Cl} {n : Int} (h : ∀ c ∈ l, (c.2 : Int) ≠ n) : ownerD l n = -1 := by
  unfold ownerD
  rw [List.find?_eq_none.mpr (fun c hc => by simpa using h c hc)]
theorem owner_cases (l : List Cl) (n : Int) : (ownerD l n = -1 ∧ ∀ c ∈ l, (c.2 : Int) ≠ n) ∨ ∃ o k : Nat, n = (k : Int) ∧ (o, k) ∈ l ∧ ownerD l n = (o : Int) := by
  cases h : l.find? (fun c => decide ((c.2 : Int) = n)) with
  | none =>
    have := List.find?_eq_none.mp h
    refine Or.inl ⟨by unfold ownerD; rw [h], fun c hc => by simpa using this c hc⟩
  | some c =>
    have h1 := List.find?_some h
    have h2 := List.mem_of_find?_eq_some h
    exact Or.inr ⟨c.1, c.2, by have : (c.2 : Int) = n := by simpa using h1
                               exact this.symm, h2, by unfold ownerD; rw [h]⟩
theorem owner_neg {l : List Cl} {n : Int} (h : ownerD l n < 0) : ∀ c ∈ l, (c.2 : Int) ≠ n := by
  rcases owner_cases l n with ⟨_, h2⟩ | ⟨o, k, _, _, e⟩
  · exact h2
  · omega
theorem nodup_two : ∀ {l : List Cl} {a b k : Nat}, (l.map (·.2)).Nodup → (a, k) ∈ l → (b, k) ∈ l → a = b
  | [], _, _, _, _, h, _ => by simp at h
  | c :: l, a, b, k, hn, ha, hb => by
    rw [List.map_cons, List.nodup_cons] at hn
    rcases List.mem_cons.mp ha with e1 | ha'
    · rcases List.mem_cons.mp hb with e2 | hb'
      · exact congrArg Prod.fst (e1.trans e2.symm)
      · exact absurd (List.mem_map.mpr ⟨(b, k), hb', show k = c.2 from congrArg Prod.snd e1⟩) hn.1
    · rcases List.mem_cons.mp hb with e2 | hb'
      · exact absurd (List.mem_map.mpr ⟨(a, k), ha', show k = c.2 from congrArg Prod.snd e2⟩) hn.1
      · exact nodup_two hn.2 ha' hb'
/-- the owner is who has a claim -/
theorem owner_mem {l : List Cl} (hn : (l.map (·.2)).Nodup) {o k : Nat} (h : (o, k) ∈ l) : ownerD l (k : Int) = (o : Int) := by
  rcases owner_cases l (k : Int) with ⟨_, h2⟩ | ⟨o', k', e1, h2, e2⟩
  · exact absurd rfl (h2 _ h)
  · have : k = k' := by omega
    subst this
    rw [e2, nodup_two hn h2 h]

theorem owner_app {l : List Cl} {n k : Nat} {x : Int} (hx : x ≠ (k : Int)) : ownerD (l ++ [(n, k)]) x = ownerD l x := by
  unfold ownerD
  rw [List.find?_append]
  have : ([(n, k)] : List Cl).find? (fun c => decide ((c.2 : Int) = x)) = none := by
    rw [List.find?_eq_none]
    intro c hc
    rw [List.mem_singleton] at hc
    subst hc
    simpa using fun h => hx h.symm
  rw [this, Option.or_none]
theorem owner_new {l : List Cl} {n k : Nat} (h : ownerD l (k : Int) < 0) : ownerD (l ++ [(n, k)]) (k : Int) = (n : Int) := by
  unfold ownerD
  rw [List.find?_append, List.find?_eq_none.mpr (fun c hc => by simpa using owner_neg h c hc)]
  simp
theorem in_app {d : Dc} {l : List Cl} {n k : Nat} {x : Int} (hx : x ≠ (k : Int)) : inD d (l ++ [(n, k)]) x = inD d l x := by
  unfold inD
  rw [owner_app hx]
theorem in_new {d : Dc} {l : List Cl} {n k : Nat} (h : ownerD l (k : Int) < 0) : inD d (l ++ [(n, k)]) (k : Int) = (n : Int) := by
  unfold inD
  rw [owner_new h, if_pos (by omega)]

theorem way_neg (d : Dc) (l : List Cl) (f : Nat) {n : Int} (h : n < 0) : wayF f d l n = [] := by
  cases f with
  | zero => rfl
  | succ f => rw [wayF, if_neg (by omega)]
theorem way_take (d : Dc) (l : List Cl) : ∀ (f g : Nat) (n : Int), g ≤ f → wayF g d l n = (wayF f d l n).take g
  | 0, g, n, h => by
    obtain rfl : g = 0 := by omega
    rfl
  | f + 1, 0, n, _ => rfl
  | f + 1, g + 1, n, h => by
    rw [wayF, wayF]
    split
    · rw [List.take_succ_cons, way_take d l f g _ (by omega)]
    · rfl

theorem sh_lv {d : Dc} (h : Fine d) {x : Nat} (hx : x ∈ shD d) : lvD d x = true := by
  obtain ⟨r, hr, _⟩ := h.good.tr
  exact (shown_live h fuel 0 x hr.1.root hx).1
theorem sh_nodup {d : Dc} (h : Fine d) : (shD d).Nodup := by
  obtain ⟨r, hr, _⟩ := h.good.tr
  exact shown_nodup h fuel 0 hr.1.root
theorem sh_few {d : Dc} (h : Fine d) : (shD d).length ≤ 60 ∧ (shD d).length ≤ d.length := by
  obtain ⟨r, hr, _⟩ := h.good.tr
  exact ⟨shown_few h fuel hr.1.root, nodup_le d.length _ (sh_nodup h) (fun x hx => lv_lt (sh_lv h hx))⟩
theorem sh_up {d : Dc} (h : Fine d) {x : Nat} (hx : x ∈ shD d) (h0 : x ≠ 0) : ∃ y ∈ shD d, upF d (x : Int) = (y : Int) ∧ x ∈ kidsD d (y : Int) ∧ posD d y < posD d x := by
  obtain ⟨y, hy, hs⟩ := shown_par fuel 0 x hx h0
  exact ⟨y, hs.subset (by simp), up_of_kid h hy, hy, kid_pos h hy⟩

theorem forest_nil {d : Dc} (h : Fine d) : Forest d [] :=
  ⟨by simp, by simp, ⟨posD d, fun x hx h0 => by
    obtain ⟨y, h1, h2, _, h3⟩ := sh_up h hx h0
    exact ⟨y, h1, by unfold inD; rw [owner_none (by simp), if_neg (by omega)]; exact h2, h3⟩⟩⟩

theorem in_root {d : Dc} (h : Fine d) {l : List Cl} (hl : Forest d l) : inD d l 0 = -1 := by
  unfold inD
  rw [owner_none (fun c hc => by have := (hl.own c hc).2.2; omega), if_neg (by omega)]
  exact up_root h
theorem in_cases {d : Dc} (h : Fine d) {l : List Cl} (hl : Forest d l) {x : Nat} (hx : x ∈ shD d) : inD d l (x : Int) = -1 ∨ ∃ y ∈ shD d, inD d l (x : Int) = (y : Int) := by
  obtain ⟨r, hr⟩ := hl.rank
  by_cases h0 : x = 0
  · subst h0; exact Or.inl (in_root h hl)
  · obtain ⟨y, h1, h2, _⟩ := hr x hx h0
    exact Or.inr ⟨y, h1, h2⟩

/-- the way up is in what is shown, each once; and comes to the root -/
theorem way_facts {d : Dc} (h : Fine d) {l : List Cl} (hl : Forest d l) {r : Nat → Nat} (hr : ∀ x ∈ shD d, x ≠ 0 → ∃ y ∈ shD d, inD d l (x : Int) = (y : Int) ∧ r y < r x) : ∀ (f x : Nat), x ∈ shD d → (∀ y ∈ wayF f d l (x : Int), y ∈ shD d ∧ r y ≤ r x) ∧ (wayF f d l (x : Int)).Nodup
  | 0, x, _ => ⟨by simp [wayF], List.nodup_nil⟩
  | f + 1, x, hx => by
    rw [wayF, if_pos (by omega), Int.toNat_natCast]
    by_cases h0 : x = 0
    · subst h0
      rw [show ((0 : Nat) : Int) = 0 from rfl, in_root h hl, way_neg d l f (by omega)]
      exact ⟨by simp [hx], by simp⟩
    · obtain ⟨y, h1, h2, h3⟩ := hr x hx h0
      obtain ⟨g1, g2⟩ := way_facts h hl hr f y h1
      rw [h2]
      refine ⟨fun z hz => ?_, List.nodup_cons.mpr ⟨fun hz => ?_, g2⟩⟩
      · rcases List.mem_cons.mp hz with rfl | hz
        · exact ⟨hx, Nat.le_refl _⟩
        · have := g1 z hz; exact ⟨this.1, by omega⟩
      · have := (g1 x hz).2; omega

theorem sub_len {a b : List Nat} (ha : a.Nodup) (hs : ∀ x ∈ a, x ∈ b) : a.length ≤ b.length := by
  induction a generalizing b with
  | nil => simp
  | cons x a ih =>
    rw [List.nodup_cons] at ha
    have hx := hs x (by simp)
    have := ih (b := b.erase x) ha.2 (fun y hy => by
      have hne : y ≠ x := fun e => ha.1 (by rw [← e]; exact hy)
      exact (List.mem_erase_of_ne hne).mpr (hs y (by simp [hy])))
    rw [List.length_erase_of_mem hx] at this
    have := List.length_pos_of_mem hx
    simp
    omega

theorem way_len {d : Dc} (h : Fine d) {l : List Cl} (hl : Forest d l) {x : Nat} (hx : x ∈ shD d) (f : Nat) : (wayF f d l (x : Int)).length ≤ (shD d).length := by
  obtain ⟨r, hr⟩ := hl.rank
  obtain ⟨h1, h2⟩ := way_facts h hl hr f x hx
  exact sub_len h2 (fun y hy => (h1 y hy).1)
/-- more steps tell no more -/
theorem way_more {d : Dc} (h : Fine d) {l : List Cl} (hl : Forest d l) {x : Nat} (hx : x ∈ shD d) {f g : Nat} (hf : 60 < f) (hg : 60 < g) : wayF f d l (x : Int) = wayF g d l (x : Int) := by
  have key : ∀ f g, f ≤ g → 60 < f → wayF f d l (x : Int) = wayF g d l (x : Int) := by
    intro f g hfg h60
    have e1 := way_take d l g f (x : Int) hfg
    have e2 := way_len h hl hx f
    have e3 := (sh_few h).1
    rw [e1] at e2 ⊢
    rw [List.length_take] at e2
    exact List.take_of_length_le (by omega)
  by_cases e : f ≤ g
  · exact key f g e hf
  · exact (key g f (by omega) hg).symm
theorem way_cons {d : Dc} (h : Fine d) {l : List Cl} (hl : Forest d l) {x : Nat} (hx : x ∈ shD d) : wayD d l (x : Int) = x :: wayD d l (inD d l (x : Int)) := by
  have e : wayD d l (x : Int) = x :: wayF 63 d l (inD d l (x : Int)) := by
    unfold wayD
    rw [show (64 : Nat) = 63 + 1 from rfl, wayF, if_pos (by omega), Int.toNat_natCast]
  rw [e]
  unfold wayD
  rcases in_cases h hl hx with e2 | ⟨y, hy, e2⟩
  · rw [e2, way_neg d l _ (by omega), way_neg d l _ (by omega)]
  · rw [e2, way_more h hl hy (f := 63) (g := 64) (by omega) (by omega)]
theorem way_no (d : Dc) (l : List Cl) {n : Int} (h : n < 0) : wayD d l n = [] := way_neg d l 64 h

/-- a claim that closes no circle may be taken -/
theorem forest_add {d : Dc} (h : Fine d) {l : List Cl} (hl : Forest d l) {n k : Nat} (hn : n ∈ shD d) (ht : takes d l n (k : Int) = true) : Forest d (l ++ [(n, k)]) := by
  unfold takes at ht
  simp only [Bool.and_eq_true, decide_eq_true_eq, Int.toNat_natCast, Bool.not_eq_true', List.contains_eq_mem, decide_eq_false_iff_not] at ht
  obtain ⟨⟨⟨h1, h2⟩, h3⟩, h4⟩ := ht
  refine ⟨fun c hc => ?_, ?_, ?_⟩
  · rcases List.mem_append.mp hc with hc | hc
    · exact hl.own c hc
    · rw [List.mem_singleton] at hc
      subst hc
      exact ⟨hn, h2, by omega⟩
  · rw [List.map_append, List.nodup_append]
    refine ⟨hl.nodup, by simp, fun a ha b hb => ?_⟩
    obtain ⟨c, hc, rfl⟩ := List.mem_map.mp ha
    have := owner_neg h3 c hc
    simp at hb
    subst hb
    intro e
    exact this (by rw [e])
  · obtain ⟨r, hr⟩ := hl.rank
    refine ⟨fun x => if k ∈ wayD d l (x : Int) then r x + r n + 1 else r x, fun x hx h0 => ?_⟩
    by_cases e : x = k
    · subst e
      refine ⟨n, hn, in_new h3, ?_⟩
      have q1 : x ∈ wayD d l (x : Int) := by rw [way_cons h hl hx]; simp
      show (if x ∈ wayD d l (n : Int) then r n + r n + 1 else r n) < (if x ∈ wayD d l (x : Int) then r x + r n + 1 else r x)
      rw [if_neg h4, if_pos q1]
      omega
    · obtain ⟨y, g1, g2, g3⟩ := hr x hx h0
      refine ⟨y, g1, by rw [in_app (by omega)]; exact g2, ?_⟩
      have e2 := way_cons h hl hx
      rw [g2] at e2
      have : k ∈ wayD d l (x : Int) ↔ k ∈ wayD d l (y : Int) := by
        rw [e2, List.mem_cons]
        exact ⟨fun h => h.resolve_left (fun q => e q.symm), Or.inr⟩
      show (if k ∈ wayD d l (y : Int) then r y + r n + 1 else r y) < (if k ∈ wayD d l (x : Int) then r x + r n + 1 else r x)
      by_cases q : k ∈ wayD d l (y : Int)
      · rw [if_pos q, if_pos (this.mpr q)]; omega
      · rw [if_neg q, if_neg (fun z => q (this.mp z))]; exact g3

theorem takes_nat {d : Dc} {l : List Cl} {n : Nat} {k : Int} (h : takes d l n k = true) : ∃ m : Nat, k = (m : Int) := by
  unfold takes at h
  simp at h
  exact ⟨k.toNat, by omega⟩

theorem forest_claim {d : Dc} (h : Fine d) {l : List Cl} (hl : Forest d l) {n : Nat} (hn : n ∈ shD d) (k : Int) : Forest d (claim1 d n l k) := by
  unfold claim1
  split
  · rename_i ht
    obtain ⟨m, rfl⟩ := takes_nat ht
    rw [Int.toNat_natCast]
    exact forest_add h hl hn ht
  · exact hl
theorem forest_asks {d : Dc} (h : Fine d) {n : Nat} (hn : n ∈ shD d) : ∀ (ks : List Int) (l : List Cl), Forest d l → Forest d (ks.foldl (claim1 d n) l)
  | [], _, hl => hl
  | k :: ks, _, hl => forest_asks h hn ks _ (forest_claim h hl hn k)
theorem forest_nodes {d : Dc} (h : Fine d) : ∀ (ns : List Nat) (l : List Cl), (∀ n ∈ ns, n ∈ shD d) → Forest d l → Forest d (ns.foldl (claimN d) l)
  | [], _, _, hl => hl
  | n :: ns, _, hs, hl => forest_nodes h ns _ (fun m hm => hs m (by simp [hm])) (forest_asks h (hs n (by simp)) _ _ hl)
theorem forest_claims {d : Dc} (h : Fine d) : Forest d (claimsD d) := forest_nodes h _ _ (fun _ hn => hn) (forest_nil h)
/-- .. and so at each turn -/
theorem forest_at {d : Dc} (h : Fine d) (i : Nat) : Forest d (((shD d).take i).foldl (claimN d) []) := forest_nodes h _ _ (fun _ hn => List.mem_of_mem_take hn) (forest_nil h)

/-- how many there may be -/
theorem forest_few {d : Dc} (h : Fine d) {l : List Cl} (hl : Forest d l) : l.length ≤ 60 := by
  have := sub_len hl.nodup (b := shD d) (fun x hx => by
    obtain ⟨c, hc, rfl⟩ := List.mem_map.mp hx
    exact (hl.own c hc).2.1)
  have := (sh_few h).1
  simp at *
  omega

/-! ### the way up, counted -/

end Go.Proofs.YtbinbojicmhdlaeGreatDoor

/-
  PLAIN MATHEMATICS: each is in one; the first one has it.
-/
namespace Go.Proofs.YtbinbojicmhdlaeGreatDoor
open Tn

/-! ### each is in one -/

theorem count_one {l : List Nat} {x : Nat} (hn : l.Nodup) (hx : x ∈ l) : l.count x = 1 := by
  have h1 := List.nodup_iff_count.mp hn x
  have h2 := List.count_pos_iff.mpr hx
  omega

theorem inside_count {d : Dc} (h : Fine d) {l : List Cl} (hl : Forest d l) {x : Nat} (hx : x ∈ shD d) (h0 : x ≠ 0) : ∃ y ∈ shD d, ∀ n : Nat, (insideD d l (n : Int)).count x = if n = y then 1 else 0 := by
  rcases owner_cases l (x : Int) with ⟨e1, e2⟩ | ⟨o, k, e1, e2, e3⟩
  · obtain ⟨y, g1, _, g3, _⟩ := sh_up h hx h0
    refine ⟨y, g1, fun n => ?_⟩
    unfold insideD
    have hz : ((l.filter (fun c => decide ((c.1 : Int) = (n : Int)))).map (·.2)).count x = 0 := by
      rw [List.count_eq_zero]
      intro hm
      obtain ⟨c, hc, e⟩ := List.mem_map.mp hm
      exact e2 c (List.mem_filter.mp hc).1 (by rw [e])
    have hp : decide (ownerD l (x : Int) < 0) = true := by rw [e1]; decide
    rw [List.count_append, hz, Nat.add_zero]
    by_cases e : n = y
    · subst e
      rw [if_pos rfl]
      exact count_one (List.Pairwise.filter _ (kids_nodup h _)) (List.mem_filter.mpr ⟨g3, hp⟩)
    · rw [if_neg e, List.count_eq_zero]
      intro hm
      exact e (kid_one h (List.mem_filter.mp hm).1 g3)
  · obtain rfl : x = k := by omega
    refine ⟨o, (hl.own _ e2).1, fun n => ?_⟩
    unfold insideD
    have hz : ((kidsD d (n : Int)).filter (fun (k : Nat) => decide (ownerD l (k : Int) < 0))).count x = 0 := by
      rw [List.count_eq_zero]
      intro hm
      have := (List.mem_filter.mp hm).2
      rw [e3] at this
      simp at this
      omega
    rw [List.count_append, hz, Nat.zero_add]
    by_cases e : n = o
    · subst e
      rw [if_pos rfl]
      refine count_one ((List.filter_sublist.map _).nodup hl.nodup) ?_
      exact List.mem_map.mpr ⟨(n, x), List.mem_filter.mpr ⟨e2, by simp⟩, rfl⟩
    · rw [if_neg e, List.count_eq_zero]
      intro hm
      obtain ⟨c, hc, e4⟩ := List.mem_map.mp hm
      obtain ⟨h1, h2⟩ := List.mem_filter.mp hc
      have h3 : c.1 = n := by have : (c.1 : Int) = (n : Int) := by simpa using h2
                              omega
      have h4 : (n, x) ∈ l := by rw [← h3, ← e4]; exact h1
      exact e (nodup_two hl.nodup h4 e2)

/-! ### the first one has it -/

theorem way_same {d : Dc} {l : List Cl} {n k : Nat} : ∀ (f : Nat) (x : Int), k ∉ wayF f d l x → wayF f d (l ++ [(n, k)]) x = wayF f d l x
  | 0, _, _ => rfl
  | f + 1, x, h => by
    rw [wayF, wayF] at *
    split
    · rename_i h0
      rw [if_pos h0] at h
      have hx : x ≠ (k : Int) := fun e => h (by rw [e]; simp)
      rw [in_app hx, way_same f _ (fun e => h (by simp [e]))]
    · rfl
theorem way_claim {d : Dc} {l : List Cl} {n : Nat} (k : Int) : wayD d (claim1 d n l k) (n : Int) = wayD d l (n : Int) := by
  unfold claim1
  split
  · rename_i ht
    unfold takes at ht
    simp at ht
    exact way_same 64 _ ht.2
  · rfl
def outD (d : Dc) (i : Nat) (n q : Nat) : List Cl := ((asksD d n).take q).foldl (claim1 d n) (((shD d).take i).foldl (claimN d) [])

theorem forest_out {d : Dc} (h : Fine d) {i : Nat} (hi : i < (shD d).length) (q : Nat) : Forest d (outD d i (shD d)[i] q) := forest_asks h (List.getElem_mem hi) _ _ (forest_at h i)

end Go.Proofs.YtbinbojicmhdlaeGreatDoor

/-
  PLAIN MATHEMATICS: what is told of a document: each once, nothing hidden, nothing forgotten, nothing bare.
-/
namespace Go.Proofs.YtbinbojicmhdlaeGreatDoor
open Tn

/-- an item -/
inductive It where
  | mk (node : Nat) (role : Int) (name about : ByteArray) (level checked : Int) (off : Bool) (kids : List It) : It

/-- what else is told of a node -/
structure Att where
  name : ByteArray
  about : ByteArray
  level : Int
  checked : Int
  off : Bool

def leafI (r : Int) : Bool := (Kn.ofD r).leaf
def bareI (r : Int) : Bool := decide (r = 0) || decide (r = 18)
def textD (d : Dc) (n : Nat) : ByteArray := Wd.sqz (nd d n).text

def itemsG (att : Nat → Att) (rec : Nat → List It) (d : Dc) (l : List Cl) (n : Nat) : List It :=
  if hidD d (n : Int) then []
  else if roleD d (n : Int) = 10 then (if (textD d n).toList.isEmpty then [] else [.mk n 10 (textD d n) ⟨#[]⟩ 0 0 false []])
  else if bareI (roleD d (n : Int)) && decide (n ≠ 0) then (insideD d l (n : Int)).flatMap rec
  else [.mk n (if bareI (roleD d (n : Int)) then 2 else roleD d (n : Int)) (att n).name (att n).about (att n).level (att n).checked (att n).off
    (if leafI (roleD d (n : Int)) then [] else (insideD d l (n : Int)).flatMap rec)]
def itemsF (att : Nat → Att) : Nat → Dc → List Cl → Nat → List It
  | 0, _, _, _ => []
  | f + 1, d, l, n => itemsG att (itemsF att f d l) d l n

mutual
def nodes1 : It → List Nat
  | .mk n _ _ _ _ _ _ ks => n :: nodesL ks
def nodesL : List It → List Nat
  | [] => []
  | x :: xs => nodes1 x ++ nodesL xs
end

theorem nodesL_app : ∀ (a b : List It), nodesL (a ++ b) = nodesL a ++ nodesL b
  | [], _ => rfl
  | x :: a, b => by rw [List.cons_append, nodesL, nodesL, nodesL_app a b, List.append_assoc]
theorem nodesL_flat {α : Type} (f : α → List It) : ∀ (l : List α), nodesL (l.flatMap f) = l.flatMap (fun a => nodesL (f a))
  | [] => rfl
  | a :: l => by rw [List.flatMap_cons, List.flatMap_cons, nodesL_app, nodesL_flat f l]

/-- the nodes that are told of -/
def toldF : Nat → Dc → List Cl → Nat → List Nat
  | 0, _, _, _ => []
  | f + 1, d, l, n =>
    if hidD d (n : Int) then []
    else if roleD d (n : Int) = 10 then (if (textD d n).toList.isEmpty then [] else [n])
    else if bareI (roleD d (n : Int)) && decide (n ≠ 0) then (insideD d l (n : Int)).flatMap (toldF f d l)
    else n :: (if leafI (roleD d (n : Int)) then [] else (insideD d l (n : Int)).flatMap (toldF f d l))

theorem told_nodes (att : Nat → Att) (d : Dc) (l : List Cl) : ∀ (f n : Nat), nodesL (itemsF att f d l n) = toldF f d l n
  | 0, _ => rfl
  | f + 1, n => by
    have ih : (fun a => nodesL (itemsF att f d l a)) = toldF f d l := funext (told_nodes att d l f)
    rw [itemsF, itemsG, toldF]
    split
    · rfl
    · split
      · split
        · rfl
        · rfl
      · split
        · rw [nodesL_flat, ih]
        · rw [nodesL, nodes1, nodesL, List.append_nil]
          split
          · rfl
          · rw [nodesL_flat, ih]

/-! ### who is in whom -/

theorem shown_head {d : Dc} {f k : Nat} (h : EndF f d k) : k ∈ shownF f d k := by
  cases f with
  | zero => exact absurd h (by simp [EndF])
  | succ f => rw [shownF]; exact List.mem_cons_self
theorem shown_kidF {d : Dc} : ∀ (f a x k : Nat), EndF f d a → x ∈ shownF f d a → k ∈ kidsD d (x : Int) → k ∈ shownF f d a
  | 0, _, _, _, h, _, _ => absurd h (by simp [EndF])
  | f + 1, a, x, k, h, hx, hk => by
    have hE : ∀ c ∈ kidsD d (a : Int), EndF f d c := h
    rw [shownF] at hx ⊢
    rcases List.mem_cons.mp hx with rfl | hx
    · exact List.mem_cons_of_mem _ (List.mem_flatMap.mpr ⟨k, hk, shown_head (hE k hk)⟩)
    · obtain ⟨c, hc, hx⟩ := List.mem_flatMap.mp hx
      exact List.mem_cons_of_mem _ (List.mem_flatMap.mpr ⟨c, hc, shown_kidF f c x k (hE c hc) hx hk⟩)
theorem shown_kid {d : Dc} (h : Fine d) {n k : Nat} (hn : n ∈ shD d) (hk : k ∈ kidsD d (n : Int)) : k ∈ shD d := shown_kidF fuel 0 n k (fine_end h) hn hk

theorem inside_in {d : Dc} (h : Fine d) {l : List Cl} (hl : Forest d l) {n k : Nat} (hk : k ∈ insideD d l (n : Int)) (hn : n ∈ shD d) : k ∈ shD d ∧ k ≠ 0 ∧ inD d l (k : Int) = (n : Int) := by
  unfold insideD at hk
  rcases List.mem_append.mp hk with hk | hk
  · obtain ⟨h1, h2⟩ := List.mem_filter.mp hk
    have h2 : ownerD l (k : Int) < 0 := by simpa using h2
    have hp := (kid_par h h1).2.2.1
    refine ⟨shown_kid h hn h1, by omega, ?_⟩
    unfold inD
    rw [if_neg (by omega)]
    exact up_of_kid h h1
  · obtain ⟨c, hc, e⟩ := List.mem_map.mp hk
    obtain ⟨h1, h2⟩ := List.mem_filter.mp hc
    have h2 : (c.1 : Int) = (n : Int) := by simpa using h2
    have ho := hl.own c h1
    have e1 : c.1 = n := by omega
    have hm : (n, k) ∈ l := by
      rw [← e1, ← e]
      exact h1
    have ho2 := hl.own _ hm
    refine ⟨ho2.2.1, by have := ho2.2.2; show k ≠ 0; omega, ?_⟩
    unfold inD
    rw [owner_mem hl.nodup hm, if_pos (by omega)]
theorem inside_nodup {d : Dc} (h : Fine d) {l : List Cl} (hl : Forest d l) {n : Nat} (hn : n ∈ shD d) : (insideD d l (n : Int)).Nodup := by
  rw [List.nodup_iff_count]
  intro x
  by_cases hx : x ∈ insideD d l (n : Int)
  · obtain ⟨h1, h2, _⟩ := inside_in h hl hx hn
    obtain ⟨y, _, hc⟩ := inside_count h hl h1 h2
    rw [hc n]
    split <;> omega
  · rw [List.count_eq_zero.mpr hx]
    omega

/-! ### the way up -/

theorem way_self {d : Dc} (h : Fine d) {l : List Cl} (hl : Forest d l) {x : Nat} (hx : x ∈ shD d) : x ∈ wayD d l (x : Int) := by rw [way_cons h hl hx]; exact List.mem_cons_self
/-- what a node on the way is in is on it, too -/
theorem way_next {d : Dc} (h : Fine d) {l : List Cl} (hl : Forest d l) : ∀ (m x : Nat), x ∈ shD d → (wayD d l (x : Int)).length ≤ m → ∀ k n : Nat, k ∈ wayD d l (x : Int) → inD d l (k : Int) = (n : Int) → n ∈ shD d → n ∈ wayD d l (x : Int)
  | 0, x, hx, hm, _, _, _, _, _ => by rw [way_cons h hl hx] at hm; simp at hm
  | m + 1, x, hx, hm, k, n, hk, hi, hn => by
    rw [way_cons h hl hx] at hm hk ⊢
    rcases List.mem_cons.mp hk with rfl | hk
    · rw [hi]
      exact List.mem_cons_of_mem _ (way_self h hl hn)
    · rcases in_cases h hl hx with e | ⟨y, hy, e⟩
      · rw [e, way_no d l (by omega)] at hk
        simp at hk
      · rw [e] at hk hm ⊢
        exact List.mem_cons_of_mem _ (way_next h hl m y hy (by simpa using hm) k n hk hi hn)
/-- two on the way that are in one are one -/
theorem way_one {d : Dc} (h : Fine d) {l : List Cl} (hl : Forest d l) : ∀ (m x : Nat), x ∈ shD d → (wayD d l (x : Int)).length ≤ m → ∀ a b n : Nat, a ∈ wayD d l (x : Int) → b ∈ wayD d l (x : Int) → inD d l (a : Int) = (n : Int) → inD d l (b : Int) = (n : Int) → a = b
  | 0, x, hx, hm, _, _, _, _, _, _, _ => by rw [way_cons h hl hx] at hm; simp at hm
  | m + 1, x, hx, hm, a, b, n, ha, hb, ia, ib => by
    obtain ⟨r, hr⟩ := hl.rank
    have key : ∀ (c : Nat), inD d l (x : Int) = (n : Int) → c ∈ wayD d l (n : Int) → inD d l (c : Int) = (n : Int) → False := by
      intro c ix hc ic
      have hn : n ∈ shD d := by
        rcases in_cases h hl hx with e | ⟨y, hy, e⟩
        · omega
        · have : y = n := by omega
          rw [← this]; exact hy
      obtain ⟨g1, _⟩ := way_facts h hl hr 64 n hn
      obtain ⟨hc1, hc2⟩ := g1 c hc
      by_cases c0 : c = 0
      · subst c0
        have := in_root h hl
        have ic' : inD d l 0 = (n : Int) := ic
        omega
      · obtain ⟨y, _, e, hlt⟩ := hr c hc1 c0
        have : y = n := by omega
        subst this
        omega
    rw [way_cons h hl hx] at hm ha hb
    rcases List.mem_cons.mp ha with rfl | ha
    · rcases List.mem_cons.mp hb with rfl | hb
      · rfl
      · rw [ia] at hb
        exact absurd (key b ia hb ib) id
    · rcases List.mem_cons.mp hb with rfl | hb
      · rw [ib] at ha
        exact absurd (key a ib ha ia) id
      · rcases in_cases h hl hx with e | ⟨y, hy, e⟩
        · rw [e, way_no d l (by omega)] at ha
          simp at ha
        · rw [e] at ha hb hm
          exact way_one h hl m y hy (by simpa using hm) a b n ha hb ia ib

/-! ### each once, and nothing hidden -/

theorem told_way {d : Dc} (h : Fine d) {l : List Cl} (hl : Forest d l) : ∀ (f n x : Nat), n ∈ shD d → x ∈ toldF f d l n → x ∈ shD d ∧ hidD d (x : Int) = false ∧ n ∈ wayD d l (x : Int)
  | 0, _, _, _, hx => by simp [toldF] at hx
  | f + 1, n, x, hn, hx => by
    have sub : x ∈ (insideD d l (n : Int)).flatMap (toldF f d l) → x ∈ shD d ∧ hidD d (x : Int) = false ∧ n ∈ wayD d l (x : Int) := by
      intro hx
      obtain ⟨k, hk, hx⟩ := List.mem_flatMap.mp hx
      obtain ⟨k1, k2, k3⟩ := inside_in h hl hk hn
      obtain ⟨g1, g2, g3⟩ := told_way h hl f k x k1 hx
      exact ⟨g1, g2, way_next h hl _ x g1 (Nat.le_refl _) k n g3 k3 hn⟩
    rw [toldF] at hx
    split at hx
    · simp at hx
    · rename_i hh
      have me : x = n → x ∈ shD d ∧ hidD d (x : Int) = false ∧ n ∈ wayD d l (x : Int) := by
        rintro rfl
        exact ⟨hn, by simpa using hh, way_self h hl hn⟩
      split at hx
      · split at hx
        · simp at hx
        · exact me (by simpa using hx)
      · split at hx
        · exact sub hx
        · rcases List.mem_cons.mp hx with e | hx
          · exact me e
          · split at hx
            · simp at hx
            · exact sub hx

theorem told_nodup {d : Dc} (h : Fine d) {l : List Cl} (hl : Forest d l) : ∀ (f n : Nat), n ∈ shD d → (toldF f d l n).Nodup
  | 0, _, _ => by simp [toldF]
  | f + 1, n, hn => by
    have flat : ((insideD d l (n : Int)).flatMap (toldF f d l)).Nodup := by
      unfold List.Nodup
      rw [List.pairwise_flatMap]
      refine ⟨fun k hk => told_nodup h hl f k (inside_in h hl hk hn).1, ?_⟩
      refine List.Pairwise.imp_of_mem ?_ (inside_nodup h hl hn)
      intro a b ha hb hab x hx y hy e
      subst e
      obtain ⟨a1, _, a3⟩ := inside_in h hl ha hn
      obtain ⟨b1, _, b3⟩ := inside_in h hl hb hn
      obtain ⟨x1, _, x3⟩ := told_way h hl f a x a1 hx
      obtain ⟨_, _, y3⟩ := told_way h hl f b x b1 hy
      exact hab (way_one h hl _ x x1 (Nat.le_refl _) a b n x3 y3 a3 b3)
    have self : n ∉ (insideD d l (n : Int)).flatMap (toldF f d l) := by
      intro hm
      obtain ⟨k, hk, hx⟩ := List.mem_flatMap.mp hm
      obtain ⟨k1, k2, k3⟩ := inside_in h hl hk hn
      obtain ⟨_, _, g3⟩ := told_way h hl f k n k1 hx
      obtain ⟨r, hr⟩ := hl.rank
      obtain ⟨g1, _⟩ := way_facts h hl hr 64 n hn
      have := (g1 k g3).2
      obtain ⟨y, _, e, hlt⟩ := hr k k1 k2
      have : y = n := by omega
      subst this
      omega
    rw [toldF]
    split
    · simp
    · split
      · split <;> simp
      · split
        · exact flat
        · refine List.nodup_cons.mpr ⟨?_, ?_⟩
          · split
            · simp
            · exact self
          · split
            · simp
            · exact flat

/-! ### nothing is forgotten -/

theorem leaf_bare {r : Int} (h : bareI r = true) : leafI r = false := by
  unfold bareI at h
  simp at h
  rcases h with rfl | rfl <;> decide
/-! ### nothing bare -/

mutual
def bare1 : It → Bool
  | .mk _ r _ _ _ _ _ ks => !(Kn.ofD r).name.isEmpty && decide (r ≠ 18) && (!leafI r || ks.isEmpty) && bareL ks
def bareL : List It → Bool
  | [] => true
  | x :: xs => bare1 x && bareL xs
end
theorem bareL_app : ∀ (a b : List It), bareL (a ++ b) = (bareL a && bareL b)
  | [], b => by rw [List.nil_append, bareL, Bool.true_and]
  | x :: a, b => by rw [List.cons_append, bareL, bareL, bareL_app a b, Bool.and_assoc]
theorem bareL_flat {α : Type} (f : α → List It) : ∀ (l : List α), (∀ a ∈ l, bareL (f a) = true) → bareL (l.flatMap f) = true
  | [], _ => rfl
  | a :: l, h => by rw [List.flatMap_cons, bareL_app, h a (by simp), bareL_flat f l (fun b hb => h b (by simp [hb]))]; rfl

theorem named_role {r : Int} (h0 : 0 ≤ r) (h1 : r ≤ 18) (hb : bareI r = false) : (Kn.ofD r).name.isEmpty = false := by
  unfold bareI at hb
  simp at hb
  have : r = 1 ∨ r = 2 ∨ r = 3 ∨ r = 4 ∨ r = 5 ∨ r = 6 ∨ r = 7 ∨ r = 8 ∨ r = 9 ∨ r = 10 ∨ r = 11 ∨ r = 12 ∨ r = 13 ∨ r = 14 ∨ r = 15 ∨ r = 16 ∨ r = 17 := by omega
  rcases this with rfl | rfl | rfl | rfl | rfl | rfl | rfl | rfl | rfl | rfl | rfl | rfl | rfl | rfl | rfl | rfl | rfl <;> decide

theorem items_bare (att : Nat → Att) {d : Dc} (l : List Cl) (hr : ∀ n : Nat, 0 ≤ roleD d (n : Int) ∧ roleD d (n : Int) ≤ 18) : ∀ (f n : Nat), bareL (itemsF att f d l n) = true
  | 0, _ => rfl
  | f + 1, n => by
    have flat : bareL ((insideD d l (n : Int)).flatMap (itemsF att f d l)) = true := bareL_flat _ _ (fun k _ => items_bare att l hr f k)
    rw [itemsF, itemsG]
    split
    · rfl
    · split
      · split
        · rfl
        · rw [bareL, bare1, bareL, Bool.and_true]
          decide
      · split
        · exact flat
        · rw [bareL, bare1, bareL, Bool.and_true]
          cases hb : bareI (roleD d (n : Int)) with
          | true =>
            have e1 : (Kn.ofD 2).name.isEmpty = false := by decide
            have e2 : leafI 2 = false := by decide
            rw [if_pos rfl, leaf_bare hb, if_neg (by simp), flat, e1, e2]
            simp
          | false =>
            rw [if_neg (by simp), named_role (hr n).1 (hr n).2 hb]
            have h18 : roleD d (n : Int) ≠ 18 := by
              unfold bareI at hb
              simp at hb
              exact hb.2
            cases hlf : leafI (roleD d (n : Int)) with
            | true => rw [if_pos rfl]; simp [h18, bareL]
            | false => rw [if_neg (by simp), flat]; simp [h18]
end Go.Proofs.YtbinbojicmhdlaeGreatDoor

/-
  PLAIN MATHEMATICS: roles are from 0 to 18.
-/
namespace Go.Proofs.YtbinbojicmhdlaeGreatDoor
open Tn

theorem lk_foldT (s : List UInt8) (n : Nat) : ∀ (ps : List (List UInt8 × Nat)) (a : Option Nat), ps.foldl (fun a p => if p.1 = s then some p.2 else a) a = some n → a = some n ∨ ∃ p ∈ ps, p.2 = n
  | [], _, h => Or.inl h
  | p :: ps, a, h => by
    rw [List.foldl_cons] at h
    rcases lk_foldT s n ps _ h with h1 | ⟨q, hq, e⟩
    · split at h1
      · exact Or.inr ⟨p, by simp, by injection h1⟩
      · exact Or.inl h1
    · exact Or.inr ⟨q, by simp [hq], e⟩
theorem lk_memT {s : List UInt8} {n : Nat} {ps : List (List UInt8 × Nat)} (h : Kn.lk ps s = some n) : ∃ p ∈ ps, p.2 = n := by
  rcases lk_foldT s n ps none h with h | h
  · cases h
  · exact h
theorem find_le (s : List UInt8) : Kn.findD s ≤ 18 := by
  unfold Kn.findD
  split
  · rename_i n h
    obtain ⟨p, hp, e⟩ := lk_memT h
    have : ∀ p ∈ Kn.nmL 19, p.2 ≤ 18 := by decide
    have := this p hp
    omega
  · omega
theorem tag_le (s : List UInt8) : 0 ≤ Kn.tagD s ∧ Kn.tagD s ≤ 18 := by
  unfold Kn.tagD
  split
  · rename_i n h
    obtain ⟨p, hp, e⟩ := lk_memT h
    have : ∀ p ∈ Kn.tagL, p.2 ≤ 18 := by decide
    have := this p hp
    omega
  · omega
theorem want_le (lab : Bool) : ∀ ts, wantL lab ts ≤ 18
  | [] => by rw [wantL]; omega
  | t :: ts => by
    rw [wantL]
    split
    · omega
    · split
      · exact find_le _
      · exact want_le lab ts
theorem nat_le (lab href chk alt0 title : Bool) (tag : ByteArray) : 0 ≤ natT lab href chk alt0 title tag ∧ natT lab href chk alt0 title tag ≤ 18 := by
  unfold natT
  have h := tag_le tag.data.toList
  repeat' split
  all_goals omega
theorem alone_le (d : Dc) (n : Int) : 0 ≤ aloneD d n ∧ aloneD d n ≤ 18 := by
  unfold aloneD
  split
  · split
    · rename_i h
      exact ⟨h, want_le _ _⟩
    · exact nat_le _ _ _ _ _ _
  · omega
theorem role_le (d : Dc) (n : Int) : 0 ≤ roleD d n ∧ roleD d n ≤ 18 := by
  unfold roleD
  generalize lineD d n = l
  cases l with
  | nil => simp [roleL]
  | cons k ks =>
    rw [roleL]
    have h := alone_le d (k : Int)
    unfold fitD
    split
    · simp
    · exact h
/-- nothing that is told is generic, or none -/
theorem items_plain (att : Nat → Att) (d : Dc) (l : List Cl) (f n : Nat) : bareL (itemsF att f d l n) = true := items_bare att l (fun n => role_le d (n : Int)) f n
end Go.Proofs.YtbinbojicmhdlaeGreatDoor
