/-
  OWN WORK: Wrs, Kta, Ktb, Ktc, Ktd, Kte, Ktf, Ktg, Kth, Oma.
-/
import Derived.Test.YtbinbojicmhdlaeGreatDoorP6
import Derived.Test.YtbinbojicmhdlaeGreatDoorRows
import Derived.WalkKit
import Derived.ProofKit
import Derived.WalkSpells
import Derived.WalkLawsBesides
import Derived.OpenShut
import Derived.Deep.DeepHandedRow
import Derived.Lib.LaidTab
import Derived.LaidMore
import Derived.Maps.OwnOps
import Derived.Maps.OwnSet
import Derived.Maps.Views
import Derived.Laws.StructEq
import Derived.Deep.RegionWith
/-
  THE WALKS of the reference's Join, Squeeze and Lower.
-/
namespace Go.Proofs.YtbinbojicmhdlaeGreatDoor.Wd
open Go.RowKit

theorem rtokens_some_big (s : ByteArray) (w : World) (hs : s.size ≤ 1073741824) (hne : toksOf s ≠ []) : Calls Tryz.prog 31 #[.string s] w fun e w' =>
    ∃ g c, e = .returned (.slice (some ⟨g, 0, none⟩) (toksOf s).length c) ∧ Words w.heap.size (toksOf s) g c w' ∧ Below w.heap.size w w' := by
  refine (rtokens_big s w hs).mono ?_
  rintro e w' ⟨v, rfl, hown, hbel, _⟩
  obtain ⟨g, c, rfl, hW⟩ := words_of hown hne
  exact ⟨g, c, rfl, hW, hbel⟩
theorem rtokens_none_big (s : ByteArray) (w : World) (hs : s.size ≤ 1073741824) (hne : toksOf s = []) : Calls Tryz.prog 31 #[.string s] w fun e w' =>
    e = .returned (.slice none 0 0) ∧ Below w.heap.size w w' := by
  refine (rtokens_big s w hs).mono ?_
  rintro e w' ⟨v, rfl, _, hbel, hnil⟩
  rw [hnil hne]
  exact ⟨rfl, hbel⟩

theorem joined_take (ts : List (List UInt8)) (k : Nat) : (Tx.joined (ts.take k)).length ≤ (Tx.joined ts).length := by
  induction ts generalizing k with
  | nil => simp
  | cons t r ih =>
    cases k with
    | zero => simp [Tx.joined_nil]
    | succ k =>
      cases r with
      | nil => simp
      | cons u r =>
        cases k with
        | zero =>
          show (Tx.joined [t]).length ≤ _
          rw [Tx.joined_one, Tx.joined_cons]
          simp
        | succ j =>
          have h := ih (j + 1)
          have e : (t :: u :: r).take (j + 1 + 1) = t :: u :: r.take j := rfl
          have e2 : (u :: r).take (j + 1) = u :: r.take j := rfl
          rw [e2] at h
          rw [e, Tx.joined_cons, Tx.joined_cons]
          simp
          exact h

theorem words_snoc (ts : List (List UInt8)) (k : Nat) (t : List UInt8) (hc : ts[k]? = some t) : ts.take (k + 1) = ts.take k ++ [t] := by
  rw [List.take_add_one, hc]
  rfl
theorem join_first (ts : List (List UInt8)) (t : List UInt8) (hc : ts[0]? = some t) : Tx.bs (Tx.joined (ts.take 0)) ++ Tx.bs t = Tx.bs (Tx.joined (ts.take 1)) := by
  rw [words_snoc ts 0 t hc, Tx.joined_snoc]
  apply ByteArray.ext
  rw [ByteArray.data_append]
  simp [Tx.bs, Tx.joined_nil]
theorem join_next (ts : List (List UInt8)) (k : Nat) (t : List UInt8) (hk : 0 < k) (hc : ts[k]? = some t) : Tx.bs (Tx.joined (ts.take k)) ++ ⟨#[32]⟩ ++ Tx.bs t = Tx.bs (Tx.joined (ts.take (k + 1))) := by
  have hl : k < ts.length := (List.getElem?_eq_some_iff.1 hc).1
  have he : (ts.take k).isEmpty = false := by
    cases ts with
    | nil => simp at hl
    | cons x r =>
      cases k with
      | zero => omega
      | succ k => rfl
  rw [words_snoc ts k t hc, Tx.joined_snoc, he]
  apply ByteArray.ext
  rw [ByteArray.data_append, ByteArray.data_append]
  simp [Tx.bs]
theorem join_room (ts : List (List UInt8)) (k : Nat) (t : List UInt8) (hc : ts[k]? = some t) : (Tx.bs (Tx.joined (ts.take k))).size + (Tx.bs t).size ≤ (Tx.joined ts).length := by
  have h := joined_take ts (k + 1)
  rw [words_snoc ts k t hc, Tx.joined_snoc] at h
  show (Tx.joined (ts.take k)).length + t.length ≤ _
  cases he : (ts.take k).isEmpty with
  | true =>
    rw [he] at h
    have : ts.take k = [] := List.isEmpty_iff.1 he
    rw [this, Tx.joined_nil]
    simp at h ⊢
    exact h
  | false =>
    rw [he] at h
    simp at h
    omega

set_option maxHeartbeats 800000 in
set_option maxRecDepth 100000 in
theorem rjoin_words (ts : List (List UInt8)) (B g c : Nat) (w : World) (h : Words B ts g c w) (hN : ts.length ≤ 1073741824) (hlen : (Tx.joined ts).length ≤ 1073741824) :
    Calls Tryz.prog 55 #[.slice (some ⟨g, 0, none⟩) ts.length c] w fun e w' => e = .returned (.string (Tx.bs (Tx.joined ts))) ∧ w' = w := by
  have HW : Hid (Words B ts g c w) := h
  clear h
  go_enter Tryz.func55, Tryz.ntmps55
  go_wp2
  go_loop [3, 8] (fun st i => ∃ k : Nat, k ≤ ts.length ∧ i = .int .i64 k ∧ st = .string (Tx.bs (Tx.joined (ts.take k)))) (fun _ i => ts.length - (intOf i).toNat)
  case atStart => exact ⟨0, Nat.zero_le _, rfl, rfl⟩
  case round =>
    obtain ⟨k, hk, rfl, rfl⟩ := hrel
    by_cases hlt : k < ts.length
    · obtain ⟨t, ht⟩ : ∃ t, ts[k]? = some t := ⟨_, List.getElem?_eq_getElem hlt⟩
      have hcell : w.cell? ⟨g, k, none⟩ = some (.string (Tx.bs t)) := HW.out.2.2.2 k t ht
      have hroom := join_room ts k t ht
      cases k with
      | zero =>
        have E : Hid (Tx.bs (Tx.joined []) ++ Tx.bs t = Tx.bs (Tx.joined (ts.take 1))) := join_first ts t ht
        have hroom0 : (Tx.bs (Tx.joined [])).size + (Tx.bs t).size ≤ (Tx.joined ts).length := hroom
        clear ht hroom
        go_wp2
        go_round
        case rel => exact ⟨1, by omega, rfl, by rw [E.out]⟩
        case measure => simp [intOf]; omega
      | succ k =>
        have E : Hid (Tx.bs (Tx.joined (ts.take (k + 1))) ++ ⟨#[32]⟩ ++ Tx.bs t = Tx.bs (Tx.joined (ts.take (k + 1 + 1)))) := join_next ts (k + 1) t (by omega) ht
        clear ht
        go_wp2
        go_round
        case rel => exact ⟨k + 1 + 1, by omega, by go_num, by rw [E.out]⟩
        case measure => simp [intOf]; omega
    · obtain rfl : k = ts.length := by omega
      go_wp2
      go_ret
      exact ⟨rfl, rfl⟩

set_option maxHeartbeats 400000 in
theorem rjoin_none (w : World) :
    Calls Tryz.prog 55 #[.slice none 0 0] w fun e w' => e = .returned (.string ⟨#[]⟩) ∧ w' = w := by
  go_enter Tryz.func55, Tryz.ntmps55
  go_wp2
  refine wp_loop_rounds 1 ?_
  rw [rounds_succ]
  go_wp2
  go_ret
  exact ⟨rfl, rfl⟩

set_option maxHeartbeats 400000 in
theorem rsqueeze_big (s : ByteArray) (w : World) (hs : s.size ≤ 1073741824) : Calls Tryz.prog 24 #[.string s] w fun e w' =>
    e = .returned (.string (sqz s)) ∧ Below w.heap.size w w' := by
  have h1 := toksOf_len s
  have h2 := joined_len s
  by_cases hne : toksOf s = []
  · have e : sqz s = ⟨#[]⟩ := by
      unfold sqz Tx.squeeze
      have : Tx.toks s.data.toList = [] := hne
      rw [this]
      rfl
    rw [e]
    go_enter Tryz.func24, Tryz.ntmps24
    go_wp2_with fail
    refine (rtokens_none_big s _ hs hne).mono ?_
    rintro e w1 ⟨rfl, hb1⟩
    go_wp2_with fail
    refine (rjoin_none _).mono ?_
    rintro e w2 ⟨rfl, rfl⟩
    go_wp2
    go_ret
    exact ⟨rfl, hb1⟩
  · go_enter Tryz.func24, Tryz.ntmps24
    go_wp2_with fail
    refine (rtokens_some_big s _ hs hne).mono ?_
    rintro e w1 ⟨g, c, rfl, hW, hb1⟩
    go_wp2_with fail
    refine (rjoin_words (toksOf s) w.heap.size g c w1 hW (by omega) (by omega)).mono ?_
    rintro e w2 ⟨rfl, hw2⟩
    subst hw2
    go_wp2
    go_ret
    exact ⟨rfl, hb1⟩
theorem rsqueeze_any (s : ByteArray) (w : World) (hs : s.size ≤ 4194304) : Calls Tryz.prog 24 #[.string s] w fun e w' =>
    e = .returned (.string (sqz s)) ∧ Below w.heap.size w w' := rsqueeze_big s w (Nat.le_trans hs (by decide))
theorem rtokens_some (s : ByteArray) (w : World) (hs : s.size ≤ 4194304) (hne : toksOf s ≠ []) : Calls Tryz.prog 31 #[.string s] w fun e w' =>
    ∃ g c, e = .returned (.slice (some ⟨g, 0, none⟩) (toksOf s).length c) ∧ Words w.heap.size (toksOf s) g c w' ∧ Below w.heap.size w w' := rtokens_some_big s w (Nat.le_trans hs (by decide)) hne
theorem rtokens_none (s : ByteArray) (w : World) (hs : s.size ≤ 4194304) (hne : toksOf s = []) : Calls Tryz.prog 31 #[.string s] w fun e w' =>
    e = .returned (.slice none 0 0) ∧ Below w.heap.size w w' := rtokens_none_big s w (Nat.le_trans hs (by decide)) hne

theorem low_next (s : ByteArray) (k : Nat) (h : k < s.size) : Tx.bs (lowL (s.data.toList.take k)) ++ ⟨#[lowB s[k]]⟩ = Tx.bs (lowL (s.data.toList.take (k + 1))) := by
  rw [take_snoc s k h]
  apply ByteArray.ext
  rw [ByteArray.data_append]
  unfold lowL Tx.bs
  simp
theorem low_room (s : ByteArray) (k : Nat) (h : k ≤ s.size) : (Tx.bs (lowL (s.data.toList.take k))).size = k := by
  show (lowL (s.data.toList.take k)).length = k
  rw [lowL_len, take_len s k h]
theorem one_byte (w : World) (x : Int) (d : UInt8) (hx : (d.toNat : Int) = x) :
    (convert 104 9 (.slice (some ⟨w.heap.size, 0, none⟩) 1 1)).run Tryz.prog (w.alloc (.cells #[.int .u8 x] 5)) = .ok (.string ⟨#[d]⟩) (w.alloc (.cells #[.int .u8 x] 5)) :=
  run_convert_bytes_back (P := Tryz.prog) (w.alloc (.cells #[.int .u8 x] 5)) 104 9 5 ⟨w.heap.size, 0, none⟩ 1 [d] Tryz.underlying104 Tryz.underlying5 Tryz.underlying9 (fun j hj => by
    obtain rfl : j = 0 := by simp at hj; exact hj
    have h := cell_one_new w (.int .u8 x) 5 0 (.int .u8 x) rfl
    rw [h]
    show _ = some (Value.int .u8 (d.toNat : Int))
    rw [hx])

set_option maxHeartbeats 800000 in
set_option maxRecDepth 100000 in
theorem rlower_any (s : ByteArray) (w : World) (hs : s.size ≤ 4194304) : Calls Tryz.prog 49 #[.string s] w fun e w' =>
    e = .returned (.string (Tx.bs (lowL s.data.toList))) ∧ Below w.heap.size w w' := by
  go_enter Tryz.func49, Tryz.ntmps49
  go_wp2
  go_loopw [3, 8] (fun st i wr => ∃ k : Nat, k ≤ s.size ∧ i = .int .i64 k ∧ st = .string (Tx.bs (lowL (s.data.toList.take k))) ∧ Below w.heap.size w wr)
    (fun _ i _ => s.size - (intOf i).toNat)
  case atStart => exact ⟨0, Nat.zero_le _, rfl, rfl, Below.refl _ _⟩
  case round =>
    obtain ⟨k, hk, rfl, rfl, hnx⟩ := hrel
    have hroom : (Tx.bs (lowL (s.data.toList.take k))).size ≤ 4194304 := by rw [low_room s k hk]; omega
    have hsz := hnx.size
    by_cases hlt : k < s.size
    · have E : Hid (Tx.bs (lowL (s.data.toList.take k)) ++ ⟨#[lowB s[k]]⟩ = Tx.bs (lowL (s.data.toList.take (k + 1)))) := low_next s k hlt
      by_cases hc : 65 ≤ s[k].toNat ∧ s[k].toNat ≤ 90
      · have hcv := one_byte wr ((s[k].toNat : Int) - 65 + 97) (lowB s[k]) (lowB_yes _ hc)
        obtain ⟨hc1, hc2⟩ := hc
        go_wp2
        go_roundw
        case rel => exact ⟨k + 1, by omega, by go_num, by rw [E.out], hnx.alloc hsz _⟩
        case measure => simp [intOf]; omega
      · have hcv := one_byte wr (s[k].toNat : Int) (lowB s[k]) (by rw [lowB_no _ hc])
        go_wp2
        all_goals
          go_roundw
          case rel => exact ⟨k + 1, by omega, by go_num, by rw [E.out], hnx.alloc hsz _⟩
          case measure => simp [intOf]; omega
    · obtain rfl : k = s.size := by omega
      have E : Hid (s.data.toList.take s.size = s.data.toList) := take_all s
      go_wp2
      go_ret
      exact ⟨congrArg (fun l => Ending.returned (.string (Tx.bs (lowL l)))) E.out, hnx⟩

end Go.Proofs.YtbinbojicmhdlaeGreatDoor.Wd

/-
  WHAT ROLES ARE, AS A TABLE; the package's own table holds it, cell for cell.
-/
namespace Go.Proofs.YtbinbojicmhdlaeGreatDoor.Kn
open Go.RowKit

structure Kd where
  name : List UInt8
  content : Bool
  leaf : Bool
  level : Bool
  checked : Bool
  named : Bool
  need : Nat

def kl : List Kd := [
  ⟨[], false, false, false, false, false, 0⟩,
  ⟨[103, 114, 111, 117, 112], false, false, false, false, true, 0⟩,
  ⟨[109, 97, 105, 110], false, false, false, false, true, 0⟩,
  ⟨[110, 97, 118, 105, 103, 97, 116, 105, 111, 110], false, false, false, false, true, 0⟩,
  ⟨[104, 101, 97, 100, 105, 110, 103], true, false, true, false, true, 0⟩,
  ⟨[108, 105, 115, 116], false, false, false, false, true, 0⟩,
  ⟨[108, 105, 115, 116, 105, 116, 101, 109], false, false, true, false, false, 5⟩,
  ⟨[108, 105, 110, 107], true, false, false, false, true, 0⟩,
  ⟨[98, 117, 116, 116, 111, 110], true, true, false, false, true, 0⟩,
  ⟨[99, 104, 101, 99, 107, 98, 111, 120], true, true, false, true, true, 0⟩,
  ⟨[116, 101, 120, 116], false, true, false, false, false, 0⟩,
  ⟨[105, 109, 103], false, true, false, false, true, 0⟩,
  ⟨[116, 101, 120, 116, 98, 111, 120], false, true, false, false, true, 0⟩,
  ⟨[116, 97, 98, 108, 101], false, false, false, false, true, 0⟩,
  ⟨[114, 111, 119], true, false, false, false, true, 13⟩,
  ⟨[99, 101, 108, 108], true, false, false, false, true, 14⟩,
  ⟨[114, 101, 103, 105, 111, 110], false, false, false, false, true, 0⟩,
  ⟨[100, 105, 97, 108, 111, 103], false, false, false, false, true, 0⟩,
  ⟨[103, 101, 110, 101, 114, 105, 99], false, false, false, false, false, 0⟩]
def k0 : Kd := ⟨[], false, false, false, false, false, 0⟩
def kt (i : Nat) : Kd := kl.getD i k0
def kval (k : Kd) : Value := .agg #[.string ⟨k.name.toArray⟩, .bool k.content, .bool k.leaf, .bool k.level, .bool k.checked, .bool k.named, .int .i64 (k.need : Int)]
def kd {H : Type} (k : Kd) : DataW H := .agg [.lit (.string k.name), .lit (.bool k.content), .lit (.bool k.leaf), .lit (.bool k.level), .lit (.bool k.checked), .lit (.bool k.named), .lit (.int .i64 (k.need : Int))]

structure RowAt (w : World) (i : Nat) : Prop where
  c0 : w.cell? ⟨0, i * 7, none⟩ = some (.string ⟨(kt i).name.toArray⟩)
  c1 : w.cell? ⟨0, i * 7 + 1, none⟩ = some (.bool (kt i).content)
  c2 : w.cell? ⟨0, i * 7 + 2, none⟩ = some (.bool (kt i).leaf)
  c3 : w.cell? ⟨0, i * 7 + 3, none⟩ = some (.bool (kt i).level)
  c4 : w.cell? ⟨0, i * 7 + 4, none⟩ = some (.bool (kt i).checked)
  c5 : w.cell? ⟨0, i * 7 + 5, none⟩ = some (.bool (kt i).named)
  c6 : w.cell? ⟨0, i * 7 + 6, none⟩ = some (.int .i64 ((kt i).need : Int))
def TabAt (w : World) : Prop := 0 < w.heap.size ∧ ∀ i, i < 19 → RowAt w i

theorem TabAt.below {w w' : World} (h : TabAt w) (hb : Below w.heap.size w w') : TabAt w' :=
  ⟨Nat.lt_of_lt_of_le h.1 hb.size, fun i hi => by
    have r := h.2 i hi
    have c : ∀ o, w'.cell? ⟨0, o, none⟩ = w.cell? ⟨0, o, none⟩ := fun o => hb.cell (by exact h.1)
    exact ⟨by rw [c]; exact r.c0, by rw [c]; exact r.c1, by rw [c]; exact r.c2, by rw [c]; exact r.c3, by rw [c]; exact r.c4, by rw [c]; exact r.c5, by rw [c]; exact r.c6⟩⟩

theorem gTab : Tryz.prog.globalNamed "townreader/kinds.byRole" = some 0 := by kernel_rfl
theorem gTabType : (Tryz.prog.globals[0]?).map (·.type) = some 103 := by kernel_rfl
theorem cellsK : Tryz.prog.cellsOf 49 = 7 := by kernel_rfl
theorem cellsS : Tryz.prog.cellsOf 9 = 1 := by kernel_rfl
theorem cellsB : Tryz.prog.cellsOf 4 = 1 := by kernel_rfl
theorem cellsI : Tryz.prog.cellsOf 3 = 1 := by kernel_rfl
theorem laid_eq {H : Type} : (Rows.laid_townreader_kinds_byRole : DataW H) = .agg ((List.range 19).map fun i => kd (kt i)) := rfl

set_option maxRecDepth 100000 in
theorem tab_of_laid {W : World} (h : laidMetH Tryz.prog [("townreader/kinds.byRole", Rows.laid_townreader_kinds_byRole)] W) : TabAt W := by
  rw [MakeChecks.laidMetH_plain _ _ _ (by kernel_rfl)] at h
  obtain ⟨ps, ⟨g0, t0, cs0, f0, p0, q0, hg0, ht0, hv0, hd0, _⟩, _⟩ := h
  obtain rfl := Option.some.inj (gTab.symm.trans hg0)
  obtain rfl := Option.some.inj (gTabType.symm.trans ht0)
  obtain ⟨xs, m, rfl, hx, hlen, hn, hel⟩ := DataW.trod_array Tryz.underlying103 hd0
  rw [laid_eq] at hx
  have hx1 : ((List.range 19).map fun i => kd (kt i)) = xs.map (·.1) := by
    have := congrArg Prod.fst hx
    simpa using this
  have cell : ∀ i v, cs0.toList[i]? = some v → W.cell? ⟨0, i, none⟩ = some v := by
    intro i v hv
    have := World.var?_cell hg0 hv0 i
    rw [this]
    simpa using hv
  have rows : ∀ i, i < 19 → RowAt W i := by
    intro i hi
    have e1 := hel i hi
    rw [cellsK] at e1
    have hxi : i < xs.length := by omega
    rw [List.getElem?_eq_getElem hxi] at e1
    have e2 : (xs[i]).1 = kd (kt i) := by
      have := congrArg (fun l => l[i]?) hx1
      simp [hi, hxi] at this
      exact this.symm
    obtain ⟨ys, m', _, e3, l3, n3, hf⟩ := DataW.trod_struct Tryz.underlying49 e1
    rw [cellsK] at l3
    have e4 : [DataW.lit (.string (kt i).name), .lit (.bool (kt i).content), .lit (.bool (kt i).leaf), .lit (.bool (kt i).level), .lit (.bool (kt i).checked), .lit (.bool (kt i).named), .lit (.int .i64 ((kt i).need : Int))] = ys.map (·.1) := by
      rw [e3] at e2
      unfold kd at e2
      injection e2 with e2
      exact e2.symm
    have g0 : DataW.trod (fun x => ()) Tryz.prog W 0 (fun x => true) false m' 9 (List.take (Tryz.prog.cellsOf 9) (List.drop 0 (List.take 7 (List.drop (i * 7) cs0.toList)))) = ys[0]? := hf 0 _ rfl
    rw [cellsS] at g0
    have g1 : DataW.trod (fun x => ()) Tryz.prog W 0 (fun x => true) false m' 4 (List.take (Tryz.prog.cellsOf 4) (List.drop 1 (List.take 7 (List.drop (i * 7) cs0.toList)))) = ys[1]? := hf 1 _ rfl
    rw [cellsB] at g1
    have g2 : DataW.trod (fun x => ()) Tryz.prog W 0 (fun x => true) false m' 4 (List.take (Tryz.prog.cellsOf 4) (List.drop 2 (List.take 7 (List.drop (i * 7) cs0.toList)))) = ys[2]? := hf 2 _ rfl
    rw [cellsB] at g2
    have g3 : DataW.trod (fun x => ()) Tryz.prog W 0 (fun x => true) false m' 4 (List.take (Tryz.prog.cellsOf 4) (List.drop 3 (List.take 7 (List.drop (i * 7) cs0.toList)))) = ys[3]? := hf 3 _ rfl
    rw [cellsB] at g3
    have g4 : DataW.trod (fun x => ()) Tryz.prog W 0 (fun x => true) false m' 4 (List.take (Tryz.prog.cellsOf 4) (List.drop 4 (List.take 7 (List.drop (i * 7) cs0.toList)))) = ys[4]? := hf 4 _ rfl
    rw [cellsB] at g4
    have g5 : DataW.trod (fun x => ()) Tryz.prog W 0 (fun x => true) false m' 4 (List.take (Tryz.prog.cellsOf 4) (List.drop 5 (List.take 7 (List.drop (i * 7) cs0.toList)))) = ys[5]? := hf 5 _ rfl
    rw [cellsB] at g5
    have g6 : DataW.trod (fun x => ()) Tryz.prog W 0 (fun x => true) false m' 3 (List.take (Tryz.prog.cellsOf 3) (List.drop 6 (List.take 7 (List.drop (i * 7) cs0.toList)))) = ys[6]? := hf 6 _ rfl
    rw [cellsI] at g6
    have at7 : ∀ j, j < 7 → cs0.toList[i * 7 + j]? = (List.take 7 (List.drop (i * 7) cs0.toList))[j]? := by
      intro j hj
      rw [List.getElem?_take_of_lt hj, List.getElem?_drop]
    clear hx hx1 hel e1 hf e3 hd0
    generalize List.take 7 (List.drop (i * 7) cs0.toList) = L at *
    match L, l3, ys, n3 with
    | [c0, c1, c2, c3, c4, c5, c6], _, [y0, y1, y2, y3, y4, y5, y6], _ =>
      simp only [List.drop_zero, List.drop_succ_cons, List.take_succ_cons, List.take_zero, List.getElem?_cons_zero, List.getElem?_cons_succ] at g0 g1 g2 g3 g4 g5 g6
      simp only [List.map_cons, List.map_nil, List.cons.injEq, and_true] at e4
      obtain ⟨f0, f1, f2, f3, f4, f5, f6⟩ := e4
      obtain ⟨s, h1, h2, _⟩ := DataW.trod_string Tryz.underlying9 g0
      obtain ⟨b1, i1, j1⟩ := DataW.trod_bool Tryz.underlying4 g1
      obtain ⟨b2, i2, j2⟩ := DataW.trod_bool Tryz.underlying4 g2
      obtain ⟨b3, i3, j3⟩ := DataW.trod_bool Tryz.underlying4 g3
      obtain ⟨b4, i4, j4⟩ := DataW.trod_bool Tryz.underlying4 g4
      obtain ⟨b5, i5, j5⟩ := DataW.trod_bool Tryz.underlying4 g5
      obtain ⟨z6, i6, j6, _⟩ := DataW.trod_int Tryz.underlying3 g6
      subst h2 j1 j2 j3 j4 j5 j6
      simp only [List.cons.injEq, and_true] at h1 i1 i2 i3 i4 i5 i6
      subst h1 i1 i2 i3 i4 i5 i6
      simp only [DataW.lit.injEq, Lit.string.injEq, Lit.bool.injEq, Lit.int.injEq, true_and] at f0 f1 f2 f3 f4 f5 f6
      refine ⟨cell _ _ ?_, cell _ _ ?_, cell _ _ ?_, cell _ _ ?_, cell _ _ ?_, cell _ _ ?_, cell _ _ ?_⟩
      · have := at7 0 (by omega)
        rw [Nat.add_zero] at this
        rw [this, f0]
        simp
      · rw [at7 1 (by omega), f1]; rfl
      · rw [at7 2 (by omega), f2]; rfl
      · rw [at7 3 (by omega), f3]; rfl
      · rw [at7 4 (by omega), f4]; rfl
      · rw [at7 5 (by omega), f5]; rfl
      · rw [at7 6 (by omega), f6]; rfl
  refine ⟨?_, rows⟩
  have h0 := (rows 0 (by omega)).c0
  exact World.block_lt_of_cell? _ _ h0
end Go.Proofs.YtbinbojicmhdlaeGreatDoor.Kn

/-
  THE WALK of kinds.Of.
-/
namespace Go.Proofs.YtbinbojicmhdlaeGreatDoor.Kn
open Go.RowKit

theorem field_name (x0 x1 x2 x3 x4 x5 x6 : Value) (w : World) : (Instr.field 49 (.agg #[x0, x1, x2, x3, x4, x5, x6]) 0).run Tryz.prog w = .ok x0 w := by kernel_rfl
theorem field_leaf (x0 x1 x2 x3 x4 x5 x6 : Value) (w : World) : (Instr.field 49 (.agg #[x0, x1, x2, x3, x4, x5, x6]) 2).run Tryz.prog w = .ok x2 w := by kernel_rfl
theorem field_need (x0 x1 x2 x3 x4 x5 x6 : Value) (w : World) : (Instr.field 49 (.agg #[x0, x1, x2, x3, x4, x5, x6]) 6).run Tryz.prog w = .ok x6 w := by kernel_rfl

def ofD (r : Int) : Kd := if 0 ≤ r ∧ r < 19 then kt r.toNat else k0

set_option maxHeartbeats 400000 in
theorem of_any {w : World} (T : TabAt w) (r : Int) : Calls Tryz.prog 41 #[.int .i64 r] w fun e w' => e = .returned (kval (ofD r)) ∧ Below w.heap.size w w' := by
  by_cases h0 : 0 ≤ r
  · by_cases h1 : r < 19
    · obtain ⟨k, rfl⟩ := Int.eq_ofNat_of_zero_le h0
      have hk : k < 19 := by omega
      have R := T.2 k hk
      have E : Hid (ofD (k : Int) = kt k) := by show _ = _; unfold ofD; rw [if_pos ⟨h0, h1⟩, Int.toNat_natCast]
      have al : ∀ o j, (w.alloc o).cell? ⟨0, j, none⟩ = w.cell? ⟨0, j, none⟩ := fun o j => World.cell?_alloc_lt _ _ _ (by exact T.1)
      obtain ⟨c0, c1, c2, c3, c4, c5, c6⟩ := R
      have d0 := fun o => (al o _).trans c0
      have d1 := fun o => (al o _).trans c1
      have d2 := fun o => (al o _).trans c2
      have d3 := fun o => (al o _).trans c3
      have d4 := fun o => (al o _).trans c4
      have d5 := fun o => (al o _).trans c5
      have d6 := fun o => (al o _).trans c6
      clear T al c0 c1 c2 c3 c4 c5 c6
      generalize kt k = K at *
      obtain ⟨nm, b1, b2, b3, b4, b5, z⟩ := K
      simp only at d0 d1 d2 d3 d4 d5 d6
      go_enter Tryz.func41, Tryz.ntmps41
      go_wp2_with fail
      refine bodyPost_ret (v := .agg #[.string ⟨nm.toArray⟩, .bool b1, .bool b2, .bool b3, .bool b4, .bool b5, .int .i64 (z : Int)]) (by simp [results, Tryz.results41, go_sem]) rfl ⟨by rw [E.out]; rfl, ?_⟩
      exact (Below.refl _ _).alloc (Nat.le_refl _) _
    · have E : Hid (ofD r = k0) := by show _ = _; unfold ofD; rw [if_neg (by omega)]
      clear T
      go_enter Tryz.func41, Tryz.ntmps41
      go_wp2_with fail
      refine bodyPost_ret (v := .agg #[.string ⟨#[]⟩, .bool false, .bool false, .bool false, .bool false, .bool false, .int .i64 0]) (by simp [results, Tryz.results41, go_sem]) rfl ⟨by rw [E.out]; rfl, ?_⟩
      exact (Below.refl _ _).alloc (Nat.le_refl _) _
  · have E : Hid (ofD r = k0) := by show _ = _; unfold ofD; rw [if_neg (by omega)]
    clear T
    go_enter Tryz.func41, Tryz.ntmps41
    go_wp2_with fail
    refine bodyPost_ret (v := .agg #[.string ⟨#[]⟩, .bool false, .bool false, .bool false, .bool false, .bool false, .int .i64 0]) (by simp [results, Tryz.results41, go_sem]) rfl ⟨by rw [E.out]; rfl, ?_⟩
    exact (Below.refl _ _).alloc (Nat.le_refl _) _

end Go.Proofs.YtbinbojicmhdlaeGreatDoor.Kn

/-
  MAPS OF TEXTS TO NUMBERS, OF THE CALL's OWN: what was put last for a text is there.
-/
namespace Go.Proofs.YtbinbojicmhdlaeGreatDoor.Kn
open Go.RowKit Go.Maps

theorem keyS : Keyed Tryz.prog 9 := string_keyed Tryz.underlying9
theorem zeroI (w : World) : (zeroValue 3).run Tryz.prog w = .ok (.int .i64 0) w := by kernel_rfl

def mp (ps : List (List UInt8 × Nat)) : DataW Unit := ps.foldl (fun D p => D.put (.string p.1) (.lit (.int .i64 (p.2 : Int)))) (.map [])
/-- what was put last -/
def lk (ps : List (List UInt8 × Nat)) (s : List UInt8) : Option Nat := ps.foldl (fun a p => if p.1 = s then some p.2 else a) none

theorem mp_look (s : List UInt8) (ps : List (List UInt8 × Nat)) : ∀ (D : DataW Unit) (a : Option Nat), IsMap D →
    (∀ z, D.atKey (.string s) z = (match a with | some n => .lit (.int .i64 (n : Int)) | none => z)) → has D (.string s) = a.isSome →
    (∀ z, (ps.foldl (fun D p => D.put (.string p.1) (.lit (.int .i64 (p.2 : Int)))) D).atKey (.string s) z = (match ps.foldl (fun a p => if p.1 = s then some p.2 else a) a with | some n => .lit (.int .i64 (n : Int)) | none => z)) ∧
    has (ps.foldl (fun D p => D.put (.string p.1) (.lit (.int .i64 (p.2 : Int)))) D) (.string s) = (ps.foldl (fun a p => if p.1 = s then some p.2 else a) a).isSome := by
  induction ps with
  | nil => exact fun D a _ h1 h2 => ⟨h1, h2⟩
  | cons p ps ih =>
    intro D a hD h1 h2
    rw [List.foldl_cons, List.foldl_cons]
    by_cases e : p.1 = s
    · rw [if_pos e, e]
      exact ih _ _ (hD.put _ _) (fun z => by rw [atKey_put_same hD (by trivial)]) (by rw [has_put_same hD (by trivial)]; rfl)
    · rw [if_neg e]
      have ne : Lit.string s ≠ Lit.string p.1 := fun h => e (by injection h with h; exact h.symm)
      exact ih _ _ (hD.put _ _) (fun z => by rw [atKey_put_other ne]; exact h1 z) (by rw [has_put_other ne]; exact h2)

theorem mp_at (ps : List (List UInt8 × Nat)) (s : List UInt8) : (mp ps).atKey (.string s) (.lit (.int .i64 0)) = .lit (.int .i64 (((lk ps s).getD 0 : Nat) : Int)) := by
  have h := (mp_look s ps (.map []) none isMap_empty (fun _ => rfl) rfl).1 (.lit (.int .i64 0))
  unfold mp lk
  rw [h]
  cases ps.foldl (fun a p => if p.1 = s then some p.2 else a) none <;> rfl
theorem mp_has (ps : List (List UInt8 × Nat)) (s : List UInt8) : has (mp ps) (.string s) = (lk ps s).isSome :=
  (mp_look s ps (.map []) none isMap_empty (fun _ => rfl) rfl).2

/-- block b is a map that was filled so -/
def MapAt (w : World) (b : Nat) (ps : List (List UInt8 × Nat)) : Prop := w.ownsMap Tryz.prog 9 (plainElem Tryz.prog 3) b ps.length (mp ps)

theorem map_made (w : World) : MapAt (w.alloc (.map #[] 0)) w.heap.size [] := World.ownsMap_made w Tryz.prog 9 _

theorem keyL (l : List UInt8) (h : l.length ≤ 1000) : keyOf Tryz.prog 9 (.string ⟨l.toArray⟩) = some (.string l) := by
  have := WideMaps.keyOf_string_mk (s := ⟨l.toArray⟩) Tryz.underlying9 (by show l.toArray.size ≤ maxLen; unfold maxLen; simp; omega)
  simpa using this

theorem map_upd {w : World} {b : Nat} {ps : List (List UInt8 × Nat)} (h : MapAt w b ps) (l : List UInt8) (n : Nat) (hl : l.length ≤ 1000) (hp : ps.length ≤ 1000) (hn : n ≤ 1000) :
    ∃ w', (Instr.mapUpdate 77 (.map (some b)) (.string ⟨l.toArray⟩) (.int .i64 (n : Int))).run Tryz.prog w = .ok () w' ∧ MapAt w' b (ps ++ [(l, n)]) ∧ w.grownBy w' (some b) := by
  obtain ⟨w', g0, g1, g2⟩ := World.ownsMap.update h keyS Tryz.underlying77 (by unfold maxLen; omega) (keyL l hl) (val := .int .i64 (n : Int)) (d := .lit (.int .i64 (n : Int))) (ps := []) (plainElem_int Tryz.underlying3 (WalkArith.wf_i64 (by omega)))
  refine ⟨w', g0, ?_, g2⟩
  unfold MapAt mp
  rw [List.length_append, List.foldl_append]
  exact g1

theorem map_look {w : World} {ops : Array Oper} {rest : List Oper} {o : Oper} {a : Act} {Q : Exit → Act → World → Prop}
    (hg : o.guard = none) (m x : Operand) (hop : o.op = Op.lookup 77 m x true) (b : Nat) (ps : List (List UInt8 × Nat)) (s : ByteArray) (hs : s.size ≤ maxLen)
    (hm : a.eval m = .map (some b)) (h : MapAt w b ps) (hx : a.eval x = .string s)
    (hK : wpList Tryz.prog ops Q rest (a.put o.dst (.tuple #[.int .i64 (((lk ps s.data.toList).getD 0 : Nat) : Int), .bool (lk ps s.data.toList).isSome])) w) : wpList Tryz.prog ops Q (o :: rest) a w := by
  refine wpList_lookup_own_ok_int w hg m x 77 hop 9 3 .i64 keyS Tryz.underlying77 Tryz.underlying3 (zeroI _) b ps.length (mp ps) hm h _ (.string s.data.toList) hx (WideMaps.keyOf_string_mk Tryz.underlying9 hs) ?_
  intro c hc _
  rw [mp_at] at hc
  have e : c = (((lk ps s.data.toList).getD 0 : Nat) : Int) := by injection hc with hc; injection hc with _ hc; exact hc.symm
  rw [mp_has, e]
  exact hK
end Go.Proofs.YtbinbojicmhdlaeGreatDoor.Kn

/-
  THE WALKS of kinds.rolesByName, rolesByTag, Find, Tag.
-/
namespace Go.Proofs.YtbinbojicmhdlaeGreatDoor.Kn
open Go.RowKit Go.Maps

def tagL : List (List UInt8 × Nat) := [([109, 97, 105, 110], 2), ([110, 97, 118], 3), ([104, 49], 4), ([104, 50], 4), ([104, 51], 4), ([117, 108], 5), ([108, 105], 6), ([98, 117, 116, 116, 111, 110], 8), ([116, 97, 98, 108, 101], 13), ([116, 114], 14), ([116, 100], 15), ([100, 105, 97, 108, 111, 103], 17)]
/-- what stands in the map behind the rounds of the roles below k -/
def nmL : Nat → List (List UInt8 × Nat)
  | 0 => [([110, 111, 110, 101], 0), ([112, 114, 101, 115, 101, 110, 116, 97, 116, 105, 111, 110], 0)]
  | k + 1 => if k = 0 ∨ k = 10 ∨ k = 18 then nmL k else nmL k ++ [((kt k).name, k)]
theorem nmL_len : ∀ k, (nmL k).length ≤ k + 2
  | 0 => Nat.le_refl _
  | k + 1 => by
    have := nmL_len k
    unfold nmL
    split
    · omega
    · simp; omega
theorem kt_len : ∀ k, k < 19 → (kt k).name.length ≤ 1000 := by decide

set_option maxHeartbeats 800000 in
set_option maxRecDepth 100000 in
theorem byTag_any (w : World) : Calls Tryz.prog 172 #[] w fun e w' => ∃ b, e = .returned (.map (some b)) ∧ MapAt w' b tagL ∧ Below w.heap.size w w' := by
  obtain ⟨w0, hw0⟩ : ∃ w0, w0 = w.alloc (.map #[] 0) := ⟨_, rfl⟩
  have M0 : MapAt w0 w.heap.size [] := by rw [hw0]; exact map_made w
  have B0 : Below w.heap.size w w0 := by rw [hw0]; exact (Below.refl _ _).alloc (Nat.le_refl _) _
  have S0 : w.heap.size < w0.heap.size := by rw [hw0]; simp
  have W0 : Hid (w0 = w.alloc (.map #[] 0)) := hw0
  obtain ⟨w1, q1, M1, g1⟩ := map_upd M0 [109, 97, 105, 110] 2 (by decide) (by decide) (by decide)
  have B1 := B0.grown g1 (Nat.le_of_lt S0) (fun j hj => by cases hj; exact Nat.le_refl _)
  have S1 := Nat.lt_of_lt_of_le S0 g1.size
  have r1 : (Instr.mapUpdate 77 (.map (some w.heap.size)) (.string ⟨#[109, 97, 105, 110]⟩) (.int .i64 2)).run Tryz.prog w0 = .ok () w1 := q1
  obtain ⟨w2, q2, M2, g2⟩ := map_upd M1 [110, 97, 118] 3 (by decide) (by decide) (by decide)
  have B2 := B1.grown g2 (Nat.le_of_lt S1) (fun j hj => by cases hj; exact Nat.le_refl _)
  have S2 := Nat.lt_of_lt_of_le S1 g2.size
  have r2 : (Instr.mapUpdate 77 (.map (some w.heap.size)) (.string ⟨#[110, 97, 118]⟩) (.int .i64 3)).run Tryz.prog w1 = .ok () w2 := q2
  obtain ⟨w3, q3, M3, g3⟩ := map_upd M2 [104, 49] 4 (by decide) (by decide) (by decide)
  have B3 := B2.grown g3 (Nat.le_of_lt S2) (fun j hj => by cases hj; exact Nat.le_refl _)
  have S3 := Nat.lt_of_lt_of_le S2 g3.size
  have r3 : (Instr.mapUpdate 77 (.map (some w.heap.size)) (.string ⟨#[104, 49]⟩) (.int .i64 4)).run Tryz.prog w2 = .ok () w3 := q3
  obtain ⟨w4, q4, M4, g4⟩ := map_upd M3 [104, 50] 4 (by decide) (by decide) (by decide)
  have B4 := B3.grown g4 (Nat.le_of_lt S3) (fun j hj => by cases hj; exact Nat.le_refl _)
  have S4 := Nat.lt_of_lt_of_le S3 g4.size
  have r4 : (Instr.mapUpdate 77 (.map (some w.heap.size)) (.string ⟨#[104, 50]⟩) (.int .i64 4)).run Tryz.prog w3 = .ok () w4 := q4
  obtain ⟨w5, q5, M5, g5⟩ := map_upd M4 [104, 51] 4 (by decide) (by decide) (by decide)
  have B5 := B4.grown g5 (Nat.le_of_lt S4) (fun j hj => by cases hj; exact Nat.le_refl _)
  have S5 := Nat.lt_of_lt_of_le S4 g5.size
  have r5 : (Instr.mapUpdate 77 (.map (some w.heap.size)) (.string ⟨#[104, 51]⟩) (.int .i64 4)).run Tryz.prog w4 = .ok () w5 := q5
  obtain ⟨w6, q6, M6, g6⟩ := map_upd M5 [117, 108] 5 (by decide) (by decide) (by decide)
  have B6 := B5.grown g6 (Nat.le_of_lt S5) (fun j hj => by cases hj; exact Nat.le_refl _)
  have S6 := Nat.lt_of_lt_of_le S5 g6.size
  have r6 : (Instr.mapUpdate 77 (.map (some w.heap.size)) (.string ⟨#[117, 108]⟩) (.int .i64 5)).run Tryz.prog w5 = .ok () w6 := q6
  obtain ⟨w7, q7, M7, g7⟩ := map_upd M6 [108, 105] 6 (by decide) (by decide) (by decide)
  have B7 := B6.grown g7 (Nat.le_of_lt S6) (fun j hj => by cases hj; exact Nat.le_refl _)
  have S7 := Nat.lt_of_lt_of_le S6 g7.size
  have r7 : (Instr.mapUpdate 77 (.map (some w.heap.size)) (.string ⟨#[108, 105]⟩) (.int .i64 6)).run Tryz.prog w6 = .ok () w7 := q7
  obtain ⟨w8, q8, M8, g8⟩ := map_upd M7 [98, 117, 116, 116, 111, 110] 8 (by decide) (by decide) (by decide)
  have B8 := B7.grown g8 (Nat.le_of_lt S7) (fun j hj => by cases hj; exact Nat.le_refl _)
  have S8 := Nat.lt_of_lt_of_le S7 g8.size
  have r8 : (Instr.mapUpdate 77 (.map (some w.heap.size)) (.string ⟨#[98, 117, 116, 116, 111, 110]⟩) (.int .i64 8)).run Tryz.prog w7 = .ok () w8 := q8
  obtain ⟨w9, q9, M9, g9⟩ := map_upd M8 [116, 97, 98, 108, 101] 13 (by decide) (by decide) (by decide)
  have B9 := B8.grown g9 (Nat.le_of_lt S8) (fun j hj => by cases hj; exact Nat.le_refl _)
  have S9 := Nat.lt_of_lt_of_le S8 g9.size
  have r9 : (Instr.mapUpdate 77 (.map (some w.heap.size)) (.string ⟨#[116, 97, 98, 108, 101]⟩) (.int .i64 13)).run Tryz.prog w8 = .ok () w9 := q9
  obtain ⟨w10, q10, M10, g10⟩ := map_upd M9 [116, 114] 14 (by decide) (by decide) (by decide)
  have B10 := B9.grown g10 (Nat.le_of_lt S9) (fun j hj => by cases hj; exact Nat.le_refl _)
  have S10 := Nat.lt_of_lt_of_le S9 g10.size
  have r10 : (Instr.mapUpdate 77 (.map (some w.heap.size)) (.string ⟨#[116, 114]⟩) (.int .i64 14)).run Tryz.prog w9 = .ok () w10 := q10
  obtain ⟨w11, q11, M11, g11⟩ := map_upd M10 [116, 100] 15 (by decide) (by decide) (by decide)
  have B11 := B10.grown g11 (Nat.le_of_lt S10) (fun j hj => by cases hj; exact Nat.le_refl _)
  have S11 := Nat.lt_of_lt_of_le S10 g11.size
  have r11 : (Instr.mapUpdate 77 (.map (some w.heap.size)) (.string ⟨#[116, 100]⟩) (.int .i64 15)).run Tryz.prog w10 = .ok () w11 := q11
  obtain ⟨w12, q12, M12, g12⟩ := map_upd M11 [100, 105, 97, 108, 111, 103] 17 (by decide) (by decide) (by decide)
  have B12 := B11.grown g12 (Nat.le_of_lt S11) (fun j hj => by cases hj; exact Nat.le_refl _)
  have S12 := Nat.lt_of_lt_of_le S11 g12.size
  have r12 : (Instr.mapUpdate 77 (.map (some w.heap.size)) (.string ⟨#[100, 105, 97, 108, 111, 103]⟩) (.int .i64 17)).run Tryz.prog w11 = .ok () w12 := q12
  clear q1 g1 q2 g2 q3 g3 q4 g4 q5 g5 q6 g6 q7 g7 q8 g8 q9 g9 q10 g10 q11 g11 q12 g12 M0 M1 M2 M3 M4 M5 M6 M7 M8 M9 M10 M11 B0 B1 B2 B3 B4 B5 B6 B7 B8 B9 B10 B11 S0 S1 S2 S3 S4 S5 S6 S7 S8 S9 S10 S11 hw0
  have MM : Hid (MapAt w12 w.heap.size _) := M12
  have BB : Hid (Below w.heap.size w w12) := B12
  have SS : Hid (w.heap.size < w12.heap.size) := S12
  clear M12 B12 S12
  have hmm : ∀ t, (Instr.makeMap t none).run Tryz.prog w = .ok (.map (some w.heap.size)) w0 := fun t => by rw [W0.out]; exact run_makeMap t w
  go_enter Tryz.func172, Tryz.ntmps172
  go_wp2_with fail
  go_ret
  exact ⟨_, rfl, MM.out, BB.out⟩

set_option maxHeartbeats 800000 in
set_option maxRecDepth 100000 in
theorem byName_any {w : World} (T : TabAt w) : Calls Tryz.prog 171 #[] w fun e w' => ∃ b, e = .returned (.map (some b)) ∧ MapAt w' b (nmL 19) ∧ Below w.heap.size w w' := by
  have HT : Hid (TabAt w) := T
  clear T
  obtain ⟨w0, hw0⟩ : ∃ w0, w0 = w.alloc (.map #[] 0) := ⟨_, rfl⟩
  have M0 : MapAt w0 w.heap.size [] := by rw [hw0]; exact map_made w
  have B0 : Below w.heap.size w w0 := by rw [hw0]; exact (Below.refl _ _).alloc (Nat.le_refl _) _
  have S0 : w.heap.size < w0.heap.size := by rw [hw0]; simp
  have W0 : Hid (w0 = w.alloc (.map #[] 0)) := hw0
  obtain ⟨w1, q1, M1, g1⟩ := map_upd M0 [110, 111, 110, 101] 0 (by decide) (by decide) (by decide)
  have B1 := B0.grown g1 (Nat.le_of_lt S0) (fun j hj => by cases hj; exact Nat.le_refl _)
  have S1 := Nat.lt_of_lt_of_le S0 g1.size
  have r1 : (Instr.mapUpdate 77 (.map (some w.heap.size)) (.string ⟨#[110, 111, 110, 101]⟩) (.int .i64 0)).run Tryz.prog w0 = .ok () w1 := q1
  obtain ⟨w2, q2, M2, g2⟩ := map_upd M1 [112, 114, 101, 115, 101, 110, 116, 97, 116, 105, 111, 110] 0 (by decide) (by decide) (by decide)
  have B2 := B1.grown g2 (Nat.le_of_lt S1) (fun j hj => by cases hj; exact Nat.le_refl _)
  have S2 := Nat.lt_of_lt_of_le S1 g2.size
  have r2 : (Instr.mapUpdate 77 (.map (some w.heap.size)) (.string ⟨#[112, 114, 101, 115, 101, 110, 116, 97, 116, 105, 111, 110]⟩) (.int .i64 0)).run Tryz.prog w1 = .ok () w2 := q2
  clear q1 g1 q2 g2 M0 M1 B0 B1 S0 S1 hw0
  have MM : Hid (MapAt w2 w.heap.size _) := M2
  have BB : Hid (Below w.heap.size w w2) := B2
  have SS : Hid (w.heap.size < w2.heap.size) := S2
  clear M2 B2 S2
  have hmm : ∀ t, (Instr.makeMap t none).run Tryz.prog w = .ok (.map (some w.heap.size)) w0 := fun t => by rw [W0.out]; exact run_makeMap t w
  go_enter Tryz.func171, Tryz.ntmps171
  go_wp2_with fail
  go_loopw [2] (fun i wr => ∃ k : Nat, 1 ≤ k ∧ k ≤ 19 ∧ i = .int .i64 k ∧ Hid (MapAt wr w.heap.size (nmL k)) ∧ Hid (Below w.heap.size w wr) ∧ Hid (w.heap.size < wr.heap.size)) (fun i _ => 19 - (intOf i).toNat)
  case atStart => exact ⟨1, Nat.le_refl _, by omega, rfl, MM, BB, SS⟩
  case round =>
    obtain ⟨k, h1, h19, rfl, HM, HB, HS⟩ := hrel
    by_cases hlt : k < 19
    · have c0 : wr.cell? ⟨0, k * 7, none⟩ = some (.string ⟨(kt k).name.toArray⟩) := ((HT.out).below HB.out).2 k hlt |>.c0
      obtain ⟨w', q, M', g⟩ := map_upd HM.out (kt k).name k (kt_len k hlt) (by have := nmL_len k; omega) (by omega)
      have HM' : Hid (MapAt w' w.heap.size (nmL k ++ [((kt k).name, k)])) := M'
      have HB' : Hid (Below w.heap.size w w') := HB.out.grown g (Nat.le_of_lt HS.out) (fun j hj => by cases hj; exact Nat.le_refl _)
      have HS' : Hid (w.heap.size < w'.heap.size) := Nat.lt_of_lt_of_le HS.out g.size
      clear M' g
      by_cases h10 : k = 10 ∨ k = 18
      · have E : Hid (nmL (k + 1) = nmL k) := by show _ = _; rw [nmL, if_pos (Or.inr h10)]
        clear q c0
        rcases h10 with rfl | rfl
        · go_wp2
          go_roundw
          case rel => exact ⟨11, by omega, by omega, by go_num, by rw [E.out]; exact HM, HB, HS⟩
          case measure => simp [intOf]
        · go_wp2
          go_roundw
          case rel => exact ⟨19, by omega, by omega, by go_num, by rw [E.out]; exact HM, HB, HS⟩
          case measure => simp [intOf]
      · have E : Hid (nmL (k + 1) = nmL k ++ [((kt k).name, k)]) := by show _ = _; rw [nmL, if_neg (by omega)]
        have k10 : ((k : Int) != 10) = true := by simp; omega
        have k18 : ((k : Int) != 18) = true := by simp; omega
        generalize (kt k).name.toArray = nm at *
        go_wp2
        go_roundw
        case rel => exact ⟨k + 1, by omega, by omega, by go_num, by rw [E.out]; exact HM', HB', HS'⟩
        case measure => simp [intOf]; omega
    · have hk : k = 19 := by omega
      subst hk
      go_wp2
      go_ret
      exact ⟨_, rfl, HM.out, HB.out⟩
end Go.Proofs.YtbinbojicmhdlaeGreatDoor.Kn

/-
  THE WALKS of kinds.Find, kinds.Tag.
-/
namespace Go.Proofs.YtbinbojicmhdlaeGreatDoor.Kn
open Go.RowKit Go.Maps

def findD (s : List UInt8) : Int := match lk (nmL 19) s with | some n => (n : Int) | none => -1
def tagD (s : List UInt8) : Int := match lk tagL s with | some n => (n : Int) | none => 18

set_option maxHeartbeats 400000 in
set_option maxRecDepth 100000 in
theorem find_any {w : World} (T : TabAt w) (s : ByteArray) (hs : s.size ≤ maxLen) : Calls Tryz.prog 152 #[.string s] w fun e w' => e = .returned (.int .i64 (findD s.data.toList)) ∧ Below w.heap.size w w' := by
  have HB : Hid (Calls Tryz.prog 171 #[] w fun e w' => ∃ b, e = .returned (.map (some b)) ∧ MapAt w' b (nmL 19) ∧ Below w.heap.size w w') := byName_any T
  clear T
  cases h : lk (nmL 19) s.data.toList with
  | some n =>
    have E : Hid (findD s.data.toList = (n : Int)) := by show _ = _; unfold findD; rw [h]
    go_enter Tryz.func152, Tryz.ntmps152
    go_wp2_with (first
      | (go_at_call 171; refine Calls.mono HB.out ?_; rintro e w1 ⟨b, rfl, M, bel⟩)
      | (at_lookup; refine map_look rfl _ _ rfl b _ s hs rfl M rfl ?_; rw [h]))
    go_ret
    exact ⟨by rw [E.out]; rfl, bel⟩
  | none =>
    have E : Hid (findD s.data.toList = -1) := by show _ = _; unfold findD; rw [h]
    go_enter Tryz.func152, Tryz.ntmps152
    go_wp2_with (first
      | (go_at_call 171; refine Calls.mono HB.out ?_; rintro e w1 ⟨b, rfl, M, bel⟩)
      | (at_lookup; refine map_look rfl _ _ rfl b _ s hs rfl M rfl ?_; rw [h]))
    go_ret
    exact ⟨by rw [E.out]; rfl, bel⟩

set_option maxHeartbeats 400000 in
set_option maxRecDepth 100000 in
theorem tag_any (w : World) (s : ByteArray) (hs : s.size ≤ maxLen) : Calls Tryz.prog 155 #[.string s] w fun e w' => e = .returned (.int .i64 (tagD s.data.toList)) ∧ Below w.heap.size w w' := by
  have HB : Hid (Calls Tryz.prog 172 #[] w fun e w' => ∃ b, e = .returned (.map (some b)) ∧ MapAt w' b tagL ∧ Below w.heap.size w w') := byTag_any w
  cases h : lk tagL s.data.toList with
  | some n =>
    have E : Hid (tagD s.data.toList = (n : Int)) := by show _ = _; unfold tagD; rw [h]
    go_enter Tryz.func155, Tryz.ntmps155
    go_wp2_with (first
      | (go_at_call 172; refine Calls.mono HB.out ?_; rintro e w1 ⟨b, rfl, M, bel⟩)
      | (at_lookup; refine map_look rfl _ _ rfl b _ s hs rfl M rfl ?_; rw [h]))
    go_ret
    exact ⟨by rw [E.out]; rfl, bel⟩
  | none =>
    have E : Hid (tagD s.data.toList = 18) := by show _ = _; unfold tagD; rw [h]
    go_enter Tryz.func155, Tryz.ntmps155
    go_wp2_with (first
      | (go_at_call 172; refine Calls.mono HB.out ?_; rintro e w1 ⟨b, rfl, M, bel⟩)
      | (at_lookup; refine map_look rfl _ _ rfl b _ s hs rfl M rfl ?_; rw [h]))
    go_ret
    exact ⟨by rw [E.out]; rfl, bel⟩
end Go.Proofs.YtbinbojicmhdlaeGreatDoor.Kn

/-
  THE WALKS of the reference's Kind, Asked, Tag.
-/
namespace Go.Proofs.YtbinbojicmhdlaeGreatDoor.Kn
open Go.RowKit Go.Maps

/-- a row of these integers -/
def HasAt (w : World) (b : Nat) (l : List Nat) : Prop := ∀ (j : Nat) (x : Nat), l[j]? = some x → w.cell? ⟨b, j, none⟩ = some (.int .i64 (x : Int))

theorem any_take_succ (l : List Nat) (r : Int) (j : Nat) (h : j < l.length) : ((l.take (j + 1)).any fun x => (x : Int) == r) = (((l.take j).any fun x => (x : Int) == r) || ((l[j] : Int) == r)) := by
  rw [List.take_succ_eq_append_getElem h, List.any_append]
  simp

set_option maxHeartbeats 800000 in
theorem has_any {w : World} {b c : Nat} {l : List Nat} (h : HasAt w b l) (hl : l.length ≤ 100) (r : Int) : Calls Tryz.prog 23 #[.slice (some ⟨b, 0, none⟩) l.length c, .int .i64 r] w fun e w' => e = .returned (.bool (l.any fun x => (x : Int) == r)) ∧ w' = w := by
  have H : Hid (HasAt w b l) := h
  clear h
  go_enter Tryz.func23, Tryz.ntmps23
  go_wp2
  go_loopw [9] (fun i wr => wr = w ∧ ∃ j : Nat, j ≤ l.length ∧ i = .int .i64 j ∧ Hid (((l.take j).any fun x => (x : Int) == r) = false)) (fun i _ => l.length - (intOf i).toNat)
  case atStart => exact ⟨rfl, 0, Nat.zero_le _, rfl, by show _ = _; simp⟩
  case round =>
    obtain ⟨rfl, j, hj, rfl, hno⟩ := hrel
    by_cases hlt : j < l.length
    · have hc := H.out j l[j] (List.getElem?_eq_getElem hlt)
      by_cases he : (l[j] : Int) = r
      · have E : Hid ((l.any fun x => (x : Int) == r) = true) := by
          show _ = _
          rw [List.any_eq_true]
          exact ⟨l[j], List.getElem_mem hlt, by simpa using he⟩
        rw [he] at hc
        clear he
        go_wp2
        go_ret
        exact ⟨by rw [E.out]; rfl, rfl⟩
      · have E : Hid (((l.take (j + 1)).any fun x => (x : Int) == r) = false) := by
          show _ = _
          rw [any_take_succ l r j hlt, hno.out]
          simpa using he
        generalize (l[j] : Int) = x at *
        go_wp2
        go_roundw
        case rel => exact ⟨trivial, j + 1, by omega, by go_num, E⟩
        case measure => simp [intOf]; omega
    · have E : Hid ((l.any fun x => (x : Int) == r) = false) := by
        show _ = _
        have := hno.out
        rwa [show j = l.length by omega, List.take_length] at this
      go_wp2
      go_ret
      exact ⟨by rw [E.out]; rfl, rfl⟩

theorem has_new (W : World) (t : TypeId) (l : List Nat) : HasAt (W.alloc (.cells (l.map fun x : Nat => Value.int .i64 (x : Int)).toArray t)) W.heap.size l := by
  intro j x hx
  rw [World.cell?_alloc_new]
  simp [hx]

theorem has_lit {W : World} {t : TypeId} {arr : Array Value} {l : List Nat} {b : Nat} (hb : b = W.heap.size) (h : arr = (l.map fun x : Nat => Value.int .i64 (x : Int)).toArray) : HasAt (W.alloc (.cells arr t)) b l := by
  rw [hb, h]
  exact has_new W t l

theorem has_at {w : World} {b c : Nat} {l : List Nat} (h : HasAt w b l) (hl : l.length ≤ 100) (r : Int) : Calls Tryz.prog 23 #[.slice (some ⟨b, 0, none⟩) l.length c, .int .i64 r] w fun e w' => e = .returned (.bool (l.any fun x => (x : Int) == r)) ∧ Below w.heap.size w w' :=
  (has_any h hl r).mono fun _ _ ⟨a, b⟩ => ⟨a, by rw [b]; exact Below.refl _ _⟩

/-- a box of these cells, to be written -/
def Box (w : World) (B : Nat) (xs : List Value) : Prop := B < w.heap.size ∧ ∀ (j : Nat) (x : Value), xs[j]? = some x → w.cell? ⟨B, j, none⟩ = some x ∧ w.frozen? ⟨B, j, none⟩ = false

theorem Box.below {w w' : World} {B : Nat} {xs : List Value} (h : Box w B xs) (hb : Below w.heap.size w w') : Box w' B xs :=
  ⟨Nat.lt_of_lt_of_le h.1 hb.size, fun j x hx => by
    have := h.2 j x hx
    exact ⟨(hb.cell (by exact h.1)).trans this.1, (hb.frozen (by exact h.1)).trans this.2⟩⟩
theorem Box.alloc {w : World} {B : Nat} {xs : List Value} (h : Box w B xs) (o : Obj) : Box (w.alloc o) B xs := h.below ((Below.refl _ _).alloc (Nat.le_refl _) o)
theorem Box.grown {w w' : World} {B M : Nat} {xs : List Value} (h : Box w B xs) (hg : w.grownBy w' (some M)) (ne : B ≠ M) : Box w' B xs := by
  have hb : w'.heap[B]? = w.heap[B]? := hg.block B h.1 (fun e => ne (by injection e))
  refine ⟨Nat.lt_of_lt_of_le h.1 hg.size, fun j x hx => ?_⟩
  have := h.2 j x hx
  exact ⟨by rw [World.cell?_of_block hb]; exact this.1, by rw [World.frozen?_of_block hb]; exact this.2⟩
theorem Box.set {w : World} {B : Nat} {xs : List Value} (h : Box w B xs) (i : Nat) (v : Value) (hi : i < xs.length) : Box (w.setCell ⟨B, i, none⟩ v) B (xs.set i v) := by
  refine ⟨by simpa using h.1, fun j x hx => ⟨?_, ?_⟩⟩
  · rw [List.getElem?_set] at hx
    by_cases e : i = j
    · subst e
      rw [if_pos rfl, if_pos hi] at hx
      cases hx
      exact World.cell?_setCell_same _ _ _ (h.2 i _ (List.getElem?_eq_getElem hi)).1
    · rw [if_neg e] at hx
      rw [World.cell?_setCell_other _ _ _ _ (by intro h; cases h; exact e rfl)]
      exact (h.2 j x hx).1
  · rw [World.frozen?_setCell]
    rw [List.getElem?_set] at hx
    by_cases e : i = j
    · subst e
      exact (h.2 i _ (List.getElem?_eq_getElem hi)).2
    · rw [if_neg e] at hx
      exact (h.2 j x hx).2
theorem Box.other {w : World} {B B' : Nat} {xs : List Value} (h : Box w B xs) (ne : B' ≠ B) (i : Nat) (v : Value) : Box (w.setCell ⟨B', i, none⟩ v) B xs := by
  refine ⟨by simpa using h.1, fun j x hx => ⟨?_, ?_⟩⟩
  · rw [World.cell?_setCell_other _ _ _ _ (by intro h; cases h; exact ne rfl)]
    exact (h.2 j x hx).1
  · rw [World.frozen?_setCell]
    exact (h.2 j x hx).2
theorem box_new (w : World) (t : TypeId) (xs : List Value) : Box (w.alloc (.cells xs.toArray t)) w.heap.size xs := by
  refine ⟨by simp, fun j x hx => ⟨?_, ?_⟩⟩
  · rw [World.cell?_alloc_new]
    simpa using hx
  · exact World.frozen?_alloc_new _ _ _ _

theorem names_at : ∀ (k : Nat) (h : k < 19), ([Value.string { data := #[] }, Value.string { data := #[103, 114, 111, 117, 112] }, Value.string { data := #[109, 97, 105, 110] }, Value.string { data := #[110, 97, 118, 105, 103, 97, 116, 105, 111, 110] }, Value.string { data := #[104, 101, 97, 100, 105, 110, 103] }, Value.string { data := #[108, 105, 115, 116] }, Value.string { data := #[108, 105, 115, 116, 105, 116, 101, 109] }, Value.string { data := #[108, 105, 110, 107] }, Value.string { data := #[98, 117, 116, 116, 111, 110] }, Value.string { data := #[99, 104, 101, 99, 107, 98, 111, 120] }, Value.string { data := #[116, 101, 120, 116] }, Value.string { data := #[105, 109, 103] }, Value.string { data := #[116, 101, 120, 116, 98, 111, 120] }, Value.string { data := #[116, 97, 98, 108, 101] }, Value.string { data := #[114, 111, 119] }, Value.string { data := #[99, 101, 108, 108] }, Value.string { data := #[114, 101, 103, 105, 111, 110] }, Value.string { data := #[100, 105, 97, 108, 111, 103] }, Value.string { data := #[103, 101, 110, 101, 114, 105, 99] }] : List Value)[k]'(by simpa using h) = Value.string { data := (kt k).name.toArray } := by
  intro k h
  match k, h with
  | 0, _ => rfl
  | 1, _ => rfl
  | 2, _ => rfl
  | 3, _ => rfl
  | 4, _ => rfl
  | 5, _ => rfl
  | 6, _ => rfl
  | 7, _ => rfl
  | 8, _ => rfl
  | 9, _ => rfl
  | 10, _ => rfl
  | 11, _ => rfl
  | 12, _ => rfl
  | 13, _ => rfl
  | 14, _ => rfl
  | 15, _ => rfl
  | 16, _ => rfl
  | 17, _ => rfl
  | 18, _ => rfl
  | k + 19, h => exact absurd h (by omega)

end Go.Proofs.YtbinbojicmhdlaeGreatDoor.Kn

/-
  THE WALK of the reference's Kind.
-/
namespace Go.Proofs.YtbinbojicmhdlaeGreatDoor.Kn
open Go.RowKit Go.Maps

theorem keyI : Keyed Tryz.prog 3 := int_keyed Tryz.underlying3

/-- what the reference's small map says -/
def needD (k : Nat) : Nat := if k = 15 then 14 else if k = 14 then 13 else if k = 6 then 5 else 0

theorem need_upd {w : World} {b n : Nat} {D : DataW Unit} (h : w.ownsMap Tryz.prog 3 (plainElem Tryz.prog 3) b n D) (hn : n ≤ 100) (a z : Nat) (ha : a ≤ 100) (hz : z ≤ 100) :
    ∃ w', (Instr.mapUpdate 81 (.map (some b)) (.int .i64 (a : Int)) (.int .i64 (z : Int))).run Tryz.prog w = .ok () w' ∧ w'.ownsMap Tryz.prog 3 (plainElem Tryz.prog 3) b (n + 1) (D.put (.int .i64 (a : Int)) (.lit (.int .i64 (z : Int)))) ∧ w.grownBy w' (some b) :=
  World.ownsMap.update h keyI Tryz.underlying81 (by unfold maxLen; omega) (keyOf_int_mk Tryz.underlying3 (WalkArith.wf_i64 (by omega))) (plainElem_int Tryz.underlying3 (WalkArith.wf_i64 (by omega)))

set_option maxRecDepth 100000 in
theorem need_map (W : World) : ∃ (M : Nat) (w0 w1 w2 w3 : World), (∀ t, (Instr.makeMap t none).run Tryz.prog W = .ok (.map (some M)) w0) ∧
    (Instr.mapUpdate 81 (.map (some M)) (.int .i64 6) (.int .i64 5)).run Tryz.prog w0 = .ok () w1 ∧
    (Instr.mapUpdate 81 (.map (some M)) (.int .i64 14) (.int .i64 13)).run Tryz.prog w1 = .ok () w2 ∧
    (Instr.mapUpdate 81 (.map (some M)) (.int .i64 15) (.int .i64 14)).run Tryz.prog w2 = .ok () w3 ∧
    (∀ k : Nat, k ≤ 100 → (Instr.lookup 81 (.map (some M)) (.int .i64 (k : Int)) false).run Tryz.prog w3 = .ok (.int .i64 ((needD k : Nat) : Int)) w3) ∧
    (∀ B xs, Box W B xs → Box w3 B xs) ∧ Below W.heap.size W w3 := by
  have M0 : (W.alloc (.map #[] 0)).ownsMap Tryz.prog 3 (plainElem (H := Unit) Tryz.prog 3) W.heap.size 0 (.map []) := World.ownsMap_made W Tryz.prog 3 _
  obtain ⟨w1, q1, M1, g1⟩ := need_upd M0 (by omega) 6 5 (by omega) (by omega)
  obtain ⟨w2, q2, M2, g2⟩ := need_upd M1 (by omega) 14 13 (by omega) (by omega)
  obtain ⟨w3, q3, M3, g3⟩ := need_upd M2 (by omega) 15 14 (by omega) (by omega)
  have s1 := g1.size
  have s2 := g2.size
  have s3 := g3.size
  simp at s1
  refine ⟨W.heap.size, _, w1, w2, w3, fun t => run_makeMap t W, q1, q2, q3, fun k hk => ?_, fun B xs hB => ?_, ?_⟩
  · obtain ⟨v, ps, hrun, hv⟩ := M3.lookup (t := 81) keyI Tryz.underlying81 (zeroI w3) (zd := .lit (.int .i64 0)) (zp := []) (plainElem_int Tryz.underlying3 (by decide)) (keyOf_int_mk Tryz.underlying3 (WalkArith.wf_i64 (n := (k : Int)) (by omega)))
    obtain ⟨c, rfl, hc, _⟩ := plainElem_int_inv Tryz.underlying3 hv
    rw [hrun]
    have hc1 := congrArg Prod.fst hc
    simp only at hc1
    have i0 : IsMap (.map [] : DataW Unit) := isMap_empty
    have e : c = ((needD k : Nat) : Int) := by
      unfold needD
      have ne : ∀ a : Nat, k ≠ a → Lit.int .i64 (k : Int) ≠ Lit.int .i64 (a : Int) := fun a h x => h (by injection x with _ x; omega)
      by_cases h15 : k = 15
      · subst h15
        rw [atKey_put_same ((i0.put _ _).put _ _) (by trivial)] at hc1
        injection hc1 with hc1; injection hc1 with _ hc1
        rw [← hc1]; rfl
      · rw [atKey_put_other (ne 15 h15)] at hc1
        rw [if_neg h15]
        by_cases h14 : k = 14
        · subst h14
          rw [atKey_put_same (i0.put _ _) (by trivial)] at hc1
          injection hc1 with hc1; injection hc1 with _ hc1
          rw [← hc1]; rfl
        · rw [atKey_put_other (ne 14 h14)] at hc1
          rw [if_neg h14]
          by_cases h6 : k = 6
          · subst h6
            rw [atKey_put_same i0 (by trivial)] at hc1
            injection hc1 with hc1; injection hc1 with _ hc1
            rw [← hc1]; rfl
          · rw [atKey_put_other (ne 6 h6)] at hc1
            rw [if_neg h6]
            injection hc1 with hc1; injection hc1 with _ hc1
            rw [← hc1]; rfl
    rw [e]
  · have ne : B ≠ W.heap.size := Nat.ne_of_lt hB.1
    exact (((hB.alloc _).grown g1 ne).grown g2 ne).grown g3 ne
  · exact ((((Below.refl _ _).alloc (Nat.le_refl _) _).grown g1 (by simp) (fun j hj => by cases hj; exact Nat.le_refl _)).grown g2 (by omega) (fun j hj => by cases hj; exact Nat.le_refl _)).grown g3 (by omega) (fun j hj => by cases hj; exact Nat.le_refl _)

theorem boxK3 {w w1 : World} {a b d : Obj} {t : TypeId} {nm : Array UInt8} (h : Below ((((w.alloc a).alloc b).alloc (.cells #[.string ⟨nm⟩, .bool false, .bool false, .bool false, .bool false, .bool false, .int .i64 0] t)).alloc d).heap.size ((((w.alloc a).alloc b).alloc (.cells #[.string ⟨nm⟩, .bool false, .bool false, .bool false, .bool false, .bool false, .int .i64 0] t)).alloc d) w1) :
    Box w1 (w.heap.size + 1 + 1) [.string ⟨nm⟩, .bool false, .bool false, .bool false, .bool false, .bool false, .int .i64 0] := by
  have := ((box_new ((w.alloc a).alloc b) t [.string ⟨nm⟩, .bool false, .bool false, .bool false, .bool false, .bool false, .int .i64 0]).alloc d).below h
  simpa using this

theorem below8 {B g R : Nat} {w0 w : World} (h : Below R w0 w) (hg : R ≤ g ∧ R ≤ B) (y x0 x1 x2 x3 x4 x5 x6 : Value) :
    Below R w0 ((((((((w.setCell ⟨g, 6, none⟩ y).setCell ⟨B, 0, none⟩ x0).setCell ⟨B, 1, none⟩ x1).setCell ⟨B, 2, none⟩ x2).setCell ⟨B, 3, none⟩ x3).setCell ⟨B, 4, none⟩ x4).setCell ⟨B, 5, none⟩ x5).setCell ⟨B, 6, none⟩ x6) :=
  (((((((h.setCell hg.1 _).setCell hg.2 _).setCell hg.2 _).setCell hg.2 _).setCell hg.2 _).setCell hg.2 _).setCell hg.2 _).setCell hg.2 _

theorem kt_eq : ∀ k, k < 19 → 1 ≤ k → (kt k).content = [4, 7, 8, 9, 14, 15].any (fun x : Nat => (x : Int) == (k : Int)) ∧ (kt k).leaf = [8, 9, 10, 11, 12].any (fun x : Nat => (x : Int) == (k : Int)) ∧ (kt k).level = ((k : Int) == 4 || (k : Int) == 6) ∧ (kt k).checked = ((k : Int) == 9) ∧ (kt k).named = (!([6, 10, 18].any (fun x : Nat => (x : Int) == (k : Int)))) ∧ (kt k).need = needD k := by decide

set_option maxHeartbeats 400000 in
set_option maxRecDepth 100000 in
theorem qkind_in {w : World} (k : Nat) (h1 : 1 ≤ k) (h2 : k < 19) : Calls Tryz.prog 26 #[.int .i64 k] w fun e w' => e = .returned (kval (kt k)) ∧ Below w.heap.size w w' := by
  have hN := names_at k h2
  have E : Hid (kval (kt k) = .agg #[.string ⟨(kt k).name.toArray⟩, .bool ([4, 7, 8, 9, 14, 15].any (fun x : Nat => (x : Int) == (k : Int))), .bool ([8, 9, 10, 11, 12].any (fun x : Nat => (x : Int) == (k : Int))), .bool ((k : Int) == 4 || (k : Int) == 6), .bool ((k : Int) == 9), .bool (!([6, 10, 18].any (fun x : Nat => (x : Int) == (k : Int)))), .int .i64 ((needD k : Nat) : Int)]) := by
    show _ = _
    obtain ⟨e1, e2, e3, e4, e5, e6⟩ := kt_eq k h2 h1
    unfold kval
    rw [e1, e2, e3, e4, e5, e6]
  generalize (kt k).name.toArray = nm at hN E
  go_enter Tryz.func26, Tryz.ntmps26
  go_wp2_with fail
  refine (has_at (l := [6, 10, 18]) ?_ (by decide) _).mono ?_
  · exact has_lit (by simp) rfl
  rintro e w1 ⟨rfl, b1⟩
  have HR : Hid (Box w1 w.heap.size [.string ⟨#[]⟩, .bool false, .bool false, .bool false, .bool false, .bool false, .int .i64 0]) := ((((box_new _ _ _).alloc _).alloc _).alloc _).below b1
  have HK : Hid (Box w1 (w.heap.size + 1 + 1) [.string ⟨nm⟩, .bool false, .bool false, .bool false, .bool false, .bool false, .int .i64 0]) := boxK3 b1
  have HB : Hid (Below w.heap.size w w1) := (((((Below.refl _ _).alloc (Nat.le_refl _) _).alloc (by simp) _).alloc (by simp; omega) _).alloc (by simp; omega) _).trans (b1.mono (by simp; omega))
  have HS : Hid (w.heap.size + 1 + 1 < w1.heap.size) := HK.out.1
  clear b1 hN
  have c5 := (HK.out.2 5 _ rfl).1
  have f5 := (HK.out.2 5 _ rfl).2
  generalize [6, 10, 18].any (fun x : Nat => (x : Int) == (k : Int)) = v5 at *
  generalize hR : w.heap.size = R at *
  go_wp2_with fail
  refine (has_at (l := [4, 7, 8, 9, 14, 15]) ?_ (by decide) _).mono ?_
  · exact has_lit (by simp) rfl
  rintro e w2 ⟨rfl, b2⟩
  have HR2 : Hid (Box w2 R [.string ⟨#[]⟩, .bool false, .bool false, .bool false, .bool false, .bool false, .int .i64 0]) := ((HR.out.other (by omega) _ _).alloc _).below b2
  have HK2 : Hid (Box w2 (R + 1 + 1) [.string ⟨nm⟩, .bool false, .bool false, .bool false, .bool false, .bool !v5, .int .i64 0]) := ((HK.out.set 5 (.bool !v5) (by simp)).alloc _).below b2
  have HB2 : Hid (Below R w w2) := (((HB.out.setCell (by show R ≤ R + 1 + 1; omega) _).alloc (by simp; have := HS.out; omega) _).trans (b2.mono (by simp; have := HS.out; omega)))
  have HS2 : Hid (R + 1 + 1 < w2.heap.size) := HK2.out.1
  clear b2 HR HK HB HS c5 f5
  have c1 := (HK2.out.2 1 _ rfl).1
  have f1 := (HK2.out.2 1 _ rfl).2
  generalize [4, 7, 8, 9, 14, 15].any (fun x : Nat => (x : Int) == (k : Int)) = v1 at *
  go_wp2_with fail
  refine (has_at (l := [8, 9, 10, 11, 12]) ?_ (by decide) _).mono ?_
  · exact has_lit (by simp) rfl
  rintro e w3 ⟨rfl, b3⟩
  have HR3 : Hid (Box w3 R [.string ⟨#[]⟩, .bool false, .bool false, .bool false, .bool false, .bool false, .int .i64 0]) := ((HR2.out.other (by omega) _ _).alloc _).below b3
  have HK3 : Hid (Box w3 (R + 1 + 1) [.string ⟨nm⟩, .bool v1, .bool false, .bool false, .bool false, .bool !v5, .int .i64 0]) := ((HK2.out.set 1 (.bool v1) (by simp)).alloc _).below b3
  have HB3 : Hid (Below R w w3) := (((HB2.out.setCell (by show R ≤ R + 1 + 1; omega) _).alloc (by simp; have := HS2.out; omega) _).trans (b3.mono (by simp; have := HS2.out; omega)))
  have HS3 : Hid (R + 1 + 1 < w3.heap.size) := HK3.out.1
  clear b3 HR2 HK2 HB2 HS2 c1 f1
  have c2 := (HK3.out.2 2 _ rfl).1
  have f2 := (HK3.out.2 2 _ rfl).2
  have c3 := (HK3.out.2 3 _ rfl).1
  have f3 := (HK3.out.2 3 _ rfl).2
  have c4 := (HK3.out.2 4 _ rfl).1
  have f4 := (HK3.out.2 4 _ rfl).2
  generalize [8, 9, 10, 11, 12].any (fun x : Nat => (x : Int) == (k : Int)) = v2 at *
  by_cases h4 : k = 4
  · subst h4
    obtain ⟨M, w40, w41, w42, w43, hmm, r1, r2, r3, look, bx, bel⟩ := need_map (((w3.setCell ⟨R + 1 + 1, 2, none⟩ (.bool v2)).setCell ⟨R + 1 + 1, 3, none⟩ (.bool true)).setCell ⟨R + 1 + 1, 4, none⟩ (.bool false))
    have HK4 : Hid (Box w43 (R + 1 + 1) [.string ⟨nm⟩, .bool v1, .bool v2, .bool true, .bool false, .bool !v5, .int .i64 0]) := bx _ _ (((HK3.out.set 2 (.bool v2) (by simp)).set 3 (.bool true) (by simp)).set 4 (.bool false) (by simp))
    have HR4 : Hid (Box w43 R [.string ⟨#[]⟩, .bool false, .bool false, .bool false, .bool false, .bool false, .int .i64 0]) := bx _ _ (((HR3.out.other (by omega) _ _).other (by omega) _ _).other (by omega) _ _)
    have HB4 : Hid (Below R w w43) := (((HB3.out.setCell (by show R ≤ R + 1 + 1; omega) _).setCell (by show R ≤ R + 1 + 1; omega) _).setCell (by show R ≤ R + 1 + 1; omega) _).trans (bel.mono (by simp; have := HS3.out; omega))
    have lk : (Instr.lookup 81 (.map (some M)) (.int .i64 4) false).run Tryz.prog w43 = .ok (.int .i64 0) w43 := look 4 (by omega)
    clear look bx bel HK3 HR3 HB3
    have c0 := (HK4.out.2 0 _ rfl).1
    have c1 := (HK4.out.2 1 _ rfl).1
    have c2' := (HK4.out.2 2 _ rfl).1
    have c3' := (HK4.out.2 3 _ rfl).1
    have c4' := (HK4.out.2 4 _ rfl).1
    have c5 := (HK4.out.2 5 _ rfl).1
    have c6 := (HK4.out.2 6 _ rfl).1
    have f6 := (HK4.out.2 6 _ rfl).2
    have r0 := (HR4.out.2 0 _ rfl).1
    have r1' := (HR4.out.2 1 _ rfl).1
    have r2' := (HR4.out.2 2 _ rfl).1
    have r3' := (HR4.out.2 3 _ rfl).1
    have r4 := (HR4.out.2 4 _ rfl).1
    have r5 := (HR4.out.2 5 _ rfl).1
    have r6 := (HR4.out.2 6 _ rfl).1
    have g0 := (HR4.out.2 0 _ rfl).2
    have g1 := (HR4.out.2 1 _ rfl).2
    have g2 := (HR4.out.2 2 _ rfl).2
    have g3 := (HR4.out.2 3 _ rfl).2
    have g4 := (HR4.out.2 4 _ rfl).2
    have g5 := (HR4.out.2 5 _ rfl).2
    have g6 := (HR4.out.2 6 _ rfl).2
    go_wp2_with fail
    refine bodyPost_ret (v := .agg #[.string ⟨nm⟩, .bool v1, .bool v2, .bool true, .bool false, .bool !v5, .int .i64 0]) (by simp [results, Tryz.results26, go_sem, r0, r1', r2', r3', r4, r5, r6]) rfl ⟨by rw [E.out]; rfl, ?_⟩
    rw [hR]
    exact below8 HB4.out (by omega) _ _ _ _ _ _ _ _
  · have k4 : ((k : Int) == 4) = false := by simp; omega
    have E2 : Hid (((k : Int) == 4 || (k : Int) == 6) = ((k : Int) == 6)) := by show _ = _; rw [k4]; rfl
    rw [E2.out] at E
    obtain ⟨M, w40, w41, w42, w43, hmm, r1, r2, r3, look, bx, bel⟩ := need_map (((w3.setCell ⟨R + 1 + 1, 2, none⟩ (.bool v2)).setCell ⟨R + 1 + 1, 3, none⟩ (.bool ((k : Int) == 6))).setCell ⟨R + 1 + 1, 4, none⟩ (.bool ((k : Int) == 9)))
    have HK4 : Hid (Box w43 (R + 1 + 1) [.string ⟨nm⟩, .bool v1, .bool v2, .bool ((k : Int) == 6), .bool ((k : Int) == 9), .bool !v5, .int .i64 0]) := bx _ _ (((HK3.out.set 2 (.bool v2) (by simp)).set 3 (.bool ((k : Int) == 6)) (by simp)).set 4 (.bool ((k : Int) == 9)) (by simp))
    have HR4 : Hid (Box w43 R [.string ⟨#[]⟩, .bool false, .bool false, .bool false, .bool false, .bool false, .int .i64 0]) := bx _ _ (((HR3.out.other (by omega) _ _).other (by omega) _ _).other (by omega) _ _)
    have HB4 : Hid (Below R w w43) := (((HB3.out.setCell (by show R ≤ R + 1 + 1; omega) _).setCell (by show R ≤ R + 1 + 1; omega) _).setCell (by show R ≤ R + 1 + 1; omega) _).trans (bel.mono (by simp; have := HS3.out; omega))
    have lk := look k (by omega)
    clear look bx bel HK3 HR3 HB3
    have c0 := (HK4.out.2 0 _ rfl).1
    have c1 := (HK4.out.2 1 _ rfl).1
    have c2' := (HK4.out.2 2 _ rfl).1
    have c3' := (HK4.out.2 3 _ rfl).1
    have c4' := (HK4.out.2 4 _ rfl).1
    have c5 := (HK4.out.2 5 _ rfl).1
    have c6 := (HK4.out.2 6 _ rfl).1
    have f6 := (HK4.out.2 6 _ rfl).2
    have r0 := (HR4.out.2 0 _ rfl).1
    have r1' := (HR4.out.2 1 _ rfl).1
    have r2' := (HR4.out.2 2 _ rfl).1
    have r3' := (HR4.out.2 3 _ rfl).1
    have r4 := (HR4.out.2 4 _ rfl).1
    have r5 := (HR4.out.2 5 _ rfl).1
    have r6 := (HR4.out.2 6 _ rfl).1
    have g0 := (HR4.out.2 0 _ rfl).2
    have g1 := (HR4.out.2 1 _ rfl).2
    have g2 := (HR4.out.2 2 _ rfl).2
    have g3 := (HR4.out.2 3 _ rfl).2
    have g4 := (HR4.out.2 4 _ rfl).2
    have g5 := (HR4.out.2 5 _ rfl).2
    have g6 := (HR4.out.2 6 _ rfl).2
    go_wp2_with fail
    refine bodyPost_ret (v := .agg #[.string ⟨nm⟩, .bool v1, .bool v2, .bool ((k : Int) == 6), .bool ((k : Int) == 9), .bool !v5, .int .i64 ((needD k : Nat) : Int)]) (by simp [results, Tryz.results26, go_sem, r0, r1', r2', r3', r4, r5, r6]) rfl ⟨by rw [E.out], ?_⟩
    rw [hR]
    exact below8 HB4.out (by omega) _ _ _ _ _ _ _ _

set_option maxHeartbeats 400000 in
set_option maxRecDepth 100000 in
theorem qkind_out {w : World} (r : Int) (h : ¬ (1 ≤ r ∧ r < 19)) : Calls Tryz.prog 26 #[.int .i64 r] w fun e w' => e = .returned (kval k0) ∧ Below w.heap.size w w' := by
  go_enter Tryz.func26, Tryz.ntmps26
  go_wp2_with fail
  all_goals
    refine bodyPost_ret (v := .agg #[.string ⟨#[]⟩, .bool false, .bool false, .bool false, .bool false, .bool false, .int .i64 0]) (by simp [results, Tryz.results26, go_sem]) rfl ⟨rfl, ?_⟩
    exact ((Below.refl _ _).alloc (Nat.le_refl _) _).alloc (by simp) _

/-- what the reference says of a role -/
theorem qkind_any {w : World} (r : Int) : Calls Tryz.prog 26 #[.int .i64 r] w fun e w' => e = .returned (kval (ofD r)) ∧ Below w.heap.size w w' := by
  by_cases h : 1 ≤ r ∧ r < 19
  · obtain ⟨k, rfl⟩ := Int.eq_ofNat_of_zero_le (by omega : 0 ≤ r)
    have e : ofD (k : Int) = kt k := by unfold ofD; rw [if_pos (by omega), Int.toNat_natCast]
    rw [e]
    exact qkind_in k (by omega) (by omega)
  · have e : ofD r = k0 := by
      unfold ofD
      split
      · have : r = 0 := by omega
        rw [this]; rfl
      · rfl
    rw [e]
    exact qkind_out r h
end Go.Proofs.YtbinbojicmhdlaeGreatDoor.Kn

/-
  THE WALKS of the reference's Asked and Tag, and that they say what kinds.Find and kinds.Tag say.
-/
namespace Go.Proofs.YtbinbojicmhdlaeGreatDoor.Kn
open Go.RowKit Go.Maps

/-- the first role from k on, of n, that has this name -/
def askL (s : List UInt8) : Nat → Nat → Int
  | 0, _ => -1
  | n + 1, k => if k ≠ 10 ∧ (kt k).name = s then (k : Int) else askL s n (k + 1)
def askD (s : List UInt8) : Int := if s = [110, 111, 110, 101] ∨ s = [112, 114, 101, 115, 101, 110, 116, 97, 116, 105, 111, 110] then 0 else askL s 17 1

theorem ask_find (s : List UInt8) : findD s = askD s := by
  unfold findD askD
  have e : nmL 19 = [([110, 111, 110, 101], 0), ([112, 114, 101, 115, 101, 110, 116, 97, 116, 105, 111, 110], 0), ([103, 114, 111, 117, 112], 1), ([109, 97, 105, 110], 2), ([110, 97, 118, 105, 103, 97, 116, 105, 111, 110], 3), ([104, 101, 97, 100, 105, 110, 103], 4), ([108, 105, 115, 116], 5), ([108, 105, 115, 116, 105, 116, 101, 109], 6), ([108, 105, 110, 107], 7), ([98, 117, 116, 116, 111, 110], 8), ([99, 104, 101, 99, 107, 98, 111, 120], 9), ([105, 109, 103], 11), ([116, 101, 120, 116, 98, 111, 120], 12), ([116, 97, 98, 108, 101], 13), ([114, 111, 119], 14), ([99, 101, 108, 108], 15), ([114, 101, 103, 105, 111, 110], 16), ([100, 105, 97, 108, 111, 103], 17)] := by decide
  rw [e]
  by_cases h20 : s = [110, 111, 110, 101]
  · rw [h20]; decide
  by_cases h21 : s = [112, 114, 101, 115, 101, 110, 116, 97, 116, 105, 111, 110]
  · rw [h21]; decide
  by_cases h1 : s = [103, 114, 111, 117, 112]
  · rw [h1]; decide
  by_cases h2 : s = [109, 97, 105, 110]
  · rw [h2]; decide
  by_cases h3 : s = [110, 97, 118, 105, 103, 97, 116, 105, 111, 110]
  · rw [h3]; decide
  by_cases h4 : s = [104, 101, 97, 100, 105, 110, 103]
  · rw [h4]; decide
  by_cases h5 : s = [108, 105, 115, 116]
  · rw [h5]; decide
  by_cases h6 : s = [108, 105, 115, 116, 105, 116, 101, 109]
  · rw [h6]; decide
  by_cases h7 : s = [108, 105, 110, 107]
  · rw [h7]; decide
  by_cases h8 : s = [98, 117, 116, 116, 111, 110]
  · rw [h8]; decide
  by_cases h9 : s = [99, 104, 101, 99, 107, 98, 111, 120]
  · rw [h9]; decide
  by_cases h11 : s = [105, 109, 103]
  · rw [h11]; decide
  by_cases h12 : s = [116, 101, 120, 116, 98, 111, 120]
  · rw [h12]; decide
  by_cases h13 : s = [116, 97, 98, 108, 101]
  · rw [h13]; decide
  by_cases h14 : s = [114, 111, 119]
  · rw [h14]; decide
  by_cases h15 : s = [99, 101, 108, 108]
  · rw [h15]; decide
  by_cases h16 : s = [114, 101, 103, 105, 111, 110]
  · rw [h16]; decide
  by_cases h17 : s = [100, 105, 97, 108, 111, 103]
  · rw [h17]; decide
  rw [if_neg (by simp [h20, h21])]
  have a : ∀ k, 1 ≤ k → k < 18 → ¬ (k ≠ 10 ∧ (kt k).name = s) := by
    intro k k1 k2 hk
    obtain ⟨k3, k4⟩ := hk
    match k, k1, k2, k3, k4 with
    | 1, _, _, _, k4 => exact h1 k4.symm
    | 2, _, _, _, k4 => exact h2 k4.symm
    | 3, _, _, _, k4 => exact h3 k4.symm
    | 4, _, _, _, k4 => exact h4 k4.symm
    | 5, _, _, _, k4 => exact h5 k4.symm
    | 6, _, _, _, k4 => exact h6 k4.symm
    | 7, _, _, _, k4 => exact h7 k4.symm
    | 8, _, _, _, k4 => exact h8 k4.symm
    | 9, _, _, _, k4 => exact h9 k4.symm
    | 11, _, _, _, k4 => exact h11 k4.symm
    | 12, _, _, _, k4 => exact h12 k4.symm
    | 13, _, _, _, k4 => exact h13 k4.symm
    | 14, _, _, _, k4 => exact h14 k4.symm
    | 15, _, _, _, k4 => exact h15 k4.symm
    | 16, _, _, _, k4 => exact h16 k4.symm
    | 17, _, _, _, k4 => exact h17 k4.symm
    | 10, _, _, k3, _ => exact k3 rfl
    | k + 18, _, k2, _, _ => omega
  have b : ∀ n k, 1 ≤ k → k + n ≤ 18 → askL s n k = -1 := by
    intro n
    induction n with
    | zero => exact fun _ _ _ => rfl
    | succ n ih =>
      intro k k1 k2
      rw [askL, if_neg (a k k1 (by omega))]
      exact ih (k + 1) (by omega) (by omega)
  rw [b 17 1 (by omega) (by omega)]
  have c : lk [([110, 111, 110, 101], 0), ([112, 114, 101, 115, 101, 110, 116, 97, 116, 105, 111, 110], 0), ([103, 114, 111, 117, 112], 1), ([109, 97, 105, 110], 2), ([110, 97, 118, 105, 103, 97, 116, 105, 111, 110], 3), ([104, 101, 97, 100, 105, 110, 103], 4), ([108, 105, 115, 116], 5), ([108, 105, 115, 116, 105, 116, 101, 109], 6), ([108, 105, 110, 107], 7), ([98, 117, 116, 116, 111, 110], 8), ([99, 104, 101, 99, 107, 98, 111, 120], 9), ([105, 109, 103], 11), ([116, 101, 120, 116, 98, 111, 120], 12), ([116, 97, 98, 108, 101], 13), ([114, 111, 119], 14), ([99, 101, 108, 108], 15), ([114, 101, 103, 105, 111, 110], 16), ([100, 105, 97, 108, 111, 103], 17)] s = none := by
    unfold lk
    simp only [List.foldl_cons, List.foldl_nil]
    rw [if_neg (Ne.symm h17), if_neg (Ne.symm h16), if_neg (Ne.symm h15), if_neg (Ne.symm h14), if_neg (Ne.symm h13), if_neg (Ne.symm h12), if_neg (Ne.symm h11), if_neg (Ne.symm h9), if_neg (Ne.symm h8), if_neg (Ne.symm h7), if_neg (Ne.symm h6), if_neg (Ne.symm h5), if_neg (Ne.symm h4), if_neg (Ne.symm h3), if_neg (Ne.symm h2), if_neg (Ne.symm h1), if_neg (Ne.symm h21), if_neg (Ne.symm h20)]
  rw [c]

theorem tag_hit : ∀ j (h : j < 12), tagD (tagL[j]'h).1 = ((tagL[j]'h).2 : Int) := by decide
theorem tag_miss (s : List UInt8) (h : ∀ i (h : i < 12), (tagL[i]'h).1 ≠ s) : tagD s = 18 := by
  have c : lk tagL s = none := by
    unfold lk tagL
    simp only [List.foldl_cons, List.foldl_nil]
    rw [if_neg (show ¬ [100, 105, 97, 108, 111, 103] = s from h 11 (by decide)), if_neg (show ¬ [116, 100] = s from h 10 (by decide)), if_neg (show ¬ [116, 114] = s from h 9 (by decide)), if_neg (show ¬ [116, 97, 98, 108, 101] = s from h 8 (by decide)), if_neg (show ¬ [98, 117, 116, 116, 111, 110] = s from h 7 (by decide)), if_neg (show ¬ [108, 105] = s from h 6 (by decide)), if_neg (show ¬ [117, 108] = s from h 5 (by decide)), if_neg (show ¬ [104, 51] = s from h 4 (by decide)), if_neg (show ¬ [104, 50] = s from h 3 (by decide)), if_neg (show ¬ [104, 49] = s from h 2 (by decide)), if_neg (show ¬ [110, 97, 118] = s from h 1 (by decide)), if_neg (show ¬ [109, 97, 105, 110] = s from h 0 (by decide))]
  unfold tagD
  rw [c]

theorem askL_step (s : List UInt8) (k : Nat) (h : k < 18) : askL s (18 - k) k = if k ≠ 10 ∧ (kt k).name = s then (k : Int) else askL s (18 - (k + 1)) (k + 1) := by
  rw [show 18 - k = (18 - (k + 1)) + 1 by omega]
  rfl

set_option maxHeartbeats 800000 in
set_option maxRecDepth 100000 in
theorem qasked_any {w : World} (s : ByteArray) : Calls Tryz.prog 86 #[.string s] w fun e w' => e = .returned (.int .i64 (askD s.data.toList)) ∧ Below w.heap.size w w' := by
  rw [← ByteArray.toList_eq]
  by_cases h1 : s.toList = [110, 111, 110, 101]
  · have E : Hid (askD s.toList = 0) := by show _ = _; unfold askD; rw [if_pos (Or.inl h1)]
    go_enter Tryz.func86, Tryz.ntmps86
    go_wp2_with fail
    go_ret
    exact ⟨by rw [E.out]; rfl, Below.refl _ _⟩
  · by_cases h2 : s.toList = [112, 114, 101, 115, 101, 110, 116, 97, 116, 105, 111, 110]
    · have E : Hid (askD s.toList = 0) := by show _ = _; unfold askD; rw [if_pos (Or.inr h2)]
      go_enter Tryz.func86, Tryz.ntmps86
      go_wp2_with fail
      go_ret
      exact ⟨by rw [E.out]; rfl, Below.refl _ _⟩
    · have E : Hid (askD s.toList = askL s.toList (18 - 1) 1) := by show _ = _; unfold askD; rw [if_neg (by simp [h1, h2])]
      have g1 : (s.toList == [110, 111, 110, 101]) = false := by simpa using h1
      have g2 : (s.toList == [112, 114, 101, 115, 101, 110, 116, 97, 116, 105, 111, 110]) = false := by simpa using h2
      clear h1 h2
      go_enter Tryz.func86, Tryz.ntmps86
      go_wp2_with fail
      go_loopw [3] (fun i wr => ∃ k : Nat, 1 ≤ k ∧ k ≤ 18 ∧ i = .int .i64 k ∧ Hid (askD s.toList = askL s.toList (18 - k) k) ∧ Hid (Below w.heap.size w wr)) (fun i _ => 18 - (intOf i).toNat)
      case atStart => exact ⟨1, Nat.le_refl _, by omega, rfl, E, Below.refl _ _⟩
      case round =>
        obtain ⟨k, k1, k18, rfl, HE, HB⟩ := hrel
        by_cases hlt : k < 18
        · by_cases h10 : k = 10
          · subst h10
            have E' : Hid (askD s.toList = askL s.toList (18 - 11) 11) := by show _ = _; rw [HE.out, askL_step _ _ hlt, if_neg (by simp)]
            go_wp2_with fail
            go_roundw
            case rel => exact ⟨11, by omega, by omega, by go_num, E', HB⟩
            case measure => simp [intOf]
          · have k10 : ((k : Int) != 10) = true := by simp; omega
            have st := askL_step s.toList k hlt
            have HS : Hid (askD s.toList = if k ≠ 10 ∧ (kt k).name = s.toList then (k : Int) else askL s.toList (18 - (k + 1)) (k + 1)) := HE.out.trans st
            have e : ofD (k : Int) = kt k := by unfold ofD; rw [if_pos (by omega), Int.toNat_natCast]
            have HQ : Hid (Calls Tryz.prog 26 #[.int .i64 k] wr fun e w' => e = .returned (kval (kt k)) ∧ Below wr.heap.size wr w') := by
              have := qkind_any (w := wr) (k : Int)
              rw [e] at this
              exact this
            clear st e HE
            obtain ⟨nb, hnb⟩ : ∃ nb : ByteArray, nb = ⟨(kt k).name.toArray⟩ := ⟨_, rfl⟩
            have HN : Hid (nb.toList = (kt k).name) := by show _ = _; rw [ByteArray.toList_eq, hnb]
            have HQ' : Hid (Calls Tryz.prog 26 #[.int .i64 k] wr fun e w' => (∃ a1 a2 a3 a4 a5 a6, e = .returned (.agg #[.string nb, a1, a2, a3, a4, a5, a6])) ∧ Below wr.heap.size wr w') := by
              refine HQ.out.mono fun e w' ⟨he, hb⟩ => ⟨⟨.bool (kt k).content, .bool (kt k).leaf, .bool (kt k).level, .bool (kt k).checked, .bool (kt k).named, .int .i64 ((kt k).need : Int), ?_⟩, hb⟩
              rw [he, kval, hnb]
            clear HQ hnb
            cases hbb : (nb.toList == s.toList) with
            | true =>
              have E' : Hid (askD s.toList = (k : Int)) := by
                show _ = _
                rw [HS.out, if_pos ⟨h10, by rw [← HN.out]; simpa using hbb⟩]
              go_wp2_with fail
              refine HQ'.out.mono ?_
              rintro e w1 ⟨⟨a1, a2, a3, a4, a5, a6, rfl⟩, b1⟩
              have HB1 : Hid (Below w.heap.size w w1) := HB.out.trans (b1.mono HB.out.size)
              clear b1
              have hfn := field_name
              go_wp2_with fail
              go_ret
              exact ⟨by rw [E'.out]; rfl, HB1.out⟩
            | false =>
              have E' : Hid (askD s.toList = askL s.toList (18 - (k + 1)) (k + 1)) := by
                show _ = _
                rw [HS.out, if_neg (fun h => by rw [← HN.out] at h; simp [h.2] at hbb)]
              go_wp2_with fail
              refine HQ'.out.mono ?_
              rintro e w1 ⟨⟨a1, a2, a3, a4, a5, a6, rfl⟩, b1⟩
              have HB1 : Hid (Below w.heap.size w w1) := HB.out.trans (b1.mono HB.out.size)
              clear b1
              have hfn := field_name
              go_wp2_with fail
              go_roundw
              case rel => exact ⟨k + 1, by omega, by omega, by go_num, E', HB1⟩
              case measure => simp [intOf]; omega
        · have hk : k = 18 := by omega
          subst hk
          have E' : Hid (askD s.toList = -1) := HE.out
          go_wp2_with fail
          go_ret
          exact ⟨by rw [E'.out]; rfl, HB.out⟩

set_option maxHeartbeats 400000 in
set_option maxRecDepth 100000 in
theorem qtag_any {w : World} (s : ByteArray) : Calls Tryz.prog 88 #[.string s] w fun e w' => e = .returned (.int .i64 (tagD s.data.toList)) ∧ Below w.heap.size w w' := by
  rw [← ByteArray.toList_eq]
  go_enter Tryz.func88, Tryz.ntmps88
  go_wp2_with fail
  have bel : Hid (Below w.heap.size w ((w.alloc (.cells #[.string ⟨#[109, 97, 105, 110]⟩, .string ⟨#[110, 97, 118]⟩, .string ⟨#[104, 49]⟩, .string ⟨#[104, 50]⟩, .string ⟨#[104, 51]⟩, .string ⟨#[117, 108]⟩, .string ⟨#[108, 105]⟩, .string ⟨#[98, 117, 116, 116, 111, 110]⟩, .string ⟨#[116, 97, 98, 108, 101]⟩, .string ⟨#[116, 114]⟩, .string ⟨#[116, 100]⟩, .string ⟨#[100, 105, 97, 108, 111, 103]⟩] 9)).alloc (.cells #[.int .i64 2, .int .i64 3, .int .i64 4, .int .i64 4, .int .i64 4, .int .i64 5, .int .i64 6, .int .i64 8, .int .i64 13, .int .i64 14, .int .i64 15, .int .i64 17] 3))) := ((Below.refl _ _).alloc (Nat.le_refl _) _).alloc (by simp) _
  have T1 : Hid (Box ((w.alloc (.cells #[.string ⟨#[109, 97, 105, 110]⟩, .string ⟨#[110, 97, 118]⟩, .string ⟨#[104, 49]⟩, .string ⟨#[104, 50]⟩, .string ⟨#[104, 51]⟩, .string ⟨#[117, 108]⟩, .string ⟨#[108, 105]⟩, .string ⟨#[98, 117, 116, 116, 111, 110]⟩, .string ⟨#[116, 97, 98, 108, 101]⟩, .string ⟨#[116, 114]⟩, .string ⟨#[116, 100]⟩, .string ⟨#[100, 105, 97, 108, 111, 103]⟩] 9)).alloc (.cells #[.int .i64 2, .int .i64 3, .int .i64 4, .int .i64 4, .int .i64 4, .int .i64 5, .int .i64 6, .int .i64 8, .int .i64 13, .int .i64 14, .int .i64 15, .int .i64 17] 3)) w.heap.size (tagL.map fun p : List UInt8 × Nat => .string ⟨p.1.toArray⟩)) := (box_new w 9 (tagL.map fun p : List UInt8 × Nat => .string ⟨p.1.toArray⟩)).alloc _
  have T2 : Hid (Box ((w.alloc (.cells #[.string ⟨#[109, 97, 105, 110]⟩, .string ⟨#[110, 97, 118]⟩, .string ⟨#[104, 49]⟩, .string ⟨#[104, 50]⟩, .string ⟨#[104, 51]⟩, .string ⟨#[117, 108]⟩, .string ⟨#[108, 105]⟩, .string ⟨#[98, 117, 116, 116, 111, 110]⟩, .string ⟨#[116, 97, 98, 108, 101]⟩, .string ⟨#[116, 114]⟩, .string ⟨#[116, 100]⟩, .string ⟨#[100, 105, 97, 108, 111, 103]⟩] 9)).alloc (.cells #[.int .i64 2, .int .i64 3, .int .i64 4, .int .i64 4, .int .i64 4, .int .i64 5, .int .i64 6, .int .i64 8, .int .i64 13, .int .i64 14, .int .i64 15, .int .i64 17] 3)) (w.heap.size + 1) (tagL.map fun p : List UInt8 × Nat => .int .i64 (p.2 : Int))) := by
    show Box _ _ _
    have := box_new (w.alloc (.cells #[.string ⟨#[109, 97, 105, 110]⟩, .string ⟨#[110, 97, 118]⟩, .string ⟨#[104, 49]⟩, .string ⟨#[104, 50]⟩, .string ⟨#[104, 51]⟩, .string ⟨#[117, 108]⟩, .string ⟨#[108, 105]⟩, .string ⟨#[98, 117, 116, 116, 111, 110]⟩, .string ⟨#[116, 97, 98, 108, 101]⟩, .string ⟨#[116, 114]⟩, .string ⟨#[116, 100]⟩, .string ⟨#[100, 105, 97, 108, 111, 103]⟩] 9)) 3 (tagL.map fun p : List UInt8 × Nat => .int .i64 (p.2 : Int))
    rw [World.size_alloc] at this
    exact this
  generalize (w.alloc _).alloc _ = W at *
  go_loopw [11] (fun i wr => wr = W ∧ ∃ j : Nat, j ≤ 12 ∧ i = .int .i64 j ∧ Hid (∀ i (h : i < 12), i < j → (tagL[i]'h).1 ≠ s.toList)) (fun i _ => 12 - (intOf i).toNat)
  case atStart => exact ⟨rfl, 0, Nat.zero_le _, rfl, fun i _ h => by omega⟩
  case round =>
    obtain ⟨rfl, j, hj, rfl, hno⟩ := hrel
    by_cases hlt : j < 12
    · have hlt' : j < tagL.length := hlt
      obtain ⟨nb, hnb⟩ : ∃ nb : ByteArray, nb = ⟨(tagL[j]).1.toArray⟩ := ⟨_, rfl⟩
      have HN : Hid (nb.toList = (tagL[j]).1) := by show _ = _; rw [ByteArray.toList_eq, hnb]
      have c1 : wr.cell? ⟨w.heap.size, j, none⟩ = some (.string nb) := by
        have := (T1.out.2 j (.string ⟨(tagL[j]).1.toArray⟩) (by simp [hlt'])).1
        rw [this, hnb]
      have c2 : wr.cell? ⟨w.heap.size + 1, j, none⟩ = some (.int .i64 ((tagL[j]).2 : Int)) := (T2.out.2 j _ (by simp [hlt'])).1
      cases hbb : (nb.toList == s.toList) with
      | true =>
        have E' : Hid (tagD s.toList = ((tagL[j]).2 : Int)) := by
          show _ = _
          have : s.toList = (tagL[j]).1 := by rw [← HN.out]; simp at hbb; exact hbb.symm
          rw [this]
          exact tag_hit j hlt
        clear hnb
        generalize ((tagL[j]).2 : Int) = z at *
        go_wp2_with fail
        go_ret
        exact ⟨by rw [E'.out]; rfl, bel.out⟩
      | false =>
        have E' : Hid (∀ i (h : i < 12), i < j + 1 → (tagL[i]'h).1 ≠ s.toList) := by
          intro i h hi
          by_cases e : i = j
          · subst e
            intro h
            have h' : nb.toList = s.toList := HN.out.trans h
            simp [h'] at hbb
          · exact hno.out i h (by omega)
        clear hnb
        generalize ((tagL[j]).2 : Int) = z at *
        go_wp2_with fail
        go_roundw
        case rel => exact ⟨trivial, j + 1, by omega, by go_num, E'⟩
        case measure => simp [intOf]; omega
    · have E' : Hid (tagD s.toList = 18) := tag_miss _ (fun i h => hno.out i h (by omega))
      go_wp2_with fail
      go_ret
      exact ⟨by rw [E'.out]; rfl, bel.out⟩
end Go.Proofs.YtbinbojicmhdlaeGreatDoor.Kn

/-
  PLAIN MATHEMATICS: labels, roles, what is hidden.
-/
namespace Go.Proofs.YtbinbojicmhdlaeGreatDoor
open Tn

/-- an attribute, said -/
def saidN (d : Dc) (n : Int) (name : ByteArray) : ByteArray := Wd.sqz (valN d n name)

theorem said_size {d : Dc} (h : ∀ j, Vn (nd d j)) (n : Int) (name : ByteArray) : (saidN d n name).size ≤ 4194304 := by
  have h1 := val_size h n name
  have h2 := Wd.joined_len (valN d n name)
  have : (saidN d n name).size = (Tx.joined (Wd.toksOf (valN d n name))).length := rfl
  omega

def labD (d : Dc) (n : Int) : Bool := !(saidN d n ⟨#[97, 114, 105, 97, 45, 108, 97, 98, 101, 108]⟩).toList.isEmpty || !(saidN d n ⟨#[97, 114, 105, 97, 45, 108, 97, 98, 101, 108, 108, 101, 100, 98, 121]⟩).toList.isEmpty
def hasN (d : Dc) (n : Int) (name : ByteArray) : Bool := (attrN d n name).isSome
def lowS (s : ByteArray) : ByteArray := Tx.bs (Wd.lowL s.data.toList)

def wantL (lab : Bool) : List (List UInt8) → Int
  | [] => -1
  | t :: ts => if Kn.findD (Wd.lowL t) = 0 ∧ lab = true then -1 else if 0 ≤ Kn.findD (Wd.lowL t) then Kn.findD (Wd.lowL t) else wantL lab ts
def wantD (d : Dc) (n : Int) : Int := wantL (labD d n) (Wd.toksOf (valN d n ⟨#[114, 111, 108, 101]⟩))

def isA (s : ByteArray) (l : List UInt8) : Bool := s.toList == l
def natT (lab href chk alt0 title : Bool) (tag : ByteArray) : Int :=
  if isA tag [97] && href then 7
  else if isA tag [105, 110, 112, 117, 116] && chk then 9
  else if isA tag [105, 110, 112, 117, 116] then 12
  else if isA tag [105, 109, 103] && alt0 && !lab then 0
  else if isA tag [105, 109, 103] then 11
  else if isA tag [115, 101, 99, 116, 105, 111, 110] && (lab || title) then 16
  else Kn.tagD tag.data.toList
def natD (d : Dc) (n : Int) : Int :=
  natT (labD d n) (hasN d n ⟨#[104, 114, 101, 102]⟩) (isA (lowS (saidN d n ⟨#[116, 121, 112, 101]⟩)) [99, 104, 101, 99, 107, 98, 111, 120]) (hasN d n ⟨#[97, 108, 116]⟩ && (saidN d n ⟨#[97, 108, 116]⟩).toList.isEmpty) (!(saidN d n ⟨#[116, 105, 116, 108, 101]⟩).toList.isEmpty) (nd d n.toNat).tag

/-- the role by itself -/
def aloneD (d : Dc) (n : Int) : Int := if isN d n true then (if 0 ≤ wantD d n then wantD d n else natD d n) else 10
def needI (r : Int) : Int := ((Kn.ofD r).need : Int)
def fitD (r a : Int) : Int := if needI r ≠ 0 ∧ needI r ≠ a then 18 else r

def lineF : Nat → Dc → Int → List Nat
  | 0, _, _ => []
  | f + 1, d, n => if isN d n false then n.toNat :: lineF f d (upF d n) else []
def lineD (d : Dc) (n : Int) : List Nat := lineF 64 d n

def keepA (r a : Int) : Int := if r ≠ 0 ∧ r ≠ 18 then r else a
def roleL (d : Dc) : List Nat → Int × Int
  | [] => (0, 0)
  | k :: ks => (fitD (aloneD d (k : Int)) (roleL d ks).2, keepA (fitD (aloneD d (k : Int)) (roleL d ks).2) (roleL d ks).2)
def roleD (d : Dc) (n : Int) : Int := (roleL d (lineD d n)).1
def aroundD (d : Dc) (n : Int) : Int := (roleL d (lineD d n)).2

def concD (d : Dc) (n : Int) : Bool := hasN d n ⟨#[104, 105, 100, 100, 101, 110]⟩ || isA (lowS (saidN d n ⟨#[97, 114, 105, 97, 45, 104, 105, 100, 100, 101, 110]⟩)) [116, 114, 117, 101]
def hidL (d : Dc) (l : List Nat) : Bool := l.isEmpty || decide (l.getLast?.getD 0 ≠ 0) || l.any (fun k => concD d (k : Int))
def hidD (d : Dc) (n : Int) : Bool := hidL d (lineD d n)

theorem up_kid {d : Dc} {n : Int} {m : Nat} (h : upF d n = (m : Int)) : ∃ k : Nat, n = (k : Int) ∧ k ∈ kidsD d (m : Int) := by
  unfold upF at h
  split at h
  · rename_i hi
    obtain ⟨k, rfl, _, _⟩ := isN_nat hi
    rw [Int.toNat_natCast] at h
    split at h
    · rename_i hc
      exact ⟨k, rfl, by rw [← h]; simpa using hc⟩
    · split at h
      · rename_i hc
        exact ⟨k, rfl, by rw [← h]; simpa using hc⟩
      · omega
  · omega

theorem up_cases {d : Dc} (h : Fine d) (n : Int) : upF d n = -1 ∨ ∃ m k : Nat, upF d n = (m : Int) ∧ n = (k : Int) ∧ k ∈ kidsD d (m : Int) ∧ lvD d m = true ∧ posD d m < posD d k := by
  have h0 : upF d n = -1 ∨ 0 ≤ upF d n := by
    unfold upF
    split
    · split
      · rename_i hc
        right
        have hm : n.toNat ∈ kidsD d (nd d n.toNat).up := by simpa using hc
        obtain ⟨m, e, _⟩ := kid_nat hm
        omega
      · split
        · rename_i hc
          right
          have hm : n.toNat ∈ kidsD d (slotD d n) := by simpa using hc
          obtain ⟨m, e, _⟩ := kid_nat hm
          omega
        · left; rfl
    · left; rfl
  rcases h0 with h0 | h0
  · exact Or.inl h0
  · right
    obtain ⟨m, hm⟩ : ∃ m : Nat, upF d n = (m : Int) := ⟨(upF d n).toNat, by omega⟩
    obtain ⟨k, hk, hkm⟩ := up_kid hm
    exact ⟨m, k, hm, hk, hkm, (kid_par h hkm).1, kid_pos h hkm⟩

/-- more steps tell no more -/
theorem line_more {d : Dc} (h : Fine d) : ∀ (f g : Nat) (n : Int), (∀ k : Nat, n = (k : Int) → lvD d k = true → posD d k < f) → f ≤ g → lineF g d n = lineF f d n
  | 0, g, n, hf, _ => by
    have hi : isN d n false = false := by
      cases hi : isN d n false with
      | false => rfl
      | true =>
        obtain ⟨k, rfl, _, hl⟩ := isN_nat hi
        exact absurd (hf k rfl hl) (by omega)
    cases g with
    | zero => rfl
    | succ g => rw [lineF, lineF, hi]; rfl
  | f + 1, 0, n, _, hg => by omega
  | f + 1, g + 1, n, hf, hg => by
    rw [lineF, lineF]
    split
    · rename_i hi
      obtain ⟨k, rfl, _, hl⟩ := isN_nat hi
      have hp := hf k rfl hl
      congr 1
      refine line_more h f g _ ?_ (by omega)
      intro m hm _
      rcases up_cases h (k : Int) with e | ⟨m', k', e1, e2, _, _, e3⟩
      · omega
      · have : m = m' := by omega
        have : k = k' := by omega
        subst_vars
        omega
    · rfl

theorem pos_60 {d : Dc} (h : Fine d) {k : Nat} (hk : lvD d k = true) : posD d k < 60 := Nat.lt_of_lt_of_le (pos_lt h hk) (all_few h)

theorem line_eq {d : Dc} (h : Fine d) (n : Int) : lineD d n = if isN d n false then n.toNat :: lineD d (upF d n) else [] := by
  unfold lineD
  rw [lineF]
  split
  · rw [line_more h 63 64 (upF d n) (fun k _ hk => by have := pos_60 h hk; omega) (by omega)]
  · rfl

theorem line_nil {d : Dc} (h : Fine d) {n : Int} (hn : isN d n false = false) : lineD d n = [] := by rw [line_eq h, hn]; rfl
theorem line_cons {d : Dc} (h : Fine d) {k : Nat} (hk : isN d (k : Int) false = true) : lineD d (k : Int) = k :: lineD d (upF d (k : Int)) := by rw [line_eq h, hk, Int.toNat_natCast]; rfl

theorem role_nil {d : Dc} (h : Fine d) {n : Int} (hn : isN d n false = false) : roleD d n = 0 ∧ aroundD d n = 0 := by
  unfold roleD aroundD
  rw [line_nil h hn]
  exact ⟨rfl, rfl⟩
theorem role_cons {d : Dc} (h : Fine d) {k : Nat} (hk : isN d (k : Int) false = true) : roleD d (k : Int) = fitD (aloneD d (k : Int)) (aroundD d (upF d (k : Int))) ∧ aroundD d (k : Int) = keepA (roleD d (k : Int)) (aroundD d (upF d (k : Int))) := by
  unfold roleD aroundD
  rw [line_cons h hk]
  exact ⟨rfl, rfl⟩

theorem hid_nil {d : Dc} (h : Fine d) {n : Int} (hn : isN d n false = false) : hidD d n = true := by
  unfold hidD
  rw [line_nil h hn]
  rfl
theorem hid_cons {d : Dc} (h : Fine d) {k : Nat} (hk : isN d (k : Int) false = true) : hidD d (k : Int) = (concD d (k : Int) || (decide (k ≠ 0) && (decide (upF d (k : Int) < 0) || hidD d (upF d (k : Int))))) := by
  unfold hidD
  rw [line_cons h hk]
  rcases up_cases h (k : Int) with e | ⟨m, k', e1, e2, e3, e4, _⟩
  · have hno : isN d (-1) false = false := by unfold isN; simp
    rw [e, line_nil h hno]
    unfold hidL
    by_cases h0 : k = 0 <;> simp [h0, Bool.or_comm]
  · have hkk : k = k' := by omega
    subst hkk
    have hm : isN d (m : Int) false = true := by rw [isN_iff]; exact e4
    have h0 : k ≠ 0 := by
      have := (kid_par h e3).2.2.1
      omega
    rw [e1, line_cons h hm]
    unfold hidL
    have hx : ¬ ((m : Int) < 0) := by omega
    simp [h0, hx]
    rw [Bool.or_left_comm]

theorem need_text : needI 10 = 0 := by decide
theorem alone_text {d : Dc} {n : Int} (h : isN d n true = false) : aloneD d n = 10 := by unfold aloneD; rw [h]; rfl
theorem fit_zero {r a : Int} (h : needI r = 0) : fitD r a = r := by unfold fitD; rw [if_neg (by simp [h])]
theorem fit_yes {r a : Int} (h : needI r = a) : fitD r a = r := by unfold fitD; rw [if_neg (by simp [h])]
theorem fit_no {r a : Int} (h : needI r ≠ 0) (h2 : needI r ≠ a) : fitD r a = 18 := by unfold fitD; rw [if_pos ⟨h, h2⟩]
end Go.Proofs.YtbinbojicmhdlaeGreatDoor
