/-
  THE WALKS of words.Blank and words.Tokens: what the calls do to the world.
-/
import Derived.Test.YteapdajkacgeiaaText
import Derived.Test.YteapdajkacgeiaaProg
import Derived.WalkKit
import Derived.WalkSpells
import Derived.WalkLawsBesides
namespace Go.Proofs.Yteapdajkacgeiaa
open Go.RowKit

theorem info9 : (Try.prog.info? 9).map (fun i => (i.zero, i.size, i.bytes)) = some (some (.string ⟨#[]⟩), 1, 16) := by kernel_rfl

set_option maxHeartbeats 400000 in
theorem blank_any (c : UInt8) (w : World) : Calls Try.prog 16 #[.int .u8 (c.toNat : Int)] w fun e w' => e = .returned (.bool (Tx.blank c)) ∧ w' = w := by
  have e : Tx.blank c = ((c.toNat : Int) == 32 || (c.toNat : Int) == 9 || (c.toNat : Int) == 10 || (c.toNat : Int) == 13) := by
    unfold Tx.blank
    rw [Bool.eq_iff_iff]
    simp [← UInt8.toNat_inj]
    omega
  go_enter Try.func16, Try.ntmps16
  go_wp2
  all_goals (go_ret; exact ⟨by rw [e]; simp [*], rfl⟩)


/-- how far the scan has come behind the first k bytes: the tokens, what of the next one is there, where that begins -/
def doneAt (s : ByteArray) (k : Nat) : List (List UInt8) := (Tx.scan (s.data.toList.take k)).1
def curAt (s : ByteArray) (k : Nat) : List UInt8 := (Tx.scan (s.data.toList.take k)).2
def startAt (s : ByteArray) (k : Nat) : Nat := k - (curAt s k).length
def tv (t : List UInt8) : Value := .string (Tx.bs t)
def toksOf (s : ByteArray) : List (List UInt8) := Tx.toks s.data.toList

theorem take_snoc (s : ByteArray) (k : Nat) (h : k < s.size) : s.data.toList.take (k + 1) = s.data.toList.take k ++ [s[k]] := by
  rw [List.take_succ_eq_append_getElem (by simpa using h)]; rfl
theorem take_len (s : ByteArray) (k : Nat) (h : k ≤ s.size) : (s.data.toList.take k).length = k := by
  rw [List.length_take, ← Lib.size_eq]; omega
theorem start_le (s : ByteArray) (k : Nat) : startAt s k ≤ k := Nat.sub_le _ _
theorem cur_len (s : ByteArray) (k : Nat) (h : k ≤ s.size) : (curAt s k).length ≤ k := by
  have := Tx.cur_le (s.data.toList.take k)
  rw [take_len s k h] at this
  exact this
theorem cur_bytes (s : ByteArray) (k : Nat) (h : k ≤ s.size) : s.extract (startAt s k) k = Tx.bs (curAt s k) := by
  rw [Lib.extract_eq]
  have e := Tx.cur_drop (s.data.toList.take k)
  rw [take_len s k h] at e
  unfold Tx.bs
  have e2 : curAt s k = (s.data.toList.take k).drop (startAt s k) := e
  rw [e2, List.drop_take]
theorem step_no (s : ByteArray) (k : Nat) (h : k < s.size) (hb : Tx.blank s[k] = false) : doneAt s (k + 1) = doneAt s k ∧ startAt s (k + 1) = startAt s k := by
  have hl := cur_len s k (by omega)
  unfold startAt doneAt curAt at *
  rw [take_snoc s k h, Tx.scan_snoc]
  unfold Tx.step
  rw [if_neg (by simp [hb])]
  refine ⟨rfl, ?_⟩
  simp only [List.length_append, List.length_cons, List.length_nil]
  omega
theorem step_yes (s : ByteArray) (k : Nat) (h : k < s.size) (hb : Tx.blank s[k] = true) (hs : startAt s k < k) : doneAt s (k + 1) = doneAt s k ++ [curAt s k] ∧ startAt s (k + 1) = k + 1 := by
  have hne : (curAt s k).isEmpty = false := by
    cases hc : curAt s k with
    | nil => unfold startAt at hs; rw [hc] at hs; simp at hs
    | cons x r => rfl
  unfold startAt doneAt curAt at *
  rw [take_snoc s k h, Tx.scan_snoc]
  unfold Tx.step
  rw [if_pos hb]
  refine ⟨?_, by simp⟩
  unfold Tx.fin
  simp only [hne]
  rfl
theorem step_idle (s : ByteArray) (k : Nat) (h : k < s.size) (hb : Tx.blank s[k] = true) (hs : ¬ startAt s k < k) : doneAt s (k + 1) = doneAt s k ∧ startAt s (k + 1) = k + 1 := by
  have hl := cur_len s k (by omega)
  have hne : (curAt s k).isEmpty = true := by
    cases hc : curAt s k with
    | nil => rfl
    | cons x r => unfold startAt at hs; rw [hc] at hs hl; simp at hs hl; omega
  unfold startAt doneAt curAt at *
  rw [take_snoc s k h, Tx.scan_snoc]
  unfold Tx.step
  rw [if_pos hb]
  refine ⟨?_, by simp⟩
  unfold Tx.fin
  simp only [hne]
  rfl
theorem take_all (s : ByteArray) : s.data.toList.take s.size = s.data.toList := List.take_of_length_le (by rw [← Lib.size_eq]; exact Nat.le_refl _)
theorem end_more (s : ByteArray) (hs : startAt s s.size < s.size) : toksOf s = doneAt s s.size ++ [curAt s s.size] := by
  have hne : (curAt s s.size).isEmpty = false := by
    cases hc : curAt s s.size with
    | nil => unfold startAt at hs; rw [hc] at hs; simp at hs
    | cons x r => rfl
  unfold toksOf Tx.toks doneAt curAt at *
  rw [take_all] at *
  unfold Tx.fin
  simp only [hne]
  rfl
theorem end_none (s : ByteArray) (hs : ¬ startAt s s.size < s.size) : toksOf s = doneAt s s.size := by
  have hl := cur_len s s.size (Nat.le_refl _)
  have hne : (curAt s s.size).isEmpty = true := by
    cases hc : curAt s s.size with
    | nil => rfl
    | cons x r => unfold startAt at hs; rw [hc] at hs hl; simp at hs hl; omega
  unfold toksOf Tx.toks doneAt curAt at *
  rw [take_all] at *
  unfold Tx.fin
  simp only [hne]
  rfl
theorem done_len (s : ByteArray) (k : Nat) (h : k ≤ s.size) : (doneAt s k).length ≤ k := by
  have := Tx.toks_len (s.data.toList.take k)
  rw [take_len s k h] at this
  unfold Tx.toks at this
  rw [Tx.fin_len] at this
  unfold doneAt
  omega

/-- what an append of one token leaves -/
theorem rel_app {B : Nat} {w wr w1 : World} {v v' : Value} {o : Obj} {ts : List (List UInt8)} {t : List UInt8} (hB : B ≤ wr.heap.size)
    (hown : wr.ownsRow B 9 1 v ts.length (ts.map tv)) (hnx : Below B w wr)
    (hown' : w1.ownsRow B 9 1 v' (ts.length + 1) (ts.map tv ++ [tv t])) (hgrow : (wr.alloc o).grownBy w1 v.ownBlock) :
    w1.ownsRow B 9 1 v' (ts ++ [t]).length ((ts ++ [t]).map tv) ∧ Below B w w1 :=
  ⟨by simpa using hown', (hnx.alloc hB o).grown hgrow (by simp; omega) (fun j hj => (hown.lt j hj).1)⟩

set_option maxHeartbeats 800000 in
set_option maxRecDepth 100000 in
theorem tokens_own (s : ByteArray) (w : World) (hs : s.size ≤ 4194304) : Calls Try.prog 6 #[.string s] w fun e w' =>
    ∃ v, e = .returned v ∧ w'.ownsRow w.heap.size 9 1 v (toksOf s).length ((toksOf s).map tv) ∧ Below w.heap.size w w' ∧ (toksOf s = [] → v = .slice none 0 0) := by
  obtain ⟨i0, hi, hz0, hz1, hz2⟩ := info_parts info9
  go_enter Try.func6, Try.ntmps6
  go_wp2
  go_loopw [3, 4, 8] (fun v st i wr => ∃ k : Nat, k ≤ s.size ∧ i = .int .i64 k ∧ st = .int .i64 (startAt s k) ∧ wr.ownsRow w.heap.size 9 1 v (doneAt s k).length ((doneAt s k).map tv) ∧
      Below w.heap.size w wr ∧ (doneAt s k = [] → v = .slice none 0 0))
    (fun _ _ i _ => s.size - (intOf i).toNat)
  case atStart => exact ⟨0, Nat.zero_le _, rfl, rfl, World.ownsRow_nil _ _ _ _, Below.refl _ _, fun _ => rfl⟩
  case round =>
    obtain ⟨k, hk, rfl, rfl, hown, hnx, hnil⟩ := hrel
    have hst := start_le s k
    have hdl := done_len s k hk
    have hbz := hnx.size
    by_cases hlt : k < s.size
    · cases hb : Tx.blank s[k] with
      | false =>
        obtain ⟨e1, e2⟩ := step_no s k hlt hb
        have E : Hid (doneAt s (k + 1) = doneAt s k ∧ startAt s (k + 1) = startAt s k) := ⟨e1, e2⟩
        clear e1 e2
        go_wp2_with (go_at_call 16; refine (blank_any _ _).mono ?_; rintro e w' ⟨rfl, rfl⟩)
        go_roundw
        case rel => exact ⟨k + 1, by omega, by go_num, by rw [E.out.2], by rw [E.out.1]; exact hown, hnx, by rw [E.out.1]; exact hnil⟩
        case measure => simp [intOf]; omega
      | true =>
        by_cases hsk : startAt s k < k
        · have E : Hid (doneAt s (k + 1) = doneAt s k ++ [curAt s k] ∧ startAt s (k + 1) = k + 1) := step_yes s k hlt hb hsk
          have C : Hid (s.extract (startAt s k) k = Tx.bs (curAt s k)) := cur_bytes s k hk
          go_wp2_with (first
            | (go_at_call 16; refine (blank_any _ _).mono ?_; rintro e w' ⟨rfl, hww⟩; subst hww)
            | (at_builtin; refine wpList_append_own _ rfl _ _ 22 rfl w.heap.size 9 i0 (.string ⟨#[]⟩) 1 16 Try.underlying22 hi hz0 hz1 hz2 rfl (by decide) _ _ _ rfl (hown.alloc _) ⟨_, 0, none⟩ 1 1 [.string (s.extract (startAt s k) k)] rfl rfl ?c1 ?c2 ?c3 ?c4 ?c5 ?_))
          case c1 => exact cell_one_new _ _ _
          case c2 => intro u hu; simp at hu; subst hu; rfl
          case c3 => unfold maxLen; omega
          case c4 => omega
          case c5 => simp; omega
          intro v' w1 hown' hgrow _
          rw [C.out] at hown'
          have R := rel_app hbz hown hnx hown' hgrow
          clear hown' hgrow hown hnx
          go_wp2
          go_roundw
          case rel => exact ⟨k + 1, by omega, by go_num, by rw [E.out.2]; go_num, by rw [E.out.1]; exact R.1, R.2, fun h => absurd h (by rw [E.out.1]; simp)⟩
          case measure => simp [intOf]; omega
        · have E : Hid (doneAt s (k + 1) = doneAt s k ∧ startAt s (k + 1) = k + 1) := step_idle s k hlt hb hsk
          go_wp2_with (go_at_call 16; refine (blank_any _ _).mono ?_; rintro e w' ⟨rfl, hww⟩; subst hww)
          go_roundw
          case rel => exact ⟨k + 1, by omega, by go_num, by rw [E.out.2]; go_num, by rw [E.out.1]; exact hown, hnx, by rw [E.out.1]; exact hnil⟩
          case measure => simp [intOf]; omega
    · obtain rfl : k = s.size := by omega
      by_cases hsk : startAt s s.size < s.size
      · have E : Hid (toksOf s = doneAt s s.size ++ [curAt s s.size]) := end_more s hsk
        have C : Hid (s.extract (startAt s s.size) s.size = Tx.bs (curAt s s.size)) := cur_bytes s s.size hk
        go_wp2_with (at_builtin; refine wpList_append_own _ rfl _ _ 22 rfl w.heap.size 9 i0 (.string ⟨#[]⟩) 1 16 Try.underlying22 hi hz0 hz1 hz2 rfl (by decide) _ _ _ rfl (hown.alloc _) ⟨_, 0, none⟩ 1 1 [.string (s.extract (startAt s s.size) s.size)] rfl rfl ?d1 ?d2 ?d3 ?d4 ?d5 ?_)
        case d1 => exact cell_one_new _ _ _
        case d2 => intro u hu; simp at hu; subst hu; rfl
        case d3 => unfold maxLen; omega
        case d4 => omega
        case d5 => simp; omega
        intro v' w1 hown' hgrow _
        rw [C.out] at hown'
        have R := rel_app hbz hown hnx hown' hgrow
        clear hown' hgrow hown hnx
        go_wp2
        go_ret
        exact ⟨_, rfl, by rw [E.out]; exact R.1, R.2, fun h => absurd h (by rw [E.out]; simp)⟩
      · have E : Hid (toksOf s = doneAt s s.size) := end_none s hsk
        go_wp2
        go_ret
        exact ⟨_, rfl, by rw [E.out]; exact hown, hnx, by rw [E.out]; exact hnil⟩

end Go.Proofs.Yteapdajkacgeiaa
