/-
  THE WALKS of the reference's Blank and Tokens.
-/
import Derived.Test.YteapdajkacgeiaaTok
namespace Go.Proofs.Yteapdajkacgeiaa
open Go.RowKit

set_option maxHeartbeats 400000 in
theorem rblank_any (c : UInt8) (w : World) : Calls Try.prog 17 #[.int .u8 (c.toNat : Int)] w fun e w' => e = .returned (.bool (Tx.blank c)) ∧ w' = w := by
  have e : Tx.blank c = ((c.toNat : Int) == 32 || (c.toNat : Int) == 9 || (c.toNat : Int) == 10 || (c.toNat : Int) == 13) := by
    unfold Tx.blank
    rw [Bool.eq_iff_iff]
    simp [← UInt8.toNat_inj]
    omega
  go_enter Try.func17, Try.ntmps17
  go_wp2
  all_goals (go_ret; exact ⟨by rw [e]; simp [*], rfl⟩)

theorem cur_no (s : ByteArray) (k : Nat) (h : k < s.size) (hb : Tx.blank s[k] = false) : Tx.bs (curAt s k) ++ s.extract k (k + 1) = Tx.bs (curAt s (k + 1)) := by
  have e : curAt s (k + 1) = curAt s k ++ [s[k]] := by
    unfold curAt
    rw [take_snoc s k h, Tx.scan_snoc]
    unfold Tx.step
    rw [if_neg (by simp [hb])]
  rw [e, Lib.extract_eq]
  have e2 : (s.data.toList.drop k).take (k + 1 - k) = [s[k]] := by
    rw [Nat.add_sub_cancel_left, ← List.getElem_cons_drop (by rw [← Lib.size_eq]; exact h)]
    rfl
  rw [e2]
  unfold Tx.bs
  apply ByteArray.ext
  rw [ByteArray.data_append]
  simp
theorem cur_yes (s : ByteArray) (k : Nat) (h : k < s.size) (hb : Tx.blank s[k] = true) : curAt s (k + 1) = [] := by
  unfold curAt
  rw [take_snoc s k h, Tx.scan_snoc]
  unfold Tx.step
  rw [if_pos hb]
theorem bs_size (l : List UInt8) : (Tx.bs l).size = l.length := rfl
theorem bs_toList (l : List UInt8) : (Tx.bs l).toList = l := by
  rw [Lib.toList_data]
  rfl
theorem cur_empty (s : ByteArray) (k : Nat) (hk : k ≤ s.size) (hs : ¬ startAt s k < k) : (Tx.bs (curAt s k)).toList.isEmpty = true := by
  have hl := cur_len s k hk
  rw [bs_toList]
  cases hc : curAt s k with
  | nil => rfl
  | cons x r => unfold startAt at hs; rw [hc] at hs hl; simp at hs hl; omega
theorem cur_some (s : ByteArray) (k : Nat) (hs : startAt s k < k) : (Tx.bs (curAt s k)).toList.isEmpty = false := by
  rw [bs_toList]
  cases hc : curAt s k with
  | nil => unfold startAt at hs; rw [hc] at hs; simp at hs
  | cons x r => rfl

set_option maxHeartbeats 800000 in
set_option maxRecDepth 100000 in
theorem rtokens_own (s : ByteArray) (w : World) (hs : s.size ≤ 4194304) : Calls Try.prog 7 #[.string s] w fun e w' =>
    ∃ v, e = .returned v ∧ w'.ownsRow w.heap.size 9 1 v (toksOf s).length ((toksOf s).map tv) ∧ Below w.heap.size w w' ∧ (toksOf s = [] → v = .slice none 0 0) := by
  obtain ⟨i0, hi, hz0, hz1, hz2⟩ := info_parts info9
  go_enter Try.func7, Try.ntmps7
  go_wp2
  go_loopw [3, 4, 8] (fun v st i wr => ∃ k : Nat, k ≤ s.size ∧ i = .int .i64 k ∧ st = .string (Tx.bs (curAt s k)) ∧ wr.ownsRow w.heap.size 9 1 v (doneAt s k).length ((doneAt s k).map tv) ∧
      Below w.heap.size w wr ∧ (doneAt s k = [] → v = .slice none 0 0))
    (fun _ _ i _ => s.size - (intOf i).toNat)
  case atStart => exact ⟨0, Nat.zero_le _, rfl, rfl, World.ownsRow_nil _ _ _ _, Below.refl _ _, fun _ => rfl⟩
  case round =>
    obtain ⟨k, hk, rfl, rfl, hown, hnx, hnil⟩ := hrel
    have hdl := done_len s k hk
    have hbz := hnx.size
    have hcl : (Tx.bs (curAt s k)).size ≤ k := cur_len s k hk
    by_cases hlt : k < s.size
    · cases hb : Tx.blank s[k] with
      | false =>
        have E : Hid (doneAt s (k + 1) = doneAt s k ∧ Tx.bs (curAt s k) ++ s.extract k (k + 1) = Tx.bs (curAt s (k + 1))) := ⟨(step_no s k hlt hb).1, cur_no s k hlt hb⟩
        go_wp2_with (go_at_call 17; refine (rblank_any _ _).mono ?_; rintro e w' ⟨rfl, hww⟩; subst hww)
        go_roundw
        case rel => exact ⟨k + 1, by omega, by go_num, by rw [E.out.2], by rw [E.out.1]; exact hown, hnx, by rw [E.out.1]; exact hnil⟩
        case measure => simp [intOf]; omega
      | true =>
        by_cases hsk : startAt s k < k
        · have E : Hid (doneAt s (k + 1) = doneAt s k ++ [curAt s k] ∧ curAt s (k + 1) = []) := ⟨(step_yes s k hlt hb hsk).1, cur_yes s k hlt hb⟩
          have hem := cur_some s k hsk
          clear hsk
          go_wp2_with (first
            | (go_at_call 17; refine (rblank_any _ _).mono ?_; rintro e w' ⟨rfl, hww⟩; subst hww)
            | (at_builtin; refine wpList_append_own _ rfl _ _ 22 rfl w.heap.size 9 i0 (.string ⟨#[]⟩) 1 16 Try.underlying22 hi hz0 hz1 hz2 rfl (by decide) _ _ _ rfl (hown.alloc _) ⟨_, 0, none⟩ 1 1 [.string (Tx.bs (curAt s k))] rfl rfl ?c1 ?c2 ?c3 ?c4 ?c5 ?_))
          case c1 => exact cell_one_new _ _ _
          case c2 => intro u hu; simp at hu; subst hu; rfl
          case c3 => unfold maxLen; omega
          case c4 => omega
          case c5 => simp; omega
          intro v' w1 hown' hgrow _
          have R := rel_app hbz hown hnx hown' hgrow
          clear hown' hgrow hown hnx
          go_wp2
          go_roundw
          case rel => exact ⟨k + 1, by omega, by go_num, by rw [E.out.2]; rfl, by rw [E.out.1]; exact R.1, R.2, fun h => absurd h (by rw [E.out.1]; simp)⟩
          case measure => simp [intOf]; omega
        · have E : Hid (doneAt s (k + 1) = doneAt s k ∧ curAt s (k + 1) = []) := ⟨(step_idle s k hlt hb hsk).1, cur_yes s k hlt hb⟩
          have hem := cur_empty s k hk hsk
          clear hsk
          go_wp2_with (go_at_call 17; refine (rblank_any _ _).mono ?_; rintro e w' ⟨rfl, hww⟩; subst hww)
          go_roundw
          case rel => exact ⟨k + 1, by omega, by go_num, by rw [E.out.2]; rfl, by rw [E.out.1]; exact hown, hnx, by rw [E.out.1]; exact hnil⟩
          case measure => simp [intOf]; omega
    · obtain rfl : k = s.size := by omega
      by_cases hsk : startAt s s.size < s.size
      · have E : Hid (toksOf s = doneAt s s.size ++ [curAt s s.size]) := end_more s hsk
        have hem := cur_some s s.size hsk
        clear hsk
        go_wp2_with (at_builtin; refine wpList_append_own _ rfl _ _ 22 rfl w.heap.size 9 i0 (.string ⟨#[]⟩) 1 16 Try.underlying22 hi hz0 hz1 hz2 rfl (by decide) _ _ _ rfl (hown.alloc _) ⟨_, 0, none⟩ 1 1 [.string (Tx.bs (curAt s s.size))] rfl rfl ?d1 ?d2 ?d3 ?d4 ?d5 ?_)
        case d1 => exact cell_one_new _ _ _
        case d2 => intro u hu; simp at hu; subst hu; rfl
        case d3 => unfold maxLen; omega
        case d4 => omega
        case d5 => simp; omega
        intro v' w1 hown' hgrow _
        have R := rel_app hbz hown hnx hown' hgrow
        clear hown' hgrow hown hnx
        go_wp2
        go_ret
        exact ⟨_, rfl, by rw [E.out]; exact R.1, R.2, fun h => absurd h (by rw [E.out]; simp)⟩
      · have E : Hid (toksOf s = doneAt s s.size) := end_none s hsk
        have hem := cur_empty s s.size hk hsk
        clear hsk
        go_wp2
        go_ret
        exact ⟨_, rfl, by rw [E.out]; exact hown, hnx, by rw [E.out]; exact hnil⟩

end Go.Proofs.Yteapdajkacgeiaa
