/-
  OWN WORK: Wrt, Vcm, Fal, Vcn.
-/
import Derived.Test.YtdjghddcpfikhacP6
import Derived.Test.YtdjghddcpfikhacP8
/-
  THE WALKS of the reference's Blank and Tokens.
-/
namespace Go.Proofs.Ytdjghddcpfikhac.Wd
open Go.RowKit

set_option maxHeartbeats 400000 in
theorem rblank_any (c : UInt8) (w : World) : Calls Try.prog 45 #[.int .u8 (c.toNat : Int)] w fun e w' => e = .returned (.bool (Tx.blank c)) ∧ w' = w := by
  have e : Tx.blank c = ((c.toNat : Int) == 32 || (c.toNat : Int) == 9 || (c.toNat : Int) == 10 || (c.toNat : Int) == 13) := by
    unfold Tx.blank
    rw [Bool.eq_iff_iff]
    simp [← UInt8.toNat_inj]
    omega
  go_enter Try.func45, Try.ntmps45
  go_wp2
  all_goals (go_ret; exact ⟨by rw [e]; simp [*], rfl⟩)

theorem cur_no (s : ByteArray) (k : Nat) (h : k < s.size) (hb : Tx.blank s[k] = false) : Tx.bs (curAt s k) ++ s.extract k (k + 1) = Tx.bs (curAt s (k + 1)) := by
  have e : curAt s (k + 1) = curAt s k ++ [s[k]] := by
    unfold curAt
    rw [take_snoc s k h, Tx.scan_snoc]
    unfold Tx.step
    rw [if_neg (by simp [hb])]
  rw [e, Lib.extract_eq]
  have e2 : (s.data.toList.drop k).take (k + 1 - k) = [s[k]] := by
    rw [Nat.add_sub_cancel_left, ← List.getElem_cons_drop (by rw [← Lib.size_eq]; exact h)]
    rfl
  rw [e2]
  unfold Tx.bs
  apply ByteArray.ext
  rw [ByteArray.data_append]
  simp
theorem cur_yes (s : ByteArray) (k : Nat) (h : k < s.size) (hb : Tx.blank s[k] = true) : curAt s (k + 1) = [] := by
  unfold curAt
  rw [take_snoc s k h, Tx.scan_snoc]
  unfold Tx.step
  rw [if_pos hb]
theorem bs_size (l : List UInt8) : (Tx.bs l).size = l.length := rfl
theorem bs_toList (l : List UInt8) : (Tx.bs l).toList = l := by
  rw [Lib.toList_data]
  rfl
theorem cur_empty (s : ByteArray) (k : Nat) (hk : k ≤ s.size) (hs : ¬ startAt s k < k) : (Tx.bs (curAt s k)).toList.isEmpty = true := by
  have hl := cur_len s k hk
  rw [bs_toList]
  cases hc : curAt s k with
  | nil => rfl
  | cons x r => unfold startAt at hs; rw [hc] at hs hl; simp at hs hl; omega
theorem cur_some (s : ByteArray) (k : Nat) (hs : startAt s k < k) : (Tx.bs (curAt s k)).toList.isEmpty = false := by
  rw [bs_toList]
  cases hc : curAt s k with
  | nil => unfold startAt at hs; rw [hc] at hs; simp at hs
  | cons x r => rfl

set_option maxHeartbeats 800000 in
set_option maxRecDepth 100000 in
theorem rtokens_own (s : ByteArray) (w : World) (hs : s.size ≤ 4194304) : Calls Try.prog 23 #[.string s] w fun e w' =>
    ∃ v, e = .returned v ∧ w'.ownsRow w.heap.size 9 1 v (toksOf s).length ((toksOf s).map tv) ∧ Below w.heap.size w w' ∧ (toksOf s = [] → v = .slice none 0 0) := by
  obtain ⟨i0, hi, hz0, hz1, hz2⟩ := info_parts info9
  go_enter Try.func23, Try.ntmps23
  go_wp2
  go_loopw [3, 4, 8] (fun v st i wr => ∃ k : Nat, k ≤ s.size ∧ i = .int .i64 k ∧ st = .string (Tx.bs (curAt s k)) ∧ wr.ownsRow w.heap.size 9 1 v (doneAt s k).length ((doneAt s k).map tv) ∧
      Below w.heap.size w wr ∧ (doneAt s k = [] → v = .slice none 0 0))
    (fun _ _ i _ => s.size - (intOf i).toNat)
  case atStart => exact ⟨0, Nat.zero_le _, rfl, rfl, World.ownsRow_nil _ _ _ _, Below.refl _ _, fun _ => rfl⟩
  case round =>
    obtain ⟨k, hk, rfl, rfl, hown, hnx, hnil⟩ := hrel
    have hdl := done_len s k hk
    have hbz := hnx.size
    have hcl : (Tx.bs (curAt s k)).size ≤ k := cur_len s k hk
    by_cases hlt : k < s.size
    · cases hb : Tx.blank s[k] with
      | false =>
        have E : Hid (doneAt s (k + 1) = doneAt s k ∧ Tx.bs (curAt s k) ++ s.extract k (k + 1) = Tx.bs (curAt s (k + 1))) := ⟨(step_no s k hlt hb).1, cur_no s k hlt hb⟩
        go_wp2_with (go_at_call 45; refine (rblank_any _ _).mono ?_; rintro e w' ⟨rfl, hww⟩; subst hww)
        go_roundw
        case rel => exact ⟨k + 1, by omega, by go_num, by rw [E.out.2], by rw [E.out.1]; exact hown, hnx, by rw [E.out.1]; exact hnil⟩
        case measure => simp [intOf]; omega
      | true =>
        by_cases hsk : startAt s k < k
        · have E : Hid (doneAt s (k + 1) = doneAt s k ++ [curAt s k] ∧ curAt s (k + 1) = []) := ⟨(step_yes s k hlt hb hsk).1, cur_yes s k hlt hb⟩
          have hem := cur_some s k hsk
          clear hsk
          go_wp2_with (first
            | (go_at_call 45; refine (rblank_any _ _).mono ?_; rintro e w' ⟨rfl, hww⟩; subst hww)
            | (at_builtin; refine wpList_append_own _ rfl _ _ 47 rfl w.heap.size 9 i0 (.string ⟨#[]⟩) 1 16 Try.underlying47 hi hz0 hz1 hz2 rfl (by decide) _ _ _ rfl (hown.alloc _) ⟨_, 0, none⟩ 1 1 [.string (Tx.bs (curAt s k))] rfl rfl ?c1 ?c2 ?c3 ?c4 ?c5 ?_))
          case c1 => exact cell_one_new _ _ _
          case c2 => intro u hu; simp at hu; subst hu; rfl
          case c3 => unfold maxLen; omega
          case c4 => omega
          case c5 => simp; omega
          intro v' w1 hown' hgrow _
          have R := rel_app hbz hown hnx hown' hgrow
          clear hown' hgrow hown hnx
          go_wp2
          go_roundw
          case rel => exact ⟨k + 1, by omega, by go_num, by rw [E.out.2]; rfl, by rw [E.out.1]; exact R.1, R.2, fun h => absurd h (by rw [E.out.1]; simp)⟩
          case measure => simp [intOf]; omega
        · have E : Hid (doneAt s (k + 1) = doneAt s k ∧ curAt s (k + 1) = []) := ⟨(step_idle s k hlt hb hsk).1, cur_yes s k hlt hb⟩
          have hem := cur_empty s k hk hsk
          clear hsk
          go_wp2_with (go_at_call 45; refine (rblank_any _ _).mono ?_; rintro e w' ⟨rfl, hww⟩; subst hww)
          go_roundw
          case rel => exact ⟨k + 1, by omega, by go_num, by rw [E.out.2]; rfl, by rw [E.out.1]; exact hown, hnx, by rw [E.out.1]; exact hnil⟩
          case measure => simp [intOf]; omega
    · obtain rfl : k = s.size := by omega
      by_cases hsk : startAt s s.size < s.size
      · have E : Hid (toksOf s = doneAt s s.size ++ [curAt s s.size]) := end_more s hsk
        have hem := cur_some s s.size hsk
        clear hsk
        go_wp2_with (at_builtin; refine wpList_append_own _ rfl _ _ 47 rfl w.heap.size 9 i0 (.string ⟨#[]⟩) 1 16 Try.underlying47 hi hz0 hz1 hz2 rfl (by decide) _ _ _ rfl (hown.alloc _) ⟨_, 0, none⟩ 1 1 [.string (Tx.bs (curAt s s.size))] rfl rfl ?d1 ?d2 ?d3 ?d4 ?d5 ?_)
        case d1 => exact cell_one_new _ _ _
        case d2 => intro u hu; simp at hu; subst hu; rfl
        case d3 => unfold maxLen; omega
        case d4 => omega
        case d5 => simp; omega
        intro v' w1 hown' hgrow _
        have R := rel_app hbz hown hnx hown' hgrow
        clear hown' hgrow hown hnx
        go_wp2
        go_ret
        exact ⟨_, rfl, by rw [E.out]; exact R.1, R.2, fun h => absurd h (by rw [E.out]; simp)⟩
      · have E : Hid (toksOf s = doneAt s s.size) := end_none s hsk
        have hem := cur_empty s s.size hk hsk
        clear hsk
        go_wp2
        go_ret
        exact ⟨_, rfl, by rw [E.out]; exact hown, hnx, by rw [E.out]; exact hnil⟩

end Go.Proofs.Ytdjghddcpfikhac.Wd

/-
  THE WALK of the reference's Claims.
-/
namespace Go.Proofs.Ytdjghddcpfikhac
open Go.RowKit

theorem takes_split (d : Tn.Dc) (l : List Cl) (n : Nat) (k : Int) : takes d l n k = (freeD (shD d) l k && !(wayD d l (n : Int)).contains k.toNat) := rfl
theorem free_one {sh : List Nat} {l : List Cl} {k : Int} (h : k < 1) : freeD sh l k = false := by
  unfold freeD
  rw [decide_eq_false (by omega), Bool.false_and, Bool.false_and]
theorem free_two {sh : List Nat} {l : List Cl} {m : Nat} (h : sh.contains m = false) : freeD sh l (m : Int) = false := by
  unfold freeD
  rw [Int.toNat_natCast, h, Bool.and_false, Bool.false_and]
theorem free_three {sh : List Nat} {l : List Cl} {k : Int} (h : ¬ ownerD l k < 0) : freeD sh l k = false := by
  unfold freeD
  rw [decide_eq_false h, Bool.and_false]
theorem free_yes {sh : List Nat} {l : List Cl} {m : Nat} (h1 : 1 ≤ m) (h2 : sh.contains m = true) (h3 : ownerD l (m : Int) < 0) : freeD sh l (m : Int) = true := by
  unfold freeD
  rw [Int.toNat_natCast, h2, decide_eq_true h3, decide_eq_true (by omega)]
  rfl

set_option maxHeartbeats 12800000 in
set_option maxRecDepth 100000 in
theorem qclaims_any {w : World} {b o c : Nat} {rs : List Raw} {d : Tn.Dc} (h : Dx w b o c rs d) :
    Calls Try.prog 6 #[.slice (some ⟨b, o, none⟩) rs.length c] w fun e w' => ∃ v, e = .returned v ∧ OwnC w' w.heap.size v (claimsD d) ∧ Below w.heap.size w w' := by
  have HX : Hid (∀ W, Below w.heap.size w W → Dx W b o c rs d) := fun W hb => h.below hb
  have hF := h.fine
  have hsf := (sh_few hF).1
  have VN : Hid (∀ j, Vn (Tn.nd d j)) := h.vn
  have hS : Calls Try.prog 21 #[.slice (some ⟨b, o, none⟩) rs.length c, .int .i64 0] w fun e w' => ∃ v, e = .returned v ∧ OwnI w' w.heap.size v (shD d) ∧ Below w.heap.size w w' :=
    qshown_any hF Tn.fuel 0 w h.doc (fine_end hF) (by have : (shownF Tn.fuel d 0).length ≤ 60 := hsf; omega)
  have OF : Hid (∀ (j : Nat) (hj : j < (shD d).length) q, (outD d j (shD d)[j] q).length ≤ 60) := fun j hj q => out_few hF hj q
  have FO : Hid (∀ (j : Nat) (hj : j < (shD d).length) q, Forest d (outD d j (shD d)[j] q)) := fun j hj q => forest_out hF hj q
  have EF : Hid (accD d (shD d).length = claimsD d) := acc_full d
  have HF : Hid (Fine d) := hF
  clear h hF
  go_enter Try.func6, Try.ntmps6
  go_upto_region 4 with (go_at_call 21; refine hS.mono ?_; rintro e w2 ⟨v2, rfl, ho2, hb2⟩; have ho2s := ho2; obtain ⟨ps, cs, rfl⟩ := ho2s.shape)
  obtain ⟨_, _, he, k1, k2, _, _⟩ := (ints_of_owns ho2).at
  cases he
  have I2 : Hid (IntsAt w2 (.slice ps (shD d).length cs) (shD d)) := ints_of_owns ho2
  clear hS ho2 ho2s
  go_loopw [3, 18] (fun v i wr => ∃ j : Nat, j ≤ (shD d).length ∧ i = .int .i64 j ∧ OwnC wr w2.heap.size v (accD d j) ∧ Below w2.heap.size w2 wr) (fun _ i _ => (shD d).length - (intOf i).toNat)
  case atStart => exact ⟨0, Nat.zero_le _, rfl, OwnC.nil _ _, Below.refl _ _⟩
  case round =>
    obtain ⟨j, hj, rfl, hown, hnx⟩ := hrel
    have BW := hb2.trans (hnx.mono hb2.size)
    have hbz := hnx.size
    by_cases hlt : j < (shD d).length
    · obtain ⟨_, _, he, _, _, _, hat⟩ := I2.out.at
      cases he
      obtain ⟨b1, o1, e1, hc0⟩ := hat j hlt
      have hc1 := keeps_below hnx (Nat.le_refl _) _ _ hc0
      have hmem : (shD d)[j] ∈ shD d := List.getElem_mem hlt
      have AS : Hid (accD d (j + 1) = claimN d (accD d j) (shD d)[j]) := acc_succ hlt
      have OFn : Hid (∀ q, (outD d j (shD d)[j] q).length ≤ 60) := fun q => OF.out j hlt q
      have FOn : Hid (∀ q, Forest d (outD d j (shD d)[j] q)) := fun q => FO.out j hlt q
      clear hat hc0
      generalize (shD d)[j] = n at *
      have hAt := rattr_all (HX.out wr BW).doc (n : Int) ⟨#[97, 114, 105, 97, 45, 111, 119, 110, 115]⟩
      have hz := val_size VN.out (n : Int) ⟨#[97, 114, 105, 97, 45, 111, 119, 110, 115]⟩
      have hTk : Hid (∀ W, Calls Try.prog 23 #[.string (valN d (n : Int) ⟨#[97, 114, 105, 97, 45, 111, 119, 110, 115]⟩)] W fun e w' => ∃ v, e = .returned v ∧ w'.ownsRow W.heap.size 9 1 v (Wd.toksOf (valN d (n : Int) ⟨#[97, 114, 105, 97, 45, 111, 119, 110, 115]⟩)).length ((Wd.toksOf (valN d (n : Int) ⟨#[97, 114, 105, 97, 45, 111, 119, 110, 115]⟩)).map Wd.tv) ∧ Below W.heap.size W w') := fun W => (Wd.rtokens_own _ W hz).mono (by
        rintro e w' ⟨v, h1, h2, h3, _⟩
        exact ⟨v, h1, h2, h3⟩)
      have HFi : Hid (∀ W tt, Below w.heap.size w W → Calls Try.prog 24 #[.slice (some ⟨b, o, none⟩) rs.length c, .int .i64 (n : Int), .string (Tx.bs tt)] W fun e w' => e = .returned (.int .i64 (askT d n tt)) ∧ Below W.heap.size W w') := fun W tt hb => rfind_any (HX.out W hb).doc HF.out (n : Int) (Tx.bs tt)
      have OS : Hid (∀ q (hq : q < (Wd.toksOf (valN d (n : Int) ⟨#[97, 114, 105, 97, 45, 111, 119, 110, 115]⟩)).length), outD d j n (q + 1) = claim1 d n (outD d j n q) (askT d n (Wd.toksOf (valN d (n : Int) ⟨#[97, 114, 105, 97, 45, 111, 119, 110, 115]⟩))[q])) := fun q hq => out_succ hq
      have OU : Hid (outD d j n (Wd.toksOf (valN d (n : Int) ⟨#[97, 114, 105, 97, 45, 111, 119, 110, 115]⟩)).length = claimN d (accD d j) n) := out_full d j n
      clear hz
      generalize Wd.toksOf (valN d (n : Int) ⟨#[97, 114, 105, 97, 45, 111, 119, 110, 115]⟩) = ts at *
      generalize valN d (n : Int) ⟨#[97, 114, 105, 97, 45, 111, 119, 110, 115]⟩ = sv at *
      generalize (attrN d (n : Int) ⟨#[97, 114, 105, 97, 45, 111, 119, 110, 115]⟩).isSome = sb at *
      subst e1
      have SN : Hid (n ∈ shD d) := hmem
      clear hmem
      go_upto_region 8 with (first
        | (go_at_call 22; refine hAt.mono ?_; rintro e w3 ⟨rfl, hb3⟩)
        | (go_at_call 23; refine (hTk.out _).mono ?_; rintro e w4 ⟨v4, rfl, ho4, hb4⟩; have ho4s := toks_at ho4; obtain ⟨pt, ct, rfl, t1, t2, _⟩ := ho4s))
      have B3 := hnx.trans (hb3.mono hnx.size)
      have B4 := B3.trans (hb4.mono B3.size)
      have O4 : OwnC w4 w2.heap.size u3 (outD d j n 0) := (hown.below hb3 (Nat.le_refl _)).below hb4 (Nat.le_refl _)
      have hr0 : ∀ q, u3.ownBlock = some q → q < w3.heap.size := fun q e => Nat.lt_of_lt_of_le (World.ownsRow.lt hown q e).2 hb3.size
      have TT : Hid (∀ W vq, Mv w4.heap.size u3.ownBlock (Value.ownBlock vq) w4 W → W.ownsRow w3.heap.size 9 1 (.slice pt ts.length ct) ts.length (ts.map Wd.tv)) := fun W vq hm => hm.owns2 ho4 (Nat.le_refl _) hr0
      clear hAt hTk ho4 hb3 hb4 hown B3 hnx hbz hr0 BW hc1
      generalize hr0e : u3.ownBlock = r0 at *
      go_loopw [3, 31] (fun v i wq => ∃ q : Nat, q ≤ ts.length ∧ i = .int .i64 q ∧ OwnC wq w2.heap.size v (outD d j n q) ∧ Below w2.heap.size w2 wq ∧ Mv w4.heap.size r0 v.ownBlock w4 wq) (fun _ i _ => ts.length - (intOf i).toNat)
      case atStart => exact ⟨0, Nat.zero_le _, rfl, O4, B4, by rw [hr0e]; exact Mv.refl _ _ _⟩
      case round =>
        obtain ⟨q, hq, rfl, ownq, hnq, MQ⟩ := hrel
        have hbq := hnq.size
        have BWq := hb2.trans (hnq.mono hb2.size)
        by_cases hql : q < ts.length
        · obtain ⟨_, _, he, _, _, hat⟩ := toks_at (TT.out wr u3 MQ)
          cases he
          obtain ⟨b3, o3, e3, hc3⟩ := hat q hql
          have hFi := HFi.out wr ts[q] BWq
          have O1 : Hid (outD d j n (q + 1) = claim1 d n (outD d j n q) (askT d n ts[q])) := OS.out q hql
          have LZ := OFn.out q
          have FQ : Hid (Forest d (outD d j n q)) := FOn.out q
          clear hat
          generalize askT d n ts[q] = k at *
          generalize Tx.bs ts[q] = tb at *
          subst e3
          have QO : Hid (∀ W (x : Int), Below wr.heap.size wr W → Calls Try.prog 8 #[u3, .int .i64 x] W fun e w' => e = .returned (.int .i64 (ownerD (outD d j n q) x)) ∧ Below W.heap.size W w') := fun W x hb => qowner_any (cls_of_owns (ownq.below hb (Nat.le_refl _))) x
          have QH : Hid (∀ W (m : Nat), Below wr.heap.size wr W → Calls Try.prog 25 #[.slice (some ⟨b1, o1, none⟩) (shD d).length cs, .int .i64 (m : Int)] W fun e w' => e = .returned (.bool ((shD d).contains m)) ∧ w' = W) := fun W m hb => qhas_any (I2.out.keeps (keeps_below (hnq.trans (hb.mono hbq)) (Nat.le_refl _))) m
          have QI : Hid (∀ W (x : Int), Below wr.heap.size wr W → Calls Try.prog 10 #[.slice (some ⟨b, o, none⟩) rs.length c, u3, .int .i64 x] W fun e w' => e = .returned (.int .i64 (inD d (outD d j n q) x)) ∧ Below W.heap.size W w') := fun W x hb => qin_any (HX.out W (BWq.trans (hb.mono BWq.size))).doc HF.out (cls_of_owns (ownq.below hb (Nat.le_refl _))) x
          by_cases hk1 : k < 1
          · have E : Hid (outD d j n (q + 1) = outD d j n q) := by show _ = _; rw [O1.out]; exact claim_no (by rw [takes_split, free_one hk1]; rfl)
            clear O1 FQ QO QH QI
            go_wp2_with (go_at_call 24; refine hFi.mono ?_; rintro e w9 ⟨rfl, hb9⟩)
            go_roundw
            case rel => exact ⟨q + 1, by omega, by go_num, by rw [E.out]; exact ownq.below hb9 (Nat.le_refl _), hnq.trans (hb9.mono hbq), MQ.below hb9⟩
            case measure => simp [intOf]; omega
          · obtain ⟨m, rfl⟩ : ∃ m : Nat, k = (m : Int) := ⟨k.toNat, by omega⟩
            have hm1 : 1 ≤ m := by omega
            have hm2 : ¬ m < 1 := by omega
            have QHm := fun W hb => QH.out W m hb
            cases hsc : (shD d).contains m with
            | false =>
              have E : Hid (outD d j n (q + 1) = outD d j n q) := by show _ = _; rw [O1.out]; exact claim_no (by rw [takes_split, free_two hsc]; rfl)
              rw [hsc] at QHm
              clear O1 FQ QO QH QI hsc
              go_wp2_with (first
                | (go_at_call 24; refine hFi.mono ?_; rintro e w9 ⟨rfl, hb9⟩; have hHk := QHm w9 hb9)
                | (go_at_call 25; refine hHk.mono ?_; rintro e w10 ⟨rfl, hw10⟩; subst hw10))
              go_roundw
              case rel => exact ⟨q + 1, by omega, by go_num, by rw [E.out]; exact ownq.below hb9 (Nat.le_refl _), hnq.trans (hb9.mono hbq), MQ.below hb9⟩
              case measure => simp [intOf]; omega
            | true =>
              rw [hsc] at QHm
              have QOm := fun W hb => QO.out W (m : Int) hb
              by_cases how : ownerD (outD d j n q) (m : Int) < 0
              · have FY := free_yes hm1 hsc how
                clear hsc QO QH
                have TK : Hid (outD d j n (q + 1) = if (wayD d (outD d j n q) (n : Int)).contains m then outD d j n q else outD d j n q ++ [(n, m)]) := by
                  show _ = _
                  rw [O1.out]
                  cases hcn : (wayD d (outD d j n q) (n : Int)).contains m with
                  | true => rw [claim_no (by rw [takes_split, FY, Int.toNat_natCast, hcn]; rfl)]; rfl
                  | false => rw [claim_yes (by rw [takes_split, FY, Int.toNat_natCast, hcn]; rfl)]; rfl
                have WC : Hid (∀ x ∈ shD d, wayD d (outD d j n q) (x : Int) = x :: wayD d (outD d j n q) (inD d (outD d j n q) (x : Int)) ∧ (inD d (outD d j n q) (x : Int) = -1 ∨ ∃ y ∈ shD d, inD d (outD d j n q) (x : Int) = (y : Int))) := fun x hx => ⟨way_cons HF.out FQ.out hx, in_cases HF.out FQ.out hx⟩
                have W0 : Hid (wayD d (outD d j n q) (-1) = []) := way_no d _ (by omega)
                clear O1 FQ FY
                generalize outD d j n q = l1 at *
                generalize ownerD l1 (m : Int) = ow at *
                go_upto_region 14 with (first
                  | (go_at_call 24; refine hFi.mono ?_; rintro e w9 ⟨rfl, hb9⟩; have hHk := QHm w9 hb9)
                  | (go_at_call 25; refine hHk.mono ?_; rintro e w10 ⟨rfl, hw10⟩; subst hw10; have hOk := QOm w10 hb9)
                  | (go_at_call 8; refine hOk.mono ?_; rintro e w11 ⟨rfl, hb11⟩))
                have BR : Below wr.heap.size wr w11 := hb9.trans (hb11.mono hb9.size)
                have QIr : Hid (∀ W (x : Int), Below w11.heap.size w11 W → Calls Try.prog 10 #[.slice (some ⟨b, o, none⟩) rs.length c, u3, .int .i64 x] W fun e w' => e = .returned (.int .i64 (inD d l1 x)) ∧ Below W.heap.size W w') := fun W x hb => QI.out W x (BR.trans (hb.mono BR.size))
                have OW11 := ownq.below BR (Nat.le_refl _)
                have N11 := hnq.trans (BR.mono hbq)
                have M11 := MQ.below BR
                clear hHk hOk QHm QOm QI hFi hc3 ownq hnq MQ hb9 hb11 how BWq
                generalize hv3 : u3 = v3 at *
                clear hv3
                go_loopw [12, 13] (fun lv av wq => ∃ (a : Int) (bb : Bool), lv = .bool bb ∧ av = .int .i64 a ∧ Hid ((wayD d l1 (n : Int)).contains m = (bb || (wayD d l1 a).contains m)) ∧ Hid (a = -1 ∨ ∃ y ∈ shD d, a = (y : Int)) ∧ Below w11.heap.size w11 wq) (fun _ av _ => (wayD d l1 (intOf av)).length)
                case atStart => exact ⟨(n : Int), false, rfl, rfl, by show _ = _; rw [Bool.false_or], Or.inr ⟨n, SN.out, rfl⟩, Below.refl _ _⟩
                case round =>
                  obtain ⟨a, bb, rfl, rfl, R, X, hb4⟩ := hrel
                  rcases X.out with rfl | ⟨y, hy, rfl⟩
                  · have hbb : Hid ((wayD d l1 (n : Int)).contains m = bb) := by show _ = _; rw [R.out, W0.out]; simp
                    have ow4 := OW11.below hb4 (Nat.le_refl _)
                    have nn4 := N11.trans (hb4.mono N11.size)
                    have mm4 := M11.below hb4
                    have zz4 := nn4.size
                    clear R X
                    cases bb with
                    | true =>
                      have E : Hid (outD d j n (q + 1) = l1) := by show _ = _; rw [TK.out, hbb.out]; rfl
                      clear TK hbb
                      go_wp2_with fail
                      go_roundw
                      case rel => exact ⟨q + 1, by omega, by go_num, by rw [E.out]; exact ow4, nn4, mm4⟩
                      case measure => simp [intOf]; omega
                    | false =>
                      have E : Hid (outD d j n (q + 1) = l1 ++ [(n, m)]) := by show _ = _; rw [TK.out, hbb.out]; rfl
                      clear TK hbb
                      go_wp2_with (at_builtin; refine append_claim2 (w0 := w2) (v := v3) rfl _ _ rfl n m rfl (by simp [Act.eval]) ow4 nn4 zz4 (by omega) ?_; intro v6 w6 o6 n6 g6 b6)
                      go_roundw
                      case rel => exact ⟨q + 1, by omega, by go_num, by rw [E.out]; exact o6, n6, mm4.trans ⟨g6.os, g6.tape, g6.output, g6.size, fun i hi _ hr => g6.block i hi (fun e => hr e), b6⟩⟩
                      case measure => simp [intOf]; omega
                  · obtain ⟨e1, e2⟩ := WC.out y hy
                    have R2 : Hid ((wayD d l1 (n : Int)).contains m = (bb || ((m == y) || (wayD d l1 (inD d l1 (y : Int))).contains m))) := by show _ = _; rw [R.out, e1, List.contains_cons]
                    have X2 : Hid (inD d l1 (y : Int) = -1 ∨ ∃ z ∈ shD d, inD d l1 (y : Int) = (z : Int)) := e2
                    have M : Hid ((wayD d l1 (inD d l1 (y : Int))).length < (wayD d l1 (y : Int)).length) := by show _ < _; rw [e1]; simp
                    have hI := QIr.out wr (y : Int) hb4
                    clear R X e1 e2 hy
                    generalize inD d l1 (y : Int) = z at *
                    cases bb with
                    | true =>
                      have R3 : Hid ((wayD d l1 (n : Int)).contains m = (true || (wayD d l1 z).contains m)) := by show _ = _; rw [R2.out]; rfl
                      clear R2
                      go_wp2_with (go_at_call 10; refine hI.mono ?_; rintro e w12 ⟨rfl, hb12⟩)
                      go_roundw
                      case rel => exact ⟨z, true, rfl, rfl, R3, X2, hb4.trans (hb12.mono hb4.size)⟩
                      case measure => simpa [intOf] using M.out
                    | false =>
                      by_cases e : y = m
                      · have R3 : Hid ((wayD d l1 (n : Int)).contains m = (true || (wayD d l1 z).contains m)) := by show _ = _; rw [R2.out, e]; simp
                        have hq7 : ((y : Int) == (m : Int)) = true := by simp [e]
                        clear R2 e
                        go_wp2_with (go_at_call 10; refine hI.mono ?_; rintro e w12 ⟨rfl, hb12⟩)
                        go_roundw
                        case rel => exact ⟨z, true, rfl, rfl, R3, X2, hb4.trans (hb12.mono hb4.size)⟩
                        case measure => simpa [intOf] using M.out
                      · have R3 : Hid ((wayD d l1 (n : Int)).contains m = (false || (wayD d l1 z).contains m)) := by show _ = _; rw [R2.out, beq_eq_false_iff_ne.2 (Ne.symm e)]; rfl
                        have hq7 : ((y : Int) == (m : Int)) = false := beq_eq_false_iff_ne.2 (by omega)
                        clear R2 e
                        go_wp2_with (go_at_call 10; refine hI.mono ?_; rintro e w12 ⟨rfl, hb12⟩)
                        go_roundw
                        case rel => exact ⟨z, false, rfl, rfl, R3, X2, hb4.trans (hb12.mono hb4.size)⟩
                        case measure => simpa [intOf] using M.out
              · have E : Hid (outD d j n (q + 1) = outD d j n q) := by show _ = _; rw [O1.out]; exact claim_no (by rw [takes_split, free_three how]; rfl)
                clear O1 FQ QO QH QI hsc
                generalize ownerD (outD d j n q) (m : Int) = ow at *
                go_wp2_with (first
                  | (go_at_call 24; refine hFi.mono ?_; rintro e w9 ⟨rfl, hb9⟩; have hHk := QHm w9 hb9)
                  | (go_at_call 25; refine hHk.mono ?_; rintro e w10 ⟨rfl, hw10⟩; subst hw10; have hOk := QOm w10 hb9)
                  | (go_at_call 8; refine hOk.mono ?_; rintro e w11 ⟨rfl, hb11⟩))
                go_roundw
                case rel => exact ⟨q + 1, by omega, by go_num, by rw [E.out]; exact (ownq.below hb9 (Nat.le_refl _)).below hb11 (Nat.le_refl _), (hnq.trans (hb9.mono hbq)).trans (hb11.mono (Nat.le_trans hbq hb9.size)), (MQ.below hb9).below hb11⟩
                case measure => simp [intOf]; omega
        · obtain rfl : q = ts.length := by omega
          have E : Hid (accD d (j + 1) = outD d j n ts.length) := by show _ = _; rw [AS.out, OU.out]
          go_wp2_with fail
          go_roundw
          case rel => exact ⟨j + 1, by omega, by go_num, by rw [E.out]; exact ownq, hnq⟩
          case measure => simp [intOf]; omega
    · obtain rfl : j = (shD d).length := by omega
      go_wp2_with fail
      go_ret
      exact ⟨_, rfl, by rw [← EF.out]; exact hown.mono hb2.size, BW⟩
end Go.Proofs.Ytdjghddcpfikhac

/-
  THE WALKS of tnlaw3's host and alive.
-/
namespace Go.Proofs.Ytdjghddcpfikhac
open Go.RowKit

def hostL : List Tn.Chg := [⟨1, 0, 0, -1, ⟨#[120]⟩, ⟨#[]⟩⟩, ⟨8, 1, 0, 0, ⟨#[]⟩, ⟨#[]⟩⟩, ⟨9, 1, 0, 0, ⟨#[115, 108, 111, 116]⟩, ⟨#[]⟩⟩, ⟨1, 1, 0, -1, ⟨#[98]⟩, ⟨#[]⟩⟩]
theorem host_slot : slotD (Tn.build hostL) 3 = 2 := by decide +kernel
theorem host_given : givenD (Tn.build hostL) 2 = [3] := by decide +kernel
theorem host_kids : kidsD (Tn.build hostL) 2 = [3] := by decide +kernel
theorem host_up : upF (Tn.build hostL) 3 = 2 := by decide +kernel
theorem host_shown : shownF Tn.fuel (Tn.build hostL) 0 = [0, 1, 2, 3] := by decide +kernel
theorem host_end : EndF Tn.fuel (Tn.build hostL) 0 := endB_end _ _ _ (by decide +kernel)

theorem chgs_new (w : World) (l : List Tn.Chg) (hl : l.length ≤ 1000) : ChgsAt (w.alloc (.cells (l.flatMap chc).toArray 40)) (.slice (some ⟨w.heap.size, 0, none⟩) l.length l.length) l := by
  refine ⟨_, _, rfl, Nat.le_refl _, by unfold maxLen; omega, fun j x hx => ⟨_, 0, rfl, ?_⟩⟩
  rw [Nat.zero_add, World.cell?_alloc_new, ← hx]
  simp

theorem ChgsAt.keeps {w w' : World} {v : Value} {l : List Tn.Chg} (h : ChgsAt w v l) (k : Keeps w w') : ChgsAt w' v l := by
  obtain ⟨p, c, e, h1, h2, h4⟩ := h
  refine ⟨p, c, e, h1, h2, fun j x hx => ?_⟩
  obtain ⟨b, o, e1, e2⟩ := h4 j x hx
  exact ⟨b, o, e1, k _ _ e2⟩

end Go.Proofs.Ytdjghddcpfikhac

/-
  THE WALK of tnlaw6's OwnsTells.
-/
namespace Go.Proofs.Ytdjghddcpfikhac
open Go.RowKit


set_option maxHeartbeats 6400000 in
set_option maxRecDepth 100000 in
theorem otells_walk {w : World} {vl : Value} {l : List Tn.Chg} (hl : ChgsAt w vl l) (hsz : ∀ x ∈ l, x.value.size ≤ 4194304 ∧ x.name.size ≤ 4194304) (n : Int) :
    Calls Try.prog 3 #[vl, .int .i64 n] w fun e w' => e = .returned (.bool true) ∧ Below w.heap.size w w' := by
  have hBd := rbuild_good hl hsz
  have C : Hid (∀ w1 g c rs, DocAt w1 g 0 c rs (Tn.build l) → Dx w1 g 0 c rs (Tn.build l)) := fun w1 g c rs h => dx_build h hsz
  have hF := build_fine l
  obtain ⟨p, cp, rfl, _, _, _⟩ := hl.at
  clear hl hsz
  generalize Tn.build l = d at *
  have hcl := forest_few hF (forest_claims hF)
  have SC : Hid (∀ W g c rs, Dx W g 0 c rs d → Calls Try.prog 5 #[.slice (some ⟨g, 0, none⟩) rs.length c] W fun e w' => ∃ v, e = .returned v ∧ OwnC w' W.heap.size v (claimsD d) ∧ Below W.heap.size W w') := fun W g c rs h => vclaims_any h
  have SD : Hid (∀ W g c rs, Dx W g 0 c rs d → Calls Try.prog 6 #[.slice (some ⟨g, 0, none⟩) rs.length c] W fun e w' => ∃ v, e = .returned v ∧ OwnC w' W.heap.size v (claimsD d) ∧ Below W.heap.size W w') := fun W g c rs h => qclaims_any h
  have a1 : Hid (∀ W v, ClsAt W v (claimsD d) → Calls Try.prog 7 #[v, .int .i64 n] W fun e w' => e = .returned (.int .i64 (ownerD (claimsD d) n)) ∧ Below W.heap.size W w') := fun W v hv => vowner_any hv n
  have a2 : Hid (∀ W v, ClsAt W v (claimsD d) → Calls Try.prog 8 #[v, .int .i64 n] W fun e w' => e = .returned (.int .i64 (ownerD (claimsD d) n)) ∧ Below W.heap.size W w') := fun W v hv => qowner_any hv n
  have a3 : Hid (∀ W g c rs v, Dx W g 0 c rs d → ClsAt W v (claimsD d) → Calls Try.prog 9 #[.slice (some ⟨g, 0, none⟩) rs.length c, v, .int .i64 n] W fun e w' => e = .returned (.int .i64 (inD d (claimsD d) n)) ∧ Below W.heap.size W w') := fun W g c rs v h hv => vup_any h.doc h.fine.okd hv n
  have a4 : Hid (∀ W g c rs v, Dx W g 0 c rs d → ClsAt W v (claimsD d) → Calls Try.prog 10 #[.slice (some ⟨g, 0, none⟩) rs.length c, v, .int .i64 n] W fun e w' => e = .returned (.int .i64 (inD d (claimsD d) n)) ∧ Below W.heap.size W w') := fun W g c rs v h hv => qin_any h.doc h.fine hv n
  have a5 : Hid (∀ W g c rs v, Dx W g 0 c rs d → ClsAt W v (claimsD d) → Calls Try.prog 12 #[.slice (some ⟨g, 0, none⟩) rs.length c, v, .int .i64 n] W fun e w' => ∃ v, e = .returned v ∧ OwnI w' W.heap.size v (insideD d (claimsD d) n) ∧ Below W.heap.size W w') := fun W g c rs v h hv => vkids_any h.doc h.fine.okd hv (by omega) n
  have a6 : Hid (∀ W g c rs v, Dx W g 0 c rs d → ClsAt W v (claimsD d) → Calls Try.prog 13 #[.slice (some ⟨g, 0, none⟩) rs.length c, v, .int .i64 n] W fun e w' => ∃ v, e = .returned v ∧ OwnI w' W.heap.size v (insideD d (claimsD d) n) ∧ Below W.heap.size W w') := fun W g c rs v h hv => qinside_any h.doc h.fine hv (by omega) n
  clear hF
  generalize insideD d (claimsD d) n = ins at *
  generalize inD d (claimsD d) n = inn at *
  generalize ownerD (claimsD d) n = ow at *
  generalize claimsD d = cl at *
  have q1 : (ow == ow) = true := by simp
  have q4 : (inn == inn) = true := by simp
  go_enter Try.func3, Try.ntmps3
  go_upto_region 6 with (first
    | (go_at_call 4; refine hBd.mono ?_; rintro e w2 ⟨g, c, rs, rfl, hd2, hb2⟩; have C2 : Hid (Dx w2 g 0 c rs d) := C.out _ _ _ _ hd2; clear hd2; have J2 := SC.out _ _ _ _ C2.out)
    | (go_at_call 5; refine J2.mono ?_; clear J2; rintro e w3 ⟨v3, rfl, o3, hb3⟩; have o3s := o3; obtain ⟨p3, c3, rfl⟩ := o3s.shape; have C3 : Hid (Dx w3 g 0 c rs d) := C2.out.below hb3; have J3 := SD.out _ _ _ _ C3.out)
    | (go_at_call 6; refine J3.mono ?_; clear J3; rintro e w4 ⟨v4, rfl, o4, hb4⟩; have o4s := o4; obtain ⟨p4, c4, rfl⟩ := o4s.shape))
  have L3 : Hid (ClsAt w4 (.slice p3 cl.length c3) cl) := cls_of_owns (o3.below hb4 (Nat.le_refl _))
  have L4 : Hid (ClsAt w4 (.slice p4 cl.length c4) cl) := cls_of_owns o4
  have C4 : Hid (Dx w4 g 0 c rs d) := C3.out.below hb4
  have B3 := hb2.trans (hb3.mono hb2.size)
  have B4 := B3.trans (hb4.mono B3.size)
  obtain ⟨_, _, he, k1, k2, _, hat3⟩ := L3.out.at
  cases he
  obtain ⟨_, _, he, k3, k4, _, hat4⟩ := L4.out.at
  cases he
  have T3 : Hid (∀ j (hj : j < cl.length), ∃ b o, p3 = some ⟨b, o, none⟩ ∧ w4.cell? ⟨b, o + j * 2, none⟩ = some (.int .i64 (cl[j].1 : Int)) ∧ w4.cell? ⟨b, o + j * 2 + 1, none⟩ = some (.int .i64 (cl[j].2 : Int))) := hat3
  have T4 : Hid (∀ j (hj : j < cl.length), ∃ b o, p4 = some ⟨b, o, none⟩ ∧ w4.cell? ⟨b, o + j * 2, none⟩ = some (.int .i64 (cl[j].1 : Int)) ∧ w4.cell? ⟨b, o + j * 2 + 1, none⟩ = some (.int .i64 (cl[j].2 : Int))) := hat4
  clear hat3 hat4 o3 o3s o4 o4s C3 C2 hBd C SC SD hb2 hb3 hb4 B3
  go_loopw [22] (fun i wr => ∃ j : Nat, j ≤ cl.length ∧ i = .int .i64 j ∧ Below w4.heap.size w4 wr) (fun i _ => cl.length - (intOf i).toNat)
  case atStart => exact ⟨0, Nat.zero_le _, rfl, Below.refl _ _⟩
  case round =>
    obtain ⟨j, hj, rfl, hnx⟩ := hrel
    by_cases hlt : j < cl.length
    · obtain ⟨b3, o3, e3, y1, y2⟩ := T3.out j hlt
      obtain ⟨b4, o4, e4, y3, y4⟩ := T4.out j hlt
      have z1 := keeps_below hnx (Nat.le_refl _) _ _ y1
      have z2 := keeps_below hnx (Nat.le_refl _) _ _ y2
      have z3 := keeps_below hnx (Nat.le_refl _) _ _ y3
      have z4 := keeps_below hnx (Nat.le_refl _) _ _ y4
      clear y1 y2 y3 y4
      generalize cl[j].1 = x1 at *
      generalize cl[j].2 = x2 at *
      subst e3
      subst e4
      go_wp2_with fail
      go_quiet (fail)
      go_wp2_with fail
      go_roundw
      case rel => exact ⟨j + 1, by omega, by go_num, hnx.trans ⟨rfl, rfl, rfl, Nat.le_refl _, fun _ _ => rfl⟩⟩
      case measure => simp [intOf]; omega
    · obtain rfl : j = cl.length := by omega
      have CR : Hid (Dx wr g 0 c rs d) := C4.out.below hnx
      have LR : Hid (ClsAt wr (.slice p4 cl.length c4) cl) := L4.out.keeps (keeps_below hnx (Nat.le_refl _))
      have BR := B4.trans (hnx.mono B4.size)
      have J1 := a1.out wr _ LR.out
      clear hnx T3 T4 L3
      go_wp2_with (first
        | (go_at_call 7; refine J1.mono ?_; clear J1; rintro e w5 ⟨rfl, hb5⟩; have L5 : Hid (ClsAt w5 (.slice p4 cl.length c4) cl) := LR.out.keeps (keeps_below hb5 (Nat.le_refl _)); have C5 : Hid (Dx w5 g 0 c rs d) := CR.out.below hb5; have J2 := a2.out w5 _ L5.out)
        | (go_at_call 8; refine J2.mono ?_; clear J2; rintro e w6 ⟨rfl, hb6⟩; have L6 : Hid (ClsAt w6 (.slice p4 cl.length c4) cl) := L5.out.keeps (keeps_below hb6 (Nat.le_refl _)); have C6 : Hid (Dx w6 g 0 c rs d) := C5.out.below hb6; have J3 := a3.out w6 _ _ _ _ C6.out L6.out)
        | (go_at_call 9; refine J3.mono ?_; clear J3; rintro e w7 ⟨rfl, hb7⟩; have L7 : Hid (ClsAt w7 (.slice p4 cl.length c4) cl) := L6.out.keeps (keeps_below hb7 (Nat.le_refl _)); have C7 : Hid (Dx w7 g 0 c rs d) := C6.out.below hb7; have J4 := a4.out w7 _ _ _ _ C7.out L7.out)
        | (go_at_call 10; refine J4.mono ?_; clear J4; rintro e w8 ⟨rfl, hb8⟩; have L8 : Hid (ClsAt w8 (.slice p4 cl.length c4) cl) := L7.out.keeps (keeps_below hb8 (Nat.le_refl _)); have C8 : Hid (Dx w8 g 0 c rs d) := C7.out.below hb8; have J5 := a5.out w8 _ _ _ _ C8.out L8.out)
        | (go_at_call 12; refine J5.mono ?_; clear J5; rintro e w9 ⟨v9, rfl, o9, hb9⟩; have L9 : Hid (ClsAt w9 (.slice p4 cl.length c4) cl) := L8.out.keeps (keeps_below hb9 (Nat.le_refl _)); have C9 : Hid (Dx w9 g 0 c rs d) := C8.out.below hb9; have J6 := a6.out w9 _ _ _ _ C9.out L9.out)
        | (go_at_call 13; refine J6.mono ?_; clear J6; rintro e wa ⟨va, rfl, oa, hba⟩; have o9a := o9.below hba (Nat.le_refl _))
        | (go_at_call 11; refine (rsameints_true (ints_of_owns o9a) (ints_of_owns oa)).mono ?_; rintro e wd ⟨rfl, hbd⟩))
      go_ret
      refine ⟨rfl, ?_⟩
      have E5 := BR.trans (hb5.mono BR.size)
      have E6 := E5.trans (hb6.mono E5.size)
      have E7 := E6.trans (hb7.mono E6.size)
      have E8 := E7.trans (hb8.mono E7.size)
      have E9 := E8.trans (hb9.mono E8.size)
      have Ea := E9.trans (hba.mono E9.size)
      exact Ea.trans (hbd.mono Ea.size)
end Go.Proofs.Ytdjghddcpfikhac
