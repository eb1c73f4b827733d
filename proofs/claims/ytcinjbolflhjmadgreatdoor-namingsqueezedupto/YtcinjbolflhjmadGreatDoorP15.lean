/-
  OWN WORK: Vcf, Vcm, Nlv, Nsw.
-/
import Derived.Test.YtcinjbolflhjmadGreatDoorP12
import Derived.Test.YtcinjbolflhjmadGreatDoorP6
import Derived.Test.YtcinjbolflhjmadGreatDoorP14
import Derived.Test.YtcinjbolflhjmadGreatDoorP8
import Derived.Test.YtcinjbolflhjmadGreatDoorP11
import Derived.Test.YtcinjbolflhjmadGreatDoorP7
import Derived.Deep.CutRange
/-
  THE WALK of owns.Claims.
-/
namespace Go.Proofs.YtcinjbolflhjmadGreatDoor
open Go.RowKit

/-- what stands in the variable of Claims -/
structure VarC (w : World) (X B : Nat) (v : Value) (l : List Cl) : Prop where
  x : w.cell? ⟨X, 0, none⟩ = some v
  f : w.frozen? ⟨X, 0, none⟩ = false
  own : OwnC w B v l
theorem VarC.below {w w' : World} {X B : Nat} {v : Value} {l : List Cl} (h : VarC w X B v l) (hb : Below w.heap.size w w') : VarC w' X B v l :=
  ⟨keeps_below hb (Nat.le_refl _) _ _ h.x, by rw [hb.frozen (p := ⟨X, 0, none⟩) (lt_of_cell h.x)]; exact h.f, h.own.below hb (Nat.le_refl _)⟩

end Go.Proofs.YtcinjbolflhjmadGreatDoor

/-
  THE WALK of the reference's Claims.
-/
namespace Go.Proofs.YtcinjbolflhjmadGreatDoor
open Go.RowKit

theorem takes_split (d : Tn.Dc) (l : List Cl) (n : Nat) (k : Int) : takes d l n k = (freeD (shD d) l k && !(wayD d l (n : Int)).contains k.toNat) := rfl
theorem free_one {sh : List Nat} {l : List Cl} {k : Int} (h : k < 1) : freeD sh l k = false := by
  unfold freeD
  rw [decide_eq_false (by omega), Bool.false_and, Bool.false_and]
theorem free_two {sh : List Nat} {l : List Cl} {m : Nat} (h : sh.contains m = false) : freeD sh l (m : Int) = false := by
  unfold freeD
  rw [Int.toNat_natCast, h, Bool.and_false, Bool.false_and]
theorem free_three {sh : List Nat} {l : List Cl} {k : Int} (h : ¬ ownerD l k < 0) : freeD sh l k = false := by
  unfold freeD
  rw [decide_eq_false h, Bool.and_false]
theorem free_yes {sh : List Nat} {l : List Cl} {m : Nat} (h1 : 1 ≤ m) (h2 : sh.contains m = true) (h3 : ownerD l (m : Int) < 0) : freeD sh l (m : Int) = true := by
  unfold freeD
  rw [Int.toNat_natCast, h2, decide_eq_true h3, decide_eq_true (by omega)]
  rfl

set_option maxHeartbeats 12800000 in
set_option maxRecDepth 100000 in
theorem qclaims_any {w : World} {b o c : Nat} {rs : List Raw} {d : Tn.Dc} (h : Dx w b o c rs d) :
    Calls Tryz.prog 8 #[.slice (some ⟨b, o, none⟩) rs.length c] w fun e w' => ∃ v, e = .returned v ∧ OwnC w' w.heap.size v (claimsD d) ∧ Below w.heap.size w w' := by
  have HX : Hid (∀ W, Below w.heap.size w W → Dx W b o c rs d) := fun W hb => h.below hb
  have hF := h.fine
  have hsf := (sh_few hF).1
  have VN : Hid (∀ j, Vn (Tn.nd d j)) := h.vn
  have hS : Calls Tryz.prog 20 #[.slice (some ⟨b, o, none⟩) rs.length c, .int .i64 0] w fun e w' => ∃ v, e = .returned v ∧ OwnI w' w.heap.size v (shD d) ∧ Below w.heap.size w w' :=
    qshown_any hF Tn.fuel 0 w h.doc (fine_end hF) (by have : (shownF Tn.fuel d 0).length ≤ 60 := hsf; omega)
  have OF : Hid (∀ (j : Nat) (hj : j < (shD d).length) q, (outD d j (shD d)[j] q).length ≤ 60) := fun j hj q => out_few hF hj q
  have FO : Hid (∀ (j : Nat) (hj : j < (shD d).length) q, Forest d (outD d j (shD d)[j] q)) := fun j hj q => forest_out hF hj q
  have EF : Hid (accD d (shD d).length = claimsD d) := acc_full d
  have HF : Hid (Fine d) := hF
  clear h hF
  go_enter Tryz.func8, Tryz.ntmps8
  go_upto_region 4 with (go_at_call 20; refine hS.mono ?_; rintro e w2 ⟨v2, rfl, ho2, hb2⟩; have ho2s := ho2; obtain ⟨ps, cs, rfl⟩ := ho2s.shape)
  obtain ⟨_, _, he, k1, k2, _, _⟩ := (ints_of_owns ho2).at
  cases he
  have I2 : Hid (IntsAt w2 (.slice ps (shD d).length cs) (shD d)) := ints_of_owns ho2
  clear hS ho2 ho2s
  go_loopw [3, 18] (fun v i wr => ∃ j : Nat, j ≤ (shD d).length ∧ i = .int .i64 j ∧ OwnC wr w2.heap.size v (accD d j) ∧ Below w2.heap.size w2 wr) (fun _ i _ => (shD d).length - (intOf i).toNat)
  case atStart => exact ⟨0, Nat.zero_le _, rfl, OwnC.nil _ _, Below.refl _ _⟩
  case round =>
    obtain ⟨j, hj, rfl, hown, hnx⟩ := hrel
    have BW := hb2.trans (hnx.mono hb2.size)
    have hbz := hnx.size
    by_cases hlt : j < (shD d).length
    · obtain ⟨_, _, he, _, _, _, hat⟩ := I2.out.at
      cases he
      obtain ⟨b1, o1, e1, hc0⟩ := hat j hlt
      have hc1 := keeps_below hnx (Nat.le_refl _) _ _ hc0
      have hmem : (shD d)[j] ∈ shD d := List.getElem_mem hlt
      have AS : Hid (accD d (j + 1) = claimN d (accD d j) (shD d)[j]) := acc_succ hlt
      have OFn : Hid (∀ q, (outD d j (shD d)[j] q).length ≤ 60) := fun q => OF.out j hlt q
      have FOn : Hid (∀ q, Forest d (outD d j (shD d)[j] q)) := fun q => FO.out j hlt q
      clear hat hc0
      generalize (shD d)[j] = n at *
      have hAt := rattr_all (HX.out wr BW).doc (n : Int) ⟨#[97, 114, 105, 97, 45, 111, 119, 110, 115]⟩
      have hz := val_size VN.out (n : Int) ⟨#[97, 114, 105, 97, 45, 111, 119, 110, 115]⟩
      have hTk : Hid (∀ W, Calls Tryz.prog 21 #[.string (valN d (n : Int) ⟨#[97, 114, 105, 97, 45, 111, 119, 110, 115]⟩)] W fun e w' => ∃ v, e = .returned v ∧ w'.ownsRow W.heap.size 9 1 v (Wd.toksOf (valN d (n : Int) ⟨#[97, 114, 105, 97, 45, 111, 119, 110, 115]⟩)).length ((Wd.toksOf (valN d (n : Int) ⟨#[97, 114, 105, 97, 45, 111, 119, 110, 115]⟩)).map Wd.tv) ∧ Below W.heap.size W w') := fun W => (Wd.rtokens_own _ W hz).mono (by
        rintro e w' ⟨v, h1, h2, h3, _⟩
        exact ⟨v, h1, h2, h3⟩)
      have HFi : Hid (∀ W tt, Below w.heap.size w W → Calls Tryz.prog 22 #[.slice (some ⟨b, o, none⟩) rs.length c, .int .i64 (n : Int), .string (Tx.bs tt)] W fun e w' => e = .returned (.int .i64 (askT d n tt)) ∧ Below W.heap.size W w') := fun W tt hb => rfind_any (HX.out W hb).doc HF.out (n : Int) (Tx.bs tt)
      have OS : Hid (∀ q (hq : q < (Wd.toksOf (valN d (n : Int) ⟨#[97, 114, 105, 97, 45, 111, 119, 110, 115]⟩)).length), outD d j n (q + 1) = claim1 d n (outD d j n q) (askT d n (Wd.toksOf (valN d (n : Int) ⟨#[97, 114, 105, 97, 45, 111, 119, 110, 115]⟩))[q])) := fun q hq => out_succ hq
      have OU : Hid (outD d j n (Wd.toksOf (valN d (n : Int) ⟨#[97, 114, 105, 97, 45, 111, 119, 110, 115]⟩)).length = claimN d (accD d j) n) := out_full d j n
      clear hz
      generalize Wd.toksOf (valN d (n : Int) ⟨#[97, 114, 105, 97, 45, 111, 119, 110, 115]⟩) = ts at *
      generalize valN d (n : Int) ⟨#[97, 114, 105, 97, 45, 111, 119, 110, 115]⟩ = sv at *
      generalize (attrN d (n : Int) ⟨#[97, 114, 105, 97, 45, 111, 119, 110, 115]⟩).isSome = sb at *
      subst e1
      have SN : Hid (n ∈ shD d) := hmem
      clear hmem
      go_upto_region 8 with (first
        | (go_at_call 18; refine hAt.mono ?_; rintro e w3 ⟨rfl, hb3⟩)
        | (go_at_call 21; refine (hTk.out _).mono ?_; rintro e w4 ⟨v4, rfl, ho4, hb4⟩; have ho4s := toks_at ho4; obtain ⟨pt, ct, rfl, t1, t2, _⟩ := ho4s))
      have B3 := hnx.trans (hb3.mono hnx.size)
      have B4 := B3.trans (hb4.mono B3.size)
      have O4 : OwnC w4 w2.heap.size u3 (outD d j n 0) := (hown.below hb3 (Nat.le_refl _)).below hb4 (Nat.le_refl _)
      have hr0 : ∀ q, u3.ownBlock = some q → q < w3.heap.size := fun q e => Nat.lt_of_lt_of_le (World.ownsRow.lt hown q e).2 hb3.size
      have TT : Hid (∀ W vq, Mv w4.heap.size u3.ownBlock (Value.ownBlock vq) w4 W → W.ownsRow w3.heap.size 9 1 (.slice pt ts.length ct) ts.length (ts.map Wd.tv)) := fun W vq hm => hm.owns2 ho4 (Nat.le_refl _) hr0
      clear hAt hTk ho4 hb3 hb4 hown B3 hnx hbz hr0 BW hc1
      generalize hr0e : u3.ownBlock = r0 at *
      go_loopw [3, 31] (fun v i wq => ∃ q : Nat, q ≤ ts.length ∧ i = .int .i64 q ∧ OwnC wq w2.heap.size v (outD d j n q) ∧ Below w2.heap.size w2 wq ∧ Mv w4.heap.size r0 v.ownBlock w4 wq) (fun _ i _ => ts.length - (intOf i).toNat)
      case atStart => exact ⟨0, Nat.zero_le _, rfl, O4, B4, by rw [hr0e]; exact Mv.refl _ _ _⟩
      case round =>
        obtain ⟨q, hq, rfl, ownq, hnq, MQ⟩ := hrel
        have hbq := hnq.size
        have BWq := hb2.trans (hnq.mono hb2.size)
        by_cases hql : q < ts.length
        · obtain ⟨_, _, he, _, _, hat⟩ := toks_at (TT.out wr u3 MQ)
          cases he
          obtain ⟨b3, o3, e3, hc3⟩ := hat q hql
          have hFi := HFi.out wr ts[q] BWq
          have O1 : Hid (outD d j n (q + 1) = claim1 d n (outD d j n q) (askT d n ts[q])) := OS.out q hql
          have LZ := OFn.out q
          have FQ : Hid (Forest d (outD d j n q)) := FOn.out q
          clear hat
          generalize askT d n ts[q] = k at *
          generalize Tx.bs ts[q] = tb at *
          subst e3
          have QO : Hid (∀ W (x : Int), Below wr.heap.size wr W → Calls Tryz.prog 24 #[u3, .int .i64 x] W fun e w' => e = .returned (.int .i64 (ownerD (outD d j n q) x)) ∧ Below W.heap.size W w') := fun W x hb => qowner_any (cls_of_owns (ownq.below hb (Nat.le_refl _))) x
          have QH : Hid (∀ W (m : Nat), Below wr.heap.size wr W → Calls Tryz.prog 23 #[.slice (some ⟨b1, o1, none⟩) (shD d).length cs, .int .i64 (m : Int)] W fun e w' => e = .returned (.bool ((shD d).contains m)) ∧ w' = W) := fun W m hb => qhas_any (I2.out.keeps (keeps_below (hnq.trans (hb.mono hbq)) (Nat.le_refl _))) m
          have QI : Hid (∀ W (x : Int), Below wr.heap.size wr W → Calls Tryz.prog 25 #[.slice (some ⟨b, o, none⟩) rs.length c, u3, .int .i64 x] W fun e w' => e = .returned (.int .i64 (inD d (outD d j n q) x)) ∧ Below W.heap.size W w') := fun W x hb => qin_any (HX.out W (BWq.trans (hb.mono BWq.size))).doc HF.out (cls_of_owns (ownq.below hb (Nat.le_refl _))) x
          by_cases hk1 : k < 1
          · have E : Hid (outD d j n (q + 1) = outD d j n q) := by show _ = _; rw [O1.out]; exact claim_no (by rw [takes_split, free_one hk1]; rfl)
            clear O1 FQ QO QH QI
            go_wp2_with (go_at_call 22; refine hFi.mono ?_; rintro e w9 ⟨rfl, hb9⟩)
            go_roundw
            case rel => exact ⟨q + 1, by omega, by go_num, by rw [E.out]; exact ownq.below hb9 (Nat.le_refl _), hnq.trans (hb9.mono hbq), MQ.below hb9⟩
            case measure => simp [intOf]; omega
          · obtain ⟨m, rfl⟩ : ∃ m : Nat, k = (m : Int) := ⟨k.toNat, by omega⟩
            have hm1 : 1 ≤ m := by omega
            have hm2 : ¬ m < 1 := by omega
            have QHm := fun W hb => QH.out W m hb
            cases hsc : (shD d).contains m with
            | false =>
              have E : Hid (outD d j n (q + 1) = outD d j n q) := by show _ = _; rw [O1.out]; exact claim_no (by rw [takes_split, free_two hsc]; rfl)
              rw [hsc] at QHm
              clear O1 FQ QO QH QI hsc
              go_wp2_with (first
                | (go_at_call 22; refine hFi.mono ?_; rintro e w9 ⟨rfl, hb9⟩; have hHk := QHm w9 hb9)
                | (go_at_call 23; refine hHk.mono ?_; rintro e w10 ⟨rfl, hw10⟩; subst hw10))
              go_roundw
              case rel => exact ⟨q + 1, by omega, by go_num, by rw [E.out]; exact ownq.below hb9 (Nat.le_refl _), hnq.trans (hb9.mono hbq), MQ.below hb9⟩
              case measure => simp [intOf]; omega
            | true =>
              rw [hsc] at QHm
              have QOm := fun W hb => QO.out W (m : Int) hb
              by_cases how : ownerD (outD d j n q) (m : Int) < 0
              · have FY := free_yes hm1 hsc how
                clear hsc QO QH
                have TK : Hid (outD d j n (q + 1) = if (wayD d (outD d j n q) (n : Int)).contains m then outD d j n q else outD d j n q ++ [(n, m)]) := by
                  show _ = _
                  rw [O1.out]
                  cases hcn : (wayD d (outD d j n q) (n : Int)).contains m with
                  | true => rw [claim_no (by rw [takes_split, FY, Int.toNat_natCast, hcn]; rfl)]; rfl
                  | false => rw [claim_yes (by rw [takes_split, FY, Int.toNat_natCast, hcn]; rfl)]; rfl
                have WC : Hid (∀ x ∈ shD d, wayD d (outD d j n q) (x : Int) = x :: wayD d (outD d j n q) (inD d (outD d j n q) (x : Int)) ∧ (inD d (outD d j n q) (x : Int) = -1 ∨ ∃ y ∈ shD d, inD d (outD d j n q) (x : Int) = (y : Int))) := fun x hx => ⟨way_cons HF.out FQ.out hx, in_cases HF.out FQ.out hx⟩
                have W0 : Hid (wayD d (outD d j n q) (-1) = []) := way_no d _ (by omega)
                clear O1 FQ FY
                generalize outD d j n q = l1 at *
                generalize ownerD l1 (m : Int) = ow at *
                go_upto_region 14 with (first
                  | (go_at_call 22; refine hFi.mono ?_; rintro e w9 ⟨rfl, hb9⟩; have hHk := QHm w9 hb9)
                  | (go_at_call 23; refine hHk.mono ?_; rintro e w10 ⟨rfl, hw10⟩; subst hw10; have hOk := QOm w10 hb9)
                  | (go_at_call 24; refine hOk.mono ?_; rintro e w11 ⟨rfl, hb11⟩))
                have BR : Below wr.heap.size wr w11 := hb9.trans (hb11.mono hb9.size)
                have QIr : Hid (∀ W (x : Int), Below w11.heap.size w11 W → Calls Tryz.prog 25 #[.slice (some ⟨b, o, none⟩) rs.length c, u3, .int .i64 x] W fun e w' => e = .returned (.int .i64 (inD d l1 x)) ∧ Below W.heap.size W w') := fun W x hb => QI.out W x (BR.trans (hb.mono BR.size))
                have OW11 := ownq.below BR (Nat.le_refl _)
                have N11 := hnq.trans (BR.mono hbq)
                have M11 := MQ.below BR
                clear hHk hOk QHm QOm QI hFi hc3 ownq hnq MQ hb9 hb11 how BWq
                generalize hv3 : u3 = v3 at *
                clear hv3
                go_loopw [12, 13] (fun lv av wq => ∃ (a : Int) (bb : Bool), lv = .bool bb ∧ av = .int .i64 a ∧ Hid ((wayD d l1 (n : Int)).contains m = (bb || (wayD d l1 a).contains m)) ∧ Hid (a = -1 ∨ ∃ y ∈ shD d, a = (y : Int)) ∧ Below w11.heap.size w11 wq) (fun _ av _ => (wayD d l1 (intOf av)).length)
                case atStart => exact ⟨(n : Int), false, rfl, rfl, by show _ = _; rw [Bool.false_or], Or.inr ⟨n, SN.out, rfl⟩, Below.refl _ _⟩
                case round =>
                  obtain ⟨a, bb, rfl, rfl, R, X, hb4⟩ := hrel
                  rcases X.out with rfl | ⟨y, hy, rfl⟩
                  · have hbb : Hid ((wayD d l1 (n : Int)).contains m = bb) := by show _ = _; rw [R.out, W0.out]; simp
                    have ow4 := OW11.below hb4 (Nat.le_refl _)
                    have nn4 := N11.trans (hb4.mono N11.size)
                    have mm4 := M11.below hb4
                    have zz4 := nn4.size
                    clear R X
                    cases bb with
                    | true =>
                      have E : Hid (outD d j n (q + 1) = l1) := by show _ = _; rw [TK.out, hbb.out]; rfl
                      clear TK hbb
                      go_wp2_with fail
                      go_roundw
                      case rel => exact ⟨q + 1, by omega, by go_num, by rw [E.out]; exact ow4, nn4, mm4⟩
                      case measure => simp [intOf]; omega
                    | false =>
                      have E : Hid (outD d j n (q + 1) = l1 ++ [(n, m)]) := by show _ = _; rw [TK.out, hbb.out]; rfl
                      clear TK hbb
                      go_wp2_with (at_builtin; refine append_claim2 (w0 := w2) (v := v3) rfl _ _ rfl n m rfl (by simp [Act.eval]) ow4 nn4 zz4 (by omega) ?_; intro v6 w6 o6 n6 g6 b6)
                      go_roundw
                      case rel => exact ⟨q + 1, by omega, by go_num, by rw [E.out]; exact o6, n6, mm4.trans ⟨g6.os, g6.tape, g6.output, g6.size, fun i hi _ hr => g6.block i hi (fun e => hr e), b6⟩⟩
                      case measure => simp [intOf]; omega
                  · obtain ⟨e1, e2⟩ := WC.out y hy
                    have R2 : Hid ((wayD d l1 (n : Int)).contains m = (bb || ((m == y) || (wayD d l1 (inD d l1 (y : Int))).contains m))) := by show _ = _; rw [R.out, e1, List.contains_cons]
                    have X2 : Hid (inD d l1 (y : Int) = -1 ∨ ∃ z ∈ shD d, inD d l1 (y : Int) = (z : Int)) := e2
                    have M : Hid ((wayD d l1 (inD d l1 (y : Int))).length < (wayD d l1 (y : Int)).length) := by show _ < _; rw [e1]; simp
                    have hI := QIr.out wr (y : Int) hb4
                    clear R X e1 e2 hy
                    generalize inD d l1 (y : Int) = z at *
                    cases bb with
                    | true =>
                      have R3 : Hid ((wayD d l1 (n : Int)).contains m = (true || (wayD d l1 z).contains m)) := by show _ = _; rw [R2.out]; rfl
                      clear R2
                      go_wp2_with (go_at_call 25; refine hI.mono ?_; rintro e w12 ⟨rfl, hb12⟩)
                      go_roundw
                      case rel => exact ⟨z, true, rfl, rfl, R3, X2, hb4.trans (hb12.mono hb4.size)⟩
                      case measure => simpa [intOf] using M.out
                    | false =>
                      by_cases e : y = m
                      · have R3 : Hid ((wayD d l1 (n : Int)).contains m = (true || (wayD d l1 z).contains m)) := by show _ = _; rw [R2.out, e]; simp
                        have hq7 : ((y : Int) == (m : Int)) = true := by simp [e]
                        clear R2 e
                        go_wp2_with (go_at_call 25; refine hI.mono ?_; rintro e w12 ⟨rfl, hb12⟩)
                        go_roundw
                        case rel => exact ⟨z, true, rfl, rfl, R3, X2, hb4.trans (hb12.mono hb4.size)⟩
                        case measure => simpa [intOf] using M.out
                      · have R3 : Hid ((wayD d l1 (n : Int)).contains m = (false || (wayD d l1 z).contains m)) := by show _ = _; rw [R2.out, beq_eq_false_iff_ne.2 (Ne.symm e)]; rfl
                        have hq7 : ((y : Int) == (m : Int)) = false := beq_eq_false_iff_ne.2 (by omega)
                        clear R2 e
                        go_wp2_with (go_at_call 25; refine hI.mono ?_; rintro e w12 ⟨rfl, hb12⟩)
                        go_roundw
                        case rel => exact ⟨z, false, rfl, rfl, R3, X2, hb4.trans (hb12.mono hb4.size)⟩
                        case measure => simpa [intOf] using M.out
              · have E : Hid (outD d j n (q + 1) = outD d j n q) := by show _ = _; rw [O1.out]; exact claim_no (by rw [takes_split, free_three how]; rfl)
                clear O1 FQ QO QH QI hsc
                generalize ownerD (outD d j n q) (m : Int) = ow at *
                go_wp2_with (first
                  | (go_at_call 22; refine hFi.mono ?_; rintro e w9 ⟨rfl, hb9⟩; have hHk := QHm w9 hb9)
                  | (go_at_call 23; refine hHk.mono ?_; rintro e w10 ⟨rfl, hw10⟩; subst hw10; have hOk := QOm w10 hb9)
                  | (go_at_call 24; refine hOk.mono ?_; rintro e w11 ⟨rfl, hb11⟩))
                go_roundw
                case rel => exact ⟨q + 1, by omega, by go_num, by rw [E.out]; exact (ownq.below hb9 (Nat.le_refl _)).below hb11 (Nat.le_refl _), (hnq.trans (hb9.mono hbq)).trans (hb11.mono (Nat.le_trans hbq hb9.size)), (MQ.below hb9).below hb11⟩
                case measure => simp [intOf]; omega
        · obtain rfl : q = ts.length := by omega
          have E : Hid (accD d (j + 1) = outD d j n ts.length) := by show _ = _; rw [AS.out, OU.out]
          go_wp2_with fail
          go_roundw
          case rel => exact ⟨j + 1, by omega, by go_num, by rw [E.out]; exact ownq, hnq⟩
          case measure => simp [intOf]; omega
    · obtain rfl : j = (shD d).length := by omega
      go_wp2_with fail
      go_ret
      exact ⟨_, rfl, by rw [← EF.out]; exact hown.mono hb2.size, BW⟩
end Go.Proofs.YtcinjbolflhjmadGreatDoor

/-
  THE WALKS of tnlaw7.alive, and of the reference's SameMemo at two that are the same.
-/
namespace Go.Proofs.YtcinjbolflhjmadGreatDoor
open Go.RowKit

def al7L : List Tn.Chg := [⟨1, 0, 0, -1, ⟨#[98, 117, 116, 116, 111, 110]⟩, ⟨#[]⟩⟩, ⟨2, 1, 0, -1, ⟨#[]⟩, ⟨#[32, 115, 97, 118, 101, 32, 32, 105, 116, 32]⟩⟩, ⟨5, 1, 0, 0, ⟨#[116, 105, 116, 108, 101]⟩, ⟨#[119, 104, 121]⟩⟩]
theorem al7_1 : (memoD (Tn.build al7L) [] 1).name = ⟨#[115, 97, 118, 101, 32, 105, 116]⟩ := by decide +kernel
theorem al7_2 : (memoD (Tn.build al7L) [] 1).about = ⟨#[119, 104, 121]⟩ := by decide +kernel
theorem al7_3 : (memoD (Tn.build al7L) [] 1).uses.length = 3 := by decide +kernel
theorem al7_sz : ∀ x ∈ al7L, x.value.size ≤ 4194304 ∧ x.name.size ≤ 4194304 := by decide

theorem nx_build {w : World} {g c : Nat} {rs : List Raw} {l : List Tn.Chg} (hd : DocAt w g 0 c rs (Tn.build l)) (T : Kn.TabAt w) (hsz : ∀ x ∈ l, x.value.size ≤ 4194304 ∧ x.name.size ≤ 4194304) {vl : Value} {cl : List Cl} (hc : ClsAt w vl cl) (hf : Forest (Tn.build l) cl) : Nx w g 0 c rs (Tn.build l) vl cl :=
  ⟨cx_build hd T hsz, hc, fun j => build_vt hsz j, hf⟩

set_option maxHeartbeats 1600000 in
theorem l7alive_any {w : World} (T : Kn.TabAt w) : Calls Tryz.prog 12 #[] w fun e w' => e = .returned (.bool true) ∧ Below w.heap.size w w' := by
  have hC := rbuild_good (chgs_new w al7L (by decide)) al7_sz
  have e : (al7L.flatMap chc).toArray = #[.int .i64 1, .int .i64 0, .int .i64 0, .int .i64 (-1), .string ⟨#[98, 117, 116, 116, 111, 110]⟩, .string ⟨#[]⟩, .int .i64 2, .int .i64 1, .int .i64 0, .int .i64 (-1), .string ⟨#[]⟩, .string ⟨#[32, 115, 97, 118, 101, 32, 32, 105, 116, 32]⟩, .int .i64 5, .int .i64 1, .int .i64 0, .int .i64 0, .string ⟨#[116, 105, 116, 108, 101]⟩, .string ⟨#[119, 104, 121]⟩] := rfl
  have e4 : al7L.length = 3 := rfl
  rw [e, e4] at hC
  have B1 := (Below.refl w.heap.size w).alloc (Nat.le_refl _) (.cells #[.int .i64 1, .int .i64 0, .int .i64 0, .int .i64 (-1), .string ⟨#[98, 117, 116, 116, 111, 110]⟩, .string ⟨#[]⟩, .int .i64 2, .int .i64 1, .int .i64 0, .int .i64 (-1), .string ⟨#[]⟩, .string ⟨#[32, 115, 97, 118, 101, 32, 32, 105, 116, 32]⟩, .int .i64 5, .int .i64 1, .int .i64 0, .int .i64 0, .string ⟨#[116, 105, 116, 108, 101]⟩, .string ⟨#[119, 104, 121]⟩] 40)
  have S1 : Hid (∀ W g c rs, DocAt W g 0 c rs (Tn.build al7L) → Below w.heap.size w W → Calls Tryz.prog 10 #[.slice (some ⟨g, 0, none⟩) rs.length c, .slice none 0 0, .int .i64 1] W fun e w' => (∃ p c, e = .returned (.agg #[.int .i64 1, .string ⟨#[115, 97, 118, 101, 32, 105, 116]⟩, .string ⟨#[119, 104, 121]⟩, .slice p 3 c])) ∧ Below W.heap.size W w') := fun W g c rs h hb => by
    have hn := nof_any (nx_build h (T.below hb) al7_sz (cls_nil W) (forest_nil (build_fine al7L))) 1
    rw [al7_1, al7_2] at hn
    refine hn.mono ?_
    rintro e w' ⟨v, rfl, ho, hb2⟩
    obtain ⟨p, c2, rfl⟩ := ho.shape
    rw [al7_3]
    exact ⟨⟨p, c2, rfl⟩, hb2⟩
  clear e e4
  generalize Tn.build al7L = d at *
  go_enter Tryz.func12, Tryz.ntmps12
  go_wp2_with (first
    | (go_at_call 7; refine hC.mono ?_; rintro e w1 ⟨g, c, rs, rfl, hd1, hb0⟩; have hb1 := B1.trans (hb0.mono B1.size); have J1 := S1.out _ _ _ _ hd1 hb1; clear hd1)
    | (go_at_call 10; refine J1.mono ?_; clear J1; rintro e w2 ⟨⟨pv, cv, rfl⟩, hb2⟩))
  go_ret
  exact ⟨rfl, (hb1.trans (hb2.mono hb1.size)).alloc (by have := hb1.size; have := hb2.size; omega) _⟩

set_option maxHeartbeats 1600000 in
theorem qsamememo_eq {w : World} {n : Int} {nm ab : ByteArray} {v1 v2 : Value} {l : List Nat} (h1 : IntsAt w v1 l) (h2 : IntsAt w v2 l) :
    Calls Tryz.prog 9 #[.agg #[.int .i64 n, .string nm, .string ab, v1], .agg #[.int .i64 n, .string nm, .string ab, v2]] w fun e w' => e = .returned (.bool true) ∧ Below w.heap.size w w' := by
  have B2 := ((Below.refl w.heap.size w).alloc (Nat.le_refl _) (.cells #[.int .i64 n, .string nm, .string ab, v1] 31)).alloc (by simp) (.cells #[.int .i64 n, .string nm, .string ab, v2] 31)
  have K2 := keeps_below B2 (Nat.le_refl _)
  have hS := rsameints_true (h1.keeps K2) (h2.keeps K2)
  obtain ⟨p1, c1, rfl, _⟩ := h1.at
  obtain ⟨p2, c2, rfl, _⟩ := h2.at
  have e1 : (nm.toList == nm.toList) = true := by simp
  have e2 : (ab.toList == ab.toList) = true := by simp
  have e3 : (n == n) = true := by simp
  clear h1 h2
  go_enter Tryz.func9, Tryz.ntmps9
  go_wp2_with (go_at_call 26; refine hS.mono ?_; rintro e w2 ⟨rfl, hb2⟩)
  go_ret
  exact ⟨rfl, B2.trans (hb2.mono B2.size)⟩

/-- how long names are -/
theorem memo_size {d : Tn.Dc} (hF : Fine d) (hV : ∀ j, Vn (Tn.nd d j)) (hT : ∀ j, Vt (Tn.nd d j)) {cl : List Cl} (hC : Forest d cl) (n : Int) : (memoD d cl n).name.size ≤ 1073741824 ∧ (memoD d cl n).about.size ≤ 1073741824 := by
  have em : emB.size = 0 := rfl
  by_cases hi : Tn.isN d n false = true
  · obtain ⟨k, rfl, hk, hlv⟩ := isN_nat hi
    have hlv : Tn.lvD d k = true := hlv
    cases hq : (!Tn.has (Tn.nd d k).tag || namedI (roleD d (k : Int))) with
    | false =>
      rw [memo_not hlv hq]
      exact ⟨by simp [em], by simp [em]⟩
    | true =>
      have P := memo_asked hF hV hT hC hlv hq
      have hNok := name_ok hF hV hT hC 64
      have h1 := hNok ⟨[], lineD d (k : Int), []⟩ k false ⟨by simp, by simp, by simp, by simp⟩ (by simp) hlv (by simp)
      rw [P.name, P.about]
      generalize nameF 64 d cl ⟨[], lineD d (k : Int), []⟩ k false = r at *
      have hr := h1.size
      have hf := h1.went.ok.few hF
      have hm : VL * (r.2.had.length - ([] : List Nat).length) ≤ VL * 60 := Nat.mul_le_mul_left _ (by simp; omega)
      have okA : OkS d ⟨[k], r.2.asked, []⟩ := ⟨by simp, by simpa using hlv, by simp, by simp⟩
      have hL := list_went hF hC hNok (k : Int) ⟨#[97, 114, 105, 97, 45, 100, 101, 115, 99, 114, 105, 98, 101, 100, 98, 121]⟩ okA (by simp)
      have hf2 := hL.1.ok.few hF
      have hm2 : VL * ((listD (nameF 64 d cl) d cl (k : Int) ⟨#[97, 114, 105, 97, 45, 100, 101, 115, 99, 114, 105, 98, 101, 100, 98, 121]⟩ ⟨[k], r.2.asked, []⟩).2.had.length - [k].length) ≤ VL * 60 := Nat.mul_le_mul_left _ (by omega)
      have hs := said_size hV (k : Int) ⟨#[116, 105, 116, 108, 101]⟩
      have hLs := hL.2
      refine ⟨by unfold VL at *; simp only at hr; omega, ?_⟩
      unfold abR
      split
      · unfold aboutT
        split
        · simp only; omega
        · unfold VL at *
          simp only at hLs
          omega
      · simp [em]
  · unfold memoD
    rw [if_neg hi]
    exact ⟨by simp [em], by simp [em]⟩
end Go.Proofs.YtcinjbolflhjmadGreatDoor

/-
  THE WALK of tnlaw7's NamingSqueezed.
-/
namespace Go.Proofs.YtcinjbolflhjmadGreatDoor
open Go.RowKit

set_option maxHeartbeats 6400000 in
set_option maxRecDepth 100000 in
theorem nsqueezed_walk {w : World} (T : Kn.TabAt w) {vl : Value} {l : List Tn.Chg} (hl : ChgsAt w vl l) (hsz : ∀ x ∈ l, x.value.size ≤ 4194304 ∧ x.name.size ≤ 4194304) (n : Int) :
    Calls Tryz.prog 6 #[vl, .int .i64 n] w fun e w' => e = .returned (.bool true) ∧ Below w.heap.size w w' := by
  have hA := l7alive_any T
  have QB : Hid (∀ W, Below w.heap.size w W → Calls Tryz.prog 7 #[vl] W fun e w' => ∃ g c rs, e = .returned (.slice (some ⟨g, 0, none⟩) rs.length c) ∧ DocAt w' g 0 c rs (Tn.build l) ∧ Below W.heap.size W w') := fun W hW => rbuild_good (hl.keeps (keeps_below hW (Nat.le_refl _))) hsz
  have C : Hid (∀ w1 g c rs, DocAt w1 g 0 c rs (Tn.build l) → Below w.heap.size w w1 → Cx w1 g 0 c rs (Tn.build l)) := fun w1 g c rs h hb => cx_build h (T.below hb) hsz
  have hF := build_fine l
  have hV : ∀ j, Vn (Tn.nd (Tn.build l) j) := build_vn hsz
  have hT : ∀ j, Vt (Tn.nd (Tn.build l) j) := fun j => build_vt hsz j
  obtain ⟨p, cp, rfl, _, _, _⟩ := hl.at
  clear hl hsz T
  generalize Tn.build l = d at *
  have hC := forest_claims hF
  have SZ := memo_size hF hV hT hC n
  have SQ := memo_sq d (claimsD d) n
  have NO := memo_none d (claimsD d) n
  have QC : Hid (∀ W g c rs, Cx W g 0 c rs d → Calls Tryz.prog 8 #[.slice (some ⟨g, 0, none⟩) rs.length c] W fun e w' => ∃ p cc, e = .returned (.slice p (claimsD d).length cc) ∧ ClsAt w' (.slice p (claimsD d).length cc) (claimsD d) ∧ Below W.heap.size W w') := fun W g c rs h => (qclaims_any ⟨h.doc, h.fine, h.vn⟩).mono (by
    rintro e w' ⟨v, rfl, ho, hb⟩
    obtain ⟨p, cc, rfl, _⟩ := (cls_of_owns ho)
    exact ⟨p, cc, rfl, cls_of_owns ho, hb⟩)
  have ON : Hid (∀ W g c rs p cc, Cx W g 0 c rs d → ClsAt W (.slice p (claimsD d).length cc) (claimsD d) → Calls Tryz.prog 10 #[.slice (some ⟨g, 0, none⟩) rs.length c, .slice p (claimsD d).length cc, .int .i64 n] W fun e w' => (∃ p c, e = .returned (.agg #[.int .i64 n, .string (memoD d (claimsD d) n).name, .string (memoD d (claimsD d) n).about, .slice p (memoD d (claimsD d) n).uses.length c])) ∧ Below W.heap.size W w') := fun W g c rs p cc h hc => (nof_any ⟨h, hc, hT, hC⟩ n).mono (by
    rintro e w' ⟨v, rfl, ho, hb2⟩
    obtain ⟨p, c2, rfl⟩ := ho.shape
    exact ⟨⟨p, c2, rfl⟩, hb2⟩)
  have RS : Hid (∀ W s, s.size ≤ 1073741824 → Wd.sqz s = s → Calls Tryz.prog 14 #[.string s] W fun e w' => e = .returned (.string s) ∧ Below W.heap.size W w') := fun W s h1 h2 => by
    have := Wd.rsqueeze_big s W h1
    rw [h2] at this
    exact this
  have SN := fun W => RS.out W _ SZ.1 SQ.1
  have SA := fun W => RS.out W _ SZ.2 SQ.2.1
  have SQ3 := SQ.2.2
  have QH : Hid (∀ W g c rs, Cx W g 0 c rs d → Calls Tryz.prog 15 #[.slice (some ⟨g, 0, none⟩) rs.length c, .int .i64 n] W fun e w' => e = .returned (.bool (hidD d n)) ∧ Below W.heap.size W w') := fun W g c rs h => qhid_all h n
  have QI : Hid (∀ W g c rs, Cx W g 0 c rs d → Calls Tryz.prog 19 #[.slice (some ⟨g, 0, none⟩) rs.length c, .int .i64 n, .bool true] W fun e w' => e = .returned (.bool (Tn.isN d n true)) ∧ w' = W) := fun W g c rs h => ris_any h.doc n true
  have QR : Hid (∀ W g c rs, Cx W g 0 c rs d → Calls Tryz.prog 17 #[.slice (some ⟨g, 0, none⟩) rs.length c, .int .i64 n] W fun e w' => e = .returned (.int .i64 (roleD d n)) ∧ Below W.heap.size W w') := fun W g c rs h => qrole_all h n
  have QK : Hid (∀ W (r : Int), Calls Tryz.prog 16 #[.int .i64 r] W fun e w' => ∃ nm x1 x2 x3 x4 z, e = .returned (.agg #[.string nm, .bool x1, .bool x2, .bool x3, .bool x4, .bool (namedI r), .int .i64 z]) ∧ Below W.heap.size W w') := fun W r => (Kn.qkind_any (w := W) r).mono (by
    rintro e w' ⟨rfl, hb⟩
    exact ⟨_, _, _, _, _, _, rfl, hb⟩)
  have QK1 := fun W => QK.out W (roleD d n)
  have fields := field_named
  have NO2 : Hid (hidD d n = true ∨ (Tn.isN d n true = true ∧ namedI (roleD d n) = false) → (memoD d (claimsD d) n).name = emB) := NO
  have SQ4 : Hid (full (memoD d (claimsD d) n).name = false → (memoD d (claimsD d) n).about = emB) := SQ3
  clear hF hV hT hC SZ SQ NO SQ3 RS QK
  generalize (memoD d (claimsD d) n).name = nm at *
  generalize (memoD d (claimsD d) n).about = ab at *
  generalize (memoD d (claimsD d) n).uses.length = ul at *
  generalize hidD d n = hd at *
  generalize Tn.isN d n true = ie at *
  generalize namedI (roleD d n) = nd at *
  generalize roleD d n = ro at *
  go_enter Tryz.func6, Tryz.ntmps6
  go_upto_region 4 with (first
    | (go_at_call 12; refine hA.mono ?_; rintro e w1 ⟨rfl, hb1⟩)
    | (go_at_call 7; refine (QB.out _ hb1).mono ?_; rintro e w2 ⟨g, c, rs, rfl, hd2, hb2⟩; have B2 := hb1.trans (hb2.mono hb1.size); have C2 : Hid (Cx w2 g 0 c rs d) := C.out _ _ _ _ hd2 B2; clear hd2))
  go_upto_region 5 with (first
    | (go_at_call 8; refine (QC.out _ _ _ _ C2.out).mono ?_; rintro e w3 ⟨p3, c3, rfl, hc3, hb3⟩; have C3 : Hid (Cx w3 g 0 c rs d) := C2.out.below hb3; have J3 := ON.out _ _ _ _ _ _ C3.out hc3; clear hc3)
    | (go_at_call 10; refine J3.mono ?_; clear J3; rintro e w4 ⟨⟨p4, c4, rfl⟩, hb4⟩; have C4 : Hid (Cx w4 g 0 c rs d) := C3.out.below hb4))
  have B4 : Below w.heap.size w w4 := B2.trans ((hb3.mono B2.size).trans (hb4.mono (Nat.le_trans B2.size hb3.size)))
  have B5 : Below w.heap.size w (w4.alloc (.cells #[.int .i64 n, .string nm, .string ab, .slice p4 ul c4] 31)) := B4.alloc B4.size _
  have C5 : Hid (Cx (w4.alloc (.cells #[.int .i64 n, .string nm, .string ab, .slice p4 ul c4] 31)) g 0 c rs d) := C4.out.below ((Below.refl _ _).alloc (Nat.le_refl _) _)
  have bx := box4' w4 (.int .i64 n) (.string nm) (.string ab) (.slice p4 ul c4) 31
  obtain ⟨m0, m1, m2, m3⟩ := bx
  have HB5 : Hid (Below w.heap.size w (w4.alloc (.cells #[.int .i64 n, .string nm, .string ab, .slice p4 ul c4] 31))) := B5
  clear hb1 hb2 hb3 hb4 B2 C2 C3 C4 B4 B5 QC ON QB C hA
  generalize w4.alloc (.cells #[.int .i64 n, .string nm, .string ab, .slice p4 ul c4] 31) = w5 at *
  generalize w4.heap.size = M at *
  go_cut [39] from 16 to 38 (fun tv wc => tv = .bool false ∧ Below w5.heap.size w5 wc)
  case first =>
    have SS : ∀ w'', Keeps w5 w'' → (fun w'' : World => w''.cell? ⟨M, 1, none⟩ = some (.string nm) ∧ w''.cell? ⟨M, 2, none⟩ = some (.string ab)) w'' := fun w'' hk => ⟨hk _ _ m1, hk _ _ m2⟩
    have e1 : (nm.toList != nm.toList) = false := by simp
    have e2 : (ab.toList != ab.toList) = false := by simp
    cases hs : nm.toList.isEmpty with
    | true =>
      have ha : ab.toList.isEmpty = true := by
        have h : full nm = false := full_no hs
        rw [SQ4.out h]
        decide +kernel
      clear NO2 SQ4
      go_region_held3 (fun w'' : World => w''.cell? ⟨M, 1, none⟩ = some (.string nm) ∧ w''.cell? ⟨M, 2, none⟩ = some (.string ab))
        ((apply SS; first | exact Keeps.refl _ | assumption | exact keeps_drew (Keeps.refl _)))
        (first
          | (go_at_call 14; refine (SN _).mono ?_; rintro e wa ⟨rfl, hba⟩; have Ba : Below w5.heap.size w5 wa := (Below.refl _ w5).drew.trans (hba.mono (Nat.le_refl _)); have Ja : Keeps w5 wa := keeps_below Ba (Nat.le_refl _))
          | (go_at_call 14; refine (SA _).mono ?_; rintro e wb ⟨rfl, hbb⟩; have Bb : Below w5.heap.size w5 wb := Ba.trans (hbb.mono Ba.size); have Jb : Keeps w5 wb := keeps_below Bb (Nat.le_refl _)))
      all_goals
        go_wp2_with fail
        go_meet
        exact ⟨rfl, Bb⟩
    | false =>
      clear NO2 SQ4
      refine wp_region_held_drew (S := fun w'' : World => w''.cell? ⟨M, 1, none⟩ = some (.string nm) ∧ w''.cell? ⟨M, 2, none⟩ = some (.string ab)) (by kernel_rfl) ?_ (fun hHeld => ?_)
      · (apply SS; first | exact Keeps.refl _ | assumption | exact keeps_drew (Keeps.refl _))
      refine wpAnyH_take (i := 0) (v := ?v0) rfl (by kernel_rfl) (by kernel_rfl) (by kernel_rfl) (fun _ _ _ h => h) (Or.inl ⟨by kernel_rfl, ?hy0⟩) (by assumption) ?rest0
      case hy0 => intro wS hSw; (try dsimp only at hSw); (try obtain ⟨hSw, hSw2⟩ := hSw); first | (go_simp; done) | (go_simp; with_reducible rfl) | with_reducible rfl
      (try simp only [List.getElem_toArray, List.getElem_cons_zero]); (try dsimp only); (try go_frame)
      refine wpAnyH_take (i := 1) (v := ?v1) rfl (by kernel_rfl) (by kernel_rfl) (by kernel_rfl) (fun _ _ _ h => h) (Or.inl ⟨by kernel_rfl, ?hy1⟩) (by assumption) ?rest1
      case hy1 => intro wS hSw; (try dsimp only at hSw); (try obtain ⟨hSw, hSw2⟩ := hSw); first | (go_simp; done) | (go_simp; with_reducible rfl) | with_reducible rfl
      (try simp only [List.getElem_toArray, List.getElem_cons_succ, List.getElem_cons_zero]); (try dsimp only); (try go_frame)
      refine wpAnyH_take (i := 3) (v := ?v3) rfl (by kernel_rfl) (by kernel_rfl) (by kernel_rfl) (fun _ _ _ h => h) (Or.inl ⟨by kernel_rfl, ?hy3⟩) (by assumption) ?rest3
      case hy3 => intro wS hSw; (try dsimp only at hSw); (try obtain ⟨hSw, hSw2⟩ := hSw); first | (go_simp; done) | (go_simp; with_reducible rfl) | with_reducible rfl
      (try simp only [List.getElem_toArray, List.getElem_cons_succ, List.getElem_cons_zero]); (try dsimp only); (try go_frame)
      refine wpAnyH_take (i := 4) (v := ?v4) rfl (by kernel_rfl) (by kernel_rfl) (by kernel_rfl) (fun _ _ _ h => h) (Or.inl ⟨by kernel_rfl, ?hy4⟩) (by assumption) ?rest4
      case hy4 => intro wS hSw; (try dsimp only at hSw); (try obtain ⟨hSw, hSw2⟩ := hSw); first | (go_simp; done) | (go_simp; with_reducible rfl) | with_reducible rfl
      (try simp only [List.getElem_toArray, List.getElem_cons_succ, List.getElem_cons_zero]); (try dsimp only); (try go_frame)
      refine wpAnyH_ready (rs := [2]) (by kernel_rfl) (by simp) ?_
      refine AllReadyH.cons rfl (fun K hK => ?_) AllReadyH.nil
      go_simp
      go_at_call 14; refine (SN _).mono ?_; rintro e wa ⟨rfl, hba⟩; have Ba : Below w5.heap.size w5 wa := (Below.refl _ w5).drew.trans (hba.mono (Nat.le_refl _)); have Ja : Keeps w5 wa := keeps_below Ba (Nat.le_refl _)
      go_wp2_with fail
      clear hHeld
      refine hK.out _ _ ?_ (fun hHeld => ?_)
      · (apply SS; first | exact Keeps.refl _ | assumption | exact keeps_drew (Keeps.refl _))
      clear hK K
      (try simp only [List.getElem_toArray, List.getElem_cons_succ, List.getElem_cons_zero]); (try dsimp only); (try go_frame)
      refine wpAnyH_take (i := 5) (v := ?v5) rfl (by kernel_rfl) (by kernel_rfl) (by kernel_rfl) (fun _ _ _ h => h) (Or.inl ⟨by kernel_rfl, ?hy5⟩) (by assumption) ?rest5
      case hy5 => intro wS hSw; (try dsimp only at hSw); (try obtain ⟨hSw, hSw2⟩ := hSw); first | (go_simp; done) | (go_simp; with_reducible rfl) | with_reducible rfl
      (try simp only [List.getElem_toArray, List.getElem_cons_succ, List.getElem_cons_zero]); (try dsimp only); (try go_frame)
      refine wpAnyH_take (i := 6) (v := ?v6) rfl (by kernel_rfl) (by kernel_rfl) (by kernel_rfl) (fun _ _ _ h => h) (Or.inl ⟨by kernel_rfl, ?hy6⟩) (by assumption) ?rest6
      case hy6 => intro wS hSw; (try dsimp only at hSw); (try obtain ⟨hSw, hSw2⟩ := hSw); first | (go_simp; done) | (go_simp; with_reducible rfl) | with_reducible rfl
      (try simp only [List.getElem_toArray, List.getElem_cons_succ, List.getElem_cons_zero]); (try dsimp only); (try go_frame)
      refine wpAnyH_take (i := 7) (v := ?v7) rfl (by kernel_rfl) (by kernel_rfl) (by kernel_rfl) (fun _ _ _ h => h) (Or.inl ⟨by kernel_rfl, ?hy7⟩) (by assumption) ?rest7
      case hy7 => intro wS hSw; (try dsimp only at hSw); (try obtain ⟨hSw, hSw2⟩ := hSw); first | (go_simp; done) | (go_simp; with_reducible rfl) | with_reducible rfl
      (try simp only [List.getElem_toArray, List.getElem_cons_succ, List.getElem_cons_zero]); (try dsimp only); (try go_frame)
      refine wpAnyH_take (i := 8) (v := ?v8) rfl (by kernel_rfl) (by kernel_rfl) (by kernel_rfl) (fun _ _ _ h => h) (Or.inl ⟨by kernel_rfl, ?hy8⟩) (by assumption) ?rest8
      case hy8 => intro wS hSw; (try dsimp only at hSw); (try obtain ⟨hSw, hSw2⟩ := hSw); first | (go_simp; done) | (go_simp; with_reducible rfl) | with_reducible rfl
      (try simp only [List.getElem_toArray, List.getElem_cons_succ, List.getElem_cons_zero]); (try dsimp only); (try go_frame)
      refine wpAnyH_take (i := 10) (v := ?v10) rfl (by kernel_rfl) (by kernel_rfl) (by kernel_rfl) (fun _ _ _ h => h) (Or.inl ⟨by kernel_rfl, ?hy10⟩) (by assumption) ?rest10
      case hy10 => intro wS hSw; (try dsimp only at hSw); (try obtain ⟨hSw, hSw2⟩ := hSw); first | (go_simp; done) | (go_simp; with_reducible rfl) | with_reducible rfl
      (try simp only [List.getElem_toArray, List.getElem_cons_succ, List.getElem_cons_zero]); (try dsimp only); (try go_frame)
      refine wpAnyH_take (i := 11) (v := ?v11) rfl (by kernel_rfl) (by kernel_rfl) (by kernel_rfl) (fun _ _ _ h => h) (Or.inl ⟨by kernel_rfl, ?hy11⟩) (by assumption) ?rest11
      case hy11 => intro wS hSw; (try dsimp only at hSw); (try obtain ⟨hSw, hSw2⟩ := hSw); first | (go_simp; done) | (go_simp; with_reducible rfl) | with_reducible rfl
      (try simp only [List.getElem_toArray, List.getElem_cons_succ, List.getElem_cons_zero]); (try dsimp only); (try go_frame)
      refine wpAnyH_ready (rs := [9]) (by kernel_rfl) (by simp) ?_
      refine AllReadyH.cons rfl (fun K hK => ?_) AllReadyH.nil
      go_simp
      go_at_call 14; refine (SA _).mono ?_; rintro e wb ⟨rfl, hbb⟩; have Bb : Below w5.heap.size w5 wb := Ba.trans (hbb.mono Ba.size); have Jb : Keeps w5 wb := keeps_below Bb (Nat.le_refl _)
      go_wp2_with fail
      clear hHeld
      refine hK.out _ _ ?_ (fun hHeld => ?_)
      · (apply SS; first | exact Keeps.refl _ | assumption | exact keeps_drew (Keeps.refl _))
      clear hK K
      (try simp only [List.getElem_toArray, List.getElem_cons_succ, List.getElem_cons_zero]); (try dsimp only); (try go_frame)
      refine wpAnyH_take (i := 12) (v := ?v12) rfl (by kernel_rfl) (by kernel_rfl) (by kernel_rfl) (fun _ _ _ h => h) (Or.inl ⟨by kernel_rfl, ?hy12⟩) (by assumption) ?rest12
      case hy12 => intro wS hSw; (try dsimp only at hSw); (try obtain ⟨hSw, hSw2⟩ := hSw); first | (go_simp; done) | (go_simp; with_reducible rfl) | with_reducible rfl
      (try simp only [List.getElem_toArray, List.getElem_cons_succ, List.getElem_cons_zero]); (try dsimp only); (try go_frame)
      refine wpAnyH_take (i := 13) (v := ?v13) rfl (by kernel_rfl) (by kernel_rfl) (by kernel_rfl) (fun _ _ _ h => h) (Or.inl ⟨by kernel_rfl, ?hy13⟩) (by assumption) ?rest13
      case hy13 => intro wS hSw; (try dsimp only at hSw); (try obtain ⟨hSw, hSw2⟩ := hSw); first | (go_simp; done) | (go_simp; with_reducible rfl) | with_reducible rfl
      (try simp only [List.getElem_toArray, List.getElem_cons_succ, List.getElem_cons_zero]); (try dsimp only); (try go_frame)
      refine wpAnyH_take (i := 14) (v := ?v14) rfl (by kernel_rfl) (by kernel_rfl) (by kernel_rfl) (fun _ _ _ h => h) (Or.inl ⟨by kernel_rfl, ?hy14⟩) (by assumption) ?rest14
      case hy14 => intro wS hSw; (try dsimp only at hSw); (try obtain ⟨hSw, hSw2⟩ := hSw); first | (go_simp; done) | (go_simp; with_reducible rfl) | with_reducible rfl
      (try simp only [List.getElem_toArray, List.getElem_cons_succ, List.getElem_cons_zero]); (try dsimp only); (try go_frame)
      refine wpAnyH_take (i := 15) (v := ?v15) rfl (by kernel_rfl) (by kernel_rfl) (by kernel_rfl) (fun _ _ _ h => h) (Or.inl ⟨by kernel_rfl, ?hy15⟩) (by assumption) ?rest15
      case hy15 => intro wS hSw; (try dsimp only at hSw); (try obtain ⟨hSw, hSw2⟩ := hSw); first | (go_simp; done) | (go_simp; with_reducible rfl) | with_reducible rfl
      (try simp only [List.getElem_toArray, List.getElem_cons_succ, List.getElem_cons_zero]); (try dsimp only); (try go_frame)
      refine wpAnyH_take (i := 16) (v := ?v16) rfl (by kernel_rfl) (by kernel_rfl) (by kernel_rfl) (fun _ _ _ h => h) (Or.inl ⟨by kernel_rfl, ?hy16⟩) (by assumption) ?rest16
      case hy16 => intro wS hSw; (try dsimp only at hSw); (try obtain ⟨hSw, hSw2⟩ := hSw); first | (go_simp; done) | (go_simp; with_reducible rfl) | with_reducible rfl
      (try simp only [List.getElem_toArray, List.getElem_cons_succ, List.getElem_cons_zero]); (try dsimp only); (try go_frame)
      refine wpAnyH_take (i := 17) (v := ?v17) rfl (by kernel_rfl) (by kernel_rfl) (by kernel_rfl) (fun _ _ _ h => h) (Or.inl ⟨by kernel_rfl, ?hy17⟩) (by assumption) ?rest17
      case hy17 => intro wS hSw; (try dsimp only at hSw); (try obtain ⟨hSw, hSw2⟩ := hSw); first | (go_simp; done) | (go_simp; with_reducible rfl) | with_reducible rfl
      (try simp only [List.getElem_toArray, List.getElem_cons_succ, List.getElem_cons_zero]); (try dsimp only); (try go_frame)
      refine wpAnyH_take (i := 18) (v := ?v18) rfl (by kernel_rfl) (by kernel_rfl) (by kernel_rfl) (fun _ _ _ h => h) (Or.inl ⟨by kernel_rfl, ?hy18⟩) (by assumption) ?rest18
      case hy18 => intro wS hSw; (try dsimp only at hSw); (try obtain ⟨hSw, hSw2⟩ := hSw); first | (go_simp; done) | (go_simp; with_reducible rfl) | with_reducible rfl
      (try simp only [List.getElem_toArray, List.getElem_cons_succ, List.getElem_cons_zero]); (try dsimp only); (try go_frame)
      refine wpAnyH_take (i := 19) (v := undef) rfl (by kernel_rfl) (by kernel_rfl) (by kernel_rfl) (fun _ _ _ h => h) (Or.inr ⟨by kernel_rfl, rfl⟩) (by assumption) ?_
      (try simp only [List.getElem_toArray, List.getElem_cons_succ, List.getElem_cons_zero]); (try dsimp only); (try go_frame)
      refine wpAnyH_take (i := 20) (v := undef) rfl (by kernel_rfl) (by kernel_rfl) (by kernel_rfl) (fun _ _ _ h => h) (Or.inr ⟨by kernel_rfl, rfl⟩) (by assumption) ?_
      (try simp only [List.getElem_toArray, List.getElem_cons_succ, List.getElem_cons_zero]); (try dsimp only); (try go_frame)
      refine wpAnyH_take (i := 21) (v := undef) rfl (by kernel_rfl) (by kernel_rfl) (by kernel_rfl) (fun _ _ _ h => h) (Or.inr ⟨by kernel_rfl, rfl⟩) (by assumption) ?_
      (try simp only [List.getElem_toArray, List.getElem_cons_succ, List.getElem_cons_zero]); (try dsimp only); (try go_frame)
      refine wpAnyH_take (i := 22) (v := ?v22) rfl (by kernel_rfl) (by kernel_rfl) (by kernel_rfl) (fun _ _ _ h => h) (Or.inl ⟨by kernel_rfl, ?hy22⟩) (by assumption) ?rest22
      case hy22 => intro wS hSw; (try dsimp only at hSw); (try obtain ⟨hSw, hSw2⟩ := hSw); first | (go_simp; done) | (go_simp; with_reducible rfl) | with_reducible rfl
      (try simp only [List.getElem_toArray, List.getElem_cons_succ, List.getElem_cons_zero]); (try dsimp only); (try go_frame)
      refine wpAnyH_take (i := 23) (v := ?v23) rfl (by kernel_rfl) (by kernel_rfl) (by kernel_rfl) (fun _ _ _ h => h) (Or.inl ⟨by kernel_rfl, ?hy23⟩) (by assumption) ?rest23
      case hy23 => intro wS hSw; (try dsimp only at hSw); (try obtain ⟨hSw, hSw2⟩ := hSw); first | (go_simp; done) | (go_simp; with_reducible rfl) | with_reducible rfl
      (try simp only [List.getElem_toArray, List.getElem_cons_succ, List.getElem_cons_zero]); (try dsimp only); (try go_frame)
      refine wpAnyH_done (by kernel_rfl) ?_ _
      all_goals
        go_wp2_with fail
        go_meet
        exact ⟨rfl, Bb⟩
  case rest =>
  obtain ⟨rfl, hbc⟩ := hcut
  have Bc : Below w.heap.size w wc := HB5.out.trans (hbc.mono HB5.out.size)
  have CC : Hid (Cx wc g 0 c rs d) := C5.out.below hbc
  have mm := keeps_below hbc (Nat.le_refl _) _ _ m1
  clear m0 m1 m2 m3 SN SA SQ4 hbc C5 HB5
  have J1 := QH.out _ _ _ _ CC.out
  have QI2 : Hid (∀ W, Below wc.heap.size wc W → Calls Tryz.prog 19 #[.slice (some ⟨g, 0, none⟩) rs.length c, .int .i64 n, .bool true] W fun e w' => e = .returned (.bool ie) ∧ w' = W) := fun W hb => QI.out _ _ _ _ (CC.out.below hb)
  have QR2 : Hid (∀ W, Below wc.heap.size wc W → Calls Tryz.prog 17 #[.slice (some ⟨g, 0, none⟩) rs.length c, .int .i64 n] W fun e w' => e = .returned (.int .i64 ro) ∧ Below W.heap.size W w') := fun W hb => QR.out _ _ _ _ (CC.out.below hb)
  clear QH QI QR CC
  cases hd with
  | true =>
    have hs : nm.toList.isEmpty = true := by
      rw [NO2.out (Or.inl rfl)]
      decide +kernel
    clear NO2
    go_wp2_with (go_at_call 15; refine J1.mono ?_; rintro e w6 ⟨rfl, hb6⟩; have n6 := keeps_below hb6 (Nat.le_refl _) _ _ mm)
    go_ret
    exact ⟨by simp, Bc.trans (hb6.mono Bc.size)⟩
  | false =>
    cases ie with
    | false =>
      clear NO2
      go_wp2_with (first
        | (go_at_call 15; refine J1.mono ?_; rintro e w6 ⟨rfl, hb6⟩; have J2 := QI2.out w6 hb6)
        | (go_at_call 19; refine J2.mono ?_; rintro e w7 ⟨rfl, hww⟩; subst hww))
      go_ret
      exact ⟨rfl, Bc.trans (hb6.mono Bc.size)⟩
    | true =>
      cases nd with
      | true =>
        clear NO2
        go_wp2_with (first
          | (go_at_call 15; refine J1.mono ?_; rintro e w6 ⟨rfl, hb6⟩; have J2 := QI2.out w6 hb6; have J3 := QR2.out w6 hb6)
          | (go_at_call 19; refine J2.mono ?_; rintro e w7 ⟨rfl, hww⟩; subst hww)
          | (go_at_call 17; refine J3.mono ?_; rintro e w8 ⟨rfl, hb8⟩)
          | (go_at_call 16; refine (QK1 _).mono ?_; rintro e w9 ⟨y0, x1, x2, x3, x4, z, rfl, hb9⟩))
        go_ret
        have B6 := Bc.trans (hb6.mono Bc.size)
        have B8 := B6.trans (hb8.mono B6.size)
        exact ⟨rfl, B8.trans (hb9.mono B8.size)⟩
      | false =>
        have hs : nm.toList.isEmpty = true := by
          rw [NO2.out (Or.inr ⟨rfl, rfl⟩)]
          decide +kernel
        clear NO2
        go_wp2_with (first
          | (go_at_call 15; refine J1.mono ?_; rintro e w6 ⟨rfl, hb6⟩; have J2 := QI2.out w6 hb6; have J3 := QR2.out w6 hb6)
          | (go_at_call 19; refine J2.mono ?_; rintro e w7 ⟨rfl, hww⟩; subst hww)
          | (go_at_call 17; refine J3.mono ?_; rintro e w8 ⟨rfl, hb8⟩)
          | (go_at_call 16; refine (QK1 _).mono ?_; rintro e w9 ⟨y0, x1, x2, x3, x4, z, rfl, hb9⟩; have B6 := Bc.trans (hb6.mono Bc.size); have B8 := B6.trans (hb8.mono B6.size); have B9 := B8.trans (hb9.mono B8.size); have q6 := keeps_below hb6 (Nat.le_refl _) _ _ mm; have q8 := keeps_below hb8 (Nat.le_refl _) _ _ q6; have q9 := keeps_below hb9 (Nat.le_refl _) _ _ q8))
        go_ret
        exact ⟨by simp, B9⟩
end Go.Proofs.YtcinjbolflhjmadGreatDoor
