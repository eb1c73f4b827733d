/-
  OWN WORK: Vcf, Vcm, Nlv, Oaw, Nlw, Naw.
-/
import Derived.Test.YtcinjbolflhjmadGreatDoorP12
import Derived.Test.YtcinjbolflhjmadGreatDoorP6
import Derived.Test.YtcinjbolflhjmadGreatDoorP14
import Derived.Test.YtcinjbolflhjmadGreatDoorP8
import Derived.Test.YtcinjbolflhjmadGreatDoorP11
import Derived.Test.YtcinjbolflhjmadGreatDoorP7
import Derived.Deep.CutRange
/-
  THE WALK of owns.Claims.
-/
namespace Go.Proofs.YtcinjbolflhjmadGreatDoor
open Go.RowKit

/-- what stands in the variable of Claims -/
structure VarC (w : World) (X B : Nat) (v : Value) (l : List Cl) : Prop where
  x : w.cell? ⟨X, 0, none⟩ = some v
  f : w.frozen? ⟨X, 0, none⟩ = false
  own : OwnC w B v l
theorem VarC.below {w w' : World} {X B : Nat} {v : Value} {l : List Cl} (h : VarC w X B v l) (hb : Below w.heap.size w w') : VarC w' X B v l :=
  ⟨keeps_below hb (Nat.le_refl _) _ _ h.x, by rw [hb.frozen (p := ⟨X, 0, none⟩) (lt_of_cell h.x)]; exact h.f, h.own.below hb (Nat.le_refl _)⟩

end Go.Proofs.YtcinjbolflhjmadGreatDoor

/-
  THE WALK of the reference's Claims.
-/
namespace Go.Proofs.YtcinjbolflhjmadGreatDoor
open Go.RowKit

theorem takes_split (d : Tn.Dc) (l : List Cl) (n : Nat) (k : Int) : takes d l n k = (freeD (shD d) l k && !(wayD d l (n : Int)).contains k.toNat) := rfl
theorem free_one {sh : List Nat} {l : List Cl} {k : Int} (h : k < 1) : freeD sh l k = false := by
  unfold freeD
  rw [decide_eq_false (by omega), Bool.false_and, Bool.false_and]
theorem free_two {sh : List Nat} {l : List Cl} {m : Nat} (h : sh.contains m = false) : freeD sh l (m : Int) = false := by
  unfold freeD
  rw [Int.toNat_natCast, h, Bool.and_false, Bool.false_and]
theorem free_three {sh : List Nat} {l : List Cl} {k : Int} (h : ¬ ownerD l k < 0) : freeD sh l k = false := by
  unfold freeD
  rw [decide_eq_false h, Bool.and_false]
theorem free_yes {sh : List Nat} {l : List Cl} {m : Nat} (h1 : 1 ≤ m) (h2 : sh.contains m = true) (h3 : ownerD l (m : Int) < 0) : freeD sh l (m : Int) = true := by
  unfold freeD
  rw [Int.toNat_natCast, h2, decide_eq_true h3, decide_eq_true (by omega)]
  rfl

set_option maxHeartbeats 12800000 in
set_option maxRecDepth 100000 in
theorem qclaims_any {w : World} {b o c : Nat} {rs : List Raw} {d : Tn.Dc} (h : Dx w b o c rs d) :
    Calls Tryz.prog 8 #[.slice (some ⟨b, o, none⟩) rs.length c] w fun e w' => ∃ v, e = .returned v ∧ OwnC w' w.heap.size v (claimsD d) ∧ Below w.heap.size w w' := by
  have HX : Hid (∀ W, Below w.heap.size w W → Dx W b o c rs d) := fun W hb => h.below hb
  have hF := h.fine
  have hsf := (sh_few hF).1
  have VN : Hid (∀ j, Vn (Tn.nd d j)) := h.vn
  have hS : Calls Tryz.prog 20 #[.slice (some ⟨b, o, none⟩) rs.length c, .int .i64 0] w fun e w' => ∃ v, e = .returned v ∧ OwnI w' w.heap.size v (shD d) ∧ Below w.heap.size w w' :=
    qshown_any hF Tn.fuel 0 w h.doc (fine_end hF) (by have : (shownF Tn.fuel d 0).length ≤ 60 := hsf; omega)
  have OF : Hid (∀ (j : Nat) (hj : j < (shD d).length) q, (outD d j (shD d)[j] q).length ≤ 60) := fun j hj q => out_few hF hj q
  have FO : Hid (∀ (j : Nat) (hj : j < (shD d).length) q, Forest d (outD d j (shD d)[j] q)) := fun j hj q => forest_out hF hj q
  have EF : Hid (accD d (shD d).length = claimsD d) := acc_full d
  have HF : Hid (Fine d) := hF
  clear h hF
  go_enter Tryz.func8, Tryz.ntmps8
  go_upto_region 4 with (go_at_call 20; refine hS.mono ?_; rintro e w2 ⟨v2, rfl, ho2, hb2⟩; have ho2s := ho2; obtain ⟨ps, cs, rfl⟩ := ho2s.shape)
  obtain ⟨_, _, he, k1, k2, _, _⟩ := (ints_of_owns ho2).at
  cases he
  have I2 : Hid (IntsAt w2 (.slice ps (shD d).length cs) (shD d)) := ints_of_owns ho2
  clear hS ho2 ho2s
  go_loopw [3, 18] (fun v i wr => ∃ j : Nat, j ≤ (shD d).length ∧ i = .int .i64 j ∧ OwnC wr w2.heap.size v (accD d j) ∧ Below w2.heap.size w2 wr) (fun _ i _ => (shD d).length - (intOf i).toNat)
  case atStart => exact ⟨0, Nat.zero_le _, rfl, OwnC.nil _ _, Below.refl _ _⟩
  case round =>
    obtain ⟨j, hj, rfl, hown, hnx⟩ := hrel
    have BW := hb2.trans (hnx.mono hb2.size)
    have hbz := hnx.size
    by_cases hlt : j < (shD d).length
    · obtain ⟨_, _, he, _, _, _, hat⟩ := I2.out.at
      cases he
      obtain ⟨b1, o1, e1, hc0⟩ := hat j hlt
      have hc1 := keeps_below hnx (Nat.le_refl _) _ _ hc0
      have hmem : (shD d)[j] ∈ shD d := List.getElem_mem hlt
      have AS : Hid (accD d (j + 1) = claimN d (accD d j) (shD d)[j]) := acc_succ hlt
      have OFn : Hid (∀ q, (outD d j (shD d)[j] q).length ≤ 60) := fun q => OF.out j hlt q
      have FOn : Hid (∀ q, Forest d (outD d j (shD d)[j] q)) := fun q => FO.out j hlt q
      clear hat hc0
      generalize (shD d)[j] = n at *
      have hAt := rattr_all (HX.out wr BW).doc (n : Int) ⟨#[97, 114, 105, 97, 45, 111, 119, 110, 115]⟩
      have hz := val_size VN.out (n : Int) ⟨#[97, 114, 105, 97, 45, 111, 119, 110, 115]⟩
      have hTk : Hid (∀ W, Calls Tryz.prog 21 #[.string (valN d (n : Int) ⟨#[97, 114, 105, 97, 45, 111, 119, 110, 115]⟩)] W fun e w' => ∃ v, e = .returned v ∧ w'.ownsRow W.heap.size 9 1 v (Wd.toksOf (valN d (n : Int) ⟨#[97, 114, 105, 97, 45, 111, 119, 110, 115]⟩)).length ((Wd.toksOf (valN d (n : Int) ⟨#[97, 114, 105, 97, 45, 111, 119, 110, 115]⟩)).map Wd.tv) ∧ Below W.heap.size W w') := fun W => (Wd.rtokens_own _ W hz).mono (by
        rintro e w' ⟨v, h1, h2, h3, _⟩
        exact ⟨v, h1, h2, h3⟩)
      have HFi : Hid (∀ W tt, Below w.heap.size w W → Calls Tryz.prog 22 #[.slice (some ⟨b, o, none⟩) rs.length c, .int .i64 (n : Int), .string (Tx.bs tt)] W fun e w' => e = .returned (.int .i64 (askT d n tt)) ∧ Below W.heap.size W w') := fun W tt hb => rfind_any (HX.out W hb).doc HF.out (n : Int) (Tx.bs tt)
      have OS : Hid (∀ q (hq : q < (Wd.toksOf (valN d (n : Int) ⟨#[97, 114, 105, 97, 45, 111, 119, 110, 115]⟩)).length), outD d j n (q + 1) = claim1 d n (outD d j n q) (askT d n (Wd.toksOf (valN d (n : Int) ⟨#[97, 114, 105, 97, 45, 111, 119, 110, 115]⟩))[q])) := fun q hq => out_succ hq
      have OU : Hid (outD d j n (Wd.toksOf (valN d (n : Int) ⟨#[97, 114, 105, 97, 45, 111, 119, 110, 115]⟩)).length = claimN d (accD d j) n) := out_full d j n
      clear hz
      generalize Wd.toksOf (valN d (n : Int) ⟨#[97, 114, 105, 97, 45, 111, 119, 110, 115]⟩) = ts at *
      generalize valN d (n : Int) ⟨#[97, 114, 105, 97, 45, 111, 119, 110, 115]⟩ = sv at *
      generalize (attrN d (n : Int) ⟨#[97, 114, 105, 97, 45, 111, 119, 110, 115]⟩).isSome = sb at *
      subst e1
      have SN : Hid (n ∈ shD d) := hmem
      clear hmem
      go_upto_region 8 with (first
        | (go_at_call 18; refine hAt.mono ?_; rintro e w3 ⟨rfl, hb3⟩)
        | (go_at_call 21; refine (hTk.out _).mono ?_; rintro e w4 ⟨v4, rfl, ho4, hb4⟩; have ho4s := toks_at ho4; obtain ⟨pt, ct, rfl, t1, t2, _⟩ := ho4s))
      have B3 := hnx.trans (hb3.mono hnx.size)
      have B4 := B3.trans (hb4.mono B3.size)
      have O4 : OwnC w4 w2.heap.size u3 (outD d j n 0) := (hown.below hb3 (Nat.le_refl _)).below hb4 (Nat.le_refl _)
      have hr0 : ∀ q, u3.ownBlock = some q → q < w3.heap.size := fun q e => Nat.lt_of_lt_of_le (World.ownsRow.lt hown q e).2 hb3.size
      have TT : Hid (∀ W vq, Mv w4.heap.size u3.ownBlock (Value.ownBlock vq) w4 W → W.ownsRow w3.heap.size 9 1 (.slice pt ts.length ct) ts.length (ts.map Wd.tv)) := fun W vq hm => hm.owns2 ho4 (Nat.le_refl _) hr0
      clear hAt hTk ho4 hb3 hb4 hown B3 hnx hbz hr0 BW hc1
      generalize hr0e : u3.ownBlock = r0 at *
      go_loopw [3, 31] (fun v i wq => ∃ q : Nat, q ≤ ts.length ∧ i = .int .i64 q ∧ OwnC wq w2.heap.size v (outD d j n q) ∧ Below w2.heap.size w2 wq ∧ Mv w4.heap.size r0 v.ownBlock w4 wq) (fun _ i _ => ts.length - (intOf i).toNat)
      case atStart => exact ⟨0, Nat.zero_le _, rfl, O4, B4, by rw [hr0e]; exact Mv.refl _ _ _⟩
      case round =>
        obtain ⟨q, hq, rfl, ownq, hnq, MQ⟩ := hrel
        have hbq := hnq.size
        have BWq := hb2.trans (hnq.mono hb2.size)
        by_cases hql : q < ts.length
        · obtain ⟨_, _, he, _, _, hat⟩ := toks_at (TT.out wr u3 MQ)
          cases he
          obtain ⟨b3, o3, e3, hc3⟩ := hat q hql
          have hFi := HFi.out wr ts[q] BWq
          have O1 : Hid (outD d j n (q + 1) = claim1 d n (outD d j n q) (askT d n ts[q])) := OS.out q hql
          have LZ := OFn.out q
          have FQ : Hid (Forest d (outD d j n q)) := FOn.out q
          clear hat
          generalize askT d n ts[q] = k at *
          generalize Tx.bs ts[q] = tb at *
          subst e3
          have QO : Hid (∀ W (x : Int), Below wr.heap.size wr W → Calls Tryz.prog 24 #[u3, .int .i64 x] W fun e w' => e = .returned (.int .i64 (ownerD (outD d j n q) x)) ∧ Below W.heap.size W w') := fun W x hb => qowner_any (cls_of_owns (ownq.below hb (Nat.le_refl _))) x
          have QH : Hid (∀ W (m : Nat), Below wr.heap.size wr W → Calls Tryz.prog 23 #[.slice (some ⟨b1, o1, none⟩) (shD d).length cs, .int .i64 (m : Int)] W fun e w' => e = .returned (.bool ((shD d).contains m)) ∧ w' = W) := fun W m hb => qhas_any (I2.out.keeps (keeps_below (hnq.trans (hb.mono hbq)) (Nat.le_refl _))) m
          have QI : Hid (∀ W (x : Int), Below wr.heap.size wr W → Calls Tryz.prog 25 #[.slice (some ⟨b, o, none⟩) rs.length c, u3, .int .i64 x] W fun e w' => e = .returned (.int .i64 (inD d (outD d j n q) x)) ∧ Below W.heap.size W w') := fun W x hb => qin_any (HX.out W (BWq.trans (hb.mono BWq.size))).doc HF.out (cls_of_owns (ownq.below hb (Nat.le_refl _))) x
          by_cases hk1 : k < 1
          · have E : Hid (outD d j n (q + 1) = outD d j n q) := by show _ = _; rw [O1.out]; exact claim_no (by rw [takes_split, free_one hk1]; rfl)
            clear O1 FQ QO QH QI
            go_wp2_with (go_at_call 22; refine hFi.mono ?_; rintro e w9 ⟨rfl, hb9⟩)
            go_roundw
            case rel => exact ⟨q + 1, by omega, by go_num, by rw [E.out]; exact ownq.below hb9 (Nat.le_refl _), hnq.trans (hb9.mono hbq), MQ.below hb9⟩
            case measure => simp [intOf]; omega
          · obtain ⟨m, rfl⟩ : ∃ m : Nat, k = (m : Int) := ⟨k.toNat, by omega⟩
            have hm1 : 1 ≤ m := by omega
            have hm2 : ¬ m < 1 := by omega
            have QHm := fun W hb => QH.out W m hb
            cases hsc : (shD d).contains m with
            | false =>
              have E : Hid (outD d j n (q + 1) = outD d j n q) := by show _ = _; rw [O1.out]; exact claim_no (by rw [takes_split, free_two hsc]; rfl)
              rw [hsc] at QHm
              clear O1 FQ QO QH QI hsc
              go_wp2_with (first
                | (go_at_call 22; refine hFi.mono ?_; rintro e w9 ⟨rfl, hb9⟩; have hHk := QHm w9 hb9)
                | (go_at_call 23; refine hHk.mono ?_; rintro e w10 ⟨rfl, hw10⟩; subst hw10))
              go_roundw
              case rel => exact ⟨q + 1, by omega, by go_num, by rw [E.out]; exact ownq.below hb9 (Nat.le_refl _), hnq.trans (hb9.mono hbq), MQ.below hb9⟩
              case measure => simp [intOf]; omega
            | true =>
              rw [hsc] at QHm
              have QOm := fun W hb => QO.out W (m : Int) hb
              by_cases how : ownerD (outD d j n q) (m : Int) < 0
              · have FY := free_yes hm1 hsc how
                clear hsc QO QH
                have TK : Hid (outD d j n (q + 1) = if (wayD d (outD d j n q) (n : Int)).contains m then outD d j n q else outD d j n q ++ [(n, m)]) := by
                  show _ = _
                  rw [O1.out]
                  cases hcn : (wayD d (outD d j n q) (n : Int)).contains m with
                  | true => rw [claim_no (by rw [takes_split, FY, Int.toNat_natCast, hcn]; rfl)]; rfl
                  | false => rw [claim_yes (by rw [takes_split, FY, Int.toNat_natCast, hcn]; rfl)]; rfl
                have WC : Hid (∀ x ∈ shD d, wayD d (outD d j n q) (x : Int) = x :: wayD d (outD d j n q) (inD d (outD d j n q) (x : Int)) ∧ (inD d (outD d j n q) (x : Int) = -1 ∨ ∃ y ∈ shD d, inD d (outD d j n q) (x : Int) = (y : Int))) := fun x hx => ⟨way_cons HF.out FQ.out hx, in_cases HF.out FQ.out hx⟩
                have W0 : Hid (wayD d (outD d j n q) (-1) = []) := way_no d _ (by omega)
                clear O1 FQ FY
                generalize outD d j n q = l1 at *
                generalize ownerD l1 (m : Int) = ow at *
                go_upto_region 14 with (first
                  | (go_at_call 22; refine hFi.mono ?_; rintro e w9 ⟨rfl, hb9⟩; have hHk := QHm w9 hb9)
                  | (go_at_call 23; refine hHk.mono ?_; rintro e w10 ⟨rfl, hw10⟩; subst hw10; have hOk := QOm w10 hb9)
                  | (go_at_call 24; refine hOk.mono ?_; rintro e w11 ⟨rfl, hb11⟩))
                have BR : Below wr.heap.size wr w11 := hb9.trans (hb11.mono hb9.size)
                have QIr : Hid (∀ W (x : Int), Below w11.heap.size w11 W → Calls Tryz.prog 25 #[.slice (some ⟨b, o, none⟩) rs.length c, u3, .int .i64 x] W fun e w' => e = .returned (.int .i64 (inD d l1 x)) ∧ Below W.heap.size W w') := fun W x hb => QI.out W x (BR.trans (hb.mono BR.size))
                have OW11 := ownq.below BR (Nat.le_refl _)
                have N11 := hnq.trans (BR.mono hbq)
                have M11 := MQ.below BR
                clear hHk hOk QHm QOm QI hFi hc3 ownq hnq MQ hb9 hb11 how BWq
                generalize hv3 : u3 = v3 at *
                clear hv3
                go_loopw [12, 13] (fun lv av wq => ∃ (a : Int) (bb : Bool), lv = .bool bb ∧ av = .int .i64 a ∧ Hid ((wayD d l1 (n : Int)).contains m = (bb || (wayD d l1 a).contains m)) ∧ Hid (a = -1 ∨ ∃ y ∈ shD d, a = (y : Int)) ∧ Below w11.heap.size w11 wq) (fun _ av _ => (wayD d l1 (intOf av)).length)
                case atStart => exact ⟨(n : Int), false, rfl, rfl, by show _ = _; rw [Bool.false_or], Or.inr ⟨n, SN.out, rfl⟩, Below.refl _ _⟩
                case round =>
                  obtain ⟨a, bb, rfl, rfl, R, X, hb4⟩ := hrel
                  rcases X.out with rfl | ⟨y, hy, rfl⟩
                  · have hbb : Hid ((wayD d l1 (n : Int)).contains m = bb) := by show _ = _; rw [R.out, W0.out]; simp
                    have ow4 := OW11.below hb4 (Nat.le_refl _)
                    have nn4 := N11.trans (hb4.mono N11.size)
                    have mm4 := M11.below hb4
                    have zz4 := nn4.size
                    clear R X
                    cases bb with
                    | true =>
                      have E : Hid (outD d j n (q + 1) = l1) := by show _ = _; rw [TK.out, hbb.out]; rfl
                      clear TK hbb
                      go_wp2_with fail
                      go_roundw
                      case rel => exact ⟨q + 1, by omega, by go_num, by rw [E.out]; exact ow4, nn4, mm4⟩
                      case measure => simp [intOf]; omega
                    | false =>
                      have E : Hid (outD d j n (q + 1) = l1 ++ [(n, m)]) := by show _ = _; rw [TK.out, hbb.out]; rfl
                      clear TK hbb
                      go_wp2_with (at_builtin; refine append_claim2 (w0 := w2) (v := v3) rfl _ _ rfl n m rfl (by simp [Act.eval]) ow4 nn4 zz4 (by omega) ?_; intro v6 w6 o6 n6 g6 b6)
                      go_roundw
                      case rel => exact ⟨q + 1, by omega, by go_num, by rw [E.out]; exact o6, n6, mm4.trans ⟨g6.os, g6.tape, g6.output, g6.size, fun i hi _ hr => g6.block i hi (fun e => hr e), b6⟩⟩
                      case measure => simp [intOf]; omega
                  · obtain ⟨e1, e2⟩ := WC.out y hy
                    have R2 : Hid ((wayD d l1 (n : Int)).contains m = (bb || ((m == y) || (wayD d l1 (inD d l1 (y : Int))).contains m))) := by show _ = _; rw [R.out, e1, List.contains_cons]
                    have X2 : Hid (inD d l1 (y : Int) = -1 ∨ ∃ z ∈ shD d, inD d l1 (y : Int) = (z : Int)) := e2
                    have M : Hid ((wayD d l1 (inD d l1 (y : Int))).length < (wayD d l1 (y : Int)).length) := by show _ < _; rw [e1]; simp
                    have hI := QIr.out wr (y : Int) hb4
                    clear R X e1 e2 hy
                    generalize inD d l1 (y : Int) = z at *
                    cases bb with
                    | true =>
                      have R3 : Hid ((wayD d l1 (n : Int)).contains m = (true || (wayD d l1 z).contains m)) := by show _ = _; rw [R2.out]; rfl
                      clear R2
                      go_wp2_with (go_at_call 25; refine hI.mono ?_; rintro e w12 ⟨rfl, hb12⟩)
                      go_roundw
                      case rel => exact ⟨z, true, rfl, rfl, R3, X2, hb4.trans (hb12.mono hb4.size)⟩
                      case measure => simpa [intOf] using M.out
                    | false =>
                      by_cases e : y = m
                      · have R3 : Hid ((wayD d l1 (n : Int)).contains m = (true || (wayD d l1 z).contains m)) := by show _ = _; rw [R2.out, e]; simp
                        have hq7 : ((y : Int) == (m : Int)) = true := by simp [e]
                        clear R2 e
                        go_wp2_with (go_at_call 25; refine hI.mono ?_; rintro e w12 ⟨rfl, hb12⟩)
                        go_roundw
                        case rel => exact ⟨z, true, rfl, rfl, R3, X2, hb4.trans (hb12.mono hb4.size)⟩
                        case measure => simpa [intOf] using M.out
                      · have R3 : Hid ((wayD d l1 (n : Int)).contains m = (false || (wayD d l1 z).contains m)) := by show _ = _; rw [R2.out, beq_eq_false_iff_ne.2 (Ne.symm e)]; rfl
                        have hq7 : ((y : Int) == (m : Int)) = false := beq_eq_false_iff_ne.2 (by omega)
                        clear R2 e
                        go_wp2_with (go_at_call 25; refine hI.mono ?_; rintro e w12 ⟨rfl, hb12⟩)
                        go_roundw
                        case rel => exact ⟨z, false, rfl, rfl, R3, X2, hb4.trans (hb12.mono hb4.size)⟩
                        case measure => simpa [intOf] using M.out
              · have E : Hid (outD d j n (q + 1) = outD d j n q) := by show _ = _; rw [O1.out]; exact claim_no (by rw [takes_split, free_three how]; rfl)
                clear O1 FQ QO QH QI hsc
                generalize ownerD (outD d j n q) (m : Int) = ow at *
                go_wp2_with (first
                  | (go_at_call 22; refine hFi.mono ?_; rintro e w9 ⟨rfl, hb9⟩; have hHk := QHm w9 hb9)
                  | (go_at_call 23; refine hHk.mono ?_; rintro e w10 ⟨rfl, hw10⟩; subst hw10; have hOk := QOm w10 hb9)
                  | (go_at_call 24; refine hOk.mono ?_; rintro e w11 ⟨rfl, hb11⟩))
                go_roundw
                case rel => exact ⟨q + 1, by omega, by go_num, by rw [E.out]; exact (ownq.below hb9 (Nat.le_refl _)).below hb11 (Nat.le_refl _), (hnq.trans (hb9.mono hbq)).trans (hb11.mono (Nat.le_trans hbq hb9.size)), (MQ.below hb9).below hb11⟩
                case measure => simp [intOf]; omega
        · obtain rfl : q = ts.length := by omega
          have E : Hid (accD d (j + 1) = outD d j n ts.length) := by show _ = _; rw [AS.out, OU.out]
          go_wp2_with fail
          go_roundw
          case rel => exact ⟨j + 1, by omega, by go_num, by rw [E.out]; exact ownq, hnq⟩
          case measure => simp [intOf]; omega
    · obtain rfl : j = (shD d).length := by omega
      go_wp2_with fail
      go_ret
      exact ⟨_, rfl, by rw [← EF.out]; exact hown.mono hb2.size, BW⟩
end Go.Proofs.YtcinjbolflhjmadGreatDoor

/-
  THE WALKS of tnlaw7.alive, and of the reference's SameMemo at two that are the same.
-/
namespace Go.Proofs.YtcinjbolflhjmadGreatDoor
open Go.RowKit

def al7L : List Tn.Chg := [⟨1, 0, 0, -1, ⟨#[98, 117, 116, 116, 111, 110]⟩, ⟨#[]⟩⟩, ⟨2, 1, 0, -1, ⟨#[]⟩, ⟨#[32, 115, 97, 118, 101, 32, 32, 105, 116, 32]⟩⟩, ⟨5, 1, 0, 0, ⟨#[116, 105, 116, 108, 101]⟩, ⟨#[119, 104, 121]⟩⟩]
theorem al7_1 : (memoD (Tn.build al7L) [] 1).name = ⟨#[115, 97, 118, 101, 32, 105, 116]⟩ := by decide +kernel
theorem al7_2 : (memoD (Tn.build al7L) [] 1).about = ⟨#[119, 104, 121]⟩ := by decide +kernel
theorem al7_3 : (memoD (Tn.build al7L) [] 1).uses.length = 3 := by decide +kernel
theorem al7_sz : ∀ x ∈ al7L, x.value.size ≤ 4194304 ∧ x.name.size ≤ 4194304 := by decide

theorem nx_build {w : World} {g c : Nat} {rs : List Raw} {l : List Tn.Chg} (hd : DocAt w g 0 c rs (Tn.build l)) (T : Kn.TabAt w) (hsz : ∀ x ∈ l, x.value.size ≤ 4194304 ∧ x.name.size ≤ 4194304) {vl : Value} {cl : List Cl} (hc : ClsAt w vl cl) (hf : Forest (Tn.build l) cl) : Nx w g 0 c rs (Tn.build l) vl cl :=
  ⟨cx_build hd T hsz, hc, fun j => build_vt hsz j, hf⟩

set_option maxHeartbeats 1600000 in
theorem l7alive_any {w : World} (T : Kn.TabAt w) : Calls Tryz.prog 12 #[] w fun e w' => e = .returned (.bool true) ∧ Below w.heap.size w w' := by
  have hC := rbuild_good (chgs_new w al7L (by decide)) al7_sz
  have e : (al7L.flatMap chc).toArray = #[.int .i64 1, .int .i64 0, .int .i64 0, .int .i64 (-1), .string ⟨#[98, 117, 116, 116, 111, 110]⟩, .string ⟨#[]⟩, .int .i64 2, .int .i64 1, .int .i64 0, .int .i64 (-1), .string ⟨#[]⟩, .string ⟨#[32, 115, 97, 118, 101, 32, 32, 105, 116, 32]⟩, .int .i64 5, .int .i64 1, .int .i64 0, .int .i64 0, .string ⟨#[116, 105, 116, 108, 101]⟩, .string ⟨#[119, 104, 121]⟩] := rfl
  have e4 : al7L.length = 3 := rfl
  rw [e, e4] at hC
  have B1 := (Below.refl w.heap.size w).alloc (Nat.le_refl _) (.cells #[.int .i64 1, .int .i64 0, .int .i64 0, .int .i64 (-1), .string ⟨#[98, 117, 116, 116, 111, 110]⟩, .string ⟨#[]⟩, .int .i64 2, .int .i64 1, .int .i64 0, .int .i64 (-1), .string ⟨#[]⟩, .string ⟨#[32, 115, 97, 118, 101, 32, 32, 105, 116, 32]⟩, .int .i64 5, .int .i64 1, .int .i64 0, .int .i64 0, .string ⟨#[116, 105, 116, 108, 101]⟩, .string ⟨#[119, 104, 121]⟩] 40)
  have S1 : Hid (∀ W g c rs, DocAt W g 0 c rs (Tn.build al7L) → Below w.heap.size w W → Calls Tryz.prog 10 #[.slice (some ⟨g, 0, none⟩) rs.length c, .slice none 0 0, .int .i64 1] W fun e w' => (∃ p c, e = .returned (.agg #[.int .i64 1, .string ⟨#[115, 97, 118, 101, 32, 105, 116]⟩, .string ⟨#[119, 104, 121]⟩, .slice p 3 c])) ∧ Below W.heap.size W w') := fun W g c rs h hb => by
    have hn := nof_any (nx_build h (T.below hb) al7_sz (cls_nil W) (forest_nil (build_fine al7L))) 1
    rw [al7_1, al7_2] at hn
    refine hn.mono ?_
    rintro e w' ⟨v, rfl, ho, hb2⟩
    obtain ⟨p, c2, rfl⟩ := ho.shape
    rw [al7_3]
    exact ⟨⟨p, c2, rfl⟩, hb2⟩
  clear e e4
  generalize Tn.build al7L = d at *
  go_enter Tryz.func12, Tryz.ntmps12
  go_wp2_with (first
    | (go_at_call 7; refine hC.mono ?_; rintro e w1 ⟨g, c, rs, rfl, hd1, hb0⟩; have hb1 := B1.trans (hb0.mono B1.size); have J1 := S1.out _ _ _ _ hd1 hb1; clear hd1)
    | (go_at_call 10; refine J1.mono ?_; clear J1; rintro e w2 ⟨⟨pv, cv, rfl⟩, hb2⟩))
  go_ret
  exact ⟨rfl, (hb1.trans (hb2.mono hb1.size)).alloc (by have := hb1.size; have := hb2.size; omega) _⟩

set_option maxHeartbeats 1600000 in
theorem qsamememo_eq {w : World} {n : Int} {nm ab : ByteArray} {v1 v2 : Value} {l : List Nat} (h1 : IntsAt w v1 l) (h2 : IntsAt w v2 l) :
    Calls Tryz.prog 9 #[.agg #[.int .i64 n, .string nm, .string ab, v1], .agg #[.int .i64 n, .string nm, .string ab, v2]] w fun e w' => e = .returned (.bool true) ∧ Below w.heap.size w w' := by
  have B2 := ((Below.refl w.heap.size w).alloc (Nat.le_refl _) (.cells #[.int .i64 n, .string nm, .string ab, v1] 31)).alloc (by simp) (.cells #[.int .i64 n, .string nm, .string ab, v2] 31)
  have K2 := keeps_below B2 (Nat.le_refl _)
  have hS := rsameints_true (h1.keeps K2) (h2.keeps K2)
  obtain ⟨p1, c1, rfl, _⟩ := h1.at
  obtain ⟨p2, c2, rfl, _⟩ := h2.at
  have e1 : (nm.toList == nm.toList) = true := by simp
  have e2 : (ab.toList == ab.toList) = true := by simp
  have e3 : (n == n) = true := by simp
  clear h1 h2
  go_enter Tryz.func9, Tryz.ntmps9
  go_wp2_with (go_at_call 26; refine hS.mono ?_; rintro e w2 ⟨rfl, hb2⟩)
  go_ret
  exact ⟨rfl, B2.trans (hb2.mono B2.size)⟩

/-- how long names are -/
theorem memo_size {d : Tn.Dc} (hF : Fine d) (hV : ∀ j, Vn (Tn.nd d j)) (hT : ∀ j, Vt (Tn.nd d j)) {cl : List Cl} (hC : Forest d cl) (n : Int) : (memoD d cl n).name.size ≤ 1073741824 ∧ (memoD d cl n).about.size ≤ 1073741824 := by
  have em : emB.size = 0 := rfl
  by_cases hi : Tn.isN d n false = true
  · obtain ⟨k, rfl, hk, hlv⟩ := isN_nat hi
    have hlv : Tn.lvD d k = true := hlv
    cases hq : (!Tn.has (Tn.nd d k).tag || namedI (roleD d (k : Int))) with
    | false =>
      rw [memo_not hlv hq]
      exact ⟨by simp [em], by simp [em]⟩
    | true =>
      have P := memo_asked hF hV hT hC hlv hq
      have hNok := name_ok hF hV hT hC 64
      have h1 := hNok ⟨[], lineD d (k : Int), []⟩ k false ⟨by simp, by simp, by simp, by simp⟩ (by simp) hlv (by simp)
      rw [P.name, P.about]
      generalize nameF 64 d cl ⟨[], lineD d (k : Int), []⟩ k false = r at *
      have hr := h1.size
      have hf := h1.went.ok.few hF
      have hm : VL * (r.2.had.length - ([] : List Nat).length) ≤ VL * 60 := Nat.mul_le_mul_left _ (by simp; omega)
      have okA : OkS d ⟨[k], r.2.asked, []⟩ := ⟨by simp, by simpa using hlv, by simp, by simp⟩
      have hL := list_went hF hC hNok (k : Int) ⟨#[97, 114, 105, 97, 45, 100, 101, 115, 99, 114, 105, 98, 101, 100, 98, 121]⟩ okA (by simp)
      have hf2 := hL.1.ok.few hF
      have hm2 : VL * ((listD (nameF 64 d cl) d cl (k : Int) ⟨#[97, 114, 105, 97, 45, 100, 101, 115, 99, 114, 105, 98, 101, 100, 98, 121]⟩ ⟨[k], r.2.asked, []⟩).2.had.length - [k].length) ≤ VL * 60 := Nat.mul_le_mul_left _ (by omega)
      have hs := said_size hV (k : Int) ⟨#[116, 105, 116, 108, 101]⟩
      have hLs := hL.2
      refine ⟨by unfold VL at *; simp only at hr; omega, ?_⟩
      unfold abR
      split
      · unfold aboutT
        split
        · simp only; omega
        · unfold VL at *
          simp only at hLs
          omega
      · simp [em]
  · unfold memoD
    rw [if_neg hi]
    exact ⟨by simp [em], by simp [em]⟩
end Go.Proofs.YtcinjbolflhjmadGreatDoor

/-
  THE WALK of tnlaw5's RoleAsked.
-/
namespace Go.Proofs.YtcinjbolflhjmadGreatDoor
open Go.RowKit

theorem rapply_build {w : World} {b o c : Nat} {rs : List Raw} {l : List Tn.Chg} (hd : DocAt w b o c rs (Tn.build l)) (x : Tn.Chg) (hv : x.value.size ≤ 4194304) (hnm : x.name.size ≤ 4194304) :
    Calls Tryz.prog 13 #[.slice (some ⟨b, o, none⟩) rs.length c, chv x] w fun e w' => ApPost w w' e (Tn.build l) x := by
  have h := build_good l
  have hl := hd.len
  have hlen := h.len
  exact rapply_any hd (by omega) (by omega) x hv hnm (fun k hk hi => good_ok h x k hk hi) (fun hi he => (chg_mid h x hi he).len.1)

theorem role_size : (⟨#[114, 111, 108, 101]⟩ : ByteArray).size ≤ 4194304 := by decide

end Go.Proofs.YtcinjbolflhjmadGreatDoor

/-
  THE WALK of tnlaw7's NamingLabel.
-/
namespace Go.Proofs.YtcinjbolflhjmadGreatDoor
open Go.RowKit

theorem bulk_one_str {H : Type} {s : ByteArray} {pre post : List (DataW H)} (hk : Rows.uptoSmall H (pre ++ (.lit (.string s.data.toList)) :: post) = true) : s.size ≤ 4194304 := by
  have h : Rows.uptoBulkAll (pre ++ (.lit (.string s.data.toList)) :: post) ≤ 1048576 := of_decide_eq_true hk
  rw [bulk_app, Rows.uptoBulkAll, Rows.uptoBulk] at h
  have e : s.data.toList.length = s.size := by rw [← Lib.size_eq]
  simp only [e] at h
  omega
theorem label_size : (⟨#[97, 114, 105, 97, 45, 108, 97, 98, 101, 108]⟩ : ByteArray).size ≤ 4194304 := by decide
theorem field_mname (x0 x1 x2 x3 : Value) (w : World) : (Instr.field 31 (.agg #[x0, x1, x2, x3]) 1).run Tryz.prog w = .ok x1 w := by kernel_rfl

set_option maxHeartbeats 6400000 in
set_option maxRecDepth 100000 in
theorem nlabel_walk {w : World} (T : Kn.TabAt w) {vl : Value} {l : List Tn.Chg} (hl : ChgsAt w vl l) (hsz : ∀ x ∈ l, x.value.size ≤ 4194304 ∧ x.name.size ≤ 4194304) (n : Int) (s : ByteArray) (hz : s.size ≤ 4194304) :
    Calls Tryz.prog 5 #[vl, .int .i64 n, .string s] w fun e w' => e = .returned (.bool true) ∧ Below w.heap.size w w' := by
  have hA := l7alive_any T
  have QB : Hid (∀ W, Below w.heap.size w W → Calls Tryz.prog 7 #[vl] W fun e w' => ∃ g c rs, e = .returned (.slice (some ⟨g, 0, none⟩) rs.length c) ∧ DocAt w' g 0 c rs (Tn.build l) ∧ Below W.heap.size W w') := fun W hW => rbuild_good (hl.keeps (keeps_below hW (Nat.le_refl _))) hsz
  have QA : Hid (∀ W g c rs, DocAt W g 0 c rs (Tn.build l) → Calls Tryz.prog 13 #[.slice (some ⟨g, 0, none⟩) rs.length c, .agg #[.int .i64 5, .int .i64 n, .int .i64 0, .int .i64 0, .string ⟨#[97, 114, 105, 97, 45, 108, 97, 98, 101, 108]⟩, .string s]] W fun e w' => ApPost W w' e (Tn.build l) ⟨5, n, 0, 0, ⟨#[97, 114, 105, 97, 45, 108, 97, 98, 101, 108]⟩, s⟩) := fun W g c rs h => rapply_build h ⟨5, n, 0, 0, ⟨#[97, 114, 105, 97, 45, 108, 97, 98, 101, 108]⟩, s⟩ hz label_size
  obtain ⟨pc, cc, rfl, _⟩ := hl
  have SQ : Hid (∀ W, Calls Tryz.prog 14 #[.string s] W fun e w' => e = .returned (.string (Wd.sqz s)) ∧ Below W.heap.size W w') := fun W => Wd.rsqueeze_any s W hz
  by_cases hE : Tn.applyE (Tn.build l) ⟨5, n, 0, 0, ⟨#[97, 114, 105, 97, 45, 108, 97, 98, 101, 108]⟩, s⟩ = 0
  · obtain ⟨k, hnk, hiD, hval⟩ := label_doc hE
    have CX : Hid (∀ W g c rs, DocAt W g 0 c rs (Tn.applyD (Tn.build l) ⟨5, n, 0, 0, ⟨#[97, 114, 105, 97, 45, 108, 97, 98, 101, 108]⟩, s⟩) → Below w.heap.size w W → Cx W g 0 c rs (Tn.applyD (Tn.build l) ⟨5, n, 0, 0, ⟨#[97, 114, 105, 97, 45, 108, 97, 98, 101, 108]⟩, s⟩)) := fun W g c rs h hb => by
      rw [← build_snoc hE] at h ⊢
      refine cx_build h (T.below hb) (fun x hx => ?_)
      rw [List.mem_append, List.mem_singleton] at hx
      rcases hx with hx | rfl
      · exact hsz x hx
      · exact ⟨hz, label_size⟩
    have hT : ∀ j, Vt (Tn.nd (Tn.applyD (Tn.build l) ⟨5, n, 0, 0, ⟨#[97, 114, 105, 97, 45, 108, 97, 98, 101, 108]⟩, s⟩) j) := fun j => by
      rw [← build_snoc hE]
      refine build_vt (fun x hx => ?_) j
      rw [List.mem_append, List.mem_singleton] at hx
      rcases hx with hx | rfl
      · exact hsz x hx
      · exact ⟨hz, label_size⟩
    have hF : Fine (Tn.applyD (Tn.build l) ⟨5, n, 0, 0, ⟨#[97, 114, 105, 97, 45, 108, 97, 98, 101, 108]⟩, s⟩) := by rw [← build_snoc hE]; exact build_fine _
    have QA2 : Hid (∀ W g c rs, DocAt W g 0 c rs (Tn.build l) → Calls Tryz.prog 13 #[.slice (some ⟨g, 0, none⟩) rs.length c, .agg #[.int .i64 5, .int .i64 n, .int .i64 0, .int .i64 0, .string ⟨#[97, 114, 105, 97, 45, 108, 97, 98, 101, 108]⟩, .string s]] W fun e w' => (∃ (g' c' : Nat) (rs' : List Raw) (m : Int), e = .returned (.tuple #[.slice (some ⟨g', 0, none⟩) rs'.length c', .int .i64 m, .int .i64 0]) ∧ DocAt w' g' 0 c' rs' (Tn.applyD (Tn.build l) ⟨5, n, 0, 0, ⟨#[97, 114, 105, 97, 45, 108, 97, 98, 101, 108]⟩, s⟩)) ∧ Below W.heap.size W w') := fun W g c rs h => (QA.out W g c rs h).mono (by
      rintro e w' ⟨hb, ⟨hne, _⟩ | ⟨_, g', c', rs', e1, hd⟩⟩
      · exact absurd hE hne.out
      · exact ⟨⟨g', c', rs', _, e1, hd⟩, hb⟩)
    clear QA hE hsz T
    generalize Tn.applyD (Tn.build l) ⟨5, n, 0, 0, ⟨#[97, 114, 105, 97, 45, 108, 97, 98, 101, 108]⟩, s⟩ = d at *
    generalize Tn.build l = d0 at *
    subst hnk
    have hC := forest_claims hF
    have ML : Hid (full (Wd.sqz s) = true → hidD d (k : Int) = false → namedI (roleD d (k : Int)) = true → full (saidN d (k : Int) ⟨#[97, 114, 105, 97, 45, 108, 97, 98, 101, 108, 108, 101, 100, 98, 121]⟩) = false → (memoD d (claimsD d) (k : Int)).name = Wd.sqz s) := fun h1 h2 h3 h4 => memo_label hiD hval h1 h2 h3 h4 (claimsD d)
    have QC : Hid (∀ W g c rs, Cx W g 0 c rs d → Calls Tryz.prog 8 #[.slice (some ⟨g, 0, none⟩) rs.length c] W fun e w' => ∃ p cc, e = .returned (.slice p (claimsD d).length cc) ∧ ClsAt w' (.slice p (claimsD d).length cc) (claimsD d) ∧ Below W.heap.size W w') := fun W g c rs h => (qclaims_any ⟨h.doc, h.fine, h.vn⟩).mono (by
      rintro e w' ⟨v, rfl, ho, hb⟩
      obtain ⟨p, cc, rfl, _⟩ := (cls_of_owns ho)
      exact ⟨p, cc, rfl, cls_of_owns ho, hb⟩)
    have ON : Hid (∀ W g c rs p cc, Cx W g 0 c rs d → ClsAt W (.slice p (claimsD d).length cc) (claimsD d) → Calls Tryz.prog 10 #[.slice (some ⟨g, 0, none⟩) rs.length c, .slice p (claimsD d).length cc, .int .i64 (k : Int)] W fun e w' => (∃ x p c, e = .returned (.agg #[.int .i64 (k : Int), .string (memoD d (claimsD d) (k : Int)).name, .string x, .slice p (memoD d (claimsD d) (k : Int)).uses.length c])) ∧ Below W.heap.size W w') := fun W g c rs p cc h hc => (nof_any ⟨h, hc, hT, hC⟩ (k : Int)).mono (by
      rintro e w' ⟨v, rfl, ho, hb2⟩
      obtain ⟨p, c2, rfl⟩ := ho.shape
      exact ⟨⟨_, p, c2, rfl⟩, hb2⟩)
    have QH : Hid (∀ W g c rs, Cx W g 0 c rs d → Calls Tryz.prog 15 #[.slice (some ⟨g, 0, none⟩) rs.length c, .int .i64 (k : Int)] W fun e w' => e = .returned (.bool (hidD d (k : Int))) ∧ Below W.heap.size W w') := fun W g c rs h => qhid_all h (k : Int)
    have QR : Hid (∀ W g c rs, Cx W g 0 c rs d → Calls Tryz.prog 17 #[.slice (some ⟨g, 0, none⟩) rs.length c, .int .i64 (k : Int)] W fun e w' => e = .returned (.int .i64 (roleD d (k : Int))) ∧ Below W.heap.size W w') := fun W g c rs h => qrole_all h (k : Int)
    have QK : Hid (∀ W, Calls Tryz.prog 16 #[.int .i64 (roleD d (k : Int))] W fun e w' => ∃ nm x1 x2 x3 x4 z, e = .returned (.agg #[.string nm, .bool x1, .bool x2, .bool x3, .bool x4, .bool (namedI (roleD d (k : Int))), .int .i64 z]) ∧ Below W.heap.size W w') := fun W => (Kn.qkind_any (w := W) _).mono (by
      rintro e w' ⟨rfl, hb⟩
      exact ⟨_, _, _, _, _, _, rfl, hb⟩)
    have QT : Hid (∀ W g c rs, Cx W g 0 c rs d → Calls Tryz.prog 18 #[.slice (some ⟨g, 0, none⟩) rs.length c, .int .i64 (k : Int), .string ⟨#[97, 114, 105, 97, 45, 108, 97, 98, 101, 108, 108, 101, 100, 98, 121]⟩] W fun e w' => e = .returned (.tuple #[.string (valN d (k : Int) ⟨#[97, 114, 105, 97, 45, 108, 97, 98, 101, 108, 108, 101, 100, 98, 121]⟩), .bool (attrN d (k : Int) ⟨#[97, 114, 105, 97, 45, 108, 97, 98, 101, 108, 108, 101, 100, 98, 121]⟩).isSome]) ∧ Below W.heap.size W w') := fun W g c rs h => rattr_all h.doc (k : Int) _
    have ZV : Hid (∀ W g c rs, Cx W g 0 c rs d → ∀ W2, Calls Tryz.prog 14 #[.string (valN d (k : Int) ⟨#[97, 114, 105, 97, 45, 108, 97, 98, 101, 108, 108, 101, 100, 98, 121]⟩)] W2 fun e w' => e = .returned (.string (saidN d (k : Int) ⟨#[97, 114, 105, 97, 45, 108, 97, 98, 101, 108, 108, 101, 100, 98, 121]⟩)) ∧ Below W2.heap.size W2 w') := fun W g c rs h W2 => Wd.rsqueeze_any _ W2 (val_size h.vn (k : Int) _)
    have NV : Hid ((attrN d (k : Int) ⟨#[97, 114, 105, 97, 45, 108, 97, 98, 101, 108, 108, 101, 100, 98, 121]⟩).isSome = false → full (saidN d (k : Int) ⟨#[97, 114, 105, 97, 45, 108, 97, 98, 101, 108, 108, 101, 100, 98, 121]⟩) = false) := fun h => by
      have e : attrN d (k : Int) ⟨#[97, 114, 105, 97, 45, 108, 97, 98, 101, 108, 108, 101, 100, 98, 121]⟩ = none := by simpa using h
      unfold saidN valN
      rw [e]
      decide +kernel
    have fields := field_named
    have fieldn := field_mname
    have QK1 := QK.out
    clear hiD hval hF hT hC QK
    generalize (memoD d (claimsD d) (k : Int)).name = nm at *
    generalize (memoD d (claimsD d) (k : Int)).uses.length = ul at *
    generalize hidD d (k : Int) = hd at *
    generalize namedI (roleD d (k : Int)) = nd at *
    generalize roleD d (k : Int) = ro at *
    generalize saidN d (k : Int) ⟨#[97, 114, 105, 97, 45, 108, 97, 98, 101, 108, 108, 101, 100, 98, 121]⟩ = lb at *
    generalize valN d (k : Int) ⟨#[97, 114, 105, 97, 45, 108, 97, 98, 101, 108, 108, 101, 100, 98, 121]⟩ = lv at *
    generalize (attrN d (k : Int) ⟨#[97, 114, 105, 97, 45, 108, 97, 98, 101, 108, 108, 101, 100, 98, 121]⟩).isSome = ls at *
    generalize Wd.sqz s = sq at *
    go_enter Tryz.func5, Tryz.ntmps5
    go_upto_region 4 with (first
      | (go_at_call 12; refine hA.mono ?_; rintro e w1 ⟨rfl, hb1⟩)
      | (go_at_call 7; refine (QB.out _ hb1).mono ?_; rintro e w2 ⟨g, c, rs, rfl, hd2, hb2⟩; have B2 := hb1.trans (hb2.mono hb1.size); have D2 : Hid (DocAt w2 g 0 c rs d0) := hd2; clear hd2)
      | (go_at_call 13; refine (QA2.out _ _ _ _ D2.out).mono ?_; rintro e w3 ⟨⟨g3, c3, rs3, m3, rfl, hd3⟩, hb3⟩; have B3 := B2.trans (hb3.mono B2.size); have C3 : Hid (Cx w3 g3 0 c3 rs3 d) := CX.out _ _ _ _ hd3 B3; clear hd3))
    clear hA QB QA2 D2 hb1 hb2 hb3 B2 CX
    have SQ3 := SQ.out w3
    have QH3 : Hid (∀ W, Below w3.heap.size w3 W → Calls Tryz.prog 15 #[.slice (some ⟨g3, 0, none⟩) rs3.length c3, .int .i64 (k : Int)] W fun e w' => e = .returned (.bool hd) ∧ Below W.heap.size W w') := fun W hb => QH.out _ _ _ _ (C3.out.below hb)
    have QR3 : Hid (∀ W, Below w3.heap.size w3 W → Calls Tryz.prog 17 #[.slice (some ⟨g3, 0, none⟩) rs3.length c3, .int .i64 (k : Int)] W fun e w' => e = .returned (.int .i64 ro) ∧ Below W.heap.size W w') := fun W hb => QR.out _ _ _ _ (C3.out.below hb)
    have QT3 : Hid (∀ W, Below w3.heap.size w3 W → Calls Tryz.prog 18 #[.slice (some ⟨g3, 0, none⟩) rs3.length c3, .int .i64 (k : Int), .string ⟨#[97, 114, 105, 97, 45, 108, 97, 98, 101, 108, 108, 101, 100, 98, 121]⟩] W fun e w' => e = .returned (.tuple #[.string lv, .bool ls]) ∧ Below W.heap.size W w') := fun W hb => QT.out _ _ _ _ (C3.out.below hb)
    have ZV3 := ZV.out _ _ _ _ C3.out
    have QC3 : Hid (∀ W, Below w3.heap.size w3 W → Calls Tryz.prog 8 #[.slice (some ⟨g3, 0, none⟩) rs3.length c3] W fun e w' => ∃ p cc, e = .returned (.slice p (claimsD d).length cc) ∧ ClsAt w' (.slice p (claimsD d).length cc) (claimsD d) ∧ Below W.heap.size W w') := fun W hb => QC.out _ _ _ _ (C3.out.below hb)
    have ON3 : Hid (∀ W p cc, Below w3.heap.size w3 W → ClsAt W (.slice p (claimsD d).length cc) (claimsD d) → Calls Tryz.prog 10 #[.slice (some ⟨g3, 0, none⟩) rs3.length c3, .slice p (claimsD d).length cc, .int .i64 (k : Int)] W fun e w' => (∃ x p c, e = .returned (.agg #[.int .i64 (k : Int), .string nm, .string x, .slice p ul c])) ∧ Below W.heap.size W w') := fun W p cc hb hc => ON.out _ _ _ _ _ _ (C3.out.below hb) hc
    clear QH QR QT ZV QC ON C3
    go_cut [43] from 24 to 42 (fun tv wc => tv = .bool (!full sq || hd || !nd) ∧ Below w3.heap.size w3 wc)
    case first =>
      cases hs : sq.toList.isEmpty with
      | true =>
        have e := full_no hs
        go_wp2_with (go_at_call 14; refine SQ3.mono ?_; rintro e w4 ⟨rfl, hb4⟩)
        go_meet
        exact ⟨by simp [e], hb4⟩
      | false =>
        have e := full_yes hs
        cases hd with
        | true =>
          go_wp2_with (first
            | (go_at_call 14; refine SQ3.mono ?_; rintro e w4 ⟨rfl, hb4⟩; have J4 := QH3.out w4 hb4)
            | (go_at_call 15; refine J4.mono ?_; rintro e w5 ⟨rfl, hb5⟩))
          go_meet
          exact ⟨by simp, hb4.trans (hb5.mono hb4.size)⟩
        | false =>
          go_wp2_with (first
            | (go_at_call 14; refine SQ3.mono ?_; rintro e w4 ⟨rfl, hb4⟩; have J4 := QH3.out w4 hb4)
            | (go_at_call 15; refine J4.mono ?_; rintro e w5 ⟨rfl, hb5⟩; have B5 := hb4.trans (hb5.mono hb4.size); have J5 := QR3.out w5 B5)
            | (go_at_call 17; refine J5.mono ?_; rintro e w6 ⟨rfl, hb6⟩; have B6 := B5.trans (hb6.mono B5.size))
            | (go_at_call 16; refine (QK1 _).mono ?_; rintro e w7 ⟨y0, x1, x2, x3, x4, z, rfl, hb7⟩))
          go_meet
          exact ⟨by simp [e], B6.trans (hb7.mono B6.size)⟩
    case rest =>
    obtain ⟨rfl, hbc⟩ := hcut
    cases hq : (!full sq || hd || !nd) with
    | true =>
      go_wp2_with fail
      go_ret
      exact ⟨rfl, B3.trans (hbc.mono B3.size)⟩
    | false =>
      have key : ∀ x y z : Bool, (!x || y || !z) = false → x = true ∧ y = false ∧ z = true := by decide
      have hq3 : full sq = true ∧ hd = false ∧ nd = true := key _ _ _ hq
      clear key
      have ML2 : Hid (full lb = false → nm = sq) := ML.out hq3.1 hq3.2.1 hq3.2.2
      clear ML hq3
      have T4 := QT3.out wc hbc
      cases ls with
      | false =>
        have E : Hid (nm = sq) := ML2.out (NV.out rfl)
        go_wp2_with (first
          | (go_at_call 18; refine T4.mono ?_; rintro e w5 ⟨rfl, hb5⟩; have B5 := hbc.trans (hb5.mono hbc.size); have J5 := QC3.out w5 B5)
          | (go_at_call 8; refine J5.mono ?_; rintro e w6 ⟨p6, c6, rfl, hc6, hb6⟩; have B6 := B5.trans (hb6.mono B5.size); have J6 := ON3.out w6 _ _ B6 hc6; clear hc6)
          | (go_at_call 10; refine J6.mono ?_; rintro e w7 ⟨⟨x7, p7, c7, rfl⟩, hb7⟩; have B7 := B6.trans (hb7.mono B6.size); have J7 := SQ.out w7)
          | (go_at_call 14; refine J7.mono ?_; rintro e w8 ⟨rfl, hb8⟩))
        go_ret
        have B8 := B7.trans (hb8.mono B7.size)
        exact ⟨by rw [E.out]; simp, B3.trans (B8.mono B3.size)⟩
      | true =>
        cases hlb : lb.toList.isEmpty with
        | true =>
          have E : Hid (nm = sq) := ML2.out (full_no hlb)
          go_wp2_with (first
            | (go_at_call 18; refine T4.mono ?_; rintro e w5 ⟨rfl, hb5⟩; have B5 := hbc.trans (hb5.mono hbc.size); have J5 := ZV3 w5)
            | (go_at_call 14; refine J5.mono ?_; clear J5; rintro e w5b ⟨rfl, hb5b⟩; have B5b := B5.trans (hb5b.mono B5.size); have J5c := QC3.out w5b B5b)
            | (go_at_call 8; refine J5c.mono ?_; rintro e w6 ⟨p6, c6, rfl, hc6, hb6⟩; have B6 := B5b.trans (hb6.mono B5b.size); have J6 := ON3.out w6 _ _ B6 hc6; clear hc6)
            | (go_at_call 10; refine J6.mono ?_; rintro e w7 ⟨⟨x7, p7, c7, rfl⟩, hb7⟩; have B7 := B6.trans (hb7.mono B6.size); have J7 := SQ.out w7)
            | (go_at_call 14; refine J7.mono ?_; rintro e w8 ⟨rfl, hb8⟩))
          go_ret
          have B8 := B7.trans (hb8.mono B7.size)
          exact ⟨by rw [E.out]; simp, B3.trans (B8.mono B3.size)⟩
        | false =>
          go_wp2_with (first
            | (go_at_call 18; refine T4.mono ?_; rintro e w5 ⟨rfl, hb5⟩; have B5 := hbc.trans (hb5.mono hbc.size); have J5 := ZV3 w5)
            | (go_at_call 14; refine J5.mono ?_; rintro e w6 ⟨rfl, hb6⟩))
          go_ret
          have B6 := B5.trans (hb6.mono B5.size)
          exact ⟨rfl, B3.trans (B6.mono B3.size)⟩
  · have QA2 : Hid (∀ W g c rs, DocAt W g 0 c rs (Tn.build l) → Calls Tryz.prog 13 #[.slice (some ⟨g, 0, none⟩) rs.length c, .agg #[.int .i64 5, .int .i64 n, .int .i64 0, .int .i64 0, .string ⟨#[97, 114, 105, 97, 45, 108, 97, 98, 101, 108]⟩, .string s]] W fun e w' => e = .returned (.tuple #[.slice none 0 0, .int .i64 0, .int .i64 (Tn.applyE (Tn.build l) ⟨5, n, 0, 0, ⟨#[97, 114, 105, 97, 45, 108, 97, 98, 101, 108]⟩, s⟩)]) ∧ Below W.heap.size W w') := fun W g c rs h => (QA.out W g c rs h).mono (by
      rintro e w' ⟨hb, ⟨hne, e1⟩ | ⟨he, _⟩⟩
      · exact ⟨e1, hb⟩
      · exact absurd he.out hE)
    have hq : (Tn.applyE (Tn.build l) ⟨5, n, 0, 0, ⟨#[97, 114, 105, 97, 45, 108, 97, 98, 101, 108]⟩, s⟩ != 0) = true := by simpa using hE
    clear QA hE hsz T SQ
    generalize Tn.applyE (Tn.build l) ⟨5, n, 0, 0, ⟨#[97, 114, 105, 97, 45, 108, 97, 98, 101, 108]⟩, s⟩ = er at *
    generalize Tn.build l = d0 at *
    go_enter Tryz.func5, Tryz.ntmps5
    go_wp2_with (first
      | (go_at_call 12; refine hA.mono ?_; rintro e w1 ⟨rfl, hb1⟩)
      | (go_at_call 7; refine (QB.out _ hb1).mono ?_; rintro e w2 ⟨g, c, rs, rfl, hd2, hb2⟩; have B2 := hb1.trans (hb2.mono hb1.size); have D2 : Hid (DocAt w2 g 0 c rs d0) := hd2; clear hd2)
      | (go_at_call 13; refine (QA2.out _ _ _ _ D2.out).mono ?_; rintro e w3 ⟨rfl, hb3⟩; have B3 := B2.trans (hb3.mono B2.size)))
    go_ret
    exact ⟨rfl, B3⟩
end Go.Proofs.YtcinjbolflhjmadGreatDoor

/-
  THE WALK of tnlaw7's NamingAsked.
-/
namespace Go.Proofs.YtcinjbolflhjmadGreatDoor
open Go.RowKit

def plainL : List ByteArray := [⟨#[97, 108, 116]⟩, ⟨#[97, 114, 105, 97, 45, 108, 97, 98, 101, 108]⟩, ⟨#[116, 105, 116, 108, 101]⟩, ⟨#[118, 97, 108, 117, 101]⟩, ⟨#[97, 114, 105, 97, 45, 108, 101, 118, 101, 108]⟩, ⟨#[97, 114, 105, 97, 45, 99, 104, 101, 99, 107, 101, 100]⟩, ⟨#[97, 114, 105, 97, 45, 100, 105, 115, 97, 98, 108, 101, 100]⟩, ⟨#[99, 104, 101, 99, 107, 101, 100]⟩]
def pl (name : ByteArray) (j : Nat) : Bool := (plainL.take j).any (fun p => eqP p name)
  where eqP (a b : ByteArray) : Bool := a.toList == b.toList
theorem pl_succ (name : ByteArray) (j : Nat) (h : j < plainL.length) : pl name (j + 1) = (pl name j || (plainL[j].toList == name.toList)) := by
  unfold pl
  rw [List.take_succ_eq_append_getElem h, List.any_append]
  simp [pl.eqP]
theorem pl_all (name : ByteArray) : pl name 8 = plainA name := by
  unfold pl plainA
  rfl

/-- a change behind which all is the same, if who is asked is not its node -/
theorem asked_same {l : List Tn.Chg} {x : Tn.Chg} {n : Int} (hp : plainC x = true) (he : Tn.applyE (Tn.build l) x = 0) (hu : ∀ j ∈ (memoD (Tn.build l) (claimsD (Tn.build l)) n).uses, (j : Int) ≠ x.node) :
    memoD (Tn.applyD (Tn.build l) x) (claimsD (Tn.applyD (Tn.build l) x)) n = memoD (Tn.build l) (claimsD (Tn.build l)) n := by
  obtain ⟨k, hk, hlv, ha⟩ := plain_alike (build_good l) hp he
  rw [ha.claimsD]
  exact memo_alike ha hlv _ n (fun h => hu k h hk.symm)

/-- what a call of Of at a document behind a change answers -/
theorem of_behind {w : World} (T : Kn.TabAt w) {l : List Tn.Chg} (hsz : ∀ x ∈ l, x.value.size ≤ 4194304 ∧ x.name.size ≤ 4194304) {x : Tn.Chg} (hx : x.value.size ≤ 4194304 ∧ x.name.size ≤ 4194304) (he : Tn.applyE (Tn.build l) x = 0) (n : Int) :
    (∀ W g c rs, DocAt W g 0 c rs (Tn.applyD (Tn.build l) x) → Below w.heap.size w W → Calls Tryz.prog 8 #[.slice (some ⟨g, 0, none⟩) rs.length c] W fun e w' => ∃ p cc, e = .returned (.slice p (claimsD (Tn.applyD (Tn.build l) x)).length cc) ∧ ClsAt w' (.slice p (claimsD (Tn.applyD (Tn.build l) x)).length cc) (claimsD (Tn.applyD (Tn.build l) x)) ∧ DocAt w' g 0 c rs (Tn.applyD (Tn.build l) x) ∧ Below W.heap.size W w') ∧
    (∀ W g c rs p cc, DocAt W g 0 c rs (Tn.applyD (Tn.build l) x) → Below w.heap.size w W → ClsAt W (.slice p (claimsD (Tn.applyD (Tn.build l) x)).length cc) (claimsD (Tn.applyD (Tn.build l) x)) → Calls Tryz.prog 10 #[.slice (some ⟨g, 0, none⟩) rs.length c, .slice p (claimsD (Tn.applyD (Tn.build l) x)).length cc, .int .i64 n] W fun e w' => ∃ p c, e = .returned (.agg #[.int .i64 n, .string (memoD (Tn.applyD (Tn.build l) x) (claimsD (Tn.applyD (Tn.build l) x)) n).name, .string (memoD (Tn.applyD (Tn.build l) x) (claimsD (Tn.applyD (Tn.build l) x)) n).about, .slice p (memoD (Tn.applyD (Tn.build l) x) (claimsD (Tn.applyD (Tn.build l) x)) n).uses.length c]) ∧ IntsAt w' (.slice p (memoD (Tn.applyD (Tn.build l) x) (claimsD (Tn.applyD (Tn.build l) x)) n).uses.length c) (memoD (Tn.applyD (Tn.build l) x) (claimsD (Tn.applyD (Tn.build l) x)) n).uses ∧ Below W.heap.size W w') := by
  rw [← build_snoc he]
  have hs : ∀ y ∈ l ++ [x], y.value.size ≤ 4194304 ∧ y.name.size ≤ 4194304 := fun y hy => by
    rw [List.mem_append, List.mem_singleton] at hy
    rcases hy with hy | rfl
    · exact hsz y hy
    · exact hx
  refine ⟨fun W g c rs hd hb => ?_, fun W g c rs p cc hd hb hc => ?_⟩
  · refine (qclaims_any (dx_build hd hs)).mono ?_
    rintro e w' ⟨v, rfl, ho, hb2⟩
    obtain ⟨p, cc, rfl, _⟩ := (cls_of_owns ho)
    exact ⟨p, cc, rfl, cls_of_owns ho, hd.keeps (keeps_below hb2 (Nat.le_refl _)), hb2⟩
  · refine (nof_any (nx_build hd (T.below hb) hs hc (forest_claims (build_fine _))) n).mono ?_
    rintro e w' ⟨v, rfl, ho, hb2⟩
    obtain ⟨p, c2, rfl⟩ := ho.shape
    exact ⟨p, c2, rfl, ints_of_owns ho, hb2⟩
/-- and at the document itself -/
theorem of_there {w : World} (T : Kn.TabAt w) {l : List Tn.Chg} (hsz : ∀ x ∈ l, x.value.size ≤ 4194304 ∧ x.name.size ≤ 4194304) (n : Int) :
    (∀ W g c rs, DocAt W g 0 c rs (Tn.build l) → Calls Tryz.prog 8 #[.slice (some ⟨g, 0, none⟩) rs.length c] W fun e w' => ∃ p cc, e = .returned (.slice p (claimsD (Tn.build l)).length cc) ∧ ClsAt w' (.slice p (claimsD (Tn.build l)).length cc) (claimsD (Tn.build l)) ∧ DocAt w' g 0 c rs (Tn.build l) ∧ Below W.heap.size W w') ∧
    (∀ W g c rs p cc, DocAt W g 0 c rs (Tn.build l) → Below w.heap.size w W → ClsAt W (.slice p (claimsD (Tn.build l)).length cc) (claimsD (Tn.build l)) → Calls Tryz.prog 10 #[.slice (some ⟨g, 0, none⟩) rs.length c, .slice p (claimsD (Tn.build l)).length cc, .int .i64 n] W fun e w' => ∃ p c9, e = .returned (.agg #[.int .i64 n, .string (memoD (Tn.build l) (claimsD (Tn.build l)) n).name, .string (memoD (Tn.build l) (claimsD (Tn.build l)) n).about, .slice p (memoD (Tn.build l) (claimsD (Tn.build l)) n).uses.length c9]) ∧ IntsAt w' (.slice p (memoD (Tn.build l) (claimsD (Tn.build l)) n).uses.length c9) (memoD (Tn.build l) (claimsD (Tn.build l)) n).uses ∧ DocAt w' g 0 c rs (Tn.build l) ∧ Below W.heap.size W w') := by
  refine ⟨fun W g c rs hd => ?_, fun W g c rs p cc hd hb hc => ?_⟩
  · refine (qclaims_any (dx_build hd hsz)).mono ?_
    rintro e w' ⟨v, rfl, ho, hb2⟩
    obtain ⟨p, cc, rfl, _⟩ := (cls_of_owns ho)
    exact ⟨p, cc, rfl, cls_of_owns ho, hd.keeps (keeps_below hb2 (Nat.le_refl _)), hb2⟩
  · refine (nof_any (nx_build hd (T.below hb) hsz hc (forest_claims (build_fine _))) n).mono ?_
    rintro e w' ⟨v, rfl, ho, hb2⟩
    obtain ⟨p, c2, rfl⟩ := ho.shape
    exact ⟨p, c2, rfl, ints_of_owns ho, hd.keeps (keeps_below hb2 (Nat.le_refl _)), hb2⟩

set_option maxHeartbeats 12800000 in
set_option maxRecDepth 100000 in
theorem nasked_walk {w : World} (T : Kn.TabAt w) {vl : Value} {l : List Tn.Chg} (hl : ChgsAt w vl l) (hsz : ∀ x ∈ l, x.value.size ≤ 4194304 ∧ x.name.size ≤ 4194304) (n k : Int) (name : ByteArray) (hnz : name.size ≤ 4194304) (s : ByteArray) (hz : s.size ≤ 4194304) :
    Calls Tryz.prog 4 #[vl, .int .i64 n, .int .i64 k, .string name, .string s] w fun e w' => e = .returned (.bool true) ∧ Below w.heap.size w w' := by
  have hA := l7alive_any T
  have QB : Hid (∀ W, Below w.heap.size w W → Calls Tryz.prog 7 #[vl] W fun e w' => ∃ g c rs, e = .returned (.slice (some ⟨g, 0, none⟩) rs.length c) ∧ DocAt w' g 0 c rs (Tn.build l) ∧ Below W.heap.size W w') := fun W hW => rbuild_good (hl.keeps (keeps_below hW (Nat.le_refl _))) hsz
  have Q1 : Hid (∀ W g c rs, DocAt W g 0 c rs (Tn.build l) → Calls Tryz.prog 13 #[.slice (some ⟨g, 0, none⟩) rs.length c, .agg #[.int .i64 5, .int .i64 k, .int .i64 0, .int .i64 0, .string name, .string s]] W fun e w' => ApPost W w' e (Tn.build l) ⟨5, k, 0, 0, name, s⟩) := fun W g c rs h => rapply_build h ⟨5, k, 0, 0, name, s⟩ hz hnz
  have Q2 : Hid (∀ W g c rs, DocAt W g 0 c rs (Tn.build l) → Calls Tryz.prog 13 #[.slice (some ⟨g, 0, none⟩) rs.length c, .agg #[.int .i64 7, .int .i64 k, .int .i64 0, .int .i64 0, .string ⟨#[]⟩, .string s]] W fun e w' => ApPost W w' e (Tn.build l) ⟨7, k, 0, 0, ⟨#[]⟩, s⟩) := fun W g c rs h => rapply_build h ⟨7, k, 0, 0, ⟨#[]⟩, s⟩ hz nil_size
  obtain ⟨pc, cc, rfl, _⟩ := hl
  have OT := of_there T hsz n
  have OC : Hid (∀ W g c rs, DocAt W g 0 c rs (Tn.build l) → Calls Tryz.prog 8 #[.slice (some ⟨g, 0, none⟩) rs.length c] W fun e w' => ∃ p cc, e = .returned (.slice p (claimsD (Tn.build l)).length cc) ∧ ClsAt w' (.slice p (claimsD (Tn.build l)).length cc) (claimsD (Tn.build l)) ∧ DocAt w' g 0 c rs (Tn.build l) ∧ Below W.heap.size W w') := OT.1
  have OO : Hid (∀ W g c rs p cc, DocAt W g 0 c rs (Tn.build l) → Below w.heap.size w W → ClsAt W (.slice p (claimsD (Tn.build l)).length cc) (claimsD (Tn.build l)) → Calls Tryz.prog 10 #[.slice (some ⟨g, 0, none⟩) rs.length c, .slice p (claimsD (Tn.build l)).length cc, .int .i64 n] W fun e w' => ∃ p c9, e = .returned (.agg #[.int .i64 n, .string (memoD (Tn.build l) (claimsD (Tn.build l)) n).name, .string (memoD (Tn.build l) (claimsD (Tn.build l)) n).about, .slice p (memoD (Tn.build l) (claimsD (Tn.build l)) n).uses.length c9]) ∧ IntsAt w' (.slice p (memoD (Tn.build l) (claimsD (Tn.build l)) n).uses.length c9) (memoD (Tn.build l) (claimsD (Tn.build l)) n).uses ∧ DocAt w' g 0 c rs (Tn.build l) ∧ Below W.heap.size W w') := OT.2
  -- the two changes, and what Of answers behind them
  have BH : ∀ x : Tn.Chg, x.value.size ≤ 4194304 ∧ x.name.size ≤ 4194304 → x.node = k → plainC x = true → Tn.applyE (Tn.build l) x = 0 → (∀ j ∈ (memoD (Tn.build l) (claimsD (Tn.build l)) n).uses, (j : Int) ≠ k) →
      Hid ((∀ W g c rs, DocAt W g 0 c rs (Tn.applyD (Tn.build l) x) → Below w.heap.size w W → Calls Tryz.prog 8 #[.slice (some ⟨g, 0, none⟩) rs.length c] W fun e w' => ∃ p cc, e = .returned (.slice p (claimsD (Tn.applyD (Tn.build l) x)).length cc) ∧ ClsAt w' (.slice p (claimsD (Tn.applyD (Tn.build l) x)).length cc) (claimsD (Tn.applyD (Tn.build l) x)) ∧ DocAt w' g 0 c rs (Tn.applyD (Tn.build l) x) ∧ Below W.heap.size W w') ∧
      (∀ W g c rs p cc, DocAt W g 0 c rs (Tn.applyD (Tn.build l) x) → Below w.heap.size w W → ClsAt W (.slice p (claimsD (Tn.applyD (Tn.build l) x)).length cc) (claimsD (Tn.applyD (Tn.build l) x)) → Calls Tryz.prog 10 #[.slice (some ⟨g, 0, none⟩) rs.length c, .slice p (claimsD (Tn.applyD (Tn.build l) x)).length cc, .int .i64 n] W fun e w' => ∃ p c9, e = .returned (.agg #[.int .i64 n, .string (memoD (Tn.build l) (claimsD (Tn.build l)) n).name, .string (memoD (Tn.build l) (claimsD (Tn.build l)) n).about, .slice p (memoD (Tn.build l) (claimsD (Tn.build l)) n).uses.length c9]) ∧ IntsAt w' (.slice p (memoD (Tn.build l) (claimsD (Tn.build l)) n).uses.length c9) (memoD (Tn.build l) (claimsD (Tn.build l)) n).uses ∧ Below W.heap.size W w')) := by
    intro x hx hxk hp he hu
    have h := of_behind T hsz hx he n
    rw [asked_same hp he (by rw [hxk]; exact hu)] at h
    exact h
  have BH1 : Hid (plainA name = true → Tn.applyE (Tn.build l) ⟨5, k, 0, 0, name, s⟩ = 0 → (∀ j ∈ (memoD (Tn.build l) (claimsD (Tn.build l)) n).uses, (j : Int) ≠ k) → _) := fun h he hu => BH ⟨5, k, 0, 0, name, s⟩ ⟨hz, hnz⟩ rfl (by unfold plainC; simp [h]) he hu
  have BH2 : Hid (Tn.applyE (Tn.build l) ⟨7, k, 0, 0, ⟨#[]⟩, s⟩ = 0 → (∀ j ∈ (memoD (Tn.build l) (claimsD (Tn.build l)) n).uses, (j : Int) ≠ k) → _) := fun he hu => BH ⟨7, k, 0, 0, ⟨#[]⟩, s⟩ ⟨hz, nil_size⟩ rfl (by unfold plainC; simp) he hu
  clear OT BH
  -- a change that doesn't go, and one that goes
  have A1 : Hid (∀ W g c rs, DocAt W g 0 c rs (Tn.build l) → Tn.applyE (Tn.build l) ⟨5, k, 0, 0, name, s⟩ ≠ 0 → Calls Tryz.prog 13 #[.slice (some ⟨g, 0, none⟩) rs.length c, .agg #[.int .i64 5, .int .i64 k, .int .i64 0, .int .i64 0, .string name, .string s]] W fun e w' => e = .returned (.tuple #[.slice none 0 0, .int .i64 0, .int .i64 (Tn.applyE (Tn.build l) ⟨5, k, 0, 0, name, s⟩)]) ∧ Below W.heap.size W w') := fun W g c rs h hE => (Q1.out W g c rs h).mono (by
    rintro e w' ⟨hb, ⟨hne, e1⟩ | ⟨he, _⟩⟩
    · exact ⟨e1, hb⟩
    · exact absurd he.out hE)
  have A2 : Hid (∀ W g c rs, DocAt W g 0 c rs (Tn.build l) → Tn.applyE (Tn.build l) ⟨7, k, 0, 0, ⟨#[]⟩, s⟩ ≠ 0 → Calls Tryz.prog 13 #[.slice (some ⟨g, 0, none⟩) rs.length c, .agg #[.int .i64 7, .int .i64 k, .int .i64 0, .int .i64 0, .string ⟨#[]⟩, .string s]] W fun e w' => e = .returned (.tuple #[.slice none 0 0, .int .i64 0, .int .i64 (Tn.applyE (Tn.build l) ⟨7, k, 0, 0, ⟨#[]⟩, s⟩)]) ∧ Below W.heap.size W w') := fun W g c rs h hE => (Q2.out W g c rs h).mono (by
    rintro e w' ⟨hb, ⟨hne, e1⟩ | ⟨he, _⟩⟩
    · exact ⟨e1, hb⟩
    · exact absurd he.out hE)
  have G1 : Hid (∀ W g c rs, DocAt W g 0 c rs (Tn.build l) → Tn.applyE (Tn.build l) ⟨5, k, 0, 0, name, s⟩ = 0 → Calls Tryz.prog 13 #[.slice (some ⟨g, 0, none⟩) rs.length c, .agg #[.int .i64 5, .int .i64 k, .int .i64 0, .int .i64 0, .string name, .string s]] W fun e w' => (∃ (g' c' : Nat) (rs' : List Raw) (m : Int), e = .returned (.tuple #[.slice (some ⟨g', 0, none⟩) rs'.length c', .int .i64 m, .int .i64 0]) ∧ DocAt w' g' 0 c' rs' (Tn.applyD (Tn.build l) ⟨5, k, 0, 0, name, s⟩)) ∧ Below W.heap.size W w') := fun W g c rs h hE => (Q1.out W g c rs h).mono (by
    rintro e w' ⟨hb, ⟨hne, _⟩ | ⟨_, g', c', rs', e1, hd⟩⟩
    · exact absurd hE hne.out
    · exact ⟨⟨g', c', rs', _, e1, hd⟩, hb⟩)
  have G2 : Hid (∀ W g c rs, DocAt W g 0 c rs (Tn.build l) → Tn.applyE (Tn.build l) ⟨7, k, 0, 0, ⟨#[]⟩, s⟩ = 0 → Calls Tryz.prog 13 #[.slice (some ⟨g, 0, none⟩) rs.length c, .agg #[.int .i64 7, .int .i64 k, .int .i64 0, .int .i64 0, .string ⟨#[]⟩, .string s]] W fun e w' => (∃ (g' c' : Nat) (rs' : List Raw) (m : Int), e = .returned (.tuple #[.slice (some ⟨g', 0, none⟩) rs'.length c', .int .i64 m, .int .i64 0]) ∧ DocAt w' g' 0 c' rs' (Tn.applyD (Tn.build l) ⟨7, k, 0, 0, ⟨#[]⟩, s⟩)) ∧ Below W.heap.size W w') := fun W g c rs h hE => (Q2.out W g c rs h).mono (by
    rintro e w' ⟨hb, ⟨hne, _⟩ | ⟨_, g', c', rs', e1, hd⟩⟩
    · exact absurd hE hne.out
    · exact ⟨⟨g', c', rs', _, e1, hd⟩, hb⟩)
  clear Q1 Q2 hsz T
  have HPL : Hid (pl name 8 = plainA name) := pl_all name
  have PS : Hid (∀ j (h : j < 8), pl name (j + 1) = (pl name j || ((plainL[j]'h).toList == name.toList))) := fun j h => pl_succ name j h
  have P0 : Hid (pl name 0 = false) := rfl
  generalize (memoD (Tn.build l) (claimsD (Tn.build l)) n).name = nm at *
  generalize (memoD (Tn.build l) (claimsD (Tn.build l)) n).about = ab at *
  generalize (memoD (Tn.build l) (claimsD (Tn.build l)) n).uses = us at *
  generalize Tn.applyD (Tn.build l) ⟨5, k, 0, 0, name, s⟩ = y1 at *
  generalize Tn.applyD (Tn.build l) ⟨7, k, 0, 0, ⟨#[]⟩, s⟩ = y2 at *
  generalize Tn.applyE (Tn.build l) ⟨5, k, 0, 0, name, s⟩ = er1 at *
  generalize Tn.applyE (Tn.build l) ⟨7, k, 0, 0, ⟨#[]⟩, s⟩ = er2 at *
  generalize Tn.build l = d0 at *
  go_enter Tryz.func4, Tryz.ntmps4
  go_upto_region 6 with (first
    | (go_at_call 12; refine hA.mono ?_; rintro e w1 ⟨rfl, hb1⟩)
    | (go_at_call 7; refine (QB.out _ hb1).mono ?_; rintro e w2 ⟨g, c, rs, rfl, hd2, hb2⟩; have B2 := hb1.trans (hb2.mono hb1.size); have D2 : Hid (DocAt w2 g 0 c rs d0) := hd2; clear hd2)
    | (go_at_call 8; refine (OC.out _ _ _ _ D2.out).mono ?_; rintro e w3 ⟨p3, c3, rfl, hc3, hd3, hb3⟩; have B3 := B2.trans (hb3.mono B2.size); have J3 := OO.out _ _ _ _ _ _ hd3 B3 hc3; clear hc3 hd3)
    | (go_at_call 10; refine J3.mono ?_; clear J3; rintro e w4 ⟨pu, cu, rfl, hu4, hd4, hb4⟩; have U4 : Hid (IntsAt w4 (.slice pu us.length cu) us) := hu4; have D4 : Hid (DocAt w4 g 0 c rs d0) := hd4; clear hu4 hd4))
  have B4 : Below w.heap.size w w4 := B3.trans (hb4.mono B3.size)
  have bx := box4' w4 (.int .i64 n) (.string nm) (.string ab) (.slice pu us.length cu) 31
  have B5 : Below w.heap.size w (w4.alloc (.cells #[.int .i64 n, .string nm, .string ab, .slice pu us.length cu] 31)) := B4.alloc B4.size _
  have K5 : Keeps w4 (w4.alloc (.cells #[.int .i64 n, .string nm, .string ab, .slice pu us.length cu] 31)) := keeps_alloc _ _
  have HB5 : Hid (Below w.heap.size w (w4.alloc (.cells #[.int .i64 n, .string nm, .string ab, .slice pu us.length cu] 31))) := B5
  have D5 : Hid (DocAt (w4.alloc (.cells #[.int .i64 n, .string nm, .string ab, .slice pu us.length cu] 31)) g 0 c rs d0) := D4.out.keeps K5
  have U5 : Hid (IntsAt (w4.alloc (.cells #[.int .i64 n, .string nm, .string ab, .slice pu us.length cu] 31)) (.slice pu us.length cu) us) := U4.out.keeps K5
  clear hA QB OC OO D2 D4 U4 B2 B3 B4 B5 K5 hb1 hb2 hb3 hb4
  generalize w4.alloc (.cells #[.int .i64 n, .string nm, .string ab, .slice pu us.length cu] 31) = w5 at *
  generalize w4.heap.size = M at *
  obtain ⟨m0, m1, m2, m3⟩ := bx
  obtain ⟨pu', cu', hpu, hu1, hu2, _, hat⟩ := U5.out.at
  obtain ⟨rfl, _, rfl⟩ : pu = pu' ∧ True ∧ cu = cu' := by injection hpu with h1 h2 h3; exact ⟨h1, trivial, h3⟩
  clear hpu
  have HU : Hid (∀ j (hj : j < us.length), ∃ b o, pu = some ⟨b, o, none⟩ ∧ w5.cell? ⟨b, o + j, none⟩ = some (.int .i64 (us[j] : Int))) := hat
  clear hat
  go_upto_region 7 with fail
  go_loopw [38] (fun iv wr => ∃ j : Nat, j ≤ us.length ∧ iv = .int .i64 j ∧ Hid (∀ x ∈ us.take j, (x : Int) ≠ k) ∧ wr = w5) (fun iv _ => us.length - (intOf iv).toNat)
  case atStart => exact ⟨0, Nat.zero_le _, rfl, fun x hx => by simp at hx, rfl⟩
  case round =>
    obtain ⟨j, hj, rfl, NOK, hww⟩ := hrel
    subst hww
    by_cases hlt : j < us.length
    · obtain ⟨bu, ou, rfl, hc⟩ := HU.out j hlt
      by_cases hq : ((us[j] : Nat) : Int) = k
      · have hq2 : (((us[j] : Nat) : Int) == k) = true := by simpa using hq
        clear hq
        generalize us[j] = x at *
        go_wp2_with fail
        go_ret
        exact ⟨rfl, HB5.out⟩
      · have hq2 : (((us[j] : Nat) : Int) == k) = false := by simpa using hq
        have NX : Hid (∀ x ∈ us.take (j + 1), (x : Int) ≠ k) := by
          intro x hx
          rw [List.take_succ_eq_append_getElem hlt, List.mem_append, List.mem_singleton] at hx
          rcases hx with hx | rfl
          · exact NOK.out x hx
          · exact hq
        clear hq
        generalize us[j] = x at *
        go_wp2_with fail
        go_roundw
        case rel => exact ⟨j + 1, by omega, by go_num, NX, trivial⟩
        case measure => simp [intOf]; omega
    · obtain rfl : j = us.length := by omega
      have NU : Hid (∀ x ∈ us, (x : Int) ≠ k) := fun x hx => NOK.out x (by rw [List.take_length]; exact hx)
      clear NOK HU hlt hj
      have T : Hid (∀ j (h : j < 8), (wr.alloc (.cells #[.string ⟨#[97, 108, 116]⟩, .string ⟨#[97, 114, 105, 97, 45, 108, 97, 98, 101, 108]⟩, .string ⟨#[116, 105, 116, 108, 101]⟩, .string ⟨#[118, 97, 108, 117, 101]⟩, .string ⟨#[97, 114, 105, 97, 45, 108, 101, 118, 101, 108]⟩, .string ⟨#[97, 114, 105, 97, 45, 99, 104, 101, 99, 107, 101, 100]⟩, .string ⟨#[97, 114, 105, 97, 45, 100, 105, 115, 97, 98, 108, 101, 100]⟩, .string ⟨#[99, 104, 101, 99, 107, 101, 100]⟩] 9)).cell? ⟨wr.heap.size, j, none⟩ = some (.string (plainL[j]'h))) := fun j h => by
        rw [World.cell?_alloc_new]
        match j, h with
        | 0, _ => rfl
        | 1, _ => rfl
        | 2, _ => rfl
        | 3, _ => rfl
        | 4, _ => rfl
        | 5, _ => rfl
        | 6, _ => rfl
        | 7, _ => rfl
      have K6 : Keeps wr (wr.alloc (.cells #[.string ⟨#[97, 108, 116]⟩, .string ⟨#[97, 114, 105, 97, 45, 108, 97, 98, 101, 108]⟩, .string ⟨#[116, 105, 116, 108, 101]⟩, .string ⟨#[118, 97, 108, 117, 101]⟩, .string ⟨#[97, 114, 105, 97, 45, 108, 101, 118, 101, 108]⟩, .string ⟨#[97, 114, 105, 97, 45, 99, 104, 101, 99, 107, 101, 100]⟩, .string ⟨#[97, 114, 105, 97, 45, 100, 105, 115, 97, 98, 108, 101, 100]⟩, .string ⟨#[99, 104, 101, 99, 107, 101, 100]⟩] 9)) := keeps_alloc _ _
      have D6 : Hid (DocAt (wr.alloc (.cells #[.string ⟨#[97, 108, 116]⟩, .string ⟨#[97, 114, 105, 97, 45, 108, 97, 98, 101, 108]⟩, .string ⟨#[116, 105, 116, 108, 101]⟩, .string ⟨#[118, 97, 108, 117, 101]⟩, .string ⟨#[97, 114, 105, 97, 45, 108, 101, 118, 101, 108]⟩, .string ⟨#[97, 114, 105, 97, 45, 99, 104, 101, 99, 107, 101, 100]⟩, .string ⟨#[97, 114, 105, 97, 45, 100, 105, 115, 97, 98, 108, 101, 100]⟩, .string ⟨#[99, 104, 101, 99, 107, 101, 100]⟩] 9)) g 0 c rs d0) := D5.out.keeps K6
      have U6 : Hid (IntsAt (wr.alloc (.cells #[.string ⟨#[97, 108, 116]⟩, .string ⟨#[97, 114, 105, 97, 45, 108, 97, 98, 101, 108]⟩, .string ⟨#[116, 105, 116, 108, 101]⟩, .string ⟨#[118, 97, 108, 117, 101]⟩, .string ⟨#[97, 114, 105, 97, 45, 108, 101, 118, 101, 108]⟩, .string ⟨#[97, 114, 105, 97, 45, 99, 104, 101, 99, 107, 101, 100]⟩, .string ⟨#[97, 114, 105, 97, 45, 100, 105, 115, 97, 98, 108, 101, 100]⟩, .string ⟨#[99, 104, 101, 99, 107, 101, 100]⟩] 9)) (.slice pu us.length cu) us) := U5.out.keeps K6
      have B6 : Hid (Below w.heap.size w (wr.alloc (.cells #[.string ⟨#[97, 108, 116]⟩, .string ⟨#[97, 114, 105, 97, 45, 108, 97, 98, 101, 108]⟩, .string ⟨#[116, 105, 116, 108, 101]⟩, .string ⟨#[118, 97, 108, 117, 101]⟩, .string ⟨#[97, 114, 105, 97, 45, 108, 101, 118, 101, 108]⟩, .string ⟨#[97, 114, 105, 97, 45, 99, 104, 101, 99, 107, 101, 100]⟩, .string ⟨#[97, 114, 105, 97, 45, 100, 105, 115, 97, 98, 108, 101, 100]⟩, .string ⟨#[99, 104, 101, 99, 107, 101, 100]⟩] 9))) := HB5.out.alloc HB5.out.size _
      have n0 := K6 _ _ m0
      have n1 := K6 _ _ m1
      have n2 := K6 _ _ m2
      have n3 := K6 _ _ m3
      clear K6 D5 U5 HB5 m0 m1 m2 m3
      go_upto_region 14 with fail
      generalize wr.alloc (.cells #[.string ⟨#[97, 108, 116]⟩, .string ⟨#[97, 114, 105, 97, 45, 108, 97, 98, 101, 108]⟩, .string ⟨#[116, 105, 116, 108, 101]⟩, .string ⟨#[118, 97, 108, 117, 101]⟩, .string ⟨#[97, 114, 105, 97, 45, 108, 101, 118, 101, 108]⟩, .string ⟨#[97, 114, 105, 97, 45, 99, 104, 101, 99, 107, 101, 100]⟩, .string ⟨#[97, 114, 105, 97, 45, 100, 105, 115, 97, 98, 108, 101, 100]⟩, .string ⟨#[99, 104, 101, 99, 107, 101, 100]⟩] 9) = w6 at *
      generalize wr.heap.size = Q at *
      go_loopw [16, 48] (fun pv iv wr => ∃ j : Nat, j ≤ 8 ∧ iv = .int .i64 j ∧ pv = .bool (pl name j) ∧ wr = w6) (fun _ iv _ => 8 - (intOf iv).toNat)
      case atStart => exact ⟨0, Nat.zero_le _, rfl, by rw [P0.out], rfl⟩
      case round =>
        obtain ⟨j, hj, rfl, rfl, hww⟩ := hrel
        subst hww
        by_cases hlt : j < 8
        · have hc := T.out j hlt
          have E := PS.out j hlt
          generalize plainL[j] = pj at *
          obtain ⟨pn, hpn⟩ : ∃ pn, pl name (j + 1) = pn := ⟨_, rfl⟩
          rw [hpn] at E
          have PN : Hid (pl name (j + 1) = pn) := hpn
          have E9 : Hid (pn = (pl name j || (pj.toList == name.toList))) := E
          clear hpn E
          cases hp : pl name j with
          | true =>
            go_wp2_with fail
            go_roundw
            case rel => exact ⟨j + 1, by omega, by go_num, by rw [PN.out, E9.out, hp]; rfl, trivial⟩
            case measure => simp [intOf]; omega
          | false =>
            go_wp2_with fail
            go_roundw
            case rel => exact ⟨j + 1, by omega, by go_num, by rw [PN.out, E9.out, hp]; rfl, trivial⟩
            case measure => simp [intOf]; omega
        · obtain rfl : j = 8 := by omega
          clear T PS P0 hlt hj
          cases hp : pl name 8 with
          | false =>
            go_wp2_with fail
            go_ret
            exact ⟨rfl, B6.out⟩
          | true =>
            have hpa : plainA name = true := by rw [← HPL.out]; exact hp
            clear hp HPL
            by_cases he1 : er1 = 0
            · have BB : Hid _ := BH1.out hpa he1 NU.out
              have AP := G1.out _ _ _ _ D6.out he1
              clear he1 A1 G1 BH1
              go_upto_region 21 with (go_at_call 13; refine AP.mono ?_; clear AP; rintro e w7 ⟨⟨g7, c7, rs7, m7, rfl, hd7⟩, hb7⟩)
              have DD : Hid (DocAt w7 g7 0 c7 rs7 y1) := hd7
              have BX : Hid (Below w.heap.size w w7) := B6.out.trans (hb7.mono B6.out.size)
              have K7 := keeps_below hb7 (Nat.le_refl _)
              have UX : Hid (IntsAt w7 (.slice pu us.length cu) us) := U6.out.keeps K7
              have x0 := K7 _ _ n0
              have x1 := K7 _ _ n1
              have x2 := K7 _ _ n2
              have x3 := K7 _ _ n3
              clear hd7
              go_cut [82] from 71 to 81 (fun tv wc => tv = .bool false ∧ Below w7.heap.size w7 wc)
              case first =>
                have SS : ∀ w'', Keeps w7 w'' → (fun w'' : World => w''.cell? ⟨M, 0, none⟩ = some (.int .i64 n) ∧ w''.cell? ⟨M, 1, none⟩ = some (.string nm) ∧ w''.cell? ⟨M, 2, none⟩ = some (.string ab) ∧ w''.cell? ⟨M, 3, none⟩ = some (.slice pu us.length cu)) w'' := fun w'' hk => ⟨hk _ _ x0, hk _ _ x1, hk _ _ x2, hk _ _ x3⟩
                have CL : Hid (∀ W, Below w7.heap.size w7 W → Calls Tryz.prog 8 #[.slice (some ⟨g7, 0, none⟩) rs7.length c7] W fun e w' => ∃ p cc, e = .returned (.slice p (claimsD y1).length cc) ∧ ClsAt w' (.slice p (claimsD y1).length cc) (claimsD y1) ∧ DocAt w' g7 0 c7 rs7 y1 ∧ Below W.heap.size W w') := fun W hb => BB.out.1 _ _ _ _ (DD.out.keeps (keeps_below hb (Nat.le_refl _))) (BX.out.trans (hb.mono BX.out.size))
                have SM : Hid (∀ W v1, Below w7.heap.size w7 W → IntsAt W v1 us → Calls Tryz.prog 9 #[.agg #[.int .i64 n, .string nm, .string ab, v1], .agg #[.int .i64 n, .string nm, .string ab, .slice pu us.length cu]] W fun e w' => e = .returned (.bool true) ∧ Below W.heap.size W w') := fun W v1 hb h1 => qsamememo_eq h1 (UX.out.keeps (keeps_below hb (Nat.le_refl _)))
                go_region_held3 (fun w'' : World => w''.cell? ⟨M, 0, none⟩ = some (.int .i64 n) ∧ w''.cell? ⟨M, 1, none⟩ = some (.string nm) ∧ w''.cell? ⟨M, 2, none⟩ = some (.string ab) ∧ w''.cell? ⟨M, 3, none⟩ = some (.slice pu us.length cu))
                  ((apply SS; first | exact Keeps.refl _ | assumption | exact keeps_drew (Keeps.refl _)))
                  (first
                    | (go_at_call 8; refine (CL.out _ (Below.refl _ w7).drew).mono ?_; rintro e wa ⟨pa, ca, rfl, hca, hda, hba⟩; have Ba : Below w7.heap.size w7 wa := (Below.refl _ w7).drew.trans (hba.mono (Nat.le_refl _)); have Ja : Keeps w7 wa := keeps_below Ba (Nat.le_refl _); have OF := BB.out.2 wa _ _ _ pa ca hda (BX.out.trans (Ba.mono BX.out.size)) hca; clear hca hda)
                    | (go_at_call 10; refine OF.mono ?_; clear OF; rintro e wb ⟨pb, cb, rfl, hib, hbb⟩; have Bb : Below w7.heap.size w7 wb := Ba.trans (hbb.mono Ba.size); have Jb : Keeps w7 wb := keeps_below Bb (Nat.le_refl _); have SMb := SM.out wb _ Bb hib; clear hib)
                    | (go_at_call 9; refine SMb.mono ?_; clear SMb; rintro e wz ⟨rfl, hbz⟩; have Bz : Below w7.heap.size w7 wz := Bb.trans (hbz.mono Bb.size); have Jz : Keeps w7 wz := keeps_below Bz (Nat.le_refl _)))
                all_goals
                  go_wp2_with fail
                  go_meet
                  exact ⟨rfl, Bz⟩
              case rest =>
              obtain ⟨rfl, hbc⟩ := hcut
              have KC : Keeps _ wc := K7.trans (keeps_below hbc (Nat.le_refl _))
              have BC : Hid (Below w.heap.size w wc) := BX.out.trans (hbc.mono BX.out.size)
              have x0 := n0
              have x1 := n1
              have x2 := n2
              have x3 := n3
              clear BB DD BX UX K7 hbc hb7 n0 n1 n2 n3
              have D7 : Hid (DocAt wc g 0 c rs d0) := D6.out.keeps KC
              have U7 : Hid (IntsAt wc (.slice pu us.length cu) us) := U6.out.keeps KC
              have z0 := KC _ _ x0
              have z1 := KC _ _ x1
              have z2 := KC _ _ x2
              have z3 := KC _ _ x3
              clear x0 x1 x2 x3
              by_cases he2 : er2 = 0
              · have BB : Hid _ := BH2.out he2 NU.out
                have AP := G2.out wc _ _ _ D7.out he2
                clear he2 A2 G2 BH2
                go_upto_region 24 with (go_at_call 13; refine AP.mono ?_; clear AP; rintro e w8 ⟨⟨g8, c8, rs8, m8, rfl, hd8⟩, hb8⟩)
                have DD : Hid (DocAt w8 g8 0 c8 rs8 y2) := hd8
                have BX : Hid (Below w.heap.size w w8) := BC.out.trans (hb8.mono BC.out.size)
                have K8 := keeps_below hb8 (Nat.le_refl _)
                have UX : Hid (IntsAt w8 (.slice pu us.length cu) us) := U7.out.keeps K8
                have x0 := K8 _ _ z0
                have x1 := K8 _ _ z1
                have x2 := K8 _ _ z2
                have x3 := K8 _ _ z3
                clear hd8 K8 z0 z1 z2 z3 D7 U7
                have SS : ∀ w'', Keeps w8 w'' → (fun w'' : World => w''.cell? ⟨M, 0, none⟩ = some (.int .i64 n) ∧ w''.cell? ⟨M, 1, none⟩ = some (.string nm) ∧ w''.cell? ⟨M, 2, none⟩ = some (.string ab) ∧ w''.cell? ⟨M, 3, none⟩ = some (.slice pu us.length cu)) w'' := fun w'' hk => ⟨hk _ _ x0, hk _ _ x1, hk _ _ x2, hk _ _ x3⟩
                have CL : Hid (∀ W, Below w8.heap.size w8 W → Calls Tryz.prog 8 #[.slice (some ⟨g8, 0, none⟩) rs8.length c8] W fun e w' => ∃ p cc, e = .returned (.slice p (claimsD y2).length cc) ∧ ClsAt w' (.slice p (claimsD y2).length cc) (claimsD y2) ∧ DocAt w' g8 0 c8 rs8 y2 ∧ Below W.heap.size W w') := fun W hb => BB.out.1 _ _ _ _ (DD.out.keeps (keeps_below hb (Nat.le_refl _))) (BX.out.trans (hb.mono BX.out.size))
                have SM : Hid (∀ W v1, Below w8.heap.size w8 W → IntsAt W v1 us → Calls Tryz.prog 9 #[.agg #[.int .i64 n, .string nm, .string ab, v1], .agg #[.int .i64 n, .string nm, .string ab, .slice pu us.length cu]] W fun e w' => e = .returned (.bool true) ∧ Below W.heap.size W w') := fun W v1 hb h1 => qsamememo_eq h1 (UX.out.keeps (keeps_below hb (Nat.le_refl _)))
                go_region_held3 (fun w'' : World => w''.cell? ⟨M, 0, none⟩ = some (.int .i64 n) ∧ w''.cell? ⟨M, 1, none⟩ = some (.string nm) ∧ w''.cell? ⟨M, 2, none⟩ = some (.string ab) ∧ w''.cell? ⟨M, 3, none⟩ = some (.slice pu us.length cu))
                  ((apply SS; first | exact Keeps.refl _ | assumption | exact keeps_drew (Keeps.refl _)))
                  (first
                    | (go_at_call 8; refine (CL.out _ (Below.refl _ w8).drew).mono ?_; rintro e wa ⟨pa, ca, rfl, hca, hda, hba⟩; have Ba : Below w8.heap.size w8 wa := (Below.refl _ w8).drew.trans (hba.mono (Nat.le_refl _)); have Ja : Keeps w8 wa := keeps_below Ba (Nat.le_refl _); have OF := BB.out.2 wa _ _ _ pa ca hda (BX.out.trans (Ba.mono BX.out.size)) hca; clear hca hda)
                    | (go_at_call 10; refine OF.mono ?_; clear OF; rintro e wb ⟨pb, cb, rfl, hib, hbb⟩; have Bb : Below w8.heap.size w8 wb := Ba.trans (hbb.mono Ba.size); have Jb : Keeps w8 wb := keeps_below Bb (Nat.le_refl _); have SMb := SM.out wb _ Bb hib; clear hib)
                    | (go_at_call 9; refine SMb.mono ?_; clear SMb; rintro e wz ⟨rfl, hbz⟩; have Bz : Below w8.heap.size w8 wz := Bb.trans (hbz.mono Bb.size); have Jz : Keeps w8 wz := keeps_below Bz (Nat.le_refl _)))
                all_goals
                  go_wp2_with fail
                  go_ret
                  exact ⟨rfl, BX.out.trans (Bz.mono BX.out.size)⟩
              · have AP := A2.out wc _ _ _ D7.out he2
                have hq1 : (er2 != 0) = true := by simpa using he2
                have hq2 : (er2 == 0) = false := by simpa using he2
                clear he2 A2 G2 BH2
                go_upto_region 24 with (go_at_call 13; refine AP.mono ?_; clear AP; rintro e w8 ⟨rfl, hb8⟩)
                go_quiet (fail)
                go_wp2_with fail
                go_ret
                exact ⟨rfl, (BC.out.trans (hb8.mono BC.out.size)).trans ⟨rfl, rfl, rfl, Nat.le_refl _, fun _ _ => rfl⟩⟩
            · have AP := A1.out _ _ _ _ D6.out he1
              have hp1 : (er1 != 0) = true := by simpa using he1
              have hp2 : (er1 == 0) = false := by simpa using he1
              clear he1 A1 G1 BH1
              go_upto_region 21 with (go_at_call 13; refine AP.mono ?_; clear AP; rintro e w7 ⟨rfl, hb7⟩)
              go_cut [82] from 71 to 81 (fun tv wc => tv = .bool false ∧ Below w7.heap.size w7 wc)
              case first =>
                go_quiet (fail)
                go_wp2_with fail
                go_meet
                exact ⟨rfl, ⟨rfl, rfl, rfl, Nat.le_refl _, fun _ _ => rfl⟩⟩
              case rest =>
              obtain ⟨rfl, hbc⟩ := hcut
              have B7 := hb7.trans (hbc.mono hb7.size)
              have KC : Keeps _ wc := keeps_below B7 (Nat.le_refl _)
              have BC : Hid (Below w.heap.size w wc) := B6.out.trans (B7.mono B6.out.size)
              have x0 := n0
              have x1 := n1
              have x2 := n2
              have x3 := n3
              clear hbc hb7 B7 n0 n1 n2 n3 hp1 hp2
              have D7 : Hid (DocAt wc g 0 c rs d0) := D6.out.keeps KC
              have U7 : Hid (IntsAt wc (.slice pu us.length cu) us) := U6.out.keeps KC
              have z0 := KC _ _ x0
              have z1 := KC _ _ x1
              have z2 := KC _ _ x2
              have z3 := KC _ _ x3
              clear x0 x1 x2 x3
              by_cases he2 : er2 = 0
              · have BB : Hid _ := BH2.out he2 NU.out
                have AP := G2.out wc _ _ _ D7.out he2
                clear he2 A2 G2 BH2
                go_upto_region 24 with (go_at_call 13; refine AP.mono ?_; clear AP; rintro e w8 ⟨⟨g8, c8, rs8, m8, rfl, hd8⟩, hb8⟩)
                have DD : Hid (DocAt w8 g8 0 c8 rs8 y2) := hd8
                have BX : Hid (Below w.heap.size w w8) := BC.out.trans (hb8.mono BC.out.size)
                have K8 := keeps_below hb8 (Nat.le_refl _)
                have UX : Hid (IntsAt w8 (.slice pu us.length cu) us) := U7.out.keeps K8
                have x0 := K8 _ _ z0
                have x1 := K8 _ _ z1
                have x2 := K8 _ _ z2
                have x3 := K8 _ _ z3
                clear hd8 K8 z0 z1 z2 z3 D7 U7
                have SS : ∀ w'', Keeps w8 w'' → (fun w'' : World => w''.cell? ⟨M, 0, none⟩ = some (.int .i64 n) ∧ w''.cell? ⟨M, 1, none⟩ = some (.string nm) ∧ w''.cell? ⟨M, 2, none⟩ = some (.string ab) ∧ w''.cell? ⟨M, 3, none⟩ = some (.slice pu us.length cu)) w'' := fun w'' hk => ⟨hk _ _ x0, hk _ _ x1, hk _ _ x2, hk _ _ x3⟩
                have CL : Hid (∀ W, Below w8.heap.size w8 W → Calls Tryz.prog 8 #[.slice (some ⟨g8, 0, none⟩) rs8.length c8] W fun e w' => ∃ p cc, e = .returned (.slice p (claimsD y2).length cc) ∧ ClsAt w' (.slice p (claimsD y2).length cc) (claimsD y2) ∧ DocAt w' g8 0 c8 rs8 y2 ∧ Below W.heap.size W w') := fun W hb => BB.out.1 _ _ _ _ (DD.out.keeps (keeps_below hb (Nat.le_refl _))) (BX.out.trans (hb.mono BX.out.size))
                have SM : Hid (∀ W v1, Below w8.heap.size w8 W → IntsAt W v1 us → Calls Tryz.prog 9 #[.agg #[.int .i64 n, .string nm, .string ab, v1], .agg #[.int .i64 n, .string nm, .string ab, .slice pu us.length cu]] W fun e w' => e = .returned (.bool true) ∧ Below W.heap.size W w') := fun W v1 hb h1 => qsamememo_eq h1 (UX.out.keeps (keeps_below hb (Nat.le_refl _)))
                go_region_held3 (fun w'' : World => w''.cell? ⟨M, 0, none⟩ = some (.int .i64 n) ∧ w''.cell? ⟨M, 1, none⟩ = some (.string nm) ∧ w''.cell? ⟨M, 2, none⟩ = some (.string ab) ∧ w''.cell? ⟨M, 3, none⟩ = some (.slice pu us.length cu))
                  ((apply SS; first | exact Keeps.refl _ | assumption | exact keeps_drew (Keeps.refl _)))
                  (first
                    | (go_at_call 8; refine (CL.out _ (Below.refl _ w8).drew).mono ?_; rintro e wa ⟨pa, ca, rfl, hca, hda, hba⟩; have Ba : Below w8.heap.size w8 wa := (Below.refl _ w8).drew.trans (hba.mono (Nat.le_refl _)); have Ja : Keeps w8 wa := keeps_below Ba (Nat.le_refl _); have OF := BB.out.2 wa _ _ _ pa ca hda (BX.out.trans (Ba.mono BX.out.size)) hca; clear hca hda)
                    | (go_at_call 10; refine OF.mono ?_; clear OF; rintro e wb ⟨pb, cb, rfl, hib, hbb⟩; have Bb : Below w8.heap.size w8 wb := Ba.trans (hbb.mono Ba.size); have Jb : Keeps w8 wb := keeps_below Bb (Nat.le_refl _); have SMb := SM.out wb _ Bb hib; clear hib)
                    | (go_at_call 9; refine SMb.mono ?_; clear SMb; rintro e wz ⟨rfl, hbz⟩; have Bz : Below w8.heap.size w8 wz := Bb.trans (hbz.mono Bb.size); have Jz : Keeps w8 wz := keeps_below Bz (Nat.le_refl _)))
                all_goals
                  go_wp2_with fail
                  go_ret
                  exact ⟨rfl, BX.out.trans (Bz.mono BX.out.size)⟩
              · have AP := A2.out wc _ _ _ D7.out he2
                have hq1 : (er2 != 0) = true := by simpa using he2
                have hq2 : (er2 == 0) = false := by simpa using he2
                clear he2 A2 G2 BH2
                go_upto_region 24 with (go_at_call 13; refine AP.mono ?_; clear AP; rintro e w8 ⟨rfl, hb8⟩)
                go_quiet (fail)
                go_wp2_with fail
                go_ret
                exact ⟨rfl, (BC.out.trans (hb8.mono BC.out.size)).trans ⟨rfl, rfl, rfl, Nat.le_refl _, fun _ _ => rfl⟩⟩
end Go.Proofs.YtcinjbolflhjmadGreatDoor
