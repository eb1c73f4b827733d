/-
  OWN WORK: Oli, Ohi, Oba, Oof, Qro, Qhi, Ote, Oal, Oat, Nmb.
-/
import Derived.Test.YtcinjbolflhjmadGreatDoorP10
import Derived.RangeFuncNested
import Derived.RangeFuncBound
import Derived.RangeFuncCalls
import Derived.RangeFuncLeaves
import Derived.RangeFuncBox
import Derived.Shelf.Abstract
import Derived.Shelf.RegionOpen
import Derived.WalkKit
import Derived.OwnWalkIn
import Derived.TacticsInMore
import Derived.LoopNIn
import Derived.LoopIn
/-
  THE WALKS of role.lineage, and of role.Hidden.
-/
namespace Go.Proofs.YtcinjbolflhjmadGreatDoor
open Go.RowKit

theorem lineF_len (d : Tn.Dc) : ∀ (f : Nat) (n : Int), (lineF f d n).length ≤ f
  | 0, _ => Nat.le_refl _
  | f + 1, n => by
    rw [lineF]
    split
    · have := lineF_len d f (upF d n)
      simp
      omega
    · simp
theorem line_len (d : Tn.Dc) (n : Int) : (lineD d n).length ≤ 64 := lineF_len d 64 n

set_option maxHeartbeats 1600000 in
theorem oline_any {w : World} {b o c : Nat} {rs : List Raw} {d : Tn.Dc} (hc : Cx w b o c rs d) (n : Int) :
    Calls Tryz.prog 47 #[.slice (some ⟨b, o, none⟩) rs.length c, .int .i64 n] w fun e w' => ∃ v, e = .returned v ∧ OwnI w' w.heap.size v (lineD d n) ∧ Below w.heap.size w w' := by
  have C : Hid (Cx w b o c rs d) := hc
  have hF := hc.fine
  have SU : Hid (∀ W m, Below w.heap.size w W → Calls Tryz.prog 56 #[.slice (some ⟨b, o, none⟩) rs.length c, .int .i64 m] W fun e w' => e = .returned (.int .i64 (upF d m)) ∧ Below W.heap.size W w') := fun W m hb => fup_any (hc.below hb).doc hc.fine.okd m
  have SI : Hid (∀ W m, Below w.heap.size w W → Calls Tryz.prog 27 #[.slice (some ⟨b, o, none⟩) rs.length c, .int .i64 m, .bool false] W fun e w' => e = .returned (.bool (Tn.isN d m false)) ∧ w' = W) := fun W m hb => dis_any (hc.below hb).doc m false
  clear hc
  go_enter Tryz.func47, Tryz.ntmps47
  go_wp2_with fail
  go_loopw [1, 5] (fun nv v wr => ∃ (m : Int) (l : List Nat), nv = .int .i64 m ∧ Hid (lineD d n = l ++ lineD d m) ∧ OwnI wr w.heap.size v l ∧ Below w.heap.size w wr) (fun _ v _ => 64 - slen v)
  case atStart => exact ⟨n, [], rfl, rfl, OwnI.nil _ _, Below.refl _ _⟩
  case round =>
    obtain ⟨m, l, rfl, P, hown, hnx⟩ := hrel
    have hbz := hnx.size
    obtain ⟨p, cc, rfl⟩ := hown.shape
    have hI := SI.out wr m hnx
    cases his : Tn.isN d m false with
    | false =>
      have E : Hid (lineD d n = l) := by show _ = _; rw [P.out, line_nil hF his, List.append_nil]
      rw [his] at hI
      go_wp2_with (go_at_call 27; refine hI.mono ?_; rintro e w' ⟨rfl, hww⟩; subst hww)
      go_ret
      exact ⟨_, rfl, by rw [E.out]; exact hown, hnx⟩
    | true =>
      obtain ⟨k, rfl, hk, hlv⟩ := isN_nat his
      have E : Hid (lineD d n = (l ++ [k]) ++ lineD d (upF d (k : Int))) := by show _ = _; rw [P.out, line_cons hF his]; simp
      have hlen : l.length + 1 ≤ 64 := by
        have h1 := line_len d n
        have h2 := congrArg List.length E.out
        simp at h2
        omega
      rw [his] at hI
      have SU2 := fun W hb => SU.out W (k : Int) hb
      clear P his
      generalize upF d (k : Int) = u at *
      go_wp2_with (first
        | (go_at_call 27; refine hI.mono ?_; rintro e w' ⟨rfl, hww⟩; subst hww)
        | (at_builtin; refine append_int1 rfl _ _ rfl k rfl rfl hown hnx hbz (by omega) ?_))
      intro v' w1 hown' hnx' hbz' _
      obtain ⟨p', cc', rfl⟩ := hown'.shape
      have hU := SU2 w1 hnx'
      go_wp2_with (go_at_call 56; refine hU.mono ?_; rintro e w2 ⟨rfl, hb2⟩)
      go_roundw
      case rel => exact ⟨u, l ++ [k], rfl, E, by simpa using hown'.below hb2 (Nat.le_refl _), hnx'.trans (hb2.mono hnx'.size)⟩
      case measure => simp [slen]; omega

set_option maxHeartbeats 800000 in
theorem ohid1_any {w : World} {b o c D : Nat} {rs : List Raw} {d : Tn.Dc} (hc : Cx w b o c rs d) (hD : w.cell? ⟨D, 0, none⟩ = some (.slice (some ⟨b, o, none⟩) rs.length c)) (n : Int) :
    Calls Tryz.prog 78 #[.int .i64 n, .pointer (some ⟨D, 0, none⟩)] w fun e w' => e = .returned (.bool (concD d n)) ∧ Below w.heap.size w w' := by
  have S := oconc_any hc.doc hc.fine.okd hc.vn n
  clear hc
  go_enter Tryz.func78, Tryz.ntmps78
  go_wp2_with (go_at_call 79; refine S.mono ?_; rintro e w1 ⟨rfl, hb1⟩)
  go_ret
  exact ⟨rfl, hb1⟩

def cl (d : Tn.Dc) (k : Nat) : Bool := concD d (k : Int)

set_option maxHeartbeats 1600000 in
theorem oidx_any {w : World} {b o c D : Nat} {rs : List Raw} {d : Tn.Dc} (hc : Cx w b o c rs d) (hD : w.cell? ⟨D, 0, none⟩ = some (.slice (some ⟨b, o, none⟩) rs.length c)) {vl : Value} {l : List Nat} (hl : IntsAt w vl l) :
    Calls Tryz.prog 104 #[vl, .func (.func 78) #[] #[.pointer (some ⟨D, 0, none⟩)]] w fun e w' => e = .returned (.int .i64 (idxI (cl d) l)) ∧ Below w.heap.size w w' := by
  obtain ⟨p, cc, rfl, h1, h2, _, hat⟩ := hl.at
  have T : Hid (∀ j (hj : j < l.length), ∃ b o, p = some ⟨b, o, none⟩ ∧ w.cell? ⟨b, o + j, none⟩ = some (.int .i64 (l[j] : Int))) := hat
  clear hat hl
  have HA : Hid (∀ W (k : Nat), Below w.heap.size w W → Calls Tryz.prog 78 #[.int .i64 (k : Int), .pointer (some ⟨D, 0, none⟩)] W fun e w' => e = .returned (.bool (cl d k)) ∧ Below W.heap.size W w') :=
    fun W k hb => ohid1_any (hc.below hb) (keeps_below hb (Nat.le_refl _) _ _ hD) (k : Int)
  clear hc hD
  go_enter Tryz.func104, Tryz.ntmps104
  go_wp2_with fail
  go_loopw [8] (fun i wr => ∃ j : Nat, j ≤ l.length ∧ i = .int .i64 j ∧ Hid (∀ k ∈ l.take j, cl d k = false) ∧ Below w.heap.size w wr) (fun i _ => l.length - (intOf i).toNat)
  case atStart => exact ⟨0, Nat.zero_le _, rfl, fun k hk => by simp at hk, Below.refl _ _⟩
  case round =>
    obtain ⟨j, hj, rfl, NO, hnx⟩ := hrel
    by_cases hlt : j < l.length
    · obtain ⟨e1, o1, rfl, k1⟩ := T.out j hlt
      have JR := keeps_below hnx (Nat.le_refl _)
      have y1 := JR _ _ k1
      clear k1
      have hF := HA.out wr l[j] hnx
      cases hh : cl d l[j] with
      | true =>
        have E : Hid (idxI (cl d) l = (j : Int)) := idxI_some hlt hh NO.out
        rw [hh] at hF
        clear hh
        generalize l[j] = x at *
        go_wp2_with (go_at_call 78; refine hF.mono ?_; rintro e w9 ⟨rfl, hb9⟩)
        go_ret
        exact ⟨by rw [E.out]; rfl, hnx.trans (hb9.mono hnx.size)⟩
      | false =>
        have N2 : Hid (∀ k ∈ l.take (j + 1), cl d k = false) := by
          intro k hk
          rw [List.take_succ_eq_append_getElem hlt, List.mem_append, List.mem_singleton] at hk
          rcases hk with hk | rfl
          · exact NO.out k hk
          · exact hh
        rw [hh] at hF
        clear hh
        generalize l[j] = x at *
        go_wp2_with (go_at_call 78; refine hF.mono ?_; rintro e w9 ⟨rfl, hb9⟩)
        go_roundw
        case rel => exact ⟨j + 1, by omega, by go_num, N2, hnx.trans (hb9.mono hnx.size)⟩
        case measure => simp [intOf]; omega
    · obtain rfl : j = l.length := by omega
      have E : Hid (idxI (cl d) l = -1) := idxI_none (fun k hk => NO.out k (by rw [List.take_length]; exact hk))
      go_wp2_with fail
      go_ret
      exact ⟨by rw [E.out]; rfl, hnx⟩

set_option maxHeartbeats 800000 in
theorem ocont_any {w : World} {b o c D : Nat} {rs : List Raw} {d : Tn.Dc} (hc : Cx w b o c rs d) (hD : w.cell? ⟨D, 0, none⟩ = some (.slice (some ⟨b, o, none⟩) rs.length c)) {vl : Value} {l : List Nat} (hl : IntsAt w vl l) :
    Calls Tryz.prog 77 #[vl, .func (.func 78) #[] #[.pointer (some ⟨D, 0, none⟩)]] w fun e w' => e = .returned (.bool (l.any (cl d))) ∧ Below w.heap.size w w' := by
  have hI := oidx_any hc hD hl
  obtain ⟨p, cc, rfl, _, _, _, _⟩ := hl.at
  clear hl hc hD
  rcases idx_cases2 (cl d) l with ⟨e1, e2⟩ | ⟨j, hj, e1, e2, _⟩
  · have E : Hid (l.any (cl d) = false) := by
      show _ = _
      rw [List.any_eq_false]
      intro x hx
      simp [e2 x hx]
    rw [e1] at hI
    clear e1 e2
    go_enter Tryz.func77, Tryz.ntmps77
    go_wp2_with (go_at_call 104; refine hI.mono ?_; rintro e w9 ⟨rfl, hb9⟩)
    go_ret
    exact ⟨by rw [E.out]; rfl, hb9⟩
  · have E : Hid (l.any (cl d) = true) := by
      show _ = _
      rw [List.any_eq_true]
      exact ⟨l[j], List.getElem_mem hj, e2⟩
    rw [e1] at hI
    clear e1 e2
    go_enter Tryz.func77, Tryz.ntmps77
    go_wp2_with (go_at_call 104; refine hI.mono ?_; rintro e w9 ⟨rfl, hb9⟩)
    go_ret
    exact ⟨by rw [E.out]; simp, hb9⟩
end Go.Proofs.YtcinjbolflhjmadGreatDoor

/-
  THE WALK of role.Hidden.
-/
namespace Go.Proofs.YtcinjbolflhjmadGreatDoor
open Go.RowKit

set_option maxHeartbeats 1600000 in
theorem ohid_any {w : World} {b o c : Nat} {rs : List Raw} {d : Tn.Dc} (hc : Cx w b o c rs d) (n : Int) :
    Calls Tryz.prog 51 #[.slice (some ⟨b, o, none⟩) rs.length c, .int .i64 n] w fun e w' => e = .returned (.bool (hidD d n)) ∧ Below w.heap.size w w' := by
  have BA : Below w.heap.size w (w.alloc (.cells #[.slice (some ⟨b, o, none⟩) rs.length c] 24)) := (Below.refl _ w).alloc (Nat.le_refl _) _
  have gD : (w.alloc (.cells #[.slice (some ⟨b, o, none⟩) rs.length c] 24)).cell? ⟨w.heap.size, 0, none⟩ = some (.slice (some ⟨b, o, none⟩) rs.length c) := by rw [World.cell?_alloc_new]; rfl
  have SL := oline_any (hc.below BA) n
  have SC : Hid (∀ W (p : Option Addr) (k cc : Nat) (l : List Nat), Below (w.alloc (.cells #[.slice (some ⟨b, o, none⟩) rs.length c] 24)).heap.size (w.alloc (.cells #[.slice (some ⟨b, o, none⟩) rs.length c] 24)) W → IntsAt W (.slice p k cc) l →
      Calls Tryz.prog 77 #[.slice p k cc, .func (.func 78) #[] #[.pointer (some ⟨w.heap.size, 0, none⟩)]] W fun e w' => e = .returned (.bool (l.any (cl d))) ∧ Below W.heap.size W w') :=
    fun W p k cc l hb hi => ocont_any (hc.below (BA.trans (hb.mono (by simp)))) (keeps_below hb (Nat.le_refl _) _ _ gD) hi
  have E : Hid (hidD d n = hidL d (lineD d n)) := rfl
  have hll := line_len d n
  clear hc
  generalize hidD d n = res at *
  generalize lineD d n = l at *
  by_cases h0 : l = []
  · subst h0
    have E2 : Hid (res = true) := E.out
    clear E SC
    go_enter Tryz.func51, Tryz.ntmps51
    go_wp2_with (go_at_call 47; refine SL.mono ?_; rintro e w1 ⟨v1, rfl, ho1, hb1⟩; obtain ⟨p1, c1, rfl⟩ := ho1.shape)
    go_ret
    exact ⟨by rw [E2.out]; rfl, BA.trans (hb1.mono BA.size)⟩
  · have hpos : 0 < l.length := List.length_pos_iff.mpr h0
    have hE : hidL d l = (decide (l[l.length - 1]'(by omega) ≠ 0) || l.any (cl d)) := by
      unfold hidL
      rw [List.getLast?_eq_getElem?, List.getElem?_eq_getElem (by omega)]
      cases l with
      | nil => exact absurd rfl h0
      | cons a r => rfl
    by_cases hz : l[l.length - 1]'(by omega) = 0
    · have E2 : Hid (res = l.any (cl d)) := by show _ = _; rw [E.out, hE, hz]; rfl
      clear E hE
      go_enter Tryz.func51, Tryz.ntmps51
      go_wp2_with (first
        | (go_at_call 47; refine SL.mono ?_; rintro e w1 ⟨v1, rfl, ho1, hb1⟩; obtain ⟨p1, c1, rfl, z1, z2, _, hat⟩ := (ints_of_owns ho1).at; obtain ⟨b1, o1, rfl, k0⟩ := hat (l.length - 1) (by omega); rw [hz] at k0; clear hat; have hS := SC.out w1 _ _ _ _ hb1 (ints_of_owns ho1))
        | (go_at_call 77; refine hS.mono ?_; rintro e w2 ⟨rfl, hb2⟩))
      go_ret
      exact ⟨by rw [E2.out]; rfl, (BA.trans (hb1.mono BA.size)).trans (hb2.mono (Nat.le_trans BA.size hb1.size))⟩
    · have E2 : Hid (res = true) := by show _ = _; rw [E.out, hE]; simp [hz]
      obtain ⟨z, hzz⟩ : ∃ z, l[l.length - 1]'(by omega) = z := ⟨_, rfl⟩
      have hzb : ((z : Int) != 0) = true := by rw [hzz] at hz; simp; omega
      have hl0 : ((l.length : Int) == 0) = false := by simp; omega
      clear E hE SC hz
      go_enter Tryz.func51, Tryz.ntmps51
      go_wp2_with (go_at_call 47; refine SL.mono ?_; rintro e w1 ⟨v1, rfl, ho1, hb1⟩; obtain ⟨p1, c1, rfl, z1, z2, _, hat⟩ := (ints_of_owns ho1).at; obtain ⟨b1, o1, rfl, k0⟩ := hat (l.length - 1) (by omega); rw [hzz] at k0; clear hat hzz)
      go_ret
      exact ⟨by rw [E2.out]; rfl, BA.trans (hb1.mono BA.size)⟩
end Go.Proofs.YtcinjbolflhjmadGreatDoor

/-
  THE WALKS of slices.Backward over ints, and of role.Of.
-/
namespace Go.Proofs.YtcinjbolflhjmadGreatDoor
open Go.RowKit Go.Shelf

attribute [local go_sem] Oper.semAt_some

/-- what has come when k rounds are over: the last ones, from behind -/
def backL (zs : List Nat) (k : Nat) : List (Nat × Nat) := (List.range k).map fun j => (zs.length - 1 - j, zs[zs.length - 1 - j]?.getD 0)
theorem backL_succ (zs : List Nat) (k : Nat) : backL zs (k + 1) = backL zs k ++ [(zs.length - 1 - k, zs[zs.length - 1 - k]?.getD 0)] := by simp [backL, List.range_succ]
theorem backL_length (zs : List Nat) (k : Nat) : (backL zs k).length = k := by simp [backL]

/-- the cells of some blocks are as they were -/
def KpB (S : Nat → Prop) (A B : World) : Prop := ∀ p v, S p.block → A.cell? p = some v → B.cell? p = some v
theorem KpB.refl (S : Nat → Prop) (A : World) : KpB S A A := fun _ _ _ h => h
theorem KpB.trans {S : Nat → Prop} {A B C : World} (h : KpB S A B) (k : KpB S B C) : KpB S A C := fun p v hs x => k p v hs (h p v hs x)
theorem KpB.below {S : Nat → Prop} {A B : World} (h : Below A.heap.size A B) : KpB S A B := fun _ _ _ x => keeps_below h (Nat.le_refl _) _ _ x
theorem KpB.put {S : Nat → Prop} (W : World) (l : Nat) (o o' : Obj) (ho : W.heap[l]? = some o) (hc : o.isCells = false) : KpB S W (W.putObj l o') :=
  fun _ _ _ h => cell_kept h (grownBy_putObj' W l o') (fun r e => by cases e; exact ⟨_, ho, hc⟩)

set_option maxRecDepth 100000 in
set_option maxHeartbeats 2000000 in
theorem back1_in (F : Fence) (n : Nat) (h7 : F.fn 74) (hro : F.round = none) (hn : 1 ≤ n) (l Bs b off cap : Nat) (S : Nat → Prop) (zs : List Nat) (hreach : zs.length ≤ 1000) (hb : S b) (hBn : S Bs) (J Jx : List (Nat × Nat) → World → Prop)
    (hY : ∀ pre x W, J pre W → pre.length < zs.length → YieldAt F (n - 1) Tryz.prog l #[.int .i64 (x.1 : Int), .int .i64 (x.2 : Int)] W fun e W' =>
      (e = .returned (.bool true) ∧ J (pre ++ [x]) W' ∧ KpB S W W') ∨ (e = .returned (.bool false) ∧ Jx (pre ++ [x]) W'))
    (W : World) (hBs : W.cell? ⟨Bs, 0, none⟩ = some (.slice (some ⟨b, off, none⟩) zs.length cap)) (hc : ∀ j (h : j < zs.length), W.cell? ⟨b, off + j, none⟩ = some (.int .i64 (zs[j] : Int))) (h0 : J [] W) :
    CallsIn F n Tryz.prog 74 #[.func (.yield l) #[] #[], .pointer (some ⟨Bs, 0, none⟩)] W fun e W' => (∃ v, e = .returned v) ∧
      ((∃ ys, ys = backL zs zs.length ∧ J ys W') ∨ (∃ pre, (∃ k, k ≤ zs.length ∧ pre = backL zs k) ∧ Jx pre W')) := by
  refine callsIn_of_wp Tryz.func74 rfl h7 ?_ hro
  simp only [Tryz.ntmps74, List.size_toArray, List.length_cons, List.length_nil, Nat.reduceAdd, Nat.reduceSub, Array.replicate_succ, Array.replicate_zero, List.push_toArray, List.append_toArray, List.nil_append, List.cons_append]
  gi_wp2
  gi_loopw [3] (fun i wr => ∃ k : Nat, k ≤ zs.length ∧ i = .int .i64 ((zs.length : Int) - 1 - (k : Int)) ∧ J (backL zs k) wr ∧ KpB S W wr)
    (fun i _ => (intOf i + 1).toNat)
  case atStart => exact ⟨0, Nat.zero_le _, by simp, h0, KpB.refl _ _⟩
  case round =>
    obtain ⟨k, hk, rfl, hJs, hnx⟩ := hrel
    have hBs' := hnx ⟨Bs, 0, none⟩ _ hBn hBs
    by_cases hlt : k < zs.length
    · obtain ⟨m, hm⟩ : ∃ m : Nat, m + 1 + k = zs.length := ⟨zs.length - 1 - k, by omega⟩
      have hml : m < zs.length := by omega
      have hi : ((zs.length : Int) - 1 - (k : Int)) = (m : Int) := by omega
      have hcx : wr.cell? ⟨b, off + m, none⟩ = some (.int .i64 (zs[m] : Int)) := hnx ⟨b, off + m, none⟩ _ hb (hc m hml)
      have hS : Hid (backL zs (k + 1) = backL zs k ++ [(m, zs[m])]) := by
        show _ = _
        rw [backL_succ, show zs.length - 1 - k = m by omega, List.getElem?_eq_getElem hml]
        rfl
      obtain ⟨fn, tmps, assign, body, hy, hR⟩ := hY _ (m, zs[m]) wr hJs (by rw [backL_length]; exact hlt)
      dsimp only at hy
      rw [hi]
      have HM : Hid ((zs.length : Int) - 1 - ((k + 1 : Nat) : Int) = (m : Int) - 1) := by show _ = _; omega
      generalize zs[m] = z at *
      have hml2 : (m : Int) < (zs.length : Int) := by omega
      clear hi hm hY hc hBs
      gi_wp2
      refine hR.mono ?_
      rintro e W3 (⟨rfl, hJ3, hk3⟩ | ⟨rfl, hJx3⟩)
      · gi_wp2
        go_roundw
        case rel => exact ⟨k + 1, by omega, by rw [HM.out], by rw [hS.out]; exact hJ3, hnx.trans hk3⟩
        case measure => simp [intOf]
      · gi_wp2
        refine bodyPost_ret (results_none rfl _ _ _) rfl ?_
        exact ⟨⟨_, rfl⟩, .inr ⟨_, ⟨k + 1, by omega, hS.out.symm⟩, hJx3⟩⟩
    · obtain rfl : k = zs.length := by omega
      rw [show ((zs.length : Int) - 1 - (zs.length : Int)) = -1 by omega]
      gi_wp2
      go_end0
      exact ⟨⟨_, rfl⟩, .inl ⟨_, rfl, hJs⟩⟩

set_option maxRecDepth 100000 in
set_option maxHeartbeats 1000000 in
theorem back1_nil_in (F : Fence) (n : Nat) (h7 : F.fn 74) (hro : F.round = none) (l Bs : Nat) (J : List (Nat × Nat) → World → Prop) (W : World) (hBs : W.cell? ⟨Bs, 0, none⟩ = some (.slice none 0 0)) (h0 : J [] W) :
    CallsIn F n Tryz.prog 74 #[.func (.yield l) #[] #[], .pointer (some ⟨Bs, 0, none⟩)] W fun e W' => (∃ v, e = .returned v) ∧ J [] W' := by
  refine callsIn_of_wp Tryz.func74 rfl h7 ?_ hro
  simp only [Tryz.ntmps74, List.size_toArray, List.length_cons, List.length_nil, Nat.reduceAdd, Nat.reduceSub, Array.replicate_succ, Array.replicate_zero, List.push_toArray, List.append_toArray, List.nil_append, List.cons_append]
  gi_wp2
  gi_loopw [3] (fun i wr => i = .int .i64 (-1) ∧ J [] wr) (fun _ _ => 0)
  case atStart => exact ⟨rfl, h0⟩
  case round =>
    obtain ⟨rfl, hJs⟩ := hrel
    gi_wp2
    go_end0
    exact ⟨⟨_, rfl⟩, hJs⟩

set_option maxHeartbeats 1000000 in
theorem back_in (F : Fence) (n : Nat) (h5 : F.fn 46) (hro : F.round = none) (a : Option Addr) (len cap : Nat) (w : World) :
    CallsIn F n Tryz.prog 46 #[.slice a len cap] w fun e w' => e = .returned (.func (.func 74) #[] #[.pointer (some ⟨w.heap.size, 0, none⟩)]) ∧ w' = w.alloc (.cells #[.slice a len cap] 29) := by
  refine callsIn_of_wp Tryz.func46 rfl h5 ?_ hro
  simp only [Tryz.ntmps46, List.size_toArray, List.length_cons, List.length_nil, Nat.reduceAdd, Nat.reduceSub, Array.replicate_succ, Array.replicate_zero, List.push_toArray, List.append_toArray, List.nil_append, List.cons_append]
  gi_wp2
  go_ret
  exact ⟨rfl, rfl⟩

theorem back_stops (F : Fence) (n : Nat) (h7 : F.fn 74) (hro : F.round = none) (hn : 1 ≤ n) (Bs : Nat) (S : Nat → Prop) (p : Option Addr) (cc : Nat) (zs : List Nat) (hreach : zs.length ≤ 1000) (w : World) (hBs : S Bs) (hSb : ∀ a, p = some a → S a.block)
    (hc : w.cell? ⟨Bs, 0, none⟩ = some (.slice p zs.length cc)) (hI : IntsAt w (.slice p zs.length cc) zs) :
    SeqStopsK F n Tryz.prog 74 #[.pointer (some ⟨Bs, 0, none⟩)] (fun x : Nat × Nat => #[Value.int .i64 (x.1 : Int), Value.int .i64 (x.2 : Int)]) (KpB S) (fun ys => ys = backL zs zs.length) (fun _ => True) zs.length w := fun l J Jx W hW _ _ hY h0 => by
  have hc' := keeps_below hW (Nat.le_refl _) _ _ hc
  obtain ⟨p', cc', e, h1, h2, h3, hat⟩ := (hI.keeps (keeps_below hW (Nat.le_refl _))).at
  cases e
  cases p with
  | none =>
    have hz : zs = [] := by
      rcases h3 with ⟨_, h3⟩ | ⟨_, _, h3⟩
      · exact List.length_eq_zero_iff.mp (by omega)
      · cases h3
    have hcc : cc = 0 := by
      rcases h3 with ⟨_, h3⟩ | ⟨_, _, h3⟩
      · exact h3
      · cases h3
    subst hz hcc
    exact (back1_nil_in F n h7 hro l Bs J W hc' h0).mono fun e W' ⟨he, hj⟩ => ⟨he, .inl ⟨_, rfl, hj⟩⟩
  | some a =>
    obtain ⟨b, off, hba⟩ : ∃ b off, a = ⟨b, off, none⟩ := by
      rcases h3 with ⟨h3, _⟩ | ⟨b, off, h3⟩
      · cases h3
      · cases h3; exact ⟨b, off, rfl⟩
    subst hba
    refine (back1_in F n h7 hro hn l Bs b off cc S zs hreach (hSb _ rfl) hBs J Jx hY W hc' (fun j hj => by obtain ⟨b', o', e1, e2⟩ := hat j hj; cases e1; exact e2) h0).mono ?_
    rintro e W' ⟨he, ⟨ys, rfl, hj⟩ | ⟨pre, _, hj⟩⟩
    · exact ⟨he, .inl ⟨_, rfl, hj⟩⟩
    · exact ⟨he, .inr ⟨_, trivial, hj⟩⟩

/-- the roles of what has come -/
def roleS (d : Tn.Dc) (s : Int × Int) (k : Nat) : Int × Int := (fitD (aloneD d (k : Int)) s.2, keepA (fitD (aloneD d (k : Int)) s.2) s.2)
def roleP (d : Tn.Dc) (pre : List (Nat × Nat)) : Int × Int := pre.foldl (fun s x => roleS d s x.2) (0, 0)
theorem roleP_snoc (d : Tn.Dc) (pre : List (Nat × Nat)) (x : Nat × Nat) : roleP d (pre ++ [x]) = roleS d (roleP d pre) x.2 := by simp [roleP]
theorem roleL_foldr (d : Tn.Dc) : ∀ l, roleL d l = l.foldr (fun k s => roleS d s k) (0, 0)
  | [] => rfl
  | k :: ks => by rw [roleL, List.foldr_cons, ← roleL_foldr d ks]; rfl
theorem back_snd (zs : List Nat) : (backL zs zs.length).map (·.2) = zs.reverse := by
  apply List.ext_getElem
  · simp [backL]
  · intro i h1 h2
    have hi : i < zs.length := by simpa [backL] using h1
    have : zs.length - 1 - i < zs.length := by omega
    simp [backL, this]
theorem roleP_all (d : Tn.Dc) (zs : List Nat) : roleP d (backL zs zs.length) = roleL d zs := by
  rw [roleL_foldr, ← List.foldl_reverse, ← back_snd, List.foldl_map]
  rfl
end Go.Proofs.YtcinjbolflhjmadGreatDoor

/-
  THE WALK of role.Of.
-/
namespace Go.Proofs.YtcinjbolflhjmadGreatDoor
open Go.RowKit Go.Shelf

attribute [local go_sem] Oper.semAt_some

theorem keepsOthers_below {A B : World} (h : Below A.heap.size A B) : KeepsOthers A B :=
  ⟨h.size, fun k _ hk _ => (h.block k (Array.getElem?_eq_some_iff.1 hk).1).trans hk⟩

/-- a box of the call's own -/
def Bx (W : World) (C : Nat) (v : Value) : Prop := W.cell? ⟨C, 0, none⟩ = some v ∧ W.frozen? ⟨C, 0, none⟩ = false
theorem Bx.below {w w' : World} {C : Nat} {v : Value} (h : Bx w C v) (hb : Below w.heap.size w w') : Bx w' C v := bx_old hb h.1 h.2
theorem Bx.alloc {w : World} {C : Nat} {v : Value} (h : Bx w C v) (o : Obj) : Bx (w.alloc o) C v := h.below ((Below.refl _ w).alloc (Nat.le_refl _) o)
theorem Bx.new (w : World) (v : Value) (t : Nat) : Bx (w.alloc (.cells #[v] t)) w.heap.size v := ⟨cell_box _ _, box_frozen _ _ _ _⟩
theorem Bx.kept {W W' : World} {C : Nat} {v : Value} (h : Bx W C v) {row : Option Nat} (hg : W.grownBy W' row) (hr : ∀ r, row = some r → ∃ o : Obj, W.heap[r]? = some o ∧ o.isCells = false) : Bx W' C v := ⟨cell_kept h.1 hg hr, (frozen_kept h.1 hg hr).trans h.2⟩
theorem Bx.set {W : World} {C : Nat} {v : Value} (h : Bx W C v) (u : Value) : Bx (W.setCell ⟨C, 0, none⟩ u) C u := ⟨World.cell?_setCell_same _ _ _ h.1, by rw [World.frozen?_setCell]; exact h.2⟩
theorem Bx.other {W : World} {C K : Nat} {v : Value} (h : Bx W C v) (ne : K ≠ C) (u : Value) : Bx (W.setCell ⟨K, 0, none⟩ u) C v := ⟨by rw [World.cell?_setCell_other _ _ _ _ (by intro e; exact ne (congrArg Addr.block e))]; exact h.1, by rw [World.frozen?_setCell]; exact h.2⟩

theorem KpB.set {S : Nat → Prop} {C : Nat} (hne : ∀ g, S g → g ≠ C) (W : World) (v : Value) : KpB S W (W.setCell ⟨C, 0, none⟩ v) :=
  fun p _ hs h => by rw [World.cell?_setCell_other _ _ _ _ (by intro e; exact hne _ hs (congrArg Addr.block e).symm)]; exact h
theorem KpB.drew (S : Nat → Prop) (W : World) : KpB S W W.drew := fun _ _ _ h => h

set_option maxRecDepth 100000 in
set_option maxHeartbeats 4000000 in
theorem oof_any {w : World} {b o c : Nat} {rs : List Raw} {d : Tn.Dc} (hc : Cx w b o c rs d) (n : Int) :
    Calls Tryz.prog 30 #[.slice (some ⟨b, o, none⟩) rs.length c, .int .i64 n] w fun e w' => e = .returned (.int .i64 (roleD d n)) ∧ Below w.heap.size w w' := by
  have SL : Hid (∀ W, Below w.heap.size w W → Calls Tryz.prog 47 #[.slice (some ⟨b, o, none⟩) rs.length c, .int .i64 n] W fun e w' => ∃ v, e = .returned v ∧ OwnI w' W.heap.size v (lineD d n) ∧ Below W.heap.size W w') := fun W hb => oline_any (hc.below hb) n
  have SA : Hid (∀ W (k : Nat), Below w.heap.size w W → Calls Tryz.prog 49 #[.slice (some ⟨b, o, none⟩) rs.length c, .int .i64 (k : Int)] W fun e w' => e = .returned (.int .i64 (aloneD d (k : Int))) ∧ Below W.heap.size W w') := fun W k hb => oalone_any (hc.below hb) k
  have SF : Hid (∀ W r a, Below w.heap.size w W → Calls Tryz.prog 48 #[.int .i64 r, .int .i64 a] W fun e w' => e = .returned (.int .i64 (fitD r a)) ∧ Below W.heap.size W w') := fun W r a hb => ofit_any (hc.below hb).tab r a
  have E : Hid (roleD d n = (roleP d (backL (lineD d n) (lineD d n).length)).1) := by show _ = _; rw [roleP_all]; rfl
  have hll := line_len d n
  clear hc
  generalize roleD d n = res at *
  generalize lineD d n = zs at *
  refine (callsIn_wide (n := 3)).1 ?_
  refine callsIn_of_wp_marks Tryz.func30 rfl trivial ?_ rfl
  simp only [Tryz.ntmps30, List.size_toArray, List.length_cons, List.length_nil, Nat.reduceAdd, Nat.reduceSub, Array.replicate_succ, Array.replicate_zero, List.push_toArray, List.append_toArray, List.nil_append, List.cons_append]
  have BA : Below w.heap.size w (((w.alloc (.cells #[.slice (some ⟨b, o, none⟩) rs.length c] 24)).alloc (.cells #[.int .i64 0] 3)).alloc (.cells #[.int .i64 0] 3)) :=
    (((Below.refl _ w).alloc (Nat.le_refl _) _).alloc (by simp) _).alloc (by simp; omega) _
  have x0 : Bx (((w.alloc (.cells #[.slice (some ⟨b, o, none⟩) rs.length c] 24)).alloc (.cells #[.int .i64 0] 3)).alloc (.cells #[.int .i64 0] 3)) w.heap.size (.slice (some ⟨b, o, none⟩) rs.length c) := ((Bx.new w _ _).alloc _).alloc _
  have x1 : Bx (((w.alloc (.cells #[.slice (some ⟨b, o, none⟩) rs.length c] 24)).alloc (.cells #[.int .i64 0] 3)).alloc (.cells #[.int .i64 0] 3)) (w.heap.size + 1) (.int .i64 0) := by
    have := (Bx.new (w.alloc (.cells #[.slice (some ⟨b, o, none⟩) rs.length c] 24)) (.int .i64 0) 3).alloc (.cells #[.int .i64 0] 3)
    rwa [World.size_alloc] at this
  have x2 : Bx (((w.alloc (.cells #[.slice (some ⟨b, o, none⟩) rs.length c] 24)).alloc (.cells #[.int .i64 0] 3)).alloc (.cells #[.int .i64 0] 3)) (w.heap.size + 1 + 1) (.int .i64 0) := by
    have := Bx.new ((w.alloc (.cells #[.slice (some ⟨b, o, none⟩) rs.length c] 24)).alloc (.cells #[.int .i64 0] 3)) (.int .i64 0) 3
    rwa [World.size_alloc, World.size_alloc] at this
  gi_wp2_with (first
    | (refine ⟨trivial, ?_⟩; gi_at_call 47; refine (callsIn_wide.2 (SL.out _ BA)).mono ?_; rintro e w1 ⟨v1, rfl, ho1, hb1⟩; obtain ⟨p1, cc1, rfl⟩ := ho1.shape)
    | (refine ⟨trivial, ?_⟩; gi_at_call 46; refine (back_in Fence.wide _ trivial rfl _ _ _ _).mono ?_; rintro e w2 ⟨rfl, rfl⟩))
  have hz3 : (((w.alloc (.cells #[.slice (some ⟨b, o, none⟩) rs.length c] 24)).alloc (.cells #[.int .i64 0] 3)).alloc (.cells #[.int .i64 0] 3)).heap.size = w.heap.size + 3 := by simp
  generalize ((w.alloc (.cells #[.slice (some ⟨b, o, none⟩) rs.length c] 24)).alloc (.cells #[.int .i64 0] 3)).alloc (.cells #[.int .i64 0] 3) = W3 at *
  have y0 := x0.below hb1
  have y1 := x1.below hb1
  have y2 := x2.below hb1
  have BB : Below w.heap.size w w1 := BA.trans (hb1.mono BA.size)
  have hz1 := hb1.size
  have BC : Below w.heap.size w (w1.alloc (.cells #[.slice p1 zs.length cc1] 29)) := BB.alloc BB.size _
  have hIn : IntsAt (w1.alloc (.cells #[.slice p1 zs.length cc1] 29)) (.slice p1 zs.length cc1) zs := (ints_of_owns ho1).keeps (keeps_alloc _ _)
  have hSb : ∀ a : Addr, p1 = some a → w.heap.size + 1 + 1 < a.block := fun a ha => by
    have := (ho1.lt a.block (by rw [ha]; rfl)).1
    omega
  refine wpIn_rangeFunc_ownF rfl (by omega) (gf := 74) (lb := #[.pointer (some ⟨w1.heap.size, 0, none⟩)]) rfl trivial (enters_of Tryz.func74 (by kernel_rfl) rfl)
    (back_stops Fence.wide (3 - 1) trivial rfl (by omega) w1.heap.size (fun g => w.heap.size + 1 + 1 < g) p1 cc1 zs (by omega) _ (by omega) hSb (cell_box _ _) hIn) (fun h k => KpB.trans h k) (fun W l o o' _ ho hc _ => KpB.put W l o o' ho hc) (Below.refl _ _) (fun _ => rfl)
    (fun pre W => (Bx W w.heap.size (.slice (some ⟨b, o, none⟩) rs.length c) ∧ Bx W (w.heap.size + 1) (.int .i64 (roleP d pre).1) ∧ Bx W (w.heap.size + 1 + 1) (.int .i64 (roleP d pre).2)) ∧ Below w.heap.size w W)
    (fun _ _ _ => False)
    (OwnFrom.and (Own.from (fun s A B row hs hg hr => ⟨hs.1.kept hg hr, hs.2.1.kept hg hr, hs.2.2.kept hg hr⟩) _) (ownFrom_below (Nat.le_refl _) (by simp; omega)))
    (fun _ _ _ _ _ hs _ _ => hs)
    ⟨⟨y0.alloc _, y1.alloc _, y2.alloc _⟩, BC⟩
    (fun x => { tmps := #[.slice (some ⟨b, o, none⟩) rs.length c, .int .i64 n, .pointer (some ⟨w.heap.size, 0, none⟩), undef, .int .i64 0, .pointer (some ⟨w.heap.size + 1, 0, none⟩), .pointer (some ⟨w.heap.size + 1 + 1, 0, none⟩), undef, .int .i64 (x.2 : Int), .slice (some ⟨b, o, none⟩) rs.length c, .int .i64 n, .slice p1 zs.length cc1, .func (.func 74) #[] #[.pointer (some ⟨w1.heap.size, 0, none⟩)], .int .i64 (x.1 : Int), .int .i64 (x.2 : Int), undef, undef, undef, undef, undef, undef, undef, undef, undef, undef, undef, undef, undef], defers := [] }) ?assign ?body ?done ?stop
  case assign =>
    intro l x W K hK
    gi_wp2
    exact hK
  case body =>
    rintro l pre x W ⟨⟨hx0, hx1, hx2⟩, hB⟩ _
    have hmx : Tryz.prog.follows .mixedOrders = true := by kernel_rfl
    obtain ⟨e0, f0⟩ := hx0
    obtain ⟨e1, f1⟩ := hx1
    obtain ⟨e2, f2⟩ := hx2
    have SA2 := SA.out
    have SF2 := SF.out
    clear SA SF SL
    gi_wp2
    gi_region_with_o (first
      | (refine ⟨trivial, ?_⟩; gi_at_call 49; refine (CallsIn.inRound l (callsIn_wide.2 (SA2 _ x.2 (by first | exact hB | exact hB.drew)))).mono ?_; rintro e w5 ⟨rfl, hb5⟩; have g1 := bx_old hb5 e1 f1; have g2 := bx_old hb5 e2 f2; obtain ⟨g1, k1⟩ := g1; obtain ⟨g2, k2⟩ := g2; have hB5 := hB.drew.trans (hb5.mono hB.drew.size))
      | (refine ⟨trivial, ?_⟩; gi_at_call 48; refine (CallsIn.inRound l (callsIn_wide.2 (SF2 _ _ _ hB5))).mono ?_; rintro e w6 ⟨rfl, hb6⟩; have m1 := bx_old hb6 g1 k1; obtain ⟨m1, n1⟩ := m1; have m2 := bx_old hb6 g2 k2; obtain ⟨m2, n2⟩ := m2))
    all_goals
      have XD : Bx w6 w.heap.size (.slice (some ⟨b, o, none⟩) rs.length c) := Bx.below (Bx.below (w := W.drew) ⟨e0, f0⟩ hb5) hb6
      have D7 := XD.other (K := w.heap.size + 1) (by omega) (.int .i64 (fitD (aloneD d (x.2 : Int)) (roleP d pre).2))
      have R7 := Bx.set (W := w6) ⟨m1, n1⟩ (.int .i64 (fitD (aloneD d (x.2 : Int)) (roleP d pre).2))
      have A7 := Bx.other (W := w6) (K := w.heap.size + 1) ⟨m2, n2⟩ (by omega) (.int .i64 (fitD (aloneD d (x.2 : Int)) (roleP d pre).2))
      have B6 : Below w.heap.size w w6 := hB5.trans (hb6.mono hB5.size)
      have B7 := B6.setCell (p := ⟨w.heap.size + 1, 0, none⟩) (by simp) (.int .i64 (fitD (aloneD d (x.2 : Int)) (roleP d pre).2))
      have K7 := (((KeepsOthers.drew W).trans (keepsOthers_below hb5)).trans (keepsOthers_below hb6)).trans (KeepsOthers.setCell w6 ⟨w.heap.size + 1, 0, none⟩ (.int .i64 (fitD (aloneD d (x.2 : Int)) (roleP d pre).2)))
      have P7 := (((KpB.drew (fun g => w.heap.size + 1 + 1 < g) W).trans (KpB.below hb5)).trans (KpB.below hb6)).trans (KpB.set (C := w.heap.size + 1) (fun g hg => by omega) w6 (.int .i64 (fitD (aloneD d (x.2 : Int)) (roleP d pre).2)))
      have T1 : Hid ((roleP d (pre ++ [x])).1 = fitD (aloneD d (x.2 : Int)) (roleP d pre).2) := by show _ = _; rw [roleP_snoc]; rfl
      have T2 : Hid ((roleP d (pre ++ [x])).2 = keepA (fitD (aloneD d (x.2 : Int)) (roleP d pre).2) (roleP d pre).2) := by show _ = _; rw [roleP_snoc]; rfl
      clear XD m1 n1 m2 n2 g1 k1 g2 k2 e0 f0 e1 f1 e2 f2 hb5 hb6 hB5 B6
      generalize fitD (aloneD d (x.2 : Int)) (roleP d pre).2 = r at *
      generalize (roleP d pre).2 = a at *
      generalize (w6.setCell ⟨w.heap.size + 1, 0, none⟩ (.int .i64 r)) = w7 at *
      have r7 := R7.1
      have a7 := A7.1
      have z7 := A7.2
      by_cases h0 : r = 0
      · have T3 : Hid ((roleP d (pre ++ [x])).2 = a) := by show _ = _; rw [T2.out, h0]; rfl
        have hq : (r != 0) = false := by simp [h0]
        clear h0 T2
        gi_wp2
        exact ⟨K7, P7, ⟨D7, by rw [T1.out]; exact R7, by rw [T3.out]; exact A7⟩, B7⟩
      · have hq : (r != 0) = true := by simp [h0]
        by_cases h1 : r = 18
        · have T3 : Hid ((roleP d (pre ++ [x])).2 = a) := by show _ = _; rw [T2.out, h1]; rfl
          have hq2 : (r != 18) = false := by simp [h1]
          clear h0 h1 T2
          gi_wp2
          exact ⟨K7, P7, ⟨D7, by rw [T1.out]; exact R7, by rw [T3.out]; exact A7⟩, B7⟩
        · have T3 : Hid ((roleP d (pre ++ [x])).2 = r) := by show _ = _; rw [T2.out]; unfold keepA; rw [if_pos ⟨h0, h1⟩]
          have hq2 : (r != 18) = true := by simp [h1]
          clear h0 h1 T2
          gi_wp2
          exact ⟨K7.trans (KeepsOthers.setCell _ _ _), P7.trans (KpB.set (fun g hg => by omega) _ _), ⟨D7.other (by omega) _, by rw [T1.out]; exact R7.other (by omega) _, by rw [T3.out]; exact A7.set _⟩, B7.setCell (p := ⟨w.heap.size + 1 + 1, 0, none⟩) (by simp; omega) _⟩
  case done =>
    rintro D ys W hD rfl ⟨⟨_, hx1, _⟩, hB⟩ hK
    have e1 := hx1.1
    have E2 := E.out
    generalize (roleP d (backL zs zs.length)).1 = rr at *
    gi_wp2
    refine ⟨by simp, .inl ⟨_, _, rfl, run_takeDeferred hK, ?_⟩⟩
    exact ⟨_, results_tmp rfl _ _ _, by rw [E2]; rfl, hB.trans (belowK_b (w := w) (Nat.le_refl _) W D _ _ (by simp at hD; omega) hK rfl rfl)⟩
  case stop =>
    rintro D c pre W _ _ h _
    exact h.elim
end Go.Proofs.YtcinjbolflhjmadGreatDoor

/-
  THE WALK of the reference's Role.
-/
namespace Go.Proofs.YtcinjbolflhjmadGreatDoor
open Go.RowKit

/-- how far the way up goes yet -/
def upM (d : Tn.Dc) (v : Value) : Nat := if intOf v < 0 then 0 else posD d (intOf v).toNat + 1

theorem upM_nat (d : Tn.Dc) (m : Nat) : upM d (.int .i64 (m : Int)) = posD d m + 1 := by
  unfold upM
  rw [show intOf (.int .i64 (m : Int)) = (m : Int) from rfl, if_neg (by omega), Int.toNat_natCast]
theorem upM_no (d : Tn.Dc) : upM d (.int .i64 (-1)) = 0 := by
  unfold upM
  rw [show intOf (.int .i64 (-1)) = -1 from rfl, if_pos (by omega)]

theorem isN_el {d : Tn.Dc} {k : Nat} (h : Tn.isN d (k : Int) false = true) : Tn.isN d (k : Int) true = Tn.has (Tn.nd d k).tag := by
  unfold Tn.isN at *
  simp at h
  simp [h]

set_option maxHeartbeats 6400000 in
set_option maxRecDepth 100000 in
theorem qrole_any {b o c : Nat} {rs : List Raw} {d : Tn.Dc} : ∀ (f : Nat) (n : Int) (w : World), Cx w b o c rs d → (∀ k : Nat, n = (k : Int) → Tn.lvD d k = true → posD d k < f) →
    Calls Tryz.prog 17 #[.slice (some ⟨b, o, none⟩) rs.length c, .int .i64 n] w fun e w' => e = .returned (.int .i64 (roleD d n)) ∧ Below w.heap.size w w' := by
  intro f
  induction f with
  | zero =>
    intro n w hc hf
    have his : Tn.isN d n false = false := by
      cases hi : Tn.isN d n false with
      | false => rfl
      | true =>
        obtain ⟨k, rfl, _, hl⟩ := isN_nat hi
        exact absurd (hf k rfl hl) (by omega)
    have E : Hid (roleD d n = 0) := (role_nil hc.fine his).1
    have SI := ris_any hc.doc n false
    rw [his] at SI
    clear hc hf his
    go_enter Tryz.func17, Tryz.ntmps17
    go_wp2_with (go_at_call 19; refine SI.mono ?_; rintro e w1 ⟨rfl, hw1⟩; subst hw1)
    go_ret
    exact ⟨by rw [E.out]; rfl, Below.refl _ _⟩
  | succ f ih =>
    intro n w hc hf
    have SI := ris_any hc.doc n false
    cases his : Tn.isN d n false with
    | false =>
      have E : Hid (roleD d n = 0) := (role_nil hc.fine his).1
      rw [his] at SI
      clear hc hf his ih
      go_enter Tryz.func17, Tryz.ntmps17
      go_wp2_with (go_at_call 19; refine SI.mono ?_; rintro e w1 ⟨rfl, hw1⟩; subst hw1)
      go_ret
      exact ⟨by rw [E.out]; rfl, Below.refl _ _⟩
    | true =>
      obtain ⟨k, rfl, hkl, hlv⟩ := isN_nat his
      have hF := hc.fine
      have hk' : k < rs.length := by rw [hc.doc.len]; exact hkl
      have h1 := hc.doc.row.c1 k hk'
      have htg : rs[k].tag = (Tn.nd d k).tag := by rw [(hc.doc.nds k hk' hkl).tag, nd_at hkl]
      rw [htg] at h1
      have hel := isN_el his
      have RC := role_cons hF his
      have hpk := hf k rfl hlv
      rw [his] at SI
      cases ht : Tn.has (Tn.nd d k).tag with
      | false =>
        have E : Hid (roleD d (k : Int) = 10) := by
          show _ = _
          rw [RC.1, alone_text (by rw [hel, ht]), fit_zero need_text]
        have he : (Tn.nd d k).tag.toList.isEmpty = true := by unfold Tn.has at ht; simpa using ht
        clear hc hf ih RC hel ht htg
        generalize (Tn.nd d k).tag = tag at *
        go_enter Tryz.func17, Tryz.ntmps17
        go_wp2_with (go_at_call 19; refine SI.mono ?_; rintro e w1 ⟨rfl, hw1⟩; subst hw1)
        go_ret
        exact ⟨by rw [E.out]; rfl, Below.refl _ _⟩
      | true =>
        have he : (Tn.nd d k).tag.toList.isEmpty = false := by unfold Tn.has at ht; simpa using ht
        have S1 := qfirst_any hc k (by rw [hel, ht])
        have S2 : ∀ W, Calls Tryz.prog 16 #[.int .i64 (aloneD d (k : Int))] W fun e w' => (∃ (a0 : ByteArray) (a1 a2 a3 a4 a5 : Bool), e = .returned (.agg #[.string a0, .bool a1, .bool a2, .bool a3, .bool a4, .bool a5, .int .i64 (needI (aloneD d (k : Int)))])) ∧ Below W.heap.size W w' := fun W => (Kn.qkind_any (w := W) _).mono (by
          rintro e w' ⟨rfl, hb⟩
          exact ⟨⟨_, _, _, _, _, _, rfl⟩, hb⟩)
        have hfl := Kn.field_need
        have SU : Hid (∀ W m, Below w.heap.size w W → Calls Tryz.prog 34 #[.slice (some ⟨b, o, none⟩) rs.length c, .int .i64 m] W fun e w' => e = .returned (.int .i64 (upF d m)) ∧ Below W.heap.size W w') := fun W m hb => qup_any (hc.below hb).doc hF m
        have SR : Hid (∀ W (m : Nat), Below w.heap.size w W → Tn.lvD d m = true → posD d m < posD d k → Calls Tryz.prog 17 #[.slice (some ⟨b, o, none⟩) rs.length c, .int .i64 (m : Int)] W fun e w' => e = .returned (.int .i64 (roleD d (m : Int))) ∧ Below W.heap.size W w') :=
          fun W m hb _ hp => ih (m : Int) W (hc.below hb) (fun k' e _ => by rw [← Int.ofNat.inj e]; omega)
        have E : Hid (roleD d (k : Int) = fitD (aloneD d (k : Int)) (aroundD d (upF d (k : Int)))) := RC.1
        clear hc hf ih RC hel ht htg
        generalize roleD d (k : Int) = res at *
        generalize aloneD d (k : Int) = r at *
        generalize (Tn.nd d k).tag = tag at *
        by_cases h0 : needI r = 0
        · have E2 : Hid (res = r) := by show _ = _; rw [E.out, fit_zero h0]
          rw [h0] at S2
          clear E SU SR h0
          go_enter Tryz.func17, Tryz.ntmps17
          go_wp2_with (first
            | (go_at_call 19; refine SI.mono ?_; rintro e w1 ⟨rfl, hw1⟩; subst hw1)
            | (go_at_call 41; refine S1.mono ?_; rintro e w2 ⟨rfl, hb2⟩)
            | (go_at_call 16; refine (S2 _).mono ?_; rintro e w3 ⟨⟨a0, a1, a2, a3, a4, a5, rfl⟩, hb3⟩))
          go_ret
          exact ⟨by rw [E2.out]; rfl, hb2.trans (hb3.mono hb2.size)⟩
        · have h0q : (needI r == 0) = false := by simpa using h0
          have N0 : Hid (needI r ≠ 0) := h0
          have E2 : Hid (∀ a, aroundD d (upF d (k : Int)) = a → res = if needI r = a then r else 18) := fun a ha => by
            rw [E.out, ha]
            split
            · rename_i e; exact fit_yes e
            · rename_i e; exact fit_no h0 e
          have SU1 := fun W hb => SU.out W (k : Int) hb
          have AR : Hid (∀ u, upF d (k : Int) = u → (u = -1 ∨ ∃ m : Nat, u = (m : Int) ∧ Tn.lvD d m = true ∧ posD d m < posD d k)) := fun u hu => by
            rcases up_cases hF (k : Int) with e | ⟨m, k', e1, e2, _, e4, e5⟩
            · exact Or.inl (by rw [← hu]; exact e)
            · have : k = k' := by omega
              subst this
              exact Or.inr ⟨m, by rw [← hu]; exact e1, e4, e5⟩
          have A0 := AR.out _ rfl
          clear E h0 AR
          generalize needI r = nd at *
          generalize hup : upF d (k : Int) = u0 at *
          have HU : Hid (upF d (k : Int) = u0) := hup
          clear hup
          go_enter Tryz.func17, Tryz.ntmps17
          go_upto_region 10 with (first
            | (go_at_call 19; refine SI.mono ?_; rintro e w1 ⟨rfl, hw1⟩; subst hw1)
            | (go_at_call 41; refine S1.mono ?_; rintro e w2 ⟨rfl, hb2⟩)
            | (go_at_call 16; refine (S2 _).mono ?_; rintro e w3 ⟨⟨a0, a1, a2, a3, a4, a5, rfl⟩, hb3⟩; have B3 := hb2.trans (hb3.mono hb2.size))
            | (go_at_call 34; refine (SU1 _ B3).mono ?_; rintro e w4 ⟨rfl, hb4⟩; have B4 := B3.trans (hb4.mono B3.size)))
          have ARO : Hid (∀ m : Nat, Tn.lvD d m = true → aroundD d (m : Int) = keepA (roleD d (m : Int)) (aroundD d (upF d (m : Int)))) := fun m hm => (role_cons hF (by rw [Tn.isN_iff]; exact hm)).2
          have ARN : Hid (aroundD d (-1) = 0) := (role_nil hF (by unfold Tn.isN; simp)).2
          clear S1 S2 SU1 SI hb2 hb3 hb4
          go_loopw [7] (fun v wr => ∃ u : Int, v = .int .i64 u ∧ Hid (aroundD d u0 = aroundD d u) ∧ (u = -1 ∨ ∃ m : Nat, u = (m : Int) ∧ Tn.lvD d m = true ∧ posD d m < posD d k) ∧ Below w1.heap.size w1 wr) (fun v _ => upM d v)
          case atStart => exact ⟨u0, rfl, rfl, A0, B4⟩
          case round =>
            obtain ⟨u, rfl, AE, hu, BR⟩ := hrel
            rcases hu with rfl | ⟨m, rfl, hm, hpm⟩
            · have E3 : Hid (res = 18) := by
                have := E2.out 0 (AE.out.trans ARN.out)
                rw [if_neg N0.out] at this
                exact this
              go_wp2_with fail
              go_ret
              exact ⟨by rw [E3.out]; rfl, BR⟩
            · have I1 := SR.out wr m BR hm hpm
              have I2 := fun W hb => SR.out W m hb hm hpm
              have I3 := I2
              have AM := ARO.out m hm
              have hU2 := fun W hb => SU.out W (m : Int) hb
              have NX : ∀ u, upF d (m : Int) = u → (u = -1 ∨ ∃ m' : Nat, u = (m' : Int) ∧ Tn.lvD d m' = true ∧ posD d m' < posD d m) := fun u hu => by
                rcases up_cases hF (m : Int) with e | ⟨m', k', e1, e2, _, e4, e5⟩
                · exact Or.inl (by rw [← hu]; exact e)
                · rw [Int.ofNat.inj e2]
                  exact Or.inr ⟨m', by rw [← hu]; exact e1, e4, e5⟩
              have NX1 := NX _ rfl
              clear NX
              generalize upF d (m : Int) = u1 at *
              have HAM : Hid (aroundD d (m : Int) = keepA (roleD d (m : Int)) (aroundD d u1)) := AM
              clear AM
              generalize roleD d (m : Int) = r1 at *
              have NM : (∀ W, Below w1.heap.size w1 W → Hid (aroundD d u0 = aroundD d u1) → ∃ u : Int, (Value.int .i64 u1) = .int .i64 u ∧ Hid (aroundD d u0 = aroundD d u) ∧ (u = -1 ∨ ∃ m : Nat, u = (m : Int) ∧ Tn.lvD d m = true ∧ posD d m < posD d k) ∧ Below w1.heap.size w1 W) := fun W hW hA => ⟨u1, rfl, hA, by
                rcases NX1 with e | ⟨m', e1, e2, e3⟩
                · exact Or.inl e
                · exact Or.inr ⟨m', e1, e2, by omega⟩, hW⟩
              have MS : Hid (upM d (.int .i64 u1) < upM d (.int .i64 (m : Int))) := by
                show _ < _
                rw [upM_nat]
                rcases NX1 with e | ⟨m', e1, e2, e3⟩
                · rw [e, upM_no]; omega
                · rw [e1, upM_nat]; omega
              clear NX1
              by_cases g0 : r1 = 0
              · have A1 : Hid (aroundD d u0 = aroundD d u1) := by show _ = _; rw [AE.out, HAM.out, g0]; rfl
                subst g0
                go_wp2_with (first
                  | (go_at_call 17; refine I1.mono ?_; clear I1; rintro e w5 ⟨rfl, hb5⟩; have B5 := BR.trans (hb5.mono BR.size))
                  | (go_at_call 34; refine (hU2 _ B5).mono ?_; rintro e w6 ⟨rfl, hb6⟩; have B6 := B5.trans (hb6.mono B5.size)))
                go_roundw
                case rel => exact NM _ B6 A1
                case measure => exact MS.out
              · have g0q : (r1 == 0) = false := by simpa using g0
                by_cases g1 : r1 = 18
                · have A1 : Hid (aroundD d u0 = aroundD d u1) := by show _ = _; rw [AE.out, HAM.out, g1]; rfl
                  subst g1
                  go_wp2_with (first
                    | (go_at_call 17; refine I1.mono ?_; clear I1; rintro e w5 ⟨rfl, hb5⟩; have B5 := BR.trans (hb5.mono BR.size); have J2 := I2 w5 B5)
                    | (go_at_call 17; refine J2.mono ?_; clear J2; rintro e w7 ⟨rfl, hb7⟩; have B7 := B5.trans (hb7.mono B5.size))
                    | (go_at_call 34; refine (hU2 _ B7).mono ?_; rintro e w6 ⟨rfl, hb6⟩; have B6 := B7.trans (hb6.mono B7.size)))
                  go_roundw
                  case rel => exact NM _ B6 A1
                  case measure => exact MS.out
                · have g1q : (r1 == 18) = false := by simpa using g1
                  have A1 : aroundD d u0 = r1 := by rw [AE.out, HAM.out]; unfold keepA; rw [if_pos ⟨g0, g1⟩]
                  have E3 := E2.out r1 A1
                  by_cases g2 : nd = r1
                  · have E4 : Hid (res = r) := by show _ = _; rw [E3, if_pos g2]
                    have g2q : (r1 == nd) = true := by simp [g2]
                    clear E3 A1 g0 g1 g2 NM MS
                    go_wp2_with (first
                      | (go_at_call 17; refine I1.mono ?_; clear I1; rintro e w5 ⟨rfl, hb5⟩; have B5 := BR.trans (hb5.mono BR.size); have J2 := I2 w5 B5)
                      | (go_at_call 17; refine J2.mono ?_; clear J2; rintro e w7 ⟨rfl, hb7⟩; have B7 := B5.trans (hb7.mono B5.size); have J3 := I3 w7 B7)
                      | (go_at_call 17; refine J3.mono ?_; clear J3; rintro e w8 ⟨rfl, hb8⟩; have B8 := B7.trans (hb8.mono B7.size)))
                    go_ret
                    exact ⟨by rw [E4.out]; rfl, B8⟩
                  · have E4 : Hid (res = 18) := by show _ = _; rw [E3, if_neg g2]
                    have g2q : (r1 == nd) = false := by simp; exact fun h => g2 h.symm
                    clear E3 A1 g0 g1 g2 NM MS
                    go_wp2_with (first
                      | (go_at_call 17; refine I1.mono ?_; clear I1; rintro e w5 ⟨rfl, hb5⟩; have B5 := BR.trans (hb5.mono BR.size); have J2 := I2 w5 B5)
                      | (go_at_call 17; refine J2.mono ?_; clear J2; rintro e w7 ⟨rfl, hb7⟩; have B7 := B5.trans (hb7.mono B5.size); have J3 := I3 w7 B7)
                      | (go_at_call 17; refine J3.mono ?_; clear J3; rintro e w8 ⟨rfl, hb8⟩; have B8 := B7.trans (hb8.mono B7.size)))
                    go_ret
                    exact ⟨by rw [E4.out]; rfl, B8⟩
end Go.Proofs.YtcinjbolflhjmadGreatDoor

/-
  THE WALK of the reference's Hidden.
-/
namespace Go.Proofs.YtcinjbolflhjmadGreatDoor
open Go.RowKit

set_option maxHeartbeats 6400000 in
set_option maxRecDepth 100000 in
theorem qhid_any {b o c : Nat} {rs : List Raw} {d : Tn.Dc} : ∀ (f : Nat) (n : Int) (w : World), Cx w b o c rs d → (∀ k : Nat, n = (k : Int) → Tn.lvD d k = true → posD d k < f) →
    Calls Tryz.prog 15 #[.slice (some ⟨b, o, none⟩) rs.length c, .int .i64 n] w fun e w' => e = .returned (.bool (hidD d n)) ∧ Below w.heap.size w w' := by
  intro f
  induction f with
  | zero =>
    intro n w hc hf
    have his : Tn.isN d n false = false := by
      cases hi : Tn.isN d n false with
      | false => rfl
      | true =>
        obtain ⟨k, rfl, _, hl⟩ := isN_nat hi
        exact absurd (hf k rfl hl) (by omega)
    have E : Hid (hidD d n = true) := hid_nil hc.fine his
    have SI := ris_any hc.doc n false
    rw [his] at SI
    clear hc hf his
    go_enter Tryz.func15, Tryz.ntmps15
    go_wp2_with (go_at_call 19; refine SI.mono ?_; rintro e w1 ⟨rfl, hw1⟩; subst hw1)
    go_ret
    exact ⟨by rw [E.out]; rfl, Below.refl _ _⟩
  | succ f ih =>
    intro n w hc hf
    have SI := ris_any hc.doc n false
    cases his : Tn.isN d n false with
    | false =>
      have E : Hid (hidD d n = true) := hid_nil hc.fine his
      rw [his] at SI
      clear hc hf his ih
      go_enter Tryz.func15, Tryz.ntmps15
      go_wp2_with (go_at_call 19; refine SI.mono ?_; rintro e w1 ⟨rfl, hw1⟩; subst hw1)
      go_ret
      exact ⟨by rw [E.out]; rfl, Below.refl _ _⟩
    | true =>
      obtain ⟨k, rfl, hkl, hlv⟩ := isN_nat his
      have hF := hc.fine
      have HC := hid_cons hF his
      have hpk := hf k rfl hlv
      rw [his] at SI
      have S1 := rattr_all hc.doc (k : Int) ⟨#[104, 105, 100, 100, 101, 110]⟩
      have S2 : ∀ W, Below w.heap.size w W → Calls Tryz.prog 37 #[.slice (some ⟨b, o, none⟩) rs.length c, .int .i64 (k : Int), .string ⟨#[97, 114, 105, 97, 45, 104, 105, 100, 100, 101, 110]⟩] W fun e w' => e = .returned (.string (saidN d (k : Int) ⟨#[97, 114, 105, 97, 45, 104, 105, 100, 100, 101, 110]⟩)) ∧ Below W.heap.size W w' := fun W hb => qsaid_any (hc.below hb).doc hc.vn _ _
      have hz := said_size hc.vn (k : Int) ⟨#[97, 114, 105, 97, 45, 104, 105, 100, 100, 101, 110]⟩
      have S3 : ∀ W, Calls Tryz.prog 40 #[.string (saidN d (k : Int) ⟨#[97, 114, 105, 97, 45, 104, 105, 100, 100, 101, 110]⟩)] W fun e w' => e = .returned (.string (lowS (saidN d (k : Int) ⟨#[97, 114, 105, 97, 45, 104, 105, 100, 100, 101, 110]⟩))) ∧ Below W.heap.size W w' := fun W => Wd.rlower_any _ W hz
      have SU : ∀ W, Below w.heap.size w W → Calls Tryz.prog 34 #[.slice (some ⟨b, o, none⟩) rs.length c, .int .i64 (k : Int)] W fun e w' => e = .returned (.int .i64 (upF d (k : Int))) ∧ Below W.heap.size W w' := fun W hb => qup_any (hc.below hb).doc hF _
      have CE : concD d (k : Int) = ((attrN d (k : Int) ⟨#[104, 105, 100, 100, 101, 110]⟩).isSome || ((lowS (saidN d (k : Int) ⟨#[97, 114, 105, 97, 45, 104, 105, 100, 100, 101, 110]⟩)).toList == [116, 114, 117, 101])) := rfl
      rw [CE] at HC
      clear CE hz
      have SH : ∀ m : Nat, upF d (k : Int) = (m : Int) → ∀ W, Below w.heap.size w W → Calls Tryz.prog 15 #[.slice (some ⟨b, o, none⟩) rs.length c, .int .i64 (m : Int)] W fun e w' => e = .returned (.bool (hidD d (m : Int))) ∧ Below W.heap.size W w' := fun m hm W hb => ih (m : Int) W (hc.below hb) (fun k' e _ => by
        rcases up_cases hF (k : Int) with e1 | ⟨m2, k2, e1, e2, _, _, e5⟩
        · omega
        · have a1 : m = m2 := by omega
          have a2 : k = k2 := by omega
          have a3 : k' = m2 := by omega
          rw [a3]
          rw [a2] at hpk
          omega)
      have UC : upF d (k : Int) = -1 ∨ ∃ m : Nat, upF d (k : Int) = (m : Int) := by
        rcases up_cases hF (k : Int) with e1 | ⟨m2, k2, e1, _⟩
        · exact Or.inl e1
        · exact Or.inr ⟨m2, e1⟩
      clear hc hf ih
      have E : Hid (hidD d (k : Int) = ((attrN d (k : Int) ⟨#[104, 105, 100, 100, 101, 110]⟩).isSome || ((lowS (saidN d (k : Int) ⟨#[97, 114, 105, 97, 45, 104, 105, 100, 100, 101, 110]⟩)).toList == [116, 114, 117, 101]) || (decide (k ≠ 0) && (decide (upF d (k : Int) < 0) || hidD d (upF d (k : Int)))))) := HC
      clear HC
      generalize hidD d (k : Int) = res at *
      generalize lowS (saidN d (k : Int) ⟨#[97, 114, 105, 97, 45, 104, 105, 100, 100, 101, 110]⟩) = z at *
      generalize saidN d (k : Int) ⟨#[97, 114, 105, 97, 45, 104, 105, 100, 100, 101, 110]⟩ = y at *
      generalize valN d (k : Int) ⟨#[104, 105, 100, 100, 101, 110]⟩ = v at *
      generalize (attrN d (k : Int) ⟨#[104, 105, 100, 100, 101, 110]⟩).isSome = q at *
      cases q with
      | true =>
        have E2 : Hid (res = true) := by show _ = _; rw [E.out]; rfl
        clear E UC SH SU S2 S3
        go_enter Tryz.func15, Tryz.ntmps15
        go_wp2_with (first
          | (go_at_call 19; refine SI.mono ?_; rintro e w1 ⟨rfl, hw1⟩; subst hw1)
          | (go_at_call 18; refine S1.mono ?_; rintro e w2 ⟨rfl, hb2⟩))
        go_ret
        exact ⟨by rw [E2.out]; rfl, hb2⟩
      | false =>
        cases hzt : (z.toList == [116, 114, 117, 101]) with
        | true =>
          have E2 : Hid (res = true) := by show _ = _; rw [E.out, hzt]; rfl
          clear E UC SH SU
          go_enter Tryz.func15, Tryz.ntmps15
          go_wp2_with (first
            | (go_at_call 19; refine SI.mono ?_; rintro e w1 ⟨rfl, hw1⟩; subst hw1)
            | (go_at_call 18; refine S1.mono ?_; rintro e w2 ⟨rfl, hb2⟩)
            | (go_at_call 37; refine (S2 _ hb2).mono ?_; rintro e w3 ⟨rfl, hb3⟩; have B3 := hb2.trans (hb3.mono hb2.size))
            | (go_at_call 40; refine (S3 _).mono ?_; rintro e w4 ⟨rfl, hb4⟩; have B4 := B3.trans (hb4.mono B3.size)))
          go_ret
          exact ⟨by rw [E2.out]; rfl, B4⟩
        | false =>
          by_cases hk0 : k = 0
          · have E2 : Hid (res = false) := by show _ = _; rw [E.out, hzt, hk0]; rfl
            subst hk0
            clear E UC SH SU
            go_enter Tryz.func15, Tryz.ntmps15
            go_wp2_with (first
              | (go_at_call 19; refine SI.mono ?_; rintro e w1 ⟨rfl, hw1⟩; subst hw1)
              | (go_at_call 18; refine S1.mono ?_; rintro e w2 ⟨rfl, hb2⟩)
              | (go_at_call 37; refine (S2 _ hb2).mono ?_; rintro e w3 ⟨rfl, hb3⟩; have B3 := hb2.trans (hb3.mono hb2.size))
              | (go_at_call 40; refine (S3 _).mono ?_; rintro e w4 ⟨rfl, hb4⟩; have B4 := B3.trans (hb4.mono B3.size)))
            go_ret
            exact ⟨by rw [E2.out]; rfl, B4⟩
          · have hkq : ((k : Int) != 0) = true := by simp; omega
            have SU2 := SU
            rcases UC with hu | ⟨m, hu⟩
            · have E2 : Hid (res = true) := by show _ = _; rw [E.out, hzt, hu]; simp [hk0]
              rw [hu] at SU
              clear E SH hu hk0 SU2
              go_enter Tryz.func15, Tryz.ntmps15
              go_wp2_with (first
                | (go_at_call 19; refine SI.mono ?_; rintro e w1 ⟨rfl, hw1⟩; subst hw1)
                | (go_at_call 18; refine S1.mono ?_; rintro e w2 ⟨rfl, hb2⟩)
                | (go_at_call 37; refine (S2 _ hb2).mono ?_; rintro e w3 ⟨rfl, hb3⟩; have B3 := hb2.trans (hb3.mono hb2.size))
                | (go_at_call 40; refine (S3 _).mono ?_; rintro e w4 ⟨rfl, hb4⟩; have B4 := B3.trans (hb4.mono B3.size))
                | (go_at_call 34; refine (SU _ B4).mono ?_; rintro e w5 ⟨rfl, hb5⟩; have B5 := B4.trans (hb5.mono B4.size)))
              go_ret
              exact ⟨by rw [E2.out]; rfl, B5⟩
            · have hS := SH m hu
              have E2 : Hid (res = hidD d (m : Int)) := by
                show _ = _
                rw [E.out, hzt, hu]
                have : ¬ ((m : Int) < 0) := by omega
                simp [hk0, this]
              rw [hu] at SU SU2
              clear E SH hu hk0
              generalize hidD d (m : Int) = hm at *
              go_enter Tryz.func15, Tryz.ntmps15
              go_wp2_with (first
                | (go_at_call 19; refine SI.mono ?_; rintro e w1 ⟨rfl, hw1⟩; subst hw1)
                | (go_at_call 18; refine S1.mono ?_; rintro e w2 ⟨rfl, hb2⟩)
                | (go_at_call 37; refine (S2 _ hb2).mono ?_; rintro e w3 ⟨rfl, hb3⟩; have B3 := hb2.trans (hb3.mono hb2.size))
                | (go_at_call 40; refine (S3 _).mono ?_; rintro e w4 ⟨rfl, hb4⟩; have B4 := B3.trans (hb4.mono B3.size))
                | (go_at_call 34; refine (SU _ B4).mono ?_; clear SU; rintro e w5 ⟨rfl, hb5⟩; have B5 := B4.trans (hb5.mono B4.size); have J2 := SU2 w5 B5)
                | (go_at_call 34; refine J2.mono ?_; rintro e w6 ⟨rfl, hb6⟩; have B6 := B5.trans (hb6.mono B5.size))
                | (go_at_call 15; refine (hS _ B6).mono ?_; rintro e w7 ⟨rfl, hb7⟩; have B7 := B6.trans (hb7.mono B6.size)))
              go_ret
              exact ⟨by rw [E2.out]; rfl, B7⟩
end Go.Proofs.YtcinjbolflhjmadGreatDoor

/-
  THE WALKS of RoleTells, and of tnlaw5.alive.
-/
namespace Go.Proofs.YtcinjbolflhjmadGreatDoor
open Go.RowKit

theorem cx_build {w : World} {g c : Nat} {rs : List Raw} {l : List Tn.Chg} (hd : DocAt w g 0 c rs (Tn.build l)) (T : Kn.TabAt w) (hsz : ∀ x ∈ l, x.value.size ≤ 4194304 ∧ x.name.size ≤ 4194304) : Cx w g 0 c rs (Tn.build l) := ⟨hd, T, build_fine l, build_vn hsz⟩

theorem qrole_all {w : World} {b o c : Nat} {rs : List Raw} {d : Tn.Dc} (hc : Cx w b o c rs d) (n : Int) :
    Calls Tryz.prog 17 #[.slice (some ⟨b, o, none⟩) rs.length c, .int .i64 n] w fun e w' => e = .returned (.int .i64 (roleD d n)) ∧ Below w.heap.size w w' := qrole_any 60 n w hc (fun _ _ hk => pos_60 hc.fine hk)
theorem qhid_all {w : World} {b o c : Nat} {rs : List Raw} {d : Tn.Dc} (hc : Cx w b o c rs d) (n : Int) :
    Calls Tryz.prog 15 #[.slice (some ⟨b, o, none⟩) rs.length c, .int .i64 n] w fun e w' => e = .returned (.bool (hidD d n)) ∧ Below w.heap.size w w' := qhid_any 60 n w hc (fun _ _ hk => pos_60 hc.fine hk)

end Go.Proofs.YtcinjbolflhjmadGreatDoor

/-
  THE WALK of tnlaw5.alive.
-/
namespace Go.Proofs.YtcinjbolflhjmadGreatDoor
open Go.RowKit

def al5L : List Tn.Chg := [⟨1, 0, 0, -1, ⟨#[108, 105]⟩, ⟨#[]⟩⟩, ⟨1, 0, 0, -1, ⟨#[117, 108]⟩, ⟨#[]⟩⟩, ⟨1, 2, 0, -1, ⟨#[108, 105]⟩, ⟨#[]⟩⟩, ⟨5, 2, 0, 0, ⟨#[104, 105, 100, 100, 101, 110]⟩, ⟨#[]⟩⟩, ⟨5, 1, 0, 0, ⟨#[97, 114, 105, 97, 45, 108, 97, 98, 101, 108]⟩, ⟨#[120]⟩⟩]
theorem al5_1 : roleD (Tn.build al5L) 1 = 18 := by decide +kernel
theorem al5_2 : roleD (Tn.build al5L) 3 = 6 := by decide +kernel
theorem al5_3 : hidD (Tn.build al5L) 3 = true := by decide +kernel
theorem al5_4 : hidD (Tn.build al5L) 1 = false := by decide +kernel
theorem al5_5 : labD (Tn.build al5L) 1 = true := by decide +kernel
theorem al5_6 : labD (Tn.build al5L) 2 = false := by decide +kernel
theorem al5_sz : ∀ x ∈ al5L, x.value.size ≤ 4194304 ∧ x.name.size ≤ 4194304 := by decide

end Go.Proofs.YtcinjbolflhjmadGreatDoor

/-
  PLAIN MATHEMATICS: who asks for a role that needs nothing has it.
-/
namespace Go.Proofs.YtcinjbolflhjmadGreatDoor
open Tn

theorem fold_asked (name value : ByteArray) : ∀ (l : List At) (out : List At) (dn : Bool), (dn = true → attrOf out name = some value) → (dn = false → out.find? (fun a => eqS a.1 name) = none) →
    ((l.foldl (aStep name value) (out, dn)).2 = true → attrOf (l.foldl (aStep name value) (out, dn)).1 name = some value) ∧ ((l.foldl (aStep name value) (out, dn)).2 = false → (l.foldl (aStep name value) (out, dn)).1.find? (fun a => eqS a.1 name) = none)
  | [], out, dn, h1, h2 => ⟨h1, h2⟩
  | x :: l, out, dn, h1, h2 => by
    have hself : eqS name name = true := by unfold eqS; simp
    have keep : ∀ (m : List At), attrOf out name = some value → attrOf (out ++ m) name = some value := by
      intro m h
      unfold attrOf at *
      rw [List.find?_append]
      cases hf : out.find? (fun a => eqS a.1 name) with
      | none => rw [hf] at h; cases h
      | some a => rw [hf] at h; exact h
    have new : ∀ (y : At) (m : List At), out.find? (fun a => eqS a.1 name) = none → eqS y.1 name = true → attrOf (out ++ y :: m) name = some y.2 := by
      intro y m h hy
      unfold attrOf
      rw [List.find?_append, h]
      simp [hy]
    rw [List.foldl_cons]
    have e : aStep name value (out, dn) x = ((aStep name value (out, dn) x).1, (aStep name value (out, dn) x).2) := rfl
    rw [e]
    refine fold_asked name value l _ _ ?_ ?_
    · unfold aStep
      split
      · rename_i hx
        intro _
        cases dn with
        | true => exact keep _ (h1 rfl)
        | false => exact new (x.1, value) [] (h2 rfl) hx
      · split
        · rename_i hx2
          intro _
          cases dn with
          | true => simp at hx2
          | false =>
            have := new (name, value) [x] (h2 rfl) hself
            rw [List.append_assoc]
            exact this
        · intro hd
          exact keep _ (h1 hd)
    · unfold aStep
      split
      · intro hd; cases hd
      · split
        · intro hd; cases hd
        · rename_i hx _
          intro hd
          rw [List.find?_append, h2 hd]
          have : eqS x.1 name = false := by simpa using hx
          simp [this]

theorem attrs_asked (l : List At) (name value : ByteArray) : attrOf (attrsD l name value) name = some value := by
  obtain ⟨h1, h2⟩ := fold_asked name value l [] false (by simp) (fun _ => rfl)
  unfold attrsD
  split
  · rename_i h; exact h1 h
  · rename_i h
    have hf : (aFold name value l).2 = false := by simpa using h
    have := h2 hf
    unfold attrOf aFold
    rw [List.find?_append, this]
    have hself : eqS name name = true := by unfold eqS; simp
    simp [hself]

theorem lk_mem : ∀ (ps : List (List UInt8 × Nat)) (s : List UInt8) (a : Option Nat) (n : Nat), ps.foldl (fun a p => if p.1 = s then some p.2 else a) a = some n → a = none → ∃ p ∈ ps, p.1 = s
  | [], s, a, n, h, ha => by rw [List.foldl_nil, ha] at h; cases h
  | p :: ps, s, a, n, h, ha => by
    by_cases hp : p.1 = s
    · exact ⟨p, by simp, hp⟩
    · rw [List.foldl_cons, if_neg hp] at h
      obtain ⟨q, hq, e⟩ := lk_mem ps s a n h ha
      exact ⟨q, by simp [hq], e⟩

theorem names_low : ∀ p ∈ Kn.nmL 19, Wd.lowL p.1 = p.1 := by decide +kernel

/-- a role's name is in small letters -/
theorem find_low {t : List UInt8} (h : 0 ≤ Kn.findD t) : Wd.lowL t = t := by
  unfold Kn.findD at h
  split at h
  · rename_i n hn
    obtain ⟨p, hp, e⟩ := lk_mem _ t none n hn rfl
    rw [← e]
    exact names_low p hp
  · omega

theorem build_snoc {l : List Chg} {x : Chg} (h : applyE (build l) x = 0) : build (l ++ [x]) = applyD (build l) x := by
  have e : build (l ++ [x]) = Tn.step (build l) x := by unfold build; rw [List.foldl_append]; rfl
  rw [e]
  exact if_pos h

/-- behind the change the node is an element, and asks for that -/
theorem asked_doc {l : List Chg} {n : Int} {s : ByteArray} (h : applyE (build l) ⟨5, n, 0, 0, ⟨#[114, 111, 108, 101]⟩, s⟩ = 0) : ∃ k : Nat, n = (k : Int) ∧ isN (applyD (build l) ⟨5, n, 0, 0, ⟨#[114, 111, 108, 101]⟩, s⟩) (k : Int) true = true ∧ valN (applyD (build l) ⟨5, n, 0, 0, ⟨#[114, 111, 108, 101]⟩, s⟩) (k : Int) ⟨#[114, 111, 108, 101]⟩ = s := by
  have hg := build_good l
  generalize build l = d at *
  unfold applyE at h
  rw [if_neg (by simp)] at h
  cases hi : isN d n false with
  | false => simp [hi] at h
  | true =>
    obtain ⟨k, rfl, hkl, hlv⟩ := isN_nat hi
    simp only [hi] at h
    rw [if_neg (by simp)] at h
    have hm := chg_mid hg ⟨5, (k : Int), 0, 0, ⟨#[114, 111, 108, 101]⟩, s⟩ hi h
    unfold chgE at h
    rw [if_neg (by simp), if_neg (by simp), if_neg (by simp)] at h
    simp only [Int.toNat_natCast] at h
    have ht : has (nd d k).tag = true := by
      cases ht : has (nd d k).tag with
      | true => rfl
      | false => simp [ht] at h
    have e : chgD d ⟨5, (k : Int), 0, 0, ⟨#[114, 111, 108, 101]⟩, s⟩ = withd d k { nd d k with attrs := attrsD (nd d k).attrs ⟨#[114, 111, 108, 101]⟩ s } := by
      unfold chgD
      rw [if_neg (by simp), if_neg (by simp), if_neg (by simp), if_pos rfl]
      unfold attrD
      simp only [Int.toNat_natCast]
    have hn : nd (applyD d ⟨5, (k : Int), 0, 0, ⟨#[114, 111, 108, 101]⟩, s⟩) k = { nd d k with attrs := attrsD (nd d k).attrs ⟨#[114, 111, 108, 101]⟩ s } := by
      unfold applyD
      rw [nd_trim hm, e, nd_withd _ _ _ (by omega), if_pos rfl]
    have hl : lvD (applyD d ⟨5, (k : Int), 0, 0, ⟨#[114, 111, 108, 101]⟩, s⟩) k = true := by
      unfold lvD
      rw [hn]
      exact hlv
    have hE : isN (applyD d ⟨5, (k : Int), 0, 0, ⟨#[114, 111, 108, 101]⟩, s⟩) (k : Int) true = true := by
      rw [isN_el (by rw [isN_iff]; exact hl), hn]
      exact ht
    refine ⟨k, rfl, hE, ?_⟩
    unfold valN attrN
    rw [if_pos hE, Int.toNat_natCast, hn]
    simp only
    rw [attrs_asked]
    rfl

/-- who asks gets it -/
theorem asked_role {d : Dc} (h : Fine d) {k : Nat} (hi : isN d (k : Int) true = true) {r : Int} (hr : 0 < r) (hw : wantD d (k : Int) = r) (hn : needI r = 0) : roleD d (k : Int) = r := by
  rw [(role_cons h (isN_true hi)).1]
  have : aloneD d (k : Int) = r := by
    unfold aloneD
    rw [if_pos hi, hw, if_pos (by omega)]
  rw [this, fit_zero hn]
end Go.Proofs.YtcinjbolflhjmadGreatDoor

/-
  PLAIN MATHEMATICS: names are plain; what is said outright is said.
-/
namespace Go.Proofs.YtcinjbolflhjmadGreatDoor
open Tn

def Sq (s : ByteArray) : Prop := Wd.sqz s = s
theorem sq_sqz (s : ByteArray) : Sq (Wd.sqz s) := by
  show Tx.bs (Tx.squeeze (Tx.squeeze s.data.toList)) = Tx.bs (Tx.squeeze s.data.toList)
  rw [Tx.squeeze_twice]
theorem sq_em : Sq emB := by show Wd.sqz ⟨#[]⟩ = ⟨#[]⟩; decide +kernel
theorem sq_said (d : Dc) (n : Int) (a : ByteArray) : Sq (saidN d n a) := sq_sqz _
theorem em_full : full emB = false := by decide +kernel

theorem nameG_sq {nm : Nmr} (h : ∀ s k w, Sq (nm s k w).1) (d : Dc) (c : List Cl) (st : St) (n : Nat) (within : Bool) : Sq (nameG nm d c st n within).1 := by
  unfold nameG
  split
  · exact sq_em
  · split
    · exact sq_sqz _
    · have hA : Sq (stepA nm d c n within (st1 d n st)).1 := by
        unfold stepA
        split
        · exact sq_em
        · exact sq_sqz _
      generalize stepA nm d c n within (st1 d n st) = a at *
      unfold tailA
      split
      · exact hA
      · split
        · exact sq_said _ _ _
        · split
          · exact sq_said _ _ _
          · have hB : Sq (stepB nm d n a.2).1 := by
              unfold stepB
              split
              · exact sq_said _ _ _
              · split
                · exact h _ _ _
                · exact sq_em
            generalize stepB nm d n a.2 = b at *
            unfold tailB
            split
            · exact hB
            · have hC : Sq (stepC nm d c n within b.2).1 := by
                unfold stepC
                split
                · exact sq_sqz _
                · exact sq_em
              generalize stepC nm d c n within b.2 = e at *
              unfold tailC
              split
              · exact hC
              · exact sq_said _ _ _
theorem name_sq (d : Dc) (c : List Cl) : ∀ (f : Nat) (s : St) (k : Nat) (w : Bool), Sq (nameF f d c s k w).1
  | 0, _, _, _ => sq_em
  | f + 1, s, k, w => nameG_sq (name_sq d c f) d c s k w

/-- names are plain -/
theorem memo_sq (d : Dc) (c : List Cl) (n : Int) : Sq (memoD d c n).name ∧ Sq (memoD d c n).about ∧ (full (memoD d c n).name = false → (memoD d c n).about = emB) := by
  unfold memoD
  split
  · have h1 : Sq (nameM d c n.toNat).1 := by
      unfold nameM
      split
      · exact name_sq _ _ _ _ _ _
      · exact sq_em
    refine ⟨h1, ?_, fun hf => ?_⟩
    · simp only
      unfold aboutM
      split
      · unfold aboutT
        split
        · exact sq_said _ _ _
        · exact sq_sqz _
      · exact sq_em
    · simp only at hf ⊢
      unfold aboutM
      rw [if_neg (by simp [hf])]
  · exact ⟨sq_em, sq_em, fun _ => rfl⟩

theorem nameF_hid (d : Dc) (c : List Cl) (st : St) (n : Nat) (w : Bool) (h : hidD d (n : Int) = true) (hl : n ∉ st.lst) : (nameF 64 d c st n w).1 = emB := by
  rw [show (64 : Nat) = 63 + 1 from rfl, nameF]
  unfold nameG
  rw [if_pos (by simp [h, hl])]

/-- what is hidden has no name, nor what may have none -/
theorem memo_none (d : Dc) (c : List Cl) (n : Int) (h : hidD d n = true ∨ (isN d n true = true ∧ namedI (roleD d n) = false)) : (memoD d c n).name = emB := by
  unfold memoD
  split
  · rename_i hi
    obtain ⟨m, rfl, _, _⟩ := isN_nat hi
    rw [Int.toNat_natCast]
    simp only
    unfold nameM
    rcases h with h | ⟨h1, h2⟩
    · split
      · exact nameF_hid d c _ m false h (by simp)
      · rfl
    · rw [isN_el hi] at h1
      rw [if_neg (by simp [h1, h2])]
  · rfl

/-- behind the change the node is an element, and its label is that -/
theorem label_doc {l : List Chg} {n : Int} {s : ByteArray} (h : applyE (build l) ⟨5, n, 0, 0, ⟨#[97, 114, 105, 97, 45, 108, 97, 98, 101, 108]⟩, s⟩ = 0) : ∃ k : Nat, n = (k : Int) ∧ isN (applyD (build l) ⟨5, n, 0, 0, ⟨#[97, 114, 105, 97, 45, 108, 97, 98, 101, 108]⟩, s⟩) (k : Int) true = true ∧ valN (applyD (build l) ⟨5, n, 0, 0, ⟨#[97, 114, 105, 97, 45, 108, 97, 98, 101, 108]⟩, s⟩) (k : Int) ⟨#[97, 114, 105, 97, 45, 108, 97, 98, 101, 108]⟩ = s := by
  have hg := build_good l
  generalize build l = d at *
  unfold applyE at h
  rw [if_neg (by simp)] at h
  cases hi : isN d n false with
  | false => simp [hi] at h
  | true =>
    obtain ⟨k, rfl, hkl, hlv⟩ := isN_nat hi
    simp only [hi] at h
    rw [if_neg (by simp)] at h
    have hm := chg_mid hg ⟨5, (k : Int), 0, 0, ⟨#[97, 114, 105, 97, 45, 108, 97, 98, 101, 108]⟩, s⟩ hi h
    unfold chgE at h
    rw [if_neg (by simp), if_neg (by simp), if_neg (by simp)] at h
    simp only [Int.toNat_natCast] at h
    have ht : has (nd d k).tag = true := by
      cases ht : has (nd d k).tag with
      | true => rfl
      | false => simp [ht] at h
    have e : chgD d ⟨5, (k : Int), 0, 0, ⟨#[97, 114, 105, 97, 45, 108, 97, 98, 101, 108]⟩, s⟩ = withd d k { nd d k with attrs := attrsD (nd d k).attrs ⟨#[97, 114, 105, 97, 45, 108, 97, 98, 101, 108]⟩ s } := by
      unfold chgD
      rw [if_neg (by simp), if_neg (by simp), if_neg (by simp), if_pos rfl]
      unfold attrD
      simp only [Int.toNat_natCast]
    have hn : nd (applyD d ⟨5, (k : Int), 0, 0, ⟨#[97, 114, 105, 97, 45, 108, 97, 98, 101, 108]⟩, s⟩) k = { nd d k with attrs := attrsD (nd d k).attrs ⟨#[97, 114, 105, 97, 45, 108, 97, 98, 101, 108]⟩ s } := by
      unfold applyD
      rw [nd_trim hm, e, nd_withd _ _ _ (by omega), if_pos rfl]
    have hl : lvD (applyD d ⟨5, (k : Int), 0, 0, ⟨#[97, 114, 105, 97, 45, 108, 97, 98, 101, 108]⟩, s⟩) k = true := by
      unfold lvD
      rw [hn]
      exact hlv
    have hE : isN (applyD d ⟨5, (k : Int), 0, 0, ⟨#[97, 114, 105, 97, 45, 108, 97, 98, 101, 108]⟩, s⟩) (k : Int) true = true := by
      rw [isN_el (by rw [isN_iff]; exact hl), hn]
      exact ht
    refine ⟨k, rfl, hE, ?_⟩
    unfold valN attrN
    rw [if_pos hE, Int.toNat_natCast, hn]
    simp only
    rw [attrs_asked]
    rfl

theorem sqz_toks {s : ByteArray} (h : full (Wd.sqz s) = false) : Wd.toksOf s = [] := by
  cases ht : Wd.toksOf s with
  | nil => rfl
  | cons t r =>
    have hw := (Tx.toks_words s.data.toList t (by rw [show Tx.toks s.data.toList = t :: r from ht]; simp)).1
    have e : (Wd.sqz s).toList = Tx.joined (t :: r) := by
      show (Tx.bs (Tx.joined (Tx.toks s.data.toList))).toList = _
      rw [Wd.bs_toList, show Tx.toks s.data.toList = t :: r from ht]
    unfold full at h
    rw [e] at h
    have := Tx.joined_ne t r hw
    simp at h
    exact absurd h this

/-- what is said outright is said -/
theorem memo_label {d : Dc} {k : Nat} (hi : isN d (k : Int) true = true) {s : ByteArray} (hs : valN d (k : Int) ⟨#[97, 114, 105, 97, 45, 108, 97, 98, 101, 108]⟩ = s) (hf : full (Wd.sqz s) = true) (hh : hidD d (k : Int) = false) (hn : namedI (roleD d (k : Int)) = true) (hno : full (saidN d (k : Int) ⟨#[97, 114, 105, 97, 45, 108, 97, 98, 101, 108, 108, 101, 100, 98, 121]⟩) = false) (c : List Cl) :
    (memoD d c (k : Int)).name = Wd.sqz s := by
  have hi2 := isN_true hi
  unfold memoD
  rw [if_pos hi2, Int.toNat_natCast]
  simp only
  unfold nameM
  rw [if_pos (by simp [hn]), show (64 : Nat) = 63 + 1 from rfl, nameF]
  unfold nameG
  have ht : has (nd d k).tag = true := by rw [← isN_el hi2]; exact hi
  rw [if_neg (by simp [hh]), if_neg (by simp [ht])]
  have eA : stepA (nameF 63 d c) d c k false (st1 d k ⟨[], lineD d (k : Int), []⟩) = (emB, st1 d k ⟨[], lineD d (k : Int), []⟩) := by
    unfold stepA listD refsD
    rw [sqz_toks (s := valN d (k : Int) ⟨#[97, 114, 105, 97, 45, 108, 97, 98, 101, 108, 108, 101, 100, 98, 121]⟩) hno]
    rfl
  rw [eA]
  have es : saidN d (k : Int) ⟨#[97, 114, 105, 97, 45, 108, 97, 98, 101, 108]⟩ = Wd.sqz s := by unfold saidN; rw [hs]
  unfold tailA
  rw [if_neg (by simp [em_full]), es, if_pos hf]
end Go.Proofs.YtcinjbolflhjmadGreatDoor
