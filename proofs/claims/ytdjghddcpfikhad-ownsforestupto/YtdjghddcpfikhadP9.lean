/-
  OWN WORK: Vch, Wrt, Vci, Vck, Had, Vcj.
-/
import Derived.Test.YtdjghddcpfikhadP8
import Derived.Test.YtdjghddcpfikhadP6
import Derived.Maps.OwnOps
import Derived.Maps.Views
/-
  THE WALK of tnlaw6's OwnsForest.
-/
namespace Go.Proofs.Ytdjghddcpfikhad
open Go.RowKit

theorem But.mono {B B' A : Nat} {w w' : World} (h : But B' A w w') (hB : B ≤ B') : But B A w w' := ⟨h.os, h.tape, h.output, h.size, fun k hk hA => h.block k (by omega) hA⟩
theorem But.grow {B A : Nat} {w w' w'' : World} (h : But B A w w') (g : w'.grownBy w'' (some A)) (hB : B ≤ w'.heap.size) : But B A w w'' :=
  ⟨g.os.trans h.os, g.tape.trans h.tape, g.output.trans h.output, Nat.le_trans h.size g.size, fun k hk hA => (g.block k (by omega) (fun e => hA (by injection e))).trans (h.block k hk hA)⟩

theorem inside_le {d : Tn.Dc} (h : Fine d) {l : List Cl} (hl : Forest d l) {n x : Nat} (hx : x ∈ insideD d l (n : Int)) : x ≤ 1000 := by
  have hlen := h.good.len.2
  have key : Tn.lvD d x = true := by
    unfold insideD at hx
    rcases List.mem_append.mp hx with hx | hx
    · exact (kid_par h (List.mem_filter.mp hx).1).2.1
    · obtain ⟨c, hc, e⟩ := List.mem_map.mp hx
      rw [← e]
      exact sh_lv h (hl.own c (List.mem_filter.mp hc).1).2.1
  have := Tn.lv_lt key
  omega
theorem inside_few {d : Tn.Dc} (h : Fine d) {l : List Cl} (hl : Forest d l) (n : Int) : (insideD d l n).length ≤ 1060 := by
  rw [inside_mine, List.length_append]
  have h1 := kids_few h.okd n
  have h2 := mine_len l n l.length
  have h3 := forest_few h hl
  have h4 := List.length_filter_le (fun (k : Nat) => !decide (0 ≤ ownerD l (k : Int))) (kidsD d n)
  omega

def insL (d : Tn.Dc) (l : List Cl) (n : Nat) : List Nat := insideD d l (n : Int)
theorem ins_take (d : Tn.Dc) (l : List Cl) (sh : List Nat) (j : Nat) (h : j < sh.length) : (sh.take (j + 1)).flatMap (insL d l) = (sh.take j).flatMap (insL d l) ++ insL d l sh[j] := by
  rw [List.take_succ_eq_append_getElem h, List.flatMap_append]
  simp

set_option maxHeartbeats 6400000 in
set_option maxRecDepth 100000 in
theorem oforest_walk {w : World} {vl : Value} {l : List Tn.Chg} (hl : ChgsAt w vl l) (hsz : ∀ x ∈ l, x.value.size ≤ 4194304 ∧ x.name.size ≤ 4194304) :
    Calls Try.prog 3 #[vl] w fun e w' => e = .returned (.bool true) ∧ Below w.heap.size w w' := by
  have hA := l6alive_any (w := w)
  have QB : Hid (∀ W, Below w.heap.size w W → Calls Try.prog 6 #[vl] W fun e w' => ∃ g c rs, e = .returned (.slice (some ⟨g, 0, none⟩) rs.length c) ∧ DocAt w' g 0 c rs (Tn.build l) ∧ Below W.heap.size W w') := fun W hW => rbuild_good (hl.keeps (keeps_below hW (Nat.le_refl _))) hsz
  have C : Hid (∀ w1 g c rs, DocAt w1 g 0 c rs (Tn.build l) → Dx w1 g 0 c rs (Tn.build l)) := fun w1 g c rs h => dx_build h hsz
  have hF := build_fine l
  obtain ⟨p, cp, rfl, _, _, _⟩ := hl.at
  clear hl hsz
  generalize Tn.build l = d at *
  have hFo := forest_claims hF
  have hcl := forest_few hF hFo
  have hsf := (sh_few hF).1
  have AR : Hid (∀ x ∈ shD d, atD d (claimsD d) d.length (x : Int) = 0) := fun x hx => at_root hF hFo hx
  have ON : Hid (∀ x ∈ shD d, ((shD d).flatMap (insL d (claimsD d))).count x = if x = 0 then 0 else 1) := fun x hx => inside_once hF hFo hx
  have IL : Hid (∀ (n : Nat), ∀ x ∈ insL d (claimsD d) n, x ≤ 1000) := fun n x hx => inside_le hF hFo hx
  have IF : Hid (∀ (n : Nat), (insL d (claimsD d) n).length ≤ 1060) := fun n => inside_few hF hFo (n : Int)
  have SL : Hid (∀ x ∈ shD d, x ≤ 1000) := fun x hx => by have h1 := Tn.lv_lt (sh_lv hF hx); have h2 := hF.good.len.2; omega
  have SC : Hid (∀ W g c rs, Dx W g 0 c rs d → Calls Try.prog 7 #[.slice (some ⟨g, 0, none⟩) rs.length c] W fun e w' => ∃ v, e = .returned v ∧ OwnC w' W.heap.size v (claimsD d) ∧ Below W.heap.size W w') := fun W g c rs h => vclaims_any h
  have SS : Hid (∀ W g c rs, Dx W g 0 c rs d → Calls Try.prog 8 #[.slice (some ⟨g, 0, none⟩) rs.length c, .int .i64 0] W fun e w' => ∃ v, e = .returned v ∧ OwnI w' W.heap.size v (shD d) ∧ Below W.heap.size W w') := fun W g c rs h => qshown_any hF Tn.fuel 0 W h.doc (fine_end hF) (by have : (shownF Tn.fuel d 0).length ≤ 60 := hsf; omega)
  have SU : Hid (∀ W g c rs v (x : Int), Dx W g 0 c rs d → ClsAt W v (claimsD d) → Calls Try.prog 9 #[.slice (some ⟨g, 0, none⟩) rs.length c, v, .int .i64 x] W fun e w' => e = .returned (.int .i64 (inD d (claimsD d) x)) ∧ Below W.heap.size W w') := fun W g c rs v x h hv => vup_any h.doc h.fine.okd hv x
  have SK : Hid (∀ W g c rs v (x : Nat), Dx W g 0 c rs d → ClsAt W v (claimsD d) → Calls Try.prog 10 #[.slice (some ⟨g, 0, none⟩) rs.length c, v, .int .i64 (x : Int)] W fun e w' => ∃ v, e = .returned v ∧ OwnI w' W.heap.size v (insL d (claimsD d) x) ∧ Below W.heap.size W w') := fun W g c rs v x h hv => vkids_any h.doc h.fine.okd hv (by omega) (x : Int)
  have DL : Hid (d.length ≤ 1000) := by have h2 := hF.good.len.2; show _ ≤ _; omega
  clear hFo hF hcl
  generalize shD d = sh at *
  generalize claimsD d = cl at *
  go_enter Try.func3, Try.ntmps3
  have hmm := @run_makeMap Try.prog
  go_upto_region 5 with (first
    | (go_at_call 5; refine hA.mono ?_; rintro e w1 ⟨rfl, hb1⟩)
    | (go_at_call 6; refine (QB.out _ hb1).mono ?_; rintro e w2 ⟨g, c, rs, rfl, hd2, hb2⟩; have B2 := hb1.trans (hb2.mono hb1.size); have C2 : Hid (Dx w2 g 0 c rs d) := C.out _ _ _ _ hd2; clear hd2; have J2 := SC.out _ _ _ _ C2.out)
    | (go_at_call 7; refine J2.mono ?_; clear J2; rintro e w3 ⟨v3, rfl, o3, hb3⟩))
  have L : Hid (rs.length = d.length) := C2.out.doc.len
  have B3 := B2.trans (hb3.mono B2.size)
  have C3 : Hid (Dx w3 g 0 c rs d) := C2.out.below hb3
  have L3 : Hid (ClsAt w3 v3 cl) := cls_of_owns o3
  have A4 := (Below.refl w3.heap.size w3).alloc (Nat.le_refl _) (.map #[] 0)
  have K4 := ct_made w3
  have z4 : (w3.alloc (.map #[] 0)).heap.size = w3.heap.size + 1 := by simp
  have J4 := SS.out _ _ _ _ (C3.out.below A4)
  go_upto_region 6 with fail
  generalize w3.alloc (.map #[] 0) = w4 at *
  generalize hM : w3.heap.size = M at *
  go_upto_region 8 with (go_at_call 8; refine J4.mono ?_; clear J4; rintro e w5 ⟨v5, rfl, o5, hb5⟩; have o5s := o5; obtain ⟨ps, cs, rfl⟩ := o5s.shape)
  have K5 := K4.below hb5
  rw [z4] at o5 hb5
  have hM5 : M + 1 ≤ w5.heap.size := by have := hb5.size; omega
  have A5 : Below M w3 w5 := A4.trans (hb5.mono (by omega))
  have B3s : w.heap.size ≤ M := by have := B3.size; omega
  have ST : Hid (∀ W, But w5.heap.size M w5 W → Dx W g 0 c rs d ∧ ClsAt W v3 cl ∧ OwnI W (M + 1) (.slice ps sh.length cs) sh ∧ Below w.heap.size w W) := fun W hbt => by
    have h1 : Below M w3 W := A5.trans (hbt.below (by omega) (Nat.le_refl _))
    have h2 := keeps_below h1 (by omega)
    exact ⟨C3.out.keeps h2, L3.out.keeps h2, hbt.owns (Nat.le_refl _) o5 (by omega), B3.trans (h1.mono B3s)⟩
  have k1 : sh.length ≤ cs ∧ cs ≤ 9223372036854775807 := by
    obtain ⟨_, _, he, h1, h2, _, _⟩ := (ints_of_owns o5).at
    cases he
    exact ⟨h1, h2⟩
  obtain ⟨k1, k2⟩ := k1
  have hrl : rs.length ≤ 1000 := by rw [L.out]; exact DL.out
  clear A4 A5 K4 z4 hb5 hb3 o3 hb1 hb2 B2 C2 QB C SC SS hA o5s B3 C3 L3 B3s hmm o5
  have Z5 : Hid (M + 1 ≤ w5.heap.size) := hM5
  go_loopw [25] (fun i wr => ∃ j : Nat, j ≤ sh.length ∧ i = .int .i64 j ∧ CtAt wr M ((sh.take j).flatMap (insL d cl)) ∧ But w5.heap.size M w5 wr) (fun i _ => sh.length - (intOf i).toNat)
  case atStart => exact ⟨0, Nat.zero_le _, rfl, by simpa using K5, But.refl _ _ _⟩
  case round =>
    obtain ⟨j, hj, rfl, KR, BT⟩ := hrel
    obtain ⟨DR, CR, OR, BR⟩ := ST.out wr BT
    by_cases hlt : j < sh.length
    · obtain ⟨_, _, he, _, _, _, hat⟩ := (ints_of_owns OR).at
      cases he
      obtain ⟨b1, o1, e1, hc1⟩ := hat j hlt
      have hmem := List.getElem_mem hlt
      have A1 := AR.out sh[j] hmem
      have SLj := SL.out sh[j] hmem
      have IT : Hid ((sh.take (j + 1)).flatMap (insL d cl) = (sh.take j).flatMap (insL d cl) ++ insL d cl sh[j]) := ins_take d cl sh j hlt
      have ILj : Hid (∀ x ∈ insL d cl sh[j], x ≤ 1000) := IL.out sh[j]
      have IFj := IF.out sh[j]
      have FLL : Hid (((sh.take j).flatMap (insL d cl)).length ≤ 60 * 1060) := by
        have h1 := flat_le (insL d cl) 1060 IF.out (sh.take j)
        have h2 : (sh.take j).length ≤ 60 := by rw [List.length_take]; omega
        have h3 := Nat.mul_le_mul_right 1060 h2
        exact Nat.le_trans h1 h3
      have UP : Hid (∀ W (x : Int), Below wr.heap.size wr W → Calls Try.prog 9 #[.slice (some ⟨g, 0, none⟩) rs.length c, v3, .int .i64 x] W fun e w' => e = .returned (.int .i64 (inD d cl x)) ∧ Below W.heap.size W w') := fun W x hb => SU.out W g c rs v3 x (DR.below hb) (CR.keeps (keeps_below hb (Nat.le_refl _)))
      have KD : Hid (∀ W (x : Nat), Below wr.heap.size wr W → Calls Try.prog 10 #[.slice (some ⟨g, 0, none⟩) rs.length c, v3, .int .i64 (x : Int)] W fun e w' => ∃ v, e = .returned v ∧ OwnI w' W.heap.size v (insL d cl x) ∧ Below W.heap.size W w') := fun W x hb => SK.out W g c rs v3 x (DR.below hb) (CR.keeps (keeps_below hb (Nat.le_refl _)))
      have KDn := fun W hb => KD.out W sh[j] hb
      clear hat OR DR CR hmem
      subst e1
      generalize insL d cl sh[j] = kl at *
      generalize (sh.take j).flatMap (insL d cl) = acc at *
      generalize sh[j] = n at *
      rw [← L.out] at A1
      have A2 : Hid (atD d cl rs.length (n : Int) = 0) := A1
      clear A1
      go_upto_region 12 with fail
      go_loopw [9, 32] (fun av i wq => ∃ (q : Nat) (a : Int), q ≤ rs.length ∧ i = .int .i64 q ∧ av = .int .i64 a ∧ Hid (atD d cl (rs.length - q) a = 0) ∧ Below wr.heap.size wr wq) (fun _ i _ => rs.length - (intOf i).toNat)
      case atStart => exact ⟨0, (n : Int), Nat.zero_le _, rfl, rfl, A2, Below.refl _ _⟩
      case round =>
        obtain ⟨q, a, hq, rfl, rfl, R, hbq⟩ := hrel
        by_cases hql : q < rs.length
        · have em : rs.length - q = (rs.length - (q + 1)) + 1 := by omega
          have R1 := R.out
          rw [em, atD] at R1
          by_cases ha : a = 0
          · subst ha
            have R2 : Hid (atD d cl (rs.length - (q + 1)) 0 = 0) := by rw [if_neg (by simp)] at R1; exact R1
            clear R R1 em
            go_wp2_with fail
            go_roundw
            case rel => exact ⟨q + 1, 0, by omega, by go_num, rfl, R2, hbq⟩
            case measure => simp [intOf]; omega
          · have R2 : Hid (atD d cl (rs.length - (q + 1)) (inD d cl a) = 0) := by rw [if_pos ha] at R1; exact R1
            have hne : (a != 0) = true := by simpa using ha
            have hU := UP.out wr a hbq
            clear R R1 em ha
            generalize inD d cl a = a2 at *
            go_wp2_with (go_at_call 9; refine hU.mono ?_; rintro e w7 ⟨rfl, hb7⟩)
            go_roundw
            case rel => exact ⟨q + 1, a2, by omega, by go_num, rfl, R2, hbq.trans (hb7.mono hbq.size)⟩
            case measure => simp [intOf]; omega
        · obtain rfl : q = rs.length := by omega
          have ha : a = 0 := by have := R.out; rw [Nat.sub_self] at this; exact this
          subst ha
          have hKn := KDn wr hbq
          have KQ := KR.below hbq
          have hlM := KQ.lt
          have hz5 : w5.heap.size ≤ wr.heap.size := Nat.le_trans BT.size hbq.size
          have BTq : But w5.heap.size M w5 wr := BT.trans (But.of hbq BT.size)
          clear R KDn KD UP hc1 A2 hbq
          go_upto_region 19 with (go_at_call 10; refine hKn.mono ?_; rintro e w7 ⟨v7, rfl, o7, hb7⟩; have o7s := o7; obtain ⟨p7, c7, rfl⟩ := o7s.shape)
          have K7 := KQ.below hb7
          have BT7 : But w5.heap.size M w5 w7 := BTq.trans (But.of hb7 hz5)
          have kk : kl.length ≤ c7 ∧ c7 ≤ 9223372036854775807 := by
            obtain ⟨_, _, he, h1, h2, _, _⟩ := (ints_of_owns o7).at
            cases he
            exact ⟨h1, h2⟩
          obtain ⟨kk1, kk2⟩ := kk
          have hz7 : w5.heap.size ≤ w7.heap.size := BT7.size
          have O7 : Hid (∀ W, But w7.heap.size M w7 W → OwnI W wr.heap.size (.slice p7 kl.length c7) kl) := fun W hbt => hbt.owns (Nat.le_refl _) o7 hlM
          clear hKn KQ BTq o7 o7s hb7 hz5 hlM BT KR BR
          go_loopw [48] (fun i wq => ∃ q : Nat, q ≤ kl.length ∧ i = .int .i64 q ∧ CtAt wq M (acc ++ kl.take q) ∧ But w7.heap.size M w7 wq) (fun i _ => kl.length - (intOf i).toNat)
          case atStart => exact ⟨0, Nat.zero_le _, rfl, by simpa using K7, But.refl _ _ _⟩
          case round =>
            obtain ⟨q, hq, rfl, KQ, BQ⟩ := hrel
            by_cases hql : q < kl.length
            · obtain ⟨_, _, he, _, _, _, hat⟩ := (ints_of_owns (O7.out wr BQ)).at
              cases he
              obtain ⟨b3, o3, e3, hc3⟩ := hat q hql
              have hx := ILj.out kl[q] (List.getElem_mem hql)
              have IQ : Hid (acc ++ kl.take (q + 1) = (acc ++ kl.take q) ++ [kl[q]]) := by show _ = _; rw [List.take_succ_eq_append_getElem hql, List.append_assoc]
              have hal : (acc ++ kl.take q).length ≤ 100000 := by
                have h1 := FLL.out
                rw [List.length_append, List.length_take]
                omega
              clear hat
              generalize kl[q] = x at *
              generalize acc ++ kl.take q = ac at *
              have hlk := KQ.look x hx
              have hcn : List.count x ac ≤ 100000 := Nat.le_trans List.count_le_length hal
              subst e3
              go_wp2_with (at_mapUpdate; refine ct_put rfl _ _ _ rfl M ac x hx hal rfl KQ rfl rfl ?_; intro w8 K8 g8)
              go_roundw
              case rel => exact ⟨q + 1, by omega, by go_num, by rw [IQ.out]; exact K8, BQ.grow g8 BQ.size⟩
              case measure => simp [intOf]; omega
            · obtain rfl : q = kl.length := by omega
              rw [List.take_length] at KQ
              go_wp2_with fail
              go_roundw
              case rel => exact ⟨j + 1, by omega, by go_num, by rw [IT.out]; exact KQ, BT7.trans (BQ.mono hz7)⟩
              case measure => simp [intOf]; omega
    · obtain rfl : j = sh.length := by omega
      rw [List.take_length] at KR
      have NC : Hid (∀ x ∈ sh, (Instr.lookup 29 (.map (some M)) (.int .i64 (x : Int)) false).run Try.prog wr = .ok (.int .i64 (if x = 0 then 0 else 1)) wr) := fun x hx => by
        have h1 := KR.look x (SL.out x hx)
        rw [ON.out x hx] at h1
        rw [h1]
        split <;> rfl
      obtain ⟨_, _, he, _, _, _, hat⟩ := (ints_of_owns OR).at
      cases he
      have T : Hid (∀ j (hj : j < sh.length), ∃ b o, ps = some ⟨b, o, none⟩ ∧ wr.cell? ⟨b, o + j, none⟩ = some (.int .i64 (sh[j] : Int))) := hat
      clear hat OR DR CR KR BT
      go_upto_region 25 with fail
      go_loopw [60] (fun i wq => ∃ q : Nat, q ≤ sh.length ∧ i = .int .i64 q ∧ wq = wr) (fun i _ => sh.length - (intOf i).toNat)
      case atStart => exact ⟨0, Nat.zero_le _, rfl, rfl⟩
      case round =>
        obtain ⟨q, hq, rfl, hww⟩ := hrel
        subst hww
        by_cases hql : q < sh.length
        · obtain ⟨b3, o3, rfl, hc3⟩ := T.out q hql
          have hlk := NC.out sh[q] (List.getElem_mem hql)
          generalize sh[q] = x at *
          by_cases h0 : x = 0
          · subst h0
            rw [if_pos rfl] at hlk
            have hlk0 : (Instr.lookup 29 (.map (some M)) (.int .i64 0) false).run Try.prog wr = .ok (.int .i64 0) wr := hlk
            go_wp2_with fail
            go_roundw
            case rel => exact ⟨q + 1, by omega, by go_num, by first | rfl | trivial⟩
            case measure => simp [intOf]; omega
          · rw [if_neg h0] at hlk
            have hx1 : ((x : Int) != 0) = true := by simpa using h0
            have hx2 : ((x : Int) == 0) = false := by simpa using h0
            go_wp2_with fail
            go_roundw
            case rel => exact ⟨q + 1, by omega, by go_num, by first | rfl | trivial⟩
            case measure => simp [intOf]; omega
        · obtain rfl : q = sh.length := by omega
          go_wp2_with fail
          go_ret
          exact ⟨rfl, BR⟩
end Go.Proofs.Ytdjghddcpfikhad

/-
  THE WALKS of the reference's Blank and Tokens.
-/
namespace Go.Proofs.Ytdjghddcpfikhad.Wd
open Go.RowKit

set_option maxHeartbeats 400000 in
theorem rblank_any (c : UInt8) (w : World) : Calls Try.prog 30 #[.int .u8 (c.toNat : Int)] w fun e w' => e = .returned (.bool (Tx.blank c)) ∧ w' = w := by
  have e : Tx.blank c = ((c.toNat : Int) == 32 || (c.toNat : Int) == 9 || (c.toNat : Int) == 10 || (c.toNat : Int) == 13) := by
    unfold Tx.blank
    rw [Bool.eq_iff_iff]
    simp [← UInt8.toNat_inj]
    omega
  go_enter Try.func30, Try.ntmps30
  go_wp2
  all_goals (go_ret; exact ⟨by rw [e]; simp [*], rfl⟩)

theorem cur_no (s : ByteArray) (k : Nat) (h : k < s.size) (hb : Tx.blank s[k] = false) : Tx.bs (curAt s k) ++ s.extract k (k + 1) = Tx.bs (curAt s (k + 1)) := by
  have e : curAt s (k + 1) = curAt s k ++ [s[k]] := by
    unfold curAt
    rw [take_snoc s k h, Tx.scan_snoc]
    unfold Tx.step
    rw [if_neg (by simp [hb])]
  rw [e, Lib.extract_eq]
  have e2 : (s.data.toList.drop k).take (k + 1 - k) = [s[k]] := by
    rw [Nat.add_sub_cancel_left, ← List.getElem_cons_drop (by rw [← Lib.size_eq]; exact h)]
    rfl
  rw [e2]
  unfold Tx.bs
  apply ByteArray.ext
  rw [ByteArray.data_append]
  simp
theorem cur_yes (s : ByteArray) (k : Nat) (h : k < s.size) (hb : Tx.blank s[k] = true) : curAt s (k + 1) = [] := by
  unfold curAt
  rw [take_snoc s k h, Tx.scan_snoc]
  unfold Tx.step
  rw [if_pos hb]
theorem bs_size (l : List UInt8) : (Tx.bs l).size = l.length := rfl
theorem bs_toList (l : List UInt8) : (Tx.bs l).toList = l := by
  rw [Lib.toList_data]
  rfl
theorem cur_empty (s : ByteArray) (k : Nat) (hk : k ≤ s.size) (hs : ¬ startAt s k < k) : (Tx.bs (curAt s k)).toList.isEmpty = true := by
  have hl := cur_len s k hk
  rw [bs_toList]
  cases hc : curAt s k with
  | nil => rfl
  | cons x r => unfold startAt at hs; rw [hc] at hs hl; simp at hs hl; omega
theorem cur_some (s : ByteArray) (k : Nat) (hs : startAt s k < k) : (Tx.bs (curAt s k)).toList.isEmpty = false := by
  rw [bs_toList]
  cases hc : curAt s k with
  | nil => unfold startAt at hs; rw [hc] at hs; simp at hs
  | cons x r => rfl

set_option maxHeartbeats 800000 in
set_option maxRecDepth 100000 in
theorem rtokens_own (s : ByteArray) (w : World) (hs : s.size ≤ 4194304) : Calls Try.prog 12 #[.string s] w fun e w' =>
    ∃ v, e = .returned v ∧ w'.ownsRow w.heap.size 9 1 v (toksOf s).length ((toksOf s).map tv) ∧ Below w.heap.size w w' ∧ (toksOf s = [] → v = .slice none 0 0) := by
  obtain ⟨i0, hi, hz0, hz1, hz2⟩ := info_parts info9
  go_enter Try.func12, Try.ntmps12
  go_wp2
  go_loopw [3, 4, 8] (fun v st i wr => ∃ k : Nat, k ≤ s.size ∧ i = .int .i64 k ∧ st = .string (Tx.bs (curAt s k)) ∧ wr.ownsRow w.heap.size 9 1 v (doneAt s k).length ((doneAt s k).map tv) ∧
      Below w.heap.size w wr ∧ (doneAt s k = [] → v = .slice none 0 0))
    (fun _ _ i _ => s.size - (intOf i).toNat)
  case atStart => exact ⟨0, Nat.zero_le _, rfl, rfl, World.ownsRow_nil _ _ _ _, Below.refl _ _, fun _ => rfl⟩
  case round =>
    obtain ⟨k, hk, rfl, rfl, hown, hnx, hnil⟩ := hrel
    have hdl := done_len s k hk
    have hbz := hnx.size
    have hcl : (Tx.bs (curAt s k)).size ≤ k := cur_len s k hk
    by_cases hlt : k < s.size
    · cases hb : Tx.blank s[k] with
      | false =>
        have E : Hid (doneAt s (k + 1) = doneAt s k ∧ Tx.bs (curAt s k) ++ s.extract k (k + 1) = Tx.bs (curAt s (k + 1))) := ⟨(step_no s k hlt hb).1, cur_no s k hlt hb⟩
        go_wp2_with (go_at_call 30; refine (rblank_any _ _).mono ?_; rintro e w' ⟨rfl, hww⟩; subst hww)
        go_roundw
        case rel => exact ⟨k + 1, by omega, by go_num, by rw [E.out.2], by rw [E.out.1]; exact hown, hnx, by rw [E.out.1]; exact hnil⟩
        case measure => simp [intOf]; omega
      | true =>
        by_cases hsk : startAt s k < k
        · have E : Hid (doneAt s (k + 1) = doneAt s k ++ [curAt s k] ∧ curAt s (k + 1) = []) := ⟨(step_yes s k hlt hb hsk).1, cur_yes s k hlt hb⟩
          have hem := cur_some s k hsk
          clear hsk
          go_wp2_with (first
            | (go_at_call 30; refine (rblank_any _ _).mono ?_; rintro e w' ⟨rfl, hww⟩; subst hww)
            | (at_builtin; refine wpList_append_own _ rfl _ _ 40 rfl w.heap.size 9 i0 (.string ⟨#[]⟩) 1 16 Try.underlying40 hi hz0 hz1 hz2 rfl (by decide) _ _ _ rfl (hown.alloc _) ⟨_, 0, none⟩ 1 1 [.string (Tx.bs (curAt s k))] rfl rfl ?c1 ?c2 ?c3 ?c4 ?c5 ?_))
          case c1 => exact cell_one_new _ _ _
          case c2 => intro u hu; simp at hu; subst hu; rfl
          case c3 => unfold maxLen; omega
          case c4 => omega
          case c5 => simp; omega
          intro v' w1 hown' hgrow _
          have R := rel_app hbz hown hnx hown' hgrow
          clear hown' hgrow hown hnx
          go_wp2
          go_roundw
          case rel => exact ⟨k + 1, by omega, by go_num, by rw [E.out.2]; rfl, by rw [E.out.1]; exact R.1, R.2, fun h => absurd h (by rw [E.out.1]; simp)⟩
          case measure => simp [intOf]; omega
        · have E : Hid (doneAt s (k + 1) = doneAt s k ∧ curAt s (k + 1) = []) := ⟨(step_idle s k hlt hb hsk).1, cur_yes s k hlt hb⟩
          have hem := cur_empty s k hk hsk
          clear hsk
          go_wp2_with (go_at_call 30; refine (rblank_any _ _).mono ?_; rintro e w' ⟨rfl, hww⟩; subst hww)
          go_roundw
          case rel => exact ⟨k + 1, by omega, by go_num, by rw [E.out.2]; rfl, by rw [E.out.1]; exact hown, hnx, by rw [E.out.1]; exact hnil⟩
          case measure => simp [intOf]; omega
    · obtain rfl : k = s.size := by omega
      by_cases hsk : startAt s s.size < s.size
      · have E : Hid (toksOf s = doneAt s s.size ++ [curAt s s.size]) := end_more s hsk
        have hem := cur_some s s.size hsk
        clear hsk
        go_wp2_with (at_builtin; refine wpList_append_own _ rfl _ _ 40 rfl w.heap.size 9 i0 (.string ⟨#[]⟩) 1 16 Try.underlying40 hi hz0 hz1 hz2 rfl (by decide) _ _ _ rfl (hown.alloc _) ⟨_, 0, none⟩ 1 1 [.string (Tx.bs (curAt s s.size))] rfl rfl ?d1 ?d2 ?d3 ?d4 ?d5 ?_)
        case d1 => exact cell_one_new _ _ _
        case d2 => intro u hu; simp at hu; subst hu; rfl
        case d3 => unfold maxLen; omega
        case d4 => omega
        case d5 => simp; omega
        intro v' w1 hown' hgrow _
        have R := rel_app hbz hown hnx hown' hgrow
        clear hown' hgrow hown hnx
        go_wp2
        go_ret
        exact ⟨_, rfl, by rw [E.out]; exact R.1, R.2, fun h => absurd h (by rw [E.out]; simp)⟩
      · have E : Hid (toksOf s = doneAt s s.size) := end_none s hsk
        have hem := cur_empty s s.size hk hsk
        clear hsk
        go_wp2
        go_ret
        exact ⟨_, rfl, by rw [E.out]; exact hown, hnx, by rw [E.out]; exact hnil⟩

end Go.Proofs.Ytdjghddcpfikhad.Wd

/-
  THE WALK of tnlaw6's ahead.
-/
namespace Go.Proofs.Ytdjghddcpfikhad
open Go.RowKit

theorem nat_ne {l : List Nat} {n j : Nat} (hj : j < l.length) (he : l[j] ≠ n) (hn : ∀ y ∈ l.take j, y ≠ n) : ∀ y ∈ l.take (j + 1), y ≠ n := by
  intro c hc
  rw [List.take_succ_eq_append_getElem hj, List.mem_append, List.mem_singleton] at hc
  rcases hc with hc | rfl
  · exact hn c hc
  · exact he
theorem tok_ne {l : List (List UInt8)} {n : List UInt8} {j : Nat} (hj : j < l.length) (he : l[j] ≠ n) (hn : ∀ y ∈ l.take j, y ≠ n) : ∀ y ∈ l.take (j + 1), y ≠ n := by
  intro c hc
  rw [List.take_succ_eq_append_getElem hj, List.mem_append, List.mem_singleton] at hc
  rcases hc with hc | rfl
  · exact hn c hc
  · exact he
theorem flat_succ {α β : Type} (f : α → List β) (l : List α) (j : Nat) (h : j < l.length) : (l.take (j + 1)).flatMap f = (l.take j).flatMap f ++ f l[j] := by
  rw [List.take_succ_eq_append_getElem h, List.flatMap_append]
  simp

theorem below_drewQ (C : Nat) (w : World) (n : Nat) : Below C w (w.drewN n) := ⟨rfl, rfl, rfl, Nat.le_refl _, fun _ _ => rfl⟩
theorem bs_eq (a b : List UInt8) : ((Tx.bs a).toList == (Tx.bs b).toList) = decide (a = b) := by
  rw [Wd.bs_toList, Wd.bs_toList, Bool.eq_iff_iff]
  simp

def byT (d : Tn.Dc) (c : List Cl) (n : Nat) (t : List UInt8) : List Cl := byOK c n (askT d n t)
theorem ahead_byT (d : Tn.Dc) (sh : List Nat) (c : List Cl) (n : Nat) (t : List UInt8) : aheadW d sh c n t = (sh.take (sh.idxOf n)).flatMap (byO c) ++ ((Wd.toksOf (valN d (n : Int) ⟨#[97, 114, 105, 97, 45, 111, 119, 110, 115]⟩)).take ((Wd.toksOf (valN d (n : Int) ⟨#[97, 114, 105, 97, 45, 111, 119, 110, 115]⟩)).idxOf t)).flatMap (byT d c n) := by
  unfold aheadW
  rw [List.flatMap_map]
  rfl

set_option maxHeartbeats 6400000 in
set_option maxRecDepth 100000 in
theorem ahead_any {w : World} {b o c : Nat} {rs : List Raw} {d : Tn.Dc} (h : Dx w b o c rs d) {vs : Value} {sh : List Nat} (hs : IntsAt w vs sh) (hsl : sh.length ≤ 60) {vc : Value} {cl : List Cl} (hc : ClsAt w vc cl) (hcl : cl.length ≤ 60) (n : Nat) (t : List UInt8) :
    Calls Try.prog 15 #[.slice (some ⟨b, o, none⟩) rs.length c, vs, vc, .int .i64 (n : Int), .string (Tx.bs t)] w fun e w' => ∃ v, e = .returned v ∧ OwnC w' w.heap.size v (aheadW d sh cl n t) ∧ Below w.heap.size w w' := by
  have E : Hid (aheadW d sh cl n t = (sh.take (sh.idxOf n)).flatMap (byO cl) ++ ((Wd.toksOf (valN d (n : Int) ⟨#[97, 114, 105, 97, 45, 111, 119, 110, 115]⟩)).take ((Wd.toksOf (valN d (n : Int) ⟨#[97, 114, 105, 97, 45, 111, 119, 110, 115]⟩)).idxOf t)).flatMap (byT d cl n)) := ahead_byT d sh cl n t
  have hz := val_size h.vn (n : Int) ⟨#[97, 114, 105, 97, 45, 111, 119, 110, 115]⟩
  have hA : Hid (∀ W, Below w.heap.size w W → Calls Try.prog 11 #[.slice (some ⟨b, o, none⟩) rs.length c, .int .i64 (n : Int), .string ⟨#[97, 114, 105, 97, 45, 111, 119, 110, 115]⟩] W fun e w' => e = .returned (.tuple #[.string (valN d (n : Int) ⟨#[97, 114, 105, 97, 45, 111, 119, 110, 115]⟩), .bool (attrN d (n : Int) ⟨#[97, 114, 105, 97, 45, 111, 119, 110, 115]⟩).isSome]) ∧ Below W.heap.size W w') := fun W hb => rattr_all (h.doc.keeps (keeps_below hb (Nat.le_refl _))) (n : Int) ⟨#[97, 114, 105, 97, 45, 111, 119, 110, 115]⟩
  have hT : Hid (∀ W, Calls Try.prog 12 #[.string (valN d (n : Int) ⟨#[97, 114, 105, 97, 45, 111, 119, 110, 115]⟩)] W fun e w' => ∃ v, e = .returned v ∧ w'.ownsRow W.heap.size 9 1 v (Wd.toksOf (valN d (n : Int) ⟨#[97, 114, 105, 97, 45, 111, 119, 110, 115]⟩)).length ((Wd.toksOf (valN d (n : Int) ⟨#[97, 114, 105, 97, 45, 111, 119, 110, 115]⟩)).map Wd.tv) ∧ Below W.heap.size W w') := fun W => (Wd.rtokens_own _ W hz).mono (by
    rintro e w' ⟨v, h1, h2, h3, _⟩
    exact ⟨v, h1, h2, h3⟩)
  have TZ : Hid ((Wd.toksOf (valN d (n : Int) ⟨#[97, 114, 105, 97, 45, 111, 119, 110, 115]⟩)).length ≤ 4194304) := by
    have h1 := Tx.toks_len (valN d (n : Int) ⟨#[97, 114, 105, 97, 45, 111, 119, 110, 115]⟩).data.toList
    have h2 := Lib.size_eq (valN d (n : Int) ⟨#[97, 114, 105, 97, 45, 111, 119, 110, 115]⟩)
    show (Tx.toks (valN d (n : Int) ⟨#[97, 114, 105, 97, 45, 111, 119, 110, 115]⟩).data.toList).length ≤ 4194304
    omega
  have HFi : Hid (∀ W tt, Below w.heap.size w W → Calls Try.prog 13 #[.slice (some ⟨b, o, none⟩) rs.length c, .int .i64 (n : Int), .string (Tx.bs tt)] W fun e w' => e = .returned (.int .i64 (askT d n tt)) ∧ Below W.heap.size W w') := fun W tt hb => rfind_any (h.doc.keeps (keeps_below hb (Nat.le_refl _))) h.fine (n : Int) (Tx.bs tt)
  clear h hz
  generalize Wd.toksOf (valN d (n : Int) ⟨#[97, 114, 105, 97, 45, 111, 119, 110, 115]⟩) = ts at *
  generalize valN d (n : Int) ⟨#[97, 114, 105, 97, 45, 111, 119, 110, 115]⟩ = sv at *
  generalize (attrN d (n : Int) ⟨#[97, 114, 105, 97, 45, 111, 119, 110, 115]⟩).isSome = sb at *
  generalize aheadW d sh cl n t = res at *
  obtain ⟨ps, cs, rfl, s1, s2, _, hats⟩ := hs.at
  obtain ⟨pc, cc, rfl, c1, c2, _, hatc⟩ := hc.at
  have TS : Hid (∀ j (hj : j < sh.length), ∃ b o, ps = some ⟨b, o, none⟩ ∧ w.cell? ⟨b, o + j, none⟩ = some (.int .i64 (sh[j] : Int))) := hats
  have TC : Hid (∀ j (hj : j < cl.length), ∃ b o, pc = some ⟨b, o, none⟩ ∧ w.cell? ⟨b, o + j * 2, none⟩ = some (.int .i64 (cl[j].1 : Int)) ∧ w.cell? ⟨b, o + j * 2 + 1, none⟩ = some (.int .i64 (cl[j].2 : Int))) := hatc
  clear hats hatc hs hc
  go_enter Try.func15, Try.ntmps15
  go_upto_region 3 with fail
  go_loopw [11, 24] (fun v i wr => ∃ j : Nat, j ≤ sh.length ∧ i = .int .i64 j ∧ Hid (∀ y ∈ sh.take j, y ≠ n) ∧ OwnC wr w.heap.size v ((sh.take j).flatMap (byO cl)) ∧ Below w.heap.size w wr) (fun _ i _ => sh.length - (intOf i).toNat)
  case atStart => exact ⟨0, Nat.zero_le _, rfl, fun y hy => by simp at hy, OwnC.nil _ _, Below.refl _ _⟩
  case round =>
    obtain ⟨j, hj, rfl, NO, hown, hnx⟩ := hrel
    have hbz := hnx.size
    have key : (∃ hlt : j < sh.length, sh[j] ≠ n) ∨ (∃ hlt : j < sh.length, sh[j] = n) ∨ j = sh.length := by
      by_cases hlt : j < sh.length
      · by_cases e : sh[j] = n
        · exact Or.inr (Or.inl ⟨hlt, e⟩)
        · exact Or.inl ⟨hlt, e⟩
      · exact Or.inr (Or.inr (by omega))
    rcases key with ⟨hlt, hne⟩ | ⟨hlt, heq⟩ | hjl
    case' inl =>
      obtain ⟨b1, o1, rfl, hc1⟩ := TS.out j hlt
      have y1 := keeps_below hnx (Nat.le_refl _) _ _ hc1
      have N2 : Hid (∀ y ∈ sh.take (j + 1), y ≠ n) := nat_ne hlt hne NO.out
      have FS : Hid ((sh.take (j + 1)).flatMap (byO cl) = (sh.take j).flatMap (byO cl) ++ byO cl sh[j]) := flat_succ _ _ _ hlt
      have hq : ((sh[j] : Int) == (n : Int)) = false := beq_eq_false_iff_ne.2 (by omega)
      have AL : Hid (((sh.take j).flatMap (byO cl)).length ≤ 3600) := by
        have h1 := flat_le (byO cl) 60 (fun a => Nat.le_trans (byO_le cl a) hcl) (sh.take j)
        have h2 : (sh.take j).length ≤ 60 := by rw [List.length_take]; omega
        have h3 := Nat.mul_le_mul_right 60 h2
        exact Nat.le_trans h1 h3
      clear hc1 NO hne
      generalize (sh.take j).flatMap (byO cl) = acc at *
      generalize sh[j] = m at *
      go_upto_region 7 with fail
      go_loopw [11, 33] (fun v i wq => ∃ q : Nat, q ≤ cl.length ∧ i = .int .i64 q ∧ OwnC wq w.heap.size v (acc ++ byO (cl.take q) m) ∧ Below w.heap.size w wq) (fun _ i _ => cl.length - (intOf i).toNat)
      case atStart => exact ⟨0, Nat.zero_le _, rfl, by simpa [byO] using hown, hnx⟩
      case round =>
        obtain ⟨q, hq2, rfl, ownq, hnq⟩ := hrel
        have hbq := hnq.size
        by_cases hql : q < cl.length
        · obtain ⟨b3, o3, rfl, k1, k2⟩ := TC.out q hql
          have z1 := keeps_below hnq (Nat.le_refl _) _ _ k1
          have z2 := keeps_below hnq (Nat.le_refl _) _ _ k2
          have BS : Hid (byO (cl.take (q + 1)) m = byO (cl.take q) m ++ (if decide (cl[q].1 = m) then [cl[q]] else [])) := take_filter _ cl q hql
          have hlen : (acc ++ byO (cl.take q) m).length ≤ 1000000000 := by
            have h1 := AL.out
            have h2 := byO_le (cl.take q) m
            have h3 : (cl.take q).length ≤ 60 := by rw [List.length_take]; omega
            rw [List.length_append]
            omega
          clear k1 k2
          generalize cl[q] = x at *
          obtain ⟨x1, x2⟩ := x
          simp only at z1 z2 BS
          by_cases e : x1 = m
          · have B2 : Hid (acc ++ byO (cl.take (q + 1)) m = (acc ++ byO (cl.take q) m) ++ [(x1, x2)]) := by show _ = _; rw [BS.out, if_pos (by simpa using e), List.append_assoc]
            have hq3 : ((x1 : Int) == (m : Int)) = true := by simp [e]
            clear BS e
            go_wp2_with (at_builtin; refine append_claim2 (w0 := w) rfl _ _ rfl x1 x2 rfl (by simp [Act.eval]) (ownq.alloc _) (hnq.alloc hbq _) (by simp; omega) hlen ?_; intro v6 w6 o6 n6 _ _)
            go_roundw
            case rel => exact ⟨q + 1, by omega, by go_num, by rw [B2.out]; exact o6, n6⟩
            case measure => simp [intOf]; omega
          · have B2 : Hid (acc ++ byO (cl.take (q + 1)) m = acc ++ byO (cl.take q) m) := by show _ = _; rw [BS.out, if_neg (by simpa using e), List.append_nil]
            have hq3 : ((x1 : Int) == (m : Int)) = false := beq_eq_false_iff_ne.2 (by omega)
            clear BS e
            go_wp2_with fail
            go_roundw
            case rel => exact ⟨q + 1, by omega, by go_num, by rw [B2.out]; exact ownq.alloc _, hnq.alloc hbq _⟩
            case measure => simp [intOf]; omega
        · obtain rfl : q = cl.length := by omega
          rw [List.take_length] at ownq
          go_wp2_with fail
          go_roundw
          case rel => exact ⟨j + 1, by omega, by go_num, N2, by rw [FS.out]; exact ownq, hnq⟩
          case measure => simp [intOf]; omega
    case' inr.inl =>
      have A : Hid ((sh.take (sh.idxOf n)).flatMap (byO cl) = (sh.take j).flatMap (byO cl)) := by show _ = _; rw [idx_here hlt heq NO.out]
      obtain ⟨b1, o1, rfl, hc1⟩ := TS.out j hlt
      have y1 := keeps_below hnx (Nat.le_refl _) _ _ hc1
      rw [heq] at y1
      clear hc1 NO heq
      go_upto_region 13 with fail
    case' inr.inr =>
      subst hjl
      have A : Hid ((sh.take (sh.idxOf n)).flatMap (byO cl) = (sh.take sh.length).flatMap (byO cl)) := by show _ = _; rw [idx_off (fun y hy => NO.out y (by rw [List.take_length]; exact hy))]
      clear NO
      go_upto_region 13 with fail
    all_goals
      rw [← A.out] at hown
      have AL : Hid (((sh.take (sh.idxOf n)).flatMap (byO cl)).length ≤ 3600) := by
        have h1 := flat_le (byO cl) 60 (fun a => Nat.le_trans (byO_le cl a) hcl) (sh.take (sh.idxOf n))
        have h2 : (sh.take (sh.idxOf n)).length ≤ 60 := by rw [List.length_take]; omega
        have h3 := Nat.mul_le_mul_right 60 h2
        exact Nat.le_trans h1 h3
      clear A TS
      generalize (sh.take (sh.idxOf n)).flatMap (byO cl) = pre at *
      go_upto_region 15 with (first
        | (go_at_call 11; refine (hA.out _ hnx).mono ?_; rintro e w3 ⟨rfl, hb3⟩)
        | (go_at_call 12; refine (hT.out _).mono ?_; rintro e w4 ⟨v4, rfl, ho4, hb4⟩; obtain ⟨pt, ct, rfl, t1, t2, _⟩ := toks_at ho4))
      have B3 := hnx.trans (hb3.mono hnx.size)
      have B4 := B3.trans (hb4.mono B3.size)
      have O4 := (hown.below hb3 (Nat.le_refl _)).below hb4 (Nat.le_refl _)
      have hr0 : ∀ q, u11.ownBlock = some q → q < w3.heap.size := fun q e => Nat.lt_of_lt_of_le (World.ownsRow.lt hown q e).2 hb3.size
      have TT : Hid (∀ W vq, Mv w4.heap.size u11.ownBlock (Value.ownBlock vq) w4 W → W.ownsRow w3.heap.size 9 1 (.slice pt ts.length ct) ts.length (ts.map Wd.tv)) := fun W vq hm => hm.owns2 ho4 (Nat.le_refl _) hr0
      clear hA hT ho4 hb3 hb4 hown B3 hnx hbz hr0
      generalize hr0e : u11.ownBlock = r0 at *
      go_loopw [11, 56] (fun v i wq => ∃ p : Nat, p ≤ ts.length ∧ i = .int .i64 p ∧ Hid (∀ y ∈ ts.take p, y ≠ t) ∧ OwnC wq w.heap.size v (pre ++ (ts.take p).flatMap (byT d cl n)) ∧ Below w.heap.size w wq ∧ Mv w4.heap.size r0 v.ownBlock w4 wq) (fun _ i _ => ts.length - (intOf i).toNat)
      case atStart => exact ⟨0, Nat.zero_le _, rfl, fun y hy => by simp at hy, by simpa using O4, B4, by rw [hr0e]; exact Mv.refl _ _ _⟩
      case round =>
        obtain ⟨p, hp, rfl, NO, ownp, hnp, MP⟩ := hrel
        have hbp := hnp.size
        by_cases hpl : p < ts.length
        · obtain ⟨_, _, he, _, _, hat⟩ := toks_at (TT.out wr u11 MP)
          cases he
          obtain ⟨b3, o3, e3, hc3⟩ := hat p hpl
          have EQ := bs_eq ts[p] t
          clear hat
          by_cases e : ts[p] = t
          · have E2 : Hid (res = pre ++ (ts.take p).flatMap (byT d cl n)) := by show _ = _; rw [E.out, idx_here hpl e NO.out]
            rw [decide_eq_true e] at EQ
            clear e E NO
            generalize Tx.bs ts[p] = tb at *
            subst e3
            go_wp2_with fail
            go_ret
            exact ⟨_, rfl, by rw [E2.out]; exact ownp, hnp⟩
          · have N2 : Hid (∀ y ∈ ts.take (p + 1), y ≠ t) := tok_ne hpl e NO.out
            have FS : Hid (pre ++ (ts.take (p + 1)).flatMap (byT d cl n) = (pre ++ (ts.take p).flatMap (byT d cl n)) ++ byOK cl n (askT d n ts[p])) := by show _ = _; rw [flat_succ (byT d cl n) ts p hpl, List.append_assoc]; rfl
            have PL : Hid ((pre ++ (ts.take p).flatMap (byT d cl n)).length ≤ 3600 + 4194304 * 60) := by
              have h1 := flat_le (byT d cl n) 60 (fun a => Nat.le_trans (byOK_le cl n (askT d n a)) hcl) (ts.take p)
              have h2 : (ts.take p).length ≤ 4194304 := by rw [List.length_take]; have := TZ.out; omega
              have h3 := Nat.mul_le_mul_right 60 h2
              have h4 := AL.out
              show _ ≤ _
              rw [List.length_append]
              omega
            rw [decide_eq_false e] at EQ
            have hFi := fun W hb => HFi.out W ts[p] hb
            clear e E NO
            generalize askT d n ts[p] = k at *
            generalize pre ++ (ts.take p).flatMap (byT d cl n) = acc at *
            generalize Tx.bs ts[p] = tb at *
            subst e3
            go_upto_region 19 with fail
            go_loopw [11, 65] (fun v i wq => ∃ q : Nat, q ≤ cl.length ∧ i = .int .i64 q ∧ OwnC wq w.heap.size v (acc ++ byOK (cl.take q) n k) ∧ Below w.heap.size w wq ∧ Mv w4.heap.size r0 v.ownBlock w4 wq) (fun _ i _ => cl.length - (intOf i).toNat)
            case atStart => exact ⟨0, Nat.zero_le _, rfl, by simpa [byOK] using ownp, hnp, MP⟩
            case round =>
              obtain ⟨q, hq, rfl, ownq, hnq, MQ⟩ := hrel
              have hbq := hnq.size
              by_cases hql : q < cl.length
              · obtain ⟨b5, o5, e5, k1, k2⟩ := TC.out q hql
                have z1 := keeps_below hnq (Nat.le_refl _) _ _ k1
                have z2 := keeps_below hnq (Nat.le_refl _) _ _ k2
                have BS : Hid (byOK (cl.take (q + 1)) n k = byOK (cl.take q) n k ++ (if (decide (cl[q].1 = n) && decide ((cl[q].2 : Int) = k)) then [cl[q]] else [])) := take_filter _ cl q hql
                have hlen : (acc ++ byOK (cl.take q) n k).length ≤ 1000000000 := by
                  have h1 := PL.out
                  have h2 := byOK_le (cl.take q) n k
                  have h3 : (cl.take q).length ≤ 60 := by rw [List.length_take]; omega
                  rw [List.length_append]
                  omega
                clear k1 k2
                generalize cl[q] = x at *
                obtain ⟨x1, x2⟩ := x
                simp only at z1 z2 BS
                subst e5
                have BX := (Below.refl wr.heap.size wr).alloc (Nat.le_refl _) (.cells #[.int .i64 (x1 : Int), .int .i64 (x2 : Int)] 37)
                have g0 : (wr.alloc (.cells #[.int .i64 (x1 : Int), .int .i64 (x2 : Int)] 37)).cell? ⟨wr.heap.size, 0, none⟩ = some (.int .i64 (x1 : Int)) := by rw [World.cell?_alloc_new]; rfl
                have g1 : (wr.alloc (.cells #[.int .i64 (x1 : Int), .int .i64 (x2 : Int)] 37)).cell? ⟨wr.heap.size, 1, none⟩ = some (.int .i64 (x2 : Int)) := by rw [World.cell?_alloc_new]; rfl
                go_upto_region 21 with fail
                have ownb := ownq.below BX (Nat.le_refl _)
                have hnb := hnq.trans (BX.mono hbq)
                have MB := MQ.below BX
                clear ownq hnq MQ BX z1 z2
                generalize wr.alloc (.cells #[.int .i64 (x1 : Int), .int .i64 (x2 : Int)] 37) = wb at *
                generalize wr.heap.size = G2 at *
                by_cases e : x1 = n
                · subst e
                  have hFb : ∀ W, Below wb.heap.size wb W → Calls Try.prog 13 #[.slice (some ⟨b, o, none⟩) rs.length c, .int .i64 (x1 : Int), .string tb] W fun e w' => e = .returned (.int .i64 k) ∧ Below W.heap.size W w' := fun W hb => hFi W (hnb.trans (hb.mono hnb.size))
                  have SS : ∀ w'', Keeps wb w'' → (fun w'' : World => w''.cell? ⟨G2, 0, none⟩ = some (.int .i64 (x1 : Int)) ∧ w''.cell? ⟨G2, 1, none⟩ = some (.int .i64 (x2 : Int))) w'' := fun w'' hk => ⟨hk _ _ g0, hk _ _ g1⟩
                  go_region_held3 (fun w'' : World => w''.cell? ⟨G2, 0, none⟩ = some (.int .i64 (x1 : Int)) ∧ w''.cell? ⟨G2, 1, none⟩ = some (.int .i64 (x2 : Int)))
                    ((apply SS; first | exact Keeps.refl _ | assumption | exact keeps_drew (Keeps.refl _)))
                    (first
                      | (go_at_call 13; refine (hFb _ (Below.refl _ wb).drew).mono ?_; rintro e wa ⟨rfl, hba⟩; have Ja : Keeps wb wa := (keeps_drew (Keeps.refl wb)).trans (keeps_below hba (Nat.le_refl _))))
                  all_goals
                    have g0a := Ja _ _ g0
                    have g1a := Ja _ _ g1
                    have BA : Below wb.heap.size wb wa := (Below.refl _ wb).drew.trans hba
                    have owna := ownb.below BA (Nat.le_refl _)
                    have hna := hnb.trans (BA.mono hnb.size)
                    have MA := MB.below BA
                    have hza := hna.size
                    clear SS hFb g0 g1 ownb hnb MB BA hba Ja
                    by_cases e2 : (x2 : Int) = k
                    · have B2 : Hid (acc ++ byOK (cl.take (q + 1)) x1 k = (acc ++ byOK (cl.take q) x1 k) ++ [(x1, x2)]) := by show _ = _; rw [BS.out, if_pos (by simp [e2]), List.append_assoc]
                      have hq5 : ((x2 : Int) == k) = true := by simpa using e2
                      clear BS e2
                      go_wp2_with (at_builtin; refine append_claim2 (w0 := w) (v := u11) rfl _ _ rfl x1 x2 rfl (by simp [Act.eval]) owna hna hza hlen ?_; intro v6 w6 o6 n6 g6 b6)
                      go_roundw
                      case rel => exact ⟨q + 1, by omega, by go_num, by rw [B2.out]; exact o6, n6, MA.trans ⟨g6.os, g6.tape, g6.output, g6.size, fun i hi _ hr => g6.block i hi (fun e => hr e), b6⟩⟩
                      case measure => simp [intOf]; omega
                    · have B2 : Hid (acc ++ byOK (cl.take (q + 1)) x1 k = acc ++ byOK (cl.take q) x1 k) := by show _ = _; rw [BS.out, if_neg (by simp [e2]), List.append_nil]
                      have hq5 : ((x2 : Int) == k) = false := by simpa using e2
                      clear BS e2
                      go_wp2_with fail
                      go_roundw
                      case rel => exact ⟨q + 1, by omega, by go_num, by rw [B2.out]; exact owna, hna, MA⟩
                      case measure => simp [intOf]; omega
                · have hq3 : ((x1 : Int) == (n : Int)) = false := beq_eq_false_iff_ne.2 (by omega)
                  have B2 : Hid (acc ++ byOK (cl.take (q + 1)) n k = acc ++ byOK (cl.take q) n k) := by show _ = _; rw [BS.out, if_neg (by simp [e]), List.append_nil]
                  clear BS e
                  go_quiet (fail)
                  go_wp2_with fail
                  go_roundw
                  case rel => exact ⟨q + 1, by omega, by go_num, by rw [B2.out]; exact ownb.below (below_drewQ wb.heap.size wb nq) (Nat.le_refl _), hnb.trans (below_drewQ _ wb nq), MB.below (below_drewQ _ wb nq)⟩
                  case measure => simp [intOf]; omega
              · obtain rfl : q = cl.length := by omega
                rw [List.take_length] at ownq
                go_wp2_with fail
                go_roundw
                case rel => exact ⟨p + 1, by omega, by go_num, N2, by rw [FS.out]; exact ownq, hnq, MQ⟩
                case measure => simp [intOf]; omega
        · obtain rfl : p = ts.length := by omega
          have E2 : Hid (res = pre ++ (ts.take ts.length).flatMap (byT d cl n)) := by show _ = _; rw [E.out, idx_off (fun y hy => NO.out y (by rw [List.take_length]; exact hy))]
          go_wp2_with fail
          go_ret
          exact ⟨_, rfl, by rw [E2.out]; exact ownp, hnp⟩
end Go.Proofs.Ytdjghddcpfikhad

/-
  THE WALK of the reference's Has.
-/
namespace Go.Proofs.Ytdjghddcpfikhad
open Go.RowKit

theorem has_yes {l : List Nat} {k j : Nat} (hj : j < l.length) (he : l[j] = k) : l.contains k = true := by
  rw [List.contains_iff_mem, ← he]
  exact List.getElem_mem hj
theorem has_no {l : List Nat} {k : Nat} (hn : ∀ x ∈ l, x ≠ k) : l.contains k = false := by
  cases h : l.contains k with
  | false => rfl
  | true =>
    rw [List.contains_iff_mem] at h
    exact absurd rfl (hn k h)

set_option maxHeartbeats 1600000 in
theorem qhas_any {w : World} {vl : Value} {l : List Nat} (hl : IntsAt w vl l) (k : Nat) :
    Calls Try.prog 14 #[vl, .int .i64 (k : Int)] w fun e w' => e = .returned (.bool (l.contains k)) ∧ w' = w := by
  obtain ⟨q, cc, rfl, h1, h2, _, hat⟩ := hl.at
  have T : Hid (∀ j (hj : j < l.length), ∃ b o, q = some ⟨b, o, none⟩ ∧ w.cell? ⟨b, o + j, none⟩ = some (.int .i64 (l[j] : Int))) := hat
  clear hat hl
  go_enter Try.func14, Try.ntmps14
  go_wp2_with fail
  go_loopw [9] (fun i wr => ∃ j : Nat, j ≤ l.length ∧ i = .int .i64 j ∧ Hid (∀ x ∈ l.take j, x ≠ k) ∧ wr = w) (fun i _ => l.length - (intOf i).toNat)
  case atStart => exact ⟨0, Nat.zero_le _, rfl, fun k hk => by simp at hk, rfl⟩
  case round =>
    obtain ⟨j, hj, rfl, NO, hww⟩ := hrel
    subst hww
    by_cases hlt : j < l.length
    · obtain ⟨e1, o1, rfl, k1⟩ := T.out j hlt
      by_cases hh : l[j] = k
      · have E : Hid (l.contains k = true) := has_yes hlt hh
        rw [hh] at k1
        clear hh
        go_wp2_with fail
        go_ret
        exact ⟨by rw [E.out]; rfl, rfl⟩
      · have N2 : Hid (∀ x ∈ l.take (j + 1), x ≠ k) := by
          intro x hx
          rw [List.take_succ_eq_append_getElem hlt, List.mem_append, List.mem_singleton] at hx
          rcases hx with hx | rfl
          · exact NO.out x hx
          · exact hh
        have hq : ((l[j] : Int) == (k : Int)) = false := beq_eq_false_iff_ne.2 (by omega)
        clear hh
        generalize l[j] = x at *
        go_wp2_with fail
        go_roundw
        case rel => exact ⟨j + 1, by omega, by go_num, N2, by first | rfl | trivial⟩
        case measure => simp [intOf]; omega
    · obtain rfl : j = l.length := by omega
      have E : Hid (l.contains k = false) := has_no (fun x hx => NO.out x (by rw [List.take_length]; exact hx))
      go_wp2_with fail
      go_ret
      exact ⟨by rw [E.out]; rfl, rfl⟩
end Go.Proofs.Ytdjghddcpfikhad

/-
  A SET OF NODES, AS A MAP OF THE CALL's OWN: what was put in is there, nothing else is.
-/
namespace Go.Proofs.Ytdjghddcpfikhad
open Go.RowKit Go.Maps

/-- how a bool reads -/
def rb : Value → Option (DataW Unit × List MemPlace)
  | .bool x => some (.lit (.bool x), [])
  | _ => none

theorem keyI : Keyed Try.prog 3 := int_keyed Try.underlying3

/-- block b is a map in which just the nodes of acc are true -/
def HadAt (w : World) (b : Nat) (acc : List Nat) : Prop :=
  ∃ D, w.ownsMap Try.prog 3 rb b acc.length D ∧ IsMap D ∧ ∀ k : Nat, D.atKey (.int .i64 (k : Int)) (.lit (.bool false)) = .lit (.bool (acc.contains k))

theorem had_made (w : World) : HadAt (w.alloc (.map #[] 0)) w.heap.size [] := ⟨.map [], World.ownsMap_made w Try.prog 3 rb, isMap_empty, fun _ => rfl⟩

theorem HadAt.same {w w' : World} {b : Nat} {acc : List Nat} (h : HadAt w b acc) (hb : w'.heap[b]? = w.heap[b]?) : HadAt w' b acc := by
  obtain ⟨D, ⟨es, clock, h1, h2⟩, h3, h4⟩ := h
  exact ⟨D, ⟨es, clock, by rw [hb]; exact h1, h2⟩, h3, h4⟩
theorem HadAt.lt {w : World} {b : Nat} {acc : List Nat} (h : HadAt w b acc) : b < w.heap.size := by
  obtain ⟨D, h1, _⟩ := h
  exact h1.lt
theorem HadAt.below {w w' : World} {b : Nat} {acc : List Nat} (h : HadAt w b acc) (hb : Below w.heap.size w w') : HadAt w' b acc := h.same (hb.block b h.lt)

theorem HadAt.look {w : World} {b : Nat} {acc : List Nat} (h : HadAt w b acc) (k : Nat) (hk : k ≤ 1000) : (Instr.lookup 35 (.map (some b)) (.int .i64 (k : Int)) false).run Try.prog w = .ok (.bool (acc.contains k)) w := by
  obtain ⟨D, h1, _, h3⟩ := h
  obtain ⟨v, ps, hrun, hv⟩ := h1.lookup (t := 35) keyI Try.underlying35 (Try.zeroValue4 w) (zd := .lit (.bool false)) (zp := []) rfl (keyOf_int_mk Try.underlying3 (WalkArith.wf_i64 (n := (k : Int)) (by omega)))
  rw [h3 k] at hv
  rw [hrun]
  cases v with
  | bool x =>
    simp only [rb, Option.some.injEq, Prod.mk.injEq] at hv
    have : x = acc.contains k := by simpa using hv.1
    rw [this]
  | _ => cases hv

theorem had_put {w : World} {ops : Array Oper} {rest : List Oper} {o : Oper} {a : Act} {Q : Exit → Act → World → Prop}
    (hg : o.guard = none) (m x v : Operand) (hop : o.op = Op.mapUpdate 35 m x v) (b : Nat) (acc : List Nat) (k : Nat) (hk : k ≤ 1000) (ha : acc.length ≤ 1000)
    (hm : a.eval m = .map (some b)) (h : HadAt w b acc) (hx : a.eval x = .int .i64 (k : Int)) (hv : a.eval v = .bool true)
    (hK : ∀ w', HadAt w' b (acc ++ [k]) → w.grownBy w' (some b) → wpList Try.prog ops Q rest (a.put o.dst undef) w') : wpList Try.prog ops Q (o :: rest) a w := by
  obtain ⟨D, h1, h2, h3⟩ := h
  refine wpList_mapUpdate_own w hg m x v 35 hop 3 4 keyI Try.underlying35 rb b acc.length D hm h1 (by unfold maxLen; omega) _ _ (.int .i64 (k : Int)) hx hv (keyOf_int_mk Try.underlying3 (WalkArith.wf_i64 (by omega))) (.lit (.bool true)) [] rfl ?_
  intro w' g1 g2
  refine hK w' ⟨_, by simpa using g1, h2.put _ _, fun j => ?_⟩ g2
  by_cases e : j = k
  · subst e
    rw [atKey_put_same h2 (by trivial)]
    simp
  · rw [atKey_put_other (fun x => e (by injection x with _ x; omega)), h3 j]
    congr 2
    simp [e]
end Go.Proofs.Ytdjghddcpfikhad

/-
  THE WALKS of the reference's Has, and of tnlaw6's OwnsFirst.
-/
namespace Go.Proofs.Ytdjghddcpfikhad
open Go.RowKit

def kidsL (c : List Cl) : List Nat := c.map (·.2)
theorem kids_take (c : List Cl) (j : Nat) (h : j < c.length) : kidsL (c.take (j + 1)) = kidsL (c.take j) ++ [c[j].2] := by
  unfold kidsL
  rw [List.take_succ_eq_append_getElem h, List.map_append]
  rfl
theorem kids_off {c : List Cl} (hn : (c.map (·.2)).Nodup) (j : Nat) (h : j < c.length) : (kidsL (c.take j)).contains c[j].2 = false := by
  have e : c.map (·.2) = kidsL (c.take j) ++ (c.drop j).map (·.2) := by
    unfold kidsL
    rw [← List.map_append, List.take_append_drop]
  rw [e, List.nodup_append] at hn
  have hm : c[j].2 ∈ (c.drop j).map (·.2) := by
    rw [List.drop_eq_getElem_cons h, List.map_cons]
    exact List.mem_cons_self
  cases hc : (kidsL (c.take j)).contains c[j].2 with
  | false => rfl
  | true =>
    rw [List.contains_iff_mem] at hc
    exact absurd rfl (hn.2.2 _ hc _ hm)
theorem kids_none {c : List Cl} {k : Nat} (h : (kidsL c).contains k = false) : ∀ x ∈ c, x.2 ≠ k := by
  intro x hx e
  have : (kidsL c).contains k = true := by
    rw [List.contains_iff_mem]
    exact List.mem_map.mpr ⟨x, hx, e⟩
  rw [h] at this
  cases this

set_option maxHeartbeats 12800000 in
set_option maxRecDepth 100000 in
theorem ofirst_walk {w : World} {vl : Value} {l : List Tn.Chg} (hl : ChgsAt w vl l) (hsz : ∀ x ∈ l, x.value.size ≤ 4194304 ∧ x.name.size ≤ 4194304) :
    Calls Try.prog 4 #[vl] w fun e w' => e = .returned (.bool true) ∧ Below w.heap.size w w' := by
  have hA := l6alive_any (w := w)
  have QB : Hid (∀ W, Below w.heap.size w W → Calls Try.prog 6 #[vl] W fun e w' => ∃ g c rs, e = .returned (.slice (some ⟨g, 0, none⟩) rs.length c) ∧ DocAt w' g 0 c rs (Tn.build l) ∧ Below W.heap.size W w') := fun W hW => rbuild_good (hl.keeps (keeps_below hW (Nat.le_refl _))) hsz
  have C : Hid (∀ w1 g c rs, DocAt w1 g 0 c rs (Tn.build l) → Dx w1 g 0 c rs (Tn.build l)) := fun w1 g c rs h => dx_build h hsz
  have hF := build_fine l
  obtain ⟨p, cp, rfl, _, _, _⟩ := hl.at
  have VN : Hid (∀ j, Vn (Tn.nd (Tn.build l) j)) := build_vn hsz
  clear hl hsz
  generalize Tn.build l = d at *
  have hFo := forest_claims hF
  have hcl := forest_few hF hFo
  have hsf := (sh_few hF).1
  have SL : Hid (∀ x ∈ shD d, x ≤ 1000) := fun x hx => by have h1 := Tn.lv_lt (sh_lv hF hx); have h2 := hF.good.len.2; omega
  have CO : Hid (∀ x ∈ claimsD d, x.1 ≠ x.2 ∧ 0 < x.2 ∧ x.2 ≤ 1000) := fun x hx => ⟨owner_self hFo (show (x.1, x.2) ∈ _ from hx), (hFo.own x hx).2.2, SL.out _ (hFo.own x hx).2.1⟩
  have KO : Hid (∀ j (hj : j < (claimsD d).length), (kidsL ((claimsD d).take j)).contains (claimsD d)[j].2 = false) := fun j hj => kids_off hFo.nodup j hj
  have FI : Hid (∀ (i : Nat) (hi : i < (shD d).length) (q : Nat) (hq : q < (Wd.toksOf (valN d ((shD d)[i] : Int) ⟨#[97, 114, 105, 97, 45, 111, 119, 110, 115]⟩)).length) (k : Nat), askT d (shD d)[i] (Wd.toksOf (valN d ((shD d)[i] : Int) ⟨#[97, 114, 105, 97, 45, 111, 119, 110, 115]⟩))[q] = (k : Int) → 1 ≤ k → (shD d).contains k = true → (kidsL (claimsD d)).contains k = false →
      seenD d (aheadW d (shD d) (claimsD d) (shD d)[i] (Wd.toksOf (valN d ((shD d)[i] : Int) ⟨#[97, 114, 105, 97, 45, 111, 119, 110, 115]⟩))[q]) (k : Int) (d.length + 1) ((shD d)[i] : Int) = true) := fun i hi q hq k h1 h2 h3 h4 => first_law hF hi hq h1 h2 (by rw [List.contains_iff_mem] at h3; exact h3) (kids_none h4)
  have SC : Hid (∀ W g c rs, Dx W g 0 c rs d → Calls Try.prog 7 #[.slice (some ⟨g, 0, none⟩) rs.length c] W fun e w' => ∃ v, e = .returned v ∧ OwnC w' W.heap.size v (claimsD d) ∧ Below W.heap.size W w') := fun W g c rs h => vclaims_any h
  have SS : Hid (∀ W g c rs, Dx W g 0 c rs d → Calls Try.prog 8 #[.slice (some ⟨g, 0, none⟩) rs.length c, .int .i64 0] W fun e w' => ∃ v, e = .returned v ∧ OwnI w' W.heap.size v (shD d) ∧ Below W.heap.size W w') := fun W g c rs h => qshown_any hF Tn.fuel 0 W h.doc (fine_end hF) (by have : (shownF Tn.fuel d 0).length ≤ 60 := hsf; omega)
  have DL : Hid (d.length ≤ 1000) := by have h2 := hF.good.len.2; show _ ≤ _; omega
  clear hFo hF
  generalize shD d = sh at *
  generalize claimsD d = cl at *
  go_enter Try.func4, Try.ntmps4
  have hmm := @run_makeMap Try.prog
  go_upto_region 5 with (first
    | (go_at_call 5; refine hA.mono ?_; rintro e w1 ⟨rfl, hb1⟩)
    | (go_at_call 6; refine (QB.out _ hb1).mono ?_; rintro e w2 ⟨g, c, rs, rfl, hd2, hb2⟩; have B2 := hb1.trans (hb2.mono hb1.size); have C2 : Hid (Dx w2 g 0 c rs d) := C.out _ _ _ _ hd2; clear hd2; have J2 := SC.out _ _ _ _ C2.out)
    | (go_at_call 7; refine J2.mono ?_; clear J2; rintro e w3 ⟨v3, rfl, o3, hb3⟩; have o3s := o3; obtain ⟨pc, cc, rfl⟩ := o3s.shape))
  have L : Hid (rs.length = d.length) := C2.out.doc.len
  have hrl : rs.length ≤ 1000 := by rw [L.out]; exact DL.out
  have B3 := B2.trans (hb3.mono B2.size)
  have C3 : Hid (Dx w3 g 0 c rs d) := C2.out.below hb3
  have L3 : Hid (ClsAt w3 (.slice pc cl.length cc) cl) := cls_of_owns o3
  have kk : cl.length ≤ cc ∧ cc ≤ 9223372036854775807 := by
    obtain ⟨_, _, he, h1, h2, _, _⟩ := L3.out.at
    cases he
    exact ⟨h1, h2⟩
  obtain ⟨kk1, kk2⟩ := kk
  have A4 := (Below.refl w3.heap.size w3).alloc (Nat.le_refl _) (.map #[] 0)
  have K4 := had_made w3
  have z4 : (w3.alloc (.map #[] 0)).heap.size = w3.heap.size + 1 := by simp
  go_upto_region 6 with fail
  generalize w3.alloc (.map #[] 0) = w4 at *
  generalize hM : w3.heap.size = M at *
  have B3s : w.heap.size ≤ M := by have := B3.size; omega
  have Z4 : Hid (w4.heap.size = M + 1) := z4
  have ST : Hid (∀ W, But w4.heap.size M w4 W → Dx W g 0 c rs d ∧ ClsAt W (.slice pc cl.length cc) cl ∧ Below w.heap.size w W) := fun W hbt => by
    have h1 : Below M w3 W := A4.trans (hbt.below (by omega) (Nat.le_refl _))
    have h2 := keeps_below h1 (by omega)
    exact ⟨C3.out.keeps h2, L3.out.keeps h2, B3.trans (h1.mono B3s)⟩
  clear A4 z4 hb3 o3 o3s hb1 hb2 B2 C2 QB C SC hA B3 C3 L3 B3s hmm
  go_upto_region 7 with fail
  go_loopw [27] (fun i wr => ∃ j : Nat, j ≤ cl.length ∧ i = .int .i64 j ∧ HadAt wr M (kidsL (cl.take j)) ∧ But w4.heap.size M w4 wr) (fun i _ => cl.length - (intOf i).toNat)
  case atStart => exact ⟨0, Nat.zero_le _, rfl, by simpa [kidsL] using K4, But.refl _ _ _⟩
  case round =>
    obtain ⟨j, hj, rfl, KR, BT⟩ := hrel
    obtain ⟨DR, CR, BR⟩ := ST.out wr BT
    have hlM := KR.lt
    by_cases hlt : j < cl.length
    · obtain ⟨_, _, he, _, _, _, hat⟩ := CR.at
      cases he
      obtain ⟨b1, o1, e1, y1, y2⟩ := hat j hlt
      obtain ⟨q1, q2, q3⟩ := CO.out cl[j] (List.getElem_mem hlt)
      have KO1 := KO.out j hlt
      have KT : Hid (kidsL (cl.take (j + 1)) = kidsL (cl.take j) ++ [cl[j].2]) := kids_take cl j hlt
      have KL : (kidsL (cl.take j)).length ≤ 1000 := by unfold kidsL; rw [List.length_map, List.length_take]; omega
      clear hat CR DR
      generalize cl[j] = x at *
      obtain ⟨x1, x2⟩ := x
      simp only at y1 y2 q1 q2 q3 KO1 KT
      subst e1
      have BX := (Below.refl wr.heap.size wr).alloc (Nat.le_refl _) (.cells #[.int .i64 (x1 : Int), .int .i64 (x2 : Int)] 37)
      have KX := KR.below BX
      have hl0 := KX.look x2 q3
      rw [KO1] at hl0
      have BTX : But w4.heap.size M w4 (wr.alloc (.cells #[.int .i64 (x1 : Int), .int .i64 (x2 : Int)] 37)) := BT.trans (But.of BX BT.size)
      have r1 : ((x2 : Int) == 0) = false := beq_eq_false_iff_ne.2 (by omega)
      have r2 : ((x1 : Int) == (x2 : Int)) = false := beq_eq_false_iff_ne.2 (by omega)
      clear KO1
      generalize kidsL (cl.take j) = acc at *
      go_wp2_with (at_mapUpdate; refine had_put rfl _ _ _ rfl M acc x2 q3 KL rfl KX rfl rfl ?_; intro w5 H5 g5)
      go_roundw
      case rel => exact ⟨j + 1, by omega, by go_num, by rw [KT.out]; exact H5, BTX.grow g5 BTX.size⟩
      case measure => simp [intOf]; omega
    · obtain rfl : j = cl.length := by omega
      rw [List.take_length] at KR
      have J4 := SS.out _ _ _ _ DR
      go_upto_region 15 with (go_at_call 8; refine J4.mono ?_; clear J4; rintro e w6 ⟨v6, rfl, o6, hb6⟩; have o6s := o6; obtain ⟨ps, cs, rfl⟩ := o6s.shape)
      have K6 : Hid (HadAt w6 M (kidsL cl)) := KR.below hb6
      have D6 : Hid (Dx w6 g 0 c rs d) := DR.below hb6
      have C6 : Hid (ClsAt w6 (.slice pc cl.length cc) cl) := CR.keeps (keeps_below hb6 (Nat.le_refl _))
      have I6 : Hid (IntsAt w6 (.slice ps sh.length cs) sh) := ints_of_owns o6
      have B6 := BR.trans (hb6.mono BR.size)
      have kx : sh.length ≤ cs ∧ cs ≤ 9223372036854775807 := by
        obtain ⟨_, _, he, h1, h2, _, _⟩ := I6.out.at
        cases he
        exact ⟨h1, h2⟩
      obtain ⟨kx1, kx2⟩ := kx
      clear KR DR CR BR BT hb6 o6 o6s SS ST K4 hlM CO KO
      go_loopw [55] (fun i wr => ∃ j : Nat, j ≤ sh.length ∧ i = .int .i64 j ∧ Below w6.heap.size w6 wr) (fun i _ => sh.length - (intOf i).toNat)
      case atStart => exact ⟨0, Nat.zero_le _, rfl, Below.refl _ _⟩
      case round =>
        obtain ⟨i, hi, rfl, BI⟩ := hrel
        have BWI := B6.trans (BI.mono B6.size)
        by_cases hil : i < sh.length
        · obtain ⟨_, _, he, _, _, _, hat⟩ := I6.out.at
          cases he
          obtain ⟨b1, o1, e1, y0⟩ := hat i hil
          have y1 := keeps_below BI (Nat.le_refl _) _ _ y0
          have FIi : Hid (∀ (q : Nat) (hq : q < (Wd.toksOf (valN d (sh[i] : Int) ⟨#[97, 114, 105, 97, 45, 111, 119, 110, 115]⟩)).length) (k : Nat), askT d sh[i] (Wd.toksOf (valN d (sh[i] : Int) ⟨#[97, 114, 105, 97, 45, 111, 119, 110, 115]⟩))[q] = (k : Int) → 1 ≤ k → sh.contains k = true → (kidsL cl).contains k = false →
              seenD d (aheadW d sh cl sh[i] (Wd.toksOf (valN d (sh[i] : Int) ⟨#[97, 114, 105, 97, 45, 111, 119, 110, 115]⟩))[q]) (k : Int) (rs.length + 1) (sh[i] : Int) = true) := fun q hq k h1 h2 h3 h4 => by rw [L.out]; exact FI.out i hil q hq k h1 h2 h3 h4
          have hAt := rattr_all (D6.out.below BI).doc (sh[i] : Int) ⟨#[97, 114, 105, 97, 45, 111, 119, 110, 115]⟩
          have hz := val_size VN.out (sh[i] : Int) ⟨#[97, 114, 105, 97, 45, 111, 119, 110, 115]⟩
          have hTk : Hid (∀ W, Calls Try.prog 12 #[.string (valN d (sh[i] : Int) ⟨#[97, 114, 105, 97, 45, 111, 119, 110, 115]⟩)] W fun e w' => ∃ v, e = .returned v ∧ w'.ownsRow W.heap.size 9 1 v (Wd.toksOf (valN d (sh[i] : Int) ⟨#[97, 114, 105, 97, 45, 111, 119, 110, 115]⟩)).length ((Wd.toksOf (valN d (sh[i] : Int) ⟨#[97, 114, 105, 97, 45, 111, 119, 110, 115]⟩)).map Wd.tv) ∧ Below W.heap.size W w') := fun W => (Wd.rtokens_own _ W hz).mono (by
            rintro e w' ⟨v, h1, h2, h3, _⟩
            exact ⟨v, h1, h2, h3⟩)
          have HFi : Hid (∀ W tt, Below w6.heap.size w6 W → Calls Try.prog 13 #[.slice (some ⟨g, 0, none⟩) rs.length c, .int .i64 (sh[i] : Int), .string (Tx.bs tt)] W fun e w' => e = .returned (.int .i64 (askT d sh[i] tt)) ∧ Below W.heap.size W w') := fun W tt hb => rfind_any (D6.out.below hb).doc D6.out.fine (sh[i] : Int) (Tx.bs tt)
          have HAh : Hid (∀ W tt, Below w6.heap.size w6 W → Calls Try.prog 15 #[.slice (some ⟨g, 0, none⟩) rs.length c, .slice ps sh.length cs, .slice pc cl.length cc, .int .i64 (sh[i] : Int), .string (Tx.bs tt)] W fun e w' => ∃ v, e = .returned v ∧ OwnC w' W.heap.size v (aheadW d sh cl sh[i] tt) ∧ Below W.heap.size W w') := fun W tt hb => ahead_any (D6.out.below hb) (I6.out.keeps (keeps_below hb (Nat.le_refl _))) hsf (C6.out.keeps (keeps_below hb (Nat.le_refl _))) hcl sh[i] tt
          clear hat hz y0
          generalize sh[i] = n at *
          generalize Wd.toksOf (valN d (n : Int) ⟨#[97, 114, 105, 97, 45, 111, 119, 110, 115]⟩) = ts at *
          generalize valN d (n : Int) ⟨#[97, 114, 105, 97, 45, 111, 119, 110, 115]⟩ = sv at *
          generalize (attrN d (n : Int) ⟨#[97, 114, 105, 97, 45, 111, 119, 110, 115]⟩).isSome = sb at *
          subst e1
          go_upto_region 19 with (first
            | (go_at_call 11; refine hAt.mono ?_; rintro e w7 ⟨rfl, hb7⟩)
            | (go_at_call 12; refine (hTk.out _).mono ?_; rintro e w8 ⟨v8, rfl, ho8, hb8⟩; have ho8s := toks_at ho8; obtain ⟨pt, ct, rfl, t1, t2, hatt⟩ := ho8s))
          have BI7 := BI.trans (hb7.mono BI.size)
          have BI8 := BI7.trans (hb8.mono BI7.size)
          have TT : Hid (∀ j (hj : j < ts.length), ∃ b o, pt = some ⟨b, o, none⟩ ∧ w8.cell? ⟨b, o + j, none⟩ = some (.string (Tx.bs ts[j]))) := hatt
          clear hatt ho8 hb7 hb8 hAt hTk BI7 y1
          go_loopw [68] (fun i wq => ∃ q : Nat, q ≤ ts.length ∧ i = .int .i64 q ∧ Below w8.heap.size w8 wq) (fun i _ => ts.length - (intOf i).toNat)
          case atStart => exact ⟨0, Nat.zero_le _, rfl, Below.refl _ _⟩
          case round =>
            obtain ⟨q, hq, rfl, BQ⟩ := hrel
            have BQ6 := BI8.trans (BQ.mono BI8.size)
            by_cases hql : q < ts.length
            · obtain ⟨b3, o3, e3, hc3⟩ := TT.out q hql
              have hcq := keeps_below BQ (Nat.le_refl _) _ _ hc3
              have hFi := HFi.out wr ts[q] BQ6
              have AH0 : Hid (∀ W, Below w6.heap.size w6 W → Calls Try.prog 15 #[.slice (some ⟨g, 0, none⟩) rs.length c, .slice (some ⟨b1, o1, none⟩) sh.length cs, .slice pc cl.length cc, .int .i64 (n : Int), .string (Tx.bs ts[q])] W fun e w' => ∃ v, e = .returned v ∧ OwnC w' W.heap.size v (aheadW d sh cl n ts[q]) ∧ Below W.heap.size W w') := fun W hb => HAh.out W ts[q] hb
              have FQ := FIi.out q hql
              clear hc3
              generalize aheadW d sh cl n ts[q] = A at *
              generalize askT d n ts[q] = k at *
              generalize Tx.bs ts[q] = tb at *
              subst e3
              by_cases hk1 : k < 1
              · clear FQ
                go_wp2_with (go_at_call 13; refine hFi.mono ?_; rintro e w9 ⟨rfl, hb9⟩)
                go_roundw
                case rel => exact ⟨q + 1, by omega, by go_num, BQ.trans (hb9.mono BQ.size)⟩
                case measure => simp [intOf]; omega
              · obtain ⟨m, rfl⟩ : ∃ m : Nat, k = (m : Int) := ⟨k.toNat, by omega⟩
                have hm1 : 1 ≤ m := by omega
                have hm2 : ¬ m < 1 := by omega
                have HAS : Hid (∀ W, Below w6.heap.size w6 W → Calls Try.prog 14 #[.slice (some ⟨b1, o1, none⟩) sh.length cs, .int .i64 (m : Int)] W fun e w' => e = .returned (.bool (sh.contains m)) ∧ w' = W) := fun W hb => qhas_any (I6.out.keeps (keeps_below hb (Nat.le_refl _))) m
                have FQm := FQ m rfl hm1
                have MS : Hid (sh.contains m = true → m ≤ 1000) := fun h => SL.out m (by rw [List.contains_iff_mem] at h; exact h)
                clear FQ
                cases hsc : sh.contains m with
                | false =>
                  have HS := HAS.out
                  rw [hsc] at HS
                  clear FQm hsc MS
                  go_wp2_with (first
                    | (go_at_call 13; refine hFi.mono ?_; rintro e w9 ⟨rfl, hb9⟩; have hHk := HS w9 (BQ6.trans (hb9.mono BQ6.size)))
                    | (go_at_call 14; refine hHk.mono ?_; rintro e w10 ⟨rfl, hw10⟩; subst hw10))
                  go_roundw
                  case rel => exact ⟨q + 1, by omega, by go_num, BQ.trans (hb9.mono BQ.size)⟩
                  case measure => simp [intOf]; omega
                | true =>
                  have HS := HAS.out
                  rw [hsc] at HS
                  have hm3 := MS.out hsc
                  have FQs := FQm hsc
                  clear FQm hsc MS
                  cases hkc : (kidsL cl).contains m with
                  | true =>
                    clear FQs
                    go_wp2_with (first
                      | (go_at_call 13; refine hFi.mono ?_; rintro e w9 ⟨rfl, hb9⟩; have hHk := HS w9 (BQ6.trans (hb9.mono BQ6.size)); have hl9 := (K6.out.below (BQ6.trans (hb9.mono BQ6.size))).look m hm3; rw [hkc] at hl9)
                      | (go_at_call 14; refine hHk.mono ?_; rintro e w10 ⟨rfl, hw10⟩; subst hw10))
                    go_roundw
                    case rel => exact ⟨q + 1, by omega, by go_num, BQ.trans (hb9.mono BQ.size)⟩
                    case measure => simp [intOf]; omega
                  | false =>
                    have SE : Hid (seenD d A (m : Int) (rs.length + 1) (n : Int) = true) := FQs hkc
                    clear FQs
                    go_upto_region 25 with (first
                      | (go_at_call 13; refine hFi.mono ?_; rintro e w9 ⟨rfl, hb9⟩; have hHk := HS w9 (BQ6.trans (hb9.mono BQ6.size)); have hl9 := (K6.out.below (BQ6.trans (hb9.mono BQ6.size))).look m hm3; rw [hkc] at hl9)
                      | (go_at_call 14; refine hHk.mono ?_; rintro e w10 ⟨rfl, hw10⟩; subst hw10))
                    have BQ9 := BQ.trans (hb9.mono BQ.size)
                    have B69 := BQ6.trans (hb9.mono BQ6.size)
                    have HUp : Hid (∀ W v (x : Int), Below w6.heap.size w6 W → ClsAt W v A → Calls Try.prog 9 #[.slice (some ⟨g, 0, none⟩) rs.length c, v, .int .i64 x] W fun e w' => e = .returned (.int .i64 (inD d A x)) ∧ Below W.heap.size W w') := fun W v x hb hv => vup_any (D6.out.below hb).doc D6.out.fine.okd hv x
                    have AH : Hid (∀ W, Below w6.heap.size w6 W → Calls Try.prog 15 #[.slice (some ⟨g, 0, none⟩) rs.length c, .slice (some ⟨b1, o1, none⟩) sh.length cs, .slice pc cl.length cc, .int .i64 (n : Int), .string tb] W fun e w' => ∃ v, e = .returned v ∧ OwnC w' W.heap.size v A ∧ Below W.heap.size W w') := AH0
                    clear hHk hl9 hb9 hkc HS hFi hcq HAS AH0
                    go_loopw [16, 17, 93] (fun av bv i wq => ∃ (r : Nat) (a : Int) (bb : Bool), r ≤ rs.length + 1 ∧ i = .int .i64 r ∧ av = .int .i64 a ∧ bv = .bool bb ∧ Hid ((bb || seenD d A (m : Int) (rs.length + 1 - r) a) = true) ∧ Below w10.heap.size w10 wq) (fun _ _ i _ => rs.length + 1 - (intOf i).toNat)
                    case atStart => exact ⟨0, (n : Int), false, Nat.zero_le _, rfl, rfl, rfl, by show _ = _; rw [Bool.false_or]; exact SE.out, Below.refl _ _⟩
                    case round =>
                      obtain ⟨r, a, bb, hr, rfl, rfl, rfl, R, hb4⟩ := hrel
                      have BQ4 := B69.trans (hb4.mono B69.size)
                      by_cases hrl2 : r < rs.length + 1
                      · have em : rs.length + 1 - r = (rs.length - r) + 1 := by omega
                        have em2 : Hid (rs.length + 1 - (r + 1) = rs.length - r) := by show _ = _; omega
                        have hri : (r : Int) < (rs.length : Int) + 1 := by omega
                        have R1 := R.out
                        rw [em, seenD] at R1
                        clear R em
                        cases bb with
                        | true =>
                          have R2 : Hid ((true || seenD d A (m : Int) (rs.length - r) (if 0 < a then inD d A a else a)) = true) := by show _ = _; simp
                          clear R1
                          by_cases h0 : 0 < a
                          · have R3 : Hid ((true || seenD d A (m : Int) (rs.length - r) (inD d A a)) = true) := by have := R2.out; rw [if_pos h0] at this; exact this
                            clear R2
                            have hAh := AH.out wr BQ4
                            have HU := fun W v hb hv => HUp.out W v a hb hv
                            generalize inD d A a = a2 at *
                            go_wp2_with (first
                              | (go_at_call 15; refine hAh.mono ?_; rintro e w11 ⟨v11, rfl, o11, hb11⟩; have hUu := HU w11 v11 (BQ4.trans (hb11.mono BQ4.size)) (cls_of_owns o11))
                              | (go_at_call 9; refine hUu.mono ?_; rintro e w12 ⟨rfl, hb12⟩))
                            go_roundw
                            case rel => exact ⟨r + 1, a2, true, by omega, by go_num, rfl, rfl, by rw [em2.out]; exact R3, (hb4.trans (hb11.mono hb4.size)).trans (hb12.mono (Nat.le_trans hb4.size hb11.size))⟩
                            case measure => simp [intOf]; omega
                          · have R3 : Hid ((true || seenD d A (m : Int) (rs.length - r) a) = true) := by have := R2.out; rw [if_neg h0] at this; exact this
                            clear R2
                            go_wp2_with fail
                            go_roundw
                            case rel => exact ⟨r + 1, a, true, by omega, by go_num, rfl, rfl, by rw [em2.out]; exact R3, hb4⟩
                            case measure => simp [intOf]; omega
                        | false =>
                          by_cases e : a = (m : Int)
                          · have R2 : Hid ((true || seenD d A (m : Int) (rs.length - r) (if 0 < a then inD d A a else a)) = true) := by show _ = _; simp
                            have hq7 : (a == (m : Int)) = true := by simpa using e
                            clear R1 e
                            by_cases h0 : 0 < a
                            · have R3 : Hid ((true || seenD d A (m : Int) (rs.length - r) (inD d A a)) = true) := by have := R2.out; rw [if_pos h0] at this; exact this
                              clear R2
                              have hAh := AH.out wr BQ4
                              have HU := fun W v hb hv => HUp.out W v a hb hv
                              generalize inD d A a = a2 at *
                              go_wp2_with (first
                                | (go_at_call 15; refine hAh.mono ?_; rintro e w11 ⟨v11, rfl, o11, hb11⟩; have hUu := HU w11 v11 (BQ4.trans (hb11.mono BQ4.size)) (cls_of_owns o11))
                                | (go_at_call 9; refine hUu.mono ?_; rintro e w12 ⟨rfl, hb12⟩))
                              go_roundw
                              case rel => exact ⟨r + 1, a2, true, by omega, by go_num, rfl, rfl, by rw [em2.out]; exact R3, (hb4.trans (hb11.mono hb4.size)).trans (hb12.mono (Nat.le_trans hb4.size hb11.size))⟩
                              case measure => simp [intOf]; omega
                            · have R3 : Hid ((true || seenD d A (m : Int) (rs.length - r) a) = true) := by have := R2.out; rw [if_neg h0] at this; exact this
                              clear R2
                              go_wp2_with fail
                              go_roundw
                              case rel => exact ⟨r + 1, a, true, by omega, by go_num, rfl, rfl, by rw [em2.out]; exact R3, hb4⟩
                              case measure => simp [intOf]; omega
                          · have R2 : Hid ((false || seenD d A (m : Int) (rs.length - r) (if 0 < a then inD d A a else a)) = true) := by
                              rw [Bool.false_or, decide_eq_false e] at R1
                              exact R1
                            have hq7 : (a == (m : Int)) = false := by simpa using e
                            clear R1 e
                            by_cases h0 : 0 < a
                            · have R3 : Hid ((false || seenD d A (m : Int) (rs.length - r) (inD d A a)) = true) := by have := R2.out; rw [if_pos h0] at this; exact this
                              clear R2
                              have hAh := AH.out wr BQ4
                              have HU := fun W v hb hv => HUp.out W v a hb hv
                              generalize inD d A a = a2 at *
                              go_wp2_with (first
                                | (go_at_call 15; refine hAh.mono ?_; rintro e w11 ⟨v11, rfl, o11, hb11⟩; have hUu := HU w11 v11 (BQ4.trans (hb11.mono BQ4.size)) (cls_of_owns o11))
                                | (go_at_call 9; refine hUu.mono ?_; rintro e w12 ⟨rfl, hb12⟩))
                              go_roundw
                              case rel => exact ⟨r + 1, a2, false, by omega, by go_num, rfl, rfl, by rw [em2.out]; exact R3, (hb4.trans (hb11.mono hb4.size)).trans (hb12.mono (Nat.le_trans hb4.size hb11.size))⟩
                              case measure => simp [intOf]; omega
                            · have R3 : Hid ((false || seenD d A (m : Int) (rs.length - r) a) = true) := by have := R2.out; rw [if_neg h0] at this; exact this
                              clear R2
                              go_wp2_with fail
                              go_roundw
                              case rel => exact ⟨r + 1, a, false, by omega, by go_num, rfl, rfl, by rw [em2.out]; exact R3, hb4⟩
                              case measure => simp [intOf]; omega
                      · obtain rfl : r = rs.length + 1 := by omega
                        have hbb : bb = true := by have := R.out; rw [Nat.sub_self, seenD, Bool.or_false] at this; exact this
                        subst hbb
                        go_wp2_with fail
                        go_roundw
                        case rel => exact ⟨q + 1, by omega, by go_num, BQ9.trans (hb4.mono BQ9.size)⟩
                        case measure => simp [intOf]; omega
            · obtain rfl : q = ts.length := by omega
              go_wp2_with fail
              go_roundw
              case rel => exact ⟨i + 1, by omega, by go_num, BQ6⟩
              case measure => simp [intOf]; omega
        · obtain rfl : i = sh.length := by omega
          go_wp2_with fail
          go_ret
          exact ⟨rfl, BWI⟩
end Go.Proofs.Ytdjghddcpfikhad
