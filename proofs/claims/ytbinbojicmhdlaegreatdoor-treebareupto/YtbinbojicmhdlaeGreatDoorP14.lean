/-
  OWN WORK: Nus, Nof, Tas, Tlv.
-/
import Derived.Test.YtbinbojicmhdlaeGreatDoorP13
import Derived.Test.YtbinbojicmhdlaeGreatDoorP11
import Derived.Test.YtbinbojicmhdlaeGreatDoorP8
import Derived.Test.YtbinbojicmhdlaeGreatDoorP10
import Derived.Maps.RangeWalk
import Derived.Defers
import Derived.Recover
import Derived.Test.YtbinbojicmhdlaeGreatDoorP12
/-
  THE WALK of naming's uses.
-/
namespace Go.Proofs.YtbinbojicmhdlaeGreatDoor
open Go.RowKit Go.Maps Go.Sort

theorem grown_below {w w' : World} (h : Below w.heap.size w w') : w.grownBy w' none := ⟨h.os, h.tape, h.output, h.size, fun i hi _ => h.block i hi⟩
theorem same_int (a b : Int) : (Lit.int .i64 a).sameKey (.int .i64 b) = decide (a = b) := by
  by_cases e : a = b
  · subst e
    rw [WideAt.sameKey_self (by trivial)]
    simp
  · rw [sameKey_ne (fun h => e (by injection h))]
    simp [e]
theorem unit_key {key : Value} {kl : Lit} (h : keyOf Tryz.prog 3 key = some kl) : ∃ x, key = Value.int .i64 x := by
  obtain ⟨x, e, _⟩ := Maps.keyOf_int_inv Tryz.underlying3 h
  exact ⟨x, e⟩
theorem unit_val {v : Value} {y : DataW Unit × List MemPlace} (h : unitElem v = some y) : ∃ _ : Unit, v = .agg #[] := ⟨(), (unitElem_inv h).1⟩

/-- what was found so far: acc0, and the lines of those keys that have come -/
def Come (d : Tn.Dc) (S acc0 acc : List Nat) (left : Lit → Bool) : Prop := ∀ k, k ∈ acc ↔ k ∈ acc0 ∨ ∃ x ∈ S, left (.int .i64 (x : Int)) = false ∧ k ∈ lineD d (x : Int)
theorem come_start {d : Tn.Dc} {S acc0 : List Nat} {left : Lit → Bool} (h : ∀ x ∈ S, left (.int .i64 (x : Int)) = true) : Come d S acc0 acc0 left := fun k => by
  constructor
  · exact Or.inl
  · rintro (h1 | ⟨x, hx, h2, _⟩)
    · exact h1
    · rw [h x hx] at h2
      cases h2
theorem come_step {d : Tn.Dc} {S acc0 acc : List Nat} {left : Lit → Bool} (h : Come d S acc0 acc left) {x : Nat} (hx : x ∈ S) : Come d S acc0 (acc ++ lineD d (x : Int)) (fun z => left z && !z.sameKey (.int .i64 (x : Int))) := by
  intro k
  rw [List.mem_append, h k]
  constructor
  · rintro ((h1 | ⟨y, hy, h2, h3⟩) | h1)
    · exact Or.inl h1
    · exact Or.inr ⟨y, hy, by simp [h2], h3⟩
    · exact Or.inr ⟨x, hx, by simp [same_int], h1⟩
  · rintro (h1 | ⟨y, hy, h2, h3⟩)
    · exact Or.inl (Or.inl h1)
    · by_cases e : y = x
      · subst e
        exact Or.inr h3
      · refine Or.inl (Or.inr ⟨y, hy, ?_, h3⟩)
        simp only [same_int] at h2
        have : ¬ (y : Int) = (x : Int) := by omega
        simpa [this] using h2
theorem come_end {d : Tn.Dc} {S acc0 acc : List Nat} {left : Lit → Bool} (h : Come d S acc0 acc left) (hl : ∀ kl, left kl = false) (k : Nat) : k ∈ acc ↔ k ∈ acc0 ∨ ∃ x ∈ S, k ∈ lineD d (x : Int) := by
  rw [h k]
  constructor
  · rintro (h1 | ⟨x, hx, _, h2⟩)
    · exact Or.inl h1
    · exact Or.inr ⟨x, hx, h2⟩
  · rintro (h1 | ⟨x, hx, h2⟩)
    · exact Or.inl h1
    · exact Or.inr ⟨x, hx, hl _, h2⟩

theorem line_lt {d : Tn.Dc} (h : Fine d) : ∀ {f : Nat} {n : Int} {k : Nat}, k ∈ lineF f d n → k < d.length
  | 0, _, _, hk => by simp [lineF] at hk
  | f + 1, n, k, hk => by
    rw [lineF] at hk
    split at hk
    · rename_i hi
      obtain ⟨m, rfl, hm, _⟩ := isN_nat hi
      rw [List.mem_cons] at hk
      rcases hk with rfl | hk
      · simpa using hm
      · exact line_lt h hk
    · simp at hk

set_option maxHeartbeats 6400000 in
set_option maxRecDepth 100000 in
theorem nuses_any {w : World} {b o c : Nat} {rs : List Raw} {d : Tn.Dc} (hx : Cx w b o c rs d) {g : Nat} (AA : Nat → Nat) (SS : Nat → List Nat) (hgc : ∀ j, j < 2 → w.cell? ⟨g, j, none⟩ = some (.map (some (AA j)))) (hS : ∀ j, j < 2 → SetAt w (AA j) (SS j)) (hSl : ∀ j, j < 2 → (SS j).length ≤ 100)
    (hSx : ∀ j, j < 2 → ∀ x ∈ SS j, Tn.lvD d x = true) (L : List Nat) (hL : ∀ k, k ∈ L ↔ ∃ j, j < 2 ∧ ∃ x ∈ SS j, k ∈ lineD d (x : Int)) :
    Calls Tryz.prog 73 #[.slice (some ⟨b, o, none⟩) rs.length c, .slice (some ⟨g, 0, none⟩) 2 2] w fun e w' => ∃ v, e = .returned v ∧ OwnI w' w.heap.size v (usesD d L) ∧ Below w.heap.size w w' := by
  have hmm := @run_makeMap Tryz.prog
  have HX : Hid (Cx w b o c rs d) := hx
  have hF := hx.fine
  have G : Hid (∀ j, j < 2 → w.cell? ⟨g, j, none⟩ = some (.map (some (AA j)))) := hgc
  have SA : Hid (∀ j, j < 2 → SetAt w (AA j) (SS j)) := hS
  have SL : Hid (∀ j, j < 2 → (SS j).length ≤ 100) := hSl
  have SX : Hid (∀ j, j < 2 → ∀ x ∈ SS j, Tn.lvD d x = true) := hSx
  have HL : Hid (∀ k, k ∈ L ↔ ∃ j, j < 2 ∧ ∃ x ∈ SS j, k ∈ lineD d (x : Int)) := hL
  have M0 := set_made w
  have B1 := (Below.refl w.heap.size w).alloc (Nat.le_refl _) (.map #[] 0)
  have z1 : (w.alloc (.map #[] 0)).heap.size = w.heap.size + 1 := by simp
  clear hx hgc hS hSl hSx hL
  go_enter Tryz.func73, Tryz.ntmps73
  go_upto_region 3 with fail
  generalize w.alloc (.map #[] 0) = w1 at *
  go_loopw [12] (fun iv wr => ∃ (j : Nat) (acc : List Nat), j ≤ 2 ∧ iv = .int .i64 j ∧ SetAt wr w.heap.size acc ∧ Hid (∀ k, k ∈ acc ↔ ∃ i, i < j ∧ ∃ x ∈ SS i, k ∈ lineD d (x : Int)) ∧ acc.length ≤ 6500 * j ∧ Bt [w.heap.size] w1 wr)
    (fun iv _ => 2 - (intOf iv).toNat)
  case atStart => exact ⟨0, [], by omega, rfl, M0, fun k => by simp, by simp, Bt.refl _ _⟩
  case round =>
    obtain ⟨j, acc0, hj, rfl, hU, hacc, hal, hbt⟩ := hrel
    have KW : Keeps w wr := (keeps_below B1 (Nat.le_refl _)).trans (hbt.keeps M0.maps)
    have zr : w1.heap.size ≤ wr.heap.size := hbt.size
    have CX : Hid (Cx wr b o c rs d) := HX.out.keeps KW (by have := B1.size; omega)
    by_cases hlt : j < 2
    · have hA := SA.out j hlt
      have hAlt := hA.lt
      have hc : wr.cell? ⟨g, j, none⟩ = some (.map (some (AA j))) := KW _ _ (G.out j hlt)
      have hAr : SetAt wr (AA j) (SS j) := hA.same (by rw [hbt.block (AA j) (by omega) (by simp; omega), B1.block (AA j) hAlt])
      have hAU : AA j ≠ w.heap.size := by omega
      obtain ⟨D, hown, hD⟩ := hAr
      have SXj := SX.out j hlt
      have SLj := SL.out j hlt
      have hsz := hown.size_le
      generalize AA j = A at *
      generalize hSj : SS j = Sj at *
      go_wp2_with (first
        | (at_range; refine wpList_range_own _ rfl _ 92 rfl 3 124 keyU Tryz.underlying92 _ A _ D rfl hown ?_; intro w5 hrg0 hg0 hs0)
        | go_in)
      go_frame
      have hd2 : decide ((j : Int) < 2) = true := by simp; omega
      rw [hd2]
      clear hd2
      have hU5 : SetAt w5 w.heap.size acc0 := hU.same (hg0.block _ hU.lt (by simp))
      have hbt5 : Bt [w.heap.size] w1 w5 := hbt.trans ⟨hg0.os, hg0.tape, hg0.output, hg0.size, fun k hk _ => hg0.block k hk (by simp)⟩
      have hrU : wr.heap.size ≠ w.heap.size := by omega
      have hS1 : Hid (SS j = Sj) := hSj
      have HD : Hid (∀ kl, Maps.has D kl = true ↔ ∃ k ∈ Sj, kl = .int .i64 (k : Int)) := hD
      clear hSj hD hc hg0 hs0 hU hA hown CX KW hbt
      generalize wr.heap.size = R at *
      go_loopw [8] (fun _ wq => ∃ (left : Lit → Bool) (cnt : Nat) (acc : List Nat), wq.ranges Tryz.prog 3 (unitElem (H := Unit)) A R (Sj.length + 1) D left cnt ∧ cnt ≤ Maps.size D ∧ SetAt wq w.heap.size acc ∧ Hid (Come d Sj acc0 acc left) ∧ Hid (∀ kl, left kl = true → Maps.has D kl = true) ∧ acc.length ≤ 6500 * j + 64 * (Maps.size D - cnt) ∧ Bt [w.heap.size] w1 wq)
        (fun _ wq => wq.rangeLeft A R)
      case atStart => exact ⟨_, _, acc0, hrg0, Nat.le_refl _, hU5, come_start (fun x hx => (HD.out _).mpr ⟨x, hx, rfl⟩), fun _ h => h, by omega, hbt5⟩
      case round =>
        obtain ⟨left, cnt, acc, hrg, hcs, hU2, hcm, hlf, hal2, hbt2⟩ := hrel
        clear hrg0 hU5 hbt5 hal
        go_wp2_with (first
          | (at_next; refine wpList_next_ranges (α := Int) (β := Unit) _ rfl _ rfl 3 keyU _ (Value.int .i64) (fun _ => .agg #[]) (fun key kl h => unit_key h) (fun v y h => unit_val h) A R (Sj.length + 1) D left cnt rfl hrg ?_ ?_)
          | go_in)
        · intro hc0 hl0
          go_wp2
          go_roundw
          case rel =>
            refine ⟨j + 1, acc, by omega, by go_num, hU2, fun k => ?_, by omega, hbt2⟩
            rw [come_end hcm.out hl0 k, hacc.out k]
            constructor
            · rintro (⟨i, hi, h⟩ | ⟨x, hx, h⟩)
              · exact ⟨i, by omega, h⟩
              · exact ⟨j, by omega, x, by rw [hS1.out]; exact hx, h⟩
            · rintro ⟨i, hi, x, hx, h⟩
              by_cases e : i = j
              · subst e
                exact Or.inr ⟨x, by rw [← hS1.out]; exact hx, h⟩
              · exact Or.inl ⟨i, by omega, x, hx, h⟩
          case measure => simp [intOf]; omega
        · intro x kl yd yp w6 cnt6 hkx hlx hy hat hrg6 hlt6 hg6 hs6 hen
          obtain ⟨x', ex, rfl, _⟩ := Maps.keyOf_int_inv Tryz.underlying3 hkx
          cases ex
          obtain ⟨m, hm, ekx⟩ := (HD.out _).mp (hlf.out _ hlx)
          have ex : x = (m : Int) := by injection ekx
          subst ex
          clear ekx hkx hat hy
          have hml := SXj m hm
          have hU6 : SetAt w6 w.heap.size acc := hU2.same (hg6.block _ hU2.lt (fun e => hrU (by injection e with e; exact e.symm)))
          have hbt6 : Bt [w.heap.size] w1 w6 := ⟨hg6.os.trans hbt2.os, hg6.tape.trans hbt2.tape, hg6.output.trans hbt2.output, Nat.le_trans hbt2.size hg6.size, fun k hk hn => (hg6.block k (Nat.lt_of_lt_of_le hk hbt2.size) (fun e => by injection e with e; omega)).trans (hbt2.block k hk hn)⟩
          have HM : Hid (Tn.lvD d m = true) := hml
          have LL : Hid ((lineD d (m : Int)).length ≤ 64) := line_len d _
          clear hml
          have HRG : Hid (wr.ranges Tryz.prog 3 (unitElem (H := Unit)) A R (Sj.length + 1) D left cnt) := hrg
          go_upto_region 8 with fail
          go_loopw [8] (fun nv wq => ∃ (z : Int) (dn : List Nat), nv = .int .i64 z ∧ Hid (lineD d (m : Int) = dn ++ lineD d z) ∧ Hid (z = -1 ∨ ∃ k : Nat, z = (k : Int) ∧ Tn.lvD d k = true) ∧ wq.ranges Tryz.prog 3 (unitElem (H := Unit)) A R (Sj.length + 1) D (fun z => left z && !z.sameKey (.int .i64 (m : Int))) cnt6 ∧ SetAt wq w.heap.size (acc ++ dn) ∧ Bt [w.heap.size] w1 wq)
            (fun nv _ => (lineD d (intOf nv)).length)
          case atStart => exact ⟨(m : Int), [], rfl, by show _ = _; simp, Or.inr ⟨m, rfl, HM.out⟩, hrg6, by simpa using hU6, hbt6⟩
          case round =>
            obtain ⟨z, dn, rfl, HL2, HZ, hrq, hUq, hbq⟩ := hrel
            clear hen hrg6 hU6 hbt6 hg6 hs6 hrg hU2 hbt2
            have KQ : Keeps w wr := (keeps_below B1 (Nat.le_refl _)).trans (hbq.keeps M0.maps)
            have CQ : Cx wr b o c rs d := HX.out.keeps KQ (by have := B1.size; have := hbq.size; omega)
            rcases HZ.out with rfl | ⟨k, rfl, hk⟩
            · have hI := dis_any CQ.doc (-1) false
              have e0 : Tn.isN d (-1) false = false := by unfold Tn.isN; simp
              rw [e0] at hI
              have E9 : Hid (lineD d (m : Int) = dn) := by show _ = _; rw [HL2.out, line_nil hF e0, List.append_nil]
              clear e0 CQ
              go_wp2_with (go_at_call 69; refine hI.mono ?_; rintro e w8 ⟨rfl, hww⟩; subst hww)
              go_roundw
              case rel =>
                refine ⟨fun z => left z && !z.sameKey (.int .i64 (m : Int)), cnt6, acc ++ dn, hrq, by omega, hUq, ?_, fun kl hkl => hlf.out kl (by simp at hkl; exact hkl.1), ?_, hbq⟩
                · rw [← E9.out]
                  exact come_step hcm.out hm
                · have := LL.out
                  rw [E9.out] at this
                  rw [List.length_append]
                  omega
              case measure => rw [hrq.left_eq, HRG.out.left_eq]; exact hlt6
            · have hI := dis_any CQ.doc (k : Int) false
              have e1 : Tn.isN d (k : Int) false = true := by rw [Tn.isN_iff]; exact hk
              rw [e1] at hI
              have E8 : Hid (lineD d (k : Int) = k :: lineD d (upF d (k : Int))) := line_cons hF e1
              have UP : Hid (upF d (k : Int) = -1 ∨ ∃ q : Nat, upF d (k : Int) = (q : Int) ∧ Tn.lvD d q = true) := by
                rcases up_cases hF (k : Int) with h | ⟨q, _, h, _, _, h2, _⟩
                · exact Or.inl h
                · exact Or.inr ⟨q, h, h2⟩
              have hkn := Tn.lv_lt hk
              have hdl := hF.good.len.2
              have hUl : (acc ++ dn).length ≤ 100000 := by
                have h1 := LL.out
                rw [HL2.out, List.length_append] at h1
                rw [List.length_append]
                omega
              have CD : Hid (DocAt wr b o c rs d) := CQ.doc
              have OK9 : Hid (Okd d) := hF.okd
              clear e1 CQ hk
              go_wp2_with (first
                | (go_at_call 69; refine hI.mono ?_; rintro e w8 ⟨rfl, hww⟩; subst hww)
                | (at_mapUpdate; refine set_put rfl _ _ _ rfl w.heap.size (acc ++ dn) k (by omega) hUl rfl (hUq.pre k) rfl rfl ?_; intro w9 hU9 hg9; go_frame; have hU := fup_any (CD.out.keeps ((Bt.grow1 hg9 (by simp)).keeps hUq.maps)) OK9.out (k : Int))
                | (go_at_call 116; refine hU.mono ?_; rintro e w10 ⟨rfl, hb10⟩))
              go_roundw
              case rel => 
                refine ⟨upF d (k : Int), dn ++ [k], rfl, ?_, UP.out, ?_, ?_, ?_⟩
                · show _ = _
                  rw [HL2.out, E8.out]
                  simp
                · exact (hrq.kept hg9 (fun e => hAU (by injection e)) (fun e => hrU (by injection e))).kept (grown_below hb10) (by simp) (by simp)
                · rw [← List.append_assoc]
                  exact hU9.below hb10
                · exact (hbq.grow hg9 (by simp)).high hb10 (by have := hbq.size; have := hg9.size; omega)
              case measure => 
                show (lineD d (upF d (k : Int))).length < (lineD d (k : Int)).length
                rw [E8.out]
                simp
    · obtain rfl : j = 2 := by omega
      obtain ⟨D, hown, hD⟩ := hU
      have hsz := hown.size_le
      have ML := sorted_calls w.heap.size _ D _ wr hown (by unfold maxLen; omega) (by omega)
      have HO : Hid (wr.ownsMap Tryz.prog 3 (unitElem (H := Unit)) w.heap.size (acc0.length + 1) D) := hown
      have HD : Hid (∀ kl, Maps.has D kl = true ↔ ∃ k ∈ acc0, kl = .int .i64 (k : Int)) := hD
      clear hown hD CX KW
      have KK := @keys_calls
      go_wp2_with (first
        | (go_at_call 118; refine (KK _ _).mono ?_; rintro e w6 ⟨rfl, rfl⟩)
        | (go_at_call 117; refine ML.mono ?_; rintro e w7 ⟨v, ss, rfl, hpm, hrow, hnl, hb7⟩))
      go_ret
      have hs := keys_sorted (N := d.length) (S := acc0) (fun k hk => by
        obtain ⟨i, hi, x, hx, hl⟩ := (hacc.out k).mp hk
        exact line_lt hF hl) hpm (HO.out.tidy keyU) HD.out (fun es e p hp => by
          obtain ⟨es2, e2, _, h3⟩ := HO.out.entries keyU
          rw [e] at e2
          injection e2 with e2
          exact h3 p (by rw [← e2]; exact hp))
      have eu : usesD d L = (List.range d.length).filter (fun k => acc0.contains k) := by
        unfold usesD
        apply List.filter_congr
        intro k _
        rw [Bool.eq_iff_iff]
        simp only [List.contains_iff_mem]
        rw [HL.out k, hacc.out k]
      refine ⟨v, rfl, ?_, (B1.trans (hbt.low (by omega) (by simp))).trans (hb7.mono (by omega))⟩
      unfold OwnI
      rw [eu]
      rw [hs] at hrow
      have el : ss.length = ((List.range d.length).filter (fun k => acc0.contains k)).length := by
        rw [← List.length_mergeSort (le := fun x y : Int => decide (x ≤ y)), hs, List.length_map]
      rw [el, List.map_map] at hrow
      exact ownsRow_base_a hrow (by omega)
end Go.Proofs.YtbinbojicmhdlaeGreatDoor

/-
  THE WALK of naming.Of.
-/
namespace Go.Proofs.YtbinbojicmhdlaeGreatDoor
open Go.RowKit Go.Maps

theorem val_text {d : Tn.Dc} {n : Int} (h : Tn.isN d n true = false) (a : ByteArray) : valN d n a = emB := by
  unfold valN attrN
  rw [if_neg (by simp [h])]
  rfl
theorem ab_text {d : Tn.Dc} {cl : List Cl} {n : Nat} (h : Tn.isN d (n : Int) true = false) (nm : ByteArray) (x : List Nat) : abR d cl n nm x = (emB, ⟨[n], x, []⟩) := by
  unfold abR
  split
  · have e1 : listD (nameF 64 d cl) d cl (n : Int) ⟨#[97, 114, 105, 97, 45, 100, 101, 115, 99, 114, 105, 98, 101, 100, 98, 121]⟩ ⟨[n], x, []⟩ = (emB, ⟨[n], x, []⟩) := by
      unfold listD refsD
      rw [val_text h]
      have : Wd.toksOf emB = [] := by decide +kernel
      rw [this]
      show (Wd.sqz (joinB []), _) = _
      have e : Wd.sqz (joinB []) = emB := by decide +kernel
      rw [e]
      rfl
    rw [e1]
    unfold aboutT
    have e2 : saidN d (n : Int) ⟨#[116, 105, 116, 108, 101]⟩ = emB := by
      unfold saidN
      rw [val_text h]
      decide +kernel
    rw [e2]
    split <;> rfl
  · rfl

theorem field_named (x0 x1 x2 x3 x4 x5 x6 : Value) (w : World) : (Instr.field 49 (.agg #[x0, x1, x2, x3, x4, x5, x6]) 5).run Tryz.prog w = .ok x5 w := by kernel_rfl
structure MemoP (d : Tn.Dc) (cl : List Cl) (n : Nat) (r a : ByteArray × St) : Prop where
  name : (memoD d cl (n : Int)).name = r.1
  about : (memoD d cl (n : Int)).about = a.1
  ok1 : OkS d r.2
  ok2 : OkS d a.2
  uses : ∃ L, (memoD d cl (n : Int)).uses = usesD d L ∧ ∀ k, k ∈ L ↔ (∃ x ∈ r.2.had, k ∈ lineD d (x : Int)) ∨ ∃ x ∈ a.2.had, k ∈ lineD d (x : Int)

theorem memo_asked {d : Tn.Dc} (hF : Fine d) (hV : ∀ j, Vn (Tn.nd d j)) (hT : ∀ j, Vt (Tn.nd d j)) {cl : List Cl} (hC : Forest d cl) {n : Nat} (hn : Tn.lvD d n = true) (hq : (!Tn.has (Tn.nd d n).tag || namedI (roleD d (n : Int))) = true) :
    MemoP d cl n (nameF 64 d cl ⟨[], lineD d (n : Int), []⟩ n false) (abR d cl n (nameF 64 d cl ⟨[], lineD d (n : Int), []⟩ n false).1 (nameF 64 d cl ⟨[], lineD d (n : Int), []⟩ n false).2.asked) := by
  have hi : Tn.isN d (n : Int) false = true := by rw [Tn.isN_iff]; exact hn
  have ok0 : OkS d ⟨[], lineD d (n : Int), []⟩ := ⟨by simp, by simp, by simp, by simp⟩
  have hNok := name_ok hF hV hT hC 64
  have h1 := hNok ⟨[], lineD d (n : Int), []⟩ n false ok0 (by simp) hn (by simp)
  have eN : nameM d cl n = nameF 64 d cl ⟨[], lineD d (n : Int), []⟩ n false := by unfold nameM; rw [if_pos hq]
  have c1 : Cov d (lineD d (n : Int)) (nameF 64 d cl ⟨[], lineD d (n : Int), []⟩ n false).2 := h1.went.cov _ (fun k => by simp)
  generalize hr : nameF 64 d cl ⟨[], lineD d (n : Int), []⟩ n false = r at *
  have okA : OkS d ⟨[n], r.2.asked, []⟩ := ⟨by simp, by simpa using hn, by simp, by simp⟩
  have c2 : Cov d r.2.asked ⟨[n], r.2.asked, []⟩ := fun k => by
    constructor
    · exact Or.inl
    · rintro (h | ⟨x, hx, h⟩)
      · exact h
      · have : x = n := by simpa using hx
        subst this
        exact (c1 k).mpr (Or.inl h)
  have hA : Went d ⟨[n], r.2.asked, []⟩ (abR d cl n r.1 r.2.asked).2 := by
    unfold abR
    split
    · have hL := (list_went hF hC hNok (n : Int) ⟨#[97, 114, 105, 97, 45, 100, 101, 115, 99, 114, 105, 98, 101, 100, 98, 121]⟩ okA (by simp)).1
      unfold aboutT
      split
      · exact hL
      · exact hL
    · exact Went.refl okA
  have e : memoD d cl (n : Int) = ⟨r.1, (aboutM d cl n r).1, usesD d (aboutM d cl n r).2.asked⟩ := by
    unfold memoD
    rw [if_pos hi, Int.toNat_natCast, eN]
  have c3 := hA.cov _ c2
  have hnA : n ∈ (abR d cl n r.1 r.2.asked).2.had := hA.sub n (by simp)
  have key : (aboutM d cl n r).1 = (abR d cl n r.1 r.2.asked).1 ∧ ∀ k, k ∈ (aboutM d cl n r).2.asked ↔ k ∈ (abR d cl n r.1 r.2.asked).2.asked := by
    by_cases ht : Tn.has (Tn.nd d n).tag = true
    · have e1 : aboutM d cl n r = if full r.1 = true then aboutT d n r.1 (listD (nameF 64 d cl) d cl (n : Int) ⟨#[97, 114, 105, 97, 45, 100, 101, 115, 99, 114, 105, 98, 101, 100, 98, 121]⟩ ⟨[n], r.2.asked, []⟩) else (emB, r.2) := by
        unfold aboutM
        rw [ht]
        rfl
      rw [e1]
      unfold abR
      split
      · exact ⟨rfl, fun _ => Iff.rfl⟩
      · exact ⟨rfl, fun _ => Iff.rfl⟩
    · have e1 : aboutM d cl n r = (emB, r.2) := by
        unfold aboutM
        rw [if_neg (by simp [ht])]
      have e2 := ab_text (cl := cl) (n := n) (d := d) (by rw [isN_el hi]; simpa using ht) r.1 r.2.asked
      rw [e1, e2]
      exact ⟨rfl, fun _ => Iff.rfl⟩
  refine ⟨by rw [e], by rw [e]; exact key.1, h1.went.ok, hA.ok, (aboutM d cl n r).2.asked, by rw [e], fun k => ?_⟩
  rw [key.2 k, c3 k, c1 k]
  constructor
  · rintro ((h | h) | h)
    · exact Or.inr ⟨n, hnA, h⟩
    · exact Or.inl h
    · exact Or.inr h
  · rintro (h | h)
    · exact Or.inl (Or.inr h)
    · exact Or.inr h
theorem memo_not {d : Tn.Dc} {cl : List Cl} {n : Nat} (hn : Tn.lvD d n = true) (hq : (!Tn.has (Tn.nd d n).tag || namedI (roleD d (n : Int))) = false) :
    memoD d cl (n : Int) = ⟨emB, emB, usesD d (lineD d (n : Int))⟩ := by
  have hi : Tn.isN d (n : Int) false = true := by rw [Tn.isN_iff]; exact hn
  have eN : nameM d cl n = (emB, ⟨[], lineD d (n : Int), []⟩) := by unfold nameM; rw [if_neg (by simp [hq])]
  have eA : aboutM d cl n (emB, ⟨[], lineD d (n : Int), []⟩) = (emB, ⟨[], lineD d (n : Int), []⟩) := by
    unfold aboutM
    rw [if_neg (by simp [em_full])]
  unfold memoD
  rw [if_pos hi, Int.toNat_natCast, eN, eA]

/-- a struct's four cells, that may be written -/
structure Box4 (w : World) (C : Nat) (x y z u : Value) : Prop where
  c0 : w.cell? ⟨C, 0, none⟩ = some x
  c1 : w.cell? ⟨C, 1, none⟩ = some y
  c2 : w.cell? ⟨C, 2, none⟩ = some z
  c3 : w.cell? ⟨C, 3, none⟩ = some u
  fz : ∀ k, w.frozen? ⟨C, k, none⟩ = false
theorem box4_new (w : World) (x y z u : Value) (t : Nat) : Box4 (w.alloc (.cells #[x, y, z, u] t)) w.heap.size x y z u := by
  obtain ⟨h0, h1, h2, h3⟩ := box4' w x y z u t
  exact ⟨h0, h1, h2, h3, box_frozen _ _ _⟩
theorem Box4.bt {S : List Nat} {w w' : World} {C : Nat} {x y z u : Value} (h : Box4 w C x y z u) (hb : Bt S w w') (hC : C ∉ S) : Box4 w' C x y z u := by
  have hlt := lt_of_cell h.c0
  have e := hb.block C hlt hC
  exact ⟨by rw [← h.c0]; exact World.cell?_of_block e, by rw [← h.c1]; exact World.cell?_of_block e, by rw [← h.c2]; exact World.cell?_of_block e, by rw [← h.c3]; exact World.cell?_of_block e, fun k => by rw [← h.fz k]; simp only [World.frozen?, e]⟩
theorem Box4.below {w w' : World} {C : Nat} {x y z u : Value} (h : Box4 w C x y z u) (hb : Below w.heap.size w w') : Box4 w' C x y z u := h.bt (S := []) (Bt.below hb) (by simp)

theorem Box4.set0 {w : World} {C : Nat} {x y z u : Value} (h : Box4 w C x y z u) (v : Value) : Box4 (w.setCell ⟨C, 0, none⟩ v) C v y z u :=
  ⟨World.cell?_setCell_same _ _ _ h.c0, by rw [World.cell?_setCell_other _ _ _ _ (by simp)]; exact h.c1, by rw [World.cell?_setCell_other _ _ _ _ (by simp)]; exact h.c2, by rw [World.cell?_setCell_other _ _ _ _ (by simp)]; exact h.c3, fun k => by rw [World.frozen?_setCell]; exact h.fz k⟩
theorem Box4.set1 {w : World} {C : Nat} {x y z u : Value} (h : Box4 w C x y z u) (v : Value) : Box4 (w.setCell ⟨C, 1, none⟩ v) C x v z u :=
  ⟨by rw [World.cell?_setCell_other _ _ _ _ (by simp)]; exact h.c0, World.cell?_setCell_same _ _ _ h.c1, by rw [World.cell?_setCell_other _ _ _ _ (by simp)]; exact h.c2, by rw [World.cell?_setCell_other _ _ _ _ (by simp)]; exact h.c3, fun k => by rw [World.frozen?_setCell]; exact h.fz k⟩
theorem Box4.set2 {w : World} {C : Nat} {x y z u : Value} (h : Box4 w C x y z u) (v : Value) : Box4 (w.setCell ⟨C, 2, none⟩ v) C x y v u :=
  ⟨by rw [World.cell?_setCell_other _ _ _ _ (by simp)]; exact h.c0, by rw [World.cell?_setCell_other _ _ _ _ (by simp)]; exact h.c1, World.cell?_setCell_same _ _ _ h.c2, by rw [World.cell?_setCell_other _ _ _ _ (by simp)]; exact h.c3, fun k => by rw [World.frozen?_setCell]; exact h.fz k⟩
theorem Box4.set3 {w : World} {C : Nat} {x y z u : Value} (h : Box4 w C x y z u) (v : Value) : Box4 (w.setCell ⟨C, 3, none⟩ v) C x y z v :=
  ⟨by rw [World.cell?_setCell_other _ _ _ _ (by simp)]; exact h.c0, by rw [World.cell?_setCell_other _ _ _ _ (by simp)]; exact h.c1, by rw [World.cell?_setCell_other _ _ _ _ (by simp)]; exact h.c2, World.cell?_setCell_same _ _ _ h.c3, fun k => by rw [World.frozen?_setCell]; exact h.fz k⟩
theorem Box4.other {w : World} {C : Nat} {x y z u : Value} (h : Box4 w C x y z u) {a : Addr} (ha : a.block ≠ C) (v : Value) : Box4 (w.setCell a v) C x y z u := by
  have ne : ∀ j, a ≠ (⟨C, j, none⟩ : Addr) := fun j e => ha (by rw [e])
  exact ⟨by rw [World.cell?_setCell_other _ _ _ _ (ne 0)]; exact h.c0, by rw [World.cell?_setCell_other _ _ _ _ (ne 1)]; exact h.c1, by rw [World.cell?_setCell_other _ _ _ _ (ne 2)]; exact h.c2, by rw [World.cell?_setCell_other _ _ _ _ (ne 3)]; exact h.c3, fun k => by rw [World.frozen?_setCell]; exact h.fz k⟩
theorem Bt.set {S : List Nat} {w w' : World} (h : Bt S w w') {a : Addr} (ha : a.block ∈ S ∨ w.heap.size ≤ a.block) (v : Value) : Bt S w (w'.setCell a v) :=
  ⟨h.os, h.tape, h.output, by simp only [World.setCell, Array.size_modify]; exact h.size, fun i hi hn => by
    rw [Below.heap_setCell _ _ _ _ (by
      intro e
      subst e
      rcases ha with ha | ha
      · exact hn ha
      · omega)]
    exact h.block i hi hn⟩

/-- what is in the memo, and who was asked, when all is asked -/
structure Asks (d : Tn.Dc) (cl : List Cl) (k : Nat) (nm ab : ByteArray) (T1 T2 : List Nat) : Prop where
  name : (memoD d cl (k : Int)).name = nm
  about : (memoD d cl (k : Int)).about = ab
  lv1 : ∀ x ∈ T1, Tn.lvD d x = true
  lv2 : ∀ x ∈ T2, Tn.lvD d x = true
  le1 : T1.length ≤ 100
  le2 : T2.length ≤ 100
  uses : ∃ L, (memoD d cl (k : Int)).uses = usesD d L ∧ ∀ j, j ∈ L ↔ (∃ x ∈ T1, j ∈ lineD d (x : Int)) ∨ ∃ x ∈ T2, j ∈ lineD d (x : Int)

set_option maxHeartbeats 12800000 in
set_option maxRecDepth 100000 in
theorem nof_any {w : World} {b o c : Nat} {rs : List Raw} {d : Tn.Dc} {p : Option Addr} {cc : Nat} {cl : List Cl} (hx : Nx w b o c rs d (.slice p cl.length cc) cl) (n : Int) :
    Calls Tryz.prog 37 #[.slice (some ⟨b, o, none⟩) rs.length c, .slice p cl.length cc, .int .i64 n] w fun e w' => ∃ v, e = .returned (.agg #[.int .i64 n, .string (memoD d cl n).name, .string (memoD d cl n).about, v]) ∧ OwnI w' w.heap.size v (memoD d cl n).uses ∧ Below w.heap.size w w' := by
  have hF := hx.cx.fine
  have hdl := hF.good.len.2
  have B1 : Below w.heap.size w ((w.alloc (.cells #[.int .i64 0, .string ⟨#[]⟩, .string ⟨#[]⟩, .slice none 0 0] 67)).alloc (.cells #[.int .i64 n, .string ⟨#[]⟩, .string ⟨#[]⟩, .slice none 0 0] 67)) := ((Below.refl w.heap.size w).alloc (Nat.le_refl _) _).alloc (by simp) _
  have z1 : ((w.alloc (.cells #[.int .i64 0, .string ⟨#[]⟩, .string ⟨#[]⟩, .slice none 0 0] 67)).alloc (.cells #[.int .i64 n, .string ⟨#[]⟩, .string ⟨#[]⟩, .slice none 0 0] 67)).heap.size = w.heap.size + 2 := by simp
  have R1 : Box4 ((w.alloc (.cells #[.int .i64 0, .string ⟨#[]⟩, .string ⟨#[]⟩, .slice none 0 0] 67)).alloc (.cells #[.int .i64 n, .string ⟨#[]⟩, .string ⟨#[]⟩, .slice none 0 0] 67)) w.heap.size (.int .i64 0) (.string ⟨#[]⟩) (.string ⟨#[]⟩) (.slice none 0 0) := (box4_new w _ _ _ _ _).below ((Below.refl _ _).alloc (Nat.le_refl _) _)
  have M1 : Box4 ((w.alloc (.cells #[.int .i64 0, .string ⟨#[]⟩, .string ⟨#[]⟩, .slice none 0 0] 67)).alloc (.cells #[.int .i64 n, .string ⟨#[]⟩, .string ⟨#[]⟩, .slice none 0 0] 67)) (w.heap.size + 1) (.int .i64 n) (.string ⟨#[]⟩) (.string ⟨#[]⟩) (.slice none 0 0) := by
    have h := box4_new (w.alloc (.cells #[.int .i64 0, .string ⟨#[]⟩, .string ⟨#[]⟩, .slice none 0 0] 67)) (.int .i64 n) (.string ⟨#[]⟩) (.string ⟨#[]⟩) (.slice none 0 0) 67
    simp only [World.size_alloc] at h
    exact h
  have NX : Hid (Nx w b o c rs d (.slice p cl.length cc) cl) := hx
  have IS := dis_any (NX.out.below B1).cx.doc n false
  cases hi : Tn.isN d n false with
  | false =>
    have E : Hid (memoD d cl n = ⟨emB, emB, []⟩) := by show _ = _; unfold memoD; rw [if_neg (by simp [hi])]
    rw [hi] at IS
    clear hx hi
    have R9 : Box4 ((w.alloc (.cells #[.int .i64 n, .string ⟨#[]⟩, .string ⟨#[]⟩, .slice none 0 0] 67)).alloc (.cells #[.int .i64 n, .string ⟨#[]⟩, .string ⟨#[]⟩, .slice none 0 0] 67)) w.heap.size (.int .i64 n) (.string ⟨#[]⟩) (.string ⟨#[]⟩) (.slice none 0 0) := (box4_new w _ _ _ _ _).below ((Below.refl _ _).alloc (Nat.le_refl _) _)
    have B9 : Below w.heap.size w ((w.alloc (.cells #[.int .i64 n, .string ⟨#[]⟩, .string ⟨#[]⟩, .slice none 0 0] 67)).alloc (.cells #[.int .i64 n, .string ⟨#[]⟩, .string ⟨#[]⟩, .slice none 0 0] 67)) := ((Below.refl w.heap.size w).alloc (Nat.le_refl _) _).alloc (by simp) _
    obtain ⟨r0, r1, r2, r3, _⟩ := R9
    obtain ⟨m0, m1, m2, m3, _⟩ := M1
    clear R1 z1 B1
    go_enter Tryz.func37, Tryz.ntmps37
    go_wp2_with (go_at_call 69; refine IS.mono ?_; rintro e w2 ⟨rfl, hww⟩; subst hww)
    refine bodyPost_ret (v := .agg #[.int .i64 n, .string ⟨#[]⟩, .string ⟨#[]⟩, .slice none 0 0]) (by simp [results, Tryz.results37, go_sem, r0, r1, r2, r3]) rfl ⟨.slice none 0 0, by rw [E.out]; rfl, by rw [E.out]; exact World.ownsRow_nil _ _ _ _, B9⟩
  | true =>
    obtain ⟨k, rfl, hkl, hlv⟩ := isN_nat hi
    rw [hi] at IS
    have BG : Hid (∀ W, Calls Tryz.prog 70 #[.slice (some ⟨b, o, none⟩) rs.length c, .slice p cl.length cc, .int .i64 (k : Int)] W fun e w' => ∃ A L, e = .returned (.agg #[.slice (some ⟨b, o, none⟩) rs.length c, .slice p cl.length cc, .map (some A), .map (some L)]) ∧ W.heap.size ≤ A ∧ A < L ∧ (SetAt w' A [k] ∧ PreAt w' A [] k) ∧ SetAt w' L [] ∧ Below W.heap.size W w') := fun W => nbegin_any _ _ _ _ _ _ k (by omega)
    clear hx hi
    have HB1 : Hid (Below w.heap.size w ((w.alloc (.cells #[.int .i64 0, .string ⟨#[]⟩, .string ⟨#[]⟩, .slice none 0 0] 67)).alloc (.cells #[.int .i64 (k : Int), .string ⟨#[]⟩, .string ⟨#[]⟩, .slice none 0 0] 67))) := B1
    have HR1 : Hid (Box4 ((w.alloc (.cells #[.int .i64 0, .string ⟨#[]⟩, .string ⟨#[]⟩, .slice none 0 0] 67)).alloc (.cells #[.int .i64 (k : Int), .string ⟨#[]⟩, .string ⟨#[]⟩, .slice none 0 0] 67)) w.heap.size (.int .i64 0) (.string ⟨#[]⟩) (.string ⟨#[]⟩) (.slice none 0 0)) := R1
    have HM1 : Hid (Box4 ((w.alloc (.cells #[.int .i64 0, .string ⟨#[]⟩, .string ⟨#[]⟩, .slice none 0 0] 67)).alloc (.cells #[.int .i64 (k : Int), .string ⟨#[]⟩, .string ⟨#[]⟩, .slice none 0 0] 67)) (w.heap.size + 1) (.int .i64 (k : Int)) (.string ⟨#[]⟩) (.string ⟨#[]⟩) (.slice none 0 0)) := M1
    clear B1 R1 M1
    go_enter Tryz.func37, Tryz.ntmps37
    go_upto_region 2 with fail
    generalize (w.alloc (.cells #[.int .i64 0, .string ⟨#[]⟩, .string ⟨#[]⟩, .slice none 0 0] 67)).alloc (.cells #[.int .i64 (k : Int), .string ⟨#[]⟩, .string ⟨#[]⟩, .slice none 0 0] 67) = w1 at *
    have BG1 := BG.out w1
    go_upto_region 5 with (first
      | (go_at_call 69; refine IS.mono ?_; rintro e w2 ⟨rfl, hww⟩; subst hww)
      | (go_at_call 70; refine BG1.mono ?_; clear BG1; rintro e w2 ⟨A1, L1, rfl, hA1, hAL1, ⟨S1, P1⟩, SL1, hb2⟩; have BG2 := BG.out w2)
      | (go_at_call 70; refine BG2.mono ?_; clear BG2; rintro e w3 ⟨A2, L2, rfl, hA2, hAL2, ⟨S2, _⟩, SL2, hb3⟩))
    have hz2 := hb2.size
    have hz3 := hb3.size
    have B3 : Below w.heap.size w w3 := HB1.out.trans ((hb2.mono HB1.out.size).trans (hb3.mono (Nat.le_trans HB1.out.size hb2.size)))
    have B4 : Below w.heap.size w ((w3.alloc (.cells #[.slice (some ⟨b, o, none⟩) rs.length c, .slice p cl.length cc, .map (some A1), .map (some L1)] 94)).alloc (.cells #[.slice (some ⟨b, o, none⟩) rs.length c, .slice p cl.length cc, .map (some A2), .map (some L2)] 94)) := (B3.alloc B3.size _).alloc (by have := B3.size; simp; omega) _
    have b34 : Below w3.heap.size w3 ((w3.alloc (.cells #[.slice (some ⟨b, o, none⟩) rs.length c, .slice p cl.length cc, .map (some A1), .map (some L1)] 94)).alloc (.cells #[.slice (some ⟨b, o, none⟩) rs.length c, .slice p cl.length cc, .map (some A2), .map (some L2)] 94)) := ((Below.refl _ w3).alloc (Nat.le_refl _) _).alloc (by simp) _
    have HX8 : Hid (Box4 ((w3.alloc (.cells #[.slice (some ⟨b, o, none⟩) rs.length c, .slice p cl.length cc, .map (some A1), .map (some L1)] 94)).alloc (.cells #[.slice (some ⟨b, o, none⟩) rs.length c, .slice p cl.length cc, .map (some A2), .map (some L2)] 94)) w3.heap.size (.slice (some ⟨b, o, none⟩) rs.length c) (.slice p cl.length cc) (.map (some A1)) (.map (some L1))) := (box4_new w3 _ _ _ _ _).below ((Below.refl _ _).alloc (Nat.le_refl _) _)
    have HX9 : Hid (Box4 ((w3.alloc (.cells #[.slice (some ⟨b, o, none⟩) rs.length c, .slice p cl.length cc, .map (some A1), .map (some L1)] 94)).alloc (.cells #[.slice (some ⟨b, o, none⟩) rs.length c, .slice p cl.length cc, .map (some A2), .map (some L2)] 94)) (w3.heap.size + 1) (.slice (some ⟨b, o, none⟩) rs.length c) (.slice p cl.length cc) (.map (some A2)) (.map (some L2))) := by
      have h := box4_new (w3.alloc (.cells #[.slice (some ⟨b, o, none⟩) rs.length c, .slice p cl.length cc, .map (some A1), .map (some L1)] 94)) (.slice (some ⟨b, o, none⟩) rs.length c) (.slice p cl.length cc) (.map (some A2)) (.map (some L2)) 94
      simp only [World.size_alloc] at h
      exact h
    have b24 := hb3.trans (b34.mono hb3.size)
    have HS1 : Hid (SetAt ((w3.alloc (.cells #[.slice (some ⟨b, o, none⟩) rs.length c, .slice p cl.length cc, .map (some A1), .map (some L1)] 94)).alloc (.cells #[.slice (some ⟨b, o, none⟩) rs.length c, .slice p cl.length cc, .map (some A2), .map (some L2)] 94)) A1 [k]) := S1.below b24
    have HP1 : Hid (PreAt ((w3.alloc (.cells #[.slice (some ⟨b, o, none⟩) rs.length c, .slice p cl.length cc, .map (some A1), .map (some L1)] 94)).alloc (.cells #[.slice (some ⟨b, o, none⟩) rs.length c, .slice p cl.length cc, .map (some A2), .map (some L2)] 94)) A1 [] k) := P1.below b24
    have HL1 : Hid (SetAt ((w3.alloc (.cells #[.slice (some ⟨b, o, none⟩) rs.length c, .slice p cl.length cc, .map (some A1), .map (some L1)] 94)).alloc (.cells #[.slice (some ⟨b, o, none⟩) rs.length c, .slice p cl.length cc, .map (some A2), .map (some L2)] 94)) L1 []) := SL1.below b24
    have HS2 : Hid (SetAt ((w3.alloc (.cells #[.slice (some ⟨b, o, none⟩) rs.length c, .slice p cl.length cc, .map (some A1), .map (some L1)] 94)).alloc (.cells #[.slice (some ⟨b, o, none⟩) rs.length c, .slice p cl.length cc, .map (some A2), .map (some L2)] 94)) A2 [k]) := S2.below b34
    have HL2 : Hid (SetAt ((w3.alloc (.cells #[.slice (some ⟨b, o, none⟩) rs.length c, .slice p cl.length cc, .map (some A1), .map (some L1)] 94)).alloc (.cells #[.slice (some ⟨b, o, none⟩) rs.length c, .slice p cl.length cc, .map (some A2), .map (some L2)] 94)) L2 []) := SL2.below b34
    have b14 : Below _ _ _ := hb2.trans (b24.mono hb2.size)
    have HR4 := HR1.out.below b14
    have HM4 : Hid (Box4 ((w3.alloc (.cells #[.slice (some ⟨b, o, none⟩) rs.length c, .slice p cl.length cc, .map (some A1), .map (some L1)] 94)).alloc (.cells #[.slice (some ⟨b, o, none⟩) rs.length c, .slice p cl.length cc, .map (some A2), .map (some L2)] 94)) (w.heap.size + 1) (.int .i64 (k : Int)) (.string ⟨#[]⟩) (.string ⟨#[]⟩) (.slice none 0 0)) := HM1.out.below b14
    have HR : Hid (Box4 ((w3.alloc (.cells #[.slice (some ⟨b, o, none⟩) rs.length c, .slice p cl.length cc, .map (some A1), .map (some L1)] 94)).alloc (.cells #[.slice (some ⟨b, o, none⟩) rs.length c, .slice p cl.length cc, .map (some A2), .map (some L2)] 94)) w.heap.size (.int .i64 0) (.string ⟨#[]⟩) (.string ⟨#[]⟩) (.slice none 0 0)) := HR4
    have HB4 : Hid (Below w.heap.size w ((w3.alloc (.cells #[.slice (some ⟨b, o, none⟩) rs.length c, .slice p cl.length cc, .map (some A1), .map (some L1)] 94)).alloc (.cells #[.slice (some ⟨b, o, none⟩) rs.length c, .slice p cl.length cc, .map (some A2), .map (some L2)] 94))) := B4
    have z4 : ((w3.alloc (.cells #[.slice (some ⟨b, o, none⟩) rs.length c, .slice p cl.length cc, .map (some A1), .map (some L1)] 94)).alloc (.cells #[.slice (some ⟨b, o, none⟩) rs.length c, .slice p cl.length cc, .map (some A2), .map (some L2)] 94)).heap.size = w3.heap.size + 2 := by simp
    have s1l := S1.lt
    have s2l := S2.lt
    have l1l := SL1.lt
    have l2l := SL2.lt
    clear BG IS HB1 HR1 HM1 S1 P1 SL1 S2 SL2 hb2 hb3 B3 B4 b34 b24 b14 HR4
    have hM : w.heap.size + 1 < A1 ∧ A1 < L1 ∧ L1 < A2 ∧ A2 < L2 ∧ L2 < w3.heap.size := ⟨by omega, by omega, by omega, by omega, by omega⟩
    clear hA1 hAL1 hA2 hAL2 s1l s2l l1l l2l hz2 hz3 z1
    generalize hX : w3.heap.size = X at *
    generalize (w3.alloc (.cells #[.slice (some ⟨b, o, none⟩) rs.length c, .slice p cl.length cc, .map (some A1), .map (some L1)] 94)).alloc (.cells #[.slice (some ⟨b, o, none⟩) rs.length c, .slice p cl.length cc, .map (some A2), .map (some L2)] 94) = w4 at *
    clear hX
    obtain ⟨hM1, hM2, hM3, hM4, hM5⟩ := hM
    have HN4 : Hid (Nx w4 b o c rs d (.slice p cl.length cc) cl) := NX.out.below HB4.out
    have IS4 := dis_any HN4.out.cx.doc (k : Int) true
    have hlv : Tn.lvD d k = true := hlv
    have hiE : Tn.isN d (k : Int) true = Tn.has (Tn.nd d k).tag := isN_el (by rw [Tn.isN_iff]; exact hlv)
    rw [hiE] at IS4
    have RO := oof_any HN4.out.cx (k : Int)
    have KO : Hid (∀ w (r : Int), Kn.TabAt w → Calls Tryz.prog 41 #[.int .i64 r] w fun e w' => ∃ nm x1 x2 x3 x4 z, e = .returned (.agg #[.string nm, .bool x1, .bool x2, .bool x3, .bool x4, .bool (namedI r), .int .i64 z]) ∧ Below w.heap.size w w') := fun w r h => (Kn.of_any h r).mono (by
      rintro e w' ⟨rfl, h⟩
      exact ⟨_, _, _, _, _, _, rfl, h⟩)
    have TB : Hid (∀ w, Below w4.heap.size w4 w → Kn.TabAt w) := fun w hb => HN4.out.cx.tab.below hb
    have fields := field_named
    clear hiE
    go_upto_region 6 with (go_at_call 69; refine IS4.mono ?_; rintro e w5 ⟨rfl, hww⟩; subst hww)
    clear IS4
    have NS1 : Hid (Asks d cl k (memoD d cl (k : Int)).name (memoD d cl (k : Int)).about [k] [k] ∧ (memoD d cl (k : Int)).name = emB ∧ (memoD d cl (k : Int)).about = emB ∨ (!Tn.has (Tn.nd d k).tag || namedI (roleD d (k : Int))) = true) := by
      cases hq : (!Tn.has (Tn.nd d k).tag || namedI (roleD d (k : Int))) with
      | true => exact Or.inr rfl
      | false =>
        have e := memo_not (cl := cl) hlv hq
        refine Or.inl ⟨⟨rfl, rfl, by simpa using hlv, by simpa using hlv, by simp, by simp, lineD d (k : Int), by rw [e], fun j => by simp⟩, by rw [e], by rw [e]⟩
    have PM : Hid ((!Tn.has (Tn.nd d k).tag || namedI (roleD d (k : Int))) = true → MemoP d cl k (nameF 64 d cl ⟨[], lineD d (k : Int), []⟩ k false) (abR d cl k (nameF 64 d cl ⟨[], lineD d (k : Int), []⟩ k false).1 (nameF 64 d cl ⟨[], lineD d (k : Int), []⟩ k false).2.asked)) := fun hq => memo_asked NX.out.cx.fine NX.out.cx.vn NX.out.vt NX.out.forest hlv hq
    go_cut [10, 37] from 28 to 36 (fun _ tv wc => tv = .bool (!Tn.has (Tn.nd d k).tag || namedI (roleD d (k : Int))) ∧ Below w5.heap.size w5 wc)
    case first =>
      have KO5 := fun w hb => KO.out w (roleD d (k : Int)) (TB.out w hb)
      clear NS1 PM KO TB
      cases hq : Tn.has (Tn.nd d k).tag with
      | false =>
        go_wp2_with fail
        go_meet
        exact ⟨by rw [hq]; simp, Below.refl _ _⟩
      | true =>
        go_wp2_with (first
          | (go_at_call 40; refine RO.mono ?_; rintro e w6 ⟨rfl, hb6⟩; have KO6 := KO5 w6 hb6)
          | (go_at_call 41; refine KO6.mono ?_; rintro e w7 ⟨nm, x1, x2, x3, x4, z, rfl, hb7⟩))
        go_meet
        exact ⟨by rw [hq]; simp, hb6.trans (hb7.mono hb6.size)⟩
    case rest =>
    obtain ⟨rfl, hbc⟩ := hcut
    have HNc : Hid (Nx wc b o c rs d (.slice p cl.length cc) cl) := HN4.out.below hbc
    have HBc : Hid (Below w.heap.size w wc) := HB4.out.trans (hbc.mono HB4.out.size)
    have x8 := HX8.out.below hbc
    have x9 := HX9.out.below hbc
    have HS1c : Hid (SetAt wc A1 [k]) := HS1.out.below hbc
    have HP1c : Hid (PreAt wc A1 [] k) := HP1.out.below hbc
    have HL1c : Hid (SetAt wc L1 []) := HL1.out.below hbc
    have HS2c : Hid (SetAt wc A2 [k]) := HS2.out.below hbc
    have HL2c : Hid (SetAt wc L2 []) := HL2.out.below hbc
    have m4 := HM4.out.below hbc
    have HRc : Hid (Box4 wc w.heap.size (.int .i64 0) (.string ⟨#[]⟩) (.string ⟨#[]⟩) (.slice none 0 0)) := HR.out.below hbc
    have zc : X + 2 ≤ wc.heap.size := by have := hbc.size; omega
    clear HN4 HB4 HX8 HX9 HS1 HP1 HL1 HS2 HL2 HM4 HR hbc RO KO TB z4
    have HX8 : Hid (Box4 wc X (.slice (some ⟨b, o, none⟩) rs.length c) (.slice p cl.length cc) (.map (some A1)) (.map (some L1))) := x8
    have HX9 : Hid (Box4 wc (X + 1) (.slice (some ⟨b, o, none⟩) rs.length c) (.slice p cl.length cc) (.map (some A2)) (.map (some L2))) := x9
    have HM4 : Hid (Box4 wc (w.heap.size + 1) (.int .i64 (k : Int)) (.string ⟨#[]⟩) (.string ⟨#[]⟩) (.slice none 0 0)) := m4
    clear x8 x9 m4
    go_upto_if 37 with fail
    go_cut [] from 37 to 47 (fun wd => ∃ nm ab T1 T2, Box4 wd (w.heap.size + 1) (.int .i64 (k : Int)) (.string nm) (.string ab) (.slice none 0 0) ∧ SetAt wd A1 T1 ∧ SetAt wd A2 T2 ∧ Hid (Asks d cl k nm ab T1 T2) ∧ Bt [A1, L1, A2, L2, w.heap.size + 1] wc wd)
    case first =>
      cases hq : (!Tn.has (Tn.nd d k).tag || namedI (roleD d (k : Int))) with
      | false =>
        have A0 : Asks d cl k (memoD d cl (k : Int)).name (memoD d cl (k : Int)).about [k] [k] ∧ (memoD d cl (k : Int)).name = emB ∧ (memoD d cl (k : Int)).about = emB := by
          rcases NS1.out with h | h
          · exact h
          · rw [hq] at h; cases h
        have A9 : Hid (Asks d cl k emB emB [k] [k]) := by
          have h := A0.1
          rw [A0.2.1, A0.2.2] at h
          exact h
        clear A0 NS1 PM
        go_wp2_with fail
        go_meet
        exact ⟨emB, emB, [k], [k], HM4.out, HS1c.out, HS2c.out, A9, Bt.refl _ _⟩
      | true =>
        have P9 := PM.out hq
        have NM : Calls Tryz.prog 71 #[.agg #[.slice (some ⟨b, o, none⟩) rs.length c, .slice p cl.length cc, .map (some A1), .map (some L1)], .int .i64 (k : Int), .bool false] wc fun e w' =>
            e = .returned (.string (nameF 64 d cl ⟨[], lineD d (k : Int), []⟩ k false).1) ∧ SetAt w' A1 (nameF 64 d cl ⟨[], lineD d (k : Int), []⟩ k false).2.had ∧ SetAt w' L1 (nameF 64 d cl ⟨[], lineD d (k : Int), []⟩ k false).2.lst ∧ Bt [A1, L1] wc w' :=
          nname_all (A := A1) (L := L1) (by omega) 64 wc ⟨[], lineD d (k : Int), []⟩ k false HNc.out HP1c.out HL1c.out ⟨by simp, by simp, by simp, by simp⟩ (by simp) hlv (by simp)
        have NAB : Hid (∀ w6, Nx w6 b o c rs d (.slice p cl.length cc) cl → SetAt w6 A2 [k] → SetAt w6 L2 [] → Calls Tryz.prog 72 #[.agg #[.slice (some ⟨b, o, none⟩) rs.length c, .slice p cl.length cc, .map (some A2), .map (some L2)], .int .i64 (k : Int), .string (nameF 64 d cl ⟨[], lineD d (k : Int), []⟩ k false).1] w6 fun e w' =>
            e = .returned (.string (abR d cl k (nameF 64 d cl ⟨[], lineD d (k : Int), []⟩ k false).1 (nameF 64 d cl ⟨[], lineD d (k : Int), []⟩ k false).2.asked).1) ∧ SetAt w' A2 (abR d cl k (nameF 64 d cl ⟨[], lineD d (k : Int), []⟩ k false).1 (nameF 64 d cl ⟨[], lineD d (k : Int), []⟩ k false).2.asked).2.had ∧ Bt [A2, L2] w6 w') := fun w6 h1 h2 h3 => nabout_of (by omega) h1 k h2 h3 hlv _ _
        generalize abR d cl k (nameF 64 d cl ⟨[], lineD d (k : Int), []⟩ k false).1 (nameF 64 d cl ⟨[], lineD d (k : Int), []⟩ k false).2.asked = a9 at *
        generalize nameF 64 d cl ⟨[], lineD d (k : Int), []⟩ k false = r9 at *
        have A9 : Hid (Asks d cl k r9.1 a9.1 r9.2.had a9.2.had) := ⟨P9.name, P9.about, P9.ok1.live, P9.ok2.live, Nat.le_trans (P9.ok1.few hF) (by decide), Nat.le_trans (P9.ok2.few hF) (by decide), P9.uses⟩
        clear P9 NS1 PM
        have k8 := HX8.out
        obtain ⟨e0, e1, e2, e3, _⟩ := k8
        have k9 := HX9.out
        obtain ⟨g0, g1, g2, g3, _⟩ := k9
        have km := HM4.out
        obtain ⟨j0, j1, j2, j3, jf⟩ := km
        have MM : Hid (AreMaps [A1, L1] wc) := maps2 HS1c.out HL1c.out
        have N5 : Hid (∀ w5, Bt [A1, L1] wc w5 → ∀ v, Nx (w5.setCell ⟨w.heap.size + 1, 1, none⟩ v) b o c rs d (.slice p cl.length cc) cl ∧ SetAt (w5.setCell ⟨w.heap.size + 1, 1, none⟩ v) A2 [k] ∧ SetAt (w5.setCell ⟨w.heap.size + 1, 1, none⟩ v) L2 []) := fun w5 h5 v => by
          refine ⟨NX.out.below ((HBc.out.trans (h5.low HBc.out.size (by simp; omega))).setCell (p := ⟨w.heap.size + 1, 1, none⟩) (by simp) v), (HS2c.out.bt h5 (by simp; omega)).set (by simp; omega) v, (HL2c.out.bt h5 (by simp; omega)).set (by simp; omega) v⟩
        have X5 : Hid (∀ w5, Bt [A1, L1] wc w5 → Box4 w5 (X + 1) (.slice (some ⟨b, o, none⟩) rs.length c) (.slice p cl.length cc) (.map (some A2)) (.map (some L2)) ∧ Box4 w5 (w.heap.size + 1) (.int .i64 (k : Int)) (.string ⟨#[]⟩) (.string ⟨#[]⟩) (.slice none 0 0)) := fun w5 h5 => ⟨HX9.out.bt h5 (by simp; omega), HM4.out.bt h5 (by simp; omega)⟩
        go_wp2_with (first
          | (go_at_call 71; refine NM.mono ?_; rintro e w6 ⟨rfl, hS6, hL6, hb6⟩; have X6 := X5.out w6 hb6; have Y6 := (X6.1.other (a := ⟨w.heap.size + 1, 1, none⟩) (by simp; omega) (.string r9.1)); obtain ⟨y0, y1, y2, y3, _⟩ := Y6; obtain ⟨l0, l1, l2, l3, lf⟩ := X6.2; have lf1 := lf 1; have lf2 := lf 2; have Q6 := N5.out w6 hb6 (.string r9.1); have AB := NAB.out _ Q6.1 Q6.2.1 Q6.2.2; clear Q6)
          | (go_at_call 72; refine AB.mono ?_; rintro e w7 ⟨rfl, hS7, hb7⟩; have M7 := ((X5.out w6 hb6).2.set1 (.string r9.1)).bt hb7 (by simp; omega); obtain ⟨o0, o1, o2, o3, of⟩ := M7; have of2 := of 2))
        go_meet
        refine ⟨r9.1, a9.1, r9.2.had, a9.2.had, (((X5.out w6 hb6).2.set1 (.string r9.1)).bt hb7 (by simp; omega)).set2 (.string a9.1), ?_, hS7.set (by simp; omega) _, A9, ?_⟩
        · exact ((hS6.set (by simp; omega) _).bt hb7 (by simp; omega)).set (by simp; omega) _
        · exact ((((hb6.wide (by simp)).set (by simp) _).trans (hb7.wide (by simp))).set (by simp) _)
    case rest =>
    obtain ⟨nm, ab, T1, T2, hbx, hT1, hT2, AS, hbt⟩ := hcut
    have Bw : Below w.heap.size w wc := HBc.out.trans (hbt.low HBc.out.size (by simp; omega))
    have x8 := HX8.out.bt hbt (by simp; omega)
    have x9 := HX9.out.bt hbt (by simp; omega)
    have hr := HRc.out.bt hbt (by simp; omega)
    have zw : X + 2 ≤ wc.heap.size := Nat.le_trans zc hbt.size
    have hBW : Below wc.heap.size wc (wc.alloc (.cells #[.map (some A1), .map (some A2)] 92)) := (Below.refl _ _).alloc (Nat.le_refl _) _
    have zW : (wc.alloc (.cells #[.map (some A1), .map (some A2)] 92)).heap.size = wc.heap.size + 1 := by simp
    obtain ⟨L, hLU, hLM⟩ := AS.out.uses
    have UB := nuses_any (w := wc.alloc (.cells #[.map (some A1), .map (some A2)] 92)) (g := wc.heap.size) (NX.out.below (Bw.alloc Bw.size (.cells #[.map (some A1), .map (some A2)] 92))).cx (fun j => if j = 0 then A1 else A2) (fun j => if j = 0 then T1 else T2) (fun j hj => by
        have h := box2 wc (.map (some A1)) (.map (some A2)) 92
        match j, hj with
        | 0, _ => exact h.1
        | 1, _ => exact h.2) (fun j hj => by
        match j, hj with
        | 0, _ => exact hT1.below hBW
        | 1, _ => exact hT2.below hBW) (fun j hj => by
        match j, hj with
        | 0, _ => exact AS.out.le1
        | 1, _ => exact AS.out.le2) (fun j hj => by
        match j, hj with
        | 0, _ => exact AS.out.lv1
        | 1, _ => exact AS.out.lv2) L (fun j => by
        rw [hLM j]
        constructor
        · rintro (h | h)
          · exact ⟨0, by omega, h⟩
          · exact ⟨1, by omega, h⟩
        · rintro ⟨i, hi, h⟩
          match i, hi with
          | 0, _ => exact Or.inl h
          | 1, _ => exact Or.inr h)
    have HU : Hid ((memoD d cl (k : Int)).uses = usesD d L) := hLU
    have HNm : Hid ((memoD d cl (k : Int)).name = nm ∧ (memoD d cl (k : Int)).about = ab) := ⟨AS.out.name, AS.out.about⟩
    have HBx : Hid (Box4 wc (w.heap.size + 1) (.int .i64 (k : Int)) (.string nm) (.string ab) (.slice none 0 0)) := hbx
    have HRx : Hid (Box4 wc w.heap.size (.int .i64 0) (.string ⟨#[]⟩) (.string ⟨#[]⟩) (.slice none 0 0)) := hr
    obtain ⟨e0, e1, e2, e3, _⟩ := x8
    obtain ⟨g0, g1, g2, g3, _⟩ := x9
    have HW : Hid (Below w.heap.size w wc) := Bw
    clear hLU hLM hbx hr hT1 hT2 AS hbt NS1 PM HNc HBc HS1c HP1c HL1c HS2c HL2c HRc HX8 HX9 HM4 Bw
    go_wp2_with (go_at_call 73; refine UB.mono ?_; clear UB; rintro e w8 ⟨v, rfl, hov, hb8⟩; obtain ⟨pv, cv, rfl⟩ := hov.shape; have B8 := hBW.trans (hb8.mono (by omega)); have R8 := HRx.out.below B8; have R8a := R8; have M8 := HBx.out.below B8; obtain ⟨r0, r1, r2, r3, rf⟩ := R8; obtain ⟨m0, m1, m2, m3, mf⟩ := M8; have f0 := rf 0; have f1 := rf 1; have f2 := rf 2; have f3 := rf 3; have h3 := mf 3; have HV : Hid (OwnI w8 (wc.heap.size + 1) (.slice pv (usesD d L).length cv) (usesD d L)) := (by rw [zW] at hov; exact hov); clear hov)
    have BF := HW.out.trans (B8.mono HW.out.size)
    have F1 := R8a.other (a := ⟨w.heap.size + 1, 3, none⟩) (by simp) (.slice pv (usesD d L).length cv)
    have G0 := F1.set0 (.int .i64 (k : Int))
    have G1 := G0.set1 (.string nm)
    have G2 := G1.set2 (.string ab)
    have G3 := G2.set3 (.slice pv (usesD d L).length cv)
    obtain ⟨r0', r1', r2', r3', _⟩ := G3
    have h8 : w.heap.size + 2 ≤ wc.heap.size := by omega
    refine bodyPost_ret (v := .agg #[.int .i64 (k : Int), .string nm, .string ab, .slice pv (usesD d L).length cv]) (by simp only [results, Tryz.results37, go_sem]; simp [go_sem, r0', r1', r2', r3']) rfl ⟨.slice pv (usesD d L).length cv, by rw [HNm.out.1, HNm.out.2], ?_, ?_⟩
    · rw [HU.out]
      have h1 := HV.out
      unfold OwnI at h1 ⊢
      refine ownsRow_base_a (ownsRow_setCell_below (ownsRow_setCell_below (ownsRow_setCell_below (ownsRow_setCell_below (ownsRow_setCell_below h1 (by simp; omega) _) (by simp; omega) _) (by simp; omega) _) (by simp; omega) _) (by simp; omega) _) (by omega)
    · exact ((((BF.setCell (p := ⟨w.heap.size + 1, 3, none⟩) (by simp) _).setCell (p := ⟨w.heap.size, 0, none⟩) (by simp) _).setCell (p := ⟨w.heap.size, 1, none⟩) (by simp) _).setCell (p := ⟨w.heap.size, 2, none⟩) (by simp) _).setCell (p := ⟨w.heap.size, 3, none⟩) (by simp) _
end Go.Proofs.YtbinbojicmhdlaeGreatDoor

/-
  THE WALKS of the functions by which tree asks for a name.
-/
namespace Go.Proofs.YtbinbojicmhdlaeGreatDoor
open Go.RowKit Go.Maps

set_option maxHeartbeats 1600000 in
theorem tbuild1_any {w : World} {b o c D C : Nat} {rs : List Raw} {d : Tn.Dc} {p : Option Addr} {cc : Nat} {cl : List Cl} (hx : Nx w b o c rs d (.slice p cl.length cc) cl)
    (hD : w.cell? ⟨D, 0, none⟩ = some (.slice (some ⟨b, o, none⟩) rs.length c)) (hC : w.cell? ⟨C, 0, none⟩ = some (.slice p cl.length cc)) (n : Int) :
    Calls Tryz.prog 36 #[.int .i64 n, .pointer (some ⟨D, 0, none⟩), .pointer (some ⟨C, 0, none⟩)] w fun e w' => (∃ p c, e = .returned (.agg #[.int .i64 n, .string (memoD d cl n).name, .string (memoD d cl n).about, .slice p (memoD d cl n).uses.length c])) ∧ Below w.heap.size w w' := by
  have B1 : Below w.heap.size w (w.alloc (.cells #[.int .i64 0, .string ⟨#[]⟩, .string ⟨#[]⟩, .slice none 0 0] 67)) := (Below.refl w.heap.size w).alloc (Nat.le_refl _) _
  have z1 : (w.alloc (.cells #[.int .i64 0, .string ⟨#[]⟩, .string ⟨#[]⟩, .slice none 0 0] 67)).heap.size = w.heap.size + 1 := by simp
  have R1 : Hid (Box4 (w.alloc (.cells #[.int .i64 0, .string ⟨#[]⟩, .string ⟨#[]⟩, .slice none 0 0] 67)) w.heap.size (.int .i64 0) (.string ⟨#[]⟩) (.string ⟨#[]⟩) (.slice none 0 0)) := box4_new w _ _ _ _ _
  have NO := nof_any (hx.below B1) n
  have d1 := keeps_below B1 (Nat.le_refl _) _ _ hD
  have c1 := keeps_below B1 (Nat.le_refl _) _ _ hC
  have HB1 : Hid (Below w.heap.size w (w.alloc (.cells #[.int .i64 0, .string ⟨#[]⟩, .string ⟨#[]⟩, .slice none 0 0] 67))) := B1
  clear hx hD hC B1
  generalize memoD d cl n = M at *
  go_enter Tryz.func36, Tryz.ntmps36
  go_upto_region 1 with fail
  generalize hW : w.alloc (.cells #[.int .i64 0, .string ⟨#[]⟩, .string ⟨#[]⟩, .slice none 0 0] 67) = w1 at *
  clear hW
  go_wp2_with (go_at_call 37; refine NO.mono ?_; clear NO; rintro e w2 ⟨v, rfl, hov, hb2⟩; obtain ⟨pv, cv, rfl⟩ := hov.shape; have R2 := R1.out.below hb2; have R2a := R2; obtain ⟨r0, r1, r2, r3, rf⟩ := R2; have f0 := rf 0; have f1 := rf 1; have f2 := rf 2; have f3 := rf 3)
  have G0 := R2a.set0 (.int .i64 n)
  have G1 := G0.set1 (.string M.name)
  have G2 := G1.set2 (.string M.about)
  have G3 := G2.set3 (.slice pv M.uses.length cv)
  obtain ⟨r0', r1', r2', r3', _⟩ := G3
  have BF := HB1.out.trans (hb2.mono (by rw [z1]; omega))
  refine bodyPost_ret (v := .agg #[.int .i64 n, .string M.name, .string M.about, .slice pv M.uses.length cv]) (by simp only [results, Tryz.results36, go_sem]; simp [go_sem, r0', r1', r2', r3']) rfl ⟨⟨pv, cv, rfl⟩, ?_⟩
  exact (((BF.setCell (p := ⟨w.heap.size, 0, none⟩) (by simp) _).setCell (p := ⟨w.heap.size, 1, none⟩) (by simp) _).setCell (p := ⟨w.heap.size, 2, none⟩) (by simp) _).setCell (p := ⟨w.heap.size, 3, none⟩) (by simp) _

theorem task1_idle (w : World) : CallsD Tryz.prog 164 #[] .returning w fun e u' w' => e = .returned (.tuple #[]) ∧ u' = .returning ∧ w' = w := by
  refine callsD_of_wpS Tryz.func164 rfl fun c₀ cs hu => ?_
  apply wpS_region
  simp [wpOpsS, go_sem, recoverD, hu, Tryz.ntmps164, bodyPostS, results, Tryz.results164]
  cases c₀
  simp_all

set_option maxHeartbeats 1600000 in
theorem task_any {w : World} {b o c D C : Nat} {rs : List Raw} {d : Tn.Dc} {p : Option Addr} {cc : Nat} {cl : List Cl} (hx : Nx w b o c rs d (.slice p cl.length cc) cl)
    (hD : w.cell? ⟨D, 0, none⟩ = some (.slice (some ⟨b, o, none⟩) rs.length c)) (hC : w.cell? ⟨C, 0, none⟩ = some (.slice p cl.length cc)) (n : Int) :
    Calls Tryz.prog 142 #[.agg #[.slice (some ⟨b, o, none⟩) rs.length c, .slice p cl.length cc, .func (.func 36) #[] #[.pointer (some ⟨D, 0, none⟩), .pointer (some ⟨C, 0, none⟩)]], .int .i64 n] w fun e w' => (∃ p c, e = .returned (.agg #[.int .i64 n, .string (memoD d cl n).name, .string (memoD d cl n).about, .slice p (memoD d cl n).uses.length c])) ∧ Below w.heap.size w w' := by
  have B1 : Below w.heap.size w ((w.alloc (.cells #[.slice (some ⟨b, o, none⟩) rs.length c, .slice p cl.length cc, .func (.func 36) #[] #[.pointer (some ⟨D, 0, none⟩), .pointer (some ⟨C, 0, none⟩)]] 90)).alloc (.cells #[.int .i64 0, .string ⟨#[]⟩, .string ⟨#[]⟩, .slice none 0 0] 67)) := ((Below.refl w.heap.size w).alloc (Nat.le_refl _) _).alloc (by simp) _
  have z1 : ((w.alloc (.cells #[.slice (some ⟨b, o, none⟩) rs.length c, .slice p cl.length cc, .func (.func 36) #[] #[.pointer (some ⟨D, 0, none⟩), .pointer (some ⟨C, 0, none⟩)]] 90)).alloc (.cells #[.int .i64 0, .string ⟨#[]⟩, .string ⟨#[]⟩, .slice none 0 0] 67)).heap.size = w.heap.size + 2 := by simp
  have R1 : Hid (Box4 ((w.alloc (.cells #[.slice (some ⟨b, o, none⟩) rs.length c, .slice p cl.length cc, .func (.func 36) #[] #[.pointer (some ⟨D, 0, none⟩), .pointer (some ⟨C, 0, none⟩)]] 90)).alloc (.cells #[.int .i64 0, .string ⟨#[]⟩, .string ⟨#[]⟩, .slice none 0 0] 67)) (w.heap.size + 1) (.int .i64 0) (.string ⟨#[]⟩) (.string ⟨#[]⟩) (.slice none 0 0)) := by
    have h := box4_new (w.alloc (.cells #[.slice (some ⟨b, o, none⟩) rs.length c, .slice p cl.length cc, .func (.func 36) #[] #[.pointer (some ⟨D, 0, none⟩), .pointer (some ⟨C, 0, none⟩)]] 90)) (.int .i64 0) (.string ⟨#[]⟩) (.string ⟨#[]⟩) (.slice none 0 0) 67
    simp only [World.size_alloc] at h
    exact h
  have q := box3 w (.slice (some ⟨b, o, none⟩) rs.length c) (.slice p cl.length cc) (.func (.func 36) #[] #[.pointer (some ⟨D, 0, none⟩), .pointer (some ⟨C, 0, none⟩)]) 90 (.cells #[.int .i64 0, .string ⟨#[]⟩, .string ⟨#[]⟩, .slice none 0 0] 67)
  have AK := tbuild1_any (hx.below B1) (keeps_below B1 (Nat.le_refl _) _ _ hD) (keeps_below B1 (Nat.le_refl _) _ _ hC) n
  have HB1 : Hid (Below w.heap.size w ((w.alloc (.cells #[.slice (some ⟨b, o, none⟩) rs.length c, .slice p cl.length cc, .func (.func 36) #[] #[.pointer (some ⟨D, 0, none⟩), .pointer (some ⟨C, 0, none⟩)]] 90)).alloc (.cells #[.int .i64 0, .string ⟨#[]⟩, .string ⟨#[]⟩, .slice none 0 0] 67))) := B1
  clear hx hD hC B1
  generalize memoD d cl n = M at *
  obtain ⟨q0, q1, q2⟩ := q
  go_enter_defers Tryz.func142, Tryz.ntmps142
  go_wp2_with (go_at_call 36; refine AK.mono ?_; clear AK; rintro e w2 ⟨⟨pv, cv, rfl⟩, hb2⟩; have R2 := R1.out.below hb2; have R2a := R2; obtain ⟨r0, r1, r2, r3, rf⟩ := R2; have f0 := rf 0; have f1 := rf 1; have f2 := rf 2; have f3 := rf 3)
  have G0 := R2a.set0 (.int .i64 n)
  have G1 := G0.set1 (.string M.name)
  have G2 := G1.set2 (.string M.about)
  have G3 := G2.set3 (.slice pv M.uses.length cv)
  obtain ⟨r0', r1', r2', r3', _⟩ := G3
  have BF := HB1.out.trans (hb2.mono (by rw [z1]; omega))
  refine leaves_cons (f := 164) (args := #[]) (by simp) (by simp [go_sem]) ?_
  refine (task1_idle _).mono ?_
  rintro e u' w'' ⟨rfl, rfl, rfl⟩
  simp [Leaves, settle, results, Tryz.results142, go_sem, r0', r1', r2', r3']
  exact (((BF.setCell (p := ⟨w.heap.size + 1, 0, none⟩) (by simp) _).setCell (p := ⟨w.heap.size + 1, 1, none⟩) (by simp) _).setCell (p := ⟨w.heap.size + 1, 2, none⟩) (by simp) _).setCell (p := ⟨w.heap.size + 1, 3, none⟩) (by simp) _
end Go.Proofs.YtbinbojicmhdlaeGreatDoor

/-
  THE WALKS of tree's isTold, levelOfTag, isOff, nested, Level, Checked.
-/
namespace Go.Proofs.YtbinbojicmhdlaeGreatDoor
open Go.RowKit Go.Maps

theorem field_leaf (x0 x1 x2 x3 x4 x5 x6 : Value) (w : World) : (Instr.field 49 (.agg #[x0, x1, x2, x3, x4, x5, x6]) 2).run Tryz.prog w = .ok x2 w := by kernel_rfl
theorem field_level (x0 x1 x2 x3 x4 x5 x6 : Value) (w : World) : (Instr.field 49 (.agg #[x0, x1, x2, x3, x4, x5, x6]) 3).run Tryz.prog w = .ok x3 w := by kernel_rfl
theorem field_checked (x0 x1 x2 x3 x4 x5 x6 : Value) (w : World) : (Instr.field 49 (.agg #[x0, x1, x2, x3, x4, x5, x6]) 4).run Tryz.prog w = .ok x4 w := by kernel_rfl

set_option maxHeartbeats 800000 in
theorem ttold_any (w : World) (r : Int) : Calls Tryz.prog 109 #[.int .i64 r] w fun e w' => e = .returned (.bool (!bareI r)) ∧ w' = w := by
  by_cases h18 : r = 18
  · subst h18
    go_enter Tryz.func109, Tryz.ntmps109
    go_wp2_with fail
    go_ret
    exact ⟨rfl, rfl⟩
  · by_cases h0 : r = 0
    · subst h0
      go_enter Tryz.func109, Tryz.ntmps109
      go_wp2_with fail
      go_ret
      exact ⟨rfl, rfl⟩
    · have e : bareI r = false := by unfold bareI; simp [h0, h18]
      rw [e]
      clear e
      go_enter Tryz.func109, Tryz.ntmps109
      go_wp2_with fail
      go_ret
      exact ⟨by simp [h0, h18], rfl⟩

set_option maxHeartbeats 800000 in
theorem ttag_any (w : World) (t : ByteArray) : Calls Tryz.prog 44 #[.string t] w fun e w' => e = .returned (.int .i64 (tagLevel t)) ∧ w' = w := by
  cases h1 : isA t [104, 49] with
  | true =>
    have e : tagLevel t = 1 := by unfold tagLevel; rw [h1]; rfl
    have g : (t.toList == [104, 49]) = true := h1
    rw [e]
    go_enter Tryz.func44, Tryz.ntmps44
    go_wp2_with fail
    go_ret
    exact ⟨rfl, rfl⟩
  | false =>
    have g : (t.toList == [104, 49]) = false := h1
    cases h3 : isA t [104, 51] with
    | true =>
      have e : tagLevel t = 3 := by unfold tagLevel; rw [h1, h3]; rfl
      have g3 : (t.toList == [104, 51]) = true := h3
      rw [e]
      go_enter Tryz.func44, Tryz.ntmps44
      go_wp2_with fail
      go_ret
      exact ⟨rfl, rfl⟩
    | false =>
      have e : tagLevel t = 2 := by unfold tagLevel; rw [h1, h3]; rfl
      have g3 : (t.toList == [104, 51]) = false := h3
      rw [e]
      go_enter Tryz.func44, Tryz.ntmps44
      go_wp2_with fail
      go_ret
      exact ⟨rfl, rfl⟩

set_option maxHeartbeats 800000 in
theorem toff_any {w : World} {b o c : Nat} {rs : List Raw} {d : Tn.Dc} (hc : Cx w b o c rs d) (n : Int) : Calls Tryz.prog 141 #[.slice (some ⟨b, o, none⟩) rs.length c, .int .i64 n] w fun e w' => e = .returned (.bool (offD d n)) ∧ Below w.heap.size w w' := by
  have hS := osaid_any hc.doc hc.fine.okd hc.vn n ⟨#[97, 114, 105, 97, 45, 100, 105, 115, 97, 98, 108, 101, 100]⟩
  have hz := said_size hc.vn n ⟨#[97, 114, 105, 97, 45, 100, 105, 115, 97, 98, 108, 101, 100]⟩
  have E : Hid (offD d n = ((lowS (saidN d n ⟨#[97, 114, 105, 97, 45, 100, 105, 115, 97, 98, 108, 101, 100]⟩)).toList == [116, 114, 117, 101])) := rfl
  rw [E.out]
  have hL : ∀ W, Calls Tryz.prog 47 #[.string (saidN d n ⟨#[97, 114, 105, 97, 45, 100, 105, 115, 97, 98, 108, 101, 100]⟩)] W fun e w' => e = .returned (.string (lowS (saidN d n ⟨#[97, 114, 105, 97, 45, 100, 105, 115, 97, 98, 108, 101, 100]⟩))) ∧ Below W.heap.size W w' := fun W => Wd.lower_any _ W hz
  clear hc hz E
  generalize lowS (saidN d n ⟨#[97, 114, 105, 97, 45, 100, 105, 115, 97, 98, 108, 101, 100]⟩) = lo at *
  generalize saidN d n ⟨#[97, 114, 105, 97, 45, 100, 105, 115, 97, 98, 108, 101, 100]⟩ = s at *
  go_enter Tryz.func141, Tryz.ntmps141
  go_wp2_with (first
    | (go_at_call 43; refine hS.mono ?_; rintro e w1 ⟨rfl, hb1⟩)
    | (go_at_call 47; refine (hL _).mono ?_; rintro e w2 ⟨rfl, hb2⟩))
  go_ret
  exact ⟨rfl, hb1.trans (hb2.mono hb1.size)⟩

set_option maxHeartbeats 1600000 in
theorem tnested_any {w : World} {b o c : Nat} {rs : List Raw} {d : Tn.Dc} {p : Option Addr} {cc : Nat} {cl : List Cl} (hx : Nx w b o c rs d (.slice p cl.length cc) cl) (n r : Int) :
    Calls Tryz.prog 45 #[.slice (some ⟨b, o, none⟩) rs.length c, .slice p cl.length cc, .int .i64 n, .int .i64 r] w fun e w' => e = .returned (.int .i64 (nestF d cl r d.length n 0 : Nat)) ∧ Below w.heap.size w w' := by
  have NX : Hid (Nx w b o c rs d (.slice p cl.length cc) cl) := hx
  have ROL : Hid (∀ W m, Below w.heap.size w W → Calls Tryz.prog 40 #[.slice (some ⟨b, o, none⟩) rs.length c, .int .i64 m] W fun e w' => e = .returned (.int .i64 (roleD d m)) ∧ Below W.heap.size W w') := fun W m h => oof_any (NX.out.below h).cx m
  have UPP : Hid (∀ W m, Below w.heap.size w W → Calls Tryz.prog 83 #[.slice (some ⟨b, o, none⟩) rs.length c, .slice p cl.length cc, .int .i64 m] W fun e w' => e = .returned (.int .i64 (inD d cl m)) ∧ Below W.heap.size W w') := fun W m h => vup_any (NX.out.below h).cx.doc (NX.out.below h).cx.fine.okd (NX.out.below h).cls m
  have hl : d.length = rs.length := hx.cx.doc.len.symm
  have hlen : rs.length ≤ 1000 := by rw [← hl]; have := hx.cx.fine.good.len.2; omega
  rw [hl]
  clear hl hx
  go_enter Tryz.func45, Tryz.ntmps45
  go_wp2_with fail
  go_loopw [2, 9, 12] (fun nv kv iv wr => ∃ (j k : Nat) (m : Int), j ≤ rs.length ∧ k ≤ j ∧ iv = .int .i64 j ∧ kv = .int .i64 k ∧ nv = .int .i64 m ∧ Hid (nestF d cl r (rs.length - j) m k = nestF d cl r rs.length n 0) ∧ Below w.heap.size w wr) (fun _ _ iv _ => rs.length - (intOf iv).toNat)
  case atStart => exact ⟨0, 0, n, Nat.zero_le _, Nat.le_refl _, rfl, rfl, rfl, rfl, Below.refl _ _⟩
  case round =>
    obtain ⟨j, k, m, hj, hk, rfl, rfl, rfl, HE, BR⟩ := hrel
    by_cases hlt : j < rs.length
    · have E2 : Hid (nestF d cl r (rs.length - j) m k = nestF d cl r (rs.length - (j + 1)) (inD d cl m) (if roleD d m = r then k + 1 else k)) := by
        show _ = _
        rw [show rs.length - j = (rs.length - (j + 1)) + 1 from by omega, nestF]
      have R1 := ROL.out wr m BR
      have U1 := fun W h => UPP.out W m h
      generalize inD d cl m = m2 at *
      by_cases hr : roleD d m = r
      · have E3 : Hid (nestF d cl r (rs.length - (j + 1)) m2 (k + 1) = nestF d cl r rs.length n 0) := by show _ = _; rw [← HE.out, E2.out, if_pos hr]
        rw [hr] at R1
        clear E2 HE hr
        go_wp2_with (first
          | (go_at_call 40; refine R1.mono ?_; rintro e w1 ⟨rfl, hb1⟩; have B1 := BR.trans (hb1.mono BR.size))
          | (go_at_call 83; refine (U1 _ B1).mono ?_; rintro e w2 ⟨rfl, hb2⟩))
        go_roundw
        case rel => exact ⟨j + 1, k + 1, m2, by omega, by omega, by go_num, by go_num, rfl, E3, B1.trans (hb2.mono B1.size)⟩
        case measure => simp [intOf]; omega
      · have E3 : Hid (nestF d cl r (rs.length - (j + 1)) m2 k = nestF d cl r rs.length n 0) := by show _ = _; rw [← HE.out, E2.out, if_neg hr]
        have hq : (roleD d m == r) = false := by simpa using hr
        clear E2 HE hr
        generalize roleD d m = r2 at *
        go_wp2_with (first
          | (go_at_call 40; refine R1.mono ?_; rintro e w1 ⟨rfl, hb1⟩; have B1 := BR.trans (hb1.mono BR.size))
          | (go_at_call 83; refine (U1 _ B1).mono ?_; rintro e w2 ⟨rfl, hb2⟩))
        go_roundw
        case rel => exact ⟨j + 1, k, m2, by omega, by omega, by go_num, rfl, rfl, E3, B1.trans (hb2.mono B1.size)⟩
        case measure => simp [intOf]; omega
    · obtain rfl : j = rs.length := by omega
      have E3 : Hid (nestF d cl r rs.length n 0 = k) := by show _ = _; rw [← HE.out, Nat.sub_self, nestF]
      clear HE
      go_wp2_with fail
      go_ret
      rw [E3.out]
      exact ⟨rfl, BR⟩

/-- a role's kind, part by part -/
theorem tkind_any {w : World} (T : Kn.TabAt w) (r : Int) : Calls Tryz.prog 41 #[.int .i64 r] w fun e w' => (∃ nm x1 z, e = .returned (.agg #[.string nm, .bool x1, .bool (leafI r), .bool (levelI r), .bool (checkedI r), .bool (namedI r), .int .i64 z])) ∧ Below w.heap.size w w' :=
  (Kn.of_any T r).mono (by
    rintro e w' ⟨rfl, h⟩
    exact ⟨⟨_, _, _, rfl⟩, h⟩)

set_option maxHeartbeats 1600000 in
theorem tlevel_any {w : World} {b o c : Nat} {rs : List Raw} {d : Tn.Dc} {p : Option Addr} {cc : Nat} {cl : List Cl} (hx : Nx w b o c rs d (.slice p cl.length cc) cl) {n : Nat} (hn : Tn.lvD d n = true) :
    Calls Tryz.prog 16 #[.slice (some ⟨b, o, none⟩) rs.length c, .slice p cl.length cc, .int .i64 (n : Int)] w fun e w' => e = .returned (.int .i64 (levelD d cl (n : Int))) ∧ Below w.heap.size w w' := by
  have NX : Hid (Nx w b o c rs d (.slice p cl.length cc) cl) := hx
  have R1 := oof_any hx.cx (n : Int)
  have KI : Hid (∀ W, Below w.heap.size w W → Calls Tryz.prog 41 #[.int .i64 (roleD d (n : Int))] W fun e w' => (∃ nm x1 z, e = .returned (.agg #[.string nm, .bool x1, .bool (leafI (roleD d (n : Int))), .bool (levelI (roleD d (n : Int))), .bool (checkedI (roleD d (n : Int))), .bool (namedI (roleD d (n : Int))), .int .i64 z])) ∧ Below W.heap.size W w') := fun W h => tkind_any (NX.out.below h).cx.tab _
  have SA : Hid (∀ W, Below w.heap.size w W → Calls Tryz.prog 43 #[.slice (some ⟨b, o, none⟩) rs.length c, .int .i64 (n : Int), .string ⟨#[97, 114, 105, 97, 45, 108, 101, 118, 101, 108]⟩] W fun e w' => e = .returned (.string (saidN d (n : Int) ⟨#[97, 114, 105, 97, 45, 108, 101, 118, 101, 108]⟩)) ∧ Below W.heap.size W w') := fun W h => osaid_any (NX.out.below h).cx.doc hx.cx.fine.okd hx.cx.vn (n : Int) _
  have hz := said_size hx.cx.vn (n : Int) ⟨#[97, 114, 105, 97, 45, 108, 101, 118, 101, 108]⟩
  have NU : Hid (∀ W, Calls Tryz.prog 42 #[.string (saidN d (n : Int) ⟨#[97, 114, 105, 97, 45, 108, 101, 118, 101, 108]⟩)] W fun e w' => e = .returned (.int .i64 (numD (saidN d (n : Int) ⟨#[97, 114, 105, 97, 45, 108, 101, 118, 101, 108]⟩) : Nat)) ∧ Below W.heap.size W w') := fun W => Wd.num_any _ W hz
  have TG : Hid (∀ W, Below w.heap.size w W → W.cell? ⟨b, o + n * 9 + 1, none⟩ = some (.string (Tn.nd d n).tag)) := fun W h => (tag_cell (NX.out.below h).cx.doc hn).1
  have hnr := (tag_cell hx.cx.doc hn).2.2
  have hcap := hx.cx.doc.capM
  have hrl : rs.length ≤ 1000 := by rw [hx.cx.doc.len]; have := hx.cx.fine.good.len.2; omega
  have NE : Hid (∀ W, Below w.heap.size w W → Calls Tryz.prog 45 #[.slice (some ⟨b, o, none⟩) rs.length c, .slice p cl.length cc, .int .i64 (n : Int), .int .i64 (roleD d (n : Int))] W fun e w' => e = .returned (.int .i64 (nestF d cl (roleD d (n : Int)) d.length (n : Int) 0 : Nat)) ∧ Below W.heap.size W w') := fun W h => tnested_any (NX.out.below h) _ _
  have E : Hid (levelD d cl (n : Int) = if levelI (roleD d (n : Int)) = false then 0
    else if 1 ≤ numD (saidN d (n : Int) ⟨#[97, 114, 105, 97, 45, 108, 101, 118, 101, 108]⟩) ∧ numD (saidN d (n : Int) ⟨#[97, 114, 105, 97, 45, 108, 101, 118, 101, 108]⟩) ≤ 9 then ((numD (saidN d (n : Int) ⟨#[97, 114, 105, 97, 45, 108, 101, 118, 101, 108]⟩) : Nat) : Int)
    else if roleD d (n : Int) = 4 then tagLevel (Tn.nd d n).tag
    else ((nestF d cl (roleD d (n : Int)) d.length (n : Int) 0 : Nat) : Int)) := rfl
  rw [E.out]
  clear E hz hx hcap
  generalize numD (saidN d (n : Int) ⟨#[97, 114, 105, 97, 45, 108, 101, 118, 101, 108]⟩) = q at *
  generalize saidN d (n : Int) ⟨#[97, 114, 105, 97, 45, 108, 101, 118, 101, 108]⟩ = s at *
  generalize nestF d cl (roleD d (n : Int)) d.length (n : Int) 0 = ne at *
  generalize roleD d (n : Int) = r at *
  generalize (Tn.nd d n).tag = tg at *
  have fl := field_level
  cases hlv : levelI r with
  | false =>
    rw [if_pos rfl]
    have KI1 := KI.out
    rw [hlv] at KI1
    clear hlv
    go_enter Tryz.func16, Tryz.ntmps16
    go_wp2_with (first
      | (go_at_call 40; refine R1.mono ?_; rintro e w1 ⟨rfl, hb1⟩)
      | (go_at_call 41; refine (KI1 _ hb1).mono ?_; rintro e w2 ⟨⟨nm, x1, z, rfl⟩, hb2⟩))
    go_ret
    exact ⟨rfl, hb1.trans (hb2.mono hb1.size)⟩
  | true =>
    rw [if_neg (by simp)]
    have KI1 := KI.out
    rw [hlv] at KI1
    clear hlv
    have C2 : 1 ≤ q ∧ q ≤ 9 ∨ ¬ (1 ≤ q ∧ q ≤ 9) := Classical.em _
    rcases C2 with hq | hq
    · rw [if_pos hq]
      have q1 : (1 : Int) ≤ (q : Int) := by omega
      have q9 : (q : Int) ≤ 9 := by omega
      clear hq
      go_enter Tryz.func16, Tryz.ntmps16
      go_wp2_with (first
        | (go_at_call 40; refine R1.mono ?_; rintro e w1 ⟨rfl, hb1⟩)
        | (go_at_call 41; refine (KI1 _ hb1).mono ?_; rintro e w2 ⟨⟨nm, x1, z, rfl⟩, hb2⟩; have B2 := hb1.trans (hb2.mono hb1.size))
        | (go_at_call 43; refine (SA.out _ B2).mono ?_; rintro e w3 ⟨rfl, hb3⟩; have B3 := B2.trans (hb3.mono B2.size))
        | (go_at_call 42; refine (NU.out _).mono ?_; rintro e w4 ⟨rfl, hb4⟩; have B4 := B3.trans (hb4.mono B3.size)))
      go_ret
      exact ⟨rfl, B4⟩
    · rw [if_neg hq]
      by_cases h4 : r = 4
      · subst h4
        rw [if_pos rfl]
        have T2 : ∀ W, Calls Tryz.prog 44 #[.string tg] W fun e w' => e = .returned (.int .i64 (tagLevel tg)) ∧ w' = W := fun W => ttag_any W tg
        by_cases q1 : 1 ≤ q
        · have q1' : (1 : Int) ≤ (q : Int) := by omega
          have q9 : ¬ (q : Int) ≤ 9 := by omega
          clear hq q1
          go_enter Tryz.func16, Tryz.ntmps16
          go_wp2_with (first
            | (go_at_call 40; refine R1.mono ?_; rintro e w1 ⟨rfl, hb1⟩)
            | (go_at_call 41; refine (KI1 _ hb1).mono ?_; rintro e w2 ⟨⟨nm, x1, z, rfl⟩, hb2⟩; have B2 := hb1.trans (hb2.mono hb1.size))
            | (go_at_call 43; refine (SA.out _ B2).mono ?_; rintro e w3 ⟨rfl, hb3⟩; have B3 := B2.trans (hb3.mono B2.size))
            | (go_at_call 42; refine (NU.out _).mono ?_; rintro e w4 ⟨rfl, hb4⟩; have B4 := B3.trans (hb4.mono B3.size); have tg4 := TG.out _ B4)
            | (go_at_call 44; refine (T2 _).mono ?_; rintro e w5 ⟨rfl, rfl⟩))
          go_ret
          exact ⟨rfl, B4⟩
        · have q1' : ¬ (1 : Int) ≤ (q : Int) := by omega
          clear hq q1
          go_enter Tryz.func16, Tryz.ntmps16
          go_wp2_with (first
            | (go_at_call 40; refine R1.mono ?_; rintro e w1 ⟨rfl, hb1⟩)
            | (go_at_call 41; refine (KI1 _ hb1).mono ?_; rintro e w2 ⟨⟨nm, x1, z, rfl⟩, hb2⟩; have B2 := hb1.trans (hb2.mono hb1.size))
            | (go_at_call 43; refine (SA.out _ B2).mono ?_; rintro e w3 ⟨rfl, hb3⟩; have B3 := B2.trans (hb3.mono B2.size))
            | (go_at_call 42; refine (NU.out _).mono ?_; rintro e w4 ⟨rfl, hb4⟩; have B4 := B3.trans (hb4.mono B3.size); have tg4 := TG.out _ B4)
            | (go_at_call 44; refine (T2 _).mono ?_; rintro e w5 ⟨rfl, rfl⟩))
          go_ret
          exact ⟨rfl, B4⟩
      · rw [if_neg h4]
        have h4q : (r == 4) = false := by simpa using h4
        clear h4
        by_cases q1 : 1 ≤ q
        · have q1' : (1 : Int) ≤ (q : Int) := by omega
          have q9 : ¬ (q : Int) ≤ 9 := by omega
          clear hq q1
          go_enter Tryz.func16, Tryz.ntmps16
          go_wp2_with (first
            | (go_at_call 40; refine R1.mono ?_; rintro e w1 ⟨rfl, hb1⟩)
            | (go_at_call 41; refine (KI1 _ hb1).mono ?_; rintro e w2 ⟨⟨nm, x1, z, rfl⟩, hb2⟩; have B2 := hb1.trans (hb2.mono hb1.size))
            | (go_at_call 43; refine (SA.out _ B2).mono ?_; rintro e w3 ⟨rfl, hb3⟩; have B3 := B2.trans (hb3.mono B2.size))
            | (go_at_call 42; refine (NU.out _).mono ?_; rintro e w4 ⟨rfl, hb4⟩; have B4 := B3.trans (hb4.mono B3.size))
            | (go_at_call 45; refine (NE.out _ B4).mono ?_; rintro e w5 ⟨rfl, hb5⟩))
          go_ret
          exact ⟨rfl, B4.trans (hb5.mono B4.size)⟩
        · have q1' : ¬ (1 : Int) ≤ (q : Int) := by omega
          clear hq q1
          go_enter Tryz.func16, Tryz.ntmps16
          go_wp2_with (first
            | (go_at_call 40; refine R1.mono ?_; rintro e w1 ⟨rfl, hb1⟩)
            | (go_at_call 41; refine (KI1 _ hb1).mono ?_; rintro e w2 ⟨⟨nm, x1, z, rfl⟩, hb2⟩; have B2 := hb1.trans (hb2.mono hb1.size))
            | (go_at_call 43; refine (SA.out _ B2).mono ?_; rintro e w3 ⟨rfl, hb3⟩; have B3 := B2.trans (hb3.mono B2.size))
            | (go_at_call 42; refine (NU.out _).mono ?_; rintro e w4 ⟨rfl, hb4⟩; have B4 := B3.trans (hb4.mono B3.size))
            | (go_at_call 45; refine (NE.out _ B4).mono ?_; rintro e w5 ⟨rfl, hb5⟩))
          go_ret
          exact ⟨rfl, B4.trans (hb5.mono B4.size)⟩

set_option maxHeartbeats 1600000 in
theorem tchecked_any {w : World} {b o c : Nat} {rs : List Raw} {d : Tn.Dc} (hx : Cx w b o c rs d) (n : Int) :
    Calls Tryz.prog 18 #[.slice (some ⟨b, o, none⟩) rs.length c, .int .i64 n] w fun e w' => e = .returned (.int .i64 (checkD d n)) ∧ Below w.heap.size w w' := by
  have NX : Hid (Cx w b o c rs d) := hx
  have R1 := oof_any hx n
  have KI : Hid (∀ W, Below w.heap.size w W → Calls Tryz.prog 41 #[.int .i64 (roleD d n)] W fun e w' => (∃ nm x1 z, e = .returned (.agg #[.string nm, .bool x1, .bool (leafI (roleD d n)), .bool (levelI (roleD d n)), .bool (checkedI (roleD d n)), .bool (namedI (roleD d n)), .int .i64 z])) ∧ Below W.heap.size W w') := fun W h => tkind_any (NX.out.below h).tab _
  have SA : Hid (∀ W, Below w.heap.size w W → Calls Tryz.prog 43 #[.slice (some ⟨b, o, none⟩) rs.length c, .int .i64 n, .string ⟨#[97, 114, 105, 97, 45, 99, 104, 101, 99, 107, 101, 100]⟩] W fun e w' => e = .returned (.string (saidN d n ⟨#[97, 114, 105, 97, 45, 99, 104, 101, 99, 107, 101, 100]⟩)) ∧ Below W.heap.size W w') := fun W h => osaid_any (NX.out.below h).doc hx.fine.okd hx.vn n _
  have hz := said_size hx.vn n ⟨#[97, 114, 105, 97, 45, 99, 104, 101, 99, 107, 101, 100]⟩
  have LO : Hid (∀ W, Calls Tryz.prog 47 #[.string (saidN d n ⟨#[97, 114, 105, 97, 45, 99, 104, 101, 99, 107, 101, 100]⟩)] W fun e w' => e = .returned (.string (lowS (saidN d n ⟨#[97, 114, 105, 97, 45, 99, 104, 101, 99, 107, 101, 100]⟩))) ∧ Below W.heap.size W w') := fun W => Wd.lower_any _ W hz
  have AT : Hid (∀ W, Below w.heap.size w W → Calls Tryz.prog 48 #[.slice (some ⟨b, o, none⟩) rs.length c, .int .i64 n, .string ⟨#[99, 104, 101, 99, 107, 101, 100]⟩] W fun e w' => e = .returned (.tuple #[.string (valN d n ⟨#[99, 104, 101, 99, 107, 101, 100]⟩), .bool (hasN d n ⟨#[99, 104, 101, 99, 107, 101, 100]⟩)]) ∧ Below W.heap.size W w') := fun W h => dattr_all (NX.out.below h).doc hx.fine.okd n _
  have E : Hid (checkD d n = if checkedI (roleD d n) = false then 0
    else if isA (lowS (saidN d n ⟨#[97, 114, 105, 97, 45, 99, 104, 101, 99, 107, 101, 100]⟩)) [116, 114, 117, 101] then 2
    else if isA (lowS (saidN d n ⟨#[97, 114, 105, 97, 45, 99, 104, 101, 99, 107, 101, 100]⟩)) [109, 105, 120, 101, 100] then 3
    else if hasN d n ⟨#[99, 104, 101, 99, 107, 101, 100]⟩ then 2 else 1) := rfl
  rw [E.out]
  clear E hz hx
  generalize lowS (saidN d n ⟨#[97, 114, 105, 97, 45, 99, 104, 101, 99, 107, 101, 100]⟩) = lo at *
  generalize saidN d n ⟨#[97, 114, 105, 97, 45, 99, 104, 101, 99, 107, 101, 100]⟩ = s at *
  generalize roleD d n = r at *
  generalize hasN d n ⟨#[99, 104, 101, 99, 107, 101, 100]⟩ = hs at *
  generalize valN d n ⟨#[99, 104, 101, 99, 107, 101, 100]⟩ = vv at *
  have fl := field_checked
  have KI1 := KI.out
  cases hlv : checkedI r with
  | false =>
    rw [if_pos rfl]
    rw [hlv] at KI1
    clear hlv
    go_enter Tryz.func18, Tryz.ntmps18
    go_wp2_with (first
      | (go_at_call 40; refine R1.mono ?_; rintro e w1 ⟨rfl, hb1⟩)
      | (go_at_call 41; refine (KI1 _ hb1).mono ?_; rintro e w2 ⟨⟨nm, x1, z, rfl⟩, hb2⟩))
    go_ret
    exact ⟨rfl, hb1.trans (hb2.mono hb1.size)⟩
  | true =>
    rw [if_neg (by simp)]
    rw [hlv] at KI1
    clear hlv
    cases ht : isA lo [116, 114, 117, 101] with
    | true =>
      have g1 : (lo.toList == [116, 114, 117, 101]) = true := ht
      rw [if_pos rfl]
      clear ht
      go_enter Tryz.func18, Tryz.ntmps18
      go_wp2_with (first
        | (go_at_call 40; refine R1.mono ?_; rintro e w1 ⟨rfl, hb1⟩)
        | (go_at_call 41; refine (KI1 _ hb1).mono ?_; rintro e w2 ⟨⟨nm, x1, z, rfl⟩, hb2⟩; have B2 := hb1.trans (hb2.mono hb1.size))
        | (go_at_call 43; refine (SA.out _ B2).mono ?_; rintro e w3 ⟨rfl, hb3⟩; have B3 := B2.trans (hb3.mono B2.size))
        | (go_at_call 47; refine (LO.out _).mono ?_; rintro e w4 ⟨rfl, hb4⟩; have B4 := B3.trans (hb4.mono B3.size)))
      go_ret
      exact ⟨rfl, B4⟩
    | false =>
      have g1 : (lo.toList == [116, 114, 117, 101]) = false := ht
      rw [if_neg (by simp)]
      clear ht
      cases hm : isA lo [109, 105, 120, 101, 100] with
      | true =>
        have g2 : (lo.toList == [109, 105, 120, 101, 100]) = true := hm
        rw [if_pos rfl]
        clear hm
        go_enter Tryz.func18, Tryz.ntmps18
        go_wp2_with (first
          | (go_at_call 40; refine R1.mono ?_; rintro e w1 ⟨rfl, hb1⟩)
          | (go_at_call 41; refine (KI1 _ hb1).mono ?_; rintro e w2 ⟨⟨nm, x1, z, rfl⟩, hb2⟩; have B2 := hb1.trans (hb2.mono hb1.size))
          | (go_at_call 43; refine (SA.out _ B2).mono ?_; rintro e w3 ⟨rfl, hb3⟩; have B3 := B2.trans (hb3.mono B2.size))
          | (go_at_call 47; refine (LO.out _).mono ?_; rintro e w4 ⟨rfl, hb4⟩; have B4 := B3.trans (hb4.mono B3.size)))
        go_ret
        exact ⟨rfl, B4⟩
      | false =>
        have g2 : (lo.toList == [109, 105, 120, 101, 100]) = false := hm
        rw [if_neg (by simp)]
        clear hm
        cases hs with
        | true =>
          rw [if_pos rfl]
          go_enter Tryz.func18, Tryz.ntmps18
          go_wp2_with (first
            | (go_at_call 40; refine R1.mono ?_; rintro e w1 ⟨rfl, hb1⟩)
            | (go_at_call 41; refine (KI1 _ hb1).mono ?_; rintro e w2 ⟨⟨nm, x1, z, rfl⟩, hb2⟩; have B2 := hb1.trans (hb2.mono hb1.size))
            | (go_at_call 43; refine (SA.out _ B2).mono ?_; rintro e w3 ⟨rfl, hb3⟩; have B3 := B2.trans (hb3.mono B2.size))
            | (go_at_call 47; refine (LO.out _).mono ?_; rintro e w4 ⟨rfl, hb4⟩; have B4 := B3.trans (hb4.mono B3.size))
            | (go_at_call 48; refine (AT.out _ B4).mono ?_; rintro e w5 ⟨rfl, hb5⟩))
          go_ret
          exact ⟨rfl, B4.trans (hb5.mono B4.size)⟩
        | false =>
          rw [if_neg (by simp)]
          go_enter Tryz.func18, Tryz.ntmps18
          go_wp2_with (first
            | (go_at_call 40; refine R1.mono ?_; rintro e w1 ⟨rfl, hb1⟩)
            | (go_at_call 41; refine (KI1 _ hb1).mono ?_; rintro e w2 ⟨⟨nm, x1, z, rfl⟩, hb2⟩; have B2 := hb1.trans (hb2.mono hb1.size))
            | (go_at_call 43; refine (SA.out _ B2).mono ?_; rintro e w3 ⟨rfl, hb3⟩; have B3 := B2.trans (hb3.mono B2.size))
            | (go_at_call 47; refine (LO.out _).mono ?_; rintro e w4 ⟨rfl, hb4⟩; have B4 := B3.trans (hb4.mono B3.size))
            | (go_at_call 48; refine (AT.out _ B4).mono ?_; rintro e w5 ⟨rfl, hb5⟩))
          go_ret
          exact ⟨rfl, B4.trans (hb5.mono B4.size)⟩
end Go.Proofs.YtbinbojicmhdlaeGreatDoor
