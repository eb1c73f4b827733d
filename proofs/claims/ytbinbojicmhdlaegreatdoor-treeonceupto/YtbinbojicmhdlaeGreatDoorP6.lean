/-
  OWN WORK: Fsh, Fs1, Fs3, Fok, Fma, Fmb, Vna, Wtx, Wto, Wrt, Wlo, Shelf, Wsq.
-/
import Derived.Test.YtbinbojicmhdlaeGreatDoorP5
import Derived.Lib.Strings
import Derived.Lib.Join
import Derived.Test.YtbinbojicmhdlaeGreatDoorProg
import Derived.WalkKit
import Derived.WalkSpells
import Derived.WalkLawsBesides
import Derived.Laws.IdiomStrings
import Derived.Shelf.Strings.OnBuilder
/-
  THE WALK of the function in flat.Shown that calls itself.
-/
namespace Go.Proofs.YtbinbojicmhdlaeGreatDoor
open Go.RowKit

/-- append, and where what comes of it lies -/
theorem append_int2 {w0 wr : World} {ops : Array Oper} {rest : List Oper} {o : Oper} {a : Act} {Q : Exit → Act → World → Prop} (hgd : o.guard = none)
    (s x : Operand) (ho : o.op = Op.call { callee := Callee.builtin Builtin.append, args := #[s, x], argTypes := #[33, 33] }) {B : Nat} {v : Value} {l : List Nat} (k : Nat)
    (hs : a.eval s = v) (hx : a.eval x = .slice (some ⟨wr.heap.size, 0, none⟩) 1 1) (hown : OwnI wr B v l) (hnx : Below B w0 wr) (hB : B ≤ wr.heap.size) (hsz : l.length ≤ 1000000)
    (h : ∀ v' w1, OwnI w1 B v' (l ++ [k]) → Below B w0 w1 → wr.grownBy w1 v.ownBlock → (v'.ownBlock = v.ownBlock ∨ ∃ g, wr.heap.size ≤ g ∧ v'.ownBlock = some g) → wpList Tryz.prog ops Q rest (a.put o.dst v') w1) :
    wpList Tryz.prog ops Q (o :: rest) a (wr.alloc (.cells #[.int .i64 (k : Int)] 3)) := by
  obtain ⟨i0, hi, hz0, hz1, hz2⟩ := info_parts infoI
  unfold OwnI at hown h
  have hown' := hown.alloc (.cells #[.int .i64 (k : Int)] 3)
  have hnews : ∀ (j : Nat) (u : Value), ([iv k] : List Value)[j]? = some u → (wr.alloc (.cells #[.int .i64 (k : Int)] 3)).cell? ((⟨wr.heap.size, 0, none⟩ : Addr).add j) = some u := cell_one_new _ _ _
  have h1 : ∀ u ∈ ([iv k] : List Value), u.oneCell' = true := by intro u hu; simp at hu; subst hu; rfl
  refine wpList_plain hgd fun K hK => ?_
  obtain ⟨v', w', hr, h2, h3, _⟩ := run_append_own (P := Tryz.prog) (wr.alloc (.cells #[.int .i64 (k : Int)] 3)) B 33 o.type 3 i0 (.int .i64 0) 1 8 Tryz.underlying33 hi hz0 hz1 hz2 rfl (by decide) v _ _ hown' ⟨_, 0, none⟩ 1 1 [iv k] rfl hnews h1 (by unfold maxLen; omega) (by omega) (by simp; omega)
  have hn := (hnx.alloc hB (.cells #[.int .i64 (k : Int)] 3)).grown h3 (by simp; omega) (fun j hj => (hown.lt j hj).1)
  have hg2 : wr.grownBy w' v.ownBlock := by
    have h4 := World.grownBy_alloc wr (.cells #[.int .i64 (k : Int)] 3) v.ownBlock
    exact ⟨h3.os.trans h4.os, h3.tape.trans h4.tape, h3.output.trans h4.output, Nat.le_trans h4.size h3.size, fun q hq hr' => (h3.block q (Nat.lt_of_lt_of_le hq h4.size) hr').trans (h4.block q hq hr')⟩
  have hblk : v'.ownBlock = v.ownBlock ∨ ∃ g, wr.heap.size ≤ g ∧ v'.ownBlock = some g := by
    have hzs : (i0.size : Nat) = 1 := hz1
    rcases hown'.2 with ⟨rfl, hn0⟩ | ⟨g, cap, cur, rfl, hbg, hg, hnc, hcm, hcs, htake⟩
    · have hr2 := run_append_nil (P := Tryz.prog) (wr.alloc (.cells #[.int .i64 (k : Int)] 3)) 33 o.type 3 i0 (.int .i64 0) Tryz.underlying33 hi hz0 ⟨wr.heap.size, 0, none⟩ 1 1 [iv k] (by rw [hzs]; rfl) hnews (by decide) (by decide) (by rw [hz2]; decide)
      rw [hr2] at hr
      injection hr with e1 e2
      right
      refine ⟨wr.heap.size + 1, by omega, ?_⟩
      rw [← e1]
      simp [Value.ownBlock]
    · by_cases hroom : l.length + 1 ≤ cap
      · have hr2 := run_append_room (P := Tryz.prog) (wr.alloc (.cells #[.int .i64 (k : Int)] 3)) 33 o.type 3 i0 Tryz.underlying33 hi g l.length cap cur hg ⟨wr.heap.size, 0, none⟩ 1 1 [iv k] (by rw [hzs]; rfl) hnews h1 hroom (by rw [hzs, hcs]; simp; omega)
        rw [hr2] at hr
        injection hr with e1 e2
        left
        rw [← e1]
        rfl
      · have hr2 := run_append_grow (P := Tryz.prog) (wr.alloc (.cells #[.int .i64 (k : Int)] 3)) 33 o.type 3 i0 (.int .i64 0) Tryz.underlying33 hi hz0 ⟨g, 0, none⟩ l.length cap _ (by rw [hzs]; exact hown'.1) (World.ownsRow.cells hown' (g := g) rfl) ⟨wr.heap.size, 0, none⟩ 1 1 [iv k] (by rw [hzs]; rfl) hnews (by omega) (by omega) (growslice_fits (by omega) (by rw [hz2]; omega))
        rw [hr2] at hr
        injection hr with e1 e2
        right
        refine ⟨wr.heap.size + 1, by omega, ?_⟩
        rw [← e1]
        simp [Value.ownBlock]
  unfold Oper.wp execOp
  simp only [ho, resolve, invoke, builtin, Sem.run_bind, Sem.run_pure, Result.andThen_ok, List.map_toArray, List.map_cons, List.map_nil, hs, hx, hr]
  exact hK _ _ (h v' w' (by simpa using h2) hn hg2 hblk)
end Go.Proofs.YtbinbojicmhdlaeGreatDoor

/-
  THE WALK of the function in flat.Shown that calls itself.
-/
namespace Go.Proofs.YtbinbojicmhdlaeGreatDoor
open Go.RowKit

/-- all blocks that there were are as they were, but for A and r; the row lies in r still, or in a block that was not there -/
structure Mv (A : Nat) (r r' : Option Nat) (w w' : World) : Prop where
  os : w'.os = w.os
  tape : w'.tape = w.tape
  output : w'.output = w.output
  size : w.heap.size ≤ w'.heap.size
  block : ∀ k, k < w.heap.size → k ≠ A → some k ≠ r → w'.heap[k]? = w.heap[k]?
  own : r' = r ∨ ∃ g, w.heap.size ≤ g ∧ r' = some g

theorem Mv.refl (A : Nat) (r : Option Nat) (w : World) : Mv A r r w w := ⟨rfl, rfl, rfl, Nat.le_refl _, fun _ _ _ _ => rfl, Or.inl rfl⟩
theorem Mv.trans {A : Nat} {r r' r'' : Option Nat} {a b c : World} (h : Mv A r r' a b) (k : Mv A r' r'' b c) : Mv A r r'' a c := by
  refine ⟨k.os.trans h.os, k.tape.trans h.tape, k.output.trans h.output, Nat.le_trans h.size k.size, fun i hi hA hr => ?_, ?_⟩
  · rw [k.block i (Nat.lt_of_lt_of_le hi h.size) hA ?_, h.block i hi hA hr]
    rcases h.own with e | ⟨g, hg, e⟩
    · rw [e]; exact hr
    · rw [e]
      intro x
      cases x
      omega
  · rcases k.own with e | ⟨g, hg, e⟩
    · rw [e]
      exact h.own
    · exact Or.inr ⟨g, Nat.le_trans h.size hg, e⟩
theorem Mv.below {A : Nat} {r r' : Option Nat} {a b c : World} (h : Mv A r r' a b) (k : Below b.heap.size b c) : Mv A r r' a c :=
  ⟨k.os.trans h.os, k.tape.trans h.tape, k.output.trans h.output, Nat.le_trans h.size k.size, fun i hi hA hr => (k.block i (Nat.lt_of_lt_of_le hi h.size)).trans (h.block i hi hA hr), h.own⟩
theorem Mv.drew {A : Nat} {r r' : Option Nat} {a b : World} (h : Mv A r r' a b) : Mv A r r' a b.drew := ⟨h.os, h.tape, h.output, h.size, h.block, h.own⟩
theorem Mv.set {A : Nat} {r r' : Option Nat} {a b : World} (h : Mv A r r' a b) (u : Value) : Mv A r r' a (b.setCell ⟨A, 0, none⟩ u) := by
  have hb := (Below.refl 0 b).setCell (p := ⟨A, 0, none⟩) (Nat.zero_le _) u
  exact ⟨hb.os.trans h.os, hb.tape.trans h.tape, hb.output.trans h.output, Nat.le_trans h.size hb.size, fun i hi hn hr => by rw [heap_setCell_other _ _ _ _ hn]; exact h.block i hi hn hr, h.own⟩
theorem Mv.cell {A : Nat} {r r' : Option Nat} {w w' : World} (h : Mv A r r' w w') {p : Addr} {v : Value} (hv : w.cell? p = some v) (hp : p.block ≠ A) (hr : some p.block ≠ r) : w'.cell? p = some v := by
  have hl := lt_of_cell hv
  rw [← hv]
  exact World.cell?_of_block (h.block p.block hl hp hr)
theorem Mv.but {A : Nat} {r r' : Option Nat} {w w' : World} (h : Mv A r r' w w') {B : Nat} (hB : B ≤ w.heap.size) (hr : ∀ k, r = some k → B ≤ k) : But B A w w' :=
  ⟨h.os, h.tape, h.output, h.size, fun i hi hA => h.block i (by omega) hA (fun e => by have := hr i e.symm; omega)⟩

/-- the three variables of the function in Shown: what is shown so far, the document, itself -/
structure VarS (w : World) (A D K B : Nat) (dv : Value) (acc : List Nat) (va : Value) : Prop where
  d : w.cell? ⟨D, 0, none⟩ = some dv
  k : w.cell? ⟨K, 0, none⟩ = some (.func (.func 98) #[] #[.pointer (some ⟨A, 0, none⟩), .pointer (some ⟨D, 0, none⟩), .pointer (some ⟨K, 0, none⟩)])
  a : w.cell? ⟨A, 0, none⟩ = some va
  f : w.frozen? ⟨A, 0, none⟩ = false
  own : OwnI w B va acc

theorem VarS.below {w w' : World} {A D K B : Nat} {dv va : Value} {acc : List Nat} (h : VarS w A D K B dv acc va) (hb : Below w.heap.size w w') : VarS w' A D K B dv acc va :=
  ⟨keeps_below hb (Nat.le_refl _) _ _ h.d, keeps_below hb (Nat.le_refl _) _ _ h.k, keeps_below hb (Nat.le_refl _) _ _ h.a, by rw [hb.frozen (p := ⟨A, 0, none⟩) (lt_of_cell h.a)]; exact h.f, h.own.below hb (Nat.le_refl _)⟩

/-- what is shown below n ends within f calls -/
def EndF : Nat → Tn.Dc → Nat → Prop
  | 0, _, _ => False
  | f + 1, d, n => ∀ k ∈ kidsD d (n : Int), EndF f d k

set_option maxHeartbeats 1600000 in
theorem shown1_any {w0 : World} {b o c : Nat} {rs : List Raw} {d : Tn.Dc} {A D K B : Nat} (hB0 : w0.heap.size = B) (hd : DocAt w0 b o c rs d) (hoff : DocOff A b rs) (hDB : D < B) (hAB : A < B) (hKB : K < B) (hDA : D ≠ A) (hKA : K ≠ A) (hg : Okd d) (f : Nat) :
    ∀ (n : Nat) (acc : List Nat) (va : Value) (w : World), EndF f d n → But B A w0 w → VarS w A D K B (.slice (some ⟨b, o, none⟩) rs.length c) acc va → (acc ++ shownF f d n).length ≤ 10000 →
      Calls Tryz.prog 98 #[.int .i64 (n : Int), .pointer (some ⟨A, 0, none⟩), .pointer (some ⟨D, 0, none⟩), .pointer (some ⟨K, 0, none⟩)] w fun e w' =>
        e = .returned (.tuple #[]) ∧ ∃ va', VarS w' A D K B (.slice (some ⟨b, o, none⟩) rs.length c) (acc ++ shownF f d n) va' ∧ Mv A va.ownBlock va'.ownBlock w w' := by
  have H : Hid (DocAt w0 b o c rs d) := hd
  have HB : Hid (w0.heap.size = B) := hB0
  clear hd hB0
  induction f with
  | zero => intro n acc va w hE; exact absurd hE (by simp [EndF])
  | succ f ih =>
    intro n acc va w hE hbut hv hsz
    have Z : Hid ((acc ++ shownF (f + 1) d n).length ≤ 10000) := hsz
    have hE' : ∀ k ∈ kidsD d (n : Int), EndF f d k := hE
    have EE : Hid (∀ k ∈ kidsD d (n : Int), EndF f d k) := hE'
    have SF : Hid (shownF (f + 1) d n = n :: (kidsD d (n : Int)).flatMap (shownF f d)) := rfl
    have hBw : B ≤ w.heap.size := by have h1 := hbut.size; rw [HB.out] at h1; exact h1
    have hzs : acc.length ≤ 1000000 := by have h1 := Z.out; rw [List.length_append] at h1; omega
    clear hsz hE hE'
    obtain ⟨vd, vk, vaa, vf, vown⟩ := hv
    have hlow : ∀ k, va.ownBlock = some k → B ≤ k := fun k hk => (World.ownsRow.lt vown k hk).1
    go_enter Tryz.func98, Tryz.ntmps98
    go_upto_region 1 with (at_builtin; refine append_int2 (w0 := w) rfl _ _ rfl n rfl rfl vown (Below.refl B w) hBw hzs ?_; intro v1 w1 o1' n1' g1' b1'; obtain ⟨pv, cv, rfl⟩ := o1'.shape; have a1 : w1.cell? ⟨A, 0, none⟩ = some va := (n1'.cell (p := ⟨A, 0, none⟩) hAB).trans vaa; have f1 : w1.frozen? ⟨A, 0, none⟩ = false := (n1'.frozen (p := ⟨A, 0, none⟩) hAB).trans vf)
    simp only [List.length_append, List.length_singleton] at o1' b1'
    generalize hv1 : Value.slice pv (acc.length + 1) cv = v1 at *
    have d2 : (w1.setCell ⟨A, 0, none⟩ v1).cell? ⟨D, 0, none⟩ = some (.slice (some ⟨b, o, none⟩) rs.length c) := by
      rw [World.cell?_setCell_other _ _ _ _ (by intro e; cases e; exact hDA rfl), n1'.cell (p := ⟨D, 0, none⟩) hDB]
      exact vd
    have k2 : (w1.setCell ⟨A, 0, none⟩ v1).cell? ⟨K, 0, none⟩ = some (.func (.func 98) #[] #[.pointer (some ⟨A, 0, none⟩), .pointer (some ⟨D, 0, none⟩), .pointer (some ⟨K, 0, none⟩)]) := by
      rw [World.cell?_setCell_other _ _ _ _ (by intro e; cases e; exact hKA rfl), n1'.cell (p := ⟨K, 0, none⟩) hKB]
      exact vk
    have V2 : VarS (w1.setCell ⟨A, 0, none⟩ v1) A D K B (.slice (some ⟨b, o, none⟩) rs.length c) (acc ++ [n]) v1 := ⟨d2, k2, World.cell?_setCell_same _ _ _ a1, by simpa using f1, o1'.set hAB _⟩
    have M2 : Mv A va.ownBlock v1.ownBlock w (w1.setCell ⟨A, 0, none⟩ v1) := (⟨g1'.os, g1'.tape, g1'.output, g1'.size, fun i hi _ hr => g1'.block i hi (fun e => hr e), b1'⟩ : Mv A va.ownBlock v1.ownBlock w w1).set _
    have bt2 : But B A w0 (w1.setCell ⟨A, 0, none⟩ v1) := hbut.trans (M2.but hBw hlow)
    generalize hW2 : w1.setCell ⟨A, 0, none⟩ v1 = W2 at *
    clear hW2 hv1 a1 f1 o1' n1' g1' b1' vd vk vaa vf vown hbut hBw
    have hB0 : w0.heap.size ≤ B := by rw [HB.out]; exact Nat.le_refl _
    have D2 : Hid (DocAt W2 b o c rs d) := bt2.doc hB0 H.out hoff
    have hKC := fkids_any D2.out hg (n : Int)
    have hkz : (kidsD d (n : Int)).length ≤ 100000 := by
      have h1 := Z.out
      rw [SF.out] at h1
      have h2 : (kidsD d (n : Int)).length ≤ ((kidsD d (n : Int)).flatMap (shownF f d)).length := by
        have : ∀ l : List Nat, (∀ k ∈ l, EndF f d k) → l.length ≤ (l.flatMap (shownF f d)).length := by
          intro l
          induction l with
          | nil => simp
          | cons a l ihl =>
            intro hl
            have ha := hl a (by simp)
            have := ihl (fun k hk => hl k (by simp [hk]))
            cases f with
            | zero => exact absurd ha (by simp [EndF])
            | succ f => simp [shownF] at this ⊢; omega
        exact this _ EE.out
      simp at h1
      simp at h2
      omega
    generalize kidsD d (n : Int) = l at *
    have hV1 : ∀ g, v1.ownBlock = some g → g < W2.heap.size := fun g hg => (World.ownsRow.lt V2.own g hg).2
    go_upto_region 2 with (go_at_call 99; refine hKC.mono ?_; rintro e w3 ⟨vk, rfl, hok, hb3⟩; have okk := hok; obtain ⟨pk, ck, rfl⟩ := okk.shape)
    have T : Hid (∀ j (hj : j < l.length), ∃ b1 o1, pk = some ⟨b1, o1, none⟩ ∧ W2.heap.size ≤ b1 ∧ w3.cell? ⟨b1, o1 + j, none⟩ = some (.int .i64 (l[j] : Int))) := by
      intro j hj
      obtain ⟨_, _, he, _, _, _, hat⟩ := (ints_of_owns hok).at
      cases he
      obtain ⟨b1, o1, e1, e2⟩ := hat j hj
      exact ⟨b1, o1, e1, OwnI.off hok _ e1, e2⟩
    have hcl := (ints_of_owns hok).at
    obtain ⟨_, _, he, hlc, hcm, _, _⟩ := hcl
    cases he
    have bt3 : But B A w0 w3 := bt2.trans (But.of hb3 (by have h1 := bt2.size; rw [HB.out] at h1; exact h1))
    have hB3 : B ≤ w3.heap.size := by have h1 := bt3.size; rw [HB.out] at h1; exact h1
    have hB2 : B ≤ W2.heap.size := by have h1 := bt2.size; rw [HB.out] at h1; exact h1
    have V3 := V2.below hb3
    have M3 := M2.below hb3
    have hlow1 : ∀ k, v1.ownBlock = some k → B ≤ k := fun k hk => (World.ownsRow.lt V2.own k hk).1
    clear hok okk hKC d2 k2 V2 M2 hb3 D2 bt2 hlow hzs
    go_loopw [6, 15] (fun _ i wr => ∃ (j : Nat) (vr : Value), j ≤ l.length ∧ i = .int .i64 j ∧ Mv A v1.ownBlock vr.ownBlock w3 wr ∧ VarS wr A D K B (.slice (some ⟨b, o, none⟩) rs.length c) ((acc ++ [n]) ++ (l.take j).flatMap (shownF f d)) vr) (fun _ i _ => l.length - (intOf i).toNat)
    case atStart => exact ⟨0, v1, Nat.zero_le _, rfl, Mv.refl _ _ _, by simpa using V3⟩
    case round =>
      obtain ⟨j, vr, hj, rfl, MR, VR⟩ := hrel
      by_cases hlt : j < l.length
      · obtain ⟨b1, o1, rfl, hb1, hc⟩ := T.out j hlt
        have hcr := MR.cell hc (by show b1 ≠ A; omega) (by intro e; have := hV1 b1 e.symm; omega)
        have F : Hid (((acc ++ [n]) ++ (l.take (j + 1)).flatMap (shownF f d)) = ((acc ++ [n]) ++ (l.take j).flatMap (shownF f d)) ++ shownF f d l[j]) := by
          show _ = _
          rw [List.take_succ_eq_append_getElem hlt, List.flatMap_append]
          simp
        have hz : ((((acc ++ [n]) ++ (l.take j).flatMap (shownF f d)) ++ shownF f d l[j]).length ≤ 10000) := by
          rw [← F.out]
          have h1 := Z.out
          have h2 := take_flat_len l (shownF f d) (j + 1)
          rw [SF.out] at h1
          simp only [List.length_append, List.length_cons, List.length_nil] at h1 ⊢
          omega
        have btr : But B A w0 wr := bt3.trans (MR.but hB3 hlow1)
        have hC := ih l[j] _ vr wr (EE.out _ (List.getElem_mem hlt)) btr VR hz
        have hk := VR.k
        clear hc hz VR
        generalize l[j] = x at *
        go_wp2_with (go_at_call 98; refine hC.mono ?_; rintro e w5 ⟨rfl, v5, V5, M5⟩)
        go_roundw
        case rel => exact ⟨j + 1, v5, by omega, by go_num, MR.trans M5, by rw [F.out]; exact V5⟩
        case measure => simp [intOf]; omega
      · obtain rfl : j = l.length := by omega
        rw [List.take_length] at VR
        go_wp2_with fail
        go_end0
        refine ⟨rfl, vr, ?_, M3.trans MR⟩
        have e : acc ++ shownF (f + 1) d n = (acc ++ [n]) ++ l.flatMap (shownF f d) := by rw [SF.out]; simp
        rw [e]
        exact VR
end Go.Proofs.YtbinbojicmhdlaeGreatDoor

/-
  THE WALK of flat.Shown.
-/
namespace Go.Proofs.YtbinbojicmhdlaeGreatDoor
open Go.RowKit

set_option maxHeartbeats 1600000 in
theorem fshown_any {w : World} {b o c : Nat} {rs : List Raw} {d : Tn.Dc} (hd : DocAt w b o c rs d) (hg : Okd d) (hE : EndF Tn.fuel d 0) (hfew : (shownF Tn.fuel d 0).length ≤ 10000) :
    Calls Tryz.prog 61 #[.slice (some ⟨b, o, none⟩) rs.length c] w fun e w' => ∃ v, e = .returned v ∧ OwnI w' w.heap.size v (shownF Tn.fuel d 0) ∧ Below w.heap.size w w' := by
  have h0 : 0 < rs.length := by rw [hd.len]; exact hg.tame.len.1
  have hoff : DocOff (w.heap.size + 1) b rs := doc_old hd h0 (by omega)
  have hst : ∀ (W : World) (a : Addr) (fn : Fn) (x y : Array Value), Sem.run Tryz.prog (store a (.func fn x y)) W = stored Tryz.prog W a (.func fn x y) .plain := fun W a fn x y => run_store Tryz.prog W a (.func fn x y) .plain rfl
  have his : Tn.isN d (0 : Int) false = true := by have := Tn.isN_iff (d := d) (k := 0); rw [hg.root] at this; exact this
  have hall : Calls Tryz.prog 69 #[.slice (some ⟨b, o, none⟩) rs.length c, .int .i64 0, .bool false]
      (((w.alloc (.cells #[.slice (some ⟨b, o, none⟩) rs.length c] 24)).alloc (.cells #[.slice none 0 0] 33)).alloc (.cells #[.func (.func 98) #[] #[.pointer (some ⟨w.heap.size + 1, 0, none⟩), .pointer (some ⟨w.heap.size, 0, none⟩), .pointer (some ⟨w.heap.size + 1 + 1, 0, none⟩)]] 118))
      fun e w' => e = .returned (.bool true) ∧ w' = (((w.alloc (.cells #[.slice (some ⟨b, o, none⟩) rs.length c] 24)).alloc (.cells #[.slice none 0 0] 33)).alloc (.cells #[.func (.func 98) #[] #[.pointer (some ⟨w.heap.size + 1, 0, none⟩), .pointer (some ⟨w.heap.size, 0, none⟩), .pointer (some ⟨w.heap.size + 1 + 1, 0, none⟩)]] 118)) := by
    have := dis_any (hd.keeps (keeps_alloc' (.cells #[.func (.func 98) #[] #[.pointer (some ⟨w.heap.size + 1, 0, none⟩), .pointer (some ⟨w.heap.size, 0, none⟩), .pointer (some ⟨w.heap.size + 1 + 1, 0, none⟩)]] 118) (keeps_alloc' (.cells #[.slice none 0 0] 33) (keeps_alloc w (.cells #[.slice (some ⟨b, o, none⟩) rs.length c] 24))))) 0 false
    rw [his] at this
    exact this
  have hC : Calls Tryz.prog 98 #[.int .i64 0, .pointer (some ⟨w.heap.size + 1, 0, none⟩), .pointer (some ⟨w.heap.size, 0, none⟩), .pointer (some ⟨w.heap.size + 1 + 1, 0, none⟩)]
      (((w.alloc (.cells #[.slice (some ⟨b, o, none⟩) rs.length c] 24)).alloc (.cells #[.slice none 0 0] 33)).alloc (.cells #[.func (.func 98) #[] #[.pointer (some ⟨w.heap.size + 1, 0, none⟩), .pointer (some ⟨w.heap.size, 0, none⟩), .pointer (some ⟨w.heap.size + 1 + 1, 0, none⟩)]] 118))
      fun e w' => e = .returned (.tuple #[]) ∧ Below w.heap.size w w' ∧ ∃ va', w'.cell? ⟨w.heap.size + 1, 0, none⟩ = some va' ∧ OwnI w' w.heap.size va' (shownF Tn.fuel d 0) := by
    generalize hf67 : (Obj.cells #[.func (.func 98) #[] #[.pointer (some ⟨w.heap.size + 1, 0, none⟩), .pointer (some ⟨w.heap.size, 0, none⟩), .pointer (some ⟨w.heap.size + 1 + 1, 0, none⟩)]] 118) = o3
    have z1 : (w.alloc (.cells #[.slice (some ⟨b, o, none⟩) rs.length c] 24)).heap.size = w.heap.size + 1 := by simp
    have b1 := heap_alloc_new w (.cells #[.slice (some ⟨b, o, none⟩) rs.length c] 24)
    have B1 := (Below.refl w.heap.size w).alloc (Nat.le_refl _) (.cells #[.slice (some ⟨b, o, none⟩) rs.length c] 24)
    generalize w.alloc (.cells #[.slice (some ⟨b, o, none⟩) rs.length c] 24) = w1 at *
    have z2 : (w1.alloc (.cells #[.slice none 0 0] 33)).heap.size = w.heap.size + 2 := by simp [z1]
    have b2 := blk_new w1 (.cells #[.slice none 0 0] 33) z1
    have b12 := blk_alloc b1 (.cells #[.slice none 0 0] 33)
    have B2 := B1.alloc (by omega) (.cells #[.slice none 0 0] 33)
    generalize w1.alloc (.cells #[.slice none 0 0] 33) = w2 at *
    have z3 : (w2.alloc o3).heap.size = w.heap.size + 3 := by simp [z2]
    have b3 := blk_new w2 o3 z2
    have b23 := blk_alloc b2 o3
    have b13 := blk_alloc b12 o3
    have B3 := B2.alloc (by omega) o3
    generalize w2.alloc o3 = w3 at *
    subst hf67
    have hd3 := hd.keeps (keeps_below B3 (Nat.le_refl _))
    refine (shown1_any (w0 := w3) (D := w.heap.size) (A := w.heap.size + 1) (K := w.heap.size + 1 + 1) (B := w.heap.size + 3) z3 hd3 hoff (by omega) (by omega) (by omega) (by omega) (by omega) hg Tn.fuel 0 [] (.slice none 0 0) w3 hE (But.refl _ _ _) ?_ (by simpa using hfew)).mono ?_
    · exact ⟨by simp [World.cell?, b13], by simp [World.cell?, b3], by simp [World.cell?, b23], by simp [World.frozen?, b23], OwnI.nil _ _⟩
    · rintro e w' ⟨rfl, va', V, M⟩
      have hbut := M.but (B := w.heap.size + 3) (by omega) (fun k hk => by simp [Value.ownBlock] at hk)
      refine ⟨rfl, B3.trans (hbut.below (by omega) (by omega)), va', V.a, ?_⟩
      have := V.own
      simp only [List.nil_append] at this
      exact this.mono (by omega)
  clear hd hoff hfew hE
  go_enter Tryz.func61, Tryz.ntmps61
  go_wp2_with (first
    | (go_at_call 69; refine hall.mono ?_; rintro e w8 ⟨rfl, hw8⟩; subst hw8)
    | (go_at_call 98; refine hC.mono ?_; rintro e w9 ⟨rfl, hb9, va9, hc9, ho9⟩))
  go_ret
  exact ⟨_, rfl, ho9, hb9⟩
end Go.Proofs.YtbinbojicmhdlaeGreatDoor

/-
  PLAIN MATHEMATICS: what the walks ask of a document holds of each that was built; documents without shadow trees.
-/
namespace Go.Proofs.YtbinbojicmhdlaeGreatDoor
open Tn

theorem path_live (d : Dc) : ∀ (f : Nat) (n : Int), ∀ k ∈ path f d n, lvD d k = true
  | 0, _, k, h => by simp [path] at h
  | f + 1, n, k, h => by
    rw [path] at h
    split at h
    · rename_i hn
      obtain ⟨m, rfl, _, hl⟩ := isN_nat hn
      rcases List.mem_cons.mp h with h | h
      · rw [h, Int.toNat_natCast]
        exact hl
      · exact path_live d f _ k h
    · simp at h

theorem scopeL_live {d : Dc} (h : Tn.Good d) (hf : ∀ j, Fit j (nd d j)) : ∀ l : List Nat, (∀ k ∈ l, lvD d k = true) → ∃ s : Nat, scopeL d l = (s : Int) ∧ lvD d s = true
  | [], _ => by
    obtain ⟨r, hr, _⟩ := h.tr
    exact ⟨0, rfl, hr.1.root⟩
  | k :: l, hl => by
    obtain ⟨r, hr, _⟩ := h.tr
    rw [scopeL]
    split
    · rename_i hi
      have hk := hl k (by simp)
      have h0 : 0 < k := by
        apply Classical.byContradiction
        intro hn
        have hk0 : k = 0 := by omega
        have := ((hf k).root hk0).2.2
        rw [hi] at this
        cases this
      have h1 := hr.2 k h0 hk
      exact ⟨(nd d k).up.toNat, by omega, hr.1.upLive h0 hk⟩
    · exact scopeL_live h hf l (fun x hx => hl x (by simp [hx]))

theorem okd_of {d : Dc} (h : Tn.Good d) (hf : ∀ j, Fit j (nd d j)) : Okd d := by
  obtain ⟨r, hr, _⟩ := h.tr
  exact ⟨tame_good h, fun j s => Nat.le_trans (h.small j s) (by decide), fun k => (hf k).rise, fun k => Nat.le_trans (h.attrs k) (by decide), hr.1.root, fun k _ => scopeL_live h hf _ (path_live d _ _)⟩

end Go.Proofs.YtbinbojicmhdlaeGreatDoor

/-
  PLAIN MATHEMATICS: what is shown is shown once; each node in one other, that stands ahead of it.
-/
namespace Go.Proofs.YtbinbojicmhdlaeGreatDoor
open Tn

/-- more steps tell no more -/
theorem all_more (d : Dc) : ∀ (f n g : Nat), Tn.Ends f d n → f ≤ g → all g d n = all f d n
  | 0, _, _, h, _ => absurd h (by simp [Tn.Ends])
  | f + 1, n, 0, _, hg => by omega
  | f + 1, n, g + 1, h, hg => by
    rw [all, all]
    split
    · congr 1
      have e : ∀ l : List Nat, (∀ k ∈ l, Tn.Ends f d k) → l.flatMap (all g d) = l.flatMap (all f d) := by
        intro l hl
        rw [List.flatMap_def, List.flatMap_def]
        congr 1
        exact List.map_congr_left fun k hk => all_more d f k g (hl k hk) (by omega)
      rw [e _ h.2.1, e _ h.2.2]
    · rfl

/-- a document as it is built -/
structure Fine (d : Dc) : Prop where
  good : Tn.Good d
  fit : ∀ j, Fit j (nd d j)

theorem build_fine (l : List Chg) : Fine (Tn.build l) := ⟨build_good l, build_fit l⟩
theorem Fine.okd {d : Dc} (h : Fine d) : Okd d := okd_of h.good h.fit

/-- all that is in n -/
def allD (d : Dc) (n : Nat) : List Nat := all fuel d n

theorem all_step {d : Dc} {g n : Nat} (hi : isN d (n : Int) false = true) (hE : ∀ s, ∀ k ∈ liD d n s, Tn.Ends g d k) : all (g + 1) d n = n :: ((nd d n).shadow.flatMap (all (g + 1) d) ++ (nd d n).kids.flatMap (all (g + 1) d)) := by
  have e : ∀ l : List Nat, (∀ k ∈ l, Tn.Ends g d k) → l.flatMap (all (g + 1) d) = l.flatMap (all g d) := by
    intro l hl
    rw [List.flatMap_def, List.flatMap_def]
    congr 1
    exact List.map_congr_left fun k hk => all_more d g k (g + 1) (hl k hk) (by omega)
  rw [e (nd d n).shadow (hE true), e (nd d n).kids (hE false), all, if_pos hi]

theorem allD_eq {d : Dc} (h : Fine d) {n : Nat} (hn : lvD d n = true) : allD d n = n :: ((nd d n).shadow.flatMap (allD d) ++ (nd d n).kids.flatMap (allD d)) := by
  obtain ⟨r, hr, hR⟩ := h.good.tr
  have hi : isN d (n : Int) false = true := by rw [isN_iff]; exact hn
  exact all_step (g := 63) hi (fun s k hk => ends_of hr hR 63 k (hr.1.mem n s k hk).2.1 (by omega))

theorem sub_flat {g : Nat → List Nat} : ∀ {l : List Nat} {k : Nat}, k ∈ l → (g k).Sublist (l.flatMap g)
  | a :: l, k, h => by
    rw [List.flatMap_cons]
    rcases List.mem_cons.mp h with rfl | h
    · exact List.sublist_append_left _ _
    · exact (sub_flat h).trans (List.sublist_append_right _ _)

theorem allD_self {d : Dc} (h : Fine d) {n : Nat} (hn : lvD d n = true) : n ∈ allD d n := by rw [allD_eq h hn]; simp

/-- what is in n's list s is in n, behind n -/
theorem sub_child {d : Dc} (h : Fine d) {n k : Nat} {s : Bool} (hk : k ∈ liD d n s) : (n :: allD d k).Sublist (allD d n) := by
  obtain ⟨r, hr, _⟩ := h.good.tr
  obtain ⟨hn, hkl, _⟩ := hr.1.mem n s k hk
  rw [allD_eq h hn]
  refine List.Sublist.cons_cons _ ?_
  cases s with
  | true => exact (sub_flat (l := (nd d n).shadow) hk).trans (List.sublist_append_left _ _)
  | false => exact (sub_flat (l := (nd d n).kids) hk).trans (List.sublist_append_right _ _)

theorem sub_root {d : Dc} (h : Fine d) {r : Nat → Nat} (hr : TrD d r) : ∀ (i n : Nat), r n = i → lvD d n = true → (allD d n).Sublist (allD d 0) := by
  intro i
  induction i with
  | zero =>
    intro n hi hn
    have h0 : n = 0 := by
      apply Classical.byContradiction
      intro hne
      have := hr.1.rank n (by omega) hn
      omega
    rw [h0]
    exact List.Sublist.refl _
  | succ i ih =>
    intro n hi hn
    have h0 : 0 < n := hr.1.pos (by omega)
    have h1 := hr.1.rank n h0 hn
    have hu := hr.1.upLive h0 hn
    exact ((List.sublist_cons_self _ _).trans (sub_child h (hr.1.par n h0 hn))).trans (ih _ (by omega) hu)

theorem allD_nodup {d : Dc} (h : Fine d) {n : Nat} (hn : lvD d n = true) : (allD d n).Nodup := by
  obtain ⟨r, hr, _⟩ := h.good.tr
  exact all_nodup hr fuel n hn

/-- the first node on the way up that is in a shadow tree -/
theorem scope_cases {d : Dc} {r : Nat → Nat} (hr : TrD d r) : ∀ l : List Nat, scopeL d l = 0 ∨ ∃ x ∈ l, (nd d x).inS = true ∧ scopeL d l = (nd d x).up
  | [] => Or.inl rfl
  | k :: l => by
    rw [scopeL]
    split
    · rename_i hi
      exact Or.inr ⟨k, by simp, hi, rfl⟩
    · rcases scope_cases hr l with e | ⟨x, hx, h1, h2⟩
      · exact Or.inl e
      · exact Or.inr ⟨x, by simp [hx], h1, h2⟩

/-- of what is in the element host, but not in its shadow tree, nothing is of its scope -/
theorem scope_out {d : Dc} (h : Fine d) {host p : Nat} (hh : lvD d host = true) (hs : (nd d host).hasS = true) (hp : lvD d p = true) (hsc : scopeD d (p : Int) = (host : Int)) : p ∉ host :: (nd d host).kids.flatMap (allD d) := by
  obtain ⟨r, hr, hR⟩ := h.good.tr
  have h0 : host ≠ 0 := by
    rintro rfl
    have := ((h.fit 0).root rfl).1
    rw [hs] at this
    cases this
  unfold scopeD pathOf at hsc
  rw [path_anc hr (d.length + 1) p hp (by have := rank_lt hr hp; omega) h.good.rootUp] at hsc
  rcases scope_cases hr ((List.range (r p + 1)).map fun i => anc (upD d) i p) with e | ⟨x, hx, hin, e⟩
  · rw [e] at hsc
    omega
  · rw [e] at hsc
    obtain ⟨i, hi, rfl⟩ := List.mem_map.mp hx
    have hi' : i ≤ r p := by have := List.mem_range.mp hi; omega
    obtain ⟨hxl, hxr⟩ := hr.1.anc i p hp hi'
    have hx0 : 0 < anc (upD d) i p := by
      apply Classical.byContradiction
      intro hn
      have := ((h.fit (anc (upD d) i p)).root (by omega)).2.2
      rw [hin] at this
      cases this
    have hup : upD d (anc (upD d) i p) = host := by
      show (nd d (anc (upD d) i p)).up.toNat = host
      rw [hsc]
      simp
    have hrx := hr.1.rank _ hx0 hxl
    rw [hup] at hrx
    intro hm
    rcases List.mem_cons.mp hm with rfl | hm
    · omega
    · obtain ⟨c, hc, hpc⟩ := List.mem_flatMap.mp hm
      obtain ⟨_, hcl, hc0, hcu, hci⟩ := hr.1.mem host false c hc
      have hrc := hr.1.rank c hc0 hcl
      rw [hcu] at hrc
      obtain ⟨_, hde⟩ := all_desc hr fuel c p hpc hcl
      obtain ⟨h1, h2⟩ := hde
      have : r p - r c = i := by omega
      rw [this] at h2
      rw [h2] at hin
      have : insD d c = (nd d c).inS := rfl
      rw [hci] at this
      rw [← this] at hin
      cases hin

theorem find_skip {p : Nat → Bool} {a b : List Nat} (h : ∀ x ∈ a, p x = false) : (a ++ b).find? p = b.find? p := by
  rw [List.find?_append]
  have : a.find? p = none := List.find?_eq_none.mpr (fun x hx => by simp [h x hx])
  rw [this]
  rfl
theorem find_drop {p : Nat → Bool} {a b : List Nat} (h : ∀ x ∈ b, p x = false) : (a ++ b).find? p = a.find? p := by
  rw [List.find?_append]
  have : b.find? p = none := List.find?_eq_none.mpr (fun x hx => by simp [h x hx])
  rw [this]
  cases a.find? p <;> rfl

theorem allD_live {d : Dc} (h : Fine d) {n x : Nat} (hn : lvD d n = true) (hx : x ∈ allD d n) : lvD d x = true := by
  obtain ⟨r, hr, _⟩ := h.good.tr
  exact (all_desc hr fuel n x hx hn).1

/-- the slot is looked for in the shadow tree alone -/
theorem slot_shadow {d : Dc} (h : Fine d) {host : Nat} (hh : lvD d host = true) (hs : (nd d host).hasS = true) (want : ByteArray) :
    (allD d host).find? (fitsD d want (host : Int)) = ((nd d host).shadow.flatMap (allD d)).find? (fitsD d want (host : Int)) := by
  obtain ⟨r, hr, _⟩ := h.good.tr
  have hno : ∀ x, lvD d x = true → x ∈ host :: (nd d host).kids.flatMap (allD d) → fitsD d want (host : Int) x = false := by
    intro x hx hm
    cases hf : fitsD d want (host : Int) x with
    | false => rfl
    | true =>
      unfold fitsD at hf
      simp only [Bool.and_eq_true] at hf
      have : scopeD d (x : Int) = (host : Int) := by simpa using hf.2
      exact absurd hm (scope_out h hh hs hx this)
  rw [allD_eq h hh, ← List.singleton_append, find_skip, find_drop]
  · intro x hx
    obtain ⟨c, hc, hxc⟩ := List.mem_flatMap.mp hx
    exact hno x (allD_live h (hr.1.mem host false c hc).2.1 hxc) (by simp [hx])
  · intro x hx
    rw [List.mem_singleton.mp hx]
    exact hno host hh (by simp)
end Go.Proofs.YtbinbojicmhdlaeGreatDoor

/-
  PLAIN MATHEMATICS: what is shown is shown once; each node in one other, that stands ahead of it.
-/
namespace Go.Proofs.YtbinbojicmhdlaeGreatDoor
open Tn

/-- in what a node is shown, if it is -/
def fpar (d : Dc) (k : Nat) : Int := if (nd d k).inS then (nd d k).up else if (nd d (upD d k)).hasS then slotD d (k : Int) else (nd d k).up

theorem kid_nat {d : Dc} {p : Int} {k : Nat} (hk : k ∈ kidsD d p) : ∃ n : Nat, p = (n : Int) ∧ lvD d n = true := by
  unfold kidsD at hk
  split at hk
  · rename_i hi
    obtain ⟨n, rfl, _, hl⟩ := isN_nat hi
    exact ⟨n, rfl, hl⟩
  · simp at hk

theorem orI_nat {o : Option Nat} {n : Nat} (h : orI o = (n : Int)) : o = some n := by
  cases o with
  | none => simp only [orI] at h; omega
  | some m => simp only [orI] at h; rw [show m = n by omega]

theorem slot_of {d : Dc} {k n : Nat} (h : slotD d (k : Int) = (n : Int)) : slottedD d (k : Int) = true ∧ (all fuel d (nd d k).up.toNat).find? (fitsD d (valN d (k : Int) slotB) (nd d k).up) = some n := by
  unfold slotD at h
  split at h
  · rename_i hs
    rw [Int.toNat_natCast] at h
    exact ⟨hs, orI_nat h⟩
  · omega

theorem slotted_of {d : Dc} {k : Nat} (h : slottedD d (k : Int) = true) : lvD d k = true ∧ (nd d k).inS = false ∧ (∃ u : Nat, (nd d k).up = (u : Int) ∧ lvD d u = true) ∧ (nd d (upD d k)).hasS = true := by
  unfold slottedD at h
  simp only [Bool.and_eq_true] at h
  obtain ⟨⟨⟨h1, h2⟩, h3⟩, h4⟩ := h
  rw [Int.toNat_natCast] at h2 h3 h4
  obtain ⟨u, hu, _, hl⟩ := isN_nat (isN_true h3)
  exact ⟨by rw [← isN_iff]; exact h1, by simpa using h2, ⟨u, hu, hl⟩, h4⟩

theorem kid_par {d : Dc} (h : Fine d) {n k : Nat} (hk : k ∈ kidsD d (n : Int)) : lvD d n = true ∧ lvD d k = true ∧ 0 < k ∧ (n : Int) = fpar d k ∧ (∃ s, k ∈ liD d (upD d k) s) ∧
    ((n = upD d k) ∨ (slotD d (k : Int) = (n : Int) ∧ k ∈ (nd d (upD d k)).kids)) := by
  obtain ⟨r, hr, _⟩ := h.good.tr
  have hk0 := hk
  unfold kidsD at hk
  split at hk
  · rename_i hi
    have hn : lvD d n = true := by rw [← isN_iff]; exact hi
    rw [Int.toNat_natCast] at hk
    have up_eq : ∀ s, k ∈ liD d n s → lvD d k = true ∧ 0 < k ∧ upD d k = n ∧ (nd d k).inS = s ∧ (nd d k).up = (n : Int) := by
      intro s hs
      obtain ⟨_, h2, h3, h4, h5⟩ := hr.1.mem n s k hs
      have := hr.2 k h3 h2
      refine ⟨h2, h3, h4, h5, ?_⟩
      have e : (nd d k).up.toNat = n := h4
      omega
    split at hk
    · obtain ⟨h1, h2, h3, h4, h5⟩ := up_eq true hk
      exact ⟨hn, h1, h2, by unfold fpar; rw [h4, if_pos rfl, h5], ⟨true, by rw [h3]; exact hk⟩, Or.inl h3.symm⟩
    · rename_i hs
      split at hk
      · obtain ⟨h1, h2, h3, h4, h5⟩ := up_eq false hk
        exact ⟨hn, h1, h2, by unfold fpar; rw [h4, if_neg (by simp), h3, if_neg hs, h5], ⟨false, by rw [h3]; exact hk⟩, Or.inl h3.symm⟩
      · unfold givenD at hk
        split at hk
        · obtain ⟨s, hsc, _⟩ := h.okd.scope n hn
          rw [hsc, Int.toNat_natCast, List.mem_filter] at hk
          obtain ⟨hk1, hk2⟩ := hk
          have hsl : slotD d (k : Int) = (n : Int) := by simpa using hk2
          obtain ⟨_, g2, g3, g4, g5⟩ := hr.1.mem s false k hk1
          obtain ⟨hs1, _⟩ := slot_of hsl
          obtain ⟨_, hi2, _, hh⟩ := slotted_of hs1
          refine ⟨hn, g2, g3, ?_, ⟨false, by rw [g4]; exact hk1⟩, Or.inr ⟨hsl, by rw [g4]; exact hk1⟩⟩
          unfold fpar
          rw [hi2, if_neg (by simp), if_pos hh, hsl]
        · simp at hk
  · simp at hk

theorem kid_one {d : Dc} (h : Fine d) {a b k : Nat} (ha : k ∈ kidsD d (a : Int)) (hb : k ∈ kidsD d (b : Int)) : a = b := by
  have h1 := (kid_par h ha).2.2.2.1
  have h2 := (kid_par h hb).2.2.2.1
  omega

theorem pair_sub {a b : Nat} {l : List Nat} (hb : b ∈ l) : [a, b].Sublist (a :: l) := List.Sublist.cons_cons _ (List.singleton_sublist.mpr hb)

theorem live_all {d : Dc} (h : Fine d) {n : Nat} (hn : lvD d n = true) : n ∈ allD d 0 := by
  obtain ⟨r, hr, _⟩ := h.good.tr
  exact (sub_root h hr _ n rfl hn).subset (allD_self h hn)

theorem kid_before {d : Dc} (h : Fine d) {n k : Nat} (hk : k ∈ kidsD d (n : Int)) : [n, k].Sublist (allD d 0) := by
  obtain ⟨r, hr, _⟩ := h.good.tr
  obtain ⟨h1, h2, h3, _, ⟨s, h5⟩, h6⟩ := kid_par h hk
  rcases h6 with e | ⟨hsl, hkk⟩
  · rw [← e] at h5
    exact ((pair_sub (allD_self h h2)).trans (sub_child h h5)).trans (sub_root h hr _ n rfl h1)
  · obtain ⟨hs1, hs2⟩ := slot_of hsl
    obtain ⟨_, _, ⟨u, hu, hul⟩, hh⟩ := slotted_of hs1
    have hud : upD d k = u := by unfold upD; rw [hu]; simp
    rw [hud] at hh hkk
    rw [hu, Int.toNat_natCast] at hs2
    have hs3 := slot_shadow h hul hh (valN d (k : Int) slotB)
    have hs4 : ((nd d u).shadow.flatMap (allD d)).find? (fitsD d (valN d (k : Int) slotB) (u : Int)) = some n := by rw [← hs3]; exact hs2
    have hnm := List.mem_of_find?_eq_some hs4
    have hkm : k ∈ (nd d u).kids.flatMap (allD d) := List.mem_flatMap.mpr ⟨k, hkk, allD_self h h2⟩
    have h7 : [n, k].Sublist (allD d u) := by
      rw [allD_eq h hul]
      refine List.Sublist.cons _ ?_
      rw [show [n, k] = [n] ++ [k] from rfl]
      exact List.Sublist.append (List.singleton_sublist.mpr hnm) (List.singleton_sublist.mpr hkm)
    exact h7.trans (sub_root h hr _ u rfl hul)

theorem idx_ne {a x : Nat} {l : List Nat} (h : a ≠ x) : (x :: l).idxOf a = l.idxOf a + 1 := by
  rw [List.idxOf_cons]
  have : (x == a) = false := by simp; omega
  rw [this]
  rfl
theorem idx_lt : ∀ (l : List Nat) (a b : Nat), l.Nodup → [a, b].Sublist l → l.idxOf a < l.idxOf b
  | [], _, _, _, h => by simp at h
  | x :: l, a, b, hn, h => by
    obtain ⟨h1, h2⟩ := List.nodup_cons.mp hn
    cases h with
    | cons _ h =>
      have ha : a ≠ x := fun e => h1 (by rw [← e]; exact h.subset (by simp))
      have hb : b ≠ x := fun e => h1 (by rw [← e]; exact h.subset (by simp))
      have := idx_lt l a b h2 h
      rw [idx_ne ha, idx_ne hb]
      omega
    | cons_cons _ h =>
      have hb : b ∈ l := List.singleton_sublist.mp h
      have hne : b ≠ x := fun e => h1 (by rw [← e]; exact hb)
      rw [List.idxOf_cons_self, idx_ne hne]
      omega

/-- a node's place among all -/
def posD (d : Dc) (n : Nat) : Nat := (allD d 0).idxOf n

theorem kid_pos {d : Dc} (h : Fine d) {n k : Nat} (hk : k ∈ kidsD d (n : Int)) : posD d n < posD d k := by
  obtain ⟨r, hr, _⟩ := h.good.tr
  exact idx_lt _ _ _ (allD_nodup h hr.1.root) (kid_before h hk)

theorem pos_lt {d : Dc} (h : Fine d) {n : Nat} (hn : lvD d n = true) : posD d n < (allD d 0).length := List.idxOf_lt_length_of_mem (live_all h hn)

theorem all_few {d : Dc} (h : Fine d) : (allD d 0).length ≤ 60 := by
  obtain ⟨r, hr, _⟩ := h.good.tr
  exact Nat.le_trans (nodup_le d.length _ (allD_nodup h hr.1.root) (fun x hx => lv_lt (allD_live h hr.1.root hx))) h.good.len.2

theorem end_of {d : Dc} (h : Fine d) : ∀ (f n : Nat), lvD d n = true → (allD d 0).length ≤ posD d n + f → EndF f d n
  | 0, n, hn, hf => by have := pos_lt h hn; omega
  | f + 1, n, _, hf => fun k hk => end_of h f k (kid_par h hk).2.1 (by have := kid_pos h hk; omega)

theorem fine_end {d : Dc} (h : Fine d) : EndF fuel d 0 := by
  obtain ⟨r, hr, _⟩ := h.good.tr
  exact end_of h fuel 0 hr.1.root (by have := all_few h; unfold fuel; omega)

theorem shown_live {d : Dc} (h : Fine d) : ∀ (f a x : Nat), lvD d a = true → x ∈ shownF f d a → lvD d x = true ∧ posD d a ≤ posD d x
  | 0, _, _, _, hx => by simp [shownF] at hx
  | f + 1, a, x, ha, hx => by
    rw [shownF] at hx
    rcases List.mem_cons.mp hx with rfl | hx
    · exact ⟨ha, Nat.le_refl _⟩
    · obtain ⟨c, hc, hxc⟩ := List.mem_flatMap.mp hx
      obtain ⟨h1, h2⟩ := shown_live h f c x (kid_par h hc).2.1 hxc
      have := kid_pos h hc
      exact ⟨h1, by omega⟩

theorem shown_par {d : Dc} : ∀ (f a x : Nat), x ∈ shownF f d a → x ≠ a → ∃ y : Nat, x ∈ kidsD d (y : Int) ∧ [y, x].Sublist (shownF f d a)
  | 0, _, _, hx, _ => by simp [shownF] at hx
  | f + 1, a, x, hx, hne => by
    rw [shownF] at hx ⊢
    rcases List.mem_cons.mp hx with e | hx
    · exact absurd e hne
    · obtain ⟨c, hc, hxc⟩ := List.mem_flatMap.mp hx
      by_cases e : x = c
      · exact ⟨a, by rw [e]; exact hc, pair_sub hx⟩
      · obtain ⟨y, h1, h2⟩ := shown_par f c x hxc e
        exact ⟨y, h1, (h2.trans (sub_flat hc)).trans (List.sublist_cons_self _ _)⟩

/-- of two nodes in which one is shown, one is shown in the other -/
theorem shown_two {d : Dc} (h : Fine d) {f g a b : Nat} : ∀ (m x : Nat), posD d x ≤ m → x ∈ shownF f d a → x ∈ shownF g d b → a ∈ shownF g d b ∨ b ∈ shownF f d a := by
  intro m
  induction m with
  | zero =>
    intro x hm hxa hxb
    by_cases e : x = a
    · exact Or.inl (by rw [← e]; exact hxb)
    · obtain ⟨y, h1, _⟩ := shown_par f a x hxa e
      have := kid_pos h h1
      omega
  | succ m ih =>
    intro x hm hxa hxb
    by_cases e : x = a
    · exact Or.inl (by rw [← e]; exact hxb)
    · by_cases e2 : x = b
      · exact Or.inr (by rw [← e2]; exact hxa)
      · obtain ⟨y, h1, h2⟩ := shown_par f a x hxa e
        obtain ⟨z, h3, h4⟩ := shown_par g b x hxb e2
        obtain rfl := kid_one h h1 h3
        have := kid_pos h h1
        exact ih y (by omega) (h2.subset (by simp)) (h4.subset (by simp))

theorem kids_nodup {d : Dc} (h : Fine d) (p : Int) : (kidsD d p).Nodup := by
  obtain ⟨r, hr, _⟩ := h.good.tr
  unfold kidsD
  split
  · split
    · exact hr.1.nodup p.toNat true
    · split
      · exact hr.1.nodup p.toNat false
      · unfold givenD
        split
        · exact List.Pairwise.filter _ (hr.1.nodup (scopeD d p).toNat false)
        · exact List.nodup_nil
  · exact List.nodup_nil

theorem shown_nodup {d : Dc} (h : Fine d) : ∀ (f n : Nat), lvD d n = true → (shownF f d n).Nodup
  | 0, _, _ => List.nodup_nil
  | f + 1, n, _ => by
    rw [shownF, List.nodup_cons]
    constructor
    · intro hm
      obtain ⟨c, hc, hxc⟩ := List.mem_flatMap.mp hm
      have h1 := (shown_live h f c n (kid_par h hc).2.1 hxc).2
      have := kid_pos h hc
      omega
    · refine flat_nodup _ (kids_nodup h _) (fun a ha => shown_nodup h f a (kid_par h ha).2.1) ?_
      intro a ha b hb hne x hxa hxb
      have key : ∀ a b, a ∈ kidsD d (n : Int) → b ∈ kidsD d (n : Int) → a ≠ b → a ∈ shownF f d b → False := by
        intro a b ha hb hne hab
        obtain ⟨y, h1, h2⟩ := shown_par f b a hab hne
        obtain rfl := kid_one h h1 ha
        have h3 := (shown_live h f b y (kid_par h hb).2.1 (h2.subset (by simp))).2
        have := kid_pos h hb
        omega
      rcases shown_two h (f := f) (g := f) _ x (Nat.le_refl _) hxa hxb with g | g
      · exact key a b ha hb hne g
      · exact key b a hb ha (fun e => hne e.symm) g

theorem shown_few {d : Dc} (h : Fine d) (f : Nat) {n : Nat} (hn : lvD d n = true) : (shownF f d n).length ≤ 60 :=
  Nat.le_trans (nodup_le d.length _ (shown_nodup h f n hn) (fun x hx => lv_lt (shown_live h f n x hn hx).1)) h.good.len.2

/-- Up tells in what a node is shown -/
theorem up_of_kid {d : Dc} (h : Fine d) {n k : Nat} (hk : k ∈ kidsD d (n : Int)) : upF d (k : Int) = (n : Int) := by
  obtain ⟨r, hr, _⟩ := h.good.tr
  obtain ⟨h1, h2, h3, _, _, h6⟩ := kid_par h hk
  have hi : isN d (k : Int) false = true := by rw [isN_iff]; exact h2
  have hu : (nd d k).up = (upD d k : Int) := by have := hr.2 k h3 h2; unfold upD; omega
  unfold upF
  rw [if_pos hi, Int.toNat_natCast, hu]
  split
  · rename_i hc
    have := kid_one h (by simpa using hc) hk
    rw [this]
  · rename_i hc
    rcases h6 with e | ⟨hsl, _⟩
    · rw [← e] at hc
      exact absurd (by simpa using hk) hc
    · rw [hsl, if_pos (by simpa using hk)]

theorem up_root {d : Dc} (h : Fine d) : upF d 0 = -1 := by
  have hu := h.good.rootUp
  have hk : kidsD d (-1) = [] := by unfold kidsD; rw [if_neg]; unfold isN; simp
  have hs : slotD d 0 = -1 := by
    unfold slotD
    rw [if_neg]
    unfold slottedD isN
    simp [hu]
  unfold upF
  split
  · rw [show (0 : Int).toNat = 0 from rfl, hu, hk, hs, hk]
    rfl
  · rfl

theorem up_none {d : Dc} {n : Int} (hn : ∀ m : Nat, ∀ k ∈ kidsD d (m : Int), (k : Int) ≠ n) : upF d n = -1 := by
  unfold upF
  split
  · rename_i hi
    obtain ⟨k, rfl, _, _⟩ := isN_nat hi
    rw [Int.toNat_natCast]
    have no : ∀ p : Int, (kidsD d p).contains k = false := by
      intro p
      cases hc : (kidsD d p).contains k with
      | false => rfl
      | true =>
        have hm : k ∈ kidsD d p := by simpa using hc
        obtain ⟨m, rfl, _⟩ := kid_nat hm
        exact absurd rfl (hn m k hm)
    rw [no, no]
    rfl
  · rfl

end Go.Proofs.YtbinbojicmhdlaeGreatDoor

/-
  PLAIN MATHEMATICS: values are no longer than what came in.
-/
namespace Go.Proofs.YtbinbojicmhdlaeGreatDoor
open Tn

/-- values and tags are no longer than what came in -/
def Vn (n : Nd) : Prop := (∀ a ∈ n.attrs, a.2.size ≤ 4194304) ∧ n.tag.size ≤ 4194304

theorem nil_size : (⟨#[]⟩ : ByteArray).size ≤ 4194304 := by decide

theorem fold_val {M : Nat} {name value : ByteArray} (hv : value.size ≤ M) : ∀ (l : List At) (s : List At × Bool), (∀ a ∈ s.1, a.2.size ≤ M) → (∀ a ∈ l, a.2.size ≤ M) → ∀ a ∈ (l.foldl (aStep name value) s).1, a.2.size ≤ M
  | [], s, hs, _ => hs
  | x :: l, s, hs, hl => by
    rw [List.foldl_cons]
    refine fold_val hv l _ ?_ (fun a ha => hl a (by simp [ha]))
    have hx := hl x (by simp)
    intro a ha
    unfold aStep at ha
    split at ha
    · simp at ha
      rcases ha with ha | rfl
      · exact hs a ha
      · exact hv
    · split at ha
      · simp at ha
        rcases ha with ha | rfl | rfl
        · exact hs a ha
        · exact hv
        · exact hx
      · simp at ha
        rcases ha with ha | rfl
        · exact hs a ha
        · exact hx

theorem attrsD_val {M : Nat} {name value : ByteArray} (hv : value.size ≤ M) (l : List At) (hl : ∀ a ∈ l, a.2.size ≤ M) : ∀ a ∈ attrsD l name value, a.2.size ≤ M := by
  have h := fold_val (name := name) hv l ([], false) (by simp) hl
  unfold attrsD aFold
  split
  · exact h
  · intro a ha
    rw [List.mem_append, List.mem_singleton] at ha
    rcases ha with ha | rfl
    · exact h a ha
    · exact hv

theorem vn_stays (x : Chg) (hv : x.value.size ≤ 4194304) (hn : x.name.size ≤ 4194304) : Stays (fun _ n => Vn n) x := by
  refine ⟨fun _ _ _ h => h, fun _ _ _ _ _ h => h, fun _ n s l h _ _ => ?_, fun _ _ => ⟨by simp [Tn.zero], nil_size⟩, fun _ _ h _ => h, fun _ n h _ => ⟨attrsD_val hv _ h.1, h.2⟩, fun _ n h _ => ⟨fun a ha => h.1 a ((List.mem_filter.mp ha).1), h.2⟩, fun _ _ _ _ h _ => h, fun _ m s _ => ?_⟩
  · cases s <;> exact h
  · unfold newN
    split
    · exact ⟨by simp [made, Tn.zero], nil_size⟩
    · exact ⟨by simp [made, Tn.zero], hn⟩

theorem build_vn {l : List Chg} (hl : ∀ x ∈ l, x.value.size ≤ 4194304 ∧ x.name.size ≤ 4194304) (j : Nat) : Vn (nd (Tn.build l) j) :=
  build_stays (P := fun _ n => Vn n) (fun x hx => vn_stays x (hl x hx).1 (hl x hx).2) ⟨by simp [root], by simp [root]; decide⟩ (fun _ _ => ⟨by simp [Tn.zero], nil_size⟩) j

theorem val_size {d : Dc} (h : ∀ j, Vn (nd d j)) (n : Int) (name : ByteArray) : (valN d n name).size ≤ 4194304 := by
  unfold valN attrN
  split
  · unfold attrOf
    cases hf : (nd d n.toNat).attrs.find? (fun a => eqS a.1 name) with
    | none => exact nil_size
    | some a => exact (h _).1 a (List.mem_of_find?_eq_some hf)
  · exact nil_size

end Go.Proofs.YtbinbojicmhdlaeGreatDoor

/-
  PLAIN MATHEMATICS OF TEXTS, without any program: blanks, the tokens of a text by a scan from the left, joined tokens. Used by the walks.
-/
namespace Go.Proofs.YtbinbojicmhdlaeGreatDoor.Tx

def blank (c : UInt8) : Bool := c == 32 || c == 9 || c == 10 || c == 13
def bs (l : List UInt8) : ByteArray := ⟨l.toArray⟩
def fin (a : List (List UInt8)) (c : List UInt8) : List (List UInt8) := if c.isEmpty then a else a ++ [c]
def step (st : List (List UInt8) × List UInt8) (c : UInt8) : List (List UInt8) × List UInt8 := if blank c then (fin st.1 st.2, []) else (st.1, st.2 ++ [c])
def scan (l : List UInt8) : List (List UInt8) × List UInt8 := l.foldl step ([], [])
def toks (l : List UInt8) : List (List UInt8) := fin (scan l).1 (scan l).2

theorem scan_snoc (l : List UInt8) (c : UInt8) : scan (l ++ [c]) = step (scan l) c := by
  unfold scan
  rw [List.foldl_append]
  rfl

/-- a list grown at its end -/
theorem snoc_ind {P : List UInt8 → Prop} (h0 : P []) (h1 : ∀ l c, P l → P (l ++ [c])) (l : List UInt8) : P l := by
  have h : ∀ r : List UInt8, P r.reverse := by
    intro r
    induction r with
    | nil => exact h0
    | cons x r ih => rw [List.reverse_cons]; exact h1 _ _ ih
  have := h l.reverse
  rwa [List.reverse_reverse] at this

theorem scan_suffix (l : List UInt8) : ∃ p, l = p ++ (scan l).2 := by
  induction l using snoc_ind with
  | h0 => exact ⟨[], rfl⟩
  | h1 l c ih =>
    obtain ⟨p, hp⟩ := ih
    rw [scan_snoc]
    unfold step
    split
    · exact ⟨l ++ [c], by simp⟩
    · refine ⟨p, ?_⟩
      show l ++ [c] = p ++ ((scan l).2 ++ [c])
      rw [← List.append_assoc, ← hp]

theorem cur_le (l : List UInt8) : (scan l).2.length ≤ l.length := by
  obtain ⟨p, hp⟩ := scan_suffix l
  have := congrArg List.length hp
  rw [List.length_append] at this
  omega

theorem cur_drop (l : List UInt8) : (scan l).2 = l.drop (l.length - (scan l).2.length) := by
  obtain ⟨p, hp⟩ := scan_suffix l
  have hl := congrArg List.length hp
  rw [List.length_append] at hl
  have e : l.length - (scan l).2.length = p.length := by omega
  rw [e]
  generalize (scan l).2 = c at *
  subst hp
  simp

theorem fin_len (a : List (List UInt8)) (c : List UInt8) : (fin a c).length = a.length + if c.isEmpty then 0 else 1 := by
  unfold fin
  split <;> simp

theorem toks_len (l : List UInt8) : (toks l).length ≤ l.length := by
  unfold toks
  induction l using snoc_ind with
  | h0 => simp [scan, fin]
  | h1 l c ih =>
    rw [scan_snoc, List.length_append]
    rw [fin_len] at ih ⊢
    unfold step
    split
    · simp only [fin_len]
      simp
      split at ih <;> simp_all <;> omega
    · simp
      split at ih <;> omega


theorem fold_front (a b : List (List UInt8)) (c r : List UInt8) : r.foldl step (a ++ b, c) = (a ++ (r.foldl step (b, c)).1, (r.foldl step (b, c)).2) := by
  induction r generalizing b c with
  | nil => rfl
  | cons x r ih =>
    simp only [List.foldl_cons]
    have e : step (a ++ b, c) x = (a ++ (step (b, c) x).1, (step (b, c) x).2) := by
      unfold step
      split
      · unfold fin
        simp only
        split <;> simp
      · rfl
    rw [e, ih]

theorem scan_blank (l : List UInt8) (b : UInt8) (hb : blank b = true) : scan (l ++ [b]) = (toks l, []) := by
  rw [scan_snoc]
  unfold step toks
  rw [if_pos hb]

/-- THE TOKENS OF TWO TEXTS WITH A BLANK BETWEEN ARE THOSE OF BOTH -/
theorem toks_between (l r : List UInt8) (b : UInt8) (hb : blank b = true) : toks (l ++ b :: r) = toks l ++ toks r := by
  have e : l ++ b :: r = (l ++ [b]) ++ r := by simp
  have h : scan (l ++ b :: r) = (toks l ++ (scan r).1, (scan r).2) := by
    rw [e]
    unfold scan
    rw [List.foldl_append]
    have := scan_blank l b hb
    unfold scan at this
    rw [this]
    have f := fold_front (toks l) [] [] r
    rw [List.append_nil] at f
    exact f
  show fin (scan (l ++ b :: r)).1 (scan (l ++ b :: r)).2 = toks l ++ fin (scan r).1 (scan r).2
  rw [h]
  unfold fin
  simp only
  split <;> simp

/-- a word: not empty, nothing in it is blank -/
def word (t : List UInt8) : Prop := t ≠ [] ∧ ∀ c ∈ t, blank c = false

theorem scan_words (l : List UInt8) : (∀ t ∈ (scan l).1, word t) ∧ ∀ c ∈ (scan l).2, blank c = false := by
  induction l using snoc_ind with
  | h0 => exact ⟨fun t (h : t ∈ []) => (by cases h), fun c (h : c ∈ []) => (by cases h)⟩
  | h1 l c ih =>
    rw [scan_snoc]
    unfold step
    split
    · refine ⟨?_, fun c h => by cases h⟩
      unfold fin
      simp only
      intro t ht
      split at ht
      · exact ih.1 t ht
      · rcases List.mem_append.1 ht with h | h
        · exact ih.1 t h
        · rw [List.mem_singleton] at h
          subst h
          refine ⟨?_, ih.2⟩
          intro h
          rename_i hne
          rw [h] at hne
          exact hne rfl
    · rename_i hb
      refine ⟨ih.1, ?_⟩
      intro d hd
      rcases List.mem_append.1 hd with h | h
      · exact ih.2 d h
      · rw [List.mem_singleton] at h
        subst h
        simpa using hb

theorem toks_words (l : List UInt8) : ∀ t ∈ toks l, word t := by
  have h := scan_words l
  intro t ht
  unfold toks fin at ht
  split at ht
  · exact h.1 t ht
  · rcases List.mem_append.1 ht with h' | h'
    · exact h.1 t h'
    · rw [List.mem_singleton] at h'
      subst h'
      refine ⟨?_, h.2⟩
      intro e
      rename_i hne
      rw [e] at hne
      exact hne rfl

theorem scan_word (a : List (List UInt8)) (c t : List UInt8) (h : ∀ x ∈ t, blank x = false) : t.foldl step (a, c) = (a, c ++ t) := by
  induction t generalizing c with
  | nil => simp
  | cons x t ih =>
    have hx := h x (by simp)
    rw [List.foldl_cons]
    have e : step (a, c) x = (a, c ++ [x]) := by
      unfold step
      rw [if_neg (by simp [hx])]
    rw [e, ih _ (fun y hy => h y (by simp [hy]))]
    simp

theorem toks_word (t : List UInt8) (h : word t) : toks t = [t] := by
  unfold toks scan
  rw [scan_word [] [] t h.2]
  unfold fin
  have : t.isEmpty = false := by
    cases t with
    | nil => exact absurd rfl h.1
    | cons x r => rfl
  simp [this]

/-- joined by blanks -/
def joined (ts : List (List UInt8)) : List UInt8 := Lib.join ts [32]
theorem joined_nil : joined [] = [] := rfl
theorem joined_one (t : List UInt8) : joined [t] = t := Lib.join_one t [32]
theorem joined_cons (t u : List UInt8) (r : List (List UInt8)) : joined (t :: u :: r) = t ++ 32 :: joined (u :: r) := by
  unfold joined
  rw [Lib.join_cons, Lib.join_cons]
  unfold Lib.joinTail
  simp

/-- THE TOKENS OF JOINED WORDS ARE THE WORDS -/
theorem toks_joined (ts : List (List UInt8)) (h : ∀ t ∈ ts, word t) : toks (joined ts) = ts := by
  induction ts with
  | nil => rfl
  | cons t r ih =>
    cases r with
    | nil => rw [joined_one]; exact toks_word t (h t (by simp))
    | cons u r =>
      rw [joined_cons, toks_between _ _ 32 (by decide), toks_word t (h t (by simp)), ih (fun x hx => h x (by simp [hx]))]
      rfl

def squeeze (l : List UInt8) : List UInt8 := joined (toks l)
theorem toks_squeeze (l : List UInt8) : toks (squeeze l) = toks l := toks_joined _ (toks_words l)
/-- joined, one word more behind -/
theorem joined_snoc (ts : List (List UInt8)) (t : List UInt8) : joined (ts ++ [t]) = if ts.isEmpty then t else joined ts ++ 32 :: t := by
  induction ts with
  | nil => exact joined_one t
  | cons x r ih =>
    cases r with
    | nil => show joined (x :: t :: []) = _; rw [joined_cons, joined_one, joined_one]; rfl
    | cons u r =>
      have e : (x :: u :: r) ++ [t] = x :: u :: (r ++ [t]) := rfl
      have e2 : (u :: r) ++ [t] = u :: (r ++ [t]) := rfl
      rw [e, joined_cons, ← e2, ih, joined_cons]
      simp

theorem squeeze_len_aux (l : List UInt8) :
    (joined (toks l)).length ≤ l.length ∧ ((scan l).2 = [] → (scan l).1 ≠ [] → (joined (scan l).1).length + 1 ≤ l.length) := by
  unfold toks
  induction l using snoc_ind with
  | h0 => exact ⟨Nat.le_refl _, fun _ h => absurd rfl h⟩
  | h1 l c ih =>
    rw [scan_snoc, List.length_append]
    generalize scan l = st at ih ⊢
    obtain ⟨a, k⟩ := st
    simp only at ih ⊢
    unfold step
    split
    · simp only
      have e : fin (fin a k) [] = fin a k := rfl
      rw [e]
      refine ⟨by have := ih.1; simp; omega, fun _ _ => by have := ih.1; simp; omega⟩
    · simp only
      refine ⟨?_, fun h => by simp at h⟩
      have e : fin a (k ++ [c]) = a ++ [k ++ [c]] := by unfold fin; simp
      rw [e, joined_snoc]
      cases k with
      | nil =>
        cases a with
        | nil => simp
        | cons x r =>
          have := ih.2 rfl (by simp)
          simp
          omega
      | cons y s =>
        have h1 := ih.1
        have e2 : fin a (y :: s) = a ++ [y :: s] := rfl
        rw [e2, joined_snoc] at h1
        cases a with
        | nil => simp at h1 ⊢; omega
        | cons x r => simp at h1 ⊢; omega

theorem squeeze_len (l : List UInt8) : (squeeze l).length ≤ l.length := (squeeze_len_aux l).1

/-- a blank stands alone, between words -/
def plain (q : List UInt8) : Prop := ∀ i c, q[i]? = some c → blank c = true → c = 32 ∧ 0 < i ∧ i + 1 < q.length ∧ ∃ d, q[i - 1]? = some d ∧ blank d = false

end Go.Proofs.YtbinbojicmhdlaeGreatDoor.Tx

/-
  THE WALKS of words.Blank and words.Tokens: what the calls do to the world.
-/
namespace Go.Proofs.YtbinbojicmhdlaeGreatDoor.Wd
open Go.RowKit

theorem info9 : (Tryz.prog.info? 9).map (fun i => (i.zero, i.size, i.bytes)) = some (some (.string ⟨#[]⟩), 1, 16) := by kernel_rfl

set_option maxHeartbeats 400000 in
theorem blank_any (c : UInt8) (w : World) : Calls Tryz.prog 124 #[.int .u8 (c.toNat : Int)] w fun e w' => e = .returned (.bool (Tx.blank c)) ∧ w' = w := by
  have e : Tx.blank c = ((c.toNat : Int) == 32 || (c.toNat : Int) == 9 || (c.toNat : Int) == 10 || (c.toNat : Int) == 13) := by
    unfold Tx.blank
    rw [Bool.eq_iff_iff]
    simp [← UInt8.toNat_inj]
    omega
  go_enter Tryz.func124, Tryz.ntmps124
  go_wp2
  all_goals (go_ret; exact ⟨by rw [e]; simp [*], rfl⟩)


/-- how far the scan has come behind the first k bytes: the tokens, what of the next one is there, where that begins -/
def doneAt (s : ByteArray) (k : Nat) : List (List UInt8) := (Tx.scan (s.data.toList.take k)).1
def curAt (s : ByteArray) (k : Nat) : List UInt8 := (Tx.scan (s.data.toList.take k)).2
def startAt (s : ByteArray) (k : Nat) : Nat := k - (curAt s k).length
def tv (t : List UInt8) : Value := .string (Tx.bs t)
def toksOf (s : ByteArray) : List (List UInt8) := Tx.toks s.data.toList

theorem take_snoc (s : ByteArray) (k : Nat) (h : k < s.size) : s.data.toList.take (k + 1) = s.data.toList.take k ++ [s[k]] := by
  rw [List.take_succ_eq_append_getElem (by simpa using h)]; rfl
theorem take_len (s : ByteArray) (k : Nat) (h : k ≤ s.size) : (s.data.toList.take k).length = k := by
  rw [List.length_take, ← Lib.size_eq]; omega
theorem start_le (s : ByteArray) (k : Nat) : startAt s k ≤ k := Nat.sub_le _ _
theorem cur_len (s : ByteArray) (k : Nat) (h : k ≤ s.size) : (curAt s k).length ≤ k := by
  have := Tx.cur_le (s.data.toList.take k)
  rw [take_len s k h] at this
  exact this
theorem cur_bytes (s : ByteArray) (k : Nat) (h : k ≤ s.size) : s.extract (startAt s k) k = Tx.bs (curAt s k) := by
  rw [Lib.extract_eq]
  have e := Tx.cur_drop (s.data.toList.take k)
  rw [take_len s k h] at e
  unfold Tx.bs
  have e2 : curAt s k = (s.data.toList.take k).drop (startAt s k) := e
  rw [e2, List.drop_take]
theorem step_no (s : ByteArray) (k : Nat) (h : k < s.size) (hb : Tx.blank s[k] = false) : doneAt s (k + 1) = doneAt s k ∧ startAt s (k + 1) = startAt s k := by
  have hl := cur_len s k (by omega)
  unfold startAt doneAt curAt at *
  rw [take_snoc s k h, Tx.scan_snoc]
  unfold Tx.step
  rw [if_neg (by simp [hb])]
  refine ⟨rfl, ?_⟩
  simp only [List.length_append, List.length_cons, List.length_nil]
  omega
theorem step_yes (s : ByteArray) (k : Nat) (h : k < s.size) (hb : Tx.blank s[k] = true) (hs : startAt s k < k) : doneAt s (k + 1) = doneAt s k ++ [curAt s k] ∧ startAt s (k + 1) = k + 1 := by
  have hne : (curAt s k).isEmpty = false := by
    cases hc : curAt s k with
    | nil => unfold startAt at hs; rw [hc] at hs; simp at hs
    | cons x r => rfl
  unfold startAt doneAt curAt at *
  rw [take_snoc s k h, Tx.scan_snoc]
  unfold Tx.step
  rw [if_pos hb]
  refine ⟨?_, by simp⟩
  unfold Tx.fin
  simp only [hne]
  rfl
theorem step_idle (s : ByteArray) (k : Nat) (h : k < s.size) (hb : Tx.blank s[k] = true) (hs : ¬ startAt s k < k) : doneAt s (k + 1) = doneAt s k ∧ startAt s (k + 1) = k + 1 := by
  have hl := cur_len s k (by omega)
  have hne : (curAt s k).isEmpty = true := by
    cases hc : curAt s k with
    | nil => rfl
    | cons x r => unfold startAt at hs; rw [hc] at hs hl; simp at hs hl; omega
  unfold startAt doneAt curAt at *
  rw [take_snoc s k h, Tx.scan_snoc]
  unfold Tx.step
  rw [if_pos hb]
  refine ⟨?_, by simp⟩
  unfold Tx.fin
  simp only [hne]
  rfl
theorem take_all (s : ByteArray) : s.data.toList.take s.size = s.data.toList := List.take_of_length_le (by rw [← Lib.size_eq]; exact Nat.le_refl _)
theorem end_more (s : ByteArray) (hs : startAt s s.size < s.size) : toksOf s = doneAt s s.size ++ [curAt s s.size] := by
  have hne : (curAt s s.size).isEmpty = false := by
    cases hc : curAt s s.size with
    | nil => unfold startAt at hs; rw [hc] at hs; simp at hs
    | cons x r => rfl
  unfold toksOf Tx.toks doneAt curAt at *
  rw [take_all] at *
  unfold Tx.fin
  simp only [hne]
  rfl
theorem end_none (s : ByteArray) (hs : ¬ startAt s s.size < s.size) : toksOf s = doneAt s s.size := by
  have hl := cur_len s s.size (Nat.le_refl _)
  have hne : (curAt s s.size).isEmpty = true := by
    cases hc : curAt s s.size with
    | nil => rfl
    | cons x r => unfold startAt at hs; rw [hc] at hs hl; simp at hs hl; omega
  unfold toksOf Tx.toks doneAt curAt at *
  rw [take_all] at *
  unfold Tx.fin
  simp only [hne]
  rfl
theorem done_len (s : ByteArray) (k : Nat) (h : k ≤ s.size) : (doneAt s k).length ≤ k := by
  have := Tx.toks_len (s.data.toList.take k)
  rw [take_len s k h] at this
  unfold Tx.toks at this
  rw [Tx.fin_len] at this
  unfold doneAt
  omega

/-- what an append of one token leaves -/
theorem rel_app {B : Nat} {w wr w1 : World} {v v' : Value} {o : Obj} {ts : List (List UInt8)} {t : List UInt8} (hB : B ≤ wr.heap.size)
    (hown : wr.ownsRow B 9 1 v ts.length (ts.map tv)) (hnx : Below B w wr)
    (hown' : w1.ownsRow B 9 1 v' (ts.length + 1) (ts.map tv ++ [tv t])) (hgrow : (wr.alloc o).grownBy w1 v.ownBlock) :
    w1.ownsRow B 9 1 v' (ts ++ [t]).length ((ts ++ [t]).map tv) ∧ Below B w w1 :=
  ⟨by simpa using hown', (hnx.alloc hB o).grown hgrow (by simp; omega) (fun j hj => (hown.lt j hj).1)⟩

set_option maxHeartbeats 800000 in
set_option maxRecDepth 100000 in
theorem tokens_big (s : ByteArray) (w : World) (hs : s.size ≤ 1073741824) : Calls Tryz.prog 80 #[.string s] w fun e w' =>
    ∃ v, e = .returned v ∧ w'.ownsRow w.heap.size 9 1 v (toksOf s).length ((toksOf s).map tv) ∧ Below w.heap.size w w' ∧ (toksOf s = [] → v = .slice none 0 0) := by
  obtain ⟨i0, hi, hz0, hz1, hz2⟩ := info_parts info9
  go_enter Tryz.func80, Tryz.ntmps80
  go_wp2
  go_loopw [3, 4, 8] (fun v st i wr => ∃ k : Nat, k ≤ s.size ∧ i = .int .i64 k ∧ st = .int .i64 (startAt s k) ∧ wr.ownsRow w.heap.size 9 1 v (doneAt s k).length ((doneAt s k).map tv) ∧
      Below w.heap.size w wr ∧ (doneAt s k = [] → v = .slice none 0 0))
    (fun _ _ i _ => s.size - (intOf i).toNat)
  case atStart => exact ⟨0, Nat.zero_le _, rfl, rfl, World.ownsRow_nil _ _ _ _, Below.refl _ _, fun _ => rfl⟩
  case round =>
    obtain ⟨k, hk, rfl, rfl, hown, hnx, hnil⟩ := hrel
    have hst := start_le s k
    have hdl := done_len s k hk
    have hbz := hnx.size
    by_cases hlt : k < s.size
    · cases hb : Tx.blank s[k] with
      | false =>
        obtain ⟨e1, e2⟩ := step_no s k hlt hb
        have E : Hid (doneAt s (k + 1) = doneAt s k ∧ startAt s (k + 1) = startAt s k) := ⟨e1, e2⟩
        clear e1 e2
        go_wp2_with (go_at_call 124; refine (blank_any _ _).mono ?_; rintro e w' ⟨rfl, rfl⟩)
        go_roundw
        case rel => exact ⟨k + 1, by omega, by go_num, by rw [E.out.2], by rw [E.out.1]; exact hown, hnx, by rw [E.out.1]; exact hnil⟩
        case measure => simp [intOf]; omega
      | true =>
        by_cases hsk : startAt s k < k
        · have E : Hid (doneAt s (k + 1) = doneAt s k ++ [curAt s k] ∧ startAt s (k + 1) = k + 1) := step_yes s k hlt hb hsk
          have C : Hid (s.extract (startAt s k) k = Tx.bs (curAt s k)) := cur_bytes s k hk
          go_wp2_with (first
            | (go_at_call 124; refine (blank_any _ _).mono ?_; rintro e w' ⟨rfl, hww⟩; subst hww)
            | (at_builtin; refine wpList_append_own _ rfl _ _ 59 rfl w.heap.size 9 i0 (.string ⟨#[]⟩) 1 16 Tryz.underlying59 hi hz0 hz1 hz2 rfl (by decide) _ _ _ rfl (hown.alloc _) ⟨_, 0, none⟩ 1 1 [.string (s.extract (startAt s k) k)] rfl rfl ?c1 ?c2 ?c3 ?c4 ?c5 ?_))
          case c1 => exact cell_one_new _ _ _
          case c2 => intro u hu; simp at hu; subst hu; rfl
          case c3 => unfold maxLen; omega
          case c4 => omega
          case c5 => simp; omega
          intro v' w1 hown' hgrow _
          rw [C.out] at hown'
          have R := rel_app hbz hown hnx hown' hgrow
          clear hown' hgrow hown hnx
          go_wp2
          go_roundw
          case rel => exact ⟨k + 1, by omega, by go_num, by rw [E.out.2]; go_num, by rw [E.out.1]; exact R.1, R.2, fun h => absurd h (by rw [E.out.1]; simp)⟩
          case measure => simp [intOf]; omega
        · have E : Hid (doneAt s (k + 1) = doneAt s k ∧ startAt s (k + 1) = k + 1) := step_idle s k hlt hb hsk
          go_wp2_with (go_at_call 124; refine (blank_any _ _).mono ?_; rintro e w' ⟨rfl, hww⟩; subst hww)
          go_roundw
          case rel => exact ⟨k + 1, by omega, by go_num, by rw [E.out.2]; go_num, by rw [E.out.1]; exact hown, hnx, by rw [E.out.1]; exact hnil⟩
          case measure => simp [intOf]; omega
    · obtain rfl : k = s.size := by omega
      by_cases hsk : startAt s s.size < s.size
      · have E : Hid (toksOf s = doneAt s s.size ++ [curAt s s.size]) := end_more s hsk
        have C : Hid (s.extract (startAt s s.size) s.size = Tx.bs (curAt s s.size)) := cur_bytes s s.size hk
        go_wp2_with (at_builtin; refine wpList_append_own _ rfl _ _ 59 rfl w.heap.size 9 i0 (.string ⟨#[]⟩) 1 16 Tryz.underlying59 hi hz0 hz1 hz2 rfl (by decide) _ _ _ rfl (hown.alloc _) ⟨_, 0, none⟩ 1 1 [.string (s.extract (startAt s s.size) s.size)] rfl rfl ?d1 ?d2 ?d3 ?d4 ?d5 ?_)
        case d1 => exact cell_one_new _ _ _
        case d2 => intro u hu; simp at hu; subst hu; rfl
        case d3 => unfold maxLen; omega
        case d4 => omega
        case d5 => simp; omega
        intro v' w1 hown' hgrow _
        rw [C.out] at hown'
        have R := rel_app hbz hown hnx hown' hgrow
        clear hown' hgrow hown hnx
        go_wp2
        go_ret
        exact ⟨_, rfl, by rw [E.out]; exact R.1, R.2, fun h => absurd h (by rw [E.out]; simp)⟩
      · have E : Hid (toksOf s = doneAt s s.size) := end_none s hsk
        go_wp2
        go_ret
        exact ⟨_, rfl, by rw [E.out]; exact hown, hnx, by rw [E.out]; exact hnil⟩

theorem tokens_own (s : ByteArray) (w : World) (hs : s.size ≤ 4194304) : Calls Tryz.prog 80 #[.string s] w fun e w' =>
    ∃ v, e = .returned v ∧ w'.ownsRow w.heap.size 9 1 v (toksOf s).length ((toksOf s).map tv) ∧ Below w.heap.size w w' ∧ (toksOf s = [] → v = .slice none 0 0) := tokens_big s w (Nat.le_trans hs (by decide))
end Go.Proofs.YtbinbojicmhdlaeGreatDoor.Wd

/-
  THE WALKS of the reference's Blank and Tokens.
-/
namespace Go.Proofs.YtbinbojicmhdlaeGreatDoor.Wd
open Go.RowKit

set_option maxHeartbeats 400000 in
theorem rblank_any (c : UInt8) (w : World) : Calls Tryz.prog 58 #[.int .u8 (c.toNat : Int)] w fun e w' => e = .returned (.bool (Tx.blank c)) ∧ w' = w := by
  have e : Tx.blank c = ((c.toNat : Int) == 32 || (c.toNat : Int) == 9 || (c.toNat : Int) == 10 || (c.toNat : Int) == 13) := by
    unfold Tx.blank
    rw [Bool.eq_iff_iff]
    simp [← UInt8.toNat_inj]
    omega
  go_enter Tryz.func58, Tryz.ntmps58
  go_wp2
  all_goals (go_ret; exact ⟨by rw [e]; simp [*], rfl⟩)

theorem cur_no (s : ByteArray) (k : Nat) (h : k < s.size) (hb : Tx.blank s[k] = false) : Tx.bs (curAt s k) ++ s.extract k (k + 1) = Tx.bs (curAt s (k + 1)) := by
  have e : curAt s (k + 1) = curAt s k ++ [s[k]] := by
    unfold curAt
    rw [take_snoc s k h, Tx.scan_snoc]
    unfold Tx.step
    rw [if_neg (by simp [hb])]
  rw [e, Lib.extract_eq]
  have e2 : (s.data.toList.drop k).take (k + 1 - k) = [s[k]] := by
    rw [Nat.add_sub_cancel_left, ← List.getElem_cons_drop (by rw [← Lib.size_eq]; exact h)]
    rfl
  rw [e2]
  unfold Tx.bs
  apply ByteArray.ext
  rw [ByteArray.data_append]
  simp
theorem cur_yes (s : ByteArray) (k : Nat) (h : k < s.size) (hb : Tx.blank s[k] = true) : curAt s (k + 1) = [] := by
  unfold curAt
  rw [take_snoc s k h, Tx.scan_snoc]
  unfold Tx.step
  rw [if_pos hb]
theorem bs_toList (l : List UInt8) : (Tx.bs l).toList = l := by
  rw [Lib.toList_data]
  rfl
theorem cur_empty (s : ByteArray) (k : Nat) (hk : k ≤ s.size) (hs : ¬ startAt s k < k) : (Tx.bs (curAt s k)).toList.isEmpty = true := by
  have hl := cur_len s k hk
  rw [bs_toList]
  cases hc : curAt s k with
  | nil => rfl
  | cons x r => unfold startAt at hs; rw [hc] at hs hl; simp at hs hl; omega
theorem cur_some (s : ByteArray) (k : Nat) (hs : startAt s k < k) : (Tx.bs (curAt s k)).toList.isEmpty = false := by
  rw [bs_toList]
  cases hc : curAt s k with
  | nil => unfold startAt at hs; rw [hc] at hs; simp at hs
  | cons x r => rfl

set_option maxHeartbeats 800000 in
set_option maxRecDepth 100000 in
theorem rtokens_big (s : ByteArray) (w : World) (hs : s.size ≤ 1073741824) : Calls Tryz.prog 31 #[.string s] w fun e w' =>
    ∃ v, e = .returned v ∧ w'.ownsRow w.heap.size 9 1 v (toksOf s).length ((toksOf s).map tv) ∧ Below w.heap.size w w' ∧ (toksOf s = [] → v = .slice none 0 0) := by
  obtain ⟨i0, hi, hz0, hz1, hz2⟩ := info_parts info9
  go_enter Tryz.func31, Tryz.ntmps31
  go_wp2
  go_loopw [3, 4, 8] (fun v st i wr => ∃ k : Nat, k ≤ s.size ∧ i = .int .i64 k ∧ st = .string (Tx.bs (curAt s k)) ∧ wr.ownsRow w.heap.size 9 1 v (doneAt s k).length ((doneAt s k).map tv) ∧
      Below w.heap.size w wr ∧ (doneAt s k = [] → v = .slice none 0 0))
    (fun _ _ i _ => s.size - (intOf i).toNat)
  case atStart => exact ⟨0, Nat.zero_le _, rfl, rfl, World.ownsRow_nil _ _ _ _, Below.refl _ _, fun _ => rfl⟩
  case round =>
    obtain ⟨k, hk, rfl, rfl, hown, hnx, hnil⟩ := hrel
    have hdl := done_len s k hk
    have hbz := hnx.size
    have hcl : (Tx.bs (curAt s k)).size ≤ k := cur_len s k hk
    by_cases hlt : k < s.size
    · cases hb : Tx.blank s[k] with
      | false =>
        have E : Hid (doneAt s (k + 1) = doneAt s k ∧ Tx.bs (curAt s k) ++ s.extract k (k + 1) = Tx.bs (curAt s (k + 1))) := ⟨(step_no s k hlt hb).1, cur_no s k hlt hb⟩
        go_wp2_with (go_at_call 58; refine (rblank_any _ _).mono ?_; rintro e w' ⟨rfl, hww⟩; subst hww)
        go_roundw
        case rel => exact ⟨k + 1, by omega, by go_num, by rw [E.out.2], by rw [E.out.1]; exact hown, hnx, by rw [E.out.1]; exact hnil⟩
        case measure => simp [intOf]; omega
      | true =>
        by_cases hsk : startAt s k < k
        · have E : Hid (doneAt s (k + 1) = doneAt s k ++ [curAt s k] ∧ curAt s (k + 1) = []) := ⟨(step_yes s k hlt hb hsk).1, cur_yes s k hlt hb⟩
          have hem := cur_some s k hsk
          clear hsk
          go_wp2_with (first
            | (go_at_call 58; refine (rblank_any _ _).mono ?_; rintro e w' ⟨rfl, hww⟩; subst hww)
            | (at_builtin; refine wpList_append_own _ rfl _ _ 59 rfl w.heap.size 9 i0 (.string ⟨#[]⟩) 1 16 Tryz.underlying59 hi hz0 hz1 hz2 rfl (by decide) _ _ _ rfl (hown.alloc _) ⟨_, 0, none⟩ 1 1 [.string (Tx.bs (curAt s k))] rfl rfl ?c1 ?c2 ?c3 ?c4 ?c5 ?_))
          case c1 => exact cell_one_new _ _ _
          case c2 => intro u hu; simp at hu; subst hu; rfl
          case c3 => unfold maxLen; omega
          case c4 => omega
          case c5 => simp; omega
          intro v' w1 hown' hgrow _
          have R := rel_app hbz hown hnx hown' hgrow
          clear hown' hgrow hown hnx
          go_wp2
          go_roundw
          case rel => exact ⟨k + 1, by omega, by go_num, by rw [E.out.2]; rfl, by rw [E.out.1]; exact R.1, R.2, fun h => absurd h (by rw [E.out.1]; simp)⟩
          case measure => simp [intOf]; omega
        · have E : Hid (doneAt s (k + 1) = doneAt s k ∧ curAt s (k + 1) = []) := ⟨(step_idle s k hlt hb hsk).1, cur_yes s k hlt hb⟩
          have hem := cur_empty s k hk hsk
          clear hsk
          go_wp2_with (go_at_call 58; refine (rblank_any _ _).mono ?_; rintro e w' ⟨rfl, hww⟩; subst hww)
          go_roundw
          case rel => exact ⟨k + 1, by omega, by go_num, by rw [E.out.2]; rfl, by rw [E.out.1]; exact hown, hnx, by rw [E.out.1]; exact hnil⟩
          case measure => simp [intOf]; omega
    · obtain rfl : k = s.size := by omega
      by_cases hsk : startAt s s.size < s.size
      · have E : Hid (toksOf s = doneAt s s.size ++ [curAt s s.size]) := end_more s hsk
        have hem := cur_some s s.size hsk
        clear hsk
        go_wp2_with (at_builtin; refine wpList_append_own _ rfl _ _ 59 rfl w.heap.size 9 i0 (.string ⟨#[]⟩) 1 16 Tryz.underlying59 hi hz0 hz1 hz2 rfl (by decide) _ _ _ rfl (hown.alloc _) ⟨_, 0, none⟩ 1 1 [.string (Tx.bs (curAt s s.size))] rfl rfl ?d1 ?d2 ?d3 ?d4 ?d5 ?_)
        case d1 => exact cell_one_new _ _ _
        case d2 => intro u hu; simp at hu; subst hu; rfl
        case d3 => unfold maxLen; omega
        case d4 => omega
        case d5 => simp; omega
        intro v' w1 hown' hgrow _
        have R := rel_app hbz hown hnx hown' hgrow
        clear hown' hgrow hown hnx
        go_wp2
        go_ret
        exact ⟨_, rfl, by rw [E.out]; exact R.1, R.2, fun h => absurd h (by rw [E.out]; simp)⟩
      · have E : Hid (toksOf s = doneAt s s.size) := end_none s hsk
        have hem := cur_empty s s.size hk hsk
        clear hsk
        go_wp2
        go_ret
        exact ⟨_, rfl, by rw [E.out]; exact hown, hnx, by rw [E.out]; exact hnil⟩

theorem rtokens_own (s : ByteArray) (w : World) (hs : s.size ≤ 4194304) : Calls Tryz.prog 31 #[.string s] w fun e w' =>
    ∃ v, e = .returned v ∧ w'.ownsRow w.heap.size 9 1 v (toksOf s).length ((toksOf s).map tv) ∧ Below w.heap.size w w' ∧ (toksOf s = [] → v = .slice none 0 0) := rtokens_big s w (Nat.le_trans hs (by decide))
end Go.Proofs.YtbinbojicmhdlaeGreatDoor.Wd

/-
  THE WALK of words.Lower: the text is made bytes, each capital letter is turned in place, the bytes are made a text again.
-/
namespace Go.Proofs.YtbinbojicmhdlaeGreatDoor.Wd
open Go.RowKit

def lowB (c : UInt8) : UInt8 := if 65 ≤ c.toNat ∧ c.toNat ≤ 90 then c + 32 else c
def lowL (l : List UInt8) : List UInt8 := l.map lowB

theorem lowL_len (l : List UInt8) : (lowL l).length = l.length := List.length_map _
theorem lowB_yes (c : UInt8) (h : 65 ≤ c.toNat ∧ c.toNat ≤ 90) : ((lowB c).toNat : Int) = (c.toNat : Int) - 65 + 97 := by
  unfold lowB
  rw [if_pos h, UInt8.toNat_add]
  have : (32 : UInt8).toNat = 32 := rfl
  omega
theorem lowB_no (c : UInt8) (h : ¬ (65 ≤ c.toNat ∧ c.toNat ≤ 90)) : lowB c = c := by
  unfold lowB
  rw [if_neg h]

/-- what a text made bytes leaves: a new row that holds them -/
def Row8 (B : Nat) (l : List UInt8) (w w' : World) : Prop :=
  (∀ j c, l[j]? = some c → w'.cell? ⟨B, j, none⟩ = some (.int .u8 (c.toNat : Int))) ∧ (∀ j, j < l.length → w'.frozen? ⟨B, j, none⟩ = false) ∧ Below B w w' ∧ B < w'.heap.size

theorem conv_bytes (s : ByteArray) (w : World) : ∃ cap w1, (convert 9 104 (.string s)).run Tryz.prog w = .ok (.slice (some ⟨w.heap.size, 0, none⟩) s.size cap) w1 ∧ Row8 w.heap.size s.data.toList w w1 := by
  refine ⟨_, _, run_bytes_of_string w 9 104 5 s Tryz.underlying9 Tryz.underlying104 Tryz.underlying5, ?_, ?_, ?_, ?_⟩
  · intro j c hc
    have hs : w.heap.size = w.drew.heap.size := rfl
    rw [hs, World.cell?_alloc_mark]
    unfold bytesRow
    have hj : j < s.data.toList.length := (List.getElem?_eq_some_iff.1 hc).1
    rw [Array.getElem?_append_left (by simpa using hj), Array.getElem?_map]
    rw [Array.getElem?_toList] at hc
    rw [hc]
    rfl
  · intro j hj
    have hs : w.heap.size = w.drew.heap.size := rfl
    rw [hs, World.frozen?_alloc_mark]
    have hz : j < (bytesRow s (grownCap w s.size 0 5)).size := by
      unfold bytesRow
      rw [Array.size_append, Array.size_map]
      have : s.data.toList.length = s.data.size := Array.length_toList
      omega
    rw [decide_eq_false (by omega)]
    rfl
  · exact ((Below.refl _ _).drew).alloc (Nat.le_refl _) _
  · simp

theorem row8_set {B : Nat} {l : List UInt8} {w w' : World} (h : Row8 B l w w') (k : Nat) (c : UInt8) (hk : k < l.length) : Row8 B (l.set k c) w (w'.setCell ⟨B, k, none⟩ (.int .u8 (c.toNat : Int))) := by
  obtain ⟨h1, h2, h3, h4⟩ := h
  refine ⟨?_, ?_, h3.setCell (Nat.le_refl _) _, by simpa using h4⟩
  · intro j d hd
    rw [List.getElem?_set] at hd
    by_cases e : k = j
    · subst e
      rw [if_pos rfl, if_pos hk] at hd
      cases hd
      exact World.cell?_setCell_same _ _ _ (h1 k _ (List.getElem?_eq_getElem hk))
    · rw [if_neg e] at hd
      rw [World.cell?_setCell_other _ _ _ _ (by intro h; cases h; exact e rfl)]
      exact h1 j d hd
  · intro j hj
    rw [List.length_set] at hj
    rw [World.frozen?_setCell]
    exact h2 j hj

/-- the first k letters lowered -/
def lowTo (l : List UInt8) (k : Nat) : List UInt8 := lowL (l.take k) ++ l.drop k
theorem lowTo_len (l : List UInt8) (k : Nat) : (lowTo l k).length = l.length := by
  unfold lowTo
  rw [List.length_append, lowL_len, ← List.length_append, List.take_append_drop]
theorem lowTo_all (l : List UInt8) : lowTo l l.length = lowL l := by
  unfold lowTo
  simp
theorem lowTo_at (l : List UInt8) (k : Nat) : (lowTo l k)[k]? = l[k]? := by
  unfold lowTo
  by_cases h : k ≤ l.length
  · have e : (lowL (l.take k)).length = k := by rw [lowL_len, List.length_take]; omega
    rw [List.getElem?_append_right (by omega), e, Nat.sub_self, List.getElem?_drop]
    rfl
  · rw [List.getElem?_eq_none (by rw [List.length_append, lowL_len, List.length_take, List.length_drop]; omega), List.getElem?_eq_none (by omega)]
theorem lowTo_succ (l : List UInt8) (k : Nat) (c : UInt8) (hc : l[k]? = some c) : lowTo l (k + 1) = (lowTo l k).set k (lowB c) := by
  have hk : k < l.length := (List.getElem?_eq_some_iff.1 hc).1
  have e : (lowL (l.take k)).length = k := by rw [lowL_len, List.length_take]; omega
  unfold lowTo
  rw [List.set_append_right _ _ (by omega), e, Nat.sub_self]
  have ht : l.take (k + 1) = l.take k ++ [c] := by rw [List.take_add_one, hc]; rfl
  have hd : l.drop k = c :: l.drop (k + 1) := by
    rw [← List.getElem_cons_drop hk]
    rw [List.getElem?_eq_getElem hk] at hc
    cases hc
    rfl
  rw [ht, hd]
  unfold lowL
  simp
theorem lowTo_same (l : List UInt8) (k : Nat) (c : UInt8) (hc : l[k]? = some c) (h : lowB c = c) : lowTo l (k + 1) = lowTo l k := by
  rw [lowTo_succ l k c hc, h]
  have := lowTo_at l k
  rw [hc] at this
  obtain ⟨h1, h2⟩ := List.getElem?_eq_some_iff.1 this
  rw [← h2]
  exact List.set_getElem_self h1
theorem byte_at (s : ByteArray) (k : Nat) (h : k < s.size) : s.data.toList[k]? = some s[k] := by
  rw [List.getElem?_eq_getElem (by rw [← Lib.size_eq]; exact h)]
  rfl

set_option maxHeartbeats 800000 in
set_option maxRecDepth 100000 in
theorem lower_any (s : ByteArray) (w : World) (hs : s.size ≤ 4194304) : Calls Tryz.prog 47 #[.string s] w fun e w' =>
    e = .returned (.string (Tx.bs (lowL s.data.toList))) ∧ Below w.heap.size w w' := by
  obtain ⟨cap, w1, hconv, hrow⟩ := conv_bytes s w
  go_enter Tryz.func47, Tryz.ntmps47
  go_wp2
  go_loopw [10] (fun i wr => ∃ k : Nat, k ≤ s.size ∧ i = .int .i64 k ∧ Row8 w.heap.size (lowTo s.data.toList k) w wr)
    (fun i _ => s.size - (intOf i).toNat)
  case atStart => exact ⟨0, Nat.zero_le _, rfl, hrow⟩
  case round =>
    clear hconv hrow
    obtain ⟨k, hk, rfl, hr⟩ := hrel
    by_cases hlt : k < s.size
    · have hb := byte_at s k hlt
      have hcell : wr.cell? ⟨w.heap.size, k, none⟩ = some (.int .u8 (s[k].toNat : Int)) := hr.1 k _ ((lowTo_at _ k).trans hb)
      have hfro : wr.frozen? ⟨w.heap.size, k, none⟩ = false := hr.2.1 k (by rw [lowTo_len, ← Lib.size_eq]; exact hlt)
      by_cases hc : 65 ≤ s[k].toNat ∧ s[k].toNat ≤ 90
      · have E : Hid (Row8 w.heap.size (lowTo s.data.toList (k + 1)) w (wr.setCell ⟨w.heap.size, k, none⟩ (.int .u8 ((s[k].toNat : Int) - 65 + 97)))) := by
          have := row8_set hr k (lowB s[k]) (by rw [lowTo_len, ← Lib.size_eq]; exact hlt)
          rw [← lowTo_succ _ k _ hb, lowB_yes _ hc] at this
          exact this
        obtain ⟨hc1, hc2⟩ := hc
        clear hb
        go_wp2
        go_roundw
        case rel => exact ⟨k + 1, by omega, by go_num, E.out⟩
        case measure => simp [intOf]; omega
      · have E : Hid (lowTo s.data.toList (k + 1) = lowTo s.data.toList k) := lowTo_same _ k _ hb (lowB_no _ hc)
        clear hb
        go_wp2
        all_goals
          go_roundw
          case rel => exact ⟨k + 1, by omega, by go_num, by rw [E.out]; exact hr⟩
          case measure => simp [intOf]; omega
    · obtain rfl : k = s.size := by omega
      have hl : lowTo s.data.toList s.size = lowL s.data.toList := by
        have := lowTo_all s.data.toList
        rw [← Lib.size_eq] at this
        exact this
      rw [hl] at hr
      have hz : (lowL s.data.toList).length = s.size := by rw [lowL_len, ← Lib.size_eq]
      have hback := run_convert_bytes_back (P := Tryz.prog) wr 104 9 5 ⟨w.heap.size, 0, none⟩ cap (lowL s.data.toList) Tryz.underlying104 Tryz.underlying5 Tryz.underlying9 (fun j hj => by
        have ha : (⟨w.heap.size, 0, none⟩ : Addr).add j = ⟨w.heap.size, j, none⟩ := by unfold Addr.add; split <;> simp_all
        rw [ha]
        exact hr.1 j _ (List.getElem?_eq_getElem hj))
      rw [hz] at hback
      clear hl hz
      go_wp2
      go_ret
      exact ⟨rfl, hr.2.2.1⟩

end Go.Proofs.YtbinbojicmhdlaeGreatDoor.Wd

/-
  THE LIBRARY's CONTRACT of strings.Join, laid at this program's own numbers (by program, out of the kit's shelf).
-/
namespace Go.Proofs
open Go.Shelf
def Tryz.lays156_ren : Go.Shelf.Ren := ⟨fun | 156 => 125 | 165 => 156 | 166 => 157 | 169 => 158 | 240 => 173 | 241 => 174 | 276 => 186 | 277 => 187 | n => n, fun | 31 => 59 | 9 => 9 | 3 => 3 | 4 => 4 | 0 => 0 | 20 => 20 | 72 => 151 | 76 => 154 | 70 => 149 | 37 => 104 | 75 => 153 | 127 => 163 | 164 => 175 | 5 => 5 | 80 => 156 | n => n, fun | n => n⟩
theorem Tryz.lays156 : Go.Proofs.Lays.n156 Tryz.prog Tryz.lays156_ren := {
  mixed := by kernel_rfl
  f156 := Tryz.func125.trans (congrArg some (by kernel_rfl))
  f165 := Tryz.func156.trans (congrArg some (by kernel_rfl))
  f166 := Tryz.func157.trans (congrArg some (by kernel_rfl))
  f169 := Tryz.func158.trans (congrArg some (by kernel_rfl))
  f240 := Tryz.func173.trans (congrArg some (by kernel_rfl))
  f241 := Tryz.func174.trans (congrArg some (by kernel_rfl))
  f276 := Tryz.func186.trans (congrArg some (by kernel_rfl))
  f277 := Tryz.func187.trans (congrArg some (by kernel_rfl))
  t0 := Tryz.underlying0
  a0 := Tryz.isAgg0
  z0 := Tryz.sizeOf0
  v0 := Tryz.zeroValue0
  t3 := Tryz.underlying3
  a3 := Tryz.isAgg3
  z3 := Tryz.sizeOf3
  v3 := Tryz.zeroValue3
  t4 := Tryz.underlying4
  a4 := Tryz.isAgg4
  z4 := Tryz.sizeOf4
  v4 := Tryz.zeroValue4
  t9 := Tryz.underlying9
  a9 := Tryz.isAgg9
  z9 := Tryz.sizeOf9
  v9 := Tryz.zeroValue9
  t20 := Tryz.underlying20
  a20 := Tryz.isAgg20
  z20 := Tryz.sizeOf20
  v20 := Tryz.zeroValue20
  t31 := Tryz.underlying59
  a31 := Tryz.isAgg59
  z31 := Tryz.sizeOf59
  v31 := Tryz.zeroValue59
  t37 := Tryz.underlying104
  a37 := Tryz.isAgg104
  z37 := Tryz.sizeOf104
  v37 := Tryz.zeroValue104
  t70 := Tryz.underlying149
  a70 := Tryz.isAgg149
  z70 := Tryz.sizeOf149
  v70 := Tryz.zeroValue149
  t72 := Tryz.underlying151
  a72 := Tryz.isAgg151
  z72 := Tryz.sizeOf151
  v72 := Tryz.zeroValue151
  t75 := Tryz.underlying153
  a75 := Tryz.isAgg153
  z75 := Tryz.sizeOf153
  v75 := Tryz.zeroValue153
  t76 := Tryz.underlying154
  a76 := Tryz.isAgg154
  z76 := Tryz.sizeOf154
  v76 := Tryz.zeroValue154
  t127 := Tryz.underlying163
  a127 := Tryz.isAgg163
  z127 := Tryz.sizeOf163
  v127 := Tryz.zeroValue163
  t164 := Tryz.underlying175
  a164 := Tryz.isAgg175
  z164 := Tryz.sizeOf175
  v164 := Tryz.zeroValue175 }
theorem Tryz.Builder_Extra_156 : Builder.Extra Tryz.prog Tryz.lays156_ren := {
  sizeBuilder := by kernel_rfl
  liesBuilder := by kernel_rfl
  t5 := Tryz.underlying5
  a5 := Tryz.isAgg5
  z5 := Tryz.sizeOf5
  v5 := Tryz.zeroValue5
  infoByte := by kernel_rfl
  cellsByte := by kernel_rfl
  sizeByte := by kernel_rfl
  neB5 := by decide }
open Go.RowKit in
theorem Tryz.strings_Join_none (a : Option Addr) (c : Nat) (sep : ByteArray) (w : World) :
    Calls Tryz.prog 125 #[.slice a 0 c, .string sep] w fun e w' => e = .returned (.string ⟨#[]⟩) ∧ w' = w := Any.strings_Join_none Tryz.lays156 Tryz.Builder_Extra_156 a c sep w
open Go.RowKit in
theorem Tryz.strings_Join (bk o c : Nat) (xs : List ByteArray) (sep : ByteArray) (w : World) (hcells : ∀ (j : Nat) x, xs[j]? = some x → w.cell? ⟨bk, o + j, none⟩ = some (.string x)) (hbk : bk < w.heap.size) (hN : xs.length ≤ 140737488355328) (hcap : xs.length ≤ c) (hlen : (Lib.join (xs.map (·.data.toList)) sep.data.toList).length ≤ 140737488355328) :
    Calls Tryz.prog 125 #[.slice (some ⟨bk, o, none⟩) xs.length c, .string sep] w fun e w' => e = .returned (.string ⟨(Lib.join (xs.map (·.data.toList)) sep.data.toList).toArray⟩) ∧ Below w.heap.size w w' := Any.strings_Join Tryz.lays156 Tryz.Builder_Extra_156 bk o c xs sep w hcells hbk hN hcap hlen
end Go.Proofs

/-
  THE WALKS of words.Squeeze, digit, letter, Num and Name.
-/
namespace Go.Proofs.YtbinbojicmhdlaeGreatDoor.Wd
open Go.RowKit

/-- a slice that lies at the head of block g, of room c, holds these tokens -/
def Words (B : Nat) (ts : List (List UInt8)) (g c : Nat) (w : World) : Prop :=
  B ≤ g ∧ g < w.heap.size ∧ ts.length ≤ c ∧ ∀ j t, ts[j]? = some t → w.cell? ⟨g, j, none⟩ = some (tv t)

theorem words_of {w : World} {B : Nat} {v : Value} {ts : List (List UInt8)} (h : w.ownsRow B 9 1 v ts.length (ts.map tv)) (hne : ts ≠ []) :
    ∃ g c, v = .slice (some ⟨g, 0, none⟩) ts.length c ∧ Words B ts g c w := by
  have hpos : 0 < ts.length := List.length_pos_iff.2 hne
  rcases h.2 with ⟨_, hn⟩ | ⟨g, cap, cur, rfl, hb, hg, hc, _⟩
  · omega
  · refine ⟨g, cap, rfl, hb, (Array.getElem?_eq_some_iff.1 hg).1, hc, ?_⟩
    intro j t hj
    have hjl : j < ts.length := (List.getElem?_eq_some_iff.1 hj).1
    rw [h.cellAt j (by omega), List.getElem?_map, hj]
    rfl

theorem tokens_some_big (s : ByteArray) (w : World) (hs : s.size ≤ 1073741824) (hne : toksOf s ≠ []) : Calls Tryz.prog 80 #[.string s] w fun e w' =>
    ∃ g c, e = .returned (.slice (some ⟨g, 0, none⟩) (toksOf s).length c) ∧ Words w.heap.size (toksOf s) g c w' ∧ Below w.heap.size w w' := by
  refine (tokens_big s w hs).mono ?_
  rintro e w' ⟨v, rfl, hown, hbel, _⟩
  obtain ⟨g, c, rfl, hW⟩ := words_of hown hne
  exact ⟨g, c, rfl, hW, hbel⟩

theorem tokens_none_big (s : ByteArray) (w : World) (hs : s.size ≤ 1073741824) (hne : toksOf s = []) : Calls Tryz.prog 80 #[.string s] w fun e w' =>
    e = .returned (.slice none 0 0) ∧ Below w.heap.size w w' := by
  refine (tokens_big s w hs).mono ?_
  rintro e w' ⟨v, rfl, _, hbel, hnil⟩
  rw [hnil hne]
  exact ⟨rfl, hbel⟩

theorem join_words (ts : List (List UInt8)) (B g c : Nat) (w : World) (h : Words B ts g c w) (hN : ts.length ≤ 1073741824) (hlen : (Tx.joined ts).length ≤ 1073741824) :
    Calls Tryz.prog 125 #[.slice (some ⟨g, 0, none⟩) ts.length c, .string ⟨#[32]⟩] w fun e w' => e = .returned (.string (Tx.bs (Tx.joined ts))) ∧ Below w.heap.size w w' := by
  have hm : (ts.map Tx.bs).map (·.data.toList) = ts := by
    rw [List.map_map]
    conv => rhs; rw [← List.map_id ts]
    apply List.map_congr_left
    intro t _
    rfl
  have e : (Lib.join ((ts.map Tx.bs).map (·.data.toList)) (⟨#[32]⟩ : ByteArray).data.toList) = Tx.joined ts := by rw [hm]; rfl
  have h1 := Tryz.strings_Join g 0 c (ts.map Tx.bs) ⟨#[32]⟩ w (fun j x hx => by
    rw [List.getElem?_map] at hx
    cases ht : ts[j]? with
    | none => rw [ht] at hx; cases hx
    | some t =>
      rw [ht] at hx
      cases hx
      rw [Nat.zero_add]
      exact h.2.2.2 j t ht) h.2.1 (by rw [List.length_map]; omega) (by rw [List.length_map]; exact h.2.2.1) (by rw [e]; omega)
  rw [e, List.length_map] at h1
  exact h1

def sqz (s : ByteArray) : ByteArray := Tx.bs (Tx.squeeze s.data.toList)

theorem toksOf_len (s : ByteArray) : (toksOf s).length ≤ s.size := by
  rw [Lib.size_eq]
  exact Tx.toks_len _
theorem joined_len (s : ByteArray) : (Tx.joined (toksOf s)).length ≤ s.size := by
  rw [Lib.size_eq]
  exact Tx.squeeze_len _

set_option maxHeartbeats 400000 in
theorem squeeze_big (s : ByteArray) (w : World) (hs : s.size ≤ 1073741824) : Calls Tryz.prog 82 #[.string s] w fun e w' =>
    e = .returned (.string (sqz s)) ∧ Below w.heap.size w w' := by
  have h1 := toksOf_len s
  have h2 := joined_len s
  by_cases hne : toksOf s = []
  · have e : sqz s = ⟨#[]⟩ := by
      unfold sqz Tx.squeeze
      have : Tx.toks s.data.toList = [] := hne
      rw [this]
      rfl
    rw [e]
    go_enter Tryz.func82, Tryz.ntmps82
    go_wp2_with fail
    refine (tokens_none_big s _ hs hne).mono ?_
    rintro e w1 ⟨rfl, hb1⟩
    go_wp2_with fail
    refine (Tryz.strings_Join_none none 0 _ _).mono ?_
    rintro e w2 ⟨rfl, rfl⟩
    go_wp2
    go_ret
    exact ⟨rfl, hb1⟩
  · go_enter Tryz.func82, Tryz.ntmps82
    go_wp2_with fail
    refine (tokens_some_big s _ hs hne).mono ?_
    rintro e w1 ⟨g, c, rfl, hW, hb1⟩
    go_wp2_with fail
    refine (join_words (toksOf s) w.heap.size g c w1 hW (by omega) (by omega)).mono ?_
    rintro e w2 ⟨rfl, hb2⟩
    go_wp2
    go_ret
    exact ⟨rfl, hb1.trans (hb2.mono hb1.size)⟩
theorem squeeze_any (s : ByteArray) (w : World) (hs : s.size ≤ 4194304) : Calls Tryz.prog 82 #[.string s] w fun e w' =>
    e = .returned (.string (sqz s)) ∧ Below w.heap.size w w' := squeeze_big s w (Nat.le_trans hs (by decide))
theorem tokens_some (s : ByteArray) (w : World) (hs : s.size ≤ 4194304) (hne : toksOf s ≠ []) : Calls Tryz.prog 80 #[.string s] w fun e w' =>
    ∃ g c, e = .returned (.slice (some ⟨g, 0, none⟩) (toksOf s).length c) ∧ Words w.heap.size (toksOf s) g c w' ∧ Below w.heap.size w w' := tokens_some_big s w (Nat.le_trans hs (by decide)) hne
theorem tokens_none (s : ByteArray) (w : World) (hs : s.size ≤ 4194304) (hne : toksOf s = []) : Calls Tryz.prog 80 #[.string s] w fun e w' =>
    e = .returned (.slice none 0 0) ∧ Below w.heap.size w w' := tokens_none_big s w (Nat.le_trans hs (by decide)) hne

end Go.Proofs.YtbinbojicmhdlaeGreatDoor.Wd
