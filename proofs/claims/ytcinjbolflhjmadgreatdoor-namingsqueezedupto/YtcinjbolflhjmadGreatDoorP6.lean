/-
  OWN WORK: Fup, Fsh, Fs1, Fs3, Fok, Fma, Fmb, Had, Wtx, Wto, Vma.
-/
import Derived.Test.YtcinjbolflhjmadGreatDoorP5
import Derived.Maps.OwnOps
import Derived.Maps.Views
import Derived.Lib.Strings
import Derived.Lib.Join
import Derived.Test.YtcinjbolflhjmadGreatDoorProg
import Derived.WalkKit
import Derived.WalkSpells
import Derived.WalkLawsBesides
/-
  THE WALKS of slices.Contains at ints, and of flat.Up.
-/
namespace Go.Proofs.YtcinjbolflhjmadGreatDoor
open Go.RowKit

set_option maxHeartbeats 800000 in
theorem contains_any {w : World} {vl : Value} {l : List Nat} (hl : IntsAt w vl l) (x : Nat) :
    Calls Tryz.prog 91 #[vl, .int .i64 (x : Int)] w fun e w' => e = .returned (.bool (l.contains x)) ∧ w' = w := by
  have hI := index_any hl x
  clear hl
  rcases idx_cases2 (fun k => k == x) l with ⟨e1, e2⟩ | ⟨j, hj, e1, e2, _⟩
  · have E : Hid (l.contains x = false) := by
      show _ = _
      cases h : l.contains x with
      | false => rfl
      | true =>
        have := e2 x (by simpa using h)
        simp at this
    rw [e1] at hI
    clear e1 e2
    go_enter Tryz.func91, Tryz.ntmps91
    go_wp2_with (go_at_call 120; refine hI.mono ?_; rintro e w9 ⟨rfl, hw9⟩; subst hw9)
    go_ret
    exact ⟨by rw [E.out]; rfl, rfl⟩
  · have E : Hid (l.contains x = true) := by
      show _ = _
      have : l[j] = x := by simpa using e2
      rw [← this]
      simp
    rw [e1] at hI
    clear e1 e2
    go_enter Tryz.func91, Tryz.ntmps91
    go_wp2_with (go_at_call 120; refine hI.mono ?_; rintro e w9 ⟨rfl, hw9⟩; subst hw9)
    go_ret
    exact ⟨by rw [E.out]; simp, rfl⟩

set_option maxHeartbeats 1600000 in
theorem fup_any {w : World} {b o c : Nat} {rs : List Raw} {d : Tn.Dc} (hd : DocAt w b o c rs d) (hg : Okd d) (n : Int) :
    Calls Tryz.prog 56 #[.slice (some ⟨b, o, none⟩) rs.length c, .int .i64 n] w fun e w' => e = .returned (.int .i64 (upF d n)) ∧ Below w.heap.size w w' := by
  have H : Hid (DocAt w b o c rs d) := hd
  clear hd
  cases his : Tn.isN d n false with
  | false =>
    have E : Hid (upF d n = -1) := by show _ = _; unfold upF; rw [if_neg (by simp [his])]
    go_enter Tryz.func56, Tryz.ntmps56
    go_wp2_with (go_at_call 27; refine (dis_any H.out _ _).mono ?_; rintro e w' ⟨rfl, hww⟩; subst hww; rw [his])
    go_ret
    exact ⟨by rw [E.out]; rfl, Below.refl _ _⟩
  | true =>
    obtain ⟨k, rfl, hk, hlv⟩ := isN_nat his
    have hk' : k < rs.length := by rw [H.out.len]; exact hk
    have h4 := H.out.row.c4 k hk'
    have E : Hid (upF d (k : Int) = if (kidsD d rs[k].up).contains k then rs[k].up else if (kidsD d (slotD d (k : Int))).contains k then slotD d (k : Int) else -1) := by
      show _ = _
      unfold upF
      rw [if_pos his, Int.toNat_natCast, (H.out.nds k hk' hk).up, ← nd_at hk]
    have hL : ∀ W, Keeps w W → Calls Tryz.prog 90 #[.slice (some ⟨b, o, none⟩) rs.length c, .int .i64 (k : Int)] W fun e w' => e = .returned (.int .i64 (slotD d (k : Int))) ∧ Below W.heap.size W w' := fun W h => fslot_any (H.out.keeps h) hg k
    have HK : Hid (∀ W x, Keeps w W → Calls Tryz.prog 92 #[.slice (some ⟨b, o, none⟩) rs.length c, .int .i64 x] W fun e w' => ∃ v, e = .returned v ∧ OwnI w' W.heap.size v (kidsD d x) ∧ Below W.heap.size W w') := fun W x h => fkids_any (H.out.keeps h) hg x
    generalize upF d (k : Int) = res at *
    generalize slotD d (k : Int) = sl at *
    generalize rs[k].up = up at *
    clear hlv
    go_enter Tryz.func56, Tryz.ntmps56
    go_upto_region 3 with (go_at_call 27; refine (dis_any H.out _ _).mono ?_; rintro e w' ⟨rfl, hww⟩; subst hww; rw [his])
    have SS : ∀ w'', Keeps w' w'' → (fun w'' => w''.cell? ⟨b, o + k * 9 + 4, none⟩ = some (.int .i64 up)) w'' := fun w'' hk => hk _ _ h4
    go_region_held3 (fun w'' => w''.cell? ⟨b, o + k * 9 + 4, none⟩ = some (.int .i64 up))
      ((apply SS; first | exact Keeps.refl _ | assumption | exact keeps_drew (Keeps.refl _) | (apply keeps_alloc'; assumption)))
      (first
        | (go_at_call 90; refine (hL _ (keeps_drew (Keeps.refl _))).mono ?_; rintro e wa ⟨rfl, hba⟩; have Ja : Keeps w' wa := (keeps_drew (Keeps.refl w')).trans (keeps_below hba (Nat.le_refl _))))
    all_goals
      have g0 : (wa.alloc (.cells #[.int .i64 up, .int .i64 sl] 3)).cell? ⟨wa.heap.size, 0, none⟩ = some (.int .i64 up) := by rw [World.cell?_alloc_new]; rfl
      have g1 : (wa.alloc (.cells #[.int .i64 up, .int .i64 sl] 3)).cell? ⟨wa.heap.size, 1, none⟩ = some (.int .i64 sl) := by rw [World.cell?_alloc_new]; rfl
      have BA : Below w'.heap.size w' wa := (Below.refl _ w').drew.trans hba
      have B0 : Below w'.heap.size w' (wa.alloc (.cells #[.int .i64 up, .int .i64 sl] 3)) := BA.alloc BA.size _
      generalize hG : wa.heap.size = G at *
      generalize wa.alloc (.cells #[.int .i64 up, .int .i64 sl] 3) = w3 at *
      clear Ja hL SS hba h4 BA hG
      have J3 := keeps_below B0 (Nat.le_refl _)
      go_wp2_with fail
      go_loopw [6, 21] (fun _ iv wr => ∃ j : Nat, iv = .int .i64 j ∧ Below w3.heap.size w3 wr ∧ (j = 0 ∨ (j = 1 ∧ Hid ((kidsD d up).contains k = false)) ∨ (j = 2 ∧ Hid ((kidsD d up).contains k = false) ∧ Hid ((kidsD d sl).contains k = false)))) (fun _ iv _ => 2 - (intOf iv).toNat)
      case atStart => exact ⟨0, rfl, Below.refl _ _, Or.inl rfl⟩
      case round =>
        obtain ⟨j, rfl, hnx, hj⟩ := hrel
        have JR := keeps_below hnx (Nat.le_refl _)
        have r0 := JR _ _ g0
        have r1 := JR _ _ g1
        have BR : Below w'.heap.size w' wr := B0.trans (hnx.mono B0.size)
        rcases hj with rfl | ⟨rfl, F1⟩ | ⟨rfl, F1, F2⟩
        · have hKK := HK.out wr up (J3.trans JR)
          cases hc : (kidsD d up).contains k with
          | true =>
            have E2 : Hid (res = up) := by show _ = _; rw [E.out, hc]; rfl
            go_wp2_with (first
              | (go_at_call 92; refine hKK.mono ?_; rintro e w8 ⟨v8, rfl, ho8, hb8⟩)
              | (go_at_call 91; refine (contains_any (ints_of_owns ho8) k).mono ?_; rintro e w9 ⟨rfl, hw9⟩; subst hw9; rw [hc]))
            go_ret
            exact ⟨by rw [E2.out]; rfl, BR.trans (hb8.mono BR.size)⟩
          | false =>
            go_wp2_with (first
              | (go_at_call 92; refine hKK.mono ?_; rintro e w8 ⟨v8, rfl, ho8, hb8⟩)
              | (go_at_call 91; refine (contains_any (ints_of_owns ho8) k).mono ?_; rintro e w9 ⟨rfl, hw9⟩; subst hw9; rw [hc]))
            go_roundw
            case rel => exact ⟨1, rfl, hnx.trans (hb8.mono hnx.size), Or.inr (Or.inl ⟨rfl, by first | exact hc | exact True.intro⟩)⟩
            case measure => simp [intOf]
        · have hKK := HK.out wr sl (J3.trans JR)
          cases hc : (kidsD d sl).contains k with
          | true =>
            have E2 : Hid (res = sl) := by show _ = _; rw [E.out, F1.out, hc]; rfl
            go_wp2_with (first
              | (go_at_call 92; refine hKK.mono ?_; rintro e w8 ⟨v8, rfl, ho8, hb8⟩)
              | (go_at_call 91; refine (contains_any (ints_of_owns ho8) k).mono ?_; rintro e w9 ⟨rfl, hw9⟩; subst hw9; rw [hc]))
            go_ret
            exact ⟨by rw [E2.out]; rfl, BR.trans (hb8.mono BR.size)⟩
          | false =>
            go_wp2_with (first
              | (go_at_call 92; refine hKK.mono ?_; rintro e w8 ⟨v8, rfl, ho8, hb8⟩)
              | (go_at_call 91; refine (contains_any (ints_of_owns ho8) k).mono ?_; rintro e w9 ⟨rfl, hw9⟩; subst hw9; rw [hc]))
            go_roundw
            case rel => exact ⟨2, rfl, hnx.trans (hb8.mono hnx.size), Or.inr (Or.inr ⟨rfl, F1, by first | exact hc | exact True.intro⟩)⟩
            case measure => simp [intOf]
        · have E2 : Hid (res = -1) := by show _ = _; rw [E.out, F1.out, F2.out]; rfl
          go_wp2_with fail
          go_ret
          exact ⟨by rw [E2.out]; rfl, BR⟩
end Go.Proofs.YtcinjbolflhjmadGreatDoor

/-
  THE WALK of the function in flat.Shown that calls itself.
-/
namespace Go.Proofs.YtcinjbolflhjmadGreatDoor
open Go.RowKit

/-- append, and where what comes of it lies -/
theorem append_int2 {w0 wr : World} {ops : Array Oper} {rest : List Oper} {o : Oper} {a : Act} {Q : Exit → Act → World → Prop} (hgd : o.guard = none)
    (s x : Operand) (ho : o.op = Op.call { callee := Callee.builtin Builtin.append, args := #[s, x], argTypes := #[29, 29] }) {B : Nat} {v : Value} {l : List Nat} (k : Nat)
    (hs : a.eval s = v) (hx : a.eval x = .slice (some ⟨wr.heap.size, 0, none⟩) 1 1) (hown : OwnI wr B v l) (hnx : Below B w0 wr) (hB : B ≤ wr.heap.size) (hsz : l.length ≤ 1000000)
    (h : ∀ v' w1, OwnI w1 B v' (l ++ [k]) → Below B w0 w1 → wr.grownBy w1 v.ownBlock → (v'.ownBlock = v.ownBlock ∨ ∃ g, wr.heap.size ≤ g ∧ v'.ownBlock = some g) → wpList Tryz.prog ops Q rest (a.put o.dst v') w1) :
    wpList Tryz.prog ops Q (o :: rest) a (wr.alloc (.cells #[.int .i64 (k : Int)] 3)) := by
  obtain ⟨i0, hi, hz0, hz1, hz2⟩ := info_parts infoI
  unfold OwnI at hown h
  have hown' := hown.alloc (.cells #[.int .i64 (k : Int)] 3)
  have hnews : ∀ (j : Nat) (u : Value), ([iv k] : List Value)[j]? = some u → (wr.alloc (.cells #[.int .i64 (k : Int)] 3)).cell? ((⟨wr.heap.size, 0, none⟩ : Addr).add j) = some u := cell_one_new _ _ _
  have h1 : ∀ u ∈ ([iv k] : List Value), u.oneCell' = true := by intro u hu; simp at hu; subst hu; rfl
  refine wpList_plain hgd fun K hK => ?_
  obtain ⟨v', w', hr, h2, h3, _⟩ := run_append_own (P := Tryz.prog) (wr.alloc (.cells #[.int .i64 (k : Int)] 3)) B 29 o.type 3 i0 (.int .i64 0) 1 8 Tryz.underlying29 hi hz0 hz1 hz2 rfl (by decide) v _ _ hown' ⟨_, 0, none⟩ 1 1 [iv k] rfl hnews h1 (by unfold maxLen; omega) (by omega) (by simp; omega)
  have hn := (hnx.alloc hB (.cells #[.int .i64 (k : Int)] 3)).grown h3 (by simp; omega) (fun j hj => (hown.lt j hj).1)
  have hg2 : wr.grownBy w' v.ownBlock := by
    have h4 := World.grownBy_alloc wr (.cells #[.int .i64 (k : Int)] 3) v.ownBlock
    exact ⟨h3.os.trans h4.os, h3.tape.trans h4.tape, h3.output.trans h4.output, Nat.le_trans h4.size h3.size, fun q hq hr' => (h3.block q (Nat.lt_of_lt_of_le hq h4.size) hr').trans (h4.block q hq hr')⟩
  have hblk : v'.ownBlock = v.ownBlock ∨ ∃ g, wr.heap.size ≤ g ∧ v'.ownBlock = some g := by
    have hzs : (i0.size : Nat) = 1 := hz1
    rcases hown'.2 with ⟨rfl, hn0⟩ | ⟨g, cap, cur, rfl, hbg, hg, hnc, hcm, hcs, htake⟩
    · have hr2 := run_append_nil (P := Tryz.prog) (wr.alloc (.cells #[.int .i64 (k : Int)] 3)) 29 o.type 3 i0 (.int .i64 0) Tryz.underlying29 hi hz0 ⟨wr.heap.size, 0, none⟩ 1 1 [iv k] (by rw [hzs]; rfl) hnews (by decide) (by decide) (by rw [hz2]; decide)
      rw [hr2] at hr
      injection hr with e1 e2
      right
      refine ⟨wr.heap.size + 1, by omega, ?_⟩
      rw [← e1]
      simp [Value.ownBlock]
    · by_cases hroom : l.length + 1 ≤ cap
      · have hr2 := run_append_room (P := Tryz.prog) (wr.alloc (.cells #[.int .i64 (k : Int)] 3)) 29 o.type 3 i0 Tryz.underlying29 hi g l.length cap cur hg ⟨wr.heap.size, 0, none⟩ 1 1 [iv k] (by rw [hzs]; rfl) hnews h1 hroom (by rw [hzs, hcs]; simp; omega)
        rw [hr2] at hr
        injection hr with e1 e2
        left
        rw [← e1]
        rfl
      · have hr2 := run_append_grow (P := Tryz.prog) (wr.alloc (.cells #[.int .i64 (k : Int)] 3)) 29 o.type 3 i0 (.int .i64 0) Tryz.underlying29 hi hz0 ⟨g, 0, none⟩ l.length cap _ (by rw [hzs]; exact hown'.1) (World.ownsRow.cells hown' (g := g) rfl) ⟨wr.heap.size, 0, none⟩ 1 1 [iv k] (by rw [hzs]; rfl) hnews (by omega) (by omega) (growslice_fits (by omega) (by rw [hz2]; omega))
        rw [hr2] at hr
        injection hr with e1 e2
        right
        refine ⟨wr.heap.size + 1, by omega, ?_⟩
        rw [← e1]
        simp [Value.ownBlock]
  unfold Oper.wp execOp
  simp only [ho, resolve, invoke, builtin, Sem.run_bind, Sem.run_pure, Result.andThen_ok, List.map_toArray, List.map_cons, List.map_nil, hs, hx, hr]
  exact hK _ _ (h v' w' (by simpa using h2) hn hg2 hblk)
end Go.Proofs.YtcinjbolflhjmadGreatDoor

/-
  THE WALK of the function in flat.Shown that calls itself.
-/
namespace Go.Proofs.YtcinjbolflhjmadGreatDoor
open Go.RowKit

/-- all blocks that there were are as they were, but for A and r; the row lies in r still, or in a block that was not there -/
structure Mv (A : Nat) (r r' : Option Nat) (w w' : World) : Prop where
  os : w'.os = w.os
  tape : w'.tape = w.tape
  output : w'.output = w.output
  size : w.heap.size ≤ w'.heap.size
  block : ∀ k, k < w.heap.size → k ≠ A → some k ≠ r → w'.heap[k]? = w.heap[k]?
  own : r' = r ∨ ∃ g, w.heap.size ≤ g ∧ r' = some g

theorem Mv.refl (A : Nat) (r : Option Nat) (w : World) : Mv A r r w w := ⟨rfl, rfl, rfl, Nat.le_refl _, fun _ _ _ _ => rfl, Or.inl rfl⟩
theorem Mv.trans {A : Nat} {r r' r'' : Option Nat} {a b c : World} (h : Mv A r r' a b) (k : Mv A r' r'' b c) : Mv A r r'' a c := by
  refine ⟨k.os.trans h.os, k.tape.trans h.tape, k.output.trans h.output, Nat.le_trans h.size k.size, fun i hi hA hr => ?_, ?_⟩
  · rw [k.block i (Nat.lt_of_lt_of_le hi h.size) hA ?_, h.block i hi hA hr]
    rcases h.own with e | ⟨g, hg, e⟩
    · rw [e]; exact hr
    · rw [e]
      intro x
      cases x
      omega
  · rcases k.own with e | ⟨g, hg, e⟩
    · rw [e]
      exact h.own
    · exact Or.inr ⟨g, Nat.le_trans h.size hg, e⟩
theorem Mv.below {A : Nat} {r r' : Option Nat} {a b c : World} (h : Mv A r r' a b) (k : Below b.heap.size b c) : Mv A r r' a c :=
  ⟨k.os.trans h.os, k.tape.trans h.tape, k.output.trans h.output, Nat.le_trans h.size k.size, fun i hi hA hr => (k.block i (Nat.lt_of_lt_of_le hi h.size)).trans (h.block i hi hA hr), h.own⟩
theorem Mv.drew {A : Nat} {r r' : Option Nat} {a b : World} (h : Mv A r r' a b) : Mv A r r' a b.drew := ⟨h.os, h.tape, h.output, h.size, h.block, h.own⟩
theorem Mv.set {A : Nat} {r r' : Option Nat} {a b : World} (h : Mv A r r' a b) (u : Value) : Mv A r r' a (b.setCell ⟨A, 0, none⟩ u) := by
  have hb := (Below.refl 0 b).setCell (p := ⟨A, 0, none⟩) (Nat.zero_le _) u
  exact ⟨hb.os.trans h.os, hb.tape.trans h.tape, hb.output.trans h.output, Nat.le_trans h.size hb.size, fun i hi hn hr => by rw [heap_setCell_other _ _ _ _ hn]; exact h.block i hi hn hr, h.own⟩
theorem Mv.cell {A : Nat} {r r' : Option Nat} {w w' : World} (h : Mv A r r' w w') {p : Addr} {v : Value} (hv : w.cell? p = some v) (hp : p.block ≠ A) (hr : some p.block ≠ r) : w'.cell? p = some v := by
  have hl := lt_of_cell hv
  rw [← hv]
  exact World.cell?_of_block (h.block p.block hl hp hr)
theorem Mv.but {A : Nat} {r r' : Option Nat} {w w' : World} (h : Mv A r r' w w') {B : Nat} (hB : B ≤ w.heap.size) (hr : ∀ k, r = some k → B ≤ k) : But B A w w' :=
  ⟨h.os, h.tape, h.output, h.size, fun i hi hA => h.block i (by omega) hA (fun e => by have := hr i e.symm; omega)⟩

/-- what is shown below n ends within f calls -/
def EndF : Nat → Tn.Dc → Nat → Prop
  | 0, _, _ => False
  | f + 1, d, n => ∀ k ∈ kidsD d (n : Int), EndF f d k

end Go.Proofs.YtcinjbolflhjmadGreatDoor

/-
  THE WALK of flat.Shown.
-/
namespace Go.Proofs.YtcinjbolflhjmadGreatDoor
open Go.RowKit

end Go.Proofs.YtcinjbolflhjmadGreatDoor

/-
  PLAIN MATHEMATICS: what the walks ask of a document holds of each that was built; documents without shadow trees.
-/
namespace Go.Proofs.YtcinjbolflhjmadGreatDoor
open Tn

theorem path_live (d : Dc) : ∀ (f : Nat) (n : Int), ∀ k ∈ path f d n, lvD d k = true
  | 0, _, k, h => by simp [path] at h
  | f + 1, n, k, h => by
    rw [path] at h
    split at h
    · rename_i hn
      obtain ⟨m, rfl, _, hl⟩ := isN_nat hn
      rcases List.mem_cons.mp h with h | h
      · rw [h, Int.toNat_natCast]
        exact hl
      · exact path_live d f _ k h
    · simp at h

theorem scopeL_live {d : Dc} (h : Tn.Good d) (hf : ∀ j, Fit j (nd d j)) : ∀ l : List Nat, (∀ k ∈ l, lvD d k = true) → ∃ s : Nat, scopeL d l = (s : Int) ∧ lvD d s = true
  | [], _ => by
    obtain ⟨r, hr, _⟩ := h.tr
    exact ⟨0, rfl, hr.1.root⟩
  | k :: l, hl => by
    obtain ⟨r, hr, _⟩ := h.tr
    rw [scopeL]
    split
    · rename_i hi
      have hk := hl k (by simp)
      have h0 : 0 < k := by
        apply Classical.byContradiction
        intro hn
        have hk0 : k = 0 := by omega
        have := ((hf k).root hk0).2.2
        rw [hi] at this
        cases this
      have h1 := hr.2 k h0 hk
      exact ⟨(nd d k).up.toNat, by omega, hr.1.upLive h0 hk⟩
    · exact scopeL_live h hf l (fun x hx => hl x (by simp [hx]))

theorem okd_of {d : Dc} (h : Tn.Good d) (hf : ∀ j, Fit j (nd d j)) : Okd d := by
  obtain ⟨r, hr, _⟩ := h.tr
  exact ⟨tame_good h, fun j s => Nat.le_trans (h.small j s) (by decide), fun k => (hf k).rise, fun k => Nat.le_trans (h.attrs k) (by decide), hr.1.root, fun k _ => scopeL_live h hf _ (path_live d _ _)⟩

theorem build_okd (l : List Chg) : Okd (Tn.build l) := okd_of (build_good l) (build_fit l)

def endB : Nat → Dc → Nat → Bool
  | 0, _, _ => false
  | f + 1, d, n => (kidsD d (n : Int)).all (endB f d)
theorem endB_end (d : Dc) : ∀ (f n : Nat), endB f d n = true → EndF f d n
  | 0, _, h => by simp [endB] at h
  | f + 1, n, h => fun k hk => endB_end d f k (List.all_eq_true.mp h k hk)

/-- without shadow trees: no node goes to a slot, each shows what it has -/
theorem plain_slot {d : Dc} (hs : ∀ j, (nd d j).hasS = false) (n : Int) : slotD d n = -1 := by
  unfold slotD
  rw [if_neg]
  unfold slottedD
  simp [hs]
theorem plain_given {d : Dc} (hs : ∀ j, (nd d j).hasS = false) (n : Nat) : givenD d (n : Int) = [] := by
  unfold givenD
  split
  · rw [List.filter_eq_nil_iff]
    intro a _
    rw [plain_slot hs]
    simp
  · rfl
theorem plain_kids {d : Dc} (hs : ∀ j, (nd d j).hasS = false) {n : Nat} (hn : isN d (n : Int) false = true) : kidsD d (n : Int) = (nd d n).kids := by
  unfold kidsD
  rw [if_pos hn, Int.toNat_natCast, hs n, plain_given hs]
  rfl
theorem plain_shown {d : Dc} (hs : ∀ j, (nd d j).hasS = false) (hz : ∀ j, (nd d j).shadow = []) {r : Nat → Nat} (hr : TrD d r) : ∀ (f n : Nat), lvD d n = true → shownF f d n = all f d n
  | 0, _, _ => rfl
  | f + 1, n, hn => by
    have hi : isN d (n : Int) false = true := by rw [isN_iff]; exact hn
    rw [shownF, all, if_pos hi, plain_kids hs hi, hz n]
    simp only [List.flatMap_nil, List.nil_append]
    congr 1
    rw [List.flatMap_def, List.flatMap_def]
    congr 1
    refine List.map_congr_left fun k hk => plain_shown hs hz hr f k ?_
    exact (hr.1.mem n false k hk).2.1
theorem plain_end {d : Dc} (hs : ∀ j, (nd d j).hasS = false) {r : Nat → Nat} (hr : TrD d r) : ∀ (f n : Nat), lvD d n = true → Tn.Ends f d n → EndF f d n
  | 0, _, _, h => h
  | f + 1, n, hn, h => by
    have hi : isN d (n : Int) false = true := by rw [isN_iff]; exact hn
    intro k hk
    rw [plain_kids hs hi] at hk
    exact plain_end hs hr f k (hr.1.mem n false k hk).2.1 (h.2.2 k hk)
end Go.Proofs.YtcinjbolflhjmadGreatDoor

/-
  PLAIN MATHEMATICS: what is shown is shown once; each node in one other, that stands ahead of it.
-/
namespace Go.Proofs.YtcinjbolflhjmadGreatDoor
open Tn

/-- more steps tell no more -/
theorem all_more (d : Dc) : ∀ (f n g : Nat), Tn.Ends f d n → f ≤ g → all g d n = all f d n
  | 0, _, _, h, _ => absurd h (by simp [Tn.Ends])
  | f + 1, n, 0, _, hg => by omega
  | f + 1, n, g + 1, h, hg => by
    rw [all, all]
    split
    · congr 1
      have e : ∀ l : List Nat, (∀ k ∈ l, Tn.Ends f d k) → l.flatMap (all g d) = l.flatMap (all f d) := by
        intro l hl
        rw [List.flatMap_def, List.flatMap_def]
        congr 1
        exact List.map_congr_left fun k hk => all_more d f k g (hl k hk) (by omega)
      rw [e _ h.2.1, e _ h.2.2]
    · rfl

/-- a document as it is built -/
structure Fine (d : Dc) : Prop where
  good : Tn.Good d
  fit : ∀ j, Fit j (nd d j)

theorem build_fine (l : List Chg) : Fine (Tn.build l) := ⟨build_good l, build_fit l⟩
theorem Fine.okd {d : Dc} (h : Fine d) : Okd d := okd_of h.good h.fit

/-- all that is in n -/
def allD (d : Dc) (n : Nat) : List Nat := all fuel d n

theorem all_step {d : Dc} {g n : Nat} (hi : isN d (n : Int) false = true) (hE : ∀ s, ∀ k ∈ liD d n s, Tn.Ends g d k) : all (g + 1) d n = n :: ((nd d n).shadow.flatMap (all (g + 1) d) ++ (nd d n).kids.flatMap (all (g + 1) d)) := by
  have e : ∀ l : List Nat, (∀ k ∈ l, Tn.Ends g d k) → l.flatMap (all (g + 1) d) = l.flatMap (all g d) := by
    intro l hl
    rw [List.flatMap_def, List.flatMap_def]
    congr 1
    exact List.map_congr_left fun k hk => all_more d g k (g + 1) (hl k hk) (by omega)
  rw [e (nd d n).shadow (hE true), e (nd d n).kids (hE false), all, if_pos hi]

theorem allD_eq {d : Dc} (h : Fine d) {n : Nat} (hn : lvD d n = true) : allD d n = n :: ((nd d n).shadow.flatMap (allD d) ++ (nd d n).kids.flatMap (allD d)) := by
  obtain ⟨r, hr, hR⟩ := h.good.tr
  have hi : isN d (n : Int) false = true := by rw [isN_iff]; exact hn
  exact all_step (g := 63) hi (fun s k hk => ends_of hr hR 63 k (hr.1.mem n s k hk).2.1 (by omega))

theorem sub_flat {g : Nat → List Nat} : ∀ {l : List Nat} {k : Nat}, k ∈ l → (g k).Sublist (l.flatMap g)
  | a :: l, k, h => by
    rw [List.flatMap_cons]
    rcases List.mem_cons.mp h with rfl | h
    · exact List.sublist_append_left _ _
    · exact (sub_flat h).trans (List.sublist_append_right _ _)

theorem allD_self {d : Dc} (h : Fine d) {n : Nat} (hn : lvD d n = true) : n ∈ allD d n := by rw [allD_eq h hn]; simp

/-- what is in n's list s is in n, behind n -/
theorem sub_child {d : Dc} (h : Fine d) {n k : Nat} {s : Bool} (hk : k ∈ liD d n s) : (n :: allD d k).Sublist (allD d n) := by
  obtain ⟨r, hr, _⟩ := h.good.tr
  obtain ⟨hn, hkl, _⟩ := hr.1.mem n s k hk
  rw [allD_eq h hn]
  refine List.Sublist.cons_cons _ ?_
  cases s with
  | true => exact (sub_flat (l := (nd d n).shadow) hk).trans (List.sublist_append_left _ _)
  | false => exact (sub_flat (l := (nd d n).kids) hk).trans (List.sublist_append_right _ _)

theorem sub_root {d : Dc} (h : Fine d) {r : Nat → Nat} (hr : TrD d r) : ∀ (i n : Nat), r n = i → lvD d n = true → (allD d n).Sublist (allD d 0) := by
  intro i
  induction i with
  | zero =>
    intro n hi hn
    have h0 : n = 0 := by
      apply Classical.byContradiction
      intro hne
      have := hr.1.rank n (by omega) hn
      omega
    rw [h0]
    exact List.Sublist.refl _
  | succ i ih =>
    intro n hi hn
    have h0 : 0 < n := hr.1.pos (by omega)
    have h1 := hr.1.rank n h0 hn
    have hu := hr.1.upLive h0 hn
    exact ((List.sublist_cons_self _ _).trans (sub_child h (hr.1.par n h0 hn))).trans (ih _ (by omega) hu)

theorem allD_nodup {d : Dc} (h : Fine d) {n : Nat} (hn : lvD d n = true) : (allD d n).Nodup := by
  obtain ⟨r, hr, _⟩ := h.good.tr
  exact all_nodup hr fuel n hn

/-- the first node on the way up that is in a shadow tree -/
theorem scope_cases {d : Dc} {r : Nat → Nat} (hr : TrD d r) : ∀ l : List Nat, scopeL d l = 0 ∨ ∃ x ∈ l, (nd d x).inS = true ∧ scopeL d l = (nd d x).up
  | [] => Or.inl rfl
  | k :: l => by
    rw [scopeL]
    split
    · rename_i hi
      exact Or.inr ⟨k, by simp, hi, rfl⟩
    · rcases scope_cases hr l with e | ⟨x, hx, h1, h2⟩
      · exact Or.inl e
      · exact Or.inr ⟨x, by simp [hx], h1, h2⟩

/-- of what is in the element host, but not in its shadow tree, nothing is of its scope -/
theorem scope_out {d : Dc} (h : Fine d) {host p : Nat} (hh : lvD d host = true) (hs : (nd d host).hasS = true) (hp : lvD d p = true) (hsc : scopeD d (p : Int) = (host : Int)) : p ∉ host :: (nd d host).kids.flatMap (allD d) := by
  obtain ⟨r, hr, hR⟩ := h.good.tr
  have h0 : host ≠ 0 := by
    rintro rfl
    have := ((h.fit 0).root rfl).1
    rw [hs] at this
    cases this
  unfold scopeD pathOf at hsc
  rw [path_anc hr (d.length + 1) p hp (by have := rank_lt hr hp; omega) h.good.rootUp] at hsc
  rcases scope_cases hr ((List.range (r p + 1)).map fun i => anc (upD d) i p) with e | ⟨x, hx, hin, e⟩
  · rw [e] at hsc
    omega
  · rw [e] at hsc
    obtain ⟨i, hi, rfl⟩ := List.mem_map.mp hx
    have hi' : i ≤ r p := by have := List.mem_range.mp hi; omega
    obtain ⟨hxl, hxr⟩ := hr.1.anc i p hp hi'
    have hx0 : 0 < anc (upD d) i p := by
      apply Classical.byContradiction
      intro hn
      have := ((h.fit (anc (upD d) i p)).root (by omega)).2.2
      rw [hin] at this
      cases this
    have hup : upD d (anc (upD d) i p) = host := by
      show (nd d (anc (upD d) i p)).up.toNat = host
      rw [hsc]
      simp
    have hrx := hr.1.rank _ hx0 hxl
    rw [hup] at hrx
    intro hm
    rcases List.mem_cons.mp hm with rfl | hm
    · omega
    · obtain ⟨c, hc, hpc⟩ := List.mem_flatMap.mp hm
      obtain ⟨_, hcl, hc0, hcu, hci⟩ := hr.1.mem host false c hc
      have hrc := hr.1.rank c hc0 hcl
      rw [hcu] at hrc
      obtain ⟨_, hde⟩ := all_desc hr fuel c p hpc hcl
      obtain ⟨h1, h2⟩ := hde
      have : r p - r c = i := by omega
      rw [this] at h2
      rw [h2] at hin
      have : insD d c = (nd d c).inS := rfl
      rw [hci] at this
      rw [← this] at hin
      cases hin

theorem find_skip {p : Nat → Bool} {a b : List Nat} (h : ∀ x ∈ a, p x = false) : (a ++ b).find? p = b.find? p := by
  rw [List.find?_append]
  have : a.find? p = none := List.find?_eq_none.mpr (fun x hx => by simp [h x hx])
  rw [this]
  rfl
theorem find_drop {p : Nat → Bool} {a b : List Nat} (h : ∀ x ∈ b, p x = false) : (a ++ b).find? p = a.find? p := by
  rw [List.find?_append]
  have : b.find? p = none := List.find?_eq_none.mpr (fun x hx => by simp [h x hx])
  rw [this]
  cases a.find? p <;> rfl

theorem allD_live {d : Dc} (h : Fine d) {n x : Nat} (hn : lvD d n = true) (hx : x ∈ allD d n) : lvD d x = true := by
  obtain ⟨r, hr, _⟩ := h.good.tr
  exact (all_desc hr fuel n x hx hn).1

/-- the slot is looked for in the shadow tree alone -/
theorem slot_shadow {d : Dc} (h : Fine d) {host : Nat} (hh : lvD d host = true) (hs : (nd d host).hasS = true) (want : ByteArray) :
    (allD d host).find? (fitsD d want (host : Int)) = ((nd d host).shadow.flatMap (allD d)).find? (fitsD d want (host : Int)) := by
  obtain ⟨r, hr, _⟩ := h.good.tr
  have hno : ∀ x, lvD d x = true → x ∈ host :: (nd d host).kids.flatMap (allD d) → fitsD d want (host : Int) x = false := by
    intro x hx hm
    cases hf : fitsD d want (host : Int) x with
    | false => rfl
    | true =>
      unfold fitsD at hf
      simp only [Bool.and_eq_true] at hf
      have : scopeD d (x : Int) = (host : Int) := by simpa using hf.2
      exact absurd hm (scope_out h hh hs hx this)
  rw [allD_eq h hh, ← List.singleton_append, find_skip, find_drop]
  · intro x hx
    obtain ⟨c, hc, hxc⟩ := List.mem_flatMap.mp hx
    exact hno x (allD_live h (hr.1.mem host false c hc).2.1 hxc) (by simp [hx])
  · intro x hx
    rw [List.mem_singleton.mp hx]
    exact hno host hh (by simp)
end Go.Proofs.YtcinjbolflhjmadGreatDoor

/-
  PLAIN MATHEMATICS: what is shown is shown once; each node in one other, that stands ahead of it.
-/
namespace Go.Proofs.YtcinjbolflhjmadGreatDoor
open Tn

/-- in what a node is shown, if it is -/
def fpar (d : Dc) (k : Nat) : Int := if (nd d k).inS then (nd d k).up else if (nd d (upD d k)).hasS then slotD d (k : Int) else (nd d k).up

theorem kid_nat {d : Dc} {p : Int} {k : Nat} (hk : k ∈ kidsD d p) : ∃ n : Nat, p = (n : Int) ∧ lvD d n = true := by
  unfold kidsD at hk
  split at hk
  · rename_i hi
    obtain ⟨n, rfl, _, hl⟩ := isN_nat hi
    exact ⟨n, rfl, hl⟩
  · simp at hk

theorem orI_nat {o : Option Nat} {n : Nat} (h : orI o = (n : Int)) : o = some n := by
  cases o with
  | none => simp only [orI] at h; omega
  | some m => simp only [orI] at h; rw [show m = n by omega]

theorem slot_of {d : Dc} {k n : Nat} (h : slotD d (k : Int) = (n : Int)) : slottedD d (k : Int) = true ∧ (all fuel d (nd d k).up.toNat).find? (fitsD d (valN d (k : Int) slotB) (nd d k).up) = some n := by
  unfold slotD at h
  split at h
  · rename_i hs
    rw [Int.toNat_natCast] at h
    exact ⟨hs, orI_nat h⟩
  · omega

theorem slotted_of {d : Dc} {k : Nat} (h : slottedD d (k : Int) = true) : lvD d k = true ∧ (nd d k).inS = false ∧ (∃ u : Nat, (nd d k).up = (u : Int) ∧ lvD d u = true) ∧ (nd d (upD d k)).hasS = true := by
  unfold slottedD at h
  simp only [Bool.and_eq_true] at h
  obtain ⟨⟨⟨h1, h2⟩, h3⟩, h4⟩ := h
  rw [Int.toNat_natCast] at h2 h3 h4
  obtain ⟨u, hu, _, hl⟩ := isN_nat (isN_true h3)
  exact ⟨by rw [← isN_iff]; exact h1, by simpa using h2, ⟨u, hu, hl⟩, h4⟩

theorem kid_par {d : Dc} (h : Fine d) {n k : Nat} (hk : k ∈ kidsD d (n : Int)) : lvD d n = true ∧ lvD d k = true ∧ 0 < k ∧ (n : Int) = fpar d k ∧ (∃ s, k ∈ liD d (upD d k) s) ∧
    ((n = upD d k) ∨ (slotD d (k : Int) = (n : Int) ∧ k ∈ (nd d (upD d k)).kids)) := by
  obtain ⟨r, hr, _⟩ := h.good.tr
  have hk0 := hk
  unfold kidsD at hk
  split at hk
  · rename_i hi
    have hn : lvD d n = true := by rw [← isN_iff]; exact hi
    rw [Int.toNat_natCast] at hk
    have up_eq : ∀ s, k ∈ liD d n s → lvD d k = true ∧ 0 < k ∧ upD d k = n ∧ (nd d k).inS = s ∧ (nd d k).up = (n : Int) := by
      intro s hs
      obtain ⟨_, h2, h3, h4, h5⟩ := hr.1.mem n s k hs
      have := hr.2 k h3 h2
      refine ⟨h2, h3, h4, h5, ?_⟩
      have e : (nd d k).up.toNat = n := h4
      omega
    split at hk
    · obtain ⟨h1, h2, h3, h4, h5⟩ := up_eq true hk
      exact ⟨hn, h1, h2, by unfold fpar; rw [h4, if_pos rfl, h5], ⟨true, by rw [h3]; exact hk⟩, Or.inl h3.symm⟩
    · rename_i hs
      split at hk
      · obtain ⟨h1, h2, h3, h4, h5⟩ := up_eq false hk
        exact ⟨hn, h1, h2, by unfold fpar; rw [h4, if_neg (by simp), h3, if_neg hs, h5], ⟨false, by rw [h3]; exact hk⟩, Or.inl h3.symm⟩
      · unfold givenD at hk
        split at hk
        · obtain ⟨s, hsc, _⟩ := h.okd.scope n hn
          rw [hsc, Int.toNat_natCast, List.mem_filter] at hk
          obtain ⟨hk1, hk2⟩ := hk
          have hsl : slotD d (k : Int) = (n : Int) := by simpa using hk2
          obtain ⟨_, g2, g3, g4, g5⟩ := hr.1.mem s false k hk1
          obtain ⟨hs1, _⟩ := slot_of hsl
          obtain ⟨_, hi2, _, hh⟩ := slotted_of hs1
          refine ⟨hn, g2, g3, ?_, ⟨false, by rw [g4]; exact hk1⟩, Or.inr ⟨hsl, by rw [g4]; exact hk1⟩⟩
          unfold fpar
          rw [hi2, if_neg (by simp), if_pos hh, hsl]
        · simp at hk
  · simp at hk

theorem kid_one {d : Dc} (h : Fine d) {a b k : Nat} (ha : k ∈ kidsD d (a : Int)) (hb : k ∈ kidsD d (b : Int)) : a = b := by
  have h1 := (kid_par h ha).2.2.2.1
  have h2 := (kid_par h hb).2.2.2.1
  omega

theorem pair_sub {a b : Nat} {l : List Nat} (hb : b ∈ l) : [a, b].Sublist (a :: l) := List.Sublist.cons_cons _ (List.singleton_sublist.mpr hb)

theorem live_all {d : Dc} (h : Fine d) {n : Nat} (hn : lvD d n = true) : n ∈ allD d 0 := by
  obtain ⟨r, hr, _⟩ := h.good.tr
  exact (sub_root h hr _ n rfl hn).subset (allD_self h hn)

theorem kid_before {d : Dc} (h : Fine d) {n k : Nat} (hk : k ∈ kidsD d (n : Int)) : [n, k].Sublist (allD d 0) := by
  obtain ⟨r, hr, _⟩ := h.good.tr
  obtain ⟨h1, h2, h3, _, ⟨s, h5⟩, h6⟩ := kid_par h hk
  rcases h6 with e | ⟨hsl, hkk⟩
  · rw [← e] at h5
    exact ((pair_sub (allD_self h h2)).trans (sub_child h h5)).trans (sub_root h hr _ n rfl h1)
  · obtain ⟨hs1, hs2⟩ := slot_of hsl
    obtain ⟨_, _, ⟨u, hu, hul⟩, hh⟩ := slotted_of hs1
    have hud : upD d k = u := by unfold upD; rw [hu]; simp
    rw [hud] at hh hkk
    rw [hu, Int.toNat_natCast] at hs2
    have hs3 := slot_shadow h hul hh (valN d (k : Int) slotB)
    have hs4 : ((nd d u).shadow.flatMap (allD d)).find? (fitsD d (valN d (k : Int) slotB) (u : Int)) = some n := by rw [← hs3]; exact hs2
    have hnm := List.mem_of_find?_eq_some hs4
    have hkm : k ∈ (nd d u).kids.flatMap (allD d) := List.mem_flatMap.mpr ⟨k, hkk, allD_self h h2⟩
    have h7 : [n, k].Sublist (allD d u) := by
      rw [allD_eq h hul]
      refine List.Sublist.cons _ ?_
      rw [show [n, k] = [n] ++ [k] from rfl]
      exact List.Sublist.append (List.singleton_sublist.mpr hnm) (List.singleton_sublist.mpr hkm)
    exact h7.trans (sub_root h hr _ u rfl hul)

theorem idx_ne {a x : Nat} {l : List Nat} (h : a ≠ x) : (x :: l).idxOf a = l.idxOf a + 1 := by
  rw [List.idxOf_cons]
  have : (x == a) = false := by simp; omega
  rw [this]
  rfl
theorem idx_lt : ∀ (l : List Nat) (a b : Nat), l.Nodup → [a, b].Sublist l → l.idxOf a < l.idxOf b
  | [], _, _, _, h => by simp at h
  | x :: l, a, b, hn, h => by
    obtain ⟨h1, h2⟩ := List.nodup_cons.mp hn
    cases h with
    | cons _ h =>
      have ha : a ≠ x := fun e => h1 (by rw [← e]; exact h.subset (by simp))
      have hb : b ≠ x := fun e => h1 (by rw [← e]; exact h.subset (by simp))
      have := idx_lt l a b h2 h
      rw [idx_ne ha, idx_ne hb]
      omega
    | cons_cons _ h =>
      have hb : b ∈ l := List.singleton_sublist.mp h
      have hne : b ≠ x := fun e => h1 (by rw [← e]; exact hb)
      rw [List.idxOf_cons_self, idx_ne hne]
      omega

/-- a node's place among all -/
def posD (d : Dc) (n : Nat) : Nat := (allD d 0).idxOf n

theorem kid_pos {d : Dc} (h : Fine d) {n k : Nat} (hk : k ∈ kidsD d (n : Int)) : posD d n < posD d k := by
  obtain ⟨r, hr, _⟩ := h.good.tr
  exact idx_lt _ _ _ (allD_nodup h hr.1.root) (kid_before h hk)

theorem pos_lt {d : Dc} (h : Fine d) {n : Nat} (hn : lvD d n = true) : posD d n < (allD d 0).length := List.idxOf_lt_length_of_mem (live_all h hn)

theorem all_few {d : Dc} (h : Fine d) : (allD d 0).length ≤ 60 := by
  obtain ⟨r, hr, _⟩ := h.good.tr
  exact Nat.le_trans (nodup_le d.length _ (allD_nodup h hr.1.root) (fun x hx => lv_lt (allD_live h hr.1.root hx))) h.good.len.2

theorem end_of {d : Dc} (h : Fine d) : ∀ (f n : Nat), lvD d n = true → (allD d 0).length ≤ posD d n + f → EndF f d n
  | 0, n, hn, hf => by have := pos_lt h hn; omega
  | f + 1, n, _, hf => fun k hk => end_of h f k (kid_par h hk).2.1 (by have := kid_pos h hk; omega)

theorem fine_end {d : Dc} (h : Fine d) : EndF fuel d 0 := by
  obtain ⟨r, hr, _⟩ := h.good.tr
  exact end_of h fuel 0 hr.1.root (by have := all_few h; unfold fuel; omega)

theorem shown_live {d : Dc} (h : Fine d) : ∀ (f a x : Nat), lvD d a = true → x ∈ shownF f d a → lvD d x = true ∧ posD d a ≤ posD d x
  | 0, _, _, _, hx => by simp [shownF] at hx
  | f + 1, a, x, ha, hx => by
    rw [shownF] at hx
    rcases List.mem_cons.mp hx with rfl | hx
    · exact ⟨ha, Nat.le_refl _⟩
    · obtain ⟨c, hc, hxc⟩ := List.mem_flatMap.mp hx
      obtain ⟨h1, h2⟩ := shown_live h f c x (kid_par h hc).2.1 hxc
      have := kid_pos h hc
      exact ⟨h1, by omega⟩

theorem shown_par {d : Dc} : ∀ (f a x : Nat), x ∈ shownF f d a → x ≠ a → ∃ y : Nat, x ∈ kidsD d (y : Int) ∧ [y, x].Sublist (shownF f d a)
  | 0, _, _, hx, _ => by simp [shownF] at hx
  | f + 1, a, x, hx, hne => by
    rw [shownF] at hx ⊢
    rcases List.mem_cons.mp hx with e | hx
    · exact absurd e hne
    · obtain ⟨c, hc, hxc⟩ := List.mem_flatMap.mp hx
      by_cases e : x = c
      · exact ⟨a, by rw [e]; exact hc, pair_sub hx⟩
      · obtain ⟨y, h1, h2⟩ := shown_par f c x hxc e
        exact ⟨y, h1, (h2.trans (sub_flat hc)).trans (List.sublist_cons_self _ _)⟩

/-- of two nodes in which one is shown, one is shown in the other -/
theorem shown_two {d : Dc} (h : Fine d) {f g a b : Nat} : ∀ (m x : Nat), posD d x ≤ m → x ∈ shownF f d a → x ∈ shownF g d b → a ∈ shownF g d b ∨ b ∈ shownF f d a := by
  intro m
  induction m with
  | zero =>
    intro x hm hxa hxb
    by_cases e : x = a
    · exact Or.inl (by rw [← e]; exact hxb)
    · obtain ⟨y, h1, _⟩ := shown_par f a x hxa e
      have := kid_pos h h1
      omega
  | succ m ih =>
    intro x hm hxa hxb
    by_cases e : x = a
    · exact Or.inl (by rw [← e]; exact hxb)
    · by_cases e2 : x = b
      · exact Or.inr (by rw [← e2]; exact hxa)
      · obtain ⟨y, h1, h2⟩ := shown_par f a x hxa e
        obtain ⟨z, h3, h4⟩ := shown_par g b x hxb e2
        obtain rfl := kid_one h h1 h3
        have := kid_pos h h1
        exact ih y (by omega) (h2.subset (by simp)) (h4.subset (by simp))

theorem kids_nodup {d : Dc} (h : Fine d) (p : Int) : (kidsD d p).Nodup := by
  obtain ⟨r, hr, _⟩ := h.good.tr
  unfold kidsD
  split
  · split
    · exact hr.1.nodup p.toNat true
    · split
      · exact hr.1.nodup p.toNat false
      · unfold givenD
        split
        · exact List.Pairwise.filter _ (hr.1.nodup (scopeD d p).toNat false)
        · exact List.nodup_nil
  · exact List.nodup_nil

theorem shown_nodup {d : Dc} (h : Fine d) : ∀ (f n : Nat), lvD d n = true → (shownF f d n).Nodup
  | 0, _, _ => List.nodup_nil
  | f + 1, n, _ => by
    rw [shownF, List.nodup_cons]
    constructor
    · intro hm
      obtain ⟨c, hc, hxc⟩ := List.mem_flatMap.mp hm
      have h1 := (shown_live h f c n (kid_par h hc).2.1 hxc).2
      have := kid_pos h hc
      omega
    · refine flat_nodup _ (kids_nodup h _) (fun a ha => shown_nodup h f a (kid_par h ha).2.1) ?_
      intro a ha b hb hne x hxa hxb
      have key : ∀ a b, a ∈ kidsD d (n : Int) → b ∈ kidsD d (n : Int) → a ≠ b → a ∈ shownF f d b → False := by
        intro a b ha hb hne hab
        obtain ⟨y, h1, h2⟩ := shown_par f b a hab hne
        obtain rfl := kid_one h h1 ha
        have h3 := (shown_live h f b y (kid_par h hb).2.1 (h2.subset (by simp))).2
        have := kid_pos h hb
        omega
      rcases shown_two h (f := f) (g := f) _ x (Nat.le_refl _) hxa hxb with g | g
      · exact key a b ha hb hne g
      · exact key b a hb ha (fun e => hne e.symm) g

theorem shown_few {d : Dc} (h : Fine d) (f : Nat) {n : Nat} (hn : lvD d n = true) : (shownF f d n).length ≤ 60 :=
  Nat.le_trans (nodup_le d.length _ (shown_nodup h f n hn) (fun x hx => lv_lt (shown_live h f n x hn hx).1)) h.good.len.2

/-- Up tells in what a node is shown -/
theorem up_of_kid {d : Dc} (h : Fine d) {n k : Nat} (hk : k ∈ kidsD d (n : Int)) : upF d (k : Int) = (n : Int) := by
  obtain ⟨r, hr, _⟩ := h.good.tr
  obtain ⟨h1, h2, h3, _, _, h6⟩ := kid_par h hk
  have hi : isN d (k : Int) false = true := by rw [isN_iff]; exact h2
  have hu : (nd d k).up = (upD d k : Int) := by have := hr.2 k h3 h2; unfold upD; omega
  unfold upF
  rw [if_pos hi, Int.toNat_natCast, hu]
  split
  · rename_i hc
    have := kid_one h (by simpa using hc) hk
    rw [this]
  · rename_i hc
    rcases h6 with e | ⟨hsl, _⟩
    · rw [← e] at hc
      exact absurd (by simpa using hk) hc
    · rw [hsl, if_pos (by simpa using hk)]

theorem up_root {d : Dc} (h : Fine d) : upF d 0 = -1 := by
  have hu := h.good.rootUp
  have hk : kidsD d (-1) = [] := by unfold kidsD; rw [if_neg]; unfold isN; simp
  have hs : slotD d 0 = -1 := by
    unfold slotD
    rw [if_neg]
    unfold slottedD isN
    simp [hu]
  unfold upF
  split
  · rw [show (0 : Int).toNat = 0 from rfl, hu, hk, hs, hk]
    rfl
  · rfl

theorem up_none {d : Dc} {n : Int} (hn : ∀ m : Nat, ∀ k ∈ kidsD d (m : Int), (k : Int) ≠ n) : upF d n = -1 := by
  unfold upF
  split
  · rename_i hi
    obtain ⟨k, rfl, _, _⟩ := isN_nat hi
    rw [Int.toNat_natCast]
    have no : ∀ p : Int, (kidsD d p).contains k = false := by
      intro p
      cases hc : (kidsD d p).contains k with
      | false => rfl
      | true =>
        have hm : k ∈ kidsD d p := by simpa using hc
        obtain ⟨m, rfl, _⟩ := kid_nat hm
        exact absurd rfl (hn m k hm)
    rw [no, no]
    rfl
  · rfl

theorem ahead_take {l : List Nat} {p n j : Nat} (hn : l.Nodup) (hs : [p, n].Sublist l) (hj : j < l.length) (he : l[j] = n) : p ∈ l.take j := by
  have h1 := idx_lt l p n hn hs
  have hp : p ∈ l := hs.subset (by simp)
  have h2 : l.idxOf n = j := by rw [← he]; exact hn.idxOf_getElem j hj
  rw [h2] at h1
  rw [List.mem_take_iff_getElem]
  exact ⟨l.idxOf p, by have := List.idxOf_lt_length_of_mem hp; omega, List.getElem_idxOf _⟩
end Go.Proofs.YtcinjbolflhjmadGreatDoor

/-
  A SET OF NODES, AS A MAP OF THE CALL's OWN: what was put in is there, nothing else is.
-/
namespace Go.Proofs.YtcinjbolflhjmadGreatDoor
open Go.RowKit Go.Maps

/-- how a bool reads -/
def rb : Value → Option (DataW Unit × List MemPlace)
  | .bool x => some (.lit (.bool x), [])
  | _ => none

theorem keyI : Keyed Tryz.prog 3 := int_keyed Tryz.underlying3

/-- block b is a map in which just the nodes of acc are true -/
def HadAt (w : World) (b : Nat) (acc : List Nat) : Prop :=
  ∃ D, w.ownsMap Tryz.prog 3 rb b acc.length D ∧ IsMap D ∧ ∀ k : Nat, D.atKey (.int .i64 (k : Int)) (.lit (.bool false)) = .lit (.bool (acc.contains k))

theorem had_made (w : World) : HadAt (w.alloc (.map #[] 0)) w.heap.size [] := ⟨.map [], World.ownsMap_made w Tryz.prog 3 rb, isMap_empty, fun _ => rfl⟩

theorem HadAt.same {w w' : World} {b : Nat} {acc : List Nat} (h : HadAt w b acc) (hb : w'.heap[b]? = w.heap[b]?) : HadAt w' b acc := by
  obtain ⟨D, ⟨es, clock, h1, h2⟩, h3, h4⟩ := h
  exact ⟨D, ⟨es, clock, by rw [hb]; exact h1, h2⟩, h3, h4⟩
theorem HadAt.lt {w : World} {b : Nat} {acc : List Nat} (h : HadAt w b acc) : b < w.heap.size := by
  obtain ⟨D, h1, _⟩ := h
  exact h1.lt
theorem HadAt.below {w w' : World} {b : Nat} {acc : List Nat} (h : HadAt w b acc) (hb : Below w.heap.size w w') : HadAt w' b acc := h.same (hb.block b h.lt)

theorem HadAt.look {w : World} {b : Nat} {acc : List Nat} (h : HadAt w b acc) (k : Nat) (hk : k ≤ 1000) : (Instr.lookup 72 (.map (some b)) (.int .i64 (k : Int)) false).run Tryz.prog w = .ok (.bool (acc.contains k)) w := by
  obtain ⟨D, h1, _, h3⟩ := h
  obtain ⟨v, ps, hrun, hv⟩ := h1.lookup (t := 72) keyI Tryz.underlying72 (Tryz.zeroValue4 w) (zd := .lit (.bool false)) (zp := []) rfl (keyOf_int_mk Tryz.underlying3 (WalkArith.wf_i64 (n := (k : Int)) (by omega)))
  rw [h3 k] at hv
  rw [hrun]
  cases v with
  | bool x =>
    simp only [rb, Option.some.injEq, Prod.mk.injEq] at hv
    have : x = acc.contains k := by simpa using hv.1
    rw [this]
  | _ => cases hv

theorem had_put {w : World} {ops : Array Oper} {rest : List Oper} {o : Oper} {a : Act} {Q : Exit → Act → World → Prop}
    (hg : o.guard = none) (m x v : Operand) (hop : o.op = Op.mapUpdate 72 m x v) (b : Nat) (acc : List Nat) (k : Nat) (hk : k ≤ 1000) (ha : acc.length ≤ 1000)
    (hm : a.eval m = .map (some b)) (h : HadAt w b acc) (hx : a.eval x = .int .i64 (k : Int)) (hv : a.eval v = .bool true)
    (hK : ∀ w', HadAt w' b (acc ++ [k]) → w.grownBy w' (some b) → wpList Tryz.prog ops Q rest (a.put o.dst undef) w') : wpList Tryz.prog ops Q (o :: rest) a w := by
  obtain ⟨D, h1, h2, h3⟩ := h
  refine wpList_mapUpdate_own w hg m x v 72 hop 3 4 keyI Tryz.underlying72 rb b acc.length D hm h1 (by unfold maxLen; omega) _ _ (.int .i64 (k : Int)) hx hv (keyOf_int_mk Tryz.underlying3 (WalkArith.wf_i64 (by omega))) (.lit (.bool true)) [] rfl ?_
  intro w' g1 g2
  refine hK w' ⟨_, by simpa using g1, h2.put _ _, fun j => ?_⟩ g2
  by_cases e : j = k
  · subst e
    rw [atKey_put_same h2 (by trivial)]
    simp
  · rw [atKey_put_other (fun x => e (by injection x with _ x; omega)), h3 j]
    congr 2
    simp [e]
end Go.Proofs.YtcinjbolflhjmadGreatDoor

/-
  PLAIN MATHEMATICS OF TEXTS, without any program: blanks, the tokens of a text by a scan from the left, joined tokens. Used by the walks.
-/
namespace Go.Proofs.YtcinjbolflhjmadGreatDoor.Tx

def blank (c : UInt8) : Bool := c == 32 || c == 9 || c == 10 || c == 13
def bs (l : List UInt8) : ByteArray := ⟨l.toArray⟩
def fin (a : List (List UInt8)) (c : List UInt8) : List (List UInt8) := if c.isEmpty then a else a ++ [c]
def step (st : List (List UInt8) × List UInt8) (c : UInt8) : List (List UInt8) × List UInt8 := if blank c then (fin st.1 st.2, []) else (st.1, st.2 ++ [c])
def scan (l : List UInt8) : List (List UInt8) × List UInt8 := l.foldl step ([], [])
def toks (l : List UInt8) : List (List UInt8) := fin (scan l).1 (scan l).2

theorem scan_snoc (l : List UInt8) (c : UInt8) : scan (l ++ [c]) = step (scan l) c := by
  unfold scan
  rw [List.foldl_append]
  rfl

/-- a list grown at its end -/
theorem snoc_ind {P : List UInt8 → Prop} (h0 : P []) (h1 : ∀ l c, P l → P (l ++ [c])) (l : List UInt8) : P l := by
  have h : ∀ r : List UInt8, P r.reverse := by
    intro r
    induction r with
    | nil => exact h0
    | cons x r ih => rw [List.reverse_cons]; exact h1 _ _ ih
  have := h l.reverse
  rwa [List.reverse_reverse] at this

theorem scan_suffix (l : List UInt8) : ∃ p, l = p ++ (scan l).2 := by
  induction l using snoc_ind with
  | h0 => exact ⟨[], rfl⟩
  | h1 l c ih =>
    obtain ⟨p, hp⟩ := ih
    rw [scan_snoc]
    unfold step
    split
    · exact ⟨l ++ [c], by simp⟩
    · refine ⟨p, ?_⟩
      show l ++ [c] = p ++ ((scan l).2 ++ [c])
      rw [← List.append_assoc, ← hp]

theorem cur_le (l : List UInt8) : (scan l).2.length ≤ l.length := by
  obtain ⟨p, hp⟩ := scan_suffix l
  have := congrArg List.length hp
  rw [List.length_append] at this
  omega

theorem cur_drop (l : List UInt8) : (scan l).2 = l.drop (l.length - (scan l).2.length) := by
  obtain ⟨p, hp⟩ := scan_suffix l
  have hl := congrArg List.length hp
  rw [List.length_append] at hl
  have e : l.length - (scan l).2.length = p.length := by omega
  rw [e]
  generalize (scan l).2 = c at *
  subst hp
  simp

theorem fin_len (a : List (List UInt8)) (c : List UInt8) : (fin a c).length = a.length + if c.isEmpty then 0 else 1 := by
  unfold fin
  split <;> simp

theorem toks_len (l : List UInt8) : (toks l).length ≤ l.length := by
  unfold toks
  induction l using snoc_ind with
  | h0 => simp [scan, fin]
  | h1 l c ih =>
    rw [scan_snoc, List.length_append]
    rw [fin_len] at ih ⊢
    unfold step
    split
    · simp only [fin_len]
      simp
      split at ih <;> simp_all <;> omega
    · simp
      split at ih <;> omega


theorem fold_front (a b : List (List UInt8)) (c r : List UInt8) : r.foldl step (a ++ b, c) = (a ++ (r.foldl step (b, c)).1, (r.foldl step (b, c)).2) := by
  induction r generalizing b c with
  | nil => rfl
  | cons x r ih =>
    simp only [List.foldl_cons]
    have e : step (a ++ b, c) x = (a ++ (step (b, c) x).1, (step (b, c) x).2) := by
      unfold step
      split
      · unfold fin
        simp only
        split <;> simp
      · rfl
    rw [e, ih]

theorem scan_blank (l : List UInt8) (b : UInt8) (hb : blank b = true) : scan (l ++ [b]) = (toks l, []) := by
  rw [scan_snoc]
  unfold step toks
  rw [if_pos hb]

/-- THE TOKENS OF TWO TEXTS WITH A BLANK BETWEEN ARE THOSE OF BOTH -/
theorem toks_between (l r : List UInt8) (b : UInt8) (hb : blank b = true) : toks (l ++ b :: r) = toks l ++ toks r := by
  have e : l ++ b :: r = (l ++ [b]) ++ r := by simp
  have h : scan (l ++ b :: r) = (toks l ++ (scan r).1, (scan r).2) := by
    rw [e]
    unfold scan
    rw [List.foldl_append]
    have := scan_blank l b hb
    unfold scan at this
    rw [this]
    have f := fold_front (toks l) [] [] r
    rw [List.append_nil] at f
    exact f
  show fin (scan (l ++ b :: r)).1 (scan (l ++ b :: r)).2 = toks l ++ fin (scan r).1 (scan r).2
  rw [h]
  unfold fin
  simp only
  split <;> simp

/-- a word: not empty, nothing in it is blank -/
def word (t : List UInt8) : Prop := t ≠ [] ∧ ∀ c ∈ t, blank c = false

theorem scan_words (l : List UInt8) : (∀ t ∈ (scan l).1, word t) ∧ ∀ c ∈ (scan l).2, blank c = false := by
  induction l using snoc_ind with
  | h0 => exact ⟨fun t (h : t ∈ []) => (by cases h), fun c (h : c ∈ []) => (by cases h)⟩
  | h1 l c ih =>
    rw [scan_snoc]
    unfold step
    split
    · refine ⟨?_, fun c h => by cases h⟩
      unfold fin
      simp only
      intro t ht
      split at ht
      · exact ih.1 t ht
      · rcases List.mem_append.1 ht with h | h
        · exact ih.1 t h
        · rw [List.mem_singleton] at h
          subst h
          refine ⟨?_, ih.2⟩
          intro h
          rename_i hne
          rw [h] at hne
          exact hne rfl
    · rename_i hb
      refine ⟨ih.1, ?_⟩
      intro d hd
      rcases List.mem_append.1 hd with h | h
      · exact ih.2 d h
      · rw [List.mem_singleton] at h
        subst h
        simpa using hb

theorem toks_words (l : List UInt8) : ∀ t ∈ toks l, word t := by
  have h := scan_words l
  intro t ht
  unfold toks fin at ht
  split at ht
  · exact h.1 t ht
  · rcases List.mem_append.1 ht with h' | h'
    · exact h.1 t h'
    · rw [List.mem_singleton] at h'
      subst h'
      refine ⟨?_, h.2⟩
      intro e
      rename_i hne
      rw [e] at hne
      exact hne rfl

theorem scan_word (a : List (List UInt8)) (c t : List UInt8) (h : ∀ x ∈ t, blank x = false) : t.foldl step (a, c) = (a, c ++ t) := by
  induction t generalizing c with
  | nil => simp
  | cons x t ih =>
    have hx := h x (by simp)
    rw [List.foldl_cons]
    have e : step (a, c) x = (a, c ++ [x]) := by
      unfold step
      rw [if_neg (by simp [hx])]
    rw [e, ih _ (fun y hy => h y (by simp [hy]))]
    simp

theorem toks_word (t : List UInt8) (h : word t) : toks t = [t] := by
  unfold toks scan
  rw [scan_word [] [] t h.2]
  unfold fin
  have : t.isEmpty = false := by
    cases t with
    | nil => exact absurd rfl h.1
    | cons x r => rfl
  simp [this]

theorem toks_nil : toks [] = [] := rfl

/-- joined by blanks -/
def joined (ts : List (List UInt8)) : List UInt8 := Lib.join ts [32]
theorem joined_nil : joined [] = [] := rfl
theorem joined_one (t : List UInt8) : joined [t] = t := Lib.join_one t [32]
theorem joined_cons (t u : List UInt8) (r : List (List UInt8)) : joined (t :: u :: r) = t ++ 32 :: joined (u :: r) := by
  unfold joined
  rw [Lib.join_cons, Lib.join_cons]
  unfold Lib.joinTail
  simp

/-- THE TOKENS OF JOINED WORDS ARE THE WORDS -/
theorem toks_joined (ts : List (List UInt8)) (h : ∀ t ∈ ts, word t) : toks (joined ts) = ts := by
  induction ts with
  | nil => rfl
  | cons t r ih =>
    cases r with
    | nil => rw [joined_one]; exact toks_word t (h t (by simp))
    | cons u r =>
      rw [joined_cons, toks_between _ _ 32 (by decide), toks_word t (h t (by simp)), ih (fun x hx => h x (by simp [hx]))]
      rfl

def squeeze (l : List UInt8) : List UInt8 := joined (toks l)
theorem toks_squeeze (l : List UInt8) : toks (squeeze l) = toks l := toks_joined _ (toks_words l)
theorem squeeze_twice (l : List UInt8) : squeeze (squeeze l) = squeeze l := by
  show joined (toks (squeeze l)) = joined (toks l)
  rw [toks_squeeze]

/-- joined, one word more behind -/
theorem joined_snoc (ts : List (List UInt8)) (t : List UInt8) : joined (ts ++ [t]) = if ts.isEmpty then t else joined ts ++ 32 :: t := by
  induction ts with
  | nil => exact joined_one t
  | cons x r ih =>
    cases r with
    | nil => show joined (x :: t :: []) = _; rw [joined_cons, joined_one, joined_one]; rfl
    | cons u r =>
      have e : (x :: u :: r) ++ [t] = x :: u :: (r ++ [t]) := rfl
      have e2 : (u :: r) ++ [t] = u :: (r ++ [t]) := rfl
      rw [e, joined_cons, ← e2, ih, joined_cons]
      simp

theorem squeeze_len_aux (l : List UInt8) :
    (joined (toks l)).length ≤ l.length ∧ ((scan l).2 = [] → (scan l).1 ≠ [] → (joined (scan l).1).length + 1 ≤ l.length) := by
  unfold toks
  induction l using snoc_ind with
  | h0 => exact ⟨Nat.le_refl _, fun _ h => absurd rfl h⟩
  | h1 l c ih =>
    rw [scan_snoc, List.length_append]
    generalize scan l = st at ih ⊢
    obtain ⟨a, k⟩ := st
    simp only at ih ⊢
    unfold step
    split
    · simp only
      have e : fin (fin a k) [] = fin a k := rfl
      rw [e]
      refine ⟨by have := ih.1; simp; omega, fun _ _ => by have := ih.1; simp; omega⟩
    · simp only
      refine ⟨?_, fun h => by simp at h⟩
      have e : fin a (k ++ [c]) = a ++ [k ++ [c]] := by unfold fin; simp
      rw [e, joined_snoc]
      cases k with
      | nil =>
        cases a with
        | nil => simp
        | cons x r =>
          have := ih.2 rfl (by simp)
          simp
          omega
      | cons y s =>
        have h1 := ih.1
        have e2 : fin a (y :: s) = a ++ [y :: s] := rfl
        rw [e2, joined_snoc] at h1
        cases a with
        | nil => simp at h1 ⊢; omega
        | cons x r => simp at h1 ⊢; omega

theorem squeeze_len (l : List UInt8) : (squeeze l).length ≤ l.length := (squeeze_len_aux l).1

/-- a blank stands alone, between words -/
def plain (q : List UInt8) : Prop := ∀ i c, q[i]? = some c → blank c = true → c = 32 ∧ 0 < i ∧ i + 1 < q.length ∧ ∃ d, q[i - 1]? = some d ∧ blank d = false

theorem joined_ne (t : List UInt8) (r : List (List UInt8)) (ht : t ≠ []) : joined (t :: r) ≠ [] := by
  cases r with
  | nil => rw [joined_one]; exact ht
  | cons u r => rw [joined_cons]; simp

theorem joined_plain (ts : List (List UInt8)) (h : ∀ t ∈ ts, word t) : plain (joined ts) := by
  induction ts with
  | nil => intro i c hc; simp [joined_nil] at hc
  | cons t r ih =>
    have ht := h t (by simp)
    cases r with
    | nil =>
      rw [joined_one]
      intro i c hc hb
      have := ht.2 c (List.mem_of_getElem? hc)
      rw [this] at hb
      cases hb
    | cons u r =>
      have ih' := ih (fun x hx => h x (by simp [hx]))
      rw [joined_cons]
      have hne := joined_ne u r (h u (by simp)).1
      have hpos : 0 < (joined (u :: r)).length := List.length_pos_iff.2 hne
      have htp : 0 < t.length := List.length_pos_iff.2 ht.1
      intro i c hc hb
      rcases Nat.lt_trichotomy i t.length with hlt | heq | hgt
      · rw [List.getElem?_append_left hlt] at hc
        have := ht.2 c (List.mem_of_getElem? hc)
        rw [this] at hb
        cases hb
      · subst heq
        rw [List.getElem?_append_right (Nat.le_refl _)] at hc
        simp at hc
        subst hc
        refine ⟨rfl, htp, by simp; omega, ?_⟩
        have hl : t.length - 1 < t.length := by omega
        refine ⟨t[t.length - 1], ?_, ht.2 _ (List.getElem_mem hl)⟩
        rw [List.getElem?_append_left hl]
        exact List.getElem?_eq_getElem hl
      · obtain ⟨j, rfl⟩ : ∃ j, i = t.length + 1 + j := ⟨i - t.length - 1, by omega⟩
        rw [List.getElem?_append_right (by omega)] at hc
        have e1 : t.length + 1 + j - t.length = j + 1 := by omega
        rw [e1, List.getElem?_cons_succ] at hc
        obtain ⟨a1, a2, a3, d, a4, a5⟩ := ih' j c hc hb
        refine ⟨a1, by omega, by simp; omega, d, ?_, a5⟩
        rw [List.getElem?_append_right (by omega)]
        have e2 : t.length + 1 + j - 1 - t.length = (j - 1) + 1 := by omega
        rw [e2, List.getElem?_cons_succ]
        exact a4

theorem squeeze_plain (l : List UInt8) : plain (squeeze l) := joined_plain _ (toks_words l)

end Go.Proofs.YtcinjbolflhjmadGreatDoor.Tx

/-
  THE WALKS of words.Blank and words.Tokens: what the calls do to the world.
-/
namespace Go.Proofs.YtcinjbolflhjmadGreatDoor.Wd
open Go.RowKit

theorem info9 : (Tryz.prog.info? 9).map (fun i => (i.zero, i.size, i.bytes)) = some (some (.string ⟨#[]⟩), 1, 16) := by kernel_rfl

set_option maxHeartbeats 400000 in
theorem blank_any (c : UInt8) (w : World) : Calls Tryz.prog 108 #[.int .u8 (c.toNat : Int)] w fun e w' => e = .returned (.bool (Tx.blank c)) ∧ w' = w := by
  have e : Tx.blank c = ((c.toNat : Int) == 32 || (c.toNat : Int) == 9 || (c.toNat : Int) == 10 || (c.toNat : Int) == 13) := by
    unfold Tx.blank
    rw [Bool.eq_iff_iff]
    simp [← UInt8.toNat_inj]
    omega
  go_enter Tryz.func108, Tryz.ntmps108
  go_wp2
  all_goals (go_ret; exact ⟨by rw [e]; simp [*], rfl⟩)


/-- how far the scan has come behind the first k bytes: the tokens, what of the next one is there, where that begins -/
def doneAt (s : ByteArray) (k : Nat) : List (List UInt8) := (Tx.scan (s.data.toList.take k)).1
def curAt (s : ByteArray) (k : Nat) : List UInt8 := (Tx.scan (s.data.toList.take k)).2
def startAt (s : ByteArray) (k : Nat) : Nat := k - (curAt s k).length
def tv (t : List UInt8) : Value := .string (Tx.bs t)
def toksOf (s : ByteArray) : List (List UInt8) := Tx.toks s.data.toList

theorem take_snoc (s : ByteArray) (k : Nat) (h : k < s.size) : s.data.toList.take (k + 1) = s.data.toList.take k ++ [s[k]] := by
  rw [List.take_succ_eq_append_getElem (by simpa using h)]; rfl
theorem take_len (s : ByteArray) (k : Nat) (h : k ≤ s.size) : (s.data.toList.take k).length = k := by
  rw [List.length_take, ← Lib.size_eq]; omega
theorem start_le (s : ByteArray) (k : Nat) : startAt s k ≤ k := Nat.sub_le _ _
theorem cur_len (s : ByteArray) (k : Nat) (h : k ≤ s.size) : (curAt s k).length ≤ k := by
  have := Tx.cur_le (s.data.toList.take k)
  rw [take_len s k h] at this
  exact this
theorem cur_bytes (s : ByteArray) (k : Nat) (h : k ≤ s.size) : s.extract (startAt s k) k = Tx.bs (curAt s k) := by
  rw [Lib.extract_eq]
  have e := Tx.cur_drop (s.data.toList.take k)
  rw [take_len s k h] at e
  unfold Tx.bs
  have e2 : curAt s k = (s.data.toList.take k).drop (startAt s k) := e
  rw [e2, List.drop_take]
theorem step_no (s : ByteArray) (k : Nat) (h : k < s.size) (hb : Tx.blank s[k] = false) : doneAt s (k + 1) = doneAt s k ∧ startAt s (k + 1) = startAt s k := by
  have hl := cur_len s k (by omega)
  unfold startAt doneAt curAt at *
  rw [take_snoc s k h, Tx.scan_snoc]
  unfold Tx.step
  rw [if_neg (by simp [hb])]
  refine ⟨rfl, ?_⟩
  simp only [List.length_append, List.length_cons, List.length_nil]
  omega
theorem step_yes (s : ByteArray) (k : Nat) (h : k < s.size) (hb : Tx.blank s[k] = true) (hs : startAt s k < k) : doneAt s (k + 1) = doneAt s k ++ [curAt s k] ∧ startAt s (k + 1) = k + 1 := by
  have hne : (curAt s k).isEmpty = false := by
    cases hc : curAt s k with
    | nil => unfold startAt at hs; rw [hc] at hs; simp at hs
    | cons x r => rfl
  unfold startAt doneAt curAt at *
  rw [take_snoc s k h, Tx.scan_snoc]
  unfold Tx.step
  rw [if_pos hb]
  refine ⟨?_, by simp⟩
  unfold Tx.fin
  simp only [hne]
  rfl
theorem step_idle (s : ByteArray) (k : Nat) (h : k < s.size) (hb : Tx.blank s[k] = true) (hs : ¬ startAt s k < k) : doneAt s (k + 1) = doneAt s k ∧ startAt s (k + 1) = k + 1 := by
  have hl := cur_len s k (by omega)
  have hne : (curAt s k).isEmpty = true := by
    cases hc : curAt s k with
    | nil => rfl
    | cons x r => unfold startAt at hs; rw [hc] at hs hl; simp at hs hl; omega
  unfold startAt doneAt curAt at *
  rw [take_snoc s k h, Tx.scan_snoc]
  unfold Tx.step
  rw [if_pos hb]
  refine ⟨?_, by simp⟩
  unfold Tx.fin
  simp only [hne]
  rfl
theorem take_all (s : ByteArray) : s.data.toList.take s.size = s.data.toList := List.take_of_length_le (by rw [← Lib.size_eq]; exact Nat.le_refl _)
theorem end_more (s : ByteArray) (hs : startAt s s.size < s.size) : toksOf s = doneAt s s.size ++ [curAt s s.size] := by
  have hne : (curAt s s.size).isEmpty = false := by
    cases hc : curAt s s.size with
    | nil => unfold startAt at hs; rw [hc] at hs; simp at hs
    | cons x r => rfl
  unfold toksOf Tx.toks doneAt curAt at *
  rw [take_all] at *
  unfold Tx.fin
  simp only [hne]
  rfl
theorem end_none (s : ByteArray) (hs : ¬ startAt s s.size < s.size) : toksOf s = doneAt s s.size := by
  have hl := cur_len s s.size (Nat.le_refl _)
  have hne : (curAt s s.size).isEmpty = true := by
    cases hc : curAt s s.size with
    | nil => rfl
    | cons x r => unfold startAt at hs; rw [hc] at hs hl; simp at hs hl; omega
  unfold toksOf Tx.toks doneAt curAt at *
  rw [take_all] at *
  unfold Tx.fin
  simp only [hne]
  rfl
theorem done_len (s : ByteArray) (k : Nat) (h : k ≤ s.size) : (doneAt s k).length ≤ k := by
  have := Tx.toks_len (s.data.toList.take k)
  rw [take_len s k h] at this
  unfold Tx.toks at this
  rw [Tx.fin_len] at this
  unfold doneAt
  omega

/-- what an append of one token leaves -/
theorem rel_app {B : Nat} {w wr w1 : World} {v v' : Value} {o : Obj} {ts : List (List UInt8)} {t : List UInt8} (hB : B ≤ wr.heap.size)
    (hown : wr.ownsRow B 9 1 v ts.length (ts.map tv)) (hnx : Below B w wr)
    (hown' : w1.ownsRow B 9 1 v' (ts.length + 1) (ts.map tv ++ [tv t])) (hgrow : (wr.alloc o).grownBy w1 v.ownBlock) :
    w1.ownsRow B 9 1 v' (ts ++ [t]).length ((ts ++ [t]).map tv) ∧ Below B w w1 :=
  ⟨by simpa using hown', (hnx.alloc hB o).grown hgrow (by simp; omega) (fun j hj => (hown.lt j hj).1)⟩

set_option maxHeartbeats 800000 in
set_option maxRecDepth 100000 in
theorem tokens_big (s : ByteArray) (w : World) (hs : s.size ≤ 1073741824) : Calls Tryz.prog 81 #[.string s] w fun e w' =>
    ∃ v, e = .returned v ∧ w'.ownsRow w.heap.size 9 1 v (toksOf s).length ((toksOf s).map tv) ∧ Below w.heap.size w w' ∧ (toksOf s = [] → v = .slice none 0 0) := by
  obtain ⟨i0, hi, hz0, hz1, hz2⟩ := info_parts info9
  go_enter Tryz.func81, Tryz.ntmps81
  go_wp2
  go_loopw [3, 4, 8] (fun v st i wr => ∃ k : Nat, k ≤ s.size ∧ i = .int .i64 k ∧ st = .int .i64 (startAt s k) ∧ wr.ownsRow w.heap.size 9 1 v (doneAt s k).length ((doneAt s k).map tv) ∧
      Below w.heap.size w wr ∧ (doneAt s k = [] → v = .slice none 0 0))
    (fun _ _ i _ => s.size - (intOf i).toNat)
  case atStart => exact ⟨0, Nat.zero_le _, rfl, rfl, World.ownsRow_nil _ _ _ _, Below.refl _ _, fun _ => rfl⟩
  case round =>
    obtain ⟨k, hk, rfl, rfl, hown, hnx, hnil⟩ := hrel
    have hst := start_le s k
    have hdl := done_len s k hk
    have hbz := hnx.size
    by_cases hlt : k < s.size
    · cases hb : Tx.blank s[k] with
      | false =>
        obtain ⟨e1, e2⟩ := step_no s k hlt hb
        have E : Hid (doneAt s (k + 1) = doneAt s k ∧ startAt s (k + 1) = startAt s k) := ⟨e1, e2⟩
        clear e1 e2
        go_wp2_with (go_at_call 108; refine (blank_any _ _).mono ?_; rintro e w' ⟨rfl, rfl⟩)
        go_roundw
        case rel => exact ⟨k + 1, by omega, by go_num, by rw [E.out.2], by rw [E.out.1]; exact hown, hnx, by rw [E.out.1]; exact hnil⟩
        case measure => simp [intOf]; omega
      | true =>
        by_cases hsk : startAt s k < k
        · have E : Hid (doneAt s (k + 1) = doneAt s k ++ [curAt s k] ∧ startAt s (k + 1) = k + 1) := step_yes s k hlt hb hsk
          have C : Hid (s.extract (startAt s k) k = Tx.bs (curAt s k)) := cur_bytes s k hk
          go_wp2_with (first
            | (go_at_call 108; refine (blank_any _ _).mono ?_; rintro e w' ⟨rfl, hww⟩; subst hww)
            | (at_builtin; refine wpList_append_own _ rfl _ _ 35 rfl w.heap.size 9 i0 (.string ⟨#[]⟩) 1 16 Tryz.underlying35 hi hz0 hz1 hz2 rfl (by decide) _ _ _ rfl (hown.alloc _) ⟨_, 0, none⟩ 1 1 [.string (s.extract (startAt s k) k)] rfl rfl ?c1 ?c2 ?c3 ?c4 ?c5 ?_))
          case c1 => exact cell_one_new _ _ _
          case c2 => intro u hu; simp at hu; subst hu; rfl
          case c3 => unfold maxLen; omega
          case c4 => omega
          case c5 => simp; omega
          intro v' w1 hown' hgrow _
          rw [C.out] at hown'
          have R := rel_app hbz hown hnx hown' hgrow
          clear hown' hgrow hown hnx
          go_wp2
          go_roundw
          case rel => exact ⟨k + 1, by omega, by go_num, by rw [E.out.2]; go_num, by rw [E.out.1]; exact R.1, R.2, fun h => absurd h (by rw [E.out.1]; simp)⟩
          case measure => simp [intOf]; omega
        · have E : Hid (doneAt s (k + 1) = doneAt s k ∧ startAt s (k + 1) = k + 1) := step_idle s k hlt hb hsk
          go_wp2_with (go_at_call 108; refine (blank_any _ _).mono ?_; rintro e w' ⟨rfl, hww⟩; subst hww)
          go_roundw
          case rel => exact ⟨k + 1, by omega, by go_num, by rw [E.out.2]; go_num, by rw [E.out.1]; exact hown, hnx, by rw [E.out.1]; exact hnil⟩
          case measure => simp [intOf]; omega
    · obtain rfl : k = s.size := by omega
      by_cases hsk : startAt s s.size < s.size
      · have E : Hid (toksOf s = doneAt s s.size ++ [curAt s s.size]) := end_more s hsk
        have C : Hid (s.extract (startAt s s.size) s.size = Tx.bs (curAt s s.size)) := cur_bytes s s.size hk
        go_wp2_with (at_builtin; refine wpList_append_own _ rfl _ _ 35 rfl w.heap.size 9 i0 (.string ⟨#[]⟩) 1 16 Tryz.underlying35 hi hz0 hz1 hz2 rfl (by decide) _ _ _ rfl (hown.alloc _) ⟨_, 0, none⟩ 1 1 [.string (s.extract (startAt s s.size) s.size)] rfl rfl ?d1 ?d2 ?d3 ?d4 ?d5 ?_)
        case d1 => exact cell_one_new _ _ _
        case d2 => intro u hu; simp at hu; subst hu; rfl
        case d3 => unfold maxLen; omega
        case d4 => omega
        case d5 => simp; omega
        intro v' w1 hown' hgrow _
        rw [C.out] at hown'
        have R := rel_app hbz hown hnx hown' hgrow
        clear hown' hgrow hown hnx
        go_wp2
        go_ret
        exact ⟨_, rfl, by rw [E.out]; exact R.1, R.2, fun h => absurd h (by rw [E.out]; simp)⟩
      · have E : Hid (toksOf s = doneAt s s.size) := end_none s hsk
        go_wp2
        go_ret
        exact ⟨_, rfl, by rw [E.out]; exact hown, hnx, by rw [E.out]; exact hnil⟩

theorem tokens_own (s : ByteArray) (w : World) (hs : s.size ≤ 4194304) : Calls Tryz.prog 81 #[.string s] w fun e w' =>
    ∃ v, e = .returned v ∧ w'.ownsRow w.heap.size 9 1 v (toksOf s).length ((toksOf s).map tv) ∧ Below w.heap.size w w' ∧ (toksOf s = [] → v = .slice none 0 0) := tokens_big s w (Nat.le_trans hs (by decide))
end Go.Proofs.YtcinjbolflhjmadGreatDoor.Wd

/-
  PLAIN MATHEMATICS: who owns what; nothing is within itself.
-/
namespace Go.Proofs.YtcinjbolflhjmadGreatDoor
open Tn

/-- a claim: who owns, what -/
abbrev Cl := Nat × Nat

def ownerD (l : List Cl) (n : Int) : Int := match l.find? (fun c => decide ((c.2 : Int) = n)) with | some c => (c.1 : Int) | none => -1
def inD (d : Dc) (l : List Cl) (n : Int) : Int := if 0 ≤ ownerD l n then ownerD l n else upF d n
def insideD (d : Dc) (l : List Cl) (n : Int) : List Nat := (kidsD d n).filter (fun (k : Nat) => decide (ownerD l (k : Int) < 0)) ++ (l.filter (fun c => decide ((c.1 : Int) = n))).map (·.2)

/-- the way up -/
def wayF : Nat → Dc → List Cl → Int → List Nat
  | 0, _, _, _ => []
  | f + 1, d, l, n => if 0 ≤ n then n.toNat :: wayF f d l (inD d l n) else []
def wayD (d : Dc) (l : List Cl) (n : Int) : List Nat := wayF 64 d l n

def shD (d : Dc) : List Nat := shownF fuel d 0
def takes (d : Dc) (l : List Cl) (n : Nat) (k : Int) : Bool := decide (1 ≤ k) && (shD d).contains k.toNat && decide (ownerD l k < 0) && !(wayD d l (n : Int)).contains k.toNat
def claim1 (d : Dc) (n : Nat) (l : List Cl) (k : Int) : List Cl := if takes d l n k then l ++ [(n, k.toNat)] else l
def asksD (d : Dc) (n : Nat) : List Int := (Wd.toksOf (valN d (n : Int) ⟨#[97, 114, 105, 97, 45, 111, 119, 110, 115]⟩)).map (fun t => findD d (n : Int) (Tx.bs t))
def claimN (d : Dc) (l : List Cl) (n : Nat) : List Cl := (asksD d n).foldl (claim1 d n) l
def claimsD (d : Dc) : List Cl := (shD d).foldl (claimN d) []

structure Forest (d : Dc) (l : List Cl) : Prop where
  own : ∀ c ∈ l, c.1 ∈ shD d ∧ c.2 ∈ shD d ∧ 0 < c.2
  nodup : (l.map (·.2)).Nodup
  rank : ∃ r : Nat → Nat, ∀ x ∈ shD d, x ≠ 0 → ∃ y ∈ shD d, inD d l (x : Int) = (y : Int) ∧ r y < r x

theorem owner_none {l : List Cl} {n : Int} (h : ∀ c ∈ l, (c.2 : Int) ≠ n) : ownerD l n = -1 := by
  unfold ownerD
  rw [List.find?_eq_none.mpr (fun c hc => by simpa using h c hc)]
theorem owner_cases (l : List Cl) (n : Int) : (ownerD l n = -1 ∧ ∀ c ∈ l, (c.2 : Int) ≠ n) ∨ ∃ o k : Nat, n = (k : Int) ∧ (o, k) ∈ l ∧ ownerD l n = (o : Int) := by
  cases h : l.find? (fun c => decide ((c.2 : Int) = n)) with
  | none =>
    have := List.find?_eq_none.mp h
    refine Or.inl ⟨by unfold ownerD; rw [h], fun c hc => by simpa using this c hc⟩
  | some c =>
    have h1 := List.find?_some h
    have h2 := List.mem_of_find?_eq_some h
    exact Or.inr ⟨c.1, c.2, by have : (c.2 : Int) = n := by simpa using h1
                               exact this.symm, h2, by unfold ownerD; rw [h]⟩
theorem owner_neg {l : List Cl} {n : Int} (h : ownerD l n < 0) : ∀ c ∈ l, (c.2 : Int) ≠ n := by
  rcases owner_cases l n with ⟨_, h2⟩ | ⟨o, k, _, _, e⟩
  · exact h2
  · omega
theorem nodup_two : ∀ {l : List Cl} {a b k : Nat}, (l.map (·.2)).Nodup → (a, k) ∈ l → (b, k) ∈ l → a = b
  | [], _, _, _, _, h, _ => by simp at h
  | c :: l, a, b, k, hn, ha, hb => by
    rw [List.map_cons, List.nodup_cons] at hn
    rcases List.mem_cons.mp ha with e1 | ha'
    · rcases List.mem_cons.mp hb with e2 | hb'
      · exact congrArg Prod.fst (e1.trans e2.symm)
      · exact absurd (List.mem_map.mpr ⟨(b, k), hb', show k = c.2 from congrArg Prod.snd e1⟩) hn.1
    · rcases List.mem_cons.mp hb with e2 | hb'
      · exact absurd (List.mem_map.mpr ⟨(a, k), ha', show k = c.2 from congrArg Prod.snd e2⟩) hn.1
      · exact nodup_two hn.2 ha' hb'
/-- the owner is who has a claim -/
theorem owner_mem {l : List Cl} (hn : (l.map (·.2)).Nodup) {o k : Nat} (h : (o, k) ∈ l) : ownerD l (k : Int) = (o : Int) := by
  rcases owner_cases l (k : Int) with ⟨_, h2⟩ | ⟨o', k', e1, h2, e2⟩
  · exact absurd rfl (h2 _ h)
  · have : k = k' := by omega
    subst this
    rw [e2, nodup_two hn h2 h]

theorem owner_app {l : List Cl} {n k : Nat} {x : Int} (hx : x ≠ (k : Int)) : ownerD (l ++ [(n, k)]) x = ownerD l x := by
  unfold ownerD
  rw [List.find?_append]
  have : ([(n, k)] : List Cl).find? (fun c => decide ((c.2 : Int) = x)) = none := by
    rw [List.find?_eq_none]
    intro c hc
    rw [List.mem_singleton] at hc
    subst hc
    simpa using fun h => hx h.symm
  rw [this, Option.or_none]
theorem owner_new {l : List Cl} {n k : Nat} (h : ownerD l (k : Int) < 0) : ownerD (l ++ [(n, k)]) (k : Int) = (n : Int) := by
  unfold ownerD
  rw [List.find?_append, List.find?_eq_none.mpr (fun c hc => by simpa using owner_neg h c hc)]
  simp
theorem in_app {d : Dc} {l : List Cl} {n k : Nat} {x : Int} (hx : x ≠ (k : Int)) : inD d (l ++ [(n, k)]) x = inD d l x := by
  unfold inD
  rw [owner_app hx]
theorem in_new {d : Dc} {l : List Cl} {n k : Nat} (h : ownerD l (k : Int) < 0) : inD d (l ++ [(n, k)]) (k : Int) = (n : Int) := by
  unfold inD
  rw [owner_new h, if_pos (by omega)]

theorem way_neg (d : Dc) (l : List Cl) (f : Nat) {n : Int} (h : n < 0) : wayF f d l n = [] := by
  cases f with
  | zero => rfl
  | succ f => rw [wayF, if_neg (by omega)]
theorem way_take (d : Dc) (l : List Cl) : ∀ (f g : Nat) (n : Int), g ≤ f → wayF g d l n = (wayF f d l n).take g
  | 0, g, n, h => by
    obtain rfl : g = 0 := by omega
    rfl
  | f + 1, 0, n, _ => rfl
  | f + 1, g + 1, n, h => by
    rw [wayF, wayF]
    split
    · rw [List.take_succ_cons, way_take d l f g _ (by omega)]
    · rfl

theorem sh_root (d : Dc) : 0 ∈ shD d := by
  unfold shD fuel
  rw [show (64 : Nat) = 63 + 1 from rfl, shownF]
  simp
theorem sh_lv {d : Dc} (h : Fine d) {x : Nat} (hx : x ∈ shD d) : lvD d x = true := by
  obtain ⟨r, hr, _⟩ := h.good.tr
  exact (shown_live h fuel 0 x hr.1.root hx).1
theorem sh_nodup {d : Dc} (h : Fine d) : (shD d).Nodup := by
  obtain ⟨r, hr, _⟩ := h.good.tr
  exact shown_nodup h fuel 0 hr.1.root
theorem sh_few {d : Dc} (h : Fine d) : (shD d).length ≤ 60 ∧ (shD d).length ≤ d.length := by
  obtain ⟨r, hr, _⟩ := h.good.tr
  exact ⟨shown_few h fuel hr.1.root, nodup_le d.length _ (sh_nodup h) (fun x hx => lv_lt (sh_lv h hx))⟩
theorem sh_up {d : Dc} (h : Fine d) {x : Nat} (hx : x ∈ shD d) (h0 : x ≠ 0) : ∃ y ∈ shD d, upF d (x : Int) = (y : Int) ∧ x ∈ kidsD d (y : Int) ∧ posD d y < posD d x := by
  obtain ⟨y, hy, hs⟩ := shown_par fuel 0 x hx h0
  exact ⟨y, hs.subset (by simp), up_of_kid h hy, hy, kid_pos h hy⟩

theorem forest_nil {d : Dc} (h : Fine d) : Forest d [] :=
  ⟨by simp, by simp, ⟨posD d, fun x hx h0 => by
    obtain ⟨y, h1, h2, _, h3⟩ := sh_up h hx h0
    exact ⟨y, h1, by unfold inD; rw [owner_none (by simp), if_neg (by omega)]; exact h2, h3⟩⟩⟩

theorem in_root {d : Dc} (h : Fine d) {l : List Cl} (hl : Forest d l) : inD d l 0 = -1 := by
  unfold inD
  rw [owner_none (fun c hc => by have := (hl.own c hc).2.2; omega), if_neg (by omega)]
  exact up_root h
theorem in_cases {d : Dc} (h : Fine d) {l : List Cl} (hl : Forest d l) {x : Nat} (hx : x ∈ shD d) : inD d l (x : Int) = -1 ∨ ∃ y ∈ shD d, inD d l (x : Int) = (y : Int) := by
  obtain ⟨r, hr⟩ := hl.rank
  by_cases h0 : x = 0
  · subst h0; exact Or.inl (in_root h hl)
  · obtain ⟨y, h1, h2, _⟩ := hr x hx h0
    exact Or.inr ⟨y, h1, h2⟩

/-- the way up is in what is shown, each once; and comes to the root -/
theorem way_facts {d : Dc} (h : Fine d) {l : List Cl} (hl : Forest d l) {r : Nat → Nat} (hr : ∀ x ∈ shD d, x ≠ 0 → ∃ y ∈ shD d, inD d l (x : Int) = (y : Int) ∧ r y < r x) : ∀ (f x : Nat), x ∈ shD d → (∀ y ∈ wayF f d l (x : Int), y ∈ shD d ∧ r y ≤ r x) ∧ (wayF f d l (x : Int)).Nodup
  | 0, x, _ => ⟨by simp [wayF], List.nodup_nil⟩
  | f + 1, x, hx => by
    rw [wayF, if_pos (by omega), Int.toNat_natCast]
    by_cases h0 : x = 0
    · subst h0
      rw [show ((0 : Nat) : Int) = 0 from rfl, in_root h hl, way_neg d l f (by omega)]
      exact ⟨by simp [hx], by simp⟩
    · obtain ⟨y, h1, h2, h3⟩ := hr x hx h0
      obtain ⟨g1, g2⟩ := way_facts h hl hr f y h1
      rw [h2]
      refine ⟨fun z hz => ?_, List.nodup_cons.mpr ⟨fun hz => ?_, g2⟩⟩
      · rcases List.mem_cons.mp hz with rfl | hz
        · exact ⟨hx, Nat.le_refl _⟩
        · have := g1 z hz; exact ⟨this.1, by omega⟩
      · have := (g1 x hz).2; omega

theorem sub_len {a b : List Nat} (ha : a.Nodup) (hs : ∀ x ∈ a, x ∈ b) : a.length ≤ b.length := by
  induction a generalizing b with
  | nil => simp
  | cons x a ih =>
    rw [List.nodup_cons] at ha
    have hx := hs x (by simp)
    have := ih (b := b.erase x) ha.2 (fun y hy => by
      have hne : y ≠ x := fun e => ha.1 (by rw [← e]; exact hy)
      exact (List.mem_erase_of_ne hne).mpr (hs y (by simp [hy])))
    rw [List.length_erase_of_mem hx] at this
    have := List.length_pos_of_mem hx
    simp
    omega

theorem way_len {d : Dc} (h : Fine d) {l : List Cl} (hl : Forest d l) {x : Nat} (hx : x ∈ shD d) (f : Nat) : (wayF f d l (x : Int)).length ≤ (shD d).length := by
  obtain ⟨r, hr⟩ := hl.rank
  obtain ⟨h1, h2⟩ := way_facts h hl hr f x hx
  exact sub_len h2 (fun y hy => (h1 y hy).1)
/-- more steps tell no more -/
theorem way_more {d : Dc} (h : Fine d) {l : List Cl} (hl : Forest d l) {x : Nat} (hx : x ∈ shD d) {f g : Nat} (hf : 60 < f) (hg : 60 < g) : wayF f d l (x : Int) = wayF g d l (x : Int) := by
  have key : ∀ f g, f ≤ g → 60 < f → wayF f d l (x : Int) = wayF g d l (x : Int) := by
    intro f g hfg h60
    have e1 := way_take d l g f (x : Int) hfg
    have e2 := way_len h hl hx f
    have e3 := (sh_few h).1
    rw [e1] at e2 ⊢
    rw [List.length_take] at e2
    exact List.take_of_length_le (by omega)
  by_cases e : f ≤ g
  · exact key f g e hf
  · exact (key g f (by omega) hg).symm
theorem way_cons {d : Dc} (h : Fine d) {l : List Cl} (hl : Forest d l) {x : Nat} (hx : x ∈ shD d) : wayD d l (x : Int) = x :: wayD d l (inD d l (x : Int)) := by
  have e : wayD d l (x : Int) = x :: wayF 63 d l (inD d l (x : Int)) := by
    unfold wayD
    rw [show (64 : Nat) = 63 + 1 from rfl, wayF, if_pos (by omega), Int.toNat_natCast]
  rw [e]
  unfold wayD
  rcases in_cases h hl hx with e2 | ⟨y, hy, e2⟩
  · rw [e2, way_neg d l _ (by omega), way_neg d l _ (by omega)]
  · rw [e2, way_more h hl hy (f := 63) (g := 64) (by omega) (by omega)]
theorem way_no (d : Dc) (l : List Cl) {n : Int} (h : n < 0) : wayD d l n = [] := way_neg d l 64 h

/-- a claim that closes no circle may be taken -/
theorem forest_add {d : Dc} (h : Fine d) {l : List Cl} (hl : Forest d l) {n k : Nat} (hn : n ∈ shD d) (ht : takes d l n (k : Int) = true) : Forest d (l ++ [(n, k)]) := by
  unfold takes at ht
  simp only [Bool.and_eq_true, decide_eq_true_eq, Int.toNat_natCast, Bool.not_eq_true', List.contains_eq_mem, decide_eq_false_iff_not] at ht
  obtain ⟨⟨⟨h1, h2⟩, h3⟩, h4⟩ := ht
  refine ⟨fun c hc => ?_, ?_, ?_⟩
  · rcases List.mem_append.mp hc with hc | hc
    · exact hl.own c hc
    · rw [List.mem_singleton] at hc
      subst hc
      exact ⟨hn, h2, by omega⟩
  · rw [List.map_append, List.nodup_append]
    refine ⟨hl.nodup, by simp, fun a ha b hb => ?_⟩
    obtain ⟨c, hc, rfl⟩ := List.mem_map.mp ha
    have := owner_neg h3 c hc
    simp at hb
    subst hb
    intro e
    exact this (by rw [e])
  · obtain ⟨r, hr⟩ := hl.rank
    refine ⟨fun x => if k ∈ wayD d l (x : Int) then r x + r n + 1 else r x, fun x hx h0 => ?_⟩
    by_cases e : x = k
    · subst e
      refine ⟨n, hn, in_new h3, ?_⟩
      have q1 : x ∈ wayD d l (x : Int) := by rw [way_cons h hl hx]; simp
      show (if x ∈ wayD d l (n : Int) then r n + r n + 1 else r n) < (if x ∈ wayD d l (x : Int) then r x + r n + 1 else r x)
      rw [if_neg h4, if_pos q1]
      omega
    · obtain ⟨y, g1, g2, g3⟩ := hr x hx h0
      refine ⟨y, g1, by rw [in_app (by omega)]; exact g2, ?_⟩
      have e2 := way_cons h hl hx
      rw [g2] at e2
      have : k ∈ wayD d l (x : Int) ↔ k ∈ wayD d l (y : Int) := by
        rw [e2, List.mem_cons]
        exact ⟨fun h => h.resolve_left (fun q => e q.symm), Or.inr⟩
      show (if k ∈ wayD d l (y : Int) then r y + r n + 1 else r y) < (if k ∈ wayD d l (x : Int) then r x + r n + 1 else r x)
      by_cases q : k ∈ wayD d l (y : Int)
      · rw [if_pos q, if_pos (this.mpr q)]; omega
      · rw [if_neg q, if_neg (fun z => q (this.mp z))]; exact g3

theorem takes_nat {d : Dc} {l : List Cl} {n : Nat} {k : Int} (h : takes d l n k = true) : ∃ m : Nat, k = (m : Int) := by
  unfold takes at h
  simp at h
  exact ⟨k.toNat, by omega⟩

theorem forest_claim {d : Dc} (h : Fine d) {l : List Cl} (hl : Forest d l) {n : Nat} (hn : n ∈ shD d) (k : Int) : Forest d (claim1 d n l k) := by
  unfold claim1
  split
  · rename_i ht
    obtain ⟨m, rfl⟩ := takes_nat ht
    rw [Int.toNat_natCast]
    exact forest_add h hl hn ht
  · exact hl
theorem forest_asks {d : Dc} (h : Fine d) {n : Nat} (hn : n ∈ shD d) : ∀ (ks : List Int) (l : List Cl), Forest d l → Forest d (ks.foldl (claim1 d n) l)
  | [], _, hl => hl
  | k :: ks, _, hl => forest_asks h hn ks _ (forest_claim h hl hn k)
theorem forest_nodes {d : Dc} (h : Fine d) : ∀ (ns : List Nat) (l : List Cl), (∀ n ∈ ns, n ∈ shD d) → Forest d l → Forest d (ns.foldl (claimN d) l)
  | [], _, _, hl => hl
  | n :: ns, _, hs, hl => forest_nodes h ns _ (fun m hm => hs m (by simp [hm])) (forest_asks h (hs n (by simp)) _ _ hl)
theorem forest_claims {d : Dc} (h : Fine d) : Forest d (claimsD d) := forest_nodes h _ _ (fun _ hn => hn) (forest_nil h)
/-- .. and so at each turn -/
theorem forest_at {d : Dc} (h : Fine d) (i : Nat) : Forest d (((shD d).take i).foldl (claimN d) []) := forest_nodes h _ _ (fun _ hn => List.mem_of_mem_take hn) (forest_nil h)

/-- how many there may be -/
theorem forest_few {d : Dc} (h : Fine d) {l : List Cl} (hl : Forest d l) : l.length ≤ 60 := by
  have := sub_len hl.nodup (b := shD d) (fun x hx => by
    obtain ⟨c, hc, rfl⟩ := List.mem_map.mp hx
    exact (hl.own c hc).2.1)
  have := (sh_few h).1
  simp at *
  omega

/-! ### the way up, counted -/

/-- so many steps up, but from the root -/
def atD (d : Dc) (l : List Cl) : Nat → Int → Int
  | 0, n => n
  | j + 1, n => atD d l j (if n ≠ 0 then inD d l n else n)

theorem way_pos {d : Dc} (h : Fine d) {l : List Cl} (hl : Forest d l) : ∀ (m x : Nat), x ∈ shD d → (wayD d l (x : Int)).length ≤ m + 1 → atD d l m (x : Int) = 0
  | 0, x, hx, hm => by
    by_cases h0 : x = 0
    · subst h0; rfl
    · obtain ⟨r, hr⟩ := hl.rank
      obtain ⟨y, g1, g2, _⟩ := hr x hx h0
      rw [way_cons h hl hx, g2, way_cons h hl g1] at hm
      simp at hm
  | m + 1, x, hx, hm => by
    rw [atD]
    by_cases h0 : x = 0
    · subst h0
      rw [if_neg (by simp)]
      exact way_pos h hl m 0 hx (by rw [way_cons h hl hx, show ((0 : Nat) : Int) = 0 from rfl, in_root h hl, way_no d l (by omega)]; simp)
    · obtain ⟨r, hr⟩ := hl.rank
      obtain ⟨y, g1, g2, _⟩ := hr x hx h0
      rw [if_pos (by omega), g2]
      refine way_pos h hl m y g1 ?_
      rw [way_cons h hl hx, g2] at hm
      simpa using hm
/-- as many steps as there are nodes come to the root -/
theorem at_root {d : Dc} (h : Fine d) {l : List Cl} (hl : Forest d l) {x : Nat} (hx : x ∈ shD d) : atD d l d.length (x : Int) = 0 := by
  refine way_pos h hl _ x hx ?_
  have := way_len h hl hx 64
  have h2 := (sh_few h).2
  unfold wayD
  omega
end Go.Proofs.YtcinjbolflhjmadGreatDoor
