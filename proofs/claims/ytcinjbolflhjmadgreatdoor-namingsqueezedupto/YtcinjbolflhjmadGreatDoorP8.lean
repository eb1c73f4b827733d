/-
  OWN WORK: Vca, Wrt, Wlo, Shelf, Wsq, Wrs, Kta, Ktb, Ktc, Ktd, Kte, Ktf.
-/
import Derived.Test.YtcinjbolflhjmadGreatDoorP7
import Derived.Test.YtcinjbolflhjmadGreatDoorP6
import Derived.Laws.IdiomStrings
import Derived.Shelf.Strings.OnBuilder
import Derived.Test.YtcinjbolflhjmadGreatDoorProg
import Derived.Test.YtcinjbolflhjmadGreatDoorRows
import Derived.WalkKit
import Derived.ProofKit
import Derived.WalkSpells
import Derived.WalkLawsBesides
import Derived.OpenShut
import Derived.Deep.DeepHandedRow
import Derived.Lib.LaidTab
import Derived.LaidMore
import Derived.Maps.OwnOps
import Derived.Maps.OwnSet
import Derived.Maps.Views
import Derived.Laws.StructEq
/-
  CLAIMS in memory: how a slice of them reads, one of the call's own, append.
-/
namespace Go.Proofs.YtcinjbolflhjmadGreatDoor
open Go.RowKit

theorem infoC : (Tryz.prog.info? 62).map (fun i => (i.zero, i.size, i.bytes)) = some (some (.agg #[.int .i64 0, .int .i64 0]), 2, 16) := by kernel_rfl

def cv (c : Cl) : List Value := [iv c.1, iv c.2]
theorem cv_len (c : Cl) : (cv c).length = 2 := rfl

def ClsAt (w : World) (v : Value) (l : List Cl) : Prop := CellsAt w v l.length (l.flatMap cv)
theorem ClsAt.keeps {w w' : World} {v : Value} {l : List Cl} (h : ClsAt w v l) (k : Keeps w w') : ClsAt w' v l := CellsAt.keeps h k
theorem cls_nil (w : World) : ClsAt w (.slice none 0 0) [] := ⟨none, 0, rfl, Nat.le_refl _, by decide, Or.inl ⟨rfl, rfl⟩, fun j x h => by simp at h⟩

theorem ClsAt.at {w : World} {v : Value} {l : List Cl} (h : ClsAt w v l) : ∃ p c, v = .slice p l.length c ∧ l.length ≤ c ∧ c ≤ 9223372036854775807 ∧ ((p = none ∧ c = 0) ∨ ∃ b o, p = some ⟨b, o, none⟩) ∧
    ∀ j (hj : j < l.length), ∃ b o, p = some ⟨b, o, none⟩ ∧ w.cell? ⟨b, o + j * 2, none⟩ = some (.int .i64 (l[j].1 : Int)) ∧ w.cell? ⟨b, o + j * 2 + 1, none⟩ = some (.int .i64 (l[j].2 : Int)) := by
  obtain ⟨p, c, e, h1, h2, h3, h4⟩ := h
  refine ⟨p, c, e, h1, by unfold maxLen at h2; omega, h3, fun j hj => ?_⟩
  obtain ⟨b, o, e1, e2⟩ := h4 (j * 2 + 0) (iv l[j].1) (by rw [flat_at cv 2 cv_len l j 0 (by decide), List.getElem?_eq_getElem hj]; rfl)
  obtain ⟨b', o', e3, e4⟩ := h4 (j * 2 + 1) (iv l[j].2) (by rw [flat_at cv 2 cv_len l j 1 (by decide), List.getElem?_eq_getElem hj]; rfl)
  rw [e1] at e3
  cases e3
  exact ⟨b, o, e1, e2, by rw [Nat.add_assoc]; exact e4⟩

/-- a row of claims of the call's own -/
def OwnC (w : World) (B : Nat) (v : Value) (l : List Cl) : Prop := w.ownsRow B 62 2 v l.length (l.flatMap cv)
theorem OwnC.nil (w : World) (B : Nat) : OwnC w B (.slice none 0 0) [] := World.ownsRow_nil _ _ _ _
theorem OwnC.shape {w : World} {B : Nat} {v : Value} {l : List Cl} (h : OwnC w B v l) : ∃ p c, v = .slice p l.length c := owns_shape h
theorem OwnC.alloc {w : World} {B : Nat} {v : Value} {l : List Cl} (h : OwnC w B v l) (o : Obj) : OwnC (w.alloc o) B v l := World.ownsRow.alloc h o
theorem cls_of_owns {w : World} {B : Nat} {v : Value} {l : List Cl} (h : OwnC w B v l) : ClsAt w v l := cells_of_owns h
theorem OwnC.below {w w' : World} {B C : Nat} {v : Value} {l : List Cl} (h : OwnC w B v l) (hb : Below C w w') (hC : w.heap.size ≤ C) : OwnC w' B v l := by
  obtain ⟨hl, hz⟩ := h
  refine ⟨hl, ?_⟩
  rcases hz with h5 | ⟨g, cap, cur, e, h3, h6, h7⟩
  · exact Or.inl h5
  · refine Or.inr ⟨g, cap, cur, e, h3, ?_, h7⟩
    have hlt : g < w.heap.size := by
      apply Classical.byContradiction
      intro hn
      rw [Array.getElem?_eq_none (by omega)] at h6
      cases h6
    rw [hb.block g (by omega)]
    exact h6
theorem OwnC.set {w : World} {B : Nat} {v : Value} {l : List Cl} (h : OwnC w B v l) (p : Addr) (u : Value) (hp : p.block < B) : OwnC (w.setCell p u) B v l := by
  obtain ⟨hl, hz⟩ := h
  refine ⟨hl, ?_⟩
  rcases hz with h5 | ⟨g, cap, cur, e, h3, h6, h7⟩
  · exact Or.inl h5
  · refine Or.inr ⟨g, cap, cur, e, h3, ?_, h7⟩
    rw [heap_setCell_other _ _ _ _ (by omega)]
    exact h6

theorem OwnC.mono {w : World} {B C : Nat} {v : Value} {l : List Cl} (h : OwnC w B v l) (hc : C ≤ B) : OwnC w C v l := by
  obtain ⟨hl, hz⟩ := h
  refine ⟨hl, ?_⟩
  rcases hz with h5 | ⟨g, cap, cur, e, h3, h6⟩
  · exact Or.inl h5
  · exact Or.inr ⟨g, cap, cur, e, Nat.le_trans hc h3, h6⟩
/-- a row that lies above all that was written is as it was -/
theorem Mv.owns {A : Nat} {r r' : Option Nat} {w w' : World} (h : Mv A r r' w w') {C e k n : Nat} {v : Value} {xs : List Value} (ho : w.ownsRow C e k v n xs) (hA : A < C) (hr : ∀ q, r = some q → q < C) : w'.ownsRow C e k v n xs := by
  have hlt := ho.lt
  obtain ⟨hl, hz⟩ := ho
  refine ⟨hl, ?_⟩
  rcases hz with h5 | ⟨g, cap, cur, rfl, h3, h6, h7⟩
  · exact Or.inl h5
  · refine Or.inr ⟨g, cap, cur, rfl, h3, ?_, h7⟩
    rw [h.block g (hlt g rfl).2 (by omega) (fun e => by have := hr g e.symm; omega)]
    exact h6

theorem Mv.owns2 {A : Nat} {r r' : Option Nat} {w w' : World} (h : Mv A r r' w w') {C e k n : Nat} {v : Value} {xs : List Value} (ho : w.ownsRow C e k v n xs) (hA : w.heap.size ≤ A) (hr : ∀ q, r = some q → q < C) : w'.ownsRow C e k v n xs := by
  have hlt := ho.lt
  obtain ⟨hl, hz⟩ := ho
  refine ⟨hl, ?_⟩
  rcases hz with h5 | ⟨g, cap, cur, rfl, h3, h6, h7⟩
  · exact Or.inl h5
  · refine Or.inr ⟨g, cap, cur, rfl, h3, ?_, h7⟩
    rw [h.block g (hlt g rfl).2 (by have := (hlt g rfl).2; omega) (fun e => by have := hr g e.symm; omega)]
    exact h6
theorem But.owns {A B : Nat} {w w' : World} (h : But B A w w') (hB : w.heap.size ≤ B) {C e k n : Nat} {v : Value} {xs : List Value} (ho : w.ownsRow C e k v n xs) (hA : A < C) : w'.ownsRow C e k v n xs := by
  have hlt := ho.lt
  obtain ⟨hl, hz⟩ := ho
  refine ⟨hl, ?_⟩
  rcases hz with h5 | ⟨g, cap, cur, rfl, h3, h6, h7⟩
  · exact Or.inl h5
  · refine Or.inr ⟨g, cap, cur, rfl, h3, ?_, h7⟩
    rw [h.block g (by have := (hlt g rfl).2; omega) (by omega)]
    exact h6
theorem owns_below {w w' : World} {C e k n : Nat} {v : Value} {xs : List Value} (ho : w.ownsRow C e k v n xs) (h : Below w.heap.size w w') : w'.ownsRow C e k v n xs := by
  have hlt := ho.lt
  obtain ⟨hl, hz⟩ := ho
  refine ⟨hl, ?_⟩
  rcases hz with h5 | ⟨g, cap, cur, rfl, h3, h6, h7⟩
  · exact Or.inl h5
  · refine Or.inr ⟨g, cap, cur, rfl, h3, ?_, h7⟩
    rw [h.block g (hlt g rfl).2]
    exact h6

/-- append, and where what comes of it lies -/
theorem append_claim2 {w0 wr : World} {ops : Array Oper} {rest : List Oper} {o : Oper} {a : Act} {Q : Exit → Act → World → Prop} (hgd : o.guard = none)
    (s x : Operand) (ho : o.op = Op.call { callee := Callee.builtin Builtin.append, args := #[s, x], argTypes := #[26, 26] }) {B : Nat} {v : Value} {l : List Cl} (n k : Nat)
    (hs : a.eval s = v) (hx : a.eval x = .slice (some ⟨wr.heap.size, 0, none⟩) 1 1) (hown : OwnC wr B v l) (hnx : Below B w0 wr) (hB : B ≤ wr.heap.size) (hsz : l.length ≤ 1000000000)
    (h : ∀ v' w1, OwnC w1 B v' (l ++ [(n, k)]) → Below B w0 w1 → wr.grownBy w1 v.ownBlock → (v'.ownBlock = v.ownBlock ∨ ∃ g, wr.heap.size ≤ g ∧ v'.ownBlock = some g) → wpList Tryz.prog ops Q rest (a.put o.dst v') w1) :
    wpList Tryz.prog ops Q (o :: rest) a (wr.alloc (.cells #[.int .i64 (n : Int), .int .i64 (k : Int)] 62)) := by
  obtain ⟨i0, hi, hz0, hz1, hz2⟩ := info_parts infoC
  unfold OwnC at hown h
  have hown' := hown.alloc (.cells #[.int .i64 (n : Int), .int .i64 (k : Int)] 62)
  have hnews : ∀ (j : Nat) (u : Value), ([iv n, iv k] : List Value)[j]? = some u → (wr.alloc (.cells #[.int .i64 (n : Int), .int .i64 (k : Int)] 62)).cell? ((⟨wr.heap.size, 0, none⟩ : Addr).add j) = some u := by
    intro j y hy
    rw [add_at, Nat.zero_add, World.cell?_alloc_new]
    rw [← hy]
    simp [iv]
  have h1 : ∀ u ∈ ([iv n, iv k] : List Value), u.oneCell' = true := by intro y hy; simp at hy; rcases hy with rfl | rfl <;> rfl
  have hzs : (i0.size : Nat) = 2 := hz1
  refine wpList_plain hgd fun K hK => ?_
  obtain ⟨v', w', hr, h2, h3, _⟩ := run_append_own (P := Tryz.prog) (wr.alloc (.cells #[.int .i64 (n : Int), .int .i64 (k : Int)] 62)) B 26 o.type 62 i0 (.agg #[.int .i64 0, .int .i64 0]) 2 16 Tryz.underlying26 hi hz0 hz1 hz2 rfl (by decide) v _ _ hown' ⟨_, 0, none⟩ 1 1 [iv n, iv k] rfl hnews h1 (by unfold maxLen; omega) (by omega) (by simp; omega)
  have hn := (hnx.alloc hB (.cells #[.int .i64 (n : Int), .int .i64 (k : Int)] 62)).grown h3 (by simp; omega) (fun j hj => (hown.lt j hj).1)
  have hg2 : wr.grownBy w' v.ownBlock := by
    have h4 := World.grownBy_alloc wr (.cells #[.int .i64 (n : Int), .int .i64 (k : Int)] 62) v.ownBlock
    exact ⟨h3.os.trans h4.os, h3.tape.trans h4.tape, h3.output.trans h4.output, Nat.le_trans h4.size h3.size, fun q hq hr' => (h3.block q (Nat.lt_of_lt_of_le hq h4.size) hr').trans (h4.block q hq hr')⟩
  have hblk : v'.ownBlock = v.ownBlock ∨ ∃ g, wr.heap.size ≤ g ∧ v'.ownBlock = some g := by
    rcases hown'.2 with ⟨rfl, hn0⟩ | ⟨g, cap, cur, rfl, hbg, hg, hnc, hcm, hcs, htake⟩
    · have hr2 := run_append_nil (P := Tryz.prog) (wr.alloc (.cells #[.int .i64 (n : Int), .int .i64 (k : Int)] 62)) 26 o.type 62 i0 (.agg #[.int .i64 0, .int .i64 0]) Tryz.underlying26 hi hz0 ⟨wr.heap.size, 0, none⟩ 1 1 [iv n, iv k] (by rw [hzs]; rfl) hnews (by decide) (by decide) (by rw [hz2]; decide)
      rw [hr2] at hr
      injection hr with e1 e2
      right
      refine ⟨wr.heap.size + 1, by omega, ?_⟩
      rw [← e1]
      simp [Value.ownBlock]
    · by_cases hroom : l.length + 1 ≤ cap
      · have hr2 := run_append_room (P := Tryz.prog) (wr.alloc (.cells #[.int .i64 (n : Int), .int .i64 (k : Int)] 62)) 26 o.type 62 i0 Tryz.underlying26 hi g l.length cap cur hg ⟨wr.heap.size, 0, none⟩ 1 1 [iv n, iv k] (by rw [hzs]; rfl) hnews h1 hroom (by rw [hzs, hcs]; simp; omega)
        rw [hr2] at hr
        injection hr with e1 e2
        left
        rw [← e1]
        rfl
      · have hr2 := run_append_grow (P := Tryz.prog) (wr.alloc (.cells #[.int .i64 (n : Int), .int .i64 (k : Int)] 62)) 26 o.type 62 i0 (.agg #[.int .i64 0, .int .i64 0]) Tryz.underlying26 hi hz0 ⟨g, 0, none⟩ l.length cap _ (by rw [hzs]; exact hown'.1) (World.ownsRow.cells hown' (g := g) rfl) ⟨wr.heap.size, 0, none⟩ 1 1 [iv n, iv k] (by rw [hzs]; rfl) hnews (by omega) (by omega) (growslice_fits (by omega) (by rw [hz2]; omega))
        rw [hr2] at hr
        injection hr with e1 e2
        right
        refine ⟨wr.heap.size + 1, by omega, ?_⟩
        rw [← e1]
        simp [Value.ownBlock]
  unfold Oper.wp execOp
  simp only [ho, resolve, invoke, builtin, Sem.run_bind, Sem.run_pure, Result.andThen_ok, List.map_toArray, List.map_cons, List.map_nil, hs, hx, hr]
  exact hK _ _ (h v' w' (by simpa [cv] using h2) hn hg2 hblk)

/-- a document, and how long its values may be -/
structure Dx (w : World) (b o c : Nat) (rs : List Raw) (d : Tn.Dc) : Prop where
  doc : DocAt w b o c rs d
  fine : Fine d
  vn : ∀ j, Vn (Tn.nd d j)
theorem Dx.keeps {w w' : World} {b o c : Nat} {rs : List Raw} {d : Tn.Dc} (h : Dx w b o c rs d) (hk : Keeps w w') : Dx w' b o c rs d := ⟨h.doc.keeps hk, h.fine, h.vn⟩
theorem Dx.below {w w' : World} {b o c : Nat} {rs : List Raw} {d : Tn.Dc} (h : Dx w b o c rs d) (hb : Below w.heap.size w w') : Dx w' b o c rs d := h.keeps (keeps_below hb (Nat.le_refl _))
theorem dx_build {w : World} {b o c : Nat} {rs : List Raw} {l : List Tn.Chg} (h : DocAt w b o c rs (Tn.build l)) (hl : ∀ x ∈ l, x.value.size ≤ 4194304 ∧ x.name.size ≤ 4194304) : Dx w b o c rs (Tn.build l) := ⟨h, build_fine l, build_vn hl⟩
end Go.Proofs.YtcinjbolflhjmadGreatDoor

/-
  THE WALKS of the reference's Blank and Tokens.
-/
namespace Go.Proofs.YtcinjbolflhjmadGreatDoor.Wd
open Go.RowKit

set_option maxHeartbeats 400000 in
theorem rblank_any (c : UInt8) (w : World) : Calls Tryz.prog 43 #[.int .u8 (c.toNat : Int)] w fun e w' => e = .returned (.bool (Tx.blank c)) ∧ w' = w := by
  have e : Tx.blank c = ((c.toNat : Int) == 32 || (c.toNat : Int) == 9 || (c.toNat : Int) == 10 || (c.toNat : Int) == 13) := by
    unfold Tx.blank
    rw [Bool.eq_iff_iff]
    simp [← UInt8.toNat_inj]
    omega
  go_enter Tryz.func43, Tryz.ntmps43
  go_wp2
  all_goals (go_ret; exact ⟨by rw [e]; simp [*], rfl⟩)

theorem cur_no (s : ByteArray) (k : Nat) (h : k < s.size) (hb : Tx.blank s[k] = false) : Tx.bs (curAt s k) ++ s.extract k (k + 1) = Tx.bs (curAt s (k + 1)) := by
  have e : curAt s (k + 1) = curAt s k ++ [s[k]] := by
    unfold curAt
    rw [take_snoc s k h, Tx.scan_snoc]
    unfold Tx.step
    rw [if_neg (by simp [hb])]
  rw [e, Lib.extract_eq]
  have e2 : (s.data.toList.drop k).take (k + 1 - k) = [s[k]] := by
    rw [Nat.add_sub_cancel_left, ← List.getElem_cons_drop (by rw [← Lib.size_eq]; exact h)]
    rfl
  rw [e2]
  unfold Tx.bs
  apply ByteArray.ext
  rw [ByteArray.data_append]
  simp
theorem cur_yes (s : ByteArray) (k : Nat) (h : k < s.size) (hb : Tx.blank s[k] = true) : curAt s (k + 1) = [] := by
  unfold curAt
  rw [take_snoc s k h, Tx.scan_snoc]
  unfold Tx.step
  rw [if_pos hb]
theorem bs_size (l : List UInt8) : (Tx.bs l).size = l.length := rfl
theorem bs_toList (l : List UInt8) : (Tx.bs l).toList = l := by
  rw [Lib.toList_data]
  rfl
theorem cur_empty (s : ByteArray) (k : Nat) (hk : k ≤ s.size) (hs : ¬ startAt s k < k) : (Tx.bs (curAt s k)).toList.isEmpty = true := by
  have hl := cur_len s k hk
  rw [bs_toList]
  cases hc : curAt s k with
  | nil => rfl
  | cons x r => unfold startAt at hs; rw [hc] at hs hl; simp at hs hl; omega
theorem cur_some (s : ByteArray) (k : Nat) (hs : startAt s k < k) : (Tx.bs (curAt s k)).toList.isEmpty = false := by
  rw [bs_toList]
  cases hc : curAt s k with
  | nil => unfold startAt at hs; rw [hc] at hs; simp at hs
  | cons x r => rfl

set_option maxHeartbeats 800000 in
set_option maxRecDepth 100000 in
theorem rtokens_big (s : ByteArray) (w : World) (hs : s.size ≤ 1073741824) : Calls Tryz.prog 21 #[.string s] w fun e w' =>
    ∃ v, e = .returned v ∧ w'.ownsRow w.heap.size 9 1 v (toksOf s).length ((toksOf s).map tv) ∧ Below w.heap.size w w' ∧ (toksOf s = [] → v = .slice none 0 0) := by
  obtain ⟨i0, hi, hz0, hz1, hz2⟩ := info_parts info9
  go_enter Tryz.func21, Tryz.ntmps21
  go_wp2
  go_loopw [3, 4, 8] (fun v st i wr => ∃ k : Nat, k ≤ s.size ∧ i = .int .i64 k ∧ st = .string (Tx.bs (curAt s k)) ∧ wr.ownsRow w.heap.size 9 1 v (doneAt s k).length ((doneAt s k).map tv) ∧
      Below w.heap.size w wr ∧ (doneAt s k = [] → v = .slice none 0 0))
    (fun _ _ i _ => s.size - (intOf i).toNat)
  case atStart => exact ⟨0, Nat.zero_le _, rfl, rfl, World.ownsRow_nil _ _ _ _, Below.refl _ _, fun _ => rfl⟩
  case round =>
    obtain ⟨k, hk, rfl, rfl, hown, hnx, hnil⟩ := hrel
    have hdl := done_len s k hk
    have hbz := hnx.size
    have hcl : (Tx.bs (curAt s k)).size ≤ k := cur_len s k hk
    by_cases hlt : k < s.size
    · cases hb : Tx.blank s[k] with
      | false =>
        have E : Hid (doneAt s (k + 1) = doneAt s k ∧ Tx.bs (curAt s k) ++ s.extract k (k + 1) = Tx.bs (curAt s (k + 1))) := ⟨(step_no s k hlt hb).1, cur_no s k hlt hb⟩
        go_wp2_with (go_at_call 43; refine (rblank_any _ _).mono ?_; rintro e w' ⟨rfl, hww⟩; subst hww)
        go_roundw
        case rel => exact ⟨k + 1, by omega, by go_num, by rw [E.out.2], by rw [E.out.1]; exact hown, hnx, by rw [E.out.1]; exact hnil⟩
        case measure => simp [intOf]; omega
      | true =>
        by_cases hsk : startAt s k < k
        · have E : Hid (doneAt s (k + 1) = doneAt s k ++ [curAt s k] ∧ curAt s (k + 1) = []) := ⟨(step_yes s k hlt hb hsk).1, cur_yes s k hlt hb⟩
          have hem := cur_some s k hsk
          clear hsk
          go_wp2_with (first
            | (go_at_call 43; refine (rblank_any _ _).mono ?_; rintro e w' ⟨rfl, hww⟩; subst hww)
            | (at_builtin; refine wpList_append_own _ rfl _ _ 35 rfl w.heap.size 9 i0 (.string ⟨#[]⟩) 1 16 Tryz.underlying35 hi hz0 hz1 hz2 rfl (by decide) _ _ _ rfl (hown.alloc _) ⟨_, 0, none⟩ 1 1 [.string (Tx.bs (curAt s k))] rfl rfl ?c1 ?c2 ?c3 ?c4 ?c5 ?_))
          case c1 => exact cell_one_new _ _ _
          case c2 => intro u hu; simp at hu; subst hu; rfl
          case c3 => unfold maxLen; omega
          case c4 => omega
          case c5 => simp; omega
          intro v' w1 hown' hgrow _
          have R := rel_app hbz hown hnx hown' hgrow
          clear hown' hgrow hown hnx
          go_wp2
          go_roundw
          case rel => exact ⟨k + 1, by omega, by go_num, by rw [E.out.2]; rfl, by rw [E.out.1]; exact R.1, R.2, fun h => absurd h (by rw [E.out.1]; simp)⟩
          case measure => simp [intOf]; omega
        · have E : Hid (doneAt s (k + 1) = doneAt s k ∧ curAt s (k + 1) = []) := ⟨(step_idle s k hlt hb hsk).1, cur_yes s k hlt hb⟩
          have hem := cur_empty s k hk hsk
          clear hsk
          go_wp2_with (go_at_call 43; refine (rblank_any _ _).mono ?_; rintro e w' ⟨rfl, hww⟩; subst hww)
          go_roundw
          case rel => exact ⟨k + 1, by omega, by go_num, by rw [E.out.2]; rfl, by rw [E.out.1]; exact hown, hnx, by rw [E.out.1]; exact hnil⟩
          case measure => simp [intOf]; omega
    · obtain rfl : k = s.size := by omega
      by_cases hsk : startAt s s.size < s.size
      · have E : Hid (toksOf s = doneAt s s.size ++ [curAt s s.size]) := end_more s hsk
        have hem := cur_some s s.size hsk
        clear hsk
        go_wp2_with (at_builtin; refine wpList_append_own _ rfl _ _ 35 rfl w.heap.size 9 i0 (.string ⟨#[]⟩) 1 16 Tryz.underlying35 hi hz0 hz1 hz2 rfl (by decide) _ _ _ rfl (hown.alloc _) ⟨_, 0, none⟩ 1 1 [.string (Tx.bs (curAt s s.size))] rfl rfl ?d1 ?d2 ?d3 ?d4 ?d5 ?_)
        case d1 => exact cell_one_new _ _ _
        case d2 => intro u hu; simp at hu; subst hu; rfl
        case d3 => unfold maxLen; omega
        case d4 => omega
        case d5 => simp; omega
        intro v' w1 hown' hgrow _
        have R := rel_app hbz hown hnx hown' hgrow
        clear hown' hgrow hown hnx
        go_wp2
        go_ret
        exact ⟨_, rfl, by rw [E.out]; exact R.1, R.2, fun h => absurd h (by rw [E.out]; simp)⟩
      · have E : Hid (toksOf s = doneAt s s.size) := end_none s hsk
        have hem := cur_empty s s.size hk hsk
        clear hsk
        go_wp2
        go_ret
        exact ⟨_, rfl, by rw [E.out]; exact hown, hnx, by rw [E.out]; exact hnil⟩

theorem rtokens_own (s : ByteArray) (w : World) (hs : s.size ≤ 4194304) : Calls Tryz.prog 21 #[.string s] w fun e w' =>
    ∃ v, e = .returned v ∧ w'.ownsRow w.heap.size 9 1 v (toksOf s).length ((toksOf s).map tv) ∧ Below w.heap.size w w' ∧ (toksOf s = [] → v = .slice none 0 0) := rtokens_big s w (Nat.le_trans hs (by decide))
end Go.Proofs.YtcinjbolflhjmadGreatDoor.Wd

/-
  THE WALK of words.Lower: the text is made bytes, each capital letter is turned in place, the bytes are made a text again.
-/
namespace Go.Proofs.YtcinjbolflhjmadGreatDoor.Wd
open Go.RowKit

def lowB (c : UInt8) : UInt8 := if 65 ≤ c.toNat ∧ c.toNat ≤ 90 then c + 32 else c
def lowL (l : List UInt8) : List UInt8 := l.map lowB

theorem lowB_twice (c : UInt8) : lowB (lowB c) = lowB c := by
  unfold lowB
  by_cases h : 65 ≤ c.toNat ∧ c.toNat ≤ 90
  · rw [if_pos h]
    have e : (c + 32).toNat = c.toNat + 32 := by
      rw [UInt8.toNat_add]
      have : (32 : UInt8).toNat = 32 := rfl
      omega
    rw [if_neg (by omega)]
  · rw [if_neg h, if_neg h]
theorem lowL_twice (l : List UInt8) : lowL (lowL l) = lowL l := by
  unfold lowL
  rw [List.map_map]
  apply List.map_congr_left
  intro c _
  exact lowB_twice c
theorem lowL_len (l : List UInt8) : (lowL l).length = l.length := List.length_map _
theorem lowB_yes (c : UInt8) (h : 65 ≤ c.toNat ∧ c.toNat ≤ 90) : ((lowB c).toNat : Int) = (c.toNat : Int) - 65 + 97 := by
  unfold lowB
  rw [if_pos h, UInt8.toNat_add]
  have : (32 : UInt8).toNat = 32 := rfl
  omega
theorem lowB_no (c : UInt8) (h : ¬ (65 ≤ c.toNat ∧ c.toNat ≤ 90)) : lowB c = c := by
  unfold lowB
  rw [if_neg h]

/-- what a text made bytes leaves: a new row that holds them -/
def Row8 (B : Nat) (l : List UInt8) (w w' : World) : Prop :=
  (∀ j c, l[j]? = some c → w'.cell? ⟨B, j, none⟩ = some (.int .u8 (c.toNat : Int))) ∧ (∀ j, j < l.length → w'.frozen? ⟨B, j, none⟩ = false) ∧ Below B w w' ∧ B < w'.heap.size

theorem conv_bytes (s : ByteArray) (w : World) : ∃ cap w1, (convert 9 106 (.string s)).run Tryz.prog w = .ok (.slice (some ⟨w.heap.size, 0, none⟩) s.size cap) w1 ∧ Row8 w.heap.size s.data.toList w w1 := by
  refine ⟨_, _, run_bytes_of_string w 9 106 5 s Tryz.underlying9 Tryz.underlying106 Tryz.underlying5, ?_, ?_, ?_, ?_⟩
  · intro j c hc
    have hs : w.heap.size = w.drew.heap.size := rfl
    rw [hs, World.cell?_alloc_mark]
    unfold bytesRow
    have hj : j < s.data.toList.length := (List.getElem?_eq_some_iff.1 hc).1
    rw [Array.getElem?_append_left (by simpa using hj), Array.getElem?_map]
    rw [Array.getElem?_toList] at hc
    rw [hc]
    rfl
  · intro j hj
    have hs : w.heap.size = w.drew.heap.size := rfl
    rw [hs, World.frozen?_alloc_mark]
    have hz : j < (bytesRow s (grownCap w s.size 0 5)).size := by
      unfold bytesRow
      rw [Array.size_append, Array.size_map]
      have : s.data.toList.length = s.data.size := Array.length_toList
      omega
    rw [decide_eq_false (by omega)]
    rfl
  · exact ((Below.refl _ _).drew).alloc (Nat.le_refl _) _
  · simp

theorem row8_set {B : Nat} {l : List UInt8} {w w' : World} (h : Row8 B l w w') (k : Nat) (c : UInt8) (hk : k < l.length) : Row8 B (l.set k c) w (w'.setCell ⟨B, k, none⟩ (.int .u8 (c.toNat : Int))) := by
  obtain ⟨h1, h2, h3, h4⟩ := h
  refine ⟨?_, ?_, h3.setCell (Nat.le_refl _) _, by simpa using h4⟩
  · intro j d hd
    rw [List.getElem?_set] at hd
    by_cases e : k = j
    · subst e
      rw [if_pos rfl, if_pos hk] at hd
      cases hd
      exact World.cell?_setCell_same _ _ _ (h1 k _ (List.getElem?_eq_getElem hk))
    · rw [if_neg e] at hd
      rw [World.cell?_setCell_other _ _ _ _ (by intro h; cases h; exact e rfl)]
      exact h1 j d hd
  · intro j hj
    rw [List.length_set] at hj
    rw [World.frozen?_setCell]
    exact h2 j hj

/-- the first k letters lowered -/
def lowTo (l : List UInt8) (k : Nat) : List UInt8 := lowL (l.take k) ++ l.drop k
theorem lowTo_zero (l : List UInt8) : lowTo l 0 = l := rfl
theorem lowTo_len (l : List UInt8) (k : Nat) : (lowTo l k).length = l.length := by
  unfold lowTo
  rw [List.length_append, lowL_len, ← List.length_append, List.take_append_drop]
theorem lowTo_all (l : List UInt8) : lowTo l l.length = lowL l := by
  unfold lowTo
  simp
theorem lowTo_at (l : List UInt8) (k : Nat) : (lowTo l k)[k]? = l[k]? := by
  unfold lowTo
  by_cases h : k ≤ l.length
  · have e : (lowL (l.take k)).length = k := by rw [lowL_len, List.length_take]; omega
    rw [List.getElem?_append_right (by omega), e, Nat.sub_self, List.getElem?_drop]
    rfl
  · rw [List.getElem?_eq_none (by rw [List.length_append, lowL_len, List.length_take, List.length_drop]; omega), List.getElem?_eq_none (by omega)]
theorem lowTo_succ (l : List UInt8) (k : Nat) (c : UInt8) (hc : l[k]? = some c) : lowTo l (k + 1) = (lowTo l k).set k (lowB c) := by
  have hk : k < l.length := (List.getElem?_eq_some_iff.1 hc).1
  have e : (lowL (l.take k)).length = k := by rw [lowL_len, List.length_take]; omega
  unfold lowTo
  rw [List.set_append_right _ _ (by omega), e, Nat.sub_self]
  have ht : l.take (k + 1) = l.take k ++ [c] := by rw [List.take_add_one, hc]; rfl
  have hd : l.drop k = c :: l.drop (k + 1) := by
    rw [← List.getElem_cons_drop hk]
    rw [List.getElem?_eq_getElem hk] at hc
    cases hc
    rfl
  rw [ht, hd]
  unfold lowL
  simp
theorem lowTo_same (l : List UInt8) (k : Nat) (c : UInt8) (hc : l[k]? = some c) (h : lowB c = c) : lowTo l (k + 1) = lowTo l k := by
  rw [lowTo_succ l k c hc, h]
  have := lowTo_at l k
  rw [hc] at this
  obtain ⟨h1, h2⟩ := List.getElem?_eq_some_iff.1 this
  rw [← h2]
  exact List.set_getElem_self h1
theorem byte_at (s : ByteArray) (k : Nat) (h : k < s.size) : s.data.toList[k]? = some s[k] := by
  rw [List.getElem?_eq_getElem (by rw [← Lib.size_eq]; exact h)]
  rfl

set_option maxHeartbeats 800000 in
set_option maxRecDepth 100000 in
theorem lower_any (s : ByteArray) (w : World) (hs : s.size ≤ 4194304) : Calls Tryz.prog 100 #[.string s] w fun e w' =>
    e = .returned (.string (Tx.bs (lowL s.data.toList))) ∧ Below w.heap.size w w' := by
  obtain ⟨cap, w1, hconv, hrow⟩ := conv_bytes s w
  go_enter Tryz.func100, Tryz.ntmps100
  go_wp2
  go_loopw [10] (fun i wr => ∃ k : Nat, k ≤ s.size ∧ i = .int .i64 k ∧ Row8 w.heap.size (lowTo s.data.toList k) w wr)
    (fun i _ => s.size - (intOf i).toNat)
  case atStart => exact ⟨0, Nat.zero_le _, rfl, hrow⟩
  case round =>
    clear hconv hrow
    obtain ⟨k, hk, rfl, hr⟩ := hrel
    by_cases hlt : k < s.size
    · have hb := byte_at s k hlt
      have hcell : wr.cell? ⟨w.heap.size, k, none⟩ = some (.int .u8 (s[k].toNat : Int)) := hr.1 k _ ((lowTo_at _ k).trans hb)
      have hfro : wr.frozen? ⟨w.heap.size, k, none⟩ = false := hr.2.1 k (by rw [lowTo_len, ← Lib.size_eq]; exact hlt)
      by_cases hc : 65 ≤ s[k].toNat ∧ s[k].toNat ≤ 90
      · have E : Hid (Row8 w.heap.size (lowTo s.data.toList (k + 1)) w (wr.setCell ⟨w.heap.size, k, none⟩ (.int .u8 ((s[k].toNat : Int) - 65 + 97)))) := by
          have := row8_set hr k (lowB s[k]) (by rw [lowTo_len, ← Lib.size_eq]; exact hlt)
          rw [← lowTo_succ _ k _ hb, lowB_yes _ hc] at this
          exact this
        obtain ⟨hc1, hc2⟩ := hc
        clear hb
        go_wp2
        go_roundw
        case rel => exact ⟨k + 1, by omega, by go_num, E.out⟩
        case measure => simp [intOf]; omega
      · have E : Hid (lowTo s.data.toList (k + 1) = lowTo s.data.toList k) := lowTo_same _ k _ hb (lowB_no _ hc)
        clear hb
        go_wp2
        all_goals
          go_roundw
          case rel => exact ⟨k + 1, by omega, by go_num, by rw [E.out]; exact hr⟩
          case measure => simp [intOf]; omega
    · obtain rfl : k = s.size := by omega
      have hl : lowTo s.data.toList s.size = lowL s.data.toList := by
        have := lowTo_all s.data.toList
        rw [← Lib.size_eq] at this
        exact this
      rw [hl] at hr
      have hz : (lowL s.data.toList).length = s.size := by rw [lowL_len, ← Lib.size_eq]
      have hback := run_convert_bytes_back (P := Tryz.prog) wr 106 9 5 ⟨w.heap.size, 0, none⟩ cap (lowL s.data.toList) Tryz.underlying106 Tryz.underlying5 Tryz.underlying9 (fun j hj => by
        have ha : (⟨w.heap.size, 0, none⟩ : Addr).add j = ⟨w.heap.size, j, none⟩ := by unfold Addr.add; split <;> simp_all
        rw [ha]
        exact hr.1 j _ (List.getElem?_eq_getElem hj))
      rw [hz] at hback
      clear hl hz
      go_wp2
      go_ret
      exact ⟨rfl, hr.2.2.1⟩

end Go.Proofs.YtcinjbolflhjmadGreatDoor.Wd

/-
  THE LIBRARY's CONTRACT of strings.Join, laid at this program's own numbers (by program, out of the kit's shelf).
-/
namespace Go.Proofs
open Go.Shelf
def Tryz.lays156_ren : Go.Shelf.Ren := ⟨fun | 156 => 80 | 165 => 105 | 166 => 106 | 169 => 107 | 240 => 128 | 241 => 129 | 276 => 150 | 277 => 151 | n => n, fun | 31 => 35 | 9 => 9 | 3 => 3 | 4 => 4 | 0 => 0 | 20 => 20 | 72 => 122 | 76 => 125 | 70 => 120 | 37 => 106 | 75 => 124 | 127 => 139 | 164 => 157 | 5 => 5 | 80 => 127 | n => n, fun | n => n⟩
theorem Tryz.lays156 : Go.Proofs.Lays.n156 Tryz.prog Tryz.lays156_ren := {
  mixed := by kernel_rfl
  f156 := Tryz.func80.trans (congrArg some (by kernel_rfl))
  f165 := Tryz.func105.trans (congrArg some (by kernel_rfl))
  f166 := Tryz.func106.trans (congrArg some (by kernel_rfl))
  f169 := Tryz.func107.trans (congrArg some (by kernel_rfl))
  f240 := Tryz.func128.trans (congrArg some (by kernel_rfl))
  f241 := Tryz.func129.trans (congrArg some (by kernel_rfl))
  f276 := Tryz.func150.trans (congrArg some (by kernel_rfl))
  f277 := Tryz.func151.trans (congrArg some (by kernel_rfl))
  t0 := Tryz.underlying0
  a0 := Tryz.isAgg0
  z0 := Tryz.sizeOf0
  v0 := Tryz.zeroValue0
  t3 := Tryz.underlying3
  a3 := Tryz.isAgg3
  z3 := Tryz.sizeOf3
  v3 := Tryz.zeroValue3
  t4 := Tryz.underlying4
  a4 := Tryz.isAgg4
  z4 := Tryz.sizeOf4
  v4 := Tryz.zeroValue4
  t9 := Tryz.underlying9
  a9 := Tryz.isAgg9
  z9 := Tryz.sizeOf9
  v9 := Tryz.zeroValue9
  t20 := Tryz.underlying20
  a20 := Tryz.isAgg20
  z20 := Tryz.sizeOf20
  v20 := Tryz.zeroValue20
  t31 := Tryz.underlying35
  a31 := Tryz.isAgg35
  z31 := Tryz.sizeOf35
  v31 := Tryz.zeroValue35
  t37 := Tryz.underlying106
  a37 := Tryz.isAgg106
  z37 := Tryz.sizeOf106
  v37 := Tryz.zeroValue106
  t70 := Tryz.underlying120
  a70 := Tryz.isAgg120
  z70 := Tryz.sizeOf120
  v70 := Tryz.zeroValue120
  t72 := Tryz.underlying122
  a72 := Tryz.isAgg122
  z72 := Tryz.sizeOf122
  v72 := Tryz.zeroValue122
  t75 := Tryz.underlying124
  a75 := Tryz.isAgg124
  z75 := Tryz.sizeOf124
  v75 := Tryz.zeroValue124
  t76 := Tryz.underlying125
  a76 := Tryz.isAgg125
  z76 := Tryz.sizeOf125
  v76 := Tryz.zeroValue125
  t127 := Tryz.underlying139
  a127 := Tryz.isAgg139
  z127 := Tryz.sizeOf139
  v127 := Tryz.zeroValue139
  t164 := Tryz.underlying157
  a164 := Tryz.isAgg157
  z164 := Tryz.sizeOf157
  v164 := Tryz.zeroValue157 }
theorem Tryz.Builder_Extra_156 : Builder.Extra Tryz.prog Tryz.lays156_ren := {
  sizeBuilder := by kernel_rfl
  liesBuilder := by kernel_rfl
  t5 := Tryz.underlying5
  a5 := Tryz.isAgg5
  z5 := Tryz.sizeOf5
  v5 := Tryz.zeroValue5
  infoByte := by kernel_rfl
  cellsByte := by kernel_rfl
  sizeByte := by kernel_rfl
  neB5 := by decide }
open Go.RowKit in
theorem Tryz.strings_Join_none (a : Option Addr) (c : Nat) (sep : ByteArray) (w : World) :
    Calls Tryz.prog 80 #[.slice a 0 c, .string sep] w fun e w' => e = .returned (.string ⟨#[]⟩) ∧ w' = w := Any.strings_Join_none Tryz.lays156 Tryz.Builder_Extra_156 a c sep w
open Go.RowKit in
theorem Tryz.strings_Join (bk o c : Nat) (xs : List ByteArray) (sep : ByteArray) (w : World) (hcells : ∀ (j : Nat) x, xs[j]? = some x → w.cell? ⟨bk, o + j, none⟩ = some (.string x)) (hbk : bk < w.heap.size) (hN : xs.length ≤ 140737488355328) (hcap : xs.length ≤ c) (hlen : (Lib.join (xs.map (·.data.toList)) sep.data.toList).length ≤ 140737488355328) :
    Calls Tryz.prog 80 #[.slice (some ⟨bk, o, none⟩) xs.length c, .string sep] w fun e w' => e = .returned (.string ⟨(Lib.join (xs.map (·.data.toList)) sep.data.toList).toArray⟩) ∧ Below w.heap.size w w' := Any.strings_Join Tryz.lays156 Tryz.Builder_Extra_156 bk o c xs sep w hcells hbk hN hcap hlen
end Go.Proofs

/-
  THE WALKS of words.Squeeze, digit, letter, Num and Name.
-/
namespace Go.Proofs.YtcinjbolflhjmadGreatDoor.Wd
open Go.RowKit

/-- a slice that lies at the head of block g, of room c, holds these tokens -/
def Words (B : Nat) (ts : List (List UInt8)) (g c : Nat) (w : World) : Prop :=
  B ≤ g ∧ g < w.heap.size ∧ ts.length ≤ c ∧ ∀ j t, ts[j]? = some t → w.cell? ⟨g, j, none⟩ = some (tv t)

theorem words_of {w : World} {B : Nat} {v : Value} {ts : List (List UInt8)} (h : w.ownsRow B 9 1 v ts.length (ts.map tv)) (hne : ts ≠ []) :
    ∃ g c, v = .slice (some ⟨g, 0, none⟩) ts.length c ∧ Words B ts g c w := by
  have hpos : 0 < ts.length := List.length_pos_iff.2 hne
  rcases h.2 with ⟨_, hn⟩ | ⟨g, cap, cur, rfl, hb, hg, hc, _⟩
  · omega
  · refine ⟨g, cap, rfl, hb, (Array.getElem?_eq_some_iff.1 hg).1, hc, ?_⟩
    intro j t hj
    have hjl : j < ts.length := (List.getElem?_eq_some_iff.1 hj).1
    rw [h.cellAt j (by omega), List.getElem?_map, hj]
    rfl

theorem words_below {B g c : Nat} {ts : List (List UInt8)} {w w' : World} (h : Words B ts g c w) (hb : Below w.heap.size w w') : Words B ts g c w' :=
  ⟨h.1, Nat.lt_of_lt_of_le h.2.1 hb.size, h.2.2.1, fun j t hj => (hb.cell (p := ⟨g, j, none⟩) h.2.1).trans (h.2.2.2 j t hj)⟩

theorem tokens_some_big (s : ByteArray) (w : World) (hs : s.size ≤ 1073741824) (hne : toksOf s ≠ []) : Calls Tryz.prog 81 #[.string s] w fun e w' =>
    ∃ g c, e = .returned (.slice (some ⟨g, 0, none⟩) (toksOf s).length c) ∧ Words w.heap.size (toksOf s) g c w' ∧ Below w.heap.size w w' := by
  refine (tokens_big s w hs).mono ?_
  rintro e w' ⟨v, rfl, hown, hbel, _⟩
  obtain ⟨g, c, rfl, hW⟩ := words_of hown hne
  exact ⟨g, c, rfl, hW, hbel⟩

theorem tokens_none_big (s : ByteArray) (w : World) (hs : s.size ≤ 1073741824) (hne : toksOf s = []) : Calls Tryz.prog 81 #[.string s] w fun e w' =>
    e = .returned (.slice none 0 0) ∧ Below w.heap.size w w' := by
  refine (tokens_big s w hs).mono ?_
  rintro e w' ⟨v, rfl, _, hbel, hnil⟩
  rw [hnil hne]
  exact ⟨rfl, hbel⟩

theorem join_words (ts : List (List UInt8)) (B g c : Nat) (w : World) (h : Words B ts g c w) (hN : ts.length ≤ 1073741824) (hlen : (Tx.joined ts).length ≤ 1073741824) :
    Calls Tryz.prog 80 #[.slice (some ⟨g, 0, none⟩) ts.length c, .string ⟨#[32]⟩] w fun e w' => e = .returned (.string (Tx.bs (Tx.joined ts))) ∧ Below w.heap.size w w' := by
  have hm : (ts.map Tx.bs).map (·.data.toList) = ts := by
    rw [List.map_map]
    conv => rhs; rw [← List.map_id ts]
    apply List.map_congr_left
    intro t _
    rfl
  have e : (Lib.join ((ts.map Tx.bs).map (·.data.toList)) (⟨#[32]⟩ : ByteArray).data.toList) = Tx.joined ts := by rw [hm]; rfl
  have h1 := Tryz.strings_Join g 0 c (ts.map Tx.bs) ⟨#[32]⟩ w (fun j x hx => by
    rw [List.getElem?_map] at hx
    cases ht : ts[j]? with
    | none => rw [ht] at hx; cases hx
    | some t =>
      rw [ht] at hx
      cases hx
      rw [Nat.zero_add]
      exact h.2.2.2 j t ht) h.2.1 (by rw [List.length_map]; omega) (by rw [List.length_map]; exact h.2.2.1) (by rw [e]; omega)
  rw [e, List.length_map] at h1
  exact h1

def sqz (s : ByteArray) : ByteArray := Tx.bs (Tx.squeeze s.data.toList)

theorem toksOf_len (s : ByteArray) : (toksOf s).length ≤ s.size := by
  rw [Lib.size_eq]
  exact Tx.toks_len _
theorem joined_len (s : ByteArray) : (Tx.joined (toksOf s)).length ≤ s.size := by
  rw [Lib.size_eq]
  exact Tx.squeeze_len _

set_option maxHeartbeats 400000 in
theorem squeeze_big (s : ByteArray) (w : World) (hs : s.size ≤ 1073741824) : Calls Tryz.prog 52 #[.string s] w fun e w' =>
    e = .returned (.string (sqz s)) ∧ Below w.heap.size w w' := by
  have h1 := toksOf_len s
  have h2 := joined_len s
  by_cases hne : toksOf s = []
  · have e : sqz s = ⟨#[]⟩ := by
      unfold sqz Tx.squeeze
      have : Tx.toks s.data.toList = [] := hne
      rw [this]
      rfl
    rw [e]
    go_enter Tryz.func52, Tryz.ntmps52
    go_wp2_with fail
    refine (tokens_none_big s _ hs hne).mono ?_
    rintro e w1 ⟨rfl, hb1⟩
    go_wp2_with fail
    refine (Tryz.strings_Join_none none 0 _ _).mono ?_
    rintro e w2 ⟨rfl, rfl⟩
    go_wp2
    go_ret
    exact ⟨rfl, hb1⟩
  · go_enter Tryz.func52, Tryz.ntmps52
    go_wp2_with fail
    refine (tokens_some_big s _ hs hne).mono ?_
    rintro e w1 ⟨g, c, rfl, hW, hb1⟩
    go_wp2_with fail
    refine (join_words (toksOf s) w.heap.size g c w1 hW (by omega) (by omega)).mono ?_
    rintro e w2 ⟨rfl, hb2⟩
    go_wp2
    go_ret
    exact ⟨rfl, hb1.trans (hb2.mono hb1.size)⟩
theorem squeeze_any (s : ByteArray) (w : World) (hs : s.size ≤ 4194304) : Calls Tryz.prog 52 #[.string s] w fun e w' =>
    e = .returned (.string (sqz s)) ∧ Below w.heap.size w w' := squeeze_big s w (Nat.le_trans hs (by decide))
theorem tokens_some (s : ByteArray) (w : World) (hs : s.size ≤ 4194304) (hne : toksOf s ≠ []) : Calls Tryz.prog 81 #[.string s] w fun e w' =>
    ∃ g c, e = .returned (.slice (some ⟨g, 0, none⟩) (toksOf s).length c) ∧ Words w.heap.size (toksOf s) g c w' ∧ Below w.heap.size w w' := tokens_some_big s w (Nat.le_trans hs (by decide)) hne
theorem tokens_none (s : ByteArray) (w : World) (hs : s.size ≤ 4194304) (hne : toksOf s = []) : Calls Tryz.prog 81 #[.string s] w fun e w' =>
    e = .returned (.slice none 0 0) ∧ Below w.heap.size w w' := tokens_none_big s w (Nat.le_trans hs (by decide)) hne

end Go.Proofs.YtcinjbolflhjmadGreatDoor.Wd

/-
  THE WALKS of the reference's Join, Squeeze and Lower.
-/
namespace Go.Proofs.YtcinjbolflhjmadGreatDoor.Wd
open Go.RowKit

theorem rtokens_some_big (s : ByteArray) (w : World) (hs : s.size ≤ 1073741824) (hne : toksOf s ≠ []) : Calls Tryz.prog 21 #[.string s] w fun e w' =>
    ∃ g c, e = .returned (.slice (some ⟨g, 0, none⟩) (toksOf s).length c) ∧ Words w.heap.size (toksOf s) g c w' ∧ Below w.heap.size w w' := by
  refine (rtokens_big s w hs).mono ?_
  rintro e w' ⟨v, rfl, hown, hbel, _⟩
  obtain ⟨g, c, rfl, hW⟩ := words_of hown hne
  exact ⟨g, c, rfl, hW, hbel⟩
theorem rtokens_none_big (s : ByteArray) (w : World) (hs : s.size ≤ 1073741824) (hne : toksOf s = []) : Calls Tryz.prog 21 #[.string s] w fun e w' =>
    e = .returned (.slice none 0 0) ∧ Below w.heap.size w w' := by
  refine (rtokens_big s w hs).mono ?_
  rintro e w' ⟨v, rfl, _, hbel, hnil⟩
  rw [hnil hne]
  exact ⟨rfl, hbel⟩

theorem joined_take (ts : List (List UInt8)) (k : Nat) : (Tx.joined (ts.take k)).length ≤ (Tx.joined ts).length := by
  induction ts generalizing k with
  | nil => simp
  | cons t r ih =>
    cases k with
    | zero => simp [Tx.joined_nil]
    | succ k =>
      cases r with
      | nil => simp
      | cons u r =>
        cases k with
        | zero =>
          show (Tx.joined [t]).length ≤ _
          rw [Tx.joined_one, Tx.joined_cons]
          simp
        | succ j =>
          have h := ih (j + 1)
          have e : (t :: u :: r).take (j + 1 + 1) = t :: u :: r.take j := rfl
          have e2 : (u :: r).take (j + 1) = u :: r.take j := rfl
          rw [e2] at h
          rw [e, Tx.joined_cons, Tx.joined_cons]
          simp
          exact h

theorem words_snoc (ts : List (List UInt8)) (k : Nat) (t : List UInt8) (hc : ts[k]? = some t) : ts.take (k + 1) = ts.take k ++ [t] := by
  rw [List.take_add_one, hc]
  rfl
theorem join_first (ts : List (List UInt8)) (t : List UInt8) (hc : ts[0]? = some t) : Tx.bs (Tx.joined (ts.take 0)) ++ Tx.bs t = Tx.bs (Tx.joined (ts.take 1)) := by
  rw [words_snoc ts 0 t hc, Tx.joined_snoc]
  apply ByteArray.ext
  rw [ByteArray.data_append]
  simp [Tx.bs, Tx.joined_nil]
theorem join_next (ts : List (List UInt8)) (k : Nat) (t : List UInt8) (hk : 0 < k) (hc : ts[k]? = some t) : Tx.bs (Tx.joined (ts.take k)) ++ ⟨#[32]⟩ ++ Tx.bs t = Tx.bs (Tx.joined (ts.take (k + 1))) := by
  have hl : k < ts.length := (List.getElem?_eq_some_iff.1 hc).1
  have he : (ts.take k).isEmpty = false := by
    cases ts with
    | nil => simp at hl
    | cons x r =>
      cases k with
      | zero => omega
      | succ k => rfl
  rw [words_snoc ts k t hc, Tx.joined_snoc, he]
  apply ByteArray.ext
  rw [ByteArray.data_append, ByteArray.data_append]
  simp [Tx.bs]
theorem join_room (ts : List (List UInt8)) (k : Nat) (t : List UInt8) (hc : ts[k]? = some t) : (Tx.bs (Tx.joined (ts.take k))).size + (Tx.bs t).size ≤ (Tx.joined ts).length := by
  have h := joined_take ts (k + 1)
  rw [words_snoc ts k t hc, Tx.joined_snoc] at h
  show (Tx.joined (ts.take k)).length + t.length ≤ _
  cases he : (ts.take k).isEmpty with
  | true =>
    rw [he] at h
    have : ts.take k = [] := List.isEmpty_iff.1 he
    rw [this, Tx.joined_nil]
    simp at h ⊢
    exact h
  | false =>
    rw [he] at h
    simp at h
    omega

set_option maxHeartbeats 800000 in
set_option maxRecDepth 100000 in
theorem rjoin_words (ts : List (List UInt8)) (B g c : Nat) (w : World) (h : Words B ts g c w) (hN : ts.length ≤ 1073741824) (hlen : (Tx.joined ts).length ≤ 1073741824) :
    Calls Tryz.prog 39 #[.slice (some ⟨g, 0, none⟩) ts.length c] w fun e w' => e = .returned (.string (Tx.bs (Tx.joined ts))) ∧ w' = w := by
  have HW : Hid (Words B ts g c w) := h
  clear h
  go_enter Tryz.func39, Tryz.ntmps39
  go_wp2
  go_loop [3, 8] (fun st i => ∃ k : Nat, k ≤ ts.length ∧ i = .int .i64 k ∧ st = .string (Tx.bs (Tx.joined (ts.take k)))) (fun _ i => ts.length - (intOf i).toNat)
  case atStart => exact ⟨0, Nat.zero_le _, rfl, rfl⟩
  case round =>
    obtain ⟨k, hk, rfl, rfl⟩ := hrel
    by_cases hlt : k < ts.length
    · obtain ⟨t, ht⟩ : ∃ t, ts[k]? = some t := ⟨_, List.getElem?_eq_getElem hlt⟩
      have hcell : w.cell? ⟨g, k, none⟩ = some (.string (Tx.bs t)) := HW.out.2.2.2 k t ht
      have hroom := join_room ts k t ht
      cases k with
      | zero =>
        have E : Hid (Tx.bs (Tx.joined []) ++ Tx.bs t = Tx.bs (Tx.joined (ts.take 1))) := join_first ts t ht
        have hroom0 : (Tx.bs (Tx.joined [])).size + (Tx.bs t).size ≤ (Tx.joined ts).length := hroom
        clear ht hroom
        go_wp2
        go_round
        case rel => exact ⟨1, by omega, rfl, by rw [E.out]⟩
        case measure => simp [intOf]; omega
      | succ k =>
        have E : Hid (Tx.bs (Tx.joined (ts.take (k + 1))) ++ ⟨#[32]⟩ ++ Tx.bs t = Tx.bs (Tx.joined (ts.take (k + 1 + 1)))) := join_next ts (k + 1) t (by omega) ht
        clear ht
        go_wp2
        go_round
        case rel => exact ⟨k + 1 + 1, by omega, by go_num, by rw [E.out]⟩
        case measure => simp [intOf]; omega
    · obtain rfl : k = ts.length := by omega
      go_wp2
      go_ret
      exact ⟨rfl, rfl⟩

set_option maxHeartbeats 400000 in
theorem rjoin_none (w : World) :
    Calls Tryz.prog 39 #[.slice none 0 0] w fun e w' => e = .returned (.string ⟨#[]⟩) ∧ w' = w := by
  go_enter Tryz.func39, Tryz.ntmps39
  go_wp2
  refine wp_loop_rounds 1 ?_
  rw [rounds_succ]
  go_wp2
  go_ret
  exact ⟨rfl, rfl⟩

set_option maxHeartbeats 400000 in
theorem rsqueeze_big (s : ByteArray) (w : World) (hs : s.size ≤ 1073741824) : Calls Tryz.prog 14 #[.string s] w fun e w' =>
    e = .returned (.string (sqz s)) ∧ Below w.heap.size w w' := by
  have h1 := toksOf_len s
  have h2 := joined_len s
  by_cases hne : toksOf s = []
  · have e : sqz s = ⟨#[]⟩ := by
      unfold sqz Tx.squeeze
      have : Tx.toks s.data.toList = [] := hne
      rw [this]
      rfl
    rw [e]
    go_enter Tryz.func14, Tryz.ntmps14
    go_wp2_with fail
    refine (rtokens_none_big s _ hs hne).mono ?_
    rintro e w1 ⟨rfl, hb1⟩
    go_wp2_with fail
    refine (rjoin_none _).mono ?_
    rintro e w2 ⟨rfl, rfl⟩
    go_wp2
    go_ret
    exact ⟨rfl, hb1⟩
  · go_enter Tryz.func14, Tryz.ntmps14
    go_wp2_with fail
    refine (rtokens_some_big s _ hs hne).mono ?_
    rintro e w1 ⟨g, c, rfl, hW, hb1⟩
    go_wp2_with fail
    refine (rjoin_words (toksOf s) w.heap.size g c w1 hW (by omega) (by omega)).mono ?_
    rintro e w2 ⟨rfl, hw2⟩
    subst hw2
    go_wp2
    go_ret
    exact ⟨rfl, hb1⟩
theorem rsqueeze_any (s : ByteArray) (w : World) (hs : s.size ≤ 4194304) : Calls Tryz.prog 14 #[.string s] w fun e w' =>
    e = .returned (.string (sqz s)) ∧ Below w.heap.size w w' := rsqueeze_big s w (Nat.le_trans hs (by decide))
theorem rtokens_some (s : ByteArray) (w : World) (hs : s.size ≤ 4194304) (hne : toksOf s ≠ []) : Calls Tryz.prog 21 #[.string s] w fun e w' =>
    ∃ g c, e = .returned (.slice (some ⟨g, 0, none⟩) (toksOf s).length c) ∧ Words w.heap.size (toksOf s) g c w' ∧ Below w.heap.size w w' := rtokens_some_big s w (Nat.le_trans hs (by decide)) hne
theorem rtokens_none (s : ByteArray) (w : World) (hs : s.size ≤ 4194304) (hne : toksOf s = []) : Calls Tryz.prog 21 #[.string s] w fun e w' =>
    e = .returned (.slice none 0 0) ∧ Below w.heap.size w w' := rtokens_none_big s w (Nat.le_trans hs (by decide)) hne

theorem low_next (s : ByteArray) (k : Nat) (h : k < s.size) : Tx.bs (lowL (s.data.toList.take k)) ++ ⟨#[lowB s[k]]⟩ = Tx.bs (lowL (s.data.toList.take (k + 1))) := by
  rw [take_snoc s k h]
  apply ByteArray.ext
  rw [ByteArray.data_append]
  unfold lowL Tx.bs
  simp
theorem low_room (s : ByteArray) (k : Nat) (h : k ≤ s.size) : (Tx.bs (lowL (s.data.toList.take k))).size = k := by
  show (lowL (s.data.toList.take k)).length = k
  rw [lowL_len, take_len s k h]
theorem one_byte (w : World) (x : Int) (d : UInt8) (hx : (d.toNat : Int) = x) :
    (convert 106 9 (.slice (some ⟨w.heap.size, 0, none⟩) 1 1)).run Tryz.prog (w.alloc (.cells #[.int .u8 x] 5)) = .ok (.string ⟨#[d]⟩) (w.alloc (.cells #[.int .u8 x] 5)) :=
  run_convert_bytes_back (P := Tryz.prog) (w.alloc (.cells #[.int .u8 x] 5)) 106 9 5 ⟨w.heap.size, 0, none⟩ 1 [d] Tryz.underlying106 Tryz.underlying5 Tryz.underlying9 (fun j hj => by
    obtain rfl : j = 0 := by simp at hj; exact hj
    have h := cell_one_new w (.int .u8 x) 5 0 (.int .u8 x) rfl
    rw [h]
    show _ = some (Value.int .u8 (d.toNat : Int))
    rw [hx])

set_option maxHeartbeats 800000 in
set_option maxRecDepth 100000 in
theorem rlower_any (s : ByteArray) (w : World) (hs : s.size ≤ 4194304) : Calls Tryz.prog 40 #[.string s] w fun e w' =>
    e = .returned (.string (Tx.bs (lowL s.data.toList))) ∧ Below w.heap.size w w' := by
  go_enter Tryz.func40, Tryz.ntmps40
  go_wp2
  go_loopw [3, 8] (fun st i wr => ∃ k : Nat, k ≤ s.size ∧ i = .int .i64 k ∧ st = .string (Tx.bs (lowL (s.data.toList.take k))) ∧ Below w.heap.size w wr)
    (fun _ i _ => s.size - (intOf i).toNat)
  case atStart => exact ⟨0, Nat.zero_le _, rfl, rfl, Below.refl _ _⟩
  case round =>
    obtain ⟨k, hk, rfl, rfl, hnx⟩ := hrel
    have hroom : (Tx.bs (lowL (s.data.toList.take k))).size ≤ 4194304 := by rw [low_room s k hk]; omega
    have hsz := hnx.size
    by_cases hlt : k < s.size
    · have E : Hid (Tx.bs (lowL (s.data.toList.take k)) ++ ⟨#[lowB s[k]]⟩ = Tx.bs (lowL (s.data.toList.take (k + 1)))) := low_next s k hlt
      by_cases hc : 65 ≤ s[k].toNat ∧ s[k].toNat ≤ 90
      · have hcv := one_byte wr ((s[k].toNat : Int) - 65 + 97) (lowB s[k]) (lowB_yes _ hc)
        obtain ⟨hc1, hc2⟩ := hc
        go_wp2
        go_roundw
        case rel => exact ⟨k + 1, by omega, by go_num, by rw [E.out], hnx.alloc hsz _⟩
        case measure => simp [intOf]; omega
      · have hcv := one_byte wr (s[k].toNat : Int) (lowB s[k]) (by rw [lowB_no _ hc])
        go_wp2
        all_goals
          go_roundw
          case rel => exact ⟨k + 1, by omega, by go_num, by rw [E.out], hnx.alloc hsz _⟩
          case measure => simp [intOf]; omega
    · obtain rfl : k = s.size := by omega
      have E : Hid (s.data.toList.take s.size = s.data.toList) := take_all s
      go_wp2
      go_ret
      exact ⟨congrArg (fun l => Ending.returned (.string (Tx.bs (lowL l)))) E.out, hnx⟩

end Go.Proofs.YtcinjbolflhjmadGreatDoor.Wd

/-
  WHAT ROLES ARE, AS A TABLE; the package's own table holds it, cell for cell.
-/
namespace Go.Proofs.YtcinjbolflhjmadGreatDoor.Kn
open Go.RowKit

structure Kd where
  name : List UInt8
  content : Bool
  leaf : Bool
  level : Bool
  checked : Bool
  named : Bool
  need : Nat

def kl : List Kd := [
  ⟨[], false, false, false, false, false, 0⟩,
  ⟨[103, 114, 111, 117, 112], false, false, false, false, true, 0⟩,
  ⟨[109, 97, 105, 110], false, false, false, false, true, 0⟩,
  ⟨[110, 97, 118, 105, 103, 97, 116, 105, 111, 110], false, false, false, false, true, 0⟩,
  ⟨[104, 101, 97, 100, 105, 110, 103], true, false, true, false, true, 0⟩,
  ⟨[108, 105, 115, 116], false, false, false, false, true, 0⟩,
  ⟨[108, 105, 115, 116, 105, 116, 101, 109], false, false, true, false, false, 5⟩,
  ⟨[108, 105, 110, 107], true, false, false, false, true, 0⟩,
  ⟨[98, 117, 116, 116, 111, 110], true, true, false, false, true, 0⟩,
  ⟨[99, 104, 101, 99, 107, 98, 111, 120], true, true, false, true, true, 0⟩,
  ⟨[116, 101, 120, 116], false, true, false, false, false, 0⟩,
  ⟨[105, 109, 103], false, true, false, false, true, 0⟩,
  ⟨[116, 101, 120, 116, 98, 111, 120], false, true, false, false, true, 0⟩,
  ⟨[116, 97, 98, 108, 101], false, false, false, false, true, 0⟩,
  ⟨[114, 111, 119], true, false, false, false, true, 13⟩,
  ⟨[99, 101, 108, 108], true, false, false, false, true, 14⟩,
  ⟨[114, 101, 103, 105, 111, 110], false, false, false, false, true, 0⟩,
  ⟨[100, 105, 97, 108, 111, 103], false, false, false, false, true, 0⟩,
  ⟨[103, 101, 110, 101, 114, 105, 99], false, false, false, false, false, 0⟩]
def k0 : Kd := ⟨[], false, false, false, false, false, 0⟩
def kt (i : Nat) : Kd := kl.getD i k0
def kval (k : Kd) : Value := .agg #[.string ⟨k.name.toArray⟩, .bool k.content, .bool k.leaf, .bool k.level, .bool k.checked, .bool k.named, .int .i64 (k.need : Int)]
def kd {H : Type} (k : Kd) : DataW H := .agg [.lit (.string k.name), .lit (.bool k.content), .lit (.bool k.leaf), .lit (.bool k.level), .lit (.bool k.checked), .lit (.bool k.named), .lit (.int .i64 (k.need : Int))]

structure RowAt (w : World) (i : Nat) : Prop where
  c0 : w.cell? ⟨0, i * 7, none⟩ = some (.string ⟨(kt i).name.toArray⟩)
  c1 : w.cell? ⟨0, i * 7 + 1, none⟩ = some (.bool (kt i).content)
  c2 : w.cell? ⟨0, i * 7 + 2, none⟩ = some (.bool (kt i).leaf)
  c3 : w.cell? ⟨0, i * 7 + 3, none⟩ = some (.bool (kt i).level)
  c4 : w.cell? ⟨0, i * 7 + 4, none⟩ = some (.bool (kt i).checked)
  c5 : w.cell? ⟨0, i * 7 + 5, none⟩ = some (.bool (kt i).named)
  c6 : w.cell? ⟨0, i * 7 + 6, none⟩ = some (.int .i64 ((kt i).need : Int))
def TabAt (w : World) : Prop := 0 < w.heap.size ∧ ∀ i, i < 19 → RowAt w i

theorem TabAt.below {w w' : World} (h : TabAt w) (hb : Below w.heap.size w w') : TabAt w' :=
  ⟨Nat.lt_of_lt_of_le h.1 hb.size, fun i hi => by
    have r := h.2 i hi
    have c : ∀ o, w'.cell? ⟨0, o, none⟩ = w.cell? ⟨0, o, none⟩ := fun o => hb.cell (by exact h.1)
    exact ⟨by rw [c]; exact r.c0, by rw [c]; exact r.c1, by rw [c]; exact r.c2, by rw [c]; exact r.c3, by rw [c]; exact r.c4, by rw [c]; exact r.c5, by rw [c]; exact r.c6⟩⟩

theorem gTab : Tryz.prog.globalNamed "townreader/kinds.byRole" = some 0 := by kernel_rfl
theorem gTabType : (Tryz.prog.globals[0]?).map (·.type) = some 83 := by kernel_rfl
theorem cellsK : Tryz.prog.cellsOf 45 = 7 := by kernel_rfl
theorem cellsKA : Tryz.prog.cellsOf 83 = 133 := by kernel_rfl
theorem cellsS : Tryz.prog.cellsOf 9 = 1 := by kernel_rfl
theorem cellsB : Tryz.prog.cellsOf 4 = 1 := by kernel_rfl
theorem cellsI : Tryz.prog.cellsOf 3 = 1 := by kernel_rfl
theorem laid_eq {H : Type} : (Rows.laid_townreader_kinds_byRole : DataW H) = .agg ((List.range 19).map fun i => kd (kt i)) := rfl

set_option maxRecDepth 100000 in
theorem tab_of_laid {W : World} (h : laidMetH Tryz.prog [("townreader/kinds.byRole", Rows.laid_townreader_kinds_byRole)] W) : TabAt W := by
  rw [MakeChecks.laidMetH_plain _ _ _ (by kernel_rfl)] at h
  obtain ⟨ps, ⟨g0, t0, cs0, f0, p0, q0, hg0, ht0, hv0, hd0, _⟩, _⟩ := h
  obtain rfl := Option.some.inj (gTab.symm.trans hg0)
  obtain rfl := Option.some.inj (gTabType.symm.trans ht0)
  obtain ⟨xs, m, rfl, hx, hlen, hn, hel⟩ := DataW.trod_array Tryz.underlying83 hd0
  rw [laid_eq] at hx
  have hx1 : ((List.range 19).map fun i => kd (kt i)) = xs.map (·.1) := by
    have := congrArg Prod.fst hx
    simpa using this
  have cell : ∀ i v, cs0.toList[i]? = some v → W.cell? ⟨0, i, none⟩ = some v := by
    intro i v hv
    have := World.var?_cell hg0 hv0 i
    rw [this]
    simpa using hv
  have rows : ∀ i, i < 19 → RowAt W i := by
    intro i hi
    have e1 := hel i hi
    rw [cellsK] at e1
    have hxi : i < xs.length := by omega
    rw [List.getElem?_eq_getElem hxi] at e1
    have e2 : (xs[i]).1 = kd (kt i) := by
      have := congrArg (fun l => l[i]?) hx1
      simp [hi, hxi] at this
      exact this.symm
    obtain ⟨ys, m', _, e3, l3, n3, hf⟩ := DataW.trod_struct Tryz.underlying45 e1
    rw [cellsK] at l3
    have e4 : [DataW.lit (.string (kt i).name), .lit (.bool (kt i).content), .lit (.bool (kt i).leaf), .lit (.bool (kt i).level), .lit (.bool (kt i).checked), .lit (.bool (kt i).named), .lit (.int .i64 ((kt i).need : Int))] = ys.map (·.1) := by
      rw [e3] at e2
      unfold kd at e2
      injection e2 with e2
      exact e2.symm
    have g0 : DataW.trod (fun x => ()) Tryz.prog W 0 (fun x => true) false m' 9 (List.take (Tryz.prog.cellsOf 9) (List.drop 0 (List.take 7 (List.drop (i * 7) cs0.toList)))) = ys[0]? := hf 0 _ rfl
    rw [cellsS] at g0
    have g1 : DataW.trod (fun x => ()) Tryz.prog W 0 (fun x => true) false m' 4 (List.take (Tryz.prog.cellsOf 4) (List.drop 1 (List.take 7 (List.drop (i * 7) cs0.toList)))) = ys[1]? := hf 1 _ rfl
    rw [cellsB] at g1
    have g2 : DataW.trod (fun x => ()) Tryz.prog W 0 (fun x => true) false m' 4 (List.take (Tryz.prog.cellsOf 4) (List.drop 2 (List.take 7 (List.drop (i * 7) cs0.toList)))) = ys[2]? := hf 2 _ rfl
    rw [cellsB] at g2
    have g3 : DataW.trod (fun x => ()) Tryz.prog W 0 (fun x => true) false m' 4 (List.take (Tryz.prog.cellsOf 4) (List.drop 3 (List.take 7 (List.drop (i * 7) cs0.toList)))) = ys[3]? := hf 3 _ rfl
    rw [cellsB] at g3
    have g4 : DataW.trod (fun x => ()) Tryz.prog W 0 (fun x => true) false m' 4 (List.take (Tryz.prog.cellsOf 4) (List.drop 4 (List.take 7 (List.drop (i * 7) cs0.toList)))) = ys[4]? := hf 4 _ rfl
    rw [cellsB] at g4
    have g5 : DataW.trod (fun x => ()) Tryz.prog W 0 (fun x => true) false m' 4 (List.take (Tryz.prog.cellsOf 4) (List.drop 5 (List.take 7 (List.drop (i * 7) cs0.toList)))) = ys[5]? := hf 5 _ rfl
    rw [cellsB] at g5
    have g6 : DataW.trod (fun x => ()) Tryz.prog W 0 (fun x => true) false m' 3 (List.take (Tryz.prog.cellsOf 3) (List.drop 6 (List.take 7 (List.drop (i * 7) cs0.toList)))) = ys[6]? := hf 6 _ rfl
    rw [cellsI] at g6
    have at7 : ∀ j, j < 7 → cs0.toList[i * 7 + j]? = (List.take 7 (List.drop (i * 7) cs0.toList))[j]? := by
      intro j hj
      rw [List.getElem?_take_of_lt hj, List.getElem?_drop]
    clear hx hx1 hel e1 hf e3 hd0
    generalize List.take 7 (List.drop (i * 7) cs0.toList) = L at *
    match L, l3, ys, n3 with
    | [c0, c1, c2, c3, c4, c5, c6], _, [y0, y1, y2, y3, y4, y5, y6], _ =>
      simp only [List.drop_zero, List.drop_succ_cons, List.take_succ_cons, List.take_zero, List.getElem?_cons_zero, List.getElem?_cons_succ] at g0 g1 g2 g3 g4 g5 g6
      simp only [List.map_cons, List.map_nil, List.cons.injEq, and_true] at e4
      obtain ⟨f0, f1, f2, f3, f4, f5, f6⟩ := e4
      obtain ⟨s, h1, h2, _⟩ := DataW.trod_string Tryz.underlying9 g0
      obtain ⟨b1, i1, j1⟩ := DataW.trod_bool Tryz.underlying4 g1
      obtain ⟨b2, i2, j2⟩ := DataW.trod_bool Tryz.underlying4 g2
      obtain ⟨b3, i3, j3⟩ := DataW.trod_bool Tryz.underlying4 g3
      obtain ⟨b4, i4, j4⟩ := DataW.trod_bool Tryz.underlying4 g4
      obtain ⟨b5, i5, j5⟩ := DataW.trod_bool Tryz.underlying4 g5
      obtain ⟨z6, i6, j6, _⟩ := DataW.trod_int Tryz.underlying3 g6
      subst h2 j1 j2 j3 j4 j5 j6
      simp only [List.cons.injEq, and_true] at h1 i1 i2 i3 i4 i5 i6
      subst h1 i1 i2 i3 i4 i5 i6
      simp only [DataW.lit.injEq, Lit.string.injEq, Lit.bool.injEq, Lit.int.injEq, true_and] at f0 f1 f2 f3 f4 f5 f6
      refine ⟨cell _ _ ?_, cell _ _ ?_, cell _ _ ?_, cell _ _ ?_, cell _ _ ?_, cell _ _ ?_, cell _ _ ?_⟩
      · have := at7 0 (by omega)
        rw [Nat.add_zero] at this
        rw [this, f0]
        simp
      · rw [at7 1 (by omega), f1]; rfl
      · rw [at7 2 (by omega), f2]; rfl
      · rw [at7 3 (by omega), f3]; rfl
      · rw [at7 4 (by omega), f4]; rfl
      · rw [at7 5 (by omega), f5]; rfl
      · rw [at7 6 (by omega), f6]; rfl
  refine ⟨?_, rows⟩
  have h0 := (rows 0 (by omega)).c0
  exact World.block_lt_of_cell? _ _ h0
end Go.Proofs.YtcinjbolflhjmadGreatDoor.Kn

/-
  THE WALK of kinds.Of.
-/
namespace Go.Proofs.YtcinjbolflhjmadGreatDoor.Kn
open Go.RowKit

theorem field_name (x0 x1 x2 x3 x4 x5 x6 : Value) (w : World) : (Instr.field 45 (.agg #[x0, x1, x2, x3, x4, x5, x6]) 0).run Tryz.prog w = .ok x0 w := by kernel_rfl
theorem field_leaf (x0 x1 x2 x3 x4 x5 x6 : Value) (w : World) : (Instr.field 45 (.agg #[x0, x1, x2, x3, x4, x5, x6]) 2).run Tryz.prog w = .ok x2 w := by kernel_rfl
theorem field_need (x0 x1 x2 x3 x4 x5 x6 : Value) (w : World) : (Instr.field 45 (.agg #[x0, x1, x2, x3, x4, x5, x6]) 6).run Tryz.prog w = .ok x6 w := by kernel_rfl

def ofD (r : Int) : Kd := if 0 ≤ r ∧ r < 19 then kt r.toNat else k0

set_option maxHeartbeats 400000 in
theorem of_any {w : World} (T : TabAt w) (r : Int) : Calls Tryz.prog 29 #[.int .i64 r] w fun e w' => e = .returned (kval (ofD r)) ∧ Below w.heap.size w w' := by
  by_cases h0 : 0 ≤ r
  · by_cases h1 : r < 19
    · obtain ⟨k, rfl⟩ := Int.eq_ofNat_of_zero_le h0
      have hk : k < 19 := by omega
      have R := T.2 k hk
      have E : Hid (ofD (k : Int) = kt k) := by show _ = _; unfold ofD; rw [if_pos ⟨h0, h1⟩, Int.toNat_natCast]
      have al : ∀ o j, (w.alloc o).cell? ⟨0, j, none⟩ = w.cell? ⟨0, j, none⟩ := fun o j => World.cell?_alloc_lt _ _ _ (by exact T.1)
      obtain ⟨c0, c1, c2, c3, c4, c5, c6⟩ := R
      have d0 := fun o => (al o _).trans c0
      have d1 := fun o => (al o _).trans c1
      have d2 := fun o => (al o _).trans c2
      have d3 := fun o => (al o _).trans c3
      have d4 := fun o => (al o _).trans c4
      have d5 := fun o => (al o _).trans c5
      have d6 := fun o => (al o _).trans c6
      clear T al c0 c1 c2 c3 c4 c5 c6
      generalize kt k = K at *
      obtain ⟨nm, b1, b2, b3, b4, b5, z⟩ := K
      simp only at d0 d1 d2 d3 d4 d5 d6
      go_enter Tryz.func29, Tryz.ntmps29
      go_wp2_with fail
      refine bodyPost_ret (v := .agg #[.string ⟨nm.toArray⟩, .bool b1, .bool b2, .bool b3, .bool b4, .bool b5, .int .i64 (z : Int)]) (by simp [results, Tryz.results29, go_sem]) rfl ⟨by rw [E.out]; rfl, ?_⟩
      exact (Below.refl _ _).alloc (Nat.le_refl _) _
    · have E : Hid (ofD r = k0) := by show _ = _; unfold ofD; rw [if_neg (by omega)]
      clear T
      go_enter Tryz.func29, Tryz.ntmps29
      go_wp2_with fail
      refine bodyPost_ret (v := .agg #[.string ⟨#[]⟩, .bool false, .bool false, .bool false, .bool false, .bool false, .int .i64 0]) (by simp [results, Tryz.results29, go_sem]) rfl ⟨by rw [E.out]; rfl, ?_⟩
      exact (Below.refl _ _).alloc (Nat.le_refl _) _
  · have E : Hid (ofD r = k0) := by show _ = _; unfold ofD; rw [if_neg (by omega)]
    clear T
    go_enter Tryz.func29, Tryz.ntmps29
    go_wp2_with fail
    refine bodyPost_ret (v := .agg #[.string ⟨#[]⟩, .bool false, .bool false, .bool false, .bool false, .bool false, .int .i64 0]) (by simp [results, Tryz.results29, go_sem]) rfl ⟨by rw [E.out]; rfl, ?_⟩
    exact (Below.refl _ _).alloc (Nat.le_refl _) _

end Go.Proofs.YtcinjbolflhjmadGreatDoor.Kn

/-
  MAPS OF TEXTS TO NUMBERS, OF THE CALL's OWN: what was put last for a text is there.
-/
namespace Go.Proofs.YtcinjbolflhjmadGreatDoor.Kn
open Go.RowKit Go.Maps

theorem keyS : Keyed Tryz.prog 9 := string_keyed Tryz.underlying9
theorem zeroI (w : World) : (zeroValue 3).run Tryz.prog w = .ok (.int .i64 0) w := by kernel_rfl

def mp (ps : List (List UInt8 × Nat)) : DataW Unit := ps.foldl (fun D p => D.put (.string p.1) (.lit (.int .i64 (p.2 : Int)))) (.map [])
/-- what was put last -/
def lk (ps : List (List UInt8 × Nat)) (s : List UInt8) : Option Nat := ps.foldl (fun a p => if p.1 = s then some p.2 else a) none

theorem mp_is (ps : List (List UInt8 × Nat)) : ∀ D : DataW Unit, IsMap D → IsMap (ps.foldl (fun D p => D.put (.string p.1) (.lit (.int .i64 (p.2 : Int)))) D) := by
  induction ps with
  | nil => exact fun D h => h
  | cons p ps ih => exact fun D h => ih _ (h.put _ _)

theorem mp_look (s : List UInt8) (ps : List (List UInt8 × Nat)) : ∀ (D : DataW Unit) (a : Option Nat), IsMap D →
    (∀ z, D.atKey (.string s) z = (match a with | some n => .lit (.int .i64 (n : Int)) | none => z)) → has D (.string s) = a.isSome →
    (∀ z, (ps.foldl (fun D p => D.put (.string p.1) (.lit (.int .i64 (p.2 : Int)))) D).atKey (.string s) z = (match ps.foldl (fun a p => if p.1 = s then some p.2 else a) a with | some n => .lit (.int .i64 (n : Int)) | none => z)) ∧
    has (ps.foldl (fun D p => D.put (.string p.1) (.lit (.int .i64 (p.2 : Int)))) D) (.string s) = (ps.foldl (fun a p => if p.1 = s then some p.2 else a) a).isSome := by
  induction ps with
  | nil => exact fun D a _ h1 h2 => ⟨h1, h2⟩
  | cons p ps ih =>
    intro D a hD h1 h2
    rw [List.foldl_cons, List.foldl_cons]
    by_cases e : p.1 = s
    · rw [if_pos e, e]
      exact ih _ _ (hD.put _ _) (fun z => by rw [atKey_put_same hD (by trivial)]) (by rw [has_put_same hD (by trivial)]; rfl)
    · rw [if_neg e]
      have ne : Lit.string s ≠ Lit.string p.1 := fun h => e (by injection h with h; exact h.symm)
      exact ih _ _ (hD.put _ _) (fun z => by rw [atKey_put_other ne]; exact h1 z) (by rw [has_put_other ne]; exact h2)

theorem mp_at (ps : List (List UInt8 × Nat)) (s : List UInt8) : (mp ps).atKey (.string s) (.lit (.int .i64 0)) = .lit (.int .i64 (((lk ps s).getD 0 : Nat) : Int)) := by
  have h := (mp_look s ps (.map []) none isMap_empty (fun _ => rfl) rfl).1 (.lit (.int .i64 0))
  unfold mp lk
  rw [h]
  cases ps.foldl (fun a p => if p.1 = s then some p.2 else a) none <;> rfl
theorem mp_has (ps : List (List UInt8 × Nat)) (s : List UInt8) : has (mp ps) (.string s) = (lk ps s).isSome :=
  (mp_look s ps (.map []) none isMap_empty (fun _ => rfl) rfl).2

/-- block b is a map that was filled so -/
def MapAt (w : World) (b : Nat) (ps : List (List UInt8 × Nat)) : Prop := w.ownsMap Tryz.prog 9 (plainElem Tryz.prog 3) b ps.length (mp ps)

theorem map_made (w : World) : MapAt (w.alloc (.map #[] 0)) w.heap.size [] := World.ownsMap_made w Tryz.prog 9 _

theorem keyL (l : List UInt8) (h : l.length ≤ 1000) : keyOf Tryz.prog 9 (.string ⟨l.toArray⟩) = some (.string l) := by
  have := WideMaps.keyOf_string_mk (s := ⟨l.toArray⟩) Tryz.underlying9 (by show l.toArray.size ≤ maxLen; unfold maxLen; simp; omega)
  simpa using this

theorem map_put {w : World} {ops : Array Oper} {rest : List Oper} {o : Oper} {a : Act} {Q : Exit → Act → World → Prop}
    (hg : o.guard = none) (m x v : Operand) (hop : o.op = Op.mapUpdate 137 m x v) (b : Nat) (ps : List (List UInt8 × Nat)) (l : List UInt8) (n : Nat) (hl : l.length ≤ 1000) (hp : ps.length ≤ 1000) (hn : n ≤ 1000)
    (hm : a.eval m = .map (some b)) (h : MapAt w b ps) (hx : a.eval x = .string ⟨l.toArray⟩) (hv : a.eval v = .int .i64 (n : Int))
    (hK : ∀ w', MapAt w' b (ps ++ [(l, n)]) → w.grownBy w' (some b) → wpList Tryz.prog ops Q rest (a.put o.dst undef) w') : wpList Tryz.prog ops Q (o :: rest) a w := by
  refine wpList_mapUpdate_own w hg m x v 137 hop 9 3 keyS Tryz.underlying137 _ b ps.length (mp ps) hm h (by unfold maxLen; omega) _ _ (.string l) hx hv (keyL l hl) (.lit (.int .i64 (n : Int))) [] (plainElem_int Tryz.underlying3 (WalkArith.wf_i64 (by omega))) ?_
  intro w' g1 g2
  refine hK w' ?_ g2
  unfold MapAt mp
  rw [List.length_append, List.foldl_append]
  exact g1

theorem map_upd {w : World} {b : Nat} {ps : List (List UInt8 × Nat)} (h : MapAt w b ps) (l : List UInt8) (n : Nat) (hl : l.length ≤ 1000) (hp : ps.length ≤ 1000) (hn : n ≤ 1000) :
    ∃ w', (Instr.mapUpdate 137 (.map (some b)) (.string ⟨l.toArray⟩) (.int .i64 (n : Int))).run Tryz.prog w = .ok () w' ∧ MapAt w' b (ps ++ [(l, n)]) ∧ w.grownBy w' (some b) := by
  obtain ⟨w', g0, g1, g2⟩ := World.ownsMap.update h keyS Tryz.underlying137 (by unfold maxLen; omega) (keyL l hl) (val := .int .i64 (n : Int)) (d := .lit (.int .i64 (n : Int))) (ps := []) (plainElem_int Tryz.underlying3 (WalkArith.wf_i64 (by omega)))
  refine ⟨w', g0, ?_, g2⟩
  unfold MapAt mp
  rw [List.length_append, List.foldl_append]
  exact g1

theorem map_look {w : World} {ops : Array Oper} {rest : List Oper} {o : Oper} {a : Act} {Q : Exit → Act → World → Prop}
    (hg : o.guard = none) (m x : Operand) (hop : o.op = Op.lookup 137 m x true) (b : Nat) (ps : List (List UInt8 × Nat)) (s : ByteArray) (hs : s.size ≤ maxLen)
    (hm : a.eval m = .map (some b)) (h : MapAt w b ps) (hx : a.eval x = .string s)
    (hK : wpList Tryz.prog ops Q rest (a.put o.dst (.tuple #[.int .i64 (((lk ps s.data.toList).getD 0 : Nat) : Int), .bool (lk ps s.data.toList).isSome])) w) : wpList Tryz.prog ops Q (o :: rest) a w := by
  refine wpList_lookup_own_ok_int w hg m x 137 hop 9 3 .i64 keyS Tryz.underlying137 Tryz.underlying3 (zeroI _) b ps.length (mp ps) hm h _ (.string s.data.toList) hx (WideMaps.keyOf_string_mk Tryz.underlying9 hs) ?_
  intro c hc _
  rw [mp_at] at hc
  have e : c = (((lk ps s.data.toList).getD 0 : Nat) : Int) := by injection hc with hc; injection hc with _ hc; exact hc.symm
  rw [mp_has, e]
  exact hK
end Go.Proofs.YtcinjbolflhjmadGreatDoor.Kn

/-
  THE WALKS of kinds.rolesByName, rolesByTag, Find, Tag.
-/
namespace Go.Proofs.YtcinjbolflhjmadGreatDoor.Kn
open Go.RowKit Go.Maps

def tagL : List (List UInt8 × Nat) := [([109, 97, 105, 110], 2), ([110, 97, 118], 3), ([104, 49], 4), ([104, 50], 4), ([104, 51], 4), ([117, 108], 5), ([108, 105], 6), ([98, 117, 116, 116, 111, 110], 8), ([116, 97, 98, 108, 101], 13), ([116, 114], 14), ([116, 100], 15), ([100, 105, 97, 108, 111, 103], 17)]
/-- what stands in the map behind the rounds of the roles below k -/
def nmL : Nat → List (List UInt8 × Nat)
  | 0 => [([110, 111, 110, 101], 0), ([112, 114, 101, 115, 101, 110, 116, 97, 116, 105, 111, 110], 0)]
  | k + 1 => if k = 0 ∨ k = 10 ∨ k = 18 then nmL k else nmL k ++ [((kt k).name, k)]
theorem nmL_len : ∀ k, (nmL k).length ≤ k + 2
  | 0 => Nat.le_refl _
  | k + 1 => by
    have := nmL_len k
    unfold nmL
    split
    · omega
    · simp; omega
theorem kt_len : ∀ k, k < 19 → (kt k).name.length ≤ 1000 := by decide

set_option maxHeartbeats 800000 in
set_option maxRecDepth 100000 in
theorem byTag_any (w : World) : Calls Tryz.prog 127 #[] w fun e w' => ∃ b, e = .returned (.map (some b)) ∧ MapAt w' b tagL ∧ Below w.heap.size w w' := by
  obtain ⟨w0, hw0⟩ : ∃ w0, w0 = w.alloc (.map #[] 0) := ⟨_, rfl⟩
  have M0 : MapAt w0 w.heap.size [] := by rw [hw0]; exact map_made w
  have B0 : Below w.heap.size w w0 := by rw [hw0]; exact (Below.refl _ _).alloc (Nat.le_refl _) _
  have S0 : w.heap.size < w0.heap.size := by rw [hw0]; simp
  have W0 : Hid (w0 = w.alloc (.map #[] 0)) := hw0
  obtain ⟨w1, q1, M1, g1⟩ := map_upd M0 [109, 97, 105, 110] 2 (by decide) (by decide) (by decide)
  have B1 := B0.grown g1 (Nat.le_of_lt S0) (fun j hj => by cases hj; exact Nat.le_refl _)
  have S1 := Nat.lt_of_lt_of_le S0 g1.size
  have r1 : (Instr.mapUpdate 137 (.map (some w.heap.size)) (.string ⟨#[109, 97, 105, 110]⟩) (.int .i64 2)).run Tryz.prog w0 = .ok () w1 := q1
  obtain ⟨w2, q2, M2, g2⟩ := map_upd M1 [110, 97, 118] 3 (by decide) (by decide) (by decide)
  have B2 := B1.grown g2 (Nat.le_of_lt S1) (fun j hj => by cases hj; exact Nat.le_refl _)
  have S2 := Nat.lt_of_lt_of_le S1 g2.size
  have r2 : (Instr.mapUpdate 137 (.map (some w.heap.size)) (.string ⟨#[110, 97, 118]⟩) (.int .i64 3)).run Tryz.prog w1 = .ok () w2 := q2
  obtain ⟨w3, q3, M3, g3⟩ := map_upd M2 [104, 49] 4 (by decide) (by decide) (by decide)
  have B3 := B2.grown g3 (Nat.le_of_lt S2) (fun j hj => by cases hj; exact Nat.le_refl _)
  have S3 := Nat.lt_of_lt_of_le S2 g3.size
  have r3 : (Instr.mapUpdate 137 (.map (some w.heap.size)) (.string ⟨#[104, 49]⟩) (.int .i64 4)).run Tryz.prog w2 = .ok () w3 := q3
  obtain ⟨w4, q4, M4, g4⟩ := map_upd M3 [104, 50] 4 (by decide) (by decide) (by decide)
  have B4 := B3.grown g4 (Nat.le_of_lt S3) (fun j hj => by cases hj; exact Nat.le_refl _)
  have S4 := Nat.lt_of_lt_of_le S3 g4.size
  have r4 : (Instr.mapUpdate 137 (.map (some w.heap.size)) (.string ⟨#[104, 50]⟩) (.int .i64 4)).run Tryz.prog w3 = .ok () w4 := q4
  obtain ⟨w5, q5, M5, g5⟩ := map_upd M4 [104, 51] 4 (by decide) (by decide) (by decide)
  have B5 := B4.grown g5 (Nat.le_of_lt S4) (fun j hj => by cases hj; exact Nat.le_refl _)
  have S5 := Nat.lt_of_lt_of_le S4 g5.size
  have r5 : (Instr.mapUpdate 137 (.map (some w.heap.size)) (.string ⟨#[104, 51]⟩) (.int .i64 4)).run Tryz.prog w4 = .ok () w5 := q5
  obtain ⟨w6, q6, M6, g6⟩ := map_upd M5 [117, 108] 5 (by decide) (by decide) (by decide)
  have B6 := B5.grown g6 (Nat.le_of_lt S5) (fun j hj => by cases hj; exact Nat.le_refl _)
  have S6 := Nat.lt_of_lt_of_le S5 g6.size
  have r6 : (Instr.mapUpdate 137 (.map (some w.heap.size)) (.string ⟨#[117, 108]⟩) (.int .i64 5)).run Tryz.prog w5 = .ok () w6 := q6
  obtain ⟨w7, q7, M7, g7⟩ := map_upd M6 [108, 105] 6 (by decide) (by decide) (by decide)
  have B7 := B6.grown g7 (Nat.le_of_lt S6) (fun j hj => by cases hj; exact Nat.le_refl _)
  have S7 := Nat.lt_of_lt_of_le S6 g7.size
  have r7 : (Instr.mapUpdate 137 (.map (some w.heap.size)) (.string ⟨#[108, 105]⟩) (.int .i64 6)).run Tryz.prog w6 = .ok () w7 := q7
  obtain ⟨w8, q8, M8, g8⟩ := map_upd M7 [98, 117, 116, 116, 111, 110] 8 (by decide) (by decide) (by decide)
  have B8 := B7.grown g8 (Nat.le_of_lt S7) (fun j hj => by cases hj; exact Nat.le_refl _)
  have S8 := Nat.lt_of_lt_of_le S7 g8.size
  have r8 : (Instr.mapUpdate 137 (.map (some w.heap.size)) (.string ⟨#[98, 117, 116, 116, 111, 110]⟩) (.int .i64 8)).run Tryz.prog w7 = .ok () w8 := q8
  obtain ⟨w9, q9, M9, g9⟩ := map_upd M8 [116, 97, 98, 108, 101] 13 (by decide) (by decide) (by decide)
  have B9 := B8.grown g9 (Nat.le_of_lt S8) (fun j hj => by cases hj; exact Nat.le_refl _)
  have S9 := Nat.lt_of_lt_of_le S8 g9.size
  have r9 : (Instr.mapUpdate 137 (.map (some w.heap.size)) (.string ⟨#[116, 97, 98, 108, 101]⟩) (.int .i64 13)).run Tryz.prog w8 = .ok () w9 := q9
  obtain ⟨w10, q10, M10, g10⟩ := map_upd M9 [116, 114] 14 (by decide) (by decide) (by decide)
  have B10 := B9.grown g10 (Nat.le_of_lt S9) (fun j hj => by cases hj; exact Nat.le_refl _)
  have S10 := Nat.lt_of_lt_of_le S9 g10.size
  have r10 : (Instr.mapUpdate 137 (.map (some w.heap.size)) (.string ⟨#[116, 114]⟩) (.int .i64 14)).run Tryz.prog w9 = .ok () w10 := q10
  obtain ⟨w11, q11, M11, g11⟩ := map_upd M10 [116, 100] 15 (by decide) (by decide) (by decide)
  have B11 := B10.grown g11 (Nat.le_of_lt S10) (fun j hj => by cases hj; exact Nat.le_refl _)
  have S11 := Nat.lt_of_lt_of_le S10 g11.size
  have r11 : (Instr.mapUpdate 137 (.map (some w.heap.size)) (.string ⟨#[116, 100]⟩) (.int .i64 15)).run Tryz.prog w10 = .ok () w11 := q11
  obtain ⟨w12, q12, M12, g12⟩ := map_upd M11 [100, 105, 97, 108, 111, 103] 17 (by decide) (by decide) (by decide)
  have B12 := B11.grown g12 (Nat.le_of_lt S11) (fun j hj => by cases hj; exact Nat.le_refl _)
  have S12 := Nat.lt_of_lt_of_le S11 g12.size
  have r12 : (Instr.mapUpdate 137 (.map (some w.heap.size)) (.string ⟨#[100, 105, 97, 108, 111, 103]⟩) (.int .i64 17)).run Tryz.prog w11 = .ok () w12 := q12
  clear q1 g1 q2 g2 q3 g3 q4 g4 q5 g5 q6 g6 q7 g7 q8 g8 q9 g9 q10 g10 q11 g11 q12 g12 M0 M1 M2 M3 M4 M5 M6 M7 M8 M9 M10 M11 B0 B1 B2 B3 B4 B5 B6 B7 B8 B9 B10 B11 S0 S1 S2 S3 S4 S5 S6 S7 S8 S9 S10 S11 hw0
  have MM : Hid (MapAt w12 w.heap.size _) := M12
  have BB : Hid (Below w.heap.size w w12) := B12
  have SS : Hid (w.heap.size < w12.heap.size) := S12
  clear M12 B12 S12
  have hmm : ∀ t, (Instr.makeMap t none).run Tryz.prog w = .ok (.map (some w.heap.size)) w0 := fun t => by rw [W0.out]; exact run_makeMap t w
  go_enter Tryz.func127, Tryz.ntmps127
  go_wp2_with fail
  go_ret
  exact ⟨_, rfl, MM.out, BB.out⟩

set_option maxHeartbeats 800000 in
set_option maxRecDepth 100000 in
theorem byName_any {w : World} (T : TabAt w) : Calls Tryz.prog 126 #[] w fun e w' => ∃ b, e = .returned (.map (some b)) ∧ MapAt w' b (nmL 19) ∧ Below w.heap.size w w' := by
  have HT : Hid (TabAt w) := T
  clear T
  obtain ⟨w0, hw0⟩ : ∃ w0, w0 = w.alloc (.map #[] 0) := ⟨_, rfl⟩
  have M0 : MapAt w0 w.heap.size [] := by rw [hw0]; exact map_made w
  have B0 : Below w.heap.size w w0 := by rw [hw0]; exact (Below.refl _ _).alloc (Nat.le_refl _) _
  have S0 : w.heap.size < w0.heap.size := by rw [hw0]; simp
  have W0 : Hid (w0 = w.alloc (.map #[] 0)) := hw0
  obtain ⟨w1, q1, M1, g1⟩ := map_upd M0 [110, 111, 110, 101] 0 (by decide) (by decide) (by decide)
  have B1 := B0.grown g1 (Nat.le_of_lt S0) (fun j hj => by cases hj; exact Nat.le_refl _)
  have S1 := Nat.lt_of_lt_of_le S0 g1.size
  have r1 : (Instr.mapUpdate 137 (.map (some w.heap.size)) (.string ⟨#[110, 111, 110, 101]⟩) (.int .i64 0)).run Tryz.prog w0 = .ok () w1 := q1
  obtain ⟨w2, q2, M2, g2⟩ := map_upd M1 [112, 114, 101, 115, 101, 110, 116, 97, 116, 105, 111, 110] 0 (by decide) (by decide) (by decide)
  have B2 := B1.grown g2 (Nat.le_of_lt S1) (fun j hj => by cases hj; exact Nat.le_refl _)
  have S2 := Nat.lt_of_lt_of_le S1 g2.size
  have r2 : (Instr.mapUpdate 137 (.map (some w.heap.size)) (.string ⟨#[112, 114, 101, 115, 101, 110, 116, 97, 116, 105, 111, 110]⟩) (.int .i64 0)).run Tryz.prog w1 = .ok () w2 := q2
  clear q1 g1 q2 g2 M0 M1 B0 B1 S0 S1 hw0
  have MM : Hid (MapAt w2 w.heap.size _) := M2
  have BB : Hid (Below w.heap.size w w2) := B2
  have SS : Hid (w.heap.size < w2.heap.size) := S2
  clear M2 B2 S2
  have hmm : ∀ t, (Instr.makeMap t none).run Tryz.prog w = .ok (.map (some w.heap.size)) w0 := fun t => by rw [W0.out]; exact run_makeMap t w
  go_enter Tryz.func126, Tryz.ntmps126
  go_wp2_with fail
  go_loopw [2] (fun i wr => ∃ k : Nat, 1 ≤ k ∧ k ≤ 19 ∧ i = .int .i64 k ∧ Hid (MapAt wr w.heap.size (nmL k)) ∧ Hid (Below w.heap.size w wr) ∧ Hid (w.heap.size < wr.heap.size)) (fun i _ => 19 - (intOf i).toNat)
  case atStart => exact ⟨1, Nat.le_refl _, by omega, rfl, MM, BB, SS⟩
  case round =>
    obtain ⟨k, h1, h19, rfl, HM, HB, HS⟩ := hrel
    by_cases hlt : k < 19
    · have c0 : wr.cell? ⟨0, k * 7, none⟩ = some (.string ⟨(kt k).name.toArray⟩) := ((HT.out).below HB.out).2 k hlt |>.c0
      obtain ⟨w', q, M', g⟩ := map_upd HM.out (kt k).name k (kt_len k hlt) (by have := nmL_len k; omega) (by omega)
      have HM' : Hid (MapAt w' w.heap.size (nmL k ++ [((kt k).name, k)])) := M'
      have HB' : Hid (Below w.heap.size w w') := HB.out.grown g (Nat.le_of_lt HS.out) (fun j hj => by cases hj; exact Nat.le_refl _)
      have HS' : Hid (w.heap.size < w'.heap.size) := Nat.lt_of_lt_of_le HS.out g.size
      clear M' g
      by_cases h10 : k = 10 ∨ k = 18
      · have E : Hid (nmL (k + 1) = nmL k) := by show _ = _; rw [nmL, if_pos (Or.inr h10)]
        clear q c0
        rcases h10 with rfl | rfl
        · go_wp2
          go_roundw
          case rel => exact ⟨11, by omega, by omega, by go_num, by rw [E.out]; exact HM, HB, HS⟩
          case measure => simp [intOf]
        · go_wp2
          go_roundw
          case rel => exact ⟨19, by omega, by omega, by go_num, by rw [E.out]; exact HM, HB, HS⟩
          case measure => simp [intOf]
      · have E : Hid (nmL (k + 1) = nmL k ++ [((kt k).name, k)]) := by show _ = _; rw [nmL, if_neg (by omega)]
        have k10 : ((k : Int) != 10) = true := by simp; omega
        have k18 : ((k : Int) != 18) = true := by simp; omega
        generalize (kt k).name.toArray = nm at *
        go_wp2
        go_roundw
        case rel => exact ⟨k + 1, by omega, by omega, by go_num, by rw [E.out]; exact HM', HB', HS'⟩
        case measure => simp [intOf]; omega
    · have hk : k = 19 := by omega
      subst hk
      go_wp2
      go_ret
      exact ⟨_, rfl, HM.out, HB.out⟩
end Go.Proofs.YtcinjbolflhjmadGreatDoor.Kn

/-
  THE WALKS of kinds.Find, kinds.Tag.
-/
namespace Go.Proofs.YtcinjbolflhjmadGreatDoor.Kn
open Go.RowKit Go.Maps

def findD (s : List UInt8) : Int := match lk (nmL 19) s with | some n => (n : Int) | none => -1
def tagD (s : List UInt8) : Int := match lk tagL s with | some n => (n : Int) | none => 18

set_option maxHeartbeats 400000 in
set_option maxRecDepth 100000 in
theorem find_any {w : World} (T : TabAt w) (s : ByteArray) (hs : s.size ≤ maxLen) : Calls Tryz.prog 99 #[.string s] w fun e w' => e = .returned (.int .i64 (findD s.data.toList)) ∧ Below w.heap.size w w' := by
  have HB : Hid (Calls Tryz.prog 126 #[] w fun e w' => ∃ b, e = .returned (.map (some b)) ∧ MapAt w' b (nmL 19) ∧ Below w.heap.size w w') := byName_any T
  clear T
  cases h : lk (nmL 19) s.data.toList with
  | some n =>
    have E : Hid (findD s.data.toList = (n : Int)) := by show _ = _; unfold findD; rw [h]
    go_enter Tryz.func99, Tryz.ntmps99
    go_wp2_with (first
      | (go_at_call 126; refine Calls.mono HB.out ?_; rintro e w1 ⟨b, rfl, M, bel⟩)
      | (at_lookup; refine map_look rfl _ _ rfl b _ s hs rfl M rfl ?_; rw [h]))
    go_ret
    exact ⟨by rw [E.out]; rfl, bel⟩
  | none =>
    have E : Hid (findD s.data.toList = -1) := by show _ = _; unfold findD; rw [h]
    go_enter Tryz.func99, Tryz.ntmps99
    go_wp2_with (first
      | (go_at_call 126; refine Calls.mono HB.out ?_; rintro e w1 ⟨b, rfl, M, bel⟩)
      | (at_lookup; refine map_look rfl _ _ rfl b _ s hs rfl M rfl ?_; rw [h]))
    go_ret
    exact ⟨by rw [E.out]; rfl, bel⟩

set_option maxHeartbeats 400000 in
set_option maxRecDepth 100000 in
theorem tag_any (w : World) (s : ByteArray) (hs : s.size ≤ maxLen) : Calls Tryz.prog 103 #[.string s] w fun e w' => e = .returned (.int .i64 (tagD s.data.toList)) ∧ Below w.heap.size w w' := by
  have HB : Hid (Calls Tryz.prog 127 #[] w fun e w' => ∃ b, e = .returned (.map (some b)) ∧ MapAt w' b tagL ∧ Below w.heap.size w w') := byTag_any w
  cases h : lk tagL s.data.toList with
  | some n =>
    have E : Hid (tagD s.data.toList = (n : Int)) := by show _ = _; unfold tagD; rw [h]
    go_enter Tryz.func103, Tryz.ntmps103
    go_wp2_with (first
      | (go_at_call 127; refine Calls.mono HB.out ?_; rintro e w1 ⟨b, rfl, M, bel⟩)
      | (at_lookup; refine map_look rfl _ _ rfl b _ s hs rfl M rfl ?_; rw [h]))
    go_ret
    exact ⟨by rw [E.out]; rfl, bel⟩
  | none =>
    have E : Hid (tagD s.data.toList = 18) := by show _ = _; unfold tagD; rw [h]
    go_enter Tryz.func103, Tryz.ntmps103
    go_wp2_with (first
      | (go_at_call 127; refine Calls.mono HB.out ?_; rintro e w1 ⟨b, rfl, M, bel⟩)
      | (at_lookup; refine map_look rfl _ _ rfl b _ s hs rfl M rfl ?_; rw [h]))
    go_ret
    exact ⟨by rw [E.out]; rfl, bel⟩
end Go.Proofs.YtcinjbolflhjmadGreatDoor.Kn

/-
  THE WALKS of the reference's Kind, Asked, Tag.
-/
namespace Go.Proofs.YtcinjbolflhjmadGreatDoor.Kn
open Go.RowKit Go.Maps

/-- a row of these integers -/
def HasAt (w : World) (b : Nat) (l : List Nat) : Prop := ∀ (j : Nat) (x : Nat), l[j]? = some x → w.cell? ⟨b, j, none⟩ = some (.int .i64 (x : Int))

theorem any_take_succ (l : List Nat) (r : Int) (j : Nat) (h : j < l.length) : ((l.take (j + 1)).any fun x => (x : Int) == r) = (((l.take j).any fun x => (x : Int) == r) || ((l[j] : Int) == r)) := by
  rw [List.take_succ_eq_append_getElem h, List.any_append]
  simp

set_option maxHeartbeats 800000 in
theorem has_any {w : World} {b c : Nat} {l : List Nat} (h : HasAt w b l) (hl : l.length ≤ 100) (r : Int) : Calls Tryz.prog 23 #[.slice (some ⟨b, 0, none⟩) l.length c, .int .i64 r] w fun e w' => e = .returned (.bool (l.any fun x => (x : Int) == r)) ∧ w' = w := by
  have H : Hid (HasAt w b l) := h
  clear h
  go_enter Tryz.func23, Tryz.ntmps23
  go_wp2
  go_loopw [9] (fun i wr => wr = w ∧ ∃ j : Nat, j ≤ l.length ∧ i = .int .i64 j ∧ Hid (((l.take j).any fun x => (x : Int) == r) = false)) (fun i _ => l.length - (intOf i).toNat)
  case atStart => exact ⟨rfl, 0, Nat.zero_le _, rfl, by show _ = _; simp⟩
  case round =>
    obtain ⟨rfl, j, hj, rfl, hno⟩ := hrel
    by_cases hlt : j < l.length
    · have hc := H.out j l[j] (List.getElem?_eq_getElem hlt)
      by_cases he : (l[j] : Int) = r
      · have E : Hid ((l.any fun x => (x : Int) == r) = true) := by
          show _ = _
          rw [List.any_eq_true]
          exact ⟨l[j], List.getElem_mem hlt, by simpa using he⟩
        rw [he] at hc
        clear he
        go_wp2
        go_ret
        exact ⟨by rw [E.out]; rfl, rfl⟩
      · have E : Hid (((l.take (j + 1)).any fun x => (x : Int) == r) = false) := by
          show _ = _
          rw [any_take_succ l r j hlt, hno.out]
          simpa using he
        generalize (l[j] : Int) = x at *
        go_wp2
        go_roundw
        case rel => exact ⟨trivial, j + 1, by omega, by go_num, E⟩
        case measure => simp [intOf]; omega
    · have E : Hid ((l.any fun x => (x : Int) == r) = false) := by
        show _ = _
        have := hno.out
        rwa [show j = l.length by omega, List.take_length] at this
      go_wp2
      go_ret
      exact ⟨by rw [E.out]; rfl, rfl⟩

theorem has_new (W : World) (t : TypeId) (l : List Nat) : HasAt (W.alloc (.cells (l.map fun x : Nat => Value.int .i64 (x : Int)).toArray t)) W.heap.size l := by
  intro j x hx
  rw [World.cell?_alloc_new]
  simp [hx]

theorem has_lit {W : World} {t : TypeId} {arr : Array Value} {l : List Nat} {b : Nat} (hb : b = W.heap.size) (h : arr = (l.map fun x : Nat => Value.int .i64 (x : Int)).toArray) : HasAt (W.alloc (.cells arr t)) b l := by
  rw [hb, h]
  exact has_new W t l

theorem has_at {w : World} {b c : Nat} {l : List Nat} (h : HasAt w b l) (hl : l.length ≤ 100) (r : Int) : Calls Tryz.prog 23 #[.slice (some ⟨b, 0, none⟩) l.length c, .int .i64 r] w fun e w' => e = .returned (.bool (l.any fun x => (x : Int) == r)) ∧ Below w.heap.size w w' :=
  (has_any h hl r).mono fun _ _ ⟨a, b⟩ => ⟨a, by rw [b]; exact Below.refl _ _⟩

/-- a box of these cells, to be written -/
def Box (w : World) (B : Nat) (xs : List Value) : Prop := B < w.heap.size ∧ ∀ (j : Nat) (x : Value), xs[j]? = some x → w.cell? ⟨B, j, none⟩ = some x ∧ w.frozen? ⟨B, j, none⟩ = false

theorem Box.below {w w' : World} {B : Nat} {xs : List Value} (h : Box w B xs) (hb : Below w.heap.size w w') : Box w' B xs :=
  ⟨Nat.lt_of_lt_of_le h.1 hb.size, fun j x hx => by
    have := h.2 j x hx
    exact ⟨(hb.cell (by exact h.1)).trans this.1, (hb.frozen (by exact h.1)).trans this.2⟩⟩
theorem Box.alloc {w : World} {B : Nat} {xs : List Value} (h : Box w B xs) (o : Obj) : Box (w.alloc o) B xs := h.below ((Below.refl _ _).alloc (Nat.le_refl _) o)
theorem Box.grown {w w' : World} {B M : Nat} {xs : List Value} (h : Box w B xs) (hg : w.grownBy w' (some M)) (ne : B ≠ M) : Box w' B xs := by
  have hb : w'.heap[B]? = w.heap[B]? := hg.block B h.1 (fun e => ne (by injection e))
  refine ⟨Nat.lt_of_lt_of_le h.1 hg.size, fun j x hx => ?_⟩
  have := h.2 j x hx
  exact ⟨by rw [World.cell?_of_block hb]; exact this.1, by rw [World.frozen?_of_block hb]; exact this.2⟩
theorem Box.set {w : World} {B : Nat} {xs : List Value} (h : Box w B xs) (i : Nat) (v : Value) (hi : i < xs.length) : Box (w.setCell ⟨B, i, none⟩ v) B (xs.set i v) := by
  refine ⟨by simpa using h.1, fun j x hx => ⟨?_, ?_⟩⟩
  · rw [List.getElem?_set] at hx
    by_cases e : i = j
    · subst e
      rw [if_pos rfl, if_pos hi] at hx
      cases hx
      exact World.cell?_setCell_same _ _ _ (h.2 i _ (List.getElem?_eq_getElem hi)).1
    · rw [if_neg e] at hx
      rw [World.cell?_setCell_other _ _ _ _ (by intro h; cases h; exact e rfl)]
      exact (h.2 j x hx).1
  · rw [World.frozen?_setCell]
    rw [List.getElem?_set] at hx
    by_cases e : i = j
    · subst e
      exact (h.2 i _ (List.getElem?_eq_getElem hi)).2
    · rw [if_neg e] at hx
      exact (h.2 j x hx).2
theorem Box.other {w : World} {B B' : Nat} {xs : List Value} (h : Box w B xs) (ne : B' ≠ B) (i : Nat) (v : Value) : Box (w.setCell ⟨B', i, none⟩ v) B xs := by
  refine ⟨by simpa using h.1, fun j x hx => ⟨?_, ?_⟩⟩
  · rw [World.cell?_setCell_other _ _ _ _ (by intro h; cases h; exact ne rfl)]
    exact (h.2 j x hx).1
  · rw [World.frozen?_setCell]
    exact (h.2 j x hx).2
theorem box_new (w : World) (t : TypeId) (xs : List Value) : Box (w.alloc (.cells xs.toArray t)) w.heap.size xs := by
  refine ⟨by simp, fun j x hx => ⟨?_, ?_⟩⟩
  · rw [World.cell?_alloc_new]
    simpa using hx
  · exact World.frozen?_alloc_new _ _ _ _

theorem names_at : ∀ (k : Nat) (h : k < 19), ([Value.string { data := #[] }, Value.string { data := #[103, 114, 111, 117, 112] }, Value.string { data := #[109, 97, 105, 110] }, Value.string { data := #[110, 97, 118, 105, 103, 97, 116, 105, 111, 110] }, Value.string { data := #[104, 101, 97, 100, 105, 110, 103] }, Value.string { data := #[108, 105, 115, 116] }, Value.string { data := #[108, 105, 115, 116, 105, 116, 101, 109] }, Value.string { data := #[108, 105, 110, 107] }, Value.string { data := #[98, 117, 116, 116, 111, 110] }, Value.string { data := #[99, 104, 101, 99, 107, 98, 111, 120] }, Value.string { data := #[116, 101, 120, 116] }, Value.string { data := #[105, 109, 103] }, Value.string { data := #[116, 101, 120, 116, 98, 111, 120] }, Value.string { data := #[116, 97, 98, 108, 101] }, Value.string { data := #[114, 111, 119] }, Value.string { data := #[99, 101, 108, 108] }, Value.string { data := #[114, 101, 103, 105, 111, 110] }, Value.string { data := #[100, 105, 97, 108, 111, 103] }, Value.string { data := #[103, 101, 110, 101, 114, 105, 99] }] : List Value)[k]'(by simpa using h) = Value.string { data := (kt k).name.toArray } := by
  intro k h
  match k, h with
  | 0, _ => rfl
  | 1, _ => rfl
  | 2, _ => rfl
  | 3, _ => rfl
  | 4, _ => rfl
  | 5, _ => rfl
  | 6, _ => rfl
  | 7, _ => rfl
  | 8, _ => rfl
  | 9, _ => rfl
  | 10, _ => rfl
  | 11, _ => rfl
  | 12, _ => rfl
  | 13, _ => rfl
  | 14, _ => rfl
  | 15, _ => rfl
  | 16, _ => rfl
  | 17, _ => rfl
  | 18, _ => rfl
  | k + 19, h => exact absurd h (by omega)

end Go.Proofs.YtcinjbolflhjmadGreatDoor.Kn
