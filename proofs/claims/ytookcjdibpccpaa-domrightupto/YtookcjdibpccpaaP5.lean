/-
  OWN WORK: Dal, Dal2, Dfi, Dfi2, Fmo, Sdl, Fsl, Fs2, Fgi, Ind, Fki, Fup, Fsh, Cpy.
-/
import Derived.Test.YtookcjdibpccpaaP4
import Derived.Deep.RegionHeld3
import Derived.Shelf.RegionOpenPlain
import Derived.Lib.SliceRun
import Derived.Laws.CopyRow
import Derived.Lib.Overlaps
import Derived.Lib.AppendZerosOnto
/-
  THE WALK of dom.All, and of the function in it that calls itself.
-/
namespace Go.Proofs.Ytookcjdibpccpaa
open Go.RowKit

/-- below B all is as it was, but for block A -/
structure But (B A : Nat) (w w' : World) : Prop where
  os : w'.os = w.os
  tape : w'.tape = w.tape
  output : w'.output = w.output
  size : w.heap.size ≤ w'.heap.size
  block : ∀ k, k < B → k ≠ A → w'.heap[k]? = w.heap[k]?

theorem But.refl (B A : Nat) (w : World) : But B A w w := ⟨rfl, rfl, rfl, Nat.le_refl _, fun _ _ _ => rfl⟩
theorem But.trans {B A : Nat} {a b c : World} (h : But B A a b) (k : But B A b c) : But B A a c :=
  ⟨k.os.trans h.os, k.tape.trans h.tape, k.output.trans h.output, Nat.le_trans h.size k.size, fun i hi hn => (k.block i hi hn).trans (h.block i hi hn)⟩
theorem But.of {B A C : Nat} {w w' : World} (h : Below C w w') (hC : B ≤ C) : But B A w w' := ⟨h.os, h.tape, h.output, h.size, fun i hi _ => h.block i (by omega)⟩
theorem But.set {B A : Nat} {w w' : World} (h : But B A w w') (u : Value) : But B A w (w'.setCell ⟨A, 0, none⟩ u) := by
  have hb := (Below.refl 0 w').setCell (p := ⟨A, 0, none⟩) (Nat.zero_le _) u
  exact ⟨hb.os.trans h.os, hb.tape.trans h.tape, hb.output.trans h.output, Nat.le_trans h.size hb.size, fun i hi hn => by rw [heap_setCell_other _ _ _ _ hn]; exact h.block i hi hn⟩
theorem But.drew {B A : Nat} {w w' : World} (h : But B A w w') : But B A w w'.drew := ⟨h.os, h.tape, h.output, h.size, h.block⟩
theorem But.cell {B A : Nat} {w w' : World} (h : But B A w w') {p : Addr} {v : Value} (hv : w.cell? p = some v) (hB : w.heap.size ≤ B) (hp : p.block ≠ A) : w'.cell? p = some v := by
  have hl := lt_of_cell hv
  rw [← hv]
  exact World.cell?_of_block (h.block p.block (by omega) hp)
theorem But.below {B A : Nat} {w w' : World} (h : But B A w w') {C : Nat} (hC : C ≤ B) (hA : C ≤ A) : Below C w w' := ⟨h.os, h.tape, h.output, h.size, fun i hi => h.block i (by omega) (by omega)⟩

theorem But.cells {B A : Nat} {w w' : World} (h : But B A w w') (hB : w.heap.size ≤ B) {p : Option Addr} {n c : Nat} {xs : List Value} (hc : CellsAt w (.slice p n c) n xs) (ho : SlOff A ⟨p, n, c⟩) (hx : n = 0 → xs = []) : CellsAt w' (.slice p n c) n xs := by
  obtain ⟨p', c', e, h1, h2, h3, h4⟩ := hc
  cases e
  refine ⟨p, c, rfl, h1, h2, h3, fun i x hi => ?_⟩
  obtain ⟨b, o, e1, e2⟩ := h4 i x hi
  refine ⟨b, o, e1, h.cell e2 hB ?_⟩
  have hn : n ≠ 0 := by
    intro hn
    rw [hx hn] at hi
    simp at hi
  exact ho ⟨b, o, none⟩ e1 hn
theorem But.nd {B A : Nat} {w w' : World} (h : But B A w w') (hB : w.heap.size ≤ B) {r : Raw} {n : Tn.Nd} (hn : NdAt w r n) (ho : RawOff A r) : NdAt w' r n := by
  have e1 : r.a.n = n.attrs.length := al_of hn.attrs
  have e2 : r.k.n = n.kids.length := hl_of hn.kids
  have e3 : r.s.n = n.shadow.length := hl_of hn.shadow
  refine ⟨hn.live, hn.tag, hn.text, hn.up, hn.hasS, hn.inS, ?_, ?_, ?_⟩
  · have h9 := hn.attrs
    unfold AttrsAt at h9 ⊢
    rw [← e1] at h9 ⊢
    exact h.cells hB h9 ho.1 (fun hz => by rw [hz] at e1; have : n.attrs = [] := List.length_eq_zero_iff.mp e1.symm; rw [this]; rfl)
  · have h9 := hn.kids
    unfold IntsAt at h9 ⊢
    rw [← e2] at h9 ⊢
    exact h.cells hB h9 ho.2.1 (fun hz => by rw [hz] at e2; have : n.kids = [] := List.length_eq_zero_iff.mp e2.symm; rw [this]; rfl)
  · have h9 := hn.shadow
    unfold IntsAt at h9 ⊢
    rw [← e3] at h9 ⊢
    exact h.cells hB h9 ho.2.2 (fun hz => by rw [hz] at e3; have : n.shadow = [] := List.length_eq_zero_iff.mp e3.symm; rw [this]; rfl)
theorem But.doc {B A : Nat} {w w' : World} (h : But B A w w') (hB : w.heap.size ≤ B) {b o c : Nat} {rs : List Raw} {d : Tn.Dc} (hd : DocAt w b o c rs d) (ho : DocOff A b rs) : DocAt w' b o c rs d := by
  have e : ∀ x v, w.cell? ⟨b, x, none⟩ = some v → w'.cell? ⟨b, x, none⟩ = some v := fun x v hx => h.cell hx hB ho.1
  exact ⟨hd.cap, hd.capM, hd.len, ⟨fun i hi => e _ _ (hd.row.c0 i hi), fun i hi => e _ _ (hd.row.c1 i hi), fun i hi => e _ _ (hd.row.c2 i hi), fun i hi => e _ _ (hd.row.c3 i hi), fun i hi => e _ _ (hd.row.c4 i hi),
    fun i hi => e _ _ (hd.row.c5 i hi), fun i hi => e _ _ (hd.row.c6 i hi), fun i hi => e _ _ (hd.row.c7 i hi), fun i hi => e _ _ (hd.row.c8 i hi)⟩, fun i hi hi' => h.nd hB (hd.nds i hi hi') (ho.2 _ (List.getElem_mem _))⟩

/-- the three variables of the function in All: the document, what there is so far, itself -/
structure Vars (w : World) (D A K B : Nat) (dv : Value) (acc : List Nat) (va : Value) : Prop where
  d : w.cell? ⟨D, 0, none⟩ = some dv
  k : w.cell? ⟨K, 0, none⟩ = some (.func (.func 54) #[] #[.pointer (some ⟨D, 0, none⟩), .pointer (some ⟨A, 0, none⟩), .pointer (some ⟨K, 0, none⟩)])
  a : w.cell? ⟨A, 0, none⟩ = some va
  f : w.frozen? ⟨A, 0, none⟩ = false
  own : OwnI w B va acc

theorem Vars.drew {w : World} {D A K B : Nat} {dv : Value} {acc : List Nat} {va : Value} (h : Vars w D A K B dv acc va) : Vars w.drew D A K B dv acc va := ⟨h.d, h.k, h.a, h.f, h.own⟩

theorem OwnI.set {w : World} {B A : Nat} {v : Value} {l : List Nat} (h : OwnI w B v l) (hA : A < B) (u : Value) : OwnI (w.setCell ⟨A, 0, none⟩ u) B v l := ownsRow_setCell_below h (a := ⟨A, 0, none⟩) hA u

theorem list_at {w0 : World} {A : Nat} {p : Option Addr} {n c : Nat} {l : List Nat} (h : IntsAt w0 (.slice p n c) l) (ho : SlOff A ⟨p, n, c⟩) : ∀ j (hj : j < l.length), ∃ b o, p = some ⟨b, o, none⟩ ∧ b ≠ A ∧ w0.cell? ⟨b, o + j, none⟩ = some (.int .i64 (l[j] : Int)) := by
  intro j hj
  have hn := hl_of h
  obtain ⟨p', c', e, _, _, _, hat⟩ := h.at
  cases e
  obtain ⟨b, o, e1, e2⟩ := hat j hj
  exact ⟨b, o, e1, ho ⟨b, o, none⟩ e1 (by simp only; omega), e2⟩

set_option maxHeartbeats 1600000 in
set_option maxRecDepth 100000 in
theorem all1_any {w0 : World} {b o c D A K B : Nat} {rs : List Raw} {d : Tn.Dc} (hB : w0.heap.size = B) (hd : DocAt w0 b o c rs d) (hoff : DocOff A b rs) (hDA : D ≠ A) (hKA : K ≠ A) (hDB : D < B) (hKB : K < B) (hAB : A < B) (hls : ∀ j s, (Tn.liD d j s).length ≤ 1000) (f : Nat) :
    ∀ (p : Option Addr) (cc : Nat) (l : List Nat) (acc : List Nat) (va : Value) (w : World), (∀ j (hj : j < l.length), ∃ b o, p = some ⟨b, o, none⟩ ∧ b ≠ A ∧ w0.cell? ⟨b, o + j, none⟩ = some (.int .i64 (l[j] : Int))) → l.length ≤ 1000 → (∀ k ∈ l, Tn.Ends f d k) →
      But B A w0 w → Vars w D A K B (.slice (some ⟨b, o, none⟩) rs.length c) acc va → (acc ++ l.flatMap (Tn.all f d)).length ≤ 10000 →
      Calls Try.prog 54 #[.slice p l.length cc, .pointer (some ⟨D, 0, none⟩), .pointer (some ⟨A, 0, none⟩), .pointer (some ⟨K, 0, none⟩)] w fun e w' =>
        e = .returned (.tuple #[]) ∧ But B A w0 w' ∧ ∃ va', Vars w' D A K B (.slice (some ⟨b, o, none⟩) rs.length c) (acc ++ l.flatMap (Tn.all f d)) va' := by
  have HL : Hid (∀ j s, (Tn.liD d j s).length ≤ 1000) := hls
  clear hls
  have H : Hid (DocAt w0 b o c rs d) := hd
  have HB : Hid (w0.heap.size = B) := hB
  have L : Hid (rs.length = d.length) := hd.len
  clear hd hB
  induction f with
  | zero =>
    intro p cc l acc va w hat hll hE hbut hv hsz
    have hl : l = [] := by
      cases l with
      | nil => rfl
      | cons a t => exact absurd (hE a (by simp)) (by simp [Tn.Ends])
    subst hl
    go_enter Try.func54, Try.ntmps54
    go_wp2_with fail
    refine wp_loop_rounds 1 ?_
    rw [rounds_succ]
    go_wp2_with fail
    go_end0
    exact ⟨rfl, hbut, va, by simpa using hv⟩
  | succ f ih =>
    intro p cc l acc va w hat hll hE hbut hv hsz
    have T : Hid (∀ j (hj : j < l.length), ∃ b o, p = some ⟨b, o, none⟩ ∧ b ≠ A ∧ w0.cell? ⟨b, o + j, none⟩ = some (.int .i64 (l[j] : Int))) := hat
    have Z : Hid ((acc ++ l.flatMap (Tn.all (f + 1) d)).length ≤ 10000) := hsz
    clear hat hsz
    go_enter Try.func54, Try.ntmps54
    go_wp2_with fail
    go_loopw [9] (fun i wr => ∃ (j : Nat) (va : Value), j ≤ l.length ∧ i = .int .i64 j ∧ But B A w0 wr ∧ Vars wr D A K B (.slice (some ⟨b, o, none⟩) rs.length c) (acc ++ (l.take j).flatMap (Tn.all (f + 1) d)) va)
      (fun i _ => l.length - (intOf i).toNat)
    case atStart => exact ⟨0, va, Nat.zero_le _, rfl, hbut, by simpa using hv⟩
    case round =>
      clear hv hbut
      obtain ⟨j, va, hj, rfl, hbut, hv⟩ := hrel
      have DD : Hid (DocAt wr b o c rs d) := hbut.doc (by rw [HB.out]; exact Nat.le_refl _) H.out hoff
      by_cases hlt : j < l.length
      · obtain ⟨b1, o1, rfl, hb1, hc⟩ := T.out j hlt
        have hcr := hbut.cell hc (by rw [HB.out]; exact Nat.le_refl _) hb1
        have F : Hid (acc ++ (l.take (j + 1)).flatMap (Tn.all (f + 1) d) = (acc ++ (l.take j).flatMap (Tn.all (f + 1) d)) ++ Tn.all (f + 1) d l[j]) := by
          show _ = _
          rw [List.take_succ_eq_append_getElem hlt, List.flatMap_append]
          simp
        have hEj := hE _ (List.getElem_mem hlt)
        have hZj : Hid (((acc ++ (l.take j).flatMap (Tn.all (f + 1) d)) ++ Tn.all (f + 1) d l[j]).length ≤ 10000) := by
          show _ ≤ _
          rw [← F.out]
          have h1 := Z.out
          have h2 := take_flat_len l (Tn.all (f + 1) d) (j + 1)
          rw [List.length_append] at h1 ⊢
          omega
        clear hc
        generalize l[j] = x at *
        generalize acc ++ (l.take j).flatMap (Tn.all (f + 1) d) = sf at *
        obtain ⟨vd, vk, vaa, vf, vown⟩ := hv
        cases his : Tn.isN d (x : Int) false with
        | false =>
          have E : Hid (Tn.all (f + 1) d x = []) := by show _ = _; rw [Tn.all, if_neg (by simp [his])]
          go_wp2_with (go_at_call 26; refine (dis_any DD.out _ _).mono ?_; rintro e w' ⟨rfl, hww⟩; subst hww; rw [his])
          go_roundw
          case rel => exact ⟨j + 1, va, by omega, by go_num, hbut, by rw [F.out, E.out, List.append_nil]; exact ⟨vd, vk, vaa, vf, vown⟩⟩
          case measure => simp [intOf]; omega
        | true =>
          have E : Hid (Tn.all (f + 1) d x = x :: ((Tn.nd d x).shadow.flatMap (Tn.all f d) ++ (Tn.nd d x).kids.flatMap (Tn.all f d))) := by show _ = _; rw [Tn.all, if_pos his]
          go_upto_region 4 with (go_at_call 26; refine (dis_any DD.out _ _).mono ?_; rintro e w' ⟨rfl, hww⟩; subst hww; rw [his])
          have hxd : x < d.length := hEj.1
          have hxr : x < rs.length := by rw [L.out]; exact hxd
          have hBw : B ≤ w'.heap.size := by have h1 := hbut.size; rw [HB.out] at h1; exact h1
          have hnd := H.out.nds x hxr hxd
          rw [← nd_at hxd] at hnd
          have hro := hoff.2 _ (List.getElem_mem hxr)
          have hatS := list_at hnd.shadow hro.2.2
          have hatK := list_at hnd.kids hro.2.1
          have hSn : Hid (rs[x].s.n = (Tn.nd d x).shadow.length) := hl_of hnd.shadow
          have hKn : Hid (rs[x].k.n = (Tn.nd d x).kids.length) := hl_of hnd.kids
          have E2 : Hid ((sf ++ Tn.all (f + 1) d x) = ((sf ++ [x]) ++ (Tn.nd d x).shadow.flatMap (Tn.all f d)) ++ (Tn.nd d x).kids.flatMap (Tn.all f d)) := by
            show _ = _
            rw [E.out]
            simp
          have hz0 : Hid ((((sf ++ [x]) ++ (Tn.nd d x).shadow.flatMap (Tn.all f d)) ++ (Tn.nd d x).kids.flatMap (Tn.all f d)).length ≤ 10000) := by have h1 := hZj.out; rw [E2.out] at h1; exact h1
          have hz1 : ((sf ++ [x]) ++ (Tn.nd d x).shadow.flatMap (Tn.all f d)).length ≤ 10000 := by have h1 := hz0.out; rw [List.length_append] at h1; omega
          have hzs : sf.length ≤ 1000000 := by rw [List.length_append, List.length_append] at hz1; omega
          have Z1 : Hid (((sf ++ [x]) ++ (Tn.nd d x).shadow.flatMap (Tn.all f d)).length ≤ 10000) := hz1
          have hSl : (Tn.nd d x).shadow.length ≤ 1000 := HL.out x true
          have hKl : (Tn.nd d x).kids.length ≤ 1000 := HL.out x false
          have ES : Hid (∀ k ∈ (Tn.nd d x).shadow, Tn.Ends f d k) := hEj.2.1
          have EK : Hid (∀ k ∈ (Tn.nd d x).kids, Tn.Ends f d k) := hEj.2.2
          have HS : Hid (∀ j (hj : j < (Tn.nd d x).shadow.length), ∃ b o, rs[x].s.p = some ⟨b, o, none⟩ ∧ b ≠ A ∧ w0.cell? ⟨b, o + j, none⟩ = some (.int .i64 ((Tn.nd d x).shadow[j] : Int))) := hatS
          have HK : Hid (∀ j (hj : j < (Tn.nd d x).kids.length), ∃ b o, rs[x].k.p = some ⟨b, o, none⟩ ∧ b ≠ A ∧ w0.cell? ⟨b, o + j, none⟩ = some (.int .i64 ((Tn.nd d x).kids[j] : Int))) := hatK
          have h7 : ∀ W, DocAt W b o c rs d → W.cell? ⟨b, o + x * 9 + 7, none⟩ = some (.slice rs[x].s.p (Tn.nd d x).shadow.length rs[x].s.c) := fun W h => by rw [h.row.c7 x hxr, hSn.out]
          have h5 : ∀ W, DocAt W b o c rs d → W.cell? ⟨b, o + x * 9 + 5, none⟩ = some (.slice rs[x].k.p (Tn.nd d x).kids.length rs[x].k.c) := fun W h => by rw [h.row.c5 x hxr, hKn.out]
          have H7 : Hid (∀ W, DocAt W b o c rs d → W.cell? ⟨b, o + x * 9 + 7, none⟩ = some (.slice rs[x].s.p (Tn.nd d x).shadow.length rs[x].s.c)) := h7
          have H5 : Hid (∀ W, DocAt W b o c rs d → W.cell? ⟨b, o + x * 9 + 5, none⟩ = some (.slice rs[x].k.p (Tn.nd d x).kids.length rs[x].k.c)) := h5
          clear h7 h5 hatS hatK hz1 hEj
          generalize rs[x].s = ss at *
          generalize rs[x].k = ks at *
          generalize (Tn.nd d x).shadow = S at *
          generalize (Tn.nd d x).kids = KK at *
          clear hnd hro
          go_upto_region 5 with (at_builtin; refine append_int1 (w0 := w') rfl _ _ rfl x rfl rfl vown (Below.refl B w') hBw hzs ?_; intro v1 w1 o1' n1' s1' _; obtain ⟨pv, cv, rfl⟩ := o1'.shape; have a1 : w1.cell? ⟨A, 0, none⟩ = some va := (n1'.cell (p := ⟨A, 0, none⟩) hAB).trans vaa; have f1 : w1.frozen? ⟨A, 0, none⟩ = false := (n1'.frozen (p := ⟨A, 0, none⟩) hAB).trans vf)
          simp only [List.length_append, List.length_singleton] at o1'
          generalize hv1 : Value.slice pv (sf.length + 1) cv = v1 at *
          have d2 : (w1.setCell ⟨A, 0, none⟩ v1).cell? ⟨D, 0, none⟩ = some (.slice (some ⟨b, o, none⟩) rs.length c) := by
            rw [World.cell?_setCell_other _ _ _ _ (by intro e; cases e; exact hDA rfl), n1'.cell (p := ⟨D, 0, none⟩) hDB]
            exact vd
          have k2 : (w1.setCell ⟨A, 0, none⟩ v1).cell? ⟨K, 0, none⟩ = some (.func (.func 54) #[] #[.pointer (some ⟨D, 0, none⟩), .pointer (some ⟨A, 0, none⟩), .pointer (some ⟨K, 0, none⟩)]) := by
            rw [World.cell?_setCell_other _ _ _ _ (by intro e; cases e; exact hKA rfl), n1'.cell (p := ⟨K, 0, none⟩) hKB]
            exact vk
          have bt2 : But B A w0 (w1.setCell ⟨A, 0, none⟩ v1) := (hbut.trans (But.of n1' (Nat.le_refl _))).set _
          have V2 : Vars (w1.setCell ⟨A, 0, none⟩ v1) D A K B (.slice (some ⟨b, o, none⟩) rs.length c) (sf ++ [x]) v1 := ⟨d2, k2, World.cell?_setCell_same _ _ _ a1, by simpa using f1, o1'.set hAB _⟩
          generalize hW2 : w1.setCell ⟨A, 0, none⟩ v1 = W2 at *
          clear hW2 hv1 a1 f1 o1' n1' s1' vd vk vaa vf vown hbut DD hcr hBw
          have hB0 : w0.heap.size ≤ B := by rw [HB.out]; exact Nat.le_refl _
          have D2 : Hid (DocAt W2 b o c rs d) := bt2.doc hB0 H.out hoff
          have e2 := H7.out _ D2.out
          go_region_held3 (fun w'' => w''.cell? ⟨D, 0, none⟩ = some (.slice (some ⟨b, o, none⟩) rs.length c) ∧ w''.cell? ⟨K, 0, none⟩ = some (.func (.func 54) #[] #[.pointer (some ⟨D, 0, none⟩), .pointer (some ⟨A, 0, none⟩), .pointer (some ⟨K, 0, none⟩)]) ∧ w''.cell? ⟨b, o + x * 9 + 7, none⟩ = some (.slice ss.p S.length ss.c))
            (first | exact ⟨d3, k3, e3⟩ | exact ⟨d2, k2, e2⟩)
            (first
              | (go_at_call 54; refine (ih ss.p ss.c S (sf ++ [x]) v1 _ HS.out hSl ES.out bt2.drew V2.drew Z1.out).mono ?_; rintro e w3 ⟨rfl, bt3, va3, V3⟩; have d3 := V3.d; have k3 := V3.k; have D3 : Hid (DocAt w3 b o c rs d) := bt3.doc hB0 H.out hoff; have e3 := H7.out _ D3.out))
          all_goals
            clear d2 k2 e2 V2 bt2 D2 e3
            have e4 := H5.out _ D3.out
            go_wp2_with fail
            go_region_held3 (fun w'' => w''.cell? ⟨D, 0, none⟩ = some (.slice (some ⟨b, o, none⟩) rs.length c) ∧ w''.cell? ⟨K, 0, none⟩ = some (.func (.func 54) #[] #[.pointer (some ⟨D, 0, none⟩), .pointer (some ⟨A, 0, none⟩), .pointer (some ⟨K, 0, none⟩)]) ∧ w''.cell? ⟨b, o + x * 9 + 5, none⟩ = some (.slice ks.p KK.length ks.c))
              (first | exact ⟨d5, k5, e5⟩ | exact ⟨d3, k3, e4⟩)
              (first
                | (go_at_call 54; refine (ih ks.p ks.c KK ((sf ++ [x]) ++ S.flatMap (Tn.all f d)) va3 _ HK.out hKl EK.out bt3.drew V3.drew hz0.out).mono ?_; rintro e w5 ⟨rfl, bt5, va5, V5⟩; have d5 := V5.d; have k5 := V5.k; have e5 := H5.out _ (bt5.doc hB0 H.out hoff)))
            all_goals
              go_wp2_with fail
              go_roundw
              case rel => exact ⟨j + 1, va5, by omega, by go_num, bt5, by rw [F.out, E2.out]; exact V5⟩
              case measure => simp [intOf]; omega
      · obtain rfl : j = l.length := by omega
        rw [List.take_length] at hv
        go_wp2_with fail
        go_end0
        exact ⟨rfl, hbut, va, hv⟩
end Go.Proofs.Ytookcjdibpccpaa

/-
  THE WALK of dom.All.
-/
namespace Go.Proofs.Ytookcjdibpccpaa
open Go.RowKit

theorem blk_alloc {w : World} {g : Nat} {x : Obj} (h : w.heap[g]? = some x) (o : Obj) : (w.alloc o).heap[g]? = some x := by
  have hlt : g < w.heap.size := by
    apply Classical.byContradiction
    intro hn
    rw [Array.getElem?_eq_none (by omega)] at h
    cases h
  rw [heap_alloc_old w o hlt]
  exact h
theorem blk_new (w : World) (o : Obj) {n : Nat} (hn : w.heap.size = n) : (w.alloc o).heap[n]? = some o := by
  rw [← hn]
  exact heap_alloc_new w o

set_option maxHeartbeats 800000 in
theorem dall_any {w : World} {b o c : Nat} {rs : List Raw} {d : Tn.Dc} (hd : DocAt w b o c rs d) (hg : Tame d) (hls : ∀ j s, (Tn.liD d j s).length ≤ 1000) (n : Nat) (hn : Tn.lvD d n = true) :
    Calls Try.prog 35 #[.slice (some ⟨b, o, none⟩) rs.length c, .int .i64 (n : Int)] w fun e w' => ∃ v, e = .returned v ∧ OwnI w' w.heap.size v (Tn.all Tn.fuel d n) ∧ Below w.heap.size w w' := by
  have h0 : 0 < rs.length := by rw [hd.len]; exact hg.len.1
  have hoff : DocOff (w.heap.size + 1) b rs := doc_old hd h0 (by omega)
  have hst : ∀ (W : World) (a : Addr) (fn : Fn) (x y : Array Value), Sem.run Try.prog (store a (.func fn x y)) W = stored Try.prog W a (.func fn x y) .plain := fun W a fn x y => run_store Try.prog W a (.func fn x y) .plain rfl
  have hfew := hg.few Tn.fuel n
  have hlen := hg.len.2
  have hC : Calls Try.prog 54 #[.slice (some ⟨w.heap.size + 1 + 1 + 1, 0, none⟩) 1 1, .pointer (some ⟨w.heap.size, 0, none⟩), .pointer (some ⟨w.heap.size + 1, 0, none⟩), .pointer (some ⟨w.heap.size + 1 + 1, 0, none⟩)]
      ((((w.alloc (.cells #[.slice (some ⟨b, o, none⟩) rs.length c] 34)).alloc (.cells #[.slice none 0 0] 44)).alloc (.cells #[.func (.func 54) #[] #[.pointer (some ⟨w.heap.size, 0, none⟩), .pointer (some ⟨w.heap.size + 1, 0, none⟩), .pointer (some ⟨w.heap.size + 1 + 1, 0, none⟩)]] 67)).alloc (.cells #[.int .i64 (n : Int)] 3))
      fun e w' => e = .returned (.tuple #[]) ∧ Below w.heap.size w w' ∧ ∃ va', w'.cell? ⟨w.heap.size + 1, 0, none⟩ = some va' ∧ OwnI w' w.heap.size va' (Tn.all Tn.fuel d n) := by
    generalize hf67 : (Obj.cells #[.func (.func 54) #[] #[.pointer (some ⟨w.heap.size, 0, none⟩), .pointer (some ⟨w.heap.size + 1, 0, none⟩), .pointer (some ⟨w.heap.size + 1 + 1, 0, none⟩)]] 67) = o3
    have z1 : (w.alloc (.cells #[.slice (some ⟨b, o, none⟩) rs.length c] 34)).heap.size = w.heap.size + 1 := by simp
    have b1 := heap_alloc_new w (.cells #[.slice (some ⟨b, o, none⟩) rs.length c] 34)
    have B1 := (Below.refl w.heap.size w).alloc (Nat.le_refl _) (.cells #[.slice (some ⟨b, o, none⟩) rs.length c] 34)
    generalize w.alloc (.cells #[.slice (some ⟨b, o, none⟩) rs.length c] 34) = w1 at *
    have z2 : (w1.alloc (.cells #[.slice none 0 0] 44)).heap.size = w.heap.size + 2 := by simp [z1]
    have b2 := blk_new w1 (.cells #[.slice none 0 0] 44) z1
    have b12 := blk_alloc b1 (.cells #[.slice none 0 0] 44)
    have B2 := B1.alloc (by omega) (.cells #[.slice none 0 0] 44)
    generalize w1.alloc (.cells #[.slice none 0 0] 44) = w2 at *
    have z3 : (w2.alloc o3).heap.size = w.heap.size + 3 := by simp [z2]
    have b3 := blk_new w2 o3 z2
    have b23 := blk_alloc b2 o3
    have b13 := blk_alloc b12 o3
    have B3 := B2.alloc (by omega) o3
    generalize w2.alloc o3 = w3 at *
    have z4 : (w3.alloc (.cells #[.int .i64 (n : Int)] 3)).heap.size = w.heap.size + 4 := by simp [z3]
    have b4 := blk_new w3 (.cells #[.int .i64 (n : Int)] 3) z3
    have b34 := blk_alloc b3 (.cells #[.int .i64 (n : Int)] 3)
    have b24 := blk_alloc b23 (.cells #[.int .i64 (n : Int)] 3)
    have b14 := blk_alloc b13 (.cells #[.int .i64 (n : Int)] 3)
    have B4 := B3.alloc (by omega) (.cells #[.int .i64 (n : Int)] 3)
    generalize w3.alloc (.cells #[.int .i64 (n : Int)] 3) = w4 at *
    subst hf67
    have hd4 := hd.keeps (keeps_below B4 (Nat.le_refl _))
    refine (all1_any (w0 := w4) (D := w.heap.size) (A := w.heap.size + 1) (K := w.heap.size + 1 + 1) (B := w.heap.size + 4) z4 hd4 hoff (by omega) (by omega) (by omega) (by omega) (by omega) hls Tn.fuel (some ⟨w.heap.size + 1 + 1 + 1, 0, none⟩) 1 [n] [] (.slice none 0 0) w4 ?_ (by simp) ?_ (But.refl _ _ _) ?_ ?_).mono ?_
    · intro j hj
      have hj0 : j = 0 := by simp at hj; omega
      subst hj0
      exact ⟨_, 0, rfl, by omega, by simp [World.cell?, b4]⟩
    · intro k hk
      simp at hk
      subst hk
      exact hg.ends _ hn
    · exact ⟨by simp [World.cell?, b14], by simp [World.cell?, b34], by simp [World.cell?, b24], by simp [World.frozen?, b24], OwnI.nil _ _⟩
    · simp
      omega
    · rintro e w' ⟨rfl, hbut, va', V⟩
      refine ⟨rfl, B4.trans (hbut.below (by omega) (by omega)), va', V.a, ?_⟩
      have := V.own
      simp only [List.nil_append, List.flatMap_cons, List.flatMap_nil, List.append_nil] at this
      obtain ⟨q1, q2⟩ := this
      refine ⟨q1, ?_⟩
      rcases q2 with q2 | ⟨g, cap, cur, e, q3, q4⟩
      · exact Or.inl q2
      · exact Or.inr ⟨g, cap, cur, e, by omega, q4⟩
  clear hd hoff
  go_enter Try.func35, Try.ntmps35
  go_wp2_with (go_at_call 54; refine hC.mono ?_; rintro e w9 ⟨rfl, hb9, va9, hc9, ho9⟩)
  go_ret
  exact ⟨_, rfl, ho9, hb9⟩
end Go.Proofs.Ytookcjdibpccpaa

/-
  THE WALKS of dom.Find: its own function, the search, and itself.
-/
namespace Go.Proofs.Ytookcjdibpccpaa
open Go.RowKit

set_option maxHeartbeats 800000 in
theorem dattr_no {w : World} {b o c : Nat} {rs : List Raw} {d : Tn.Dc} (hd : DocAt w b o c rs d) (n : Int) (hn : Tn.isN d n true = false) (name : ByteArray) :
    Calls Try.prog 37 #[.slice (some ⟨b, o, none⟩) rs.length c, .int .i64 n, .string name] w fun e w' => e = .returned (.tuple #[.string ⟨#[]⟩, .bool false]) ∧ w' = w := by
  have H : Hid (DocAt w b o c rs d) := hd
  clear hd
  go_enter Try.func37, Try.ntmps37
  go_wp2_with (go_at_call 26; refine (dis_any H.out _ _).mono ?_; rintro e w' ⟨rfl, hww⟩; subst hww; rw [hn])
  go_ret2
  exact ⟨rfl, rfl⟩

def idT : ByteArray := ⟨#[105, 100]⟩
/-- the attribute id of a node -/
def idOf (d : Tn.Dc) (k : Nat) : Option ByteArray := if Tn.isN d (k : Int) true then Tn.attrOf (Tn.nd d k).attrs idT else none

theorem dattr_id {w : World} {b o c : Nat} {rs : List Raw} {d : Tn.Dc} (hd : DocAt w b o c rs d) (n : Nat) (hr : Rising (Tn.nd d n).attrs) (hal : (Tn.nd d n).attrs.length ≤ 1000) :
    Calls Try.prog 37 #[.slice (some ⟨b, o, none⟩) rs.length c, .int .i64 (n : Int), .string ⟨#[105, 100]⟩] w fun e w' =>
      e = .returned (.tuple #[.string ((idOf d n).getD ⟨#[]⟩), .bool (idOf d n).isSome]) ∧ Below w.heap.size w w' := by
  unfold idOf
  cases hn : Tn.isN d (n : Int) true with
  | true =>
    rw [if_pos rfl]
    exact dattr_yes hd n hn hr hal idT
  | false =>
    rw [if_neg (by simp)]
    refine (dattr_no hd n hn _).mono ?_
    rintro e w' ⟨rfl, rfl⟩
    exact ⟨rfl, Below.refl _ _⟩

/-- the test of Find -/
def hitD (d : Tn.Dc) (id : ByteArray) (sc : Int) (k : Nat) : Bool := (idOf d k).isSome && (((idOf d k).getD ⟨#[]⟩).toList == id.toList) && (scopeD d (k : Int) == sc)

set_option maxHeartbeats 1600000 in
theorem find1_any {w : World} {b o c D I C : Nat} {rs : List Raw} {d : Tn.Dc} {id : ByteArray} {sc : Int} (hd : DocAt w b o c rs d) (hg : Tame d) (hD : w.cell? ⟨D, 0, none⟩ = some (.slice (some ⟨b, o, none⟩) rs.length c)) (hI : w.cell? ⟨I, 0, none⟩ = some (.string id)) (hC : w.cell? ⟨C, 0, none⟩ = some (.int .i64 sc))
    (k : Nat) (hr : Rising (Tn.nd d k).attrs) (hal : (Tn.nd d k).attrs.length ≤ 1000) :
    Calls Try.prog 52 #[.int .i64 (k : Int), .pointer (some ⟨D, 0, none⟩), .pointer (some ⟨I, 0, none⟩), .pointer (some ⟨C, 0, none⟩)] w fun e w' => e = .returned (.bool (hitD d id sc k)) ∧ Below w.heap.size w w' := by
  have H : Hid (DocAt w b o c rs d) := hd
  have hA := dattr_id hd k hr hal
  have HD : Hid (hitD d id sc k = ((idOf d k).isSome && (((idOf d k).getD ⟨#[]⟩).toList == id.toList) && (scopeD d (k : Int) == sc))) := rfl
  have hS : ∀ W, DocAt W b o c rs d → Calls Try.prog 32 #[.slice (some ⟨b, o, none⟩) rs.length c, .int .i64 (k : Int)] W fun e w' => e = .returned (.int .i64 (scopeD d (k : Int))) ∧ Below W.heap.size W w' := fun W h => dscope_any h hg k
  clear hd
  generalize hitD d id sc k = res at *
  generalize scopeD d (k : Int) = sk at *
  cases hx : (idOf d k).isSome with
  | false =>
    have E : Hid (res = false) := by show _ = _; rw [HD.out, hx]; rfl
    rw [hx] at hA
    clear hx HD
    generalize (idOf d k).getD ⟨#[]⟩ = vv at *
    go_enter Try.func52, Try.ntmps52
    go_wp2_with (go_at_call 37; refine hA.mono ?_; rintro e w9 ⟨rfl, hb9⟩)
    have d9 := keeps_below hb9 (Nat.le_refl _) _ _ hD
    have i9 := keeps_below hb9 (Nat.le_refl _) _ _ hI
    have c9 := keeps_below hb9 (Nat.le_refl _) _ _ hC
    go_quiet (fail)
    go_wp2_with fail
    go_ret
    exact ⟨by rw [E.out]; rfl, hb9.trans ⟨rfl, rfl, rfl, Nat.le_refl _, fun _ _ => rfl⟩⟩
  | true =>
    rw [hx] at hA HD
    clear hx
    generalize (idOf d k).getD ⟨#[]⟩ = vv at *
    cases hq : (vv.toList == id.toList) with
    | false =>
      have E : Hid (res = false) := by show _ = _; rw [HD.out, hq]; rfl
      clear HD
      go_enter Try.func52, Try.ntmps52
      go_wp2_with (go_at_call 37; refine hA.mono ?_; rintro e w9 ⟨rfl, hb9⟩)
      have d9 := keeps_below hb9 (Nat.le_refl _) _ _ hD
      have i9 := keeps_below hb9 (Nat.le_refl _) _ _ hI
      have c9 := keeps_below hb9 (Nat.le_refl _) _ _ hC
      go_quiet (fail)
      go_wp2_with fail
      go_ret
      exact ⟨by rw [E.out]; rfl, hb9.trans ⟨rfl, rfl, rfl, Nat.le_refl _, fun _ _ => rfl⟩⟩
    | true =>
      have E : Hid (res = (sk == sc)) := by show _ = _; rw [HD.out, hq]; rfl
      clear HD
      go_enter Try.func52, Try.ntmps52
      go_wp2_with (go_at_call 37; refine hA.mono ?_; rintro e w9 ⟨rfl, hb9⟩)
      have J9 := keeps_below hb9 (Nat.le_refl _)
      have d9 := J9 _ _ hD
      have i9 := J9 _ _ hI
      have c9 := J9 _ _ hC
      have D9 : Hid (DocAt w9 b o c rs d) := H.out.keeps J9
      have SS : ∀ w'', Keeps w9 w'' → (fun w'' => w''.cell? ⟨D, 0, none⟩ = some (.slice (some ⟨b, o, none⟩) rs.length c) ∧ w''.cell? ⟨I, 0, none⟩ = some (.string id) ∧ w''.cell? ⟨C, 0, none⟩ = some (.int .i64 sc)) w'' := fun w'' hk => ⟨hk _ _ d9, hk _ _ i9, hk _ _ c9⟩
      go_region_held3 (fun w'' => w''.cell? ⟨D, 0, none⟩ = some (.slice (some ⟨b, o, none⟩) rs.length c) ∧ w''.cell? ⟨I, 0, none⟩ = some (.string id) ∧ w''.cell? ⟨C, 0, none⟩ = some (.int .i64 sc))
        ((apply SS; first | exact Keeps.refl _ | assumption | exact keeps_drew (Keeps.refl _)))
        (first
          | (go_at_call 32; refine (hS _ (D9.out.keeps (keeps_drew (Keeps.refl _)))).mono ?_; rintro e wa ⟨rfl, hba⟩; have Ja : Keeps w9 wa := (keeps_drew (Keeps.refl w9)).trans (keeps_below hba (Nat.le_refl _))))
      all_goals
        go_wp2_with fail
        go_ret
        exact ⟨by rw [E.out]; rfl, hb9.trans ((Below.refl _ w9).drew.trans (hba.mono hb9.size))⟩
end Go.Proofs.Ytookcjdibpccpaa

/-
  THE WALKS of the search in dom.Find, and of dom.Find.
-/
namespace Go.Proofs.Ytookcjdibpccpaa
open Go.RowKit

def idxI (p : Nat → Bool) (l : List Nat) : Int := match l.findIdx? p with
  | some i => (i : Int)
  | none => -1

theorem idxI_some {p : Nat → Bool} {l : List Nat} {j : Nat} (hj : j < l.length) (hp : p l[j] = true) (hn : ∀ k ∈ l.take j, p k = false) : idxI p l = (j : Int) := by
  have : l.findIdx? p = some j := by
    rw [List.findIdx?_eq_some_iff_getElem]
    refine ⟨hj, hp, fun k hk => ?_⟩
    have := hn l[k] (List.mem_take_iff_getElem.mpr ⟨k, by omega, rfl⟩)
    simp [this]
  unfold idxI
  rw [this]
theorem idxI_none {p : Nat → Bool} {l : List Nat} (hn : ∀ k ∈ l, p k = false) : idxI p l = -1 := by
  have : l.findIdx? p = none := by
    rw [List.findIdx?_eq_none_iff]
    intro x hx
    exact hn x hx
  unfold idxI
  rw [this]

set_option maxHeartbeats 1600000 in
theorem findIdx_any {w : World} {b o c D I C : Nat} {rs : List Raw} {d : Tn.Dc} {id : ByteArray} {sc : Int} (hd : DocAt w b o c rs d) (hg : Tame d) (hD : w.cell? ⟨D, 0, none⟩ = some (.slice (some ⟨b, o, none⟩) rs.length c)) (hI : w.cell? ⟨I, 0, none⟩ = some (.string id)) (hC : w.cell? ⟨C, 0, none⟩ = some (.int .i64 sc))
    (hr : ∀ k, Rising (Tn.nd d k).attrs) (hal : ∀ k, (Tn.nd d k).attrs.length ≤ 1000) {vl : Value} {l : List Nat} (hl : IntsAt w vl l) :
    Calls Try.prog 51 #[vl, .func (.func 52) #[] #[.pointer (some ⟨D, 0, none⟩), .pointer (some ⟨I, 0, none⟩), .pointer (some ⟨C, 0, none⟩)]] w fun e w' => e = .returned (.int .i64 (idxI (hitD d id sc) l)) ∧ Below w.heap.size w w' := by
  obtain ⟨p, cc, rfl, h1, h2, _, hat⟩ := hl.at
  have T : Hid (∀ j (hj : j < l.length), ∃ b o, p = some ⟨b, o, none⟩ ∧ w.cell? ⟨b, o + j, none⟩ = some (.int .i64 (l[j] : Int))) := hat
  clear hat hl
  have H : Hid (DocAt w b o c rs d) := hd
  have HA : Hid (∀ W (k : Nat), Keeps w W → Calls Try.prog 52 #[.int .i64 (k : Int), .pointer (some ⟨D, 0, none⟩), .pointer (some ⟨I, 0, none⟩), .pointer (some ⟨C, 0, none⟩)] W fun e w' => e = .returned (.bool (hitD d id sc k)) ∧ Below W.heap.size W w') :=
    fun W k hk => find1_any (hd.keeps hk) hg (hk _ _ hD) (hk _ _ hI) (hk _ _ hC) k (hr k) (hal k)
  clear hd hr hal
  go_enter Try.func51, Try.ntmps51
  go_wp2_with fail
  go_loopw [8] (fun i wr => ∃ j : Nat, j ≤ l.length ∧ i = .int .i64 j ∧ Hid (∀ k ∈ l.take j, hitD d id sc k = false) ∧ Below w.heap.size w wr) (fun i _ => l.length - (intOf i).toNat)
  case atStart => exact ⟨0, Nat.zero_le _, rfl, fun k hk => by simp at hk, Below.refl _ _⟩
  case round =>
    obtain ⟨j, hj, rfl, NO, hnx⟩ := hrel
    by_cases hlt : j < l.length
    · obtain ⟨e1, o1, rfl, k1⟩ := T.out j hlt
      have JR := keeps_below hnx (Nat.le_refl _)
      have y1 := JR _ _ k1
      clear k1
      have hF := HA.out wr l[j] JR
      cases hh : hitD d id sc l[j] with
      | true =>
        have E : Hid (idxI (hitD d id sc) l = (j : Int)) := idxI_some hlt hh NO.out
        rw [hh] at hF
        clear hh
        generalize l[j] = x at *
        go_wp2_with (go_at_call 52; refine hF.mono ?_; rintro e w9 ⟨rfl, hb9⟩)
        go_ret
        exact ⟨by rw [E.out]; rfl, hnx.trans (hb9.mono hnx.size)⟩
      | false =>
        have N2 : Hid (∀ k ∈ l.take (j + 1), hitD d id sc k = false) := by
          intro k hk
          rw [List.take_succ_eq_append_getElem hlt, List.mem_append, List.mem_singleton] at hk
          rcases hk with hk | rfl
          · exact NO.out k hk
          · exact hh
        rw [hh] at hF
        clear hh
        generalize l[j] = x at *
        go_wp2_with (go_at_call 52; refine hF.mono ?_; rintro e w9 ⟨rfl, hb9⟩)
        go_roundw
        case rel => exact ⟨j + 1, by omega, by go_num, N2, hnx.trans (hb9.mono hnx.size)⟩
        case measure => simp [intOf]; omega
    · obtain rfl : j = l.length := by omega
      have E : Hid (idxI (hitD d id sc) l = -1) := idxI_none (fun k hk => NO.out k (by rw [List.take_length]; exact hk))
      go_wp2_with fail
      go_ret
      exact ⟨by rw [E.out]; rfl, hnx⟩


theorem cell_box (w : World) (v : Value) {t : Nat} : (w.alloc (.cells #[v] t)).cell? ⟨w.heap.size, 0, none⟩ = some v := by
  rw [World.cell?_alloc_new]; rfl
theorem bx_new {w w' : World} {v : Value} {t : Nat} (h : Below (w.alloc (.cells #[v] t)).heap.size (w.alloc (.cells #[v] t)) w') : w'.cell? ⟨w.heap.size, 0, none⟩ = some v ∧ w'.frozen? ⟨w.heap.size, 0, none⟩ = false := by
  refine ⟨keeps_below h (Nat.le_refl _) _ _ (cell_box _ _), ?_⟩
  rw [h.frozen (by simp), box_frozen]
theorem bx_newd {w w' : World} {v : Value} {t : Nat} (h : Below (w.alloc (.cells #[v] t)).drew.heap.size (w.alloc (.cells #[v] t)).drew w') : w'.cell? ⟨w.heap.size, 0, none⟩ = some v ∧ w'.frozen? ⟨w.heap.size, 0, none⟩ = false := by
  refine ⟨keeps_below h (Nat.le_refl _) _ _ (cell_box _ _), ?_⟩
  rw [h.frozen (by simp), World.frozen?_drew, box_frozen]
theorem bx_set {w w' : World} {u v : Value} {t : Nat} (h : Below ((w.alloc (.cells #[v] t)).setCell ⟨w.heap.size, 0, none⟩ u).heap.size ((w.alloc (.cells #[v] t)).setCell ⟨w.heap.size, 0, none⟩ u) w') : w'.cell? ⟨w.heap.size, 0, none⟩ = some u ∧ w'.frozen? ⟨w.heap.size, 0, none⟩ = false := by
  refine ⟨keeps_below h (Nat.le_refl _) _ _ (World.cell?_setCell_same _ _ _ (cell_box _ _)), ?_⟩
  rw [h.frozen (by simp), World.frozen?_setCell, box_frozen]
theorem bx_old {w w' : World} {C : Nat} {v : Value} (h : Below w.heap.size w w') (hx : w.cell? ⟨C, 0, none⟩ = some v) (hf : w.frozen? ⟨C, 0, none⟩ = false) : w'.cell? ⟨C, 0, none⟩ = some v ∧ w'.frozen? ⟨C, 0, none⟩ = false := by
  refine ⟨keeps_below h (Nat.le_refl _) _ _ hx, ?_⟩
  rw [h.frozen (lt_of_cell hx), hf]

theorem idx_cases (p : Nat → Bool) (l : List Nat) : (idxI p l = -1 ∧ l.find? p = none) ∨ ∃ j, ∃ hj : j < l.length, idxI p l = (j : Int) ∧ l.find? p = some l[j] := by
  cases h : l.findIdx? p with
  | none =>
    left
    refine ⟨by unfold idxI; rw [h], ?_⟩
    rw [List.find?_eq_none]
    intro x hx
    have := List.findIdx?_eq_none_iff.mp h x hx
    simp [this]
  | some j =>
    right
    obtain ⟨hj, hp, hn⟩ := List.findIdx?_eq_some_iff_getElem.mp h
    refine ⟨j, hj, by unfold idxI; rw [h], ?_⟩
    rw [List.find?_eq_some_iff_getElem]
    exact ⟨hp, j, hj, rfl, fun k hk => by have := hn k hk; simpa using this⟩

/-- what Find tells -/
def findD (d : Tn.Dc) (n : Int) (id : ByteArray) : Int :=
  if id.toList.isEmpty = true ∨ Tn.isN d n false = false then -1
  else match (Tn.all Tn.fuel d 0).find? (hitD d id (scopeD d n)) with
    | some k => (k : Int)
    | none => -1

set_option maxHeartbeats 1600000 in
theorem dfind_any {w : World} {b o c : Nat} {rs : List Raw} {d : Tn.Dc} (hd : DocAt w b o c rs d) (hg : Tame d) (hls : ∀ j s, (Tn.liD d j s).length ≤ 1000) (h0 : Tn.lvD d 0 = true) (hr : ∀ k, Rising (Tn.nd d k).attrs) (hal : ∀ k, (Tn.nd d k).attrs.length ≤ 1000) (n : Int) (id : ByteArray) :
    Calls Try.prog 30 #[.slice (some ⟨b, o, none⟩) rs.length c, .int .i64 n, .string id] w fun e w' => e = .returned (.int .i64 (findD d n id)) ∧ Below w.heap.size w w' := by
  have H : Hid (DocAt w b o c rs d) := hd
  have K2 : Keeps w ((w.alloc (.cells #[.slice (some ⟨b, o, none⟩) rs.length c] 34)).alloc (.cells #[.string id] 9)) := keeps_alloc' _ (keeps_alloc _ _)
  have B2 : Below w.heap.size w ((w.alloc (.cells #[.slice (some ⟨b, o, none⟩) rs.length c] 34)).alloc (.cells #[.string id] 9)) := ((Below.refl w.heap.size w).alloc (Nat.le_refl _) _).alloc (by simp) _
  clear hd
  cases hem : id.toList.isEmpty with
  | true =>
    have E : Hid (findD d n id = -1) := by show _ = _; unfold findD; rw [if_pos (Or.inl hem)]
    go_enter Try.func30, Try.ntmps30
    go_wp2_with fail
    go_ret
    exact ⟨by rw [E.out]; rfl, B2⟩
  | false =>
    cases his : Tn.isN d n false with
    | false =>
      have E : Hid (findD d n id = -1) := by show _ = _; unfold findD; rw [if_pos (Or.inr his)]
      go_enter Try.func30, Try.ntmps30
      go_wp2_with (go_at_call 26; refine (dis_any (H.out.keeps K2) _ _).mono ?_; rintro e w' ⟨rfl, hww⟩; subst hww; rw [his])
      go_ret
      exact ⟨by rw [E.out]; rfl, B2⟩
    | true =>
      have E : Hid (findD d n id = match (Tn.all Tn.fuel d 0).find? (hitD d id (scopeD d n)) with
          | some k => (k : Int)
          | none => -1) := by show _ = _; unfold findD; rw [if_neg (by simp [hem, his])]
      have q0 : ((w.alloc (.cells #[.slice (some ⟨b, o, none⟩) rs.length c] 34)).alloc (.cells #[.string id] 9)).cell? ⟨w.heap.size, 0, none⟩ = some (.slice (some ⟨b, o, none⟩) rs.length c) := by rw [World.cell?_alloc2_first]; rfl
      have q1 : ((w.alloc (.cells #[.slice (some ⟨b, o, none⟩) rs.length c] 34)).alloc (.cells #[.string id] 9)).cell? ⟨w.heap.size + 1, 0, none⟩ = some (.string id) := by rw [World.cell?_alloc2_new]; rfl
      go_enter Try.func30, Try.ntmps30
      go_upto_region 3 with (go_at_call 26; refine (dis_any (H.out.keeps K2) _ _).mono ?_; rintro e w' ⟨rfl, hww⟩; subst hww; rw [his])
      have B2' := B2
      have D2 : Hid (DocAt ((w.alloc (.cells #[.slice (some ⟨b, o, none⟩) rs.length c] 34)).alloc (.cells #[.string id] 9)) b o c rs d) := H.out.keeps K2
      generalize ((w.alloc (.cells #[.slice (some ⟨b, o, none⟩) rs.length c] 34)).alloc (.cells #[.string id] 9)) = w2 at *
      have z2 := B2.size
      have SS : ∀ w'', Keeps w2 w'' → (fun w'' => w''.cell? ⟨w.heap.size, 0, none⟩ = some (.slice (some ⟨b, o, none⟩) rs.length c)) w'' := fun w'' hk => hk _ _ q0
      go_region_held3 (fun w'' => w''.cell? ⟨w.heap.size, 0, none⟩ = some (.slice (some ⟨b, o, none⟩) rs.length c))
        ((apply SS; repeat (first | assumption | exact Keeps.refl _ | apply keeps_drew | apply keeps_alloc' | (refine keeps_set ?_ _ _ (by first | exact Nat.le_refl _ | omega | (simp at *; omega))))))
        (first
          | (go_at_call 32; refine (dscope_any (D2.out.keeps (by (repeat (first | assumption | exact Keeps.refl _ | apply keeps_drew | apply keeps_alloc' | (refine keeps_set ?_ _ _ (by first | exact Nat.le_refl _ | omega | (simp at *; omega))))))) hg n).mono ?_; rintro e wa ⟨rfl, hba⟩; have Ja : Keeps w2 wa := Keeps.trans (by (repeat (first | assumption | exact Keeps.refl _ | apply keeps_drew | apply keeps_alloc' | (refine keeps_set ?_ _ _ (by first | exact Nat.le_refl _ | omega | (simp at *; omega)))))) (keeps_below hba (Nat.le_refl _)); have za := hba.size; try (have hxa := bx_newd hba; obtain ⟨xa, fa⟩ := hxa))
          | (go_at_call 35; refine (dall_any (n := 0) (D2.out.keeps (by (repeat (first | assumption | exact Keeps.refl _ | apply keeps_drew | apply keeps_alloc' | (refine keeps_set ?_ _ _ (by first | exact Nat.le_refl _ | omega | (simp at *; omega))))))) hg hls h0).mono ?_; rintro e wb ⟨v, rfl, hov, hbb⟩; have Jb : Keeps w2 wb := Keeps.trans (by (repeat (first | assumption | exact Keeps.refl _ | apply keeps_drew | apply keeps_alloc' | (refine keeps_set ?_ _ _ (by first | exact Nat.le_refl _ | omega | (simp at *; omega)))))) (keeps_below hbb (Nat.le_refl _)); have zb := hbb.size; first | (have hxb := bx_new hbb; obtain ⟨xb, fb⟩ := hxb) | (have hxb := bx_old hbb xa fa; obtain ⟨xb, fb⟩ := hxb) | (have hxb := bx_set hbb; obtain ⟨xb, fb⟩ := hxb) | (have nobox := trivial)))
      · have XC : (wb.alloc (.cells #[.int .i64 (scopeD d n)] 3)).cell? ⟨wb.heap.size, 0, none⟩ = some (.int .i64 (scopeD d n)) := cell_box _ _
        have KW : Keeps w2 (wb.alloc (.cells #[.int .i64 (scopeD d n)] 3)) := by (repeat (first | assumption | exact Keeps.refl _ | apply keeps_drew | apply keeps_alloc' | (refine keeps_set ?_ _ _ (by first | exact Nat.le_refl _ | omega | (simp at *; omega)))))
        have BW : Below w.heap.size w (wb.alloc (.cells #[.int .i64 (scopeD d n)] 3)) := ((B2.trans ((Below.refl _ _).drew.trans (hba.mono z2))).trans (hbb.mono (by simp at za; omega))).alloc (by simp at za; omega) _
        have IW : IntsAt (wb.alloc (.cells #[.int .i64 (scopeD d n)] 3)) v (Tn.all Tn.fuel d 0) := ints_of_owns (hov.alloc _)
        generalize (wb.alloc (.cells #[.int .i64 (scopeD d n)] 3)) = W at *
        clear hba hbb Ja Jb za zb SS hov K2 B2 B2'
        obtain ⟨p, cc, rfl, i1, i2, _, hat⟩ := IW.at
        have hF := findIdx_any (D2.out.keeps KW) hg (KW _ _ q0) (KW _ _ q1) XC hr hal IW
        rcases idx_cases (hitD d id (scopeD d n)) (Tn.all Tn.fuel d 0) with ⟨x1, x2⟩ | ⟨j, hj, x1, x2⟩
        · rw [x1] at hF
          have E2 : Hid (findD d n id = -1) := by show _ = _; rw [E.out, x2]
          clear x1 x2 E hat IW
          generalize scopeD d n = sc at *
          go_wp2_with (go_at_call 51; refine hF.mono ?_; rintro e w9 ⟨rfl, hb9⟩)
          go_ret
          exact ⟨by rw [E2.out]; rfl, BW.trans (hb9.mono BW.size)⟩
        · rw [x1] at hF
          have E2 : Hid (findD d n id = ((Tn.all Tn.fuel d 0)[j] : Nat)) := by show _ = _; rw [E.out, x2]
          obtain ⟨e1, o1, rfl, k1⟩ := hat j hj
          clear x1 x2 E hat IW
          generalize scopeD d n = sc at *
          generalize (Tn.all Tn.fuel d 0)[j] = y at *
          go_wp2_with (go_at_call 51; refine hF.mono ?_; rintro e w9 ⟨rfl, hb9⟩; have k9 := keeps_below hb9 (Nat.le_refl _) _ _ k1)
          go_ret
          exact ⟨by rw [E2.out]; rfl, BW.trans (hb9.mono BW.size)⟩
      · have XC : (wb.setCell ⟨wa.heap.size, 0, none⟩ (.int .i64 (scopeD d n))).cell? ⟨wa.heap.size, 0, none⟩ = some (.int .i64 (scopeD d n)) := World.cell?_setCell_same _ _ _ xb
        have KW : Keeps w2 (wb.setCell ⟨wa.heap.size, 0, none⟩ (.int .i64 (scopeD d n))) := by (repeat (first | assumption | exact Keeps.refl _ | apply keeps_drew | apply keeps_alloc' | (refine keeps_set ?_ _ _ (by first | exact Nat.le_refl _ | omega | (simp at *; omega)))))
        have BW : Below w.heap.size w (wb.setCell ⟨wa.heap.size, 0, none⟩ (.int .i64 (scopeD d n))) := (((B2.trans ((Below.refl _ _).drew.trans (hba.mono z2))).alloc (by simp at za; omega) _).trans (hbb.mono (by simp at za ⊢; omega))).setCell (p := ⟨wa.heap.size, 0, none⟩) (by simp at za ⊢; omega) _
        have IW : IntsAt (wb.setCell ⟨wa.heap.size, 0, none⟩ (.int .i64 (scopeD d n))) v (Tn.all Tn.fuel d 0) := ints_of_owns (hov.set (by simp) _)
        generalize (wb.setCell ⟨wa.heap.size, 0, none⟩ (.int .i64 (scopeD d n))) = W at *
        clear hba hbb Ja Jb za zb SS hov K2 B2 B2'
        obtain ⟨p, cc, rfl, i1, i2, _, hat⟩ := IW.at
        have hF := findIdx_any (D2.out.keeps KW) hg (KW _ _ q0) (KW _ _ q1) XC hr hal IW
        rcases idx_cases (hitD d id (scopeD d n)) (Tn.all Tn.fuel d 0) with ⟨x1, x2⟩ | ⟨j, hj, x1, x2⟩
        · rw [x1] at hF
          have E2 : Hid (findD d n id = -1) := by show _ = _; rw [E.out, x2]
          clear x1 x2 E hat IW
          generalize scopeD d n = sc at *
          go_wp2_with (go_at_call 51; refine hF.mono ?_; rintro e w9 ⟨rfl, hb9⟩)
          go_ret
          exact ⟨by rw [E2.out]; rfl, BW.trans (hb9.mono BW.size)⟩
        · rw [x1] at hF
          have E2 : Hid (findD d n id = ((Tn.all Tn.fuel d 0)[j] : Nat)) := by show _ = _; rw [E.out, x2]
          obtain ⟨e1, o1, rfl, k1⟩ := hat j hj
          clear x1 x2 E hat IW
          generalize scopeD d n = sc at *
          generalize (Tn.all Tn.fuel d 0)[j] = y at *
          go_wp2_with (go_at_call 51; refine hF.mono ?_; rintro e w9 ⟨rfl, hb9⟩; have k9 := keeps_below hb9 (Nat.le_refl _) _ _ k1)
          go_ret
          exact ⟨by rw [E2.out]; rfl, BW.trans (hb9.mono BW.size)⟩
      · have XC : (wb.setCell ⟨w2.heap.size, 0, none⟩ (.int .i64 (scopeD d n))).cell? ⟨w2.heap.size, 0, none⟩ = some (.int .i64 (scopeD d n)) := World.cell?_setCell_same _ _ _ xb
        have KW : Keeps w2 (wb.setCell ⟨w2.heap.size, 0, none⟩ (.int .i64 (scopeD d n))) := by (repeat (first | assumption | exact Keeps.refl _ | apply keeps_drew | apply keeps_alloc' | (refine keeps_set ?_ _ _ (by first | exact Nat.le_refl _ | omega | (simp at *; omega)))))
        have BW : Below w.heap.size w (wb.setCell ⟨w2.heap.size, 0, none⟩ (.int .i64 (scopeD d n))) := (((B2.alloc z2 _).drew.trans (hba.mono (by simp; omega))).trans (hbb.mono (by simp at za; omega))).setCell (p := ⟨w2.heap.size, 0, none⟩) z2 _
        have IW : IntsAt (wb.setCell ⟨w2.heap.size, 0, none⟩ (.int .i64 (scopeD d n))) v (Tn.all Tn.fuel d 0) := ints_of_owns (hov.set (by simp at za; omega) _)
        generalize (wb.setCell ⟨w2.heap.size, 0, none⟩ (.int .i64 (scopeD d n))) = W at *
        clear hba hbb Ja Jb za zb SS hov K2 B2 B2'
        obtain ⟨p, cc, rfl, i1, i2, _, hat⟩ := IW.at
        have hF := findIdx_any (D2.out.keeps KW) hg (KW _ _ q0) (KW _ _ q1) XC hr hal IW
        rcases idx_cases (hitD d id (scopeD d n)) (Tn.all Tn.fuel d 0) with ⟨x1, x2⟩ | ⟨j, hj, x1, x2⟩
        · rw [x1] at hF
          have E2 : Hid (findD d n id = -1) := by show _ = _; rw [E.out, x2]
          clear x1 x2 E hat IW
          generalize scopeD d n = sc at *
          go_wp2_with (go_at_call 51; refine hF.mono ?_; rintro e w9 ⟨rfl, hb9⟩)
          go_ret
          exact ⟨by rw [E2.out]; rfl, BW.trans (hb9.mono BW.size)⟩
        · rw [x1] at hF
          have E2 : Hid (findD d n id = ((Tn.all Tn.fuel d 0)[j] : Nat)) := by show _ = _; rw [E.out, x2]
          obtain ⟨e1, o1, rfl, k1⟩ := hat j hj
          clear x1 x2 E hat IW
          generalize scopeD d n = sc at *
          generalize (Tn.all Tn.fuel d 0)[j] = y at *
          go_wp2_with (go_at_call 51; refine hF.mono ?_; rintro e w9 ⟨rfl, hb9⟩; have k9 := keeps_below hb9 (Nat.le_refl _) _ _ k1)
          go_ret
          exact ⟨by rw [E2.out]; rfl, BW.trans (hb9.mono BW.size)⟩
end Go.Proofs.Ytookcjdibpccpaa

/-
  WHAT package flat tells, in plain mathematics; the walks of flat.isSlotted, isSlot.
-/
namespace Go.Proofs.Ytookcjdibpccpaa
open Go.RowKit

/-- an attribute of a node -/
def attrN (d : Tn.Dc) (k : Int) (name : ByteArray) : Option ByteArray := if Tn.isN d k true then Tn.attrOf (Tn.nd d k.toNat).attrs name else none
def valN (d : Tn.Dc) (k : Int) (name : ByteArray) : ByteArray := (attrN d k name).getD ⟨#[]⟩
def slotB : ByteArray := ⟨#[115, 108, 111, 116]⟩
def nameB : ByteArray := ⟨#[110, 97, 109, 101]⟩
theorem slotB_list : slotB.toList = [115, 108, 111, 116] := by rw [ByteArray.toList_eq]; rfl
def isSlotD (d : Tn.Dc) (n : Int) : Bool := Tn.isN d n true && ((Tn.nd d n.toNat).tag.toList == slotB.toList)
def slottedD (d : Tn.Dc) (n : Int) : Bool := Tn.isN d n false && !(Tn.nd d n.toNat).inS && Tn.isN d (Tn.nd d n.toNat).up true && (Tn.nd d (Tn.nd d n.toNat).up.toNat).hasS
def fitsD (d : Tn.Dc) (want : ByteArray) (host : Int) (k : Nat) : Bool := isSlotD d (k : Int) && ((valN d (k : Int) nameB).toList == want.toList) && (scopeD d (k : Int) == host)
def orI : Option Nat → Int
  | some k => (k : Int)
  | none => -1
def slotD (d : Tn.Dc) (n : Int) : Int :=
  if slottedD d n then orI ((Tn.all Tn.fuel d (Tn.nd d n.toNat).up.toNat).find? (fitsD d (valN d n slotB) (Tn.nd d n.toNat).up)) else -1
def givenD (d : Tn.Dc) (n : Int) : List Nat := if isSlotD d n then (Tn.nd d (scopeD d n).toNat).kids.filter (fun k => slotD d (k : Int) == n) else []
def kidsD (d : Tn.Dc) (n : Int) : List Nat :=
  if Tn.isN d n false then
    if (Tn.nd d n.toNat).hasS then (Tn.nd d n.toNat).shadow
    else if (givenD d n).isEmpty then (Tn.nd d n.toNat).kids else givenD d n
  else []
def upF (d : Tn.Dc) (n : Int) : Int :=
  if Tn.isN d n false then
    if (kidsD d (Tn.nd d n.toNat).up).contains n.toNat then (Tn.nd d n.toNat).up
    else if (kidsD d (slotD d n)).contains n.toNat then slotD d n else -1
  else -1
def shownF : Nat → Tn.Dc → Nat → List Nat
  | 0, _, _ => []
  | f + 1, d, n => n :: (kidsD d (n : Int)).flatMap (shownF f d)

/-- what the walks ask of a document -/
structure Okd (d : Tn.Dc) : Prop where
  tame : Tame d
  small : ∀ j s, (Tn.liD d j s).length ≤ 1000
  rise : ∀ k, Rising (Tn.nd d k).attrs
  few : ∀ k, (Tn.nd d k).attrs.length ≤ 1000
  root : Tn.lvD d 0 = true
  /-- each scope is a node -/
  scope : ∀ k : Nat, Tn.lvD d k = true → ∃ s : Nat, scopeD d (k : Int) = (s : Int) ∧ Tn.lvD d s = true

theorem isN_true {d : Tn.Dc} {n : Int} (h : Tn.isN d n true = true) : Tn.isN d n false = true := by
  unfold Tn.isN at *
  simp at *
  exact h.1

theorem dattr_all {w : World} {b o c : Nat} {rs : List Raw} {d : Tn.Dc} (hd : DocAt w b o c rs d) (hg : Okd d) (n : Int) (name : ByteArray) :
    Calls Try.prog 37 #[.slice (some ⟨b, o, none⟩) rs.length c, .int .i64 n, .string name] w fun e w' =>
      e = .returned (.tuple #[.string (valN d n name), .bool (attrN d n name).isSome]) ∧ Below w.heap.size w w' := by
  unfold valN attrN
  cases hn : Tn.isN d n true with
  | true =>
    rw [if_pos rfl]
    obtain ⟨k, rfl, _, _⟩ := isN_nat (isN_true hn)
    rw [Int.toNat_natCast]
    exact dattr_yes hd k hn (hg.rise k) (hg.few k) name
  | false =>
    rw [if_neg (by simp)]
    refine (dattr_no hd n hn _).mono ?_
    rintro e w' ⟨rfl, rfl⟩
    exact ⟨rfl, Below.refl _ _⟩

end Go.Proofs.Ytookcjdibpccpaa

/-
  THE WALKS of slices.IndexFunc and slices.DeleteFunc at ints, whatever the function.
-/
namespace Go.Proofs.Ytookcjdibpccpaa
open Go.RowKit

theorem grow_below {a w w' : World} {row : Option Nat} (h : a.grownBy w row) (hb : Below w.heap.size w w') : a.grownBy w' row :=
  ⟨hb.os.trans h.os, hb.tape.trans h.tape, hb.output.trans h.output, Nat.le_trans h.size hb.size, fun k hk hr => (hb.block k (Nat.lt_of_lt_of_le hk h.size)).trans (h.block k hk hr)⟩
theorem grow_set {a w : World} {g : Nat} (h : a.grownBy w (some g)) (i : Nat) (u : Value) : a.grownBy (w.setCell ⟨g, i, none⟩ u) (some g) := by
  have hb : Below 0 w (w.setCell ⟨g, i, none⟩ u) := (Below.refl 0 w).setCell (Nat.zero_le _) u
  refine ⟨hb.os.trans h.os, hb.tape.trans h.tape, hb.output.trans h.output, Nat.le_trans h.size hb.size, fun k hk hr => ?_⟩
  have hk' : Below g w (w.setCell ⟨g, i, none⟩ u) := (Below.refl g w).setCell (Nat.le_refl _) u
  rw [← h.block k hk hr]
  exact heap_setCell_other _ _ _ _ (fun e => hr (by rw [e]))

/-- a function value of one int, that answers p, and lays only what is its own -/
def Tests (g : Nat) (lb : Array Value) (p : Nat → Bool) (W : World) : Prop :=
  ∀ k : Nat, Calls Try.prog g (#[.int .i64 (k : Int)] ++ lb) W fun e w' => e = .returned (.bool (p k)) ∧ Below W.heap.size W w'

set_option maxHeartbeats 1600000 in
theorem idxF_any {g : Nat} {lb : Array Value} {p : Nat → Bool} (eg : ∀ args w, (callFunc g args).run Try.prog w = .ok (.enter g args) w) {w : World} {vl : Value} {l : List Nat} (hl : IntsAt w vl l) (hF : ∀ W, Below w.heap.size w W → Tests g lb p W) :
    Calls Try.prog 51 #[vl, .func (.func g) #[] lb] w fun e w' => e = .returned (.int .i64 (idxI p l)) ∧ Below w.heap.size w w' := by
  obtain ⟨q, cc, rfl, h1, h2, _, hat⟩ := hl.at
  have T : Hid (∀ j (hj : j < l.length), ∃ b o, q = some ⟨b, o, none⟩ ∧ w.cell? ⟨b, o + j, none⟩ = some (.int .i64 (l[j] : Int))) := hat
  have HA : Hid (∀ W, Below w.heap.size w W → Tests g lb p W) := hF
  clear hat hl hF
  go_enter Try.func51, Try.ntmps51
  go_wp2_with fail
  go_loopw [8] (fun i wr => ∃ j : Nat, j ≤ l.length ∧ i = .int .i64 j ∧ Hid (∀ k ∈ l.take j, p k = false) ∧ Below w.heap.size w wr) (fun i _ => l.length - (intOf i).toNat)
  case atStart => exact ⟨0, Nat.zero_le _, rfl, fun k hk => by simp at hk, Below.refl _ _⟩
  case round =>
    obtain ⟨j, hj, rfl, NO, hnx⟩ := hrel
    by_cases hlt : j < l.length
    · obtain ⟨e1, o1, rfl, k1⟩ := T.out j hlt
      have y1 := keeps_below hnx (Nat.le_refl _) _ _ k1
      clear k1
      have hF := HA.out wr hnx l[j]
      cases hh : p l[j] with
      | true =>
        have E : Hid (idxI p l = (j : Int)) := idxI_some hlt hh NO.out
        rw [hh] at hF
        clear hh
        generalize l[j] = x at *
        go_wp2_with (go_at_fn g; refine hF.mono ?_; rintro e w9 ⟨rfl, hb9⟩)
        go_ret
        exact ⟨by rw [E.out]; rfl, hnx.trans (hb9.mono hnx.size)⟩
      | false =>
        have N2 : Hid (∀ k ∈ l.take (j + 1), p k = false) := by
          intro k hk
          rw [List.take_succ_eq_append_getElem hlt, List.mem_append, List.mem_singleton] at hk
          rcases hk with hk | rfl
          · exact NO.out k hk
          · exact hh
        rw [hh] at hF
        clear hh
        generalize l[j] = x at *
        go_wp2_with (go_at_fn g; refine hF.mono ?_; rintro e w9 ⟨rfl, hb9⟩)
        go_roundw
        case rel => exact ⟨j + 1, by omega, by go_num, N2, hnx.trans (hb9.mono hnx.size)⟩
        case measure => simp [intOf]; omega
    · obtain rfl : j = l.length := by omega
      have E : Hid (idxI p l = -1) := idxI_none (fun k hk => NO.out k (by rw [List.take_length]; exact hk))
      go_wp2_with fail
      go_ret
      exact ⟨by rw [E.out]; rfl, hnx⟩

theorem take_filter_succ (p : Nat → Bool) (l : List Nat) (j : Nat) (h : j < l.length) : (l.take (j + 1)).filter (fun k => !p k) = (l.take j).filter (fun k => !p k) ++ (if p l[j] then [] else [l[j]]) := by
  rw [List.take_succ_eq_append_getElem h, List.filter_append]
  congr 1
  cases hp : p l[j] <;> simp [hp]

theorem filter_first {p : Nat → Bool} {l : List Nat} {j : Nat} (h : j < l.length) (hp : p l[j] = true) (hn : ∀ k ∈ l.take j, p k = false) : (l.take (j + 1)).filter (fun k => !p k) = l.take j := by
  rw [take_filter_succ p l j h, hp]
  simp only [if_true, List.append_nil]
  rw [List.filter_eq_self]
  intro a ha
  simp [hn a ha]

/-- the row as it stands while it is rewritten -/
structure Kept1 (p : Nat → Bool) (l m : List Nat) (i j : Nat) : Prop where
  len : m.length = l.length
  lt : i < j
  le : j ≤ l.length
  done : m.take i = (l.take j).filter fun k => !p k
  cnt : ((l.take j).filter fun k => !p k).length = i
  rest : ∀ q (h : q < l.length) (h' : q < m.length), j ≤ q → m[q] = l[q]

theorem Kept1.keep {p : Nat → Bool} {l m : List Nat} {i j : Nat} (h : Kept1 p l m i j) (hj : j < l.length) (hp : p l[j] = false) : Kept1 p l (m.set i l[j]) (i + 1) (j + 1) := by
  have e := take_filter_succ p l j hj
  rw [hp] at e
  simp only [Bool.false_eq_true, if_false] at e
  have hl := h.len
  have hlt := h.lt
  refine ⟨by simpa using hl, by omega, by omega, ?_, by rw [e, List.length_append, h.cnt]; rfl, fun q hq hq' hjq => ?_⟩
  · rw [e, ← h.done]
    rw [List.take_succ_eq_append_getElem (by simp; omega)]
    simp
    rw [List.take_set_of_le (Nat.le_refl _)]
  · rw [List.getElem_set_ne (by omega)]
    exact h.rest q hq (by simpa using hq') (by omega)
theorem Kept1.skip {p : Nat → Bool} {l m : List Nat} {i j : Nat} (h : Kept1 p l m i j) (hj : j < l.length) (hp : p l[j] = true) : Kept1 p l m i (j + 1) := by
  have e := take_filter_succ p l j hj
  rw [hp] at e
  simp only [if_true, List.append_nil] at e
  have hlt := h.lt
  exact ⟨h.len, by omega, by omega, by rw [e]; exact h.done, by rw [e]; exact h.cnt, fun q hq hq' hjq => h.rest q hq hq' (by omega)⟩

theorem owns_cut {w : World} {B g c n i : Nat} {l : List Nat} (h : OwnI w B (.slice (some ⟨g, 0, none⟩) n c) l) (hn : n = l.length) (hi : i ≤ l.length) : OwnI w B (.slice (some ⟨g, 0, none⟩) i c) (l.take i) := by
  subst hn
  obtain ⟨hl, hz⟩ := h
  rcases hz with ⟨h5, _⟩ | ⟨g', cap, cur, e, h3, h6, h7, h8, h9, h10⟩
  · cases h5
  · cases e
    refine ⟨by simp, Or.inr ⟨g, c, cur, by simp [Nat.min_eq_left hi], h3, h6, by simp; omega, h8, h9, ?_⟩⟩
    rw [List.map_take, ← h10, List.take_take]
    simp [Nat.min_eq_left hi]

theorem owns_behind {B g c i : Nat} {l : List Nat} (hn : i = l.length) : ∀ (vs : List Value) (w : World) (s : Nat), l.length ≤ s → OwnI w B (.slice (some ⟨g, 0, none⟩) i c) l → OwnI (w.setCells g s vs) B (.slice (some ⟨g, 0, none⟩) i c) l
  | [], _, _, _, h => h
  | x :: vs, w, s, hs, h => by
    subst hn
    refine owns_behind rfl vs (w.setCell ⟨g, s, none⟩ x) (s + 1) (by omega) ?_
    have := owns_set h s x
    unfold OwnI
    rw [List.set_eq_of_length_le (by simpa using hs)] at this
    exact this

theorem grown_setCells {g : Nat} {a : World} : ∀ (vs : List Value) (w : World) (s : Nat), a.grownBy w (some g) → a.grownBy (w.setCells g s vs) (some g)
  | [], _, _, h => h
  | _ :: vs, _, s, h => grown_setCells vs _ (s + 1) (grow_set h s _)

theorem idx_cases2 (p : Nat → Bool) (l : List Nat) : (idxI p l = -1 ∧ ∀ k ∈ l, p k = false) ∨ ∃ j, ∃ hj : j < l.length, idxI p l = (j : Int) ∧ p l[j] = true ∧ ∀ k ∈ l.take j, p k = false := by
  cases h : l.findIdx? p with
  | none => exact Or.inl ⟨by unfold idxI; rw [h], fun k hk => List.findIdx?_eq_none_iff.mp h k hk⟩
  | some j =>
    right
    obtain ⟨hj, hp, hn⟩ := List.findIdx?_eq_some_iff_getElem.mp h
    refine ⟨j, hj, by unfold idxI; rw [h], hp, fun k hk => ?_⟩
    obtain ⟨q, hq, rfl⟩ := List.mem_take_iff_getElem.mp hk
    have := hn q (by omega)
    simpa using this

theorem own_cell {w : World} {B G n c : Nat} {l : List Nat} (h : OwnI w B (.slice (some ⟨G, 0, none⟩) n c) l) (j : Nat) (hj : j < l.length) : w.cell? ⟨G, j, none⟩ = some (.int .i64 (l[j] : Int)) ∧ w.frozen? ⟨G, j, none⟩ = false := by
  have hc := World.ownsRow.cells h (g := G) rfl j (.int .i64 (l[j] : Int)) (by simp [List.getElem?_eq_getElem hj, iv])
  rw [add_at, Nat.zero_add] at hc
  refine ⟨hc, ?_⟩
  obtain ⟨hl, hz⟩ := h
  rcases hz with ⟨h5, _⟩ | ⟨g', cap, cur, e, h3, h6, h7, h8, h9, h10⟩
  · cases h5
  · cases e
    simp [World.frozen?, h6]

theorem own_shape2 {w : World} {B : Nat} {v : Value} {l : List Nat} (h : OwnI w B v l) (hl : 0 < l.length) : ∃ G c, v = .slice (some ⟨G, 0, none⟩) l.length c ∧ B ≤ G ∧ G < w.heap.size ∧ l.length ≤ c ∧ c ≤ 9223372036854775807 := by
  obtain ⟨hl, hz⟩ := h
  rcases hz with ⟨_, h5⟩ | ⟨g', cap, cur, e, h3, h6, h7, h8, h9, h10⟩
  · omega
  · exact ⟨g', cap, e, h3, by rw [Array.getElem?_eq_some_iff] at h6; exact h6.1, h7, by unfold maxLen at h8; omega⟩

set_option maxHeartbeats 1600000 in
theorem del_any {g : Nat} {lb : Array Value} {p : Nat → Bool} (eg : ∀ args w, (callFunc g args).run Try.prog w = .ok (.enter g args) w) {w : World} {B : Nat} {v : Value} {l : List Nat} (hown : OwnI w B v l) (hl : l.length ≤ 1000) (hF : ∀ W, w.grownBy W v.ownBlock → Tests g lb p W) :
    Calls Try.prog 94 #[v, .func (.func g) #[] lb] w fun e w' => ∃ v', e = .returned v' ∧ OwnI w' B v' (l.filter fun k => !p k) ∧ v'.ownBlock = v.ownBlock ∧ w.grownBy w' v.ownBlock := by
  have hI := idxF_any eg (ints_of_owns hown) (fun W hb => hF W (grow_below (grown_refl _ _) hb))
  rcases idx_cases2 p l with ⟨e1, e2⟩ | ⟨j0, hj0, e1, e2, e3⟩
  · have hfil : (l.filter fun k => !p k) = l := by
      rw [List.filter_eq_self]
      intro a ha
      simp [e2 a ha]
    rw [hfil]
    rw [e1] at hI
    obtain ⟨pp, cc, rfl⟩ := hown.shape
    have O : Hid (OwnI w B (.slice pp l.length cc) l) := hown
    clear hown hF e1 e2 hfil
    go_enter Try.func94, Try.ntmps94
    go_wp2_with (go_at_call 51; refine hI.mono ?_; rintro e w9 ⟨rfl, hb9⟩)
    go_ret
    exact ⟨_, rfl, O.out.below hb9 (Nat.le_refl _), rfl, grow_below (grown_refl _ _) hb9⟩
  · rw [e1] at hI
    have hlp : 0 < l.length := by omega
    obtain ⟨G, cap, rfl, hBG, hGs, hlc, hcm⟩ := own_shape2 hown hlp
    have hob : (Value.slice (some ⟨G, 0, none⟩) l.length cap).ownBlock = some G := rfl
    rw [hob] at hF ⊢
    have HA : Hid (∀ W, w.grownBy W (some G) → Tests g lb p W) := hF
    have O : Hid (OwnI w B (.slice (some ⟨G, 0, none⟩) l.length cap) l) := hown
    have K0 : Hid (Kept1 p l l j0 (j0 + 1)) := by
      have hf := filter_first hj0 e2 e3
      exact ⟨rfl, by omega, by omega, hf.symm, by rw [hf]; simp; omega, fun q hq hq' _ => rfl⟩
    clear hown hF e1 e2 e3 hob
    have hne1 : ((j0 : Int) == -1) = false := beq_eq_false_iff_ne.2 (by omega)
    go_enter Try.func94, Try.ntmps94
    go_wp2_with (go_at_call 51; refine hI.mono ?_; rintro e w9 ⟨rfl, hb9⟩)
    go_loopw [5, 6, 7] (fun iv jv _ wr => ∃ (i j : Nat) (m : List Nat), iv = .int .i64 i ∧ jv = .int .i64 j ∧ Hid (Kept1 p l m i j) ∧ Hid (OwnI wr B (.slice (some ⟨G, 0, none⟩) l.length cap) m) ∧ w.grownBy wr (some G)) (fun _ jv _ _ => l.length - (intOf jv).toNat)
    case atStart => exact ⟨j0, j0 + 1, l, rfl, by go_num, K0, (O.out.below hb9 (Nat.le_refl _)), grow_below (grown_refl _ _) hb9⟩
    case round =>
      obtain ⟨i, j, m, rfl, rfl, KP, OW, hgr⟩ := hrel
      have hij := KP.out.lt
      have hjl := KP.out.le
      have hml : m.length = l.length := KP.out.len
      by_cases hlt : j < l.length
      · have hltz : (j : Int) < (l.length : Int) := by omega
        obtain ⟨cj, _⟩ := own_cell OW.out j (by omega)
        rw [KP.out.rest j hlt (by omega) (Nat.le_refl _)] at cj
        obtain ⟨ci, fi⟩ := own_cell OW.out i (by omega)
        have hC := HA.out wr hgr l[j]
        generalize (m[i]'(by omega) : Nat) = old at ci
        cases hh : p l[j] with
        | true =>
          have K2 : Hid (Kept1 p l m i (j + 1)) := KP.out.skip hlt hh
          rw [hh] at hC
          clear hh
          generalize l[j] = x at *
          go_wp2_with (go_at_fn g; refine hC.mono ?_; rintro e wa ⟨rfl, hba⟩)
          go_roundw
          case rel => exact ⟨i, j + 1, m, rfl, by go_num, K2, OW.out.below hba (Nat.le_refl _), grow_below hgr hba⟩
          case measure => simp [intOf]; omega
        | false =>
          have K2 : Hid (Kept1 p l (m.set i l[j]) (i + 1) (j + 1)) := KP.out.keep hlt hh
          rw [hh] at hC
          clear hh
          generalize l[j] = x at *
          go_wp2_with (go_at_fn g; refine hC.mono ?_; rintro e wa ⟨rfl, hba⟩; have c9 := keeps_below hba (Nat.le_refl _) _ _ ci; have f9 := (hba.frozen (p := ⟨G, i, none⟩) (lt_of_cell ci)).trans fi)
          go_roundw
          case rel =>
            refine ⟨i + 1, j + 1, m.set i x, by go_num, by go_num, K2, ?_, grow_set (grow_below hgr hba) _ _⟩
            have h1 : OwnI wa B (.slice (some ⟨G, 0, none⟩) m.length cap) m := by rw [hml]; exact OW.out.below hba (Nat.le_refl _)
            have h2 := owns_set h1 i (iv x)
            show OwnI _ _ _ _
            unfold OwnI
            rw [List.map_set, List.length_set, ← hml]
            exact h2
          case measure => simp [intOf]; omega
      · obtain rfl : j = l.length := by omega
        have hcl : ∀ ty, (Builtin.clear_ #[44] ty #[.slice (some ⟨G, i, none⟩) (l.length - i) (cap - i)]).run Try.prog wr = .ok (.tuple #[]) (wr.setCells G i (List.replicate (l.length - i) (.int .i64 0))) :=
          fun ty => Lib.run_clear_slice wr _ _ ty _ Try.underlying44 Try.zeroValue3 rfl rfl G i _ _ (by omega) (fun t ht => by rw [(own_cell OW.out (i + t) (by omega)).1]; rfl) (fun t ht => (own_cell OW.out (i + t) (by omega)).2)
        have R : Hid (OwnI (wr.setCells G i (List.replicate (l.length - i) (.int .i64 0))) B (.slice (some ⟨G, 0, none⟩) i cap) (l.filter fun k => !p k)) := by
          have h1 := owns_cut (i := i) OW.out (by omega) (by omega)
          rw [KP.out.done, List.take_length] at h1
          exact owns_behind (by have := KP.out.cnt; rw [List.take_length] at this; omega) _ _ _ (by have := KP.out.cnt; rw [List.take_length] at this; omega) h1
        have hgr2 := grown_setCells (List.replicate (l.length - i) (.int .i64 0)) wr i hgr
        go_wp2_with fail
        go_ret
        exact ⟨_, rfl, R.out, rfl, hgr2⟩
end Go.Proofs.Ytookcjdibpccpaa

/-
  THE WALKS of flat.Slot.
-/
namespace Go.Proofs.Ytookcjdibpccpaa
open Go.RowKit

end Go.Proofs.Ytookcjdibpccpaa

/-
  THE WALK of flat.Slot.
-/
namespace Go.Proofs.Ytookcjdibpccpaa
open Go.RowKit

end Go.Proofs.Ytookcjdibpccpaa

/-
  THE WALKS of flat.copyOf, Given, Kids.
-/
namespace Go.Proofs.Ytookcjdibpccpaa
open Go.RowKit

theorem OwnI.mono {w : World} {B C : Nat} {v : Value} {l : List Nat} (h : OwnI w B v l) (hc : C ≤ B) : OwnI w C v l := by
  obtain ⟨hl, hz⟩ := h
  refine ⟨hl, ?_⟩
  rcases hz with h5 | ⟨g, cap, cur, e, h3, h6⟩
  · exact Or.inl h5
  · exact Or.inr ⟨g, cap, cur, e, by omega, h6⟩

end Go.Proofs.Ytookcjdibpccpaa

/-
  THE WALK of slices.Index at []int.
-/
namespace Go.Proofs.Ytookcjdibpccpaa
open Go.RowKit

set_option maxHeartbeats 1600000 in
theorem index_any {w : World} {vl : Value} {l : List Nat} (hl : IntsAt w vl l) (x : Nat) :
    Calls Try.prog 96 #[vl, .int .i64 (x : Int)] w fun e w' => e = .returned (.int .i64 (idxI (fun k => k == x) l)) ∧ w' = w := by
  obtain ⟨p, cc, rfl, h1, h2, _, hat⟩ := hl.at
  have T : Hid (∀ j (hj : j < l.length), ∃ b o, p = some ⟨b, o, none⟩ ∧ w.cell? ⟨b, o + j, none⟩ = some (.int .i64 (l[j] : Int))) := hat
  clear hat hl
  go_enter Try.func96, Try.ntmps96
  go_wp2_with fail
  go_loop [8] (fun i => ∃ j : Nat, j ≤ l.length ∧ i = .int .i64 j ∧ Hid (∀ k ∈ l.take j, (k == x) = false)) (fun i => l.length - (intOf i).toNat)
  case atStart => exact ⟨0, Nat.zero_le _, rfl, fun k hk => by simp at hk⟩
  case round =>
    obtain ⟨j, hj, rfl, NO⟩ := hrel
    by_cases hlt : j < l.length
    · obtain ⟨e1, o1, rfl, y1⟩ := T.out j hlt
      cases hh : (l[j] == x) with
      | true =>
        have E : Hid (idxI (fun k => k == x) l = (j : Int)) := idxI_some hlt hh NO.out
        have hx : l[j] = x := by simpa using hh
        rw [hx] at y1
        clear hh hx
        go_wp2_with fail
        go_ret
        exact ⟨by rw [E.out]; rfl, rfl⟩
      | false =>
        have N2 : Hid (∀ k ∈ l.take (j + 1), (k == x) = false) := by
          intro k hk
          rw [List.take_succ_eq_append_getElem hlt, List.mem_append, List.mem_singleton] at hk
          rcases hk with hk | rfl
          · exact NO.out k hk
          · exact hh
        have hx : ((x : Int) == (l[j] : Int)) = false := by
          have : l[j] ≠ x := by simpa using hh
          simp; omega
        clear hh
        generalize l[j] = y at *
        go_wp2_with fail
        exact ⟨⟨j + 1, by omega, by go_num, N2⟩, by simp [intOf]; omega⟩
    · obtain rfl : j = l.length := by omega
      have E : Hid (idxI (fun k => k == x) l = -1) := idxI_none (fun k hk => NO.out k (by rw [List.take_length]; exact hk))
      go_wp2_with fail
      go_ret
      exact ⟨by rw [E.out]; rfl, rfl⟩

end Go.Proofs.Ytookcjdibpccpaa

/-
  THE WALKS of flat.Kids and flat.Up.
-/
namespace Go.Proofs.Ytookcjdibpccpaa
open Go.RowKit

end Go.Proofs.Ytookcjdibpccpaa

/-
  THE WALKS of slices.Contains at ints, and of flat.Up.
-/
namespace Go.Proofs.Ytookcjdibpccpaa
open Go.RowKit

end Go.Proofs.Ytookcjdibpccpaa

/-
  THE WALK of the function in flat.Shown that calls itself.
-/
namespace Go.Proofs.Ytookcjdibpccpaa
open Go.RowKit

/-- append, and where what comes of it lies -/
theorem append_int2 {w0 wr : World} {ops : Array Oper} {rest : List Oper} {o : Oper} {a : Act} {Q : Exit → Act → World → Prop} (hgd : o.guard = none)
    (s x : Operand) (ho : o.op = Op.call { callee := Callee.builtin Builtin.append, args := #[s, x], argTypes := #[44, 44] }) {B : Nat} {v : Value} {l : List Nat} (k : Nat)
    (hs : a.eval s = v) (hx : a.eval x = .slice (some ⟨wr.heap.size, 0, none⟩) 1 1) (hown : OwnI wr B v l) (hnx : Below B w0 wr) (hB : B ≤ wr.heap.size) (hsz : l.length ≤ 1000000)
    (h : ∀ v' w1, OwnI w1 B v' (l ++ [k]) → Below B w0 w1 → wr.grownBy w1 v.ownBlock → (v'.ownBlock = v.ownBlock ∨ ∃ g, wr.heap.size ≤ g ∧ v'.ownBlock = some g) → wpList Try.prog ops Q rest (a.put o.dst v') w1) :
    wpList Try.prog ops Q (o :: rest) a (wr.alloc (.cells #[.int .i64 (k : Int)] 3)) := by
  obtain ⟨i0, hi, hz0, hz1, hz2⟩ := info_parts infoI
  unfold OwnI at hown h
  have hown' := hown.alloc (.cells #[.int .i64 (k : Int)] 3)
  have hnews : ∀ (j : Nat) (u : Value), ([iv k] : List Value)[j]? = some u → (wr.alloc (.cells #[.int .i64 (k : Int)] 3)).cell? ((⟨wr.heap.size, 0, none⟩ : Addr).add j) = some u := cell_one_new _ _ _
  have h1 : ∀ u ∈ ([iv k] : List Value), u.oneCell' = true := by intro u hu; simp at hu; subst hu; rfl
  refine wpList_plain hgd fun K hK => ?_
  obtain ⟨v', w', hr, h2, h3, _⟩ := run_append_own (P := Try.prog) (wr.alloc (.cells #[.int .i64 (k : Int)] 3)) B 44 o.type 3 i0 (.int .i64 0) 1 8 Try.underlying44 hi hz0 hz1 hz2 rfl (by decide) v _ _ hown' ⟨_, 0, none⟩ 1 1 [iv k] rfl hnews h1 (by unfold maxLen; omega) (by omega) (by simp; omega)
  have hn := (hnx.alloc hB (.cells #[.int .i64 (k : Int)] 3)).grown h3 (by simp; omega) (fun j hj => (hown.lt j hj).1)
  have hg2 : wr.grownBy w' v.ownBlock := by
    have h4 := World.grownBy_alloc wr (.cells #[.int .i64 (k : Int)] 3) v.ownBlock
    exact ⟨h3.os.trans h4.os, h3.tape.trans h4.tape, h3.output.trans h4.output, Nat.le_trans h4.size h3.size, fun q hq hr' => (h3.block q (Nat.lt_of_lt_of_le hq h4.size) hr').trans (h4.block q hq hr')⟩
  have hblk : v'.ownBlock = v.ownBlock ∨ ∃ g, wr.heap.size ≤ g ∧ v'.ownBlock = some g := by
    have hzs : (i0.size : Nat) = 1 := hz1
    rcases hown'.2 with ⟨rfl, hn0⟩ | ⟨g, cap, cur, rfl, hbg, hg, hnc, hcm, hcs, htake⟩
    · have hr2 := run_append_nil (P := Try.prog) (wr.alloc (.cells #[.int .i64 (k : Int)] 3)) 44 o.type 3 i0 (.int .i64 0) Try.underlying44 hi hz0 ⟨wr.heap.size, 0, none⟩ 1 1 [iv k] (by rw [hzs]; rfl) hnews (by decide) (by decide) (by rw [hz2]; decide)
      rw [hr2] at hr
      injection hr with e1 e2
      right
      refine ⟨wr.heap.size + 1, by omega, ?_⟩
      rw [← e1]
      simp [Value.ownBlock]
    · by_cases hroom : l.length + 1 ≤ cap
      · have hr2 := run_append_room (P := Try.prog) (wr.alloc (.cells #[.int .i64 (k : Int)] 3)) 44 o.type 3 i0 Try.underlying44 hi g l.length cap cur hg ⟨wr.heap.size, 0, none⟩ 1 1 [iv k] (by rw [hzs]; rfl) hnews h1 hroom (by rw [hzs, hcs]; simp; omega)
        rw [hr2] at hr
        injection hr with e1 e2
        left
        rw [← e1]
        rfl
      · have hr2 := run_append_grow (P := Try.prog) (wr.alloc (.cells #[.int .i64 (k : Int)] 3)) 44 o.type 3 i0 (.int .i64 0) Try.underlying44 hi hz0 ⟨g, 0, none⟩ l.length cap _ (by rw [hzs]; exact hown'.1) (World.ownsRow.cells hown' (g := g) rfl) ⟨wr.heap.size, 0, none⟩ 1 1 [iv k] (by rw [hzs]; rfl) hnews (by omega) (by omega) (growslice_fits (by omega) (by rw [hz2]; omega))
        rw [hr2] at hr
        injection hr with e1 e2
        right
        refine ⟨wr.heap.size + 1, by omega, ?_⟩
        rw [← e1]
        simp [Value.ownBlock]
  unfold Oper.wp execOp
  simp only [ho, resolve, invoke, builtin, Sem.run_bind, Sem.run_pure, Result.andThen_ok, List.map_toArray, List.map_cons, List.map_nil, hs, hx, hr]
  exact hK _ _ (h v' w' (by simpa using h2) hn hg2 hblk)
end Go.Proofs.Ytookcjdibpccpaa

/-
  copy AT ELEMENTS OF ANY NUMBER OF CELLS, into a row of the call's own; what slices.Insert makes of a row.
-/
namespace Go.Proofs.Ytookcjdibpccpaa
open Go.RowKit

theorem run_copyK {P : Program} (k : Nat) (w : World) (dT sT ty elem : TypeId) (g o dLen dCap : Nat) (a : Addr) (sLen sCap : Nat) (cur : Array Value) (t : TypeId) (cs : List Value)
    (hu : P.underlying dT = some (.slice elem)) (hs : (P.info? elem).map (·.size) = some k)
    (hg : w.heap[g]? = some (.cells cur t (0, 0))) (hn : cs.length = Nat.min sLen dLen * k)
    (hsrc : ∀ j v, cs[j]? = some v → w.cell? (a.add j) = some v) (hfit : o + cs.length ≤ cur.size) (h1 : ∀ v ∈ cs, v.oneCell' = true) :
    (Builtin.copy_ #[dT, sT] ty #[.slice (some ⟨g, o, none⟩) dLen dCap, .slice (some a) sLen sCap]).run P w =
      .ok (goInt (Nat.min sLen dLen)) (w.setRow g (cur.toList.take o ++ cs ++ cur.toList.drop (o + cs.length)).toArray) := by
  have hl := run_loadCells_list (P := P) w a cs hsrc
  have hst := run_storeCells_at P g o t cs 0 cur w hg (by simpa using hfit) h1
  cases hq : P.info? elem with
  | none => simp [hq] at hs
  | some i =>
    have hi : i.size = k := by simpa [hq] using hs
    simp [Builtin.copy_, run_underlying hu, Builtin.lenOf, Builtin.firstCells, sizeOf, typeInfo, hq, hi, ← hn, hl, hst]

theorem wpList_copy_at {P : Program} (w : World) {ops : Array Oper} {rest : List Oper} {o : Oper} {a : Act} {Q : Exit → Act → World → Prop} (hgd : o.guard = none) (d s : Operand) (t t' : TypeId)
    (ho : o.op = .call { callee := .builtin .copy, args := #[d, s], argTypes := #[t, t'] }) (v u : Value) (hd : a.eval d = v) (hs : a.eval s = u) {v' : Value} {w' : World}
    (hr : (Builtin.copy_ #[t, t'] o.type #[v, u]).run P w = .ok v' w') (h : wpList P ops Q rest (a.put o.dst v') w') : wpList P ops Q (o :: rest) a w := by
  refine wpList_plain hgd fun K hK => ?_
  unfold Oper.wp execOp
  simp only [ho, resolve, invoke, builtin, Sem.run_bind, Sem.run_pure, Result.andThen_ok, List.map_toArray, List.map_cons, List.map_nil, hd, hs, hr]
  exact hK _ _ h

theorem wpList_append_at {P : Program} (w : World) {ops : Array Oper} {rest : List Oper} {o : Oper} {a : Act} {Q : Exit → Act → World → Prop} (hgd : o.guard = none) (d s : Operand) (t t' : TypeId)
    (ho : o.op = .call { callee := .builtin .append, args := #[d, s], argTypes := #[t, t'] }) (v u : Value) (hd : a.eval d = v) (hs : a.eval s = u) {v' : Value} {w' : World}
    (hr : (Builtin.append_ #[t, t'] o.type #[v, u]).run P w = .ok v' w') (h : wpList P ops Q rest (a.put o.dst v') w') : wpList P ops Q (o :: rest) a w := by
  refine wpList_plain hgd fun K hK => ?_
  unfold Oper.wp execOp
  simp only [ho, resolve, invoke, builtin, Sem.run_bind, Sem.run_pure, Result.andThen_ok, List.map_toArray, List.map_cons, List.map_nil, hd, hs, hr]
  exact hK _ _ h

theorem step_copy_at {P : Program} {ops : Array Oper} {o : Oper} {a : Act} {w : World} {K : Act → World → Prop} {Q : Exit → Act → World → Prop} {E : Prop}
    (hg : o.guard = none) (d x : Operand) (dT sT : TypeId) (hop : o.op = Op.call { callee := Callee.builtin Builtin.copy, args := #[d, x], argTypes := #[dT, sT] })
    (v u : Value) (hd : a.eval d = v) (hx : a.eval x = u) {v' : Value} {w' : World} (hr : (Builtin.copy_ #[dT, sT] o.type #[v, u]).run P w = .ok v' w') (hK : K (a.put o.dst v') w') :
    if Region.wanted o (yielded ops a.tmps) = true then Oper.wp P o a w K Q else E := by
  have hw : Region.wanted o (yielded ops a.tmps) = true := by simp [Region.wanted, hg]
  rw [if_pos hw]
  unfold Oper.wp
  simp [execOp, hop, resolve, invoke, builtin, hd, hx, hr, Result.andThen]
  exact hK

/-- the row behind a shift and a store -/
theorem ins_shift {C xs ys : List Value} {n i K : Nat} (hC : (n + 1) * K ≤ C.length) (hx : C.take (n * K) = xs) (hi : i ≤ n) (hy : ys.length = K) {A1 A2 : List Value}
    (h1 : A1 = C.take ((i + 1) * K) ++ xs.drop (i * K) ++ C.drop ((i + 1) * K + (xs.drop (i * K)).length)) (h2 : A2 = A1.take (i * K) ++ ys ++ A1.drop (i * K + ys.length)) :
    A2.length = C.length ∧ A2.take ((n + 1) * K) = xs.take (i * K) ++ ys ++ xs.drop (i * K) := by
  have e1 : (n + 1) * K = n * K + K := Nat.succ_mul n K
  have e2 : (i + 1) * K = i * K + K := Nat.succ_mul i K
  have hik : i * K ≤ n * K := Nat.mul_le_mul_right K hi
  have hxl : xs.length = n * K := by rw [← hx, List.length_take]; omega
  have hdl : (xs.drop (i * K)).length = n * K - i * K := by rw [List.length_drop, hxl]
  have a1l : A1.length = C.length := by
    rw [h1]
    simp only [List.length_append, List.length_take, List.length_drop, hxl]
    omega
  have t1 : A1.take (i * K) = xs.take (i * K) := by
    rw [h1, List.append_assoc, List.take_append_of_le_length (by rw [List.length_take]; omega), List.take_take, ← hx, List.take_take]
    congr 1
    omega
  have d1 : A1.drop (i * K + ys.length) = xs.drop (i * K) ++ C.drop ((n + 1) * K) := by
    rw [h1, List.append_assoc, List.drop_append_of_le_length (by rw [List.length_take]; omega)]
    rw [List.drop_eq_nil_of_le (by rw [List.length_take]; omega), List.nil_append]
    congr 2
    rw [hdl]
    omega
  constructor
  · rw [h2, List.length_append, List.length_append, List.length_take, List.length_drop, a1l]
    omega
  · rw [h2, t1, d1, ← List.append_assoc]
    have hlen : (xs.take (i * K) ++ ys ++ xs.drop (i * K)).length = (n + 1) * K := by
      rw [List.length_append, List.length_append, List.length_take, hdl, hxl, hy]
      omega
    rw [← hlen]
    exact List.take_left

/-- the row that is made anew, behind both stores -/
theorem ins_grow {xs ys Z : List Value} {n i K : Nat} (hxl : xs.length = n * K) (hi : i ≤ n) (hy : ys.length = K) (hZ : (n + 1) * K ≤ i * K + Z.length) {A0 A1 A2 : List Value}
    (h0 : A0 = xs.take (i * K) ++ Z) (h1 : A1 = A0.take (i * K) ++ ys ++ A0.drop (i * K + ys.length)) (h2 : A2 = A1.take ((i + 1) * K) ++ xs.drop (i * K) ++ A1.drop ((i + 1) * K + (xs.drop (i * K)).length)) :
    A2.length = A0.length ∧ A2.take ((n + 1) * K) = xs.take (i * K) ++ ys ++ xs.drop (i * K) := by
  have e1 : (n + 1) * K = n * K + K := Nat.succ_mul n K
  have e2 : (i + 1) * K = i * K + K := Nat.succ_mul i K
  have hik : i * K ≤ n * K := Nat.mul_le_mul_right K hi
  have hdl : (xs.drop (i * K)).length = n * K - i * K := by rw [List.length_drop, hxl]
  have htl : (xs.take (i * K)).length = i * K := by rw [List.length_take]; omega
  have a0l : A0.length = i * K + Z.length := by rw [h0, List.length_append, htl]
  have t0 : A0.take (i * K) = xs.take (i * K) := by
    have := List.take_left (l₁ := xs.take (i * K)) (l₂ := Z)
    rw [htl] at this
    rw [h0]
    exact this
  have a1l : A1.length = A0.length := by
    rw [h1, List.length_append, List.length_append, List.length_take, List.length_drop]
    omega
  have t1 : A1.take ((i + 1) * K) = xs.take (i * K) ++ ys := by
    have hl : (xs.take (i * K) ++ ys).length = (i + 1) * K := by rw [List.length_append, htl, hy]; omega
    rw [h1, t0, ← hl]
    exact List.take_left
  constructor
  · rw [h2]
    simp only [List.length_append, List.length_take, List.length_drop, hxl]
    omega
  · have hl : (xs.take (i * K) ++ ys ++ xs.drop (i * K)).length = (n + 1) * K := by rw [List.length_append, List.length_append, htl, hdl, hy]; omega
    rw [h2, t1, ← hl]
    exact List.take_left
end Go.Proofs.Ytookcjdibpccpaa
