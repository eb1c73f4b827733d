/-
  OWN WORK: Tim, Tiu, Tiv, Vcf, Tbd.
-/
import Derived.Test.YtbinbojicmhdlaeGreatDoorP11
import Derived.Test.YtbinbojicmhdlaeGreatDoorP14
import Derived.Test.YtbinbojicmhdlaeGreatDoorP12
import Derived.Test.YtbinbojicmhdlaeGreatDoorP10
import Derived.Deep.CutRange
import Derived.Deep.RegionHeld3
import Derived.Test.YtbinbojicmhdlaeGreatDoorP6
/-
  THE WALKS of tree's textItems, kidItems, item, items: what is told of a node.
-/
namespace Go.Proofs.YtbinbojicmhdlaeGreatDoor
open Go.RowKit Go.Maps

/-- what there is when items are told: a document, claims of it, and someone who knows the names -/
structure Tell (B0 : Nat) (S : List Nat) (Inv : World → Prop) (b o c : Nat) (rs : List Raw) (d : Tn.Dc) (p : Option Addr) (cc : Nat) (cl : List Cl) (nf : Value) : Prop where
  nx : ∀ W, Inv W → Nx W b o c rs d (.slice p cl.length cc) cl
  low : ∀ W, Inv W → B0 ≤ W.heap.size
  st : ∀ W W', Inv W → Below B0 W W' → Inv W'
  lowS : ∀ s ∈ S, s < B0
  ask : ∀ W (n : Nat), Inv W → Tn.lvD d n = true → Calls Tryz.prog 142 #[.agg #[.slice (some ⟨b, o, none⟩) rs.length c, .slice p cl.length cc, nf], .int .i64 (n : Int)] W fun e w' => (∃ p k c, e = .returned (.agg #[.int .i64 (n : Int), .string (memoD d cl (n : Int)).name, .string (memoD d cl (n : Int)).about, .slice p k c])) ∧ Inv w' ∧ Bt S W w'
theorem Tell.below {B0 : Nat} {S : List Nat} {Inv : World → Prop} {b o c : Nat} {rs : List Raw} {d : Tn.Dc} {p : Option Addr} {cc : Nat} {cl : List Cl} {nf : Value} (T : Tell B0 S Inv b o c rs d p cc cl nf) {W W' : World} (h : Inv W) (hb : Below W.heap.size W W') : Inv W' := T.st W W' h (hb.mono (T.low W h))

def textI (d : Tn.Dc) (n : Nat) : List It := if (textD d n).toList.isEmpty then [] else [.mk n 10 (textD d n) ⟨#[]⟩ 0 0 false []]
theorem box3t (w : World) (x y z : Value) (t : Nat) : (w.alloc (.cells #[x, y, z] t)).cell? ⟨w.heap.size, 0, none⟩ = some x ∧ (w.alloc (.cells #[x, y, z] t)).cell? ⟨w.heap.size, 1, none⟩ = some y ∧ (w.alloc (.cells #[x, y, z] t)).cell? ⟨w.heap.size, 2, none⟩ = some z := box3' w x y z t

set_option maxHeartbeats 1600000 in
theorem ttext_any {W : World} {b o c : Nat} {rs : List Raw} {d : Tn.Dc} {p : Option Addr} {cc : Nat} {cl : List Cl} (hx : Nx W b o c rs d (.slice p cl.length cc) cl) (nf : Value) {n : Nat} (hn : Tn.lvD d n = true) :
    Calls Tryz.prog 108 #[.agg #[.slice (some ⟨b, o, none⟩) rs.length c, .slice p cl.length cc, nf], .int .i64 (n : Int)] W fun e w' => ∃ v, e = .returned v ∧ OwnT w' W.heap.size v (textI d n) ∧ Below W.heap.size W w' := by
  have B1 : Below W.heap.size W (W.alloc (.cells #[.slice (some ⟨b, o, none⟩) rs.length c, .slice p cl.length cc, nf] 90)) := (Below.refl W.heap.size W).alloc (Nat.le_refl _) _
  have z1 : (W.alloc (.cells #[.slice (some ⟨b, o, none⟩) rs.length c, .slice p cl.length cc, nf] 90)).heap.size = W.heap.size + 1 := by simp
  have q := box3t W (.slice (some ⟨b, o, none⟩) rs.length c) (.slice p cl.length cc) nf 90
  have tg := tag_cell (hx.below B1).cx.doc hn
  have hcap := hx.cx.doc.capM
  have hrl : rs.length ≤ 1000 := by rw [hx.cx.doc.len]; have := hx.cx.fine.good.len.2; omega
  have SQ : Hid (∀ w, Calls Tryz.prog 82 #[.string (Tn.nd d n).text] w fun e w' => e = .returned (.string (textD d n)) ∧ Below w.heap.size w w') := fun w => Wd.squeeze_any _ w (hx.vt n)
  have E : Hid (textI d n = if (textD d n).toList.isEmpty then [] else [.mk n 10 (textD d n) ⟨#[]⟩ 0 0 false []]) := rfl
  obtain ⟨q0, q1, q2⟩ := q
  obtain ⟨_, tx, hnl⟩ := tg
  have HB1 : Hid (Below W.heap.size W (W.alloc (.cells #[.slice (some ⟨b, o, none⟩) rs.length c, .slice p cl.length cc, nf] 90))) := B1
  clear hx B1
  generalize textI d n = R at *
  generalize textD d n = sq at *
  generalize (Tn.nd d n).text = txt at *
  go_enter Tryz.func108, Tryz.ntmps108
  go_upto_region 1 with fail
  generalize hW : W.alloc (.cells #[.slice (some ⟨b, o, none⟩) rs.length c, .slice p cl.length cc, nf] 90) = w1 at *
  clear hW
  cases he : sq.toList.isEmpty with
  | true =>
    have E2 : Hid (R = []) := by show _ = _; rw [E.out, if_pos he]
    clear E
    go_wp2_with (go_at_call 82; refine (SQ.out _).mono ?_; rintro e w2 ⟨rfl, hb2⟩)
    go_ret
    rw [E2.out]
    exact ⟨_, rfl, OwnT.nil _ _, HB1.out.trans (hb2.mono HB1.out.size)⟩
  | false =>
    have E2 : Hid (R = [.mk n 10 sq ⟨#[]⟩ 0 0 false []]) := by show _ = _; rw [E.out, if_neg (by simp [he])]
    clear E
    go_wp2_with (go_at_call 82; refine (SQ.out _).mono ?_; rintro e w2 ⟨rfl, hb2⟩)
    go_ret
    rw [E2.out]
    have B2 := HB1.out.trans (hb2.mono HB1.out.size)
    exact ⟨_, rfl, own_item (x := .mk n 10 sq ⟨#[]⟩ 0 0 false []) (kv := .slice none 0 0) B2.size (ItsAt.nil _ _), B2.alloc B2.size _⟩

/-- what items does, with as much fuel as f -/
def ItemsC (S : List Nat) (Inv : World → Prop) (b o c : Nat) (rs : List Raw) (d : Tn.Dc) (p : Option Addr) (cc : Nat) (cl : List Cl) (nf : Value) (f : Nat) : Prop :=
  ∀ W (n : Nat), Inv W → n ∈ shD d → 61 ≤ f + (wayD d cl (n : Int)).length →
    Calls Tryz.prog 68 #[.agg #[.slice (some ⟨b, o, none⟩) rs.length c, .slice p cl.length cc, nf], .int .i64 (n : Int)] W fun e w' => ∃ v, e = .returned v ∧ OwnT w' W.heap.size v (itemsF (attD d cl) f d cl n) ∧ Inv w' ∧ Bt S W w'

theorem append_items {wr : World} {ops : Array Oper} {rest : List Oper} {o : Oper} {a : Act} {Q : Exit → Act → World → Prop} (hgd : o.guard = none)
    (s x : Operand) (ho : o.op = Op.call { callee := Callee.builtin Builtin.append, args := #[s, x], argTypes := #[28, 28] }) {B C : Nat} {v u : Value} {l m : List It}
    (hs : a.eval s = v) (hx : a.eval x = u) (hown : OwnT wr B v l) (hm : OwnT wr C u m) (hBC : B ≤ C) (hvC : ∀ g, v.ownBlock = some g → g < C) (hB : B ≤ wr.heap.size) (hsz : l.length + m.length ≤ 1000000)
    (h : ∀ v' w1, OwnT w1 B v' (l ++ m) → Below B wr w1 → wpList Tryz.prog ops Q rest (a.put o.dst v') w1) :
    wpList Tryz.prog ops Q (o :: rest) a wr :=
  wpList_plain hgd fun _ hK => wp_append_items s x ho hs hx hown hm hBC hvC hB hsz fun v' w1 h2 h3 _ => hK _ _ (h v' w1 h2 h3)

set_option maxHeartbeats 3200000 in
set_option maxRecDepth 100000 in
theorem tkid_of {B0 : Nat} {S : List Nat} {Inv : World → Prop} {b o c : Nat} {rs : List Raw} {d : Tn.Dc} {p : Option Addr} {cc : Nat} {cl : List Cl} {nf : Value} (T : Tell B0 S Inv b o c rs d p cc cl nf) {f : Nat} (H : ItemsC S Inv b o c rs d p cc cl nf f)
    {W : World} {n : Nat} (hI : Inv W) (hn : n ∈ shD d) (hf : 60 ≤ f + (wayD d cl (n : Int)).length) :
    Calls Tryz.prog 110 #[.agg #[.slice (some ⟨b, o, none⟩) rs.length c, .slice p cl.length cc, nf], .int .i64 (n : Int)] W fun e w' => ∃ v, e = .returned v ∧ OwnT w' W.heap.size v ((insideD d cl (n : Int)).flatMap (itemsF (attD d cl) f d cl)) ∧ Inv w' ∧ Bt S W w' := by
  have hx := T.nx W hI
  have hF := hx.cx.fine
  have hFO := hx.forest
  have B1 : Below W.heap.size W (W.alloc (.cells #[.slice (some ⟨b, o, none⟩) rs.length c, .slice p cl.length cc, nf] 90)) := (Below.refl W.heap.size W).alloc (Nat.le_refl _) _
  have z1 : (W.alloc (.cells #[.slice (some ⟨b, o, none⟩) rs.length c, .slice p cl.length cc, nf] 90)).heap.size = W.heap.size + 1 := by simp
  have q := box3t W (.slice (some ⟨b, o, none⟩) rs.length c) (.slice p cl.length cc) nf 90
  have VK := vkids_any (hx.below B1).cx.doc hF.okd (hx.below B1).cls (by have := forest_few hF hFO; omega) (n : Int)
  have I1 : Hid (Inv (W.alloc (.cells #[.slice (some ⟨b, o, none⟩) rs.length c, .slice p cl.length cc, nf] 90))) := T.below hI B1
  have HC : Hid (∀ w k, Inv w → k ∈ insideD d cl (n : Int) → Calls Tryz.prog 68 #[.agg #[.slice (some ⟨b, o, none⟩) rs.length c, .slice p cl.length cc, nf], .int .i64 (k : Int)] w fun e w' => ∃ v, e = .returned v ∧ OwnT w' w.heap.size v (itemsF (attD d cl) f d cl k) ∧ Inv w' ∧ Bt S w w') := fun w k hw hk => by
    obtain ⟨k1, k2⟩ := way_kid hF hFO hn hk
    exact H w k hw k1 (by omega)
  have LEN : Hid (∀ j, (((insideD d cl (n : Int)).take j).flatMap (itemsF (attD d cl) f d cl)).length ≤ 63600) := fun j => by
    have h1 := flat_few hF hFO (attD d cl) f ((insideD d cl (n : Int)).take j) (fun k hk => (way_kid hF hFO hn (List.mem_of_mem_take hk)).1)
    have h2 := inside_cap hF hFO (n : Int)
    rw [List.length_take] at h1
    have : 60 * min j (insideD d cl (n : Int)).length ≤ 60 * 1060 := Nat.mul_le_mul_left _ (by omega)
    omega
  have LE1 : Hid (∀ k ∈ insideD d cl (n : Int), (itemsF (attD d cl) f d cl k).length ≤ 60) := fun k hk => items_few hF hFO (attD d cl) f k (way_kid hF hFO hn hk).1
  have TT : Hid (Tell B0 S Inv b o c rs d p cc cl nf) := T
  have HB1 : Hid (Below W.heap.size W (W.alloc (.cells #[.slice (some ⟨b, o, none⟩) rs.length c, .slice p cl.length cc, nf] 90))) := B1
  have HLO : Hid (B0 ≤ W.heap.size) := T.low W hI
  obtain ⟨q0, q1, q2⟩ := q
  clear hx B1 T H hI
  generalize insideD d cl (n : Int) = zs at *
  generalize itemsF (attD d cl) f d cl = F at *
  have EJ : Hid (∀ j (h : j < zs.length), (zs.take (j + 1)).flatMap F = (zs.take j).flatMap F ++ F zs[j]) := fun j h => by
    rw [List.take_succ_eq_append_getElem h, List.flatMap_append]
    simp
  have EZ : Hid (zs.flatMap F = (zs.take zs.length).flatMap F) := by show _ = _; rw [List.take_length]
  have E0 : Hid ((zs.take 0).flatMap F = []) := rfl
  generalize hE : (fun j => (zs.take j).flatMap F) = G
  have eE : ∀ j, (zs.take j).flatMap F = G j := fun j => by rw [← hE]
  simp only [eE] at LEN EJ E0 EZ
  rw [EZ.out]
  clear eE hE EZ
  go_enter Tryz.func110, Tryz.ntmps110
  go_upto_region 2 with fail
  generalize hW : W.alloc (.cells #[.slice (some ⟨b, o, none⟩) rs.length c, .slice p cl.length cc, nf] 90) = w1 at *
  clear hW
  go_upto_region 3 with (go_at_call 140; refine VK.mono ?_; clear VK; rintro e w2 ⟨v2, rfl, ho2, hb2⟩; have K2 := keeps_below hb2 (Nat.le_refl _); have b0 := K2 _ _ q0; have b1 := K2 _ _ q1; have b2 := K2 _ _ q2; obtain ⟨pz, cz, rfl, y1, y2, _, hat⟩ := (ints_of_owns ho2).at)
  have hlt2 := World.ownsRow.lt ho2
  have TZ : Hid (∀ j (hj : j < zs.length), ∃ b o, pz = some ⟨b, o, none⟩ ∧ b ∉ S ∧ w2.cell? ⟨b, o + j, none⟩ = some (.int .i64 (zs[j] : Int))) := fun j hj => by
    obtain ⟨b', o', e1, e2⟩ := hat j hj
    refine ⟨b', o', e1, fun hs => ?_, e2⟩
    have h1 := TT.out.lowS _ hs
    have h2 := (hlt2 b' (by rw [e1]; rfl)).1
    have h3 := HLO.out
    rw [z1] at h2
    omega
  have I2 : Hid (Inv w2) := TT.out.below I1.out hb2
  have BT2 : Hid (Bt S W w2) := Bt.below (HB1.out.trans (hb2.mono HB1.out.size))
  have zw2 : W.heap.size + 1 ≤ w2.heap.size := by have := hb2.size; omega
  have NS : Hid (W.heap.size ∉ S) := fun hs => by have h1 := TT.out.lowS _ hs; have h2 := HLO.out; omega
  clear hat ho2 hlt2 K2 q0 q1 q2 hb2 I1 HB1
  go_loopw [5, 15] (fun vv iv wr => ∃ j : Nat, j ≤ zs.length ∧ iv = .int .i64 j ∧ OwnT wr w2.heap.size vv (G j) ∧ Hid (Inv wr) ∧ Bt S w2 wr) (fun _ iv _ => zs.length - (intOf iv).toNat)
  case atStart => exact ⟨0, Nat.zero_le _, rfl, by rw [E0.out]; exact OwnT.nil _ _, I2, Bt.refl _ _⟩
  case round =>
    obtain ⟨j, hj, rfl, hown, HI, hbt⟩ := hrel
    have a0 := hbt.cell b0 (by exact NS.out)
    have a1 := hbt.cell b1 (by exact NS.out)
    have a2 := hbt.cell b2 (by exact NS.out)
    by_cases hlt : j < zs.length
    · obtain ⟨bz, oz, rfl, hbS, hc⟩ := TZ.out j hlt
      have hc1 := hbt.cell hc hbS
      have HK := HC.out wr zs[j] HI.out (List.getElem_mem hlt)
      have L1 := LE1.out zs[j] (List.getElem_mem hlt)
      have LJ := LEN.out j
      have EJ1 : Hid (G (j + 1) = G j ++ F zs[j]) := EJ.out j hlt
      have hvC := hown.lt
      have hzr := hbt.size
      have OW : Hid (OwnT wr w2.heap.size u5 (G j)) := hown
      clear hc hown
      generalize zs[j] = k at *
      generalize F k = m at *
      go_wp2_with (first
        | (go_at_call 68; refine HK.mono ?_; clear HK; rintro e w5 ⟨v5, rfl, hm5, hi5, hb5⟩; have I5 : Hid (Inv w5) := hi5; have OW5 := OW.out.bt hb5 (fun s hs => by have h1 := TT.out.lowS _ hs; have h2 := HLO.out; omega))
        | (at_builtin; refine append_items rfl _ _ rfl rfl rfl OW5 hm5 hzr (fun g hg => (hvC g hg).2) (Nat.le_trans hzr hb5.size) (by omega) ?_; intro v6 w6 ho6 hb6))
      go_roundw
      case rel => exact ⟨j + 1, by omega, by go_num, by rw [EJ1.out]; exact ho6, TT.out.st _ _ I5.out (hb6.mono (by have := HLO.out; omega)), (hbt.trans hb5).high hb6 (Nat.le_refl _)⟩
      case measure => simp [intOf]; omega
    · obtain rfl : j = zs.length := by omega
      have OW : Hid (OwnT wr w2.heap.size u5 (G zs.length)) := hown
      clear hown
      go_wp2_with fail
      go_ret
      exact ⟨_, rfl, OW.out.mono (by omega), HI.out, BT2.out.trans hbt⟩
end Go.Proofs.YtbinbojicmhdlaeGreatDoor

/-
  THE WALKS of tree's item and items.
-/
namespace Go.Proofs.YtbinbojicmhdlaeGreatDoor
open Go.RowKit Go.Maps

/-- a struct's cells, that may be written -/
structure BoxV (w : World) (C : Nat) (xs : List Value) : Prop where
  c : ∀ j x, xs[j]? = some x → w.cell? ⟨C, j, none⟩ = some x
  fz : ∀ k, w.frozen? ⟨C, k, none⟩ = false
theorem boxv_new (w : World) (xs : List Value) (t : Nat) : BoxV (w.alloc (.cells xs.toArray t)) w.heap.size xs := by
  refine ⟨fun j x h => ?_, box_frozen _ _ _⟩
  rw [World.cell?_alloc_new]
  simpa using h
theorem BoxV.bt {S : List Nat} {w w' : World} {C : Nat} {xs : List Value} (h : BoxV w C xs) (hb : Bt S w w') (hC : C ∉ S) (hlt : C < w.heap.size) : BoxV w' C xs := by
  have e := hb.block C hlt hC
  exact ⟨fun j x hx => by rw [← h.c j x hx]; exact World.cell?_of_block e, fun k => by rw [← h.fz k]; simp only [World.frozen?, e]⟩
theorem BoxV.below {w w' : World} {C : Nat} {xs : List Value} (h : BoxV w C xs) (hb : Below w.heap.size w w') (hlt : C < w.heap.size) : BoxV w' C xs := h.bt (S := []) (Bt.below hb) (by simp) hlt
theorem BoxV.set {w : World} {C : Nat} {xs : List Value} (h : BoxV w C xs) (k : Nat) (v : Value) : BoxV (w.setCell ⟨C, k, none⟩ v) C (xs.set k v) := by
  refine ⟨fun j x hx => ?_, fun j => by rw [World.frozen?_setCell]; exact h.fz j⟩
  by_cases hj : j = k
  · subst hj
    have hlt : j < xs.length := by
      have := (List.getElem?_eq_some_iff.mp hx).1
      simpa using this
    have e : v = x := by
      rw [List.getElem?_set_self hlt] at hx
      exact Option.some.inj hx
    subst e
    exact World.cell?_setCell_same _ _ _ (h.c j _ (List.getElem?_eq_getElem hlt))
  · rw [World.cell?_setCell_other _ _ _ _ (by intro e; exact hj (congrArg Addr.off e).symm)]
    exact h.c j x (by rw [List.getElem?_set_ne (fun e => hj e.symm)] at hx; exact hx)
theorem BoxV.other {w : World} {C : Nat} {xs : List Value} (h : BoxV w C xs) {a : Addr} (ha : a.block ≠ C) (v : Value) : BoxV (w.setCell a v) C xs :=
  ⟨fun j x hx => by rw [World.cell?_setCell_other _ _ _ _ (fun e => ha (by rw [e]))]; exact h.c j x hx, fun k => by rw [World.frozen?_setCell]; exact h.fz k⟩

theorem box8_new {w w' : World} {x0 x1 x2 x3 x4 x5 x6 x7 : Value} {t : Nat} (h : Below (w.alloc (.cells #[x0, x1, x2, x3, x4, x5, x6, x7] t)).heap.size (w.alloc (.cells #[x0, x1, x2, x3, x4, x5, x6, x7] t)) w') : BoxV w' w.heap.size [x0, x1, x2, x3, x4, x5, x6, x7] :=
  (boxv_new w [x0, x1, x2, x3, x4, x5, x6, x7] t).below h (by simp)
theorem box8_newd {w w' : World} {x0 x1 x2 x3 x4 x5 x6 x7 : Value} {t : Nat} (h : Below (w.alloc (.cells #[x0, x1, x2, x3, x4, x5, x6, x7] t)).drew.heap.size (w.alloc (.cells #[x0, x1, x2, x3, x4, x5, x6, x7] t)).drew w') : BoxV w' w.heap.size [x0, x1, x2, x3, x4, x5, x6, x7] :=
  ((boxv_new w [x0, x1, x2, x3, x4, x5, x6, x7] t).below (Below.refl _ _).drew (by simp)).below h (by simp [World.drew])
theorem BoxV.lt {w : World} {C : Nat} {x : Value} {xs : List Value} (h : BoxV w C (x :: xs)) : C < w.heap.size := lt_of_cell (h.c 0 x rfl)
theorem BoxV.on {w w' : World} {C : Nat} {x : Value} {xs : List Value} (h : BoxV w C (x :: xs)) (hb : Below w.heap.size w w') : BoxV w' C (x :: xs) := h.below hb h.lt
/-- the same, in the walk's own form -/
structure Facts8 (w : World) (C : Nat) (x0 x1 x2 x3 x4 x5 x6 x7 : Value) : Prop where
  c0 : w.cell? ⟨C, 0, none⟩ = some x0
  c1 : w.cell? ⟨C, 1, none⟩ = some x1
  c2 : w.cell? ⟨C, 2, none⟩ = some x2
  c3 : w.cell? ⟨C, 3, none⟩ = some x3
  c4 : w.cell? ⟨C, 4, none⟩ = some x4
  c5 : w.cell? ⟨C, 5, none⟩ = some x5
  c6 : w.cell? ⟨C, 6, none⟩ = some x6
  c7 : w.cell? ⟨C, 7, none⟩ = some x7
  f0 : w.frozen? ⟨C, 0, none⟩ = false
  f1 : w.frozen? ⟨C, 1, none⟩ = false
  f2 : w.frozen? ⟨C, 2, none⟩ = false
  f3 : w.frozen? ⟨C, 3, none⟩ = false
  f4 : w.frozen? ⟨C, 4, none⟩ = false
  f5 : w.frozen? ⟨C, 5, none⟩ = false
  f6 : w.frozen? ⟨C, 6, none⟩ = false
  f7 : w.frozen? ⟨C, 7, none⟩ = false
theorem BoxV.facts {w : World} {C : Nat} {x0 x1 x2 x3 x4 x5 x6 x7 : Value} (h : BoxV w C [x0, x1, x2, x3, x4, x5, x6, x7]) : Facts8 w C x0 x1 x2 x3 x4 x5 x6 x7 :=
  ⟨h.c 0 _ rfl, h.c 1 _ rfl, h.c 2 _ rfl, h.c 3 _ rfl, h.c 4 _ rfl, h.c 5 _ rfl, h.c 6 _ rfl, h.c 7 _ rfl, h.fz 0, h.fz 1, h.fz 2, h.fz 3, h.fz 4, h.fz 5, h.fz 6, h.fz 7⟩
theorem BoxV.set8 {w : World} {C : Nat} {x0 x1 x2 x3 x4 x5 x6 x7 : Value} (h : BoxV w C [x0, x1, x2, x3, x4, x5, x6, x7]) (y0 y1 y2 y3 y4 y5 y6 y7 : Value) :
    BoxV ((((((((w.setCell ⟨C, 0, none⟩ y0).setCell ⟨C, 1, none⟩ y1).setCell ⟨C, 2, none⟩ y2).setCell ⟨C, 3, none⟩ y3).setCell ⟨C, 4, none⟩ y4).setCell ⟨C, 5, none⟩ y5).setCell ⟨C, 6, none⟩ y6).setCell ⟨C, 7, none⟩ y7) C [y0, y1, y2, y3, y4, y5, y6, y7] :=
  (((((((h.set 0 y0).set 1 y1).set 2 y2).set 3 y3).set 4 y4).set 5 y5).set 6 y6).set 7 y7

theorem keeps_alloc2 {a w : World} (h : Keeps a w) (o : Obj) : Keeps a (w.alloc o) := h.trans (keeps_alloc w o)
theorem keeps_alloc3 {a w : World} (h : Keeps a w) (o : Obj) : Keeps a (w.alloc o).drew := keeps_drew (h.trans (keeps_alloc w o))
theorem keeps8 {w1 w : World} {C : Nat} (h : Keeps w1 w) (hC : w1.heap.size ≤ C) (y0 y1 y2 y3 y4 y5 y6 y7 : Value) :
    Keeps w1 ((((((((w.setCell ⟨C, 0, none⟩ y0).setCell ⟨C, 1, none⟩ y1).setCell ⟨C, 2, none⟩ y2).setCell ⟨C, 3, none⟩ y3).setCell ⟨C, 4, none⟩ y4).setCell ⟨C, 5, none⟩ y5).setCell ⟨C, 6, none⟩ y6).setCell ⟨C, 7, none⟩ y7) := by
  intro a v hv
  have hl := lt_of_cell hv
  have ne : ∀ j, (⟨C, j, none⟩ : Addr) ≠ a := fun j e => by subst e; simp only at hl; omega
  rw [World.cell?_setCell_other _ _ _ _ (ne 7), World.cell?_setCell_other _ _ _ _ (ne 6), World.cell?_setCell_other _ _ _ _ (ne 5), World.cell?_setCell_other _ _ _ _ (ne 4), World.cell?_setCell_other _ _ _ _ (ne 3), World.cell?_setCell_other _ _ _ _ (ne 2), World.cell?_setCell_other _ _ _ _ (ne 1), World.cell?_setCell_other _ _ _ _ (ne 0)]
  exact h a v hv
theorem below8 {w1 w : World} {C : Nat} (h : Below w1.heap.size w1 w) (hC : w1.heap.size ≤ C) (y0 y1 y2 y3 y4 y5 y6 y7 : Value) :
    Below w1.heap.size w1 ((((((((w.setCell ⟨C, 0, none⟩ y0).setCell ⟨C, 1, none⟩ y1).setCell ⟨C, 2, none⟩ y2).setCell ⟨C, 3, none⟩ y3).setCell ⟨C, 4, none⟩ y4).setCell ⟨C, 5, none⟩ y5).setCell ⟨C, 6, none⟩ y6).setCell ⟨C, 7, none⟩ y7) :=
  (((((((h.setCell (p := ⟨C, 0, none⟩) hC _).setCell (p := ⟨C, 1, none⟩) hC _).setCell (p := ⟨C, 2, none⟩) hC _).setCell (p := ⟨C, 3, none⟩) hC _).setCell (p := ⟨C, 4, none⟩) hC _).setCell (p := ⟨C, 5, none⟩) hC _).setCell (p := ⟨C, 6, none⟩) hC _).setCell (p := ⟨C, 7, none⟩) hC _
theorem below_alloc3 {w w' : World} (h : Below w.heap.size w w') (o : Obj) : Below w.heap.size w (w'.alloc o).drew := (h.alloc h.size o).drew
theorem below_alloc {w w' : World} (h : Below w.heap.size w w') (o : Obj) : Below w.heap.size w (w'.alloc o) := h.alloc h.size o
theorem bt8 (C : Nat) (w : World) (y0 y1 y2 y3 y4 y5 y6 y7 : Value) :
    Bt [C] w ((((((((w.setCell ⟨C, 0, none⟩ y0).setCell ⟨C, 1, none⟩ y1).setCell ⟨C, 2, none⟩ y2).setCell ⟨C, 3, none⟩ y3).setCell ⟨C, 4, none⟩ y4).setCell ⟨C, 5, none⟩ y5).setCell ⟨C, 6, none⟩ y6).setCell ⟨C, 7, none⟩ y7) :=
  ((((((((Bt.refl [C] w).set (a := ⟨C, 0, none⟩) (Or.inl (by simp)) _).set (a := ⟨C, 1, none⟩) (Or.inl (by simp)) _).set (a := ⟨C, 2, none⟩) (Or.inl (by simp)) _).set (a := ⟨C, 3, none⟩) (Or.inl (by simp)) _).set (a := ⟨C, 4, none⟩) (Or.inl (by simp)) _).set (a := ⟨C, 5, none⟩) (Or.inl (by simp)) _).set (a := ⟨C, 6, none⟩) (Or.inl (by simp)) _).set (a := ⟨C, 7, none⟩) (Or.inl (by simp)) _
theorem box7u (w : World) (x0 x1 x2 x3 x4 x5 x6 : Value) (t : Nat) : (w.alloc (.cells #[x0, x1, x2, x3, x4, x5, x6] t)).cell? ⟨w.heap.size, 2, none⟩ = some x2 ∧ (w.alloc (.cells #[x0, x1, x2, x3, x4, x5, x6] t)).cell? ⟨w.heap.size, 5, none⟩ = some x5 := by
  constructor <;> rw [World.cell?_alloc_new] <;> simp
theorem box4m (w : World) (x0 x1 x2 x3 : Value) (t : Nat) : (w.alloc (.cells #[x0, x1, x2, x3] t)).cell? ⟨w.heap.size, 1, none⟩ = some x1 ∧ (w.alloc (.cells #[x0, x1, x2, x3] t)).cell? ⟨w.heap.size, 2, none⟩ = some x2 := by
  constructor <;> rw [World.cell?_alloc_new] <;> simp
def itemZ : List Value := [.int .i64 0, .int .i64 0, .string ⟨#[]⟩, .string ⟨#[]⟩, .int .i64 0, .int .i64 0, .bool false, .slice none 0 0]

set_option maxHeartbeats 6400000 in
set_option maxRecDepth 100000 in
theorem titem_of {B0 : Nat} {S : List Nat} {Inv : World → Prop} {b o c : Nat} {rs : List Raw} {d : Tn.Dc} {p : Option Addr} {cc : Nat} {cl : List Cl} {nf : Value} (T : Tell B0 S Inv b o c rs d p cc cl nf) {f : Nat} (H : ItemsC S Inv b o c rs d p cc cl nf f)
    {W : World} {n : Nat} (hI : Inv W) (hn : n ∈ shD d) (hf : 60 ≤ f + (wayD d cl (n : Int)).length) :
    Calls Tryz.prog 111 #[.agg #[.slice (some ⟨b, o, none⟩) rs.length c, .slice p cl.length cc, nf], .int .i64 (n : Int), .int .i64 (roleD d (n : Int))] W fun e w' => ∃ kv, e = .returned (.agg #[.int .i64 (n : Int), .int .i64 (if bareI (roleD d (n : Int)) then 2 else roleD d (n : Int)), .string (attD d cl n).name, .string (attD d cl n).about, .int .i64 (attD d cl n).level, .int .i64 (attD d cl n).checked, .bool (attD d cl n).off, kv]) ∧
      OwnT w' W.heap.size kv (if leafI (roleD d (n : Int)) then [] else (insideD d cl (n : Int)).flatMap (itemsF (attD d cl) f d cl)) ∧ Inv w' ∧ Bt S W w' := by
  have hx := T.nx W hI
  have hlv := sh_lv hx.cx.fine hn
  have TT : Hid (Tell B0 S Inv b o c rs d p cc cl nf) := T
  have HLO : Hid (B0 ≤ W.heap.size) := T.low W hI
  have B1 : Below W.heap.size W ((W.alloc (.cells #[.slice (some ⟨b, o, none⟩) rs.length c, .slice p cl.length cc, nf] 90)).alloc (.cells #[.int .i64 0, .int .i64 0, .string ⟨#[]⟩, .string ⟨#[]⟩, .int .i64 0, .int .i64 0, .bool false, .slice none 0 0] 72)) := ((Below.refl W.heap.size W).alloc (Nat.le_refl _) _).alloc (by simp) _
  have z1 : ((W.alloc (.cells #[.slice (some ⟨b, o, none⟩) rs.length c, .slice p cl.length cc, nf] 90)).alloc (.cells #[.int .i64 0, .int .i64 0, .string ⟨#[]⟩, .string ⟨#[]⟩, .int .i64 0, .int .i64 0, .bool false, .slice none 0 0] 72)).heap.size = W.heap.size + 2 := by simp
  have q := box3 W (.slice (some ⟨b, o, none⟩) rs.length c) (.slice p cl.length cc) nf 90 (.cells #[.int .i64 0, .int .i64 0, .string ⟨#[]⟩, .string ⟨#[]⟩, .int .i64 0, .int .i64 0, .bool false, .slice none 0 0] 72)
  have R1 : Hid (BoxV ((W.alloc (.cells #[.slice (some ⟨b, o, none⟩) rs.length c, .slice p cl.length cc, nf] 90)).alloc (.cells #[.int .i64 0, .int .i64 0, .string ⟨#[]⟩, .string ⟨#[]⟩, .int .i64 0, .int .i64 0, .bool false, .slice none 0 0] 72)) (W.heap.size + 1) itemZ) := by
    have h := boxv_new (W.alloc (.cells #[.slice (some ⟨b, o, none⟩) rs.length c, .slice p cl.length cc, nf] 90)) itemZ 72
    simp only [World.size_alloc] at h
    exact h
  have I1 : Hid (Inv ((W.alloc (.cells #[.slice (some ⟨b, o, none⟩) rs.length c, .slice p cl.length cc, nf] 90)).alloc (.cells #[.int .i64 0, .int .i64 0, .string ⟨#[]⟩, .string ⟨#[]⟩, .int .i64 0, .int .i64 0, .bool false, .slice none 0 0] 72))) := T.below hI B1
  have HB1 : Hid (Below W.heap.size W ((W.alloc (.cells #[.slice (some ⟨b, o, none⟩) rs.length c, .slice p cl.length cc, nf] 90)).alloc (.cells #[.int .i64 0, .int .i64 0, .string ⟨#[]⟩, .string ⟨#[]⟩, .int .i64 0, .int .i64 0, .bool false, .slice none 0 0] 72))) := B1
  have KC : Hid (∀ w, Inv w → Calls Tryz.prog 110 #[.agg #[.slice (some ⟨b, o, none⟩) rs.length c, .slice p cl.length cc, nf], .int .i64 (n : Int)] w fun e w' => ∃ v, e = .returned v ∧ OwnT w' w.heap.size v ((insideD d cl (n : Int)).flatMap (itemsF (attD d cl) f d cl)) ∧ Inv w' ∧ Bt S w w') := fun w hw => tkid_of TT.out H hw hn hf
  have AK : Hid (∀ w, Inv w → Calls Tryz.prog 142 #[.agg #[.slice (some ⟨b, o, none⟩) rs.length c, .slice p cl.length cc, nf], .int .i64 (n : Int)] w fun e w' => (∃ p k c, e = .returned (.agg #[.int .i64 (n : Int), .string (memoD d cl (n : Int)).name, .string (memoD d cl (n : Int)).about, .slice p k c])) ∧ Inv w' ∧ Bt S w w') := fun w hw => TT.out.ask w n hw hlv
  have LV : Hid (∀ w, Inv w → Calls Tryz.prog 16 #[.slice (some ⟨b, o, none⟩) rs.length c, .slice p cl.length cc, .int .i64 (n : Int)] w fun e w' => e = .returned (.int .i64 (levelD d cl (n : Int))) ∧ Below w.heap.size w w') := fun w hw => tlevel_any (TT.out.nx w hw) hlv
  have CK : Hid (∀ w, Inv w → Calls Tryz.prog 18 #[.slice (some ⟨b, o, none⟩) rs.length c, .int .i64 (n : Int)] w fun e w' => e = .returned (.int .i64 (checkD d (n : Int))) ∧ Below w.heap.size w w') := fun w hw => tchecked_any (TT.out.nx w hw).cx (n : Int)
  have OF : Hid (∀ w, Inv w → Calls Tryz.prog 141 #[.slice (some ⟨b, o, none⟩) rs.length c, .int .i64 (n : Int)] w fun e w' => e = .returned (.bool (offD d (n : Int))) ∧ Below w.heap.size w w') := fun w hw => toff_any (TT.out.nx w hw).cx (n : Int)
  have KI : Hid (∀ w, Inv w → Calls Tryz.prog 41 #[.int .i64 (roleD d (n : Int))] w fun e w' => (∃ nm x1 z, e = .returned (.agg #[.string nm, .bool x1, .bool (leafI (roleD d (n : Int))), .bool (levelI (roleD d (n : Int))), .bool (checkedI (roleD d (n : Int))), .bool (namedI (roleD d (n : Int))), .int .i64 z])) ∧ Below w.heap.size w w') := fun w hw => tkind_any (TT.out.nx w hw).cx.tab _
  have EN : Hid ((attD d cl n).name = if namedI (roleD d (n : Int)) then (memoD d cl (n : Int)).name else ⟨#[]⟩) := rfl
  have EB : Hid ((attD d cl n).about = if namedI (roleD d (n : Int)) then (memoD d cl (n : Int)).about else ⟨#[]⟩) := rfl
  have EL : Hid ((attD d cl n).level = levelD d cl (n : Int) ∧ (attD d cl n).checked = checkD d (n : Int) ∧ (attD d cl n).off = offD d (n : Int)) := ⟨rfl, rfl, rfl⟩
  rw [EL.out.1, EL.out.2.1, EL.out.2.2]
  obtain ⟨q0, q1, q2⟩ := q
  have HQ : Hid (∀ w, Below W.heap.size W w → True) := fun _ _ => trivial
  clear hx B1 T H hI hf EL HQ
  generalize (insideD d cl (n : Int)).flatMap (itemsF (attD d cl) f d cl) = KK at *
  generalize (attD d cl n).name = aN at *
  generalize (attD d cl n).about = aB at *
  generalize levelD d cl (n : Int) = lv at *
  generalize checkD d (n : Int) = ck at *
  generalize offD d (n : Int) = off at *
  generalize memoD d cl (n : Int) = M at *
  generalize roleD d (n : Int) = r at *
  generalize hr2 : (if bareI r then 2 else r) = r2
  have HR2 : Hid ((if bareI r then 2 else r) = r2) := hr2
  clear hr2
  generalize hks : (if leafI r then [] else KK) = ks
  have HKS : Hid ((if leafI r then [] else KK) = ks) := hks
  clear hks
  have NS0 : Hid (W.heap.size ∉ S) := fun hs => by have h1 := TT.out.lowS _ hs; have h2 := HLO.out; omega
  have NSG : Hid (∀ g, W.heap.size ≤ g → g ∉ S) := fun g hg hs => by have h1 := TT.out.lowS _ hs; have h2 := HLO.out; omega
  go_enter Tryz.func111, Tryz.ntmps111
  go_upto_region 1 with fail
  generalize hW : (W.alloc (.cells #[.slice (some ⟨b, o, none⟩) rs.length c, .slice p cl.length cc, nf] 90)).alloc (.cells #[.int .i64 0, .int .i64 0, .string ⟨#[]⟩, .string ⟨#[]⟩, .int .i64 0, .int .i64 0, .bool false, .slice none 0 0] 72) = w1 at *
  clear hW
  go_cut [7] from 10 to 51 (fun v wc => ∃ G, v = .pointer (some ⟨G, 0, none⟩) ∧ BoxV wc G [.int .i64 (n : Int), .int .i64 r, .string ⟨#[]⟩, .string ⟨#[]⟩, .int .i64 lv, .int .i64 ck, .bool off, .slice none 0 0] ∧ w1.heap.size ≤ G ∧ G < wc.heap.size ∧ Below w1.heap.size w1 wc)
  case first =>
    clear z1
    have SS : ∀ w'', Keeps w1 w'' → (fun w'' : World => w''.cell? ⟨W.heap.size, 0, none⟩ = some (.slice (some ⟨b, o, none⟩) rs.length c) ∧ w''.cell? ⟨W.heap.size, 1, none⟩ = some (.slice p cl.length cc)) w'' := fun w'' hk => ⟨hk _ _ q0, hk _ _ q1⟩
    have LV2 : ∀ w, Below w1.heap.size w1 w → Calls Tryz.prog 16 #[.slice (some ⟨b, o, none⟩) rs.length c, .slice p cl.length cc, .int .i64 (n : Int)] w fun e w' => e = .returned (.int .i64 lv) ∧ Below w1.heap.size w1 w' ∧ Keeps w1 w' ∧ Below w.heap.size w w' ∧ w1.heap.size ≤ w'.heap.size := fun w hb => (LV.out w (TT.out.below I1.out hb)).mono (by
      rintro e w' ⟨rfl, h⟩
      have h2 := hb.trans (h.mono hb.size)
      exact ⟨rfl, h2, keeps_below h2 (Nat.le_refl _), h, h2.size⟩)
    have CK2 : ∀ w, Below w1.heap.size w1 w → Calls Tryz.prog 18 #[.slice (some ⟨b, o, none⟩) rs.length c, .int .i64 (n : Int)] w fun e w' => e = .returned (.int .i64 ck) ∧ Below w1.heap.size w1 w' ∧ Keeps w1 w' ∧ Below w.heap.size w w' ∧ w1.heap.size ≤ w'.heap.size := fun w hb => (CK.out w (TT.out.below I1.out hb)).mono (by
      rintro e w' ⟨rfl, h⟩
      have h2 := hb.trans (h.mono hb.size)
      exact ⟨rfl, h2, keeps_below h2 (Nat.le_refl _), h, h2.size⟩)
    have OF2 : ∀ w, Below w1.heap.size w1 w → Calls Tryz.prog 141 #[.slice (some ⟨b, o, none⟩) rs.length c, .int .i64 (n : Int)] w fun e w' => e = .returned (.bool off) ∧ Below w1.heap.size w1 w' ∧ Keeps w1 w' ∧ Below w.heap.size w w' ∧ w1.heap.size ≤ w'.heap.size := fun w hb => (OF.out w (TT.out.below I1.out hb)).mono (by
      rintro e w' ⟨rfl, h⟩
      have h2 := hb.trans (h.mono hb.size)
      exact ⟨rfl, h2, keeps_below h2 (Nat.le_refl _), h, h2.size⟩)
    have b1 : Below w1.heap.size w1 w1.drew := (Below.refl _ _).drew
    have kd : Keeps w1 w1.drew := keeps_drew (Keeps.refl _)
    have k1 : Keeps w1 w1 := Keeps.refl _
    have b0 : Below w1.heap.size w1 w1 := Below.refl _ _
    have HLV2 : Hid _ := LV2
    have HCK2 : Hid _ := CK2
    have HOF2 : Hid _ := OF2
    clear LV2 CK2 OF2
    go_region_held3 (fun w'' : World => w''.cell? ⟨W.heap.size, 0, none⟩ = some (.slice (some ⟨b, o, none⟩) rs.length c) ∧ w''.cell? ⟨W.heap.size, 1, none⟩ = some (.slice p cl.length cc))
      ((with_reducible refine SS _ ?_; first | with_reducible assumption | with_reducible exact Keeps.refl _ | (with_reducible refine keeps_alloc2 ?_ _; with_reducible assumption) | (with_reducible refine keeps_alloc3 ?_ _; with_reducible assumption) | (with_reducible refine keeps8 ?_ ?_ _ _ _ _ _ _ _ _; with_reducible assumption; omega)))
      (first
        | (go_at_call 16; refine (HLV2.out _ (by first | assumption | with_reducible exact below_alloc (by assumption) _ | with_reducible exact below_alloc3 (by assumption) _)).mono ?_; rintro e w5 ⟨rfl, hb5, hk5, hr5, hs5⟩; first | (with_reducible have bx := box8_new hr5) | (with_reducible have bx := box8_newd hr5) | (have bx := BoxV.on (by assumption) hr5) | skip)
        | (go_at_call 18; refine (HCK2.out _ (by first | assumption | with_reducible exact below_alloc (by assumption) _ | with_reducible exact below_alloc3 (by assumption) _)).mono ?_; rintro e w6 ⟨rfl, hb5, hk5, hr5, hs5⟩; first | (with_reducible have bx := box8_new hr5) | (with_reducible have bx := box8_newd hr5) | (have bx := BoxV.on (by assumption) hr5) | skip)
        | (go_at_call 141; refine (HOF2.out _ (by first | assumption | with_reducible exact below_alloc (by assumption) _ | with_reducible exact below_alloc3 (by assumption) _)).mono ?_; rintro e w7 ⟨rfl, hb5, hk5, hr5, hs5⟩; first | ((with_reducible have bx := box8_new hr5); obtain ⟨k0, k1, k2, k3, k4, k5, k6, k7, l0, l1, l2, l3, l4, l5, l6, l7⟩ := bx.facts) | ((with_reducible have bx := box8_newd hr5); obtain ⟨k0, k1, k2, k3, k4, k5, k6, k7, l0, l1, l2, l3, l4, l5, l6, l7⟩ := bx.facts) | (have bx := BoxV.on (by assumption) hr5; obtain ⟨k0, k1, k2, k3, k4, k5, k6, k7, l0, l1, l2, l3, l4, l5, l6, l7⟩ := bx.facts) | skip))
    · go_wp2_with fail
      go_meet
      exact ⟨_, rfl, boxv_new _ [.int .i64 (n : Int), .int .i64 r, .string ⟨#[]⟩, .string ⟨#[]⟩, .int .i64 lv, .int .i64 ck, .bool off, .slice none 0 0] _, by assumption, by simp, below_alloc (by assumption) _⟩
    all_goals
      go_wp2_with fail
      go_meet
      exact ⟨_, rfl, bx.set8 _ _ _ _ _ _ _ _, by first | assumption | exact Nat.le_refl _, by have := bx.lt; simpa using this, below8 (by assumption) (by first | assumption | exact Nat.le_refl _) _ _ _ _ _ _ _ _⟩
  case rest =>
    obtain ⟨G, rfl, hbx, hG1, hG2, hbw⟩ := hcut
    have NG : Hid (W.heap.size + 2 ≤ G) := by show _ ≤ _; omega
    have HBX : Hid (BoxV wc G [.int .i64 (n : Int), .int .i64 r, .string ⟨#[]⟩, .string ⟨#[]⟩, .int .i64 lv, .int .i64 ck, .bool off, .slice none 0 0]) := hbx
    have HR : Hid (BoxV wc (W.heap.size + 1) itemZ) := R1.out.below hbw (by omega)
    have HI : Hid (Inv wc) := TT.out.below I1.out hbw
    have HBw : Hid (Below W.heap.size W wc) := HB1.out.trans (hbw.mono (by omega))
    have HT : Hid (wc.cell? ⟨W.heap.size, 0, none⟩ = some (.slice (some ⟨b, o, none⟩) rs.length c) ∧ wc.cell? ⟨W.heap.size, 1, none⟩ = some (.slice p cl.length cc) ∧ wc.cell? ⟨W.heap.size, 2, none⟩ = some nf) := by
      have K := keeps_below hbw (Nat.le_refl _)
      exact ⟨K _ _ q0, K _ _ q1, K _ _ q2⟩
    have HG2 : Hid (G < wc.heap.size) := hG2
    clear hbx R1 I1 HB1 hbw q0 q1 q2 hG1 hG2 z1 LV CK OF
    -- main, for want of another role
    have f8 := HBX.out.facts
    obtain ⟨_, k1, _, _, _, _, _, _, _, l1, _, _, _, _, _, _⟩ := f8
    go_upto_if 29 with (go_at_call 109; refine (ttold_any _ _).mono ?_; rintro e w2 ⟨rfl, hww⟩; subst hww)
    go_cut [] from 10 to 51 (fun wd => BoxV wd G [.int .i64 (n : Int), .int .i64 r2, .string ⟨#[]⟩, .string ⟨#[]⟩, .int .i64 lv, .int .i64 ck, .bool off, .slice none 0 0] ∧ Bt [G] w2 wd)
    case first =>
      cases hb : bareI r with
      | true =>
        go_wp2_with fail
        go_meet
        have er : r2 = 2 := by rw [← HR2.out, if_pos hb]
        rw [er]
        exact ⟨HBX.out.set 1 (.int .i64 2), (Bt.refl _ _).set (by simp) _⟩
      | false =>
        go_wp2_with fail
        go_meet
        have er : r2 = r := by rw [← HR2.out, if_neg (by simp [hb])]
        rw [er]
        exact ⟨HBX.out, Bt.refl _ _⟩
    case rest =>
      obtain ⟨hbx2, hbt⟩ := hcut
      have B2 : Below (W.heap.size + 2) w2 wc := hbt.low (by have := HG2.out; have := NG.out; omega) (by simp; exact NG.out)
      have HBX2 : Hid (BoxV wc G [.int .i64 (n : Int), .int .i64 r2, .string ⟨#[]⟩, .string ⟨#[]⟩, .int .i64 lv, .int .i64 ck, .bool off, .slice none 0 0]) := hbx2
      have HRR2 : Hid (BoxV wc (W.heap.size + 1) itemZ) := HR.out.bt hbt (by have := NG.out; simp; omega) (by have := HG2.out; have := NG.out; omega)
      have HI2 : Hid (Inv wc) := TT.out.st _ _ HI.out (B2.mono (by have := HLO.out; omega))
      have HB2 : Hid (Below W.heap.size W wc) := HBw.out.trans (B2.mono (by omega))
      have HT2 : Hid (wc.cell? ⟨W.heap.size, 0, none⟩ = some (.slice (some ⟨b, o, none⟩) rs.length c) ∧ wc.cell? ⟨W.heap.size, 1, none⟩ = some (.slice p cl.length cc) ∧ wc.cell? ⟨W.heap.size, 2, none⟩ = some nf) := by
        have ne : W.heap.size ∉ [G] := by have := NG.out; simp; omega
        exact ⟨hbt.cell HT.out.1 ne, hbt.cell HT.out.2.1 ne, hbt.cell HT.out.2.2 ne⟩
      have HG3 : Hid (G < wc.heap.size) := Nat.lt_of_lt_of_le HG2.out hbt.size
      clear hbx2 hbt B2 HBX HR HI HBw HT HG2 k1 l1
      have KI1 := KI.out wc HI2.out
      go_upto_if 34 with (go_at_call 41; refine KI1.mono ?_; clear KI1; rintro e w3 ⟨⟨nm, x1, z, rfl⟩, hb3⟩)
      have BK : Below w3.heap.size w3 (w3.alloc (.cells #[.string nm, .bool x1, .bool (leafI r), .bool (levelI r), .bool (checkedI r), .bool (namedI r), .int .i64 z] 49)) := (Below.refl _ _).alloc (Nat.le_refl _) _
      have hk := box7u w3 (.string nm) (.bool x1) (.bool (leafI r)) (.bool (levelI r)) (.bool (checkedI r)) (.bool (namedI r)) (.int .i64 z) 49
      have B3 := hb3.trans (BK.mono hb3.size)
      have z3 : w3.heap.size < (w3.alloc (.cells #[.string nm, .bool x1, .bool (leafI r), .bool (levelI r), .bool (checkedI r), .bool (namedI r), .int .i64 z] 49)).heap.size := by simp
      have zG : G < w3.heap.size := Nat.lt_of_lt_of_le HG3.out hb3.size
      clear BK hb3
      generalize hQ : w3.heap.size = Q at *
      generalize w3.alloc (.cells #[.string nm, .bool x1, .bool (leafI r), .bool (levelI r), .bool (checkedI r), .bool (namedI r), .int .i64 z] 49) = w4 at *
      obtain ⟨kl, kn⟩ := hk
      have HZ : Hid (G < Q ∧ Q < w4.heap.size) := ⟨zG, z3⟩
      have HBX4 : Hid (BoxV w4 G [.int .i64 (n : Int), .int .i64 r2, .string ⟨#[]⟩, .string ⟨#[]⟩, .int .i64 lv, .int .i64 ck, .bool off, .slice none 0 0]) := HBX2.out.below B3 HG3.out
      have HR4 : Hid (BoxV w4 (W.heap.size + 1) itemZ) := HRR2.out.below B3 (by have := HG3.out; have := NG.out; omega)
      have HI4 : Hid (Inv w4) := TT.out.below HI2.out B3
      have HB4 : Hid (Below W.heap.size W w4) := HB2.out.trans (B3.mono HB2.out.size)
      have HT4 : Hid (w4.cell? ⟨W.heap.size, 0, none⟩ = some (.slice (some ⟨b, o, none⟩) rs.length c) ∧ w4.cell? ⟨W.heap.size, 1, none⟩ = some (.slice p cl.length cc) ∧ w4.cell? ⟨W.heap.size, 2, none⟩ = some nf) := by
        have K := keeps_below B3 (Nat.le_refl _)
        exact ⟨K _ _ HT2.out.1, K _ _ HT2.out.2.1, K _ _ HT2.out.2.2⟩
      have HKL : Hid (w4.cell? ⟨Q, 2, none⟩ = some (.bool (leafI r))) := kl
      clear HBX2 HRR2 HI2 HB2 HT2 HG3 B3 zG z3 hQ kl
      -- its name
      go_cut [] from 10 to 51 (fun wd => BoxV wd G [.int .i64 (n : Int), .int .i64 r2, .string aN, .string aB, .int .i64 lv, .int .i64 ck, .bool off, .slice none 0 0] ∧ Inv wd ∧ Bt (G :: S) w4 wd)
      case first =>
        cases hnm : namedI r with
        | false =>
          have e1 : Hid (aN = ⟨#[]⟩ ∧ aB = ⟨#[]⟩) := ⟨by rw [EN.out, if_neg (by simp [hnm])], by rw [EB.out, if_neg (by simp [hnm])]⟩
          rw [hnm] at kn
          go_wp2_with fail
          go_meet
          rw [e1.out.1, e1.out.2]
          exact ⟨HBX4.out, HI4.out, Bt.refl _ _⟩
        | true =>
          have e1 : Hid (aN = M.name ∧ aB = M.about) := ⟨by rw [EN.out, if_pos hnm], by rw [EB.out, if_pos hnm]⟩
          rw [hnm] at kn
          have AK4 := AK.out w4 HI4.out
          have t4 := HT4.out
          obtain ⟨t0, t1, t2⟩ := t4
          go_upto_region 7 with (go_at_call 142; refine AK4.mono ?_; clear AK4; rintro e w5 ⟨⟨pm, km, cm, rfl⟩, hi5, hb5⟩)
          have hm := box4m w5 (.int .i64 (n : Int)) (.string M.name) (.string M.about) (.slice pm km cm) 67
          have BM : Below w5.heap.size w5 (w5.alloc (.cells #[.int .i64 (n : Int), .string M.name, .string M.about, .slice pm km cm] 67)) := (Below.refl _ _).alloc (Nat.le_refl _) _
          have HX5 : BoxV w5 G [.int .i64 (n : Int), .int .i64 r2, .string ⟨#[]⟩, .string ⟨#[]⟩, .int .i64 lv, .int .i64 ck, .bool off, .slice none 0 0] := HBX4.out.bt hb5 (NSG.out G (by have := NG.out; omega)) (by have := HZ.out; omega)
          have HX6 : Hid (BoxV (w5.alloc (.cells #[.int .i64 (n : Int), .string M.name, .string M.about, .slice pm km cm] 67)) G [.int .i64 (n : Int), .int .i64 r2, .string ⟨#[]⟩, .string ⟨#[]⟩, .int .i64 lv, .int .i64 ck, .bool off, .slice none 0 0]) := HX5.on BM
          have HI6 : Hid (Inv (w5.alloc (.cells #[.int .i64 (n : Int), .string M.name, .string M.about, .slice pm km cm] 67))) := TT.out.below hi5 BM
          have HB6 : Hid (Bt (G :: S) w4 (w5.alloc (.cells #[.int .i64 (n : Int), .string M.name, .string M.about, .slice pm km cm] 67))) := (hb5.wide (by simp; intro k hk; exact Or.inr hk)).trans (Bt.below BM)
          have neG : w5.heap.size ≠ G := by have := hb5.size; have := HZ.out; omega
          clear HX5 BM hi5 hb5 t0 t1 t2 kn
          generalize w5.heap.size = D at *
          generalize w5.alloc (.cells #[.int .i64 (n : Int), .string M.name, .string M.about, .slice pm km cm] 67) = w6 at *
          obtain ⟨m1, m2⟩ := hm
          have f6 := HX6.out.facts
          obtain ⟨_, _, g2, g3, _, _, _, _, _, _, l2, l3, _, _, _, _⟩ := f6
          have SS : ∀ w'', Bt [G] w6 w'' → (fun w'' : World => w''.cell? ⟨D, 1, none⟩ = some (.string M.name) ∧ w''.cell? ⟨D, 2, none⟩ = some (.string M.about)) w'' := fun w'' h => ⟨h.cell m1 (by simpa using neG), h.cell m2 (by simpa using neG)⟩
          have bd : Bt [G] w6 w6.drew := (Bt.refl _ _).drew
          have br : Bt [G] w6 w6 := Bt.refl _ _
          have HX7 : Hid (BoxV w6.drew G [.int .i64 (n : Int), .int .i64 r2, .string ⟨#[]⟩, .string ⟨#[]⟩, .int .i64 lv, .int .i64 ck, .bool off, .slice none 0 0]) := HX6.out.on (Below.refl _ _).drew
          have FIN : Hid (∀ w7, BoxV w7 G [.int .i64 (n : Int), .int .i64 r2, .string M.name, .string M.about, .int .i64 lv, .int .i64 ck, .bool off, .slice none 0 0] → Bt [G] w6 w7 → BoxV w7 G [.int .i64 (n : Int), .int .i64 r2, .string aN, .string aB, .int .i64 lv, .int .i64 ck, .bool off, .slice none 0 0] ∧ Inv w7 ∧ Bt (G :: S) w4 w7) := fun w7 h1 h2 => by
            rw [e1.out.1, e1.out.2]
            have hz6 := HB6.out.size
            exact ⟨h1, TT.out.st _ _ HI6.out (h2.low (by have := HLO.out; have := HZ.out; have := NG.out; omega) (by simp; have := HLO.out; have := NG.out; omega)), HB6.out.trans (h2.wide (by simp))⟩
          clear br
          go_region_held3 (fun w'' : World => w''.cell? ⟨D, 1, none⟩ = some (.string M.name) ∧ w''.cell? ⟨D, 2, none⟩ = some (.string M.about))
            (((with_reducible refine SS _ ?_); (repeat (first | with_reducible refine Bt.set ?_ (Or.inl (by simp)) _ | with_reducible refine Bt.drew ?_)); (with_reducible exact Bt.refl _ _)))
            (first | fail)
          go_wp2_with fail
          go_meet
          exact FIN.out _ (((HX6.out.set 2 (.string M.name)).set 3 (.string M.about)).on (Below.refl _ _).drew) (((Bt.refl _ _).set (Or.inl (by simp)) _).set (Or.inl (by simp)) _).drew
      case rest =>
        obtain ⟨hbx5, hi5, hb5⟩ := hcut
        have HBX5 : Hid (BoxV wc G [.int .i64 (n : Int), .int .i64 r2, .string aN, .string aB, .int .i64 lv, .int .i64 ck, .bool off, .slice none 0 0]) := hbx5
        have HI5 : Hid (Inv wc) := hi5
        have NS5 : Hid (∀ x, W.heap.size ≤ x → x ≠ G → x ∉ G :: S) := fun x hx hne hm => by
          rcases List.mem_cons.mp hm with e | h
          · exact hne e
          · exact NSG.out x hx h
        have HR5 : Hid (BoxV wc (W.heap.size + 1) itemZ) := HR4.out.bt hb5 (NS5.out _ (by omega) (by have := NG.out; omega)) (by have := HZ.out; have := NG.out; omega)
        have t0 := hb5.cell HT4.out.1 (NS5.out _ (Nat.le_refl _) (by have := NG.out; simp only; omega))
        have t1 := hb5.cell HT4.out.2.1 (NS5.out _ (Nat.le_refl _) (by have := NG.out; simp only; omega))
        have t2 := hb5.cell HT4.out.2.2 (NS5.out _ (Nat.le_refl _) (by have := NG.out; simp only; omega))
        have kl := hb5.cell HKL.out (NS5.out _ (by have := HZ.out; have := NG.out; simp only; omega) (by have := HZ.out; simp only; omega))
        have HB5 : Hid (Bt S W wc) := ⟨hb5.os.trans HB4.out.os, hb5.tape.trans HB4.out.tape, hb5.output.trans HB4.out.output, Nat.le_trans HB4.out.size hb5.size, fun i hi hn => by
          rw [hb5.block i (by have := HB4.out.size; omega) (by
            intro hm
            rcases List.mem_cons.mp hm with e | h
            · have := NG.out; omega
            · exact hn h)]
          exact HB4.out.block i hi⟩
        have HZ5 : Hid (G < wc.heap.size) := by have := hb5.size; have := HZ.out; show _ < _; omega
        have KC5 := KC.out wc hi5
        have f5 := HBX5.out.facts
        obtain ⟨g0, g1, g2, g3, g4, g5, g6, g7, l0, l1, l2, l3, l4, l5, l6, l7⟩ := f5
        clear hbx5 hi5 hb5 HB4 HT4 HKL HR4 HI4 HBX4 HZ KI AK
        go_upto_if 46 with fail
        go_cut [] from 10 to 51 (fun wd => ∃ pk ck2 B, BoxV wd G [.int .i64 (n : Int), .int .i64 r2, .string aN, .string aB, .int .i64 lv, .int .i64 ck, .bool off, .slice pk ks.length ck2] ∧ OwnT wd B (.slice pk ks.length ck2) ks ∧ G < B ∧ Inv wd ∧ Bt S W wd ∧ BoxV wd (W.heap.size + 1) itemZ)
        case first =>
          cases hlf : leafI r with
          | true =>
            rw [hlf] at kl
            go_wp2_with fail
            go_meet
            have ek : ks = [] := by rw [← HKS.out, if_pos hlf]
            rw [ek]
            exact ⟨none, 0, G + 1, HBX5.out, OwnT.nil _ _, Nat.lt_succ_self _, HI5.out, HB5.out, HR5.out⟩
          | false =>
            rw [hlf] at kl
            go_wp2_with (go_at_call 110; refine KC5.mono ?_; clear KC5; rintro e w6 ⟨v6, rfl, ho6, hi6, hb6⟩; obtain ⟨p6, c6, rfl⟩ := ho6.shape; have h6 := HBX5.out.bt hb6 (NSG.out G (by have := NG.out; omega)) HZ5.out; have f6 := h6.facts; obtain ⟨_, _, _, _, _, _, _, y7, _, _, _, _, _, _, _, x7⟩ := f6)
            go_meet
            have ek : ks = KK := by rw [← HKS.out, if_neg (by simp [hlf])]
            rw [ek]
            have bts : Bt [G] w6 (w6.setCell ⟨G, 7, none⟩ (.slice p6 KK.length c6)) := (Bt.refl _ _).set (by simp) _
            refine ⟨p6, c6, wc.heap.size, h6.set 7 _, ho6.bt bts (by simp; exact HZ5.out), HZ5.out, TT.out.st _ _ hi6 (bts.low (by have := HLO.out; have := hb6.size; have := HZ5.out; have := NG.out; omega) (by simp; have := HLO.out; have := NG.out; omega)), ?_, ?_⟩
            · exact (HB5.out.trans hb6).set (Or.inr (by have := NG.out; simp only; omega)) _
            · exact (HR5.out.bt hb6 (NSG.out _ (by omega)) (by have := HZ5.out; have := NG.out; omega)).other (by have := NG.out; simp only; omega) _
        case rest =>
          obtain ⟨pk, ck2, B, hx6, ho6, hGB, hi6, hb6, hr6⟩ := hcut
          have OW : Hid (OwnT wc B (.slice pk ks.length ck2) ks) := ho6
          clear HBX5 HI5 HR5 HB5 HZ5 KC5 g0 g1 g2 g3 g4 g5 g6 g7 l0 l1 l2 l3 l4 l5 l6 l7 t0 t1 t2 kl ho6
          have fG := hx6.facts
          obtain ⟨g0, g1, g2, g3, g4, g5, g6, g7, _, _, _, _, _, _, _, _⟩ := fG
          have HR6 : Hid (BoxV wc (W.heap.size + 1) itemZ) := hr6
          have fR : Facts8 wc (W.heap.size + 1) (.int .i64 0) (.int .i64 0) (.string ⟨#[]⟩) (.string ⟨#[]⟩) (.int .i64 0) (.int .i64 0) (.bool false) (.slice none 0 0) := BoxV.facts hr6
          obtain ⟨r0, r1, r3, r4, r5, r6, r7, r8, l0, l1, l2, l3, l4, l5, l6, l7⟩ := fR
          clear hx6 hr6
          go_wp2_with fail
          have G8 := BoxV.set8 (w := wc) (C := W.heap.size + 1) (x0 := .int .i64 0) (x1 := .int .i64 0) (x2 := .string ⟨#[]⟩) (x3 := .string ⟨#[]⟩) (x4 := .int .i64 0) (x5 := .int .i64 0) (x6 := .bool false) (x7 := .slice none 0 0) HR6.out (.int .i64 (n : Int)) (.int .i64 r2) (.string aN) (.string aB) (.int .i64 lv) (.int .i64 ck) (.bool off) (.slice pk ks.length ck2)
          obtain ⟨s0, s1, s2, s3, s4, s5, s6, s7, _, _, _, _, _, _, _, _⟩ := G8.facts
          have b8 := bt8 (W.heap.size + 1) wc (.int .i64 (n : Int)) (.int .i64 r2) (.string aN) (.string aB) (.int .i64 lv) (.int .i64 ck) (.bool off) (.slice pk ks.length ck2)
          generalize ((((((((wc.setCell ⟨W.heap.size + 1, 0, none⟩ (.int .i64 (n : Int))).setCell ⟨W.heap.size + 1, 1, none⟩ (.int .i64 r2)).setCell ⟨W.heap.size + 1, 2, none⟩ (.string aN)).setCell ⟨W.heap.size + 1, 3, none⟩ (.string aB)).setCell ⟨W.heap.size + 1, 4, none⟩ (.int .i64 lv)).setCell ⟨W.heap.size + 1, 5, none⟩ (.int .i64 ck)).setCell ⟨W.heap.size + 1, 6, none⟩ (.bool off)).setCell ⟨W.heap.size + 1, 7, none⟩ (.slice pk ks.length ck2)) = w9 at *
          refine bodyPost_ret (v := .agg #[.int .i64 (n : Int), .int .i64 r2, .string aN, .string aB, .int .i64 lv, .int .i64 ck, .bool off, .slice pk ks.length ck2]) (by simp only [results, Tryz.results111, go_sem]; simp [go_sem, s0, s1, s2, s3, s4, s5, s6, s7]) rfl ⟨.slice pk ks.length ck2, rfl, ?_, ?_, ?_⟩
          · have h1 := OW.out.bt b8 (by have := NG.out; simp; omega)
            exact h1.mono (by have := NG.out; omega)
          · exact TT.out.st _ _ hi6 (b8.low (C := B0) (by have := HLO.out; have := hb6.size; omega) (by simp; have := HLO.out; omega))
          · exact ⟨b8.os.trans hb6.os, b8.tape.trans hb6.tape, b8.output.trans hb6.output, Nat.le_trans hb6.size b8.size, fun i hi hn => by
              rw [b8.block i (by have := hb6.size; omega) (by simp; omega)]
              exact hb6.block i hi hn⟩
end Go.Proofs.YtbinbojicmhdlaeGreatDoor

/-
  THE WALK of tree's items, and that it holds with as much fuel as there are nodes.
-/
namespace Go.Proofs.YtbinbojicmhdlaeGreatDoor
open Go.RowKit Go.Maps

set_option maxHeartbeats 3200000 in
set_option maxRecDepth 100000 in
theorem titems_step {B0 : Nat} {S : List Nat} {Inv : World → Prop} {b o c : Nat} {rs : List Raw} {d : Tn.Dc} {p : Option Addr} {cc : Nat} {cl : List Cl} {nf : Value} (T : Tell B0 S Inv b o c rs d p cc cl nf) {f : Nat} (H : ItemsC S Inv b o c rs d p cc cl nf f) : ItemsC S Inv b o c rs d p cc cl nf (f + 1) := by
  intro W n hI hn hf
  have hx := T.nx W hI
  have hlv := sh_lv hx.cx.fine hn
  have hf2 : 60 ≤ f + (wayD d cl (n : Int)).length := by omega
  have TT : Hid (Tell B0 S Inv b o c rs d p cc cl nf) := T
  have HLO : Hid (B0 ≤ W.heap.size) := T.low W hI
  have B1 : Below W.heap.size W (W.alloc (.cells #[.slice (some ⟨b, o, none⟩) rs.length c, .slice p cl.length cc, nf] 90)) := (Below.refl W.heap.size W).alloc (Nat.le_refl _) _
  have z1 : (W.alloc (.cells #[.slice (some ⟨b, o, none⟩) rs.length c, .slice p cl.length cc, nf] 90)).heap.size = W.heap.size + 1 := by simp
  have q := box3t W (.slice (some ⟨b, o, none⟩) rs.length c) (.slice p cl.length cc) nf 90
  have I1 : Hid (Inv (W.alloc (.cells #[.slice (some ⟨b, o, none⟩) rs.length c, .slice p cl.length cc, nf] 90))) := T.below hI B1
  have HB1 : Hid (Below W.heap.size W (W.alloc (.cells #[.slice (some ⟨b, o, none⟩) rs.length c, .slice p cl.length cc, nf] 90))) := B1
  have HHD : Hid (∀ w, Inv w → Calls Tryz.prog 107 #[.slice (some ⟨b, o, none⟩) rs.length c, .int .i64 (n : Int)] w fun e w' => e = .returned (.bool (hidD d (n : Int))) ∧ Below w.heap.size w w') := fun w hw => ohid_any (TT.out.nx w hw).cx (n : Int)
  have ROL : Hid (∀ w, Inv w → Calls Tryz.prog 40 #[.slice (some ⟨b, o, none⟩) rs.length c, .int .i64 (n : Int)] w fun e w' => e = .returned (.int .i64 (roleD d (n : Int))) ∧ Below w.heap.size w w') := fun w hw => oof_any (TT.out.nx w hw).cx (n : Int)
  have TXT : Hid (∀ w, Inv w → Calls Tryz.prog 108 #[.agg #[.slice (some ⟨b, o, none⟩) rs.length c, .slice p cl.length cc, nf], .int .i64 (n : Int)] w fun e w' => ∃ v, e = .returned v ∧ OwnT w' w.heap.size v (textI d n) ∧ Below w.heap.size w w') := fun w hw => ttext_any (TT.out.nx w hw) nf hlv
  have KID : Hid (∀ w, Inv w → Calls Tryz.prog 110 #[.agg #[.slice (some ⟨b, o, none⟩) rs.length c, .slice p cl.length cc, nf], .int .i64 (n : Int)] w fun e w' => ∃ v, e = .returned v ∧ OwnT w' w.heap.size v ((insideD d cl (n : Int)).flatMap (itemsF (attD d cl) f d cl)) ∧ Inv w' ∧ Bt S w w') := fun w hw => tkid_of TT.out H hw hn hf2
  have ITM : Hid (∀ w, Inv w → Calls Tryz.prog 111 #[.agg #[.slice (some ⟨b, o, none⟩) rs.length c, .slice p cl.length cc, nf], .int .i64 (n : Int), .int .i64 (roleD d (n : Int))] w fun e w' => ∃ kv, e = .returned (.agg #[.int .i64 (n : Int), .int .i64 (if bareI (roleD d (n : Int)) then 2 else roleD d (n : Int)), .string (attD d cl n).name, .string (attD d cl n).about, .int .i64 (attD d cl n).level, .int .i64 (attD d cl n).checked, .bool (attD d cl n).off, kv]) ∧
      OwnT w' w.heap.size kv (if leafI (roleD d (n : Int)) then [] else (insideD d cl (n : Int)).flatMap (itemsF (attD d cl) f d cl)) ∧ Inv w' ∧ Bt S w w') := fun w hw => titem_of TT.out H hw hn hf2
  have E : Hid (itemsF (attD d cl) (f + 1) d cl n = if hidD d (n : Int) then []
    else if roleD d (n : Int) = 10 then textI d n
    else if bareI (roleD d (n : Int)) && decide (n ≠ 0) then (insideD d cl (n : Int)).flatMap (itemsF (attD d cl) f d cl)
    else [.mk n (if bareI (roleD d (n : Int)) then 2 else roleD d (n : Int)) (attD d cl n).name (attD d cl n).about (attD d cl n).level (attD d cl n).checked (attD d cl n).off
      (if leafI (roleD d (n : Int)) then [] else (insideD d cl (n : Int)).flatMap (itemsF (attD d cl) f d cl))]) := rfl
  obtain ⟨q0, q1, q2⟩ := q
  clear hx B1 T H hI hf hf2 hlv hn
  generalize itemsF (attD d cl) (f + 1) d cl n = R at *
  generalize (insideD d cl (n : Int)).flatMap (itemsF (attD d cl) f d cl) = KK at *
  generalize attD d cl n = at1 at *
  generalize hidD d (n : Int) = hd at *
  generalize textI d n = tx at *
  generalize roleD d (n : Int) = r at *
  generalize hr2 : (if bareI r then 2 else r) = r2 at *
  generalize hks : (if leafI r then [] else KK) = ks at *
  clear hr2 hks
  go_enter Tryz.func68, Tryz.ntmps68
  go_upto_region 1 with fail
  generalize hW : W.alloc (.cells #[.slice (some ⟨b, o, none⟩) rs.length c, .slice p cl.length cc, nf] 90) = w1 at *
  clear hW
  have HD1 := HHD.out w1 I1.out
  cases hd with
  | true =>
    have E1 : Hid (R = []) := by show _ = _; rw [E.out, if_pos rfl]
    clear E
    go_wp2_with (go_at_call 107; refine HD1.mono ?_; rintro e w2 ⟨rfl, hb2⟩)
    go_ret
    rw [E1.out]
    exact ⟨_, rfl, OwnT.nil _ _, TT.out.below I1.out hb2, Bt.below (HB1.out.trans (hb2.mono HB1.out.size))⟩
  | false =>
    have E1 : Hid (R = if r = 10 then tx else if bareI r && decide (n ≠ 0) then KK else [.mk n r2 at1.name at1.about at1.level at1.checked at1.off ks]) := by show _ = _; rw [E.out, if_neg (by simp)]
    clear E
    go_upto_region 4 with (first
      | (go_at_call 107; refine HD1.mono ?_; clear HD1; rintro e w2 ⟨rfl, hb2⟩; have I2 : Hid (Inv w2) := TT.out.below I1.out hb2; have K2 := keeps_below hb2 (Nat.le_refl _); have a0 := K2 _ _ q0; have RO2 := ROL.out w2 I2.out)
      | (go_at_call 40; refine RO2.mono ?_; clear RO2; rintro e w3 ⟨rfl, hb3⟩))
    have B3 := hb2.trans (hb3.mono hb2.size)
    have I3 : Hid (Inv w3) := TT.out.below I1.out B3
    have K3 := keeps_below B3 (Nat.le_refl _)
    have c0 := K3 _ _ q0
    have c1 := K3 _ _ q1
    have c2 := K3 _ _ q2
    have HB3 : Hid (Below W.heap.size W w3) := HB1.out.trans (B3.mono HB1.out.size)
    have zW : Hid (W.heap.size ≤ w3.heap.size) := HB3.out.size
    clear K2 K3 a0 hb2 hb3 B3 q0 q1 q2 I1 HB1 I2
    by_cases h10 : r = 10
    · have E2 : Hid (R = tx) := by show _ = _; rw [E1.out, if_pos h10]
      subst h10
      have TX3 := TXT.out w3 I3.out
      clear E1
      go_wp2_with (go_at_call 108; refine TX3.mono ?_; clear TX3; rintro e w4 ⟨v4, rfl, ho4, hb4⟩)
      go_ret
      rw [E2.out]
      exact ⟨_, rfl, ho4.mono zW.out, TT.out.below I3.out hb4, Bt.below (HB3.out.trans (hb4.mono zW.out))⟩
    · have h10q : (r == 10) = false := by simpa using h10
      have E2 : Hid (R = if bareI r && decide (n ≠ 0) then KK else [.mk n r2 at1.name at1.about at1.level at1.checked at1.off ks]) := by show _ = _; rw [E1.out, if_neg h10]
      have IT3 := ITM.out w3 I3.out
      have KI3 := KID.out w3 I3.out
      have TO3 := ttold_any w3 r
      clear E1 h10 ITM KID TXT HHD ROL
      cases hb : bareI r with
      | false =>
        have E3 : Hid (R = [.mk n r2 at1.name at1.about at1.level at1.checked at1.off ks]) := by show _ = _; rw [E2.out, hb]; rfl
        rw [hb] at TO3
        clear E2 hb KI3
        go_wp2_with (first
          | (go_at_call 109; refine TO3.mono ?_; clear TO3; rintro e w4 ⟨rfl, hww⟩; subst hww)
          | (go_at_call 111; refine IT3.mono ?_; clear IT3; rintro e w5 ⟨kv, rfl, hk5, hi5, hb5⟩; obtain ⟨pk, ck, rfl⟩ := hk5.shape))
        go_ret
        rw [E3.out]
        have z5 := hb5.size
        refine ⟨_, rfl, own_item (x := .mk n r2 at1.name at1.about at1.level at1.checked at1.off ks) (kv := .slice pk ks.length ck) (by have := zW.out; omega) (hk5.mono zW.out).row, TT.out.below hi5 ((Below.refl _ _).alloc (Nat.le_refl _) _), ?_⟩
        exact (((Bt.below HB3.out).trans hb5).trans (Bt.below ((Below.refl _ _).alloc (Nat.le_refl _) _)))
      | true =>
        rw [hb] at TO3
        by_cases h0 : n = 0
        · have E3 : Hid (R = [.mk n r2 at1.name at1.about at1.level at1.checked at1.off ks]) := by show _ = _; rw [E2.out, hb, h0]; rfl
          have n0 : ((n : Int) != 0) = false := by simp [h0]
          clear E2 hb KI3 h0
          go_wp2_with (first
            | (go_at_call 109; refine TO3.mono ?_; clear TO3; rintro e w4 ⟨rfl, hww⟩; subst hww)
            | (go_at_call 111; refine IT3.mono ?_; clear IT3; rintro e w5 ⟨kv, rfl, hk5, hi5, hb5⟩; obtain ⟨pk, ck, rfl⟩ := hk5.shape))
          go_ret
          rw [E3.out]
          have z5 := hb5.size
          refine ⟨_, rfl, own_item (x := .mk n r2 at1.name at1.about at1.level at1.checked at1.off ks) (kv := .slice pk ks.length ck) (by have := zW.out; omega) (hk5.mono zW.out).row, TT.out.below hi5 ((Below.refl _ _).alloc (Nat.le_refl _) _), ?_⟩
          exact (((Bt.below HB3.out).trans hb5).trans (Bt.below ((Below.refl _ _).alloc (Nat.le_refl _) _)))
        · have E3 : Hid (R = KK) := by show _ = _; rw [E2.out, hb]; simp [h0]
          have n0 : ((n : Int) != 0) = true := by simp; omega
          clear E2 hb IT3 h0
          go_wp2_with (first
            | (go_at_call 109; refine TO3.mono ?_; clear TO3; rintro e w4 ⟨rfl, hww⟩; subst hww)
            | (go_at_call 110; refine KI3.mono ?_; clear KI3; rintro e w5 ⟨v5, rfl, hk5, hi5, hb5⟩))
          go_ret
          rw [E3.out]
          exact ⟨_, rfl, hk5.mono zW.out, hi5, (Bt.below HB3.out).trans hb5⟩

theorem titems_all {B0 : Nat} {S : List Nat} {Inv : World → Prop} {b o c : Nat} {rs : List Raw} {d : Tn.Dc} {p : Option Addr} {cc : Nat} {cl : List Cl} {nf : Value} (T : Tell B0 S Inv b o c rs d p cc cl nf) : ∀ f, ItemsC S Inv b o c rs d p cc cl nf f
  | 0 => fun W n hI hn hf => absurd (way_60 (T.nx W hI).cx.fine (T.nx W hI).forest hn).2 (by omega)
  | f + 1 => titems_step T (titems_all T f)
end Go.Proofs.YtbinbojicmhdlaeGreatDoor

/-
  THE WALK of owns.Claims.
-/
namespace Go.Proofs.YtbinbojicmhdlaeGreatDoor
open Go.RowKit

/-- what stands in the variable of Claims -/
structure VarC (w : World) (X B : Nat) (v : Value) (l : List Cl) : Prop where
  x : w.cell? ⟨X, 0, none⟩ = some v
  f : w.frozen? ⟨X, 0, none⟩ = false
  own : OwnC w B v l
theorem VarC.below {w w' : World} {X B : Nat} {v : Value} {l : List Cl} (h : VarC w X B v l) (hb : Below w.heap.size w w') : VarC w' X B v l :=
  ⟨keeps_below hb (Nat.le_refl _) _ _ h.x, by rw [hb.frozen (p := ⟨X, 0, none⟩) (lt_of_cell h.x)]; exact h.f, h.own.below hb (Nat.le_refl _)⟩

set_option maxHeartbeats 6400000 in
set_option maxRecDepth 100000 in
theorem vclaims_any {w : World} {b o c : Nat} {rs : List Raw} {d : Tn.Dc} (h : Dx w b o c rs d) :
    Calls Tryz.prog 34 #[.slice (some ⟨b, o, none⟩) rs.length c] w fun e w' => ∃ v, e = .returned v ∧ OwnC w' w.heap.size v (claimsD d) ∧ Below w.heap.size w w' := by
  have HX : Hid (∀ W, Below w.heap.size w W → Dx W b o c rs d) := fun W hb => h.below hb
  have hF := h.fine
  have hO := hF.okd
  have hsf := (sh_few hF).1
  have B1 := (Below.refl w.heap.size w).alloc (Nat.le_refl _) (.cells #[.slice none 0 0] 26)
  have X1 : VarC (w.alloc (.cells #[.slice none 0 0] 26)) w.heap.size (w.heap.size + 1) (.slice none 0 0) [] := ⟨cell_box w (.slice none 0 0) (t := 26), box_frozen _ _ _ 0, OwnC.nil _ _⟩
  have z1 : (w.alloc (.cells #[.slice none 0 0] 26)).heap.size = w.heap.size + 1 := by simp
  have hS : Calls Tryz.prog 61 #[.slice (some ⟨b, o, none⟩) rs.length c] (w.alloc (.cells #[.slice none 0 0] 26)) fun e w' => ∃ v, e = .returned v ∧ OwnI w' (w.alloc (.cells #[.slice none 0 0] 26)).heap.size v (shD d) ∧ Below (w.alloc (.cells #[.slice none 0 0] 26)).heap.size (w.alloc (.cells #[.slice none 0 0] 26)) w' :=
    fshown_any (h.doc.keeps (keeps_alloc w (.cells #[.slice none 0 0] 26))) hO (fine_end hF) (by have : (shownF Tn.fuel d 0).length ≤ 60 := hsf; omega)
  have FO : Hid (∀ j, Forest d (accD d j)) := fun j => forest_at hF j
  have OF : Hid (∀ (j : Nat) (hj : j < (shD d).length) q, (outD d j (shD d)[j] q).length ≤ 60) := fun j hj q => out_few hF hj q
  have EF : Hid (accD d (shD d).length = claimsD d) := acc_full d
  have hOk : Hid (Okd d) := hO
  clear h hF hO
  go_enter Tryz.func34, Tryz.ntmps34
  go_upto_region 2 with fail
  generalize w.alloc (.cells #[.slice none 0 0] 26) = w1 at *
  generalize hX : w.heap.size = X at *
  go_upto_region 3 with (go_at_call 61; refine hS.mono ?_; rintro e w2 ⟨v2, rfl, ho2, hb2⟩; have ho2s := ho2; obtain ⟨ps, cs, rfl⟩ := ho2s.shape)
  rw [z1] at ho2 hb2
  have X2 : VarC w2 X (X + 1) (.slice none 0 0) [] := X1.below (hb2.mono (by omega))
  have z2 : X + 1 ≤ w2.heap.size := by have := hb2.size; omega
  have B2 : Below X w w2 := B1.trans (hb2.mono (by omega))
  have S3 := cell_box w2 (.slice ps (shD d).length cs) (t := 33)
  have A3 := (Below.refl w2.heap.size w2).alloc (Nat.le_refl _) (.cells #[.slice ps (shD d).length cs] 33)
  have X3 := X2.below A3
  have O3 : OwnI (w2.alloc (.cells #[.slice ps (shD d).length cs] 33)) (X + 1) (.slice ps (shD d).length cs) (shD d) := ho2.alloc _
  have B3 : Below X w (w2.alloc (.cells #[.slice ps (shD d).length cs] 33)) := B2.trans (A3.mono (by omega))
  have z3 : (w2.alloc (.cells #[.slice ps (shD d).length cs] 33)).heap.size = w2.heap.size + 1 := by simp
  clear hS hb2 ho2 ho2s X1 X2 B1 B2 A3 z1
  generalize w2.alloc (.cells #[.slice ps (shD d).length cs] 33) = w3 at *
  generalize hSz : w2.heap.size = S at *
  have hXS : X < S + 1 := by omega
  have V3 : VarC w3 X (S + 1) (.slice none 0 0) (accD d 0) := ⟨X3.x, X3.f, OwnC.nil _ _⟩
  have ST : Hid (∀ W, But (S + 1) X w3 W → Below X w W ∧ W.cell? ⟨S, 0, none⟩ = some (.slice ps (shD d).length cs) ∧ OwnI W (X + 1) (.slice ps (shD d).length cs) (shD d)) := fun W hbt =>
    ⟨B3.trans (hbt.below (by omega) (Nat.le_refl _)), hbt.cell S3 (by omega) (by show S ≠ X; omega), hbt.owns (by omega) O3 (by omega)⟩
  have Z3 : Hid (w3.heap.size = S + 1) := z3
  have HXs : Hid (w.heap.size = X) := hX
  clear X3 O3 z3 z2 B3 hSz hX
  go_upto_region 5 with fail
  go_loopw [18] (fun i wr => ∃ (j : Nat) (vr : Value), j ≤ (shD d).length ∧ i = .int .i64 j ∧ VarC wr X (S + 1) vr (accD d j) ∧ But (S + 1) X w3 wr) (fun i _ => (shD d).length - (intOf i).toNat)
  case atStart => exact ⟨0, _, Nat.zero_le _, rfl, V3, But.refl _ _ _⟩
  case round =>
    obtain ⟨j, vr, hj, rfl, VR, BT⟩ := hrel
    obtain ⟨BW, SW, OW⟩ := ST.out wr BT
    have xr := VR.x
    by_cases hlt : j < (shD d).length
    · obtain ⟨_, _, he, k1, k2, _, hat⟩ := (ints_of_owns OW).at
      cases he
      obtain ⟨b1, o1, e1, hc1⟩ := hat j hlt
      have hszr : w.heap.size ≤ wr.heap.size := BW.size
      have hXr : X ≤ wr.heap.size := by have := HXs.out; omega
      have hids := vids_any (HX.out wr BW) ((shD d)[j] : Int)
      have LN : Hid (∀ W, Below wr.heap.size wr W → Calls Tryz.prog 66 #[.slice (some ⟨b, o, none⟩) rs.length c, vr, .int .i64 ((shD d)[j] : Int)] W fun e w' => ∃ v, e = .returned v ∧ OwnI w' W.heap.size v (wayD d (accD d j) ((shD d)[j] : Int)) ∧ Below W.heap.size W w') := fun W hb =>
        lineage_any (HX.out W (BW.trans (hb.mono hXr))) (cls_of_owns (VR.below hb).own) (FO.out j) (List.getElem_mem hlt)
      have AS : Hid (accD d (j + 1) = claimN d (accD d j) (shD d)[j]) := acc_succ hlt
      have OFn : Hid (∀ q, (outD d j (shD d)[j] q).length ≤ 60) := fun q => OF.out j hlt q
      clear hat OW
      generalize (shD d)[j] = n at *
      have OS : Hid (∀ q (hq : q < (Wd.toksOf (valN d (n : Int) ⟨#[97, 114, 105, 97, 45, 111, 119, 110, 115]⟩)).length), outD d j n (q + 1) = claim1 d n (outD d j n q) (askT d n (Wd.toksOf (valN d (n : Int) ⟨#[97, 114, 105, 97, 45, 111, 119, 110, 115]⟩))[q])) := fun q hq => out_succ hq
      have OU : Hid (outD d j n (Wd.toksOf (valN d (n : Int) ⟨#[97, 114, 105, 97, 45, 111, 119, 110, 115]⟩)).length = claimN d (accD d j) n) := out_full d j n
      generalize Wd.toksOf (valN d (n : Int) ⟨#[97, 114, 105, 97, 45, 111, 119, 110, 115]⟩) = ts at *
      have TF : Hid (∀ q k, takes d (outD d j n q) n k = (freeD (shD d) (outD d j n q) k && !(wayD d (accD d j) (n : Int)).contains k.toNat)) := fun q k => takes_free d j n q k
      subst e1
      by_cases hne : ts = []
      · subst hne
        have E : Hid (accD d (j + 1) = accD d j) := by show _ = _; rw [AS.out, ← OU.out]; rfl
        clear OS OU AS TF LN OFn
        go_wp2_with (go_at_call 65; refine hids.mono ?_; rintro e w4 ⟨v4, rfl, ho4, hb4⟩; obtain ⟨pt, ct, rfl, t1, t2, _⟩ := toks_at ho4)
        go_roundw
        case rel => exact ⟨j + 1, vr, by omega, by go_num, by rw [E.out]; exact VR.below hb4, BT.trans (But.of hb4 (by have := BT.size; have := Z3.out; omega))⟩
        case measure => simp [intOf]; omega
      · have hnz : ((ts.length : Int) == 0) = false := by simpa using hne
        clear hne
        go_upto_region 11 with (first
          | (go_at_call 65; refine hids.mono ?_; rintro e w4 ⟨v4, rfl, ho4, hb4⟩; obtain ⟨pt, ct, rfl, t1, t2, _⟩ := toks_at ho4; have x4 := (VR.below hb4).x; have hLn := LN.out w4 hb4)
          | (go_at_call 66; refine hLn.mono ?_; rintro e w5 ⟨v5, rfl, ho5, hb5⟩))
        have V5 : VarC w5 X (S + 1) vr (outD d j n 0) := (VR.below hb4).below hb5
        have hS1 : S + 1 ≤ wr.heap.size := by have := BT.size; have := Z3.out; omega
        have z4 := hb4.size
        have z5 := hb5.size
        have BT5 : But (S + 1) X w3 w5 := (BT.trans (But.of hb4 hS1)).trans (But.of hb5 (by omega))
        have hvr : ∀ q, vr.ownBlock = some q → q < wr.heap.size := fun q e => (World.ownsRow.lt VR.own q e).2
        have hvl : ∀ q, vr.ownBlock = some q → S + 1 ≤ q := fun q e => (World.ownsRow.lt VR.own q e).1
        have MVs : Hid (∀ W vq, Mv X vr.ownBlock (Value.ownBlock vq) w5 W → But (S + 1) X w3 W ∧ W.ownsRow wr.heap.size 9 1 (.slice pt ts.length ct) ts.length (ts.map Wd.tv) ∧ OwnI W w4.heap.size v5 (wayD d (accD d j) (n : Int))) := fun W vq hm =>
          ⟨BT5.trans (hm.but (by omega) hvl), hm.owns (owns_below ho4 hb5) (by omega) hvr, hm.owns ho5 (by omega) (fun q e => Nat.lt_of_lt_of_le (hvr q e) z4)⟩
        clear hids LN hLn ho4 ho5 hb4 hb5 BT5 hvr hvl VR BT BW SW xr x4 z4 z5 hS1 hszr hXr hc1
        go_loopw [34] (fun i wq => ∃ (q : Nat) (vq : Value), q ≤ ts.length ∧ i = .int .i64 q ∧ VarC wq X (S + 1) vq (outD d j n q) ∧ Mv X vr.ownBlock vq.ownBlock w5 wq) (fun i _ => ts.length - (intOf i).toNat)
        case atStart => exact ⟨0, vr, Nat.zero_le _, rfl, V5, Mv.refl _ _ _⟩
        case round =>
          obtain ⟨q, vq, hq, rfl, VQ, MQ⟩ := hrel
          obtain ⟨BQ, TQ, LQ⟩ := MVs.out wr vq MQ
          obtain ⟨BW, SW, OW⟩ := ST.out wr BQ
          by_cases hql : q < ts.length
          · obtain ⟨_, _, he, _, _, hat⟩ := toks_at TQ
            cases he
            obtain ⟨b3, o3, e3, hc3⟩ := hat q hql
            have DX := HX.out wr BW
            have hFi : Calls Tryz.prog 67 #[.slice (some ⟨b, o, none⟩) rs.length c, .int .i64 (n : Int), .string (Tx.bs ts[q])] wr fun e w' => e = .returned (.int .i64 (askT d n ts[q])) ∧ Below wr.heap.size wr w' := dfind_any DX.doc hOk.out.tame hOk.out.small hOk.out.root hOk.out.rise hOk.out.few (n : Int) (Tx.bs ts[q])
            have FR : Hid (∀ W k, Below wr.heap.size wr W → Calls Tryz.prog 62 #[.int .i64 k, .pointer (some ⟨S, 0, none⟩), .pointer (some ⟨X, 0, none⟩)] W fun e w' => e = .returned (.bool (freeD (shD d) (outD d j n q) k)) ∧ Below W.heap.size W w') := fun W k hb =>
              vfree_any (keeps_below hb (Nat.le_refl _) _ _ SW) (keeps_below hb (Nat.le_refl _) _ _ VQ.x) (ints_of_owns (OW.below hb (Nat.le_refl _))) (cls_of_owns (VQ.below hb).own) k
            have CN : Hid (∀ W (m : Nat), Below wr.heap.size wr W → Calls Tryz.prog 63 #[v5, .int .i64 (m : Int)] W fun e w' => e = .returned (.bool ((wayD d (accD d j) (n : Int)).contains m)) ∧ w' = W) := fun W m hb => contains_any (ints_of_owns (LQ.below hb (Nat.le_refl _))) m
            have T1 := TF.out q (askT d n ts[q])
            have O1 := OS.out q hql
            have LZ := OFn.out q
            clear DX hat TQ OW LQ SW
            generalize askT d n ts[q] = k at *
            generalize ts[q] = t at *
            generalize Tx.bs t = tb at *
            have FRk := fun W hb => FR.out W k hb
            subst e3
            cases hfd : freeD (shD d) (outD d j n q) k with
            | false =>
              have E : Hid (outD d j n (q + 1) = outD d j n q) := by show _ = _; rw [O1]; exact claim_no (by rw [T1, hfd]; rfl)
              rw [hfd] at FRk
              clear O1 T1 hfd CN FR
              go_wp2_with (first
                | (go_at_call 67; refine hFi.mono ?_; rintro e w6 ⟨rfl, hb6⟩; have hFk := FRk w6 hb6)
                | (go_at_call 62; refine hFk.mono ?_; rintro e w7 ⟨rfl, hb7⟩))
              go_roundw
              case rel => exact ⟨q + 1, vq, by omega, by go_num, by rw [E.out]; exact (VQ.below hb6).below hb7, (MQ.below hb6).below hb7⟩
              case measure => simp [intOf]; omega
            | true =>
              obtain ⟨m, rfl⟩ := free_nat hfd
              rw [hfd] at FRk
              rw [Int.toNat_natCast] at T1
              have CNm := fun W hb => CN.out W m hb
              cases hcn : (wayD d (accD d j) (n : Int)).contains m with
              | true =>
                have E : Hid (outD d j n (q + 1) = outD d j n q) := by show _ = _; rw [O1]; exact claim_no (by rw [T1, hfd, hcn]; rfl)
                rw [hcn] at CNm
                clear O1 T1 hfd hcn CN FR
                go_wp2_with (first
                  | (go_at_call 67; refine hFi.mono ?_; rintro e w6 ⟨rfl, hb6⟩; have hFk := FRk w6 hb6)
                  | (go_at_call 62; refine hFk.mono ?_; rintro e w7 ⟨rfl, hb7⟩; have hCk := CNm w7 (hb6.trans (hb7.mono hb6.size)))
                  | (go_at_call 63; refine hCk.mono ?_; rintro e w8 ⟨rfl, hw8⟩; subst hw8))
                go_roundw
                case rel => exact ⟨q + 1, vq, by omega, by go_num, by rw [E.out]; exact (VQ.below hb6).below hb7, (MQ.below hb6).below hb7⟩
                case measure => simp [intOf]; omega
              | false =>
                have E : Hid (outD d j n (q + 1) = outD d j n q ++ [(n, m)]) := by show _ = _; rw [O1]; exact claim_yes (by rw [T1, hfd, hcn]; rfl)
                rw [hcn] at CNm
                have hSq : S + 1 ≤ wr.heap.size := by have := BQ.size; have := Z3.out; omega
                clear O1 T1 hfd hcn CN FR
                generalize outD d j n q = l1 at *
                go_wp2_with (first
                  | (go_at_call 67; refine hFi.mono ?_; rintro e w6 ⟨rfl, hb6⟩; have hFk := FRk w6 hb6)
                  | (go_at_call 62; refine hFk.mono ?_; rintro e w7 ⟨rfl, hb7⟩; have hCk := CNm w7 (hb6.trans (hb7.mono hb6.size)); have V7 := (VQ.below hb6).below hb7; have x7 := V7.x; have B7 : S + 1 ≤ w7.heap.size := Nat.le_trans hSq (Nat.le_trans hb6.size hb7.size))
                  | (go_at_call 63; refine hCk.mono ?_; rintro e w8 ⟨rfl, hw8⟩; subst hw8)
                  | (at_builtin; refine append_claim2 (w0 := w8) (v := vq) rfl _ _ rfl n m rfl (by simp [Act.eval]) V7.own (Below.refl _ w8) B7 (by omega) ?_; intro v9 w9 o9 n9 g9 b9; obtain ⟨p9, c9, rfl⟩ := o9.shape; have x9 := (n9.cell (p := ⟨X, 0, none⟩) hXS).trans x7; have f9 := (n9.frozen (p := ⟨X, 0, none⟩) hXS).trans V7.f))
                rw [show (l1 ++ [(n, m)]).length = l1.length + 1 by simp] at o9 b9
                have M9 : Mv X vr.ownBlock (Value.slice p9 (l1.length + 1) c9).ownBlock w5 w9 := ((MQ.below hb6).below hb7).trans ⟨g9.os, g9.tape, g9.output, g9.size, fun i hi _ hr => g9.block i hi (fun e => hr e), b9⟩
                go_roundw
                case rel => exact ⟨q + 1, _, by omega, by go_num, ⟨World.cell?_setCell_same _ _ _ x9, by simpa using f9, by rw [E.out]; exact o9.set _ _ hXS⟩, M9.set _⟩
                case measure => simp [intOf]; omega
          · obtain rfl : q = ts.length := by omega
            have E : Hid (accD d (j + 1) = outD d j n ts.length) := by show _ = _; rw [AS.out, OU.out]
            clear TQ LQ OW SW
            go_wp2_with fail
            go_roundw
            case rel => exact ⟨j + 1, vq, by omega, by go_num, by rw [E.out]; exact VQ, BQ⟩
            case measure => simp [intOf]; omega
    · obtain rfl : j = (shD d).length := by omega
      go_wp2_with fail
      go_ret
      exact ⟨_, rfl, by rw [HXs.out, ← EF.out]; exact VR.own.mono (by omega), by rw [HXs.out]; exact BW⟩
end Go.Proofs.YtbinbojicmhdlaeGreatDoor

/-
  THE WALKS of tree's With and Build.
-/
namespace Go.Proofs.YtbinbojicmhdlaeGreatDoor
open Go.RowKit Go.Maps

def treeD (d : Tn.Dc) : List It := itemsF (attD d (claimsD d)) 64 d (claimsD d) 0

theorem root_shown {d : Tn.Dc} (h : Fine d) : 0 ∈ shD d := shown_head (fine_end h)

set_option maxHeartbeats 1600000 in
set_option maxRecDepth 100000 in
theorem twith_any {B0 : Nat} {S : List Nat} {Inv : World → Prop} {b o c : Nat} {rs : List Raw} {d : Tn.Dc} {p : Option Addr} {cc : Nat} {cl : List Cl} {fn : Fn} {first cap : Array Value} (T : Tell B0 S Inv b o c rs d p cc cl (.func fn first cap)) {W : World} (hI : Inv W) (f : Nat) (hf : 61 ≤ f) :
    Calls Tryz.prog 35 #[.slice (some ⟨b, o, none⟩) rs.length c, .slice p cl.length cc, .func fn first cap] W fun e w' => ∃ v, e = .returned v ∧ OwnT w' W.heap.size v (itemsF (attD d cl) f d cl 0) ∧ Inv w' ∧ Bt S W w' := by
  have hx := T.nx W hI
  have h0 := root_shown hx.cx.fine
  have hC : Calls Tryz.prog 68 #[.agg #[.slice (some ⟨b, o, none⟩) rs.length c, .slice p cl.length cc, .func fn first cap], .int .i64 0] W fun e w' => ∃ v, e = .returned v ∧ OwnT w' W.heap.size v (itemsF (attD d cl) f d cl 0) ∧ Inv w' ∧ Bt S W w' := titems_all T f W 0 hI h0 (by omega)
  clear hx h0 T hI hf
  generalize itemsF (attD d cl) f d cl 0 = R at *
  go_enter Tryz.func35, Tryz.ntmps35
  go_wp2_with (go_at_call 68; refine hC.mono ?_; clear hC; rintro e w2 ⟨v2, rfl, ho2, hi2, hb2⟩)
  go_ret
  exact ⟨_, rfl, ho2, hi2, hb2⟩

set_option maxHeartbeats 1600000 in
set_option maxRecDepth 100000 in
theorem tbuild_any {w : World} {g c : Nat} {rs : List Raw} {l : List Tn.Chg} (hd : DocAt w g 0 c rs (Tn.build l)) (T : Kn.TabAt w) (hsz : ∀ x ∈ l, x.value.size ≤ 4194304 ∧ x.name.size ≤ 4194304) :
    Calls Tryz.prog 9 #[.slice (some ⟨g, 0, none⟩) rs.length c] w fun e w' => ∃ v, e = .returned v ∧ OwnT w' w.heap.size v (treeD (Tn.build l)) ∧ Below w.heap.size w w' := by
  have hmf : ∀ (fn : Fn) (first cap : Array Value) (w : World), (Instr.makeFunc fn first cap).run Tryz.prog w = .ok (.func fn first cap) w := fun _ _ _ _ => rfl
  have B1 : Below w.heap.size w (w.alloc (.cells #[.slice (some ⟨g, 0, none⟩) rs.length c] 24)) := (Below.refl w.heap.size w).alloc (Nat.le_refl _) _
  have z1 : (w.alloc (.cells #[.slice (some ⟨g, 0, none⟩) rs.length c] 24)).heap.size = w.heap.size + 1 := by simp
  have q1 : (w.alloc (.cells #[.slice (some ⟨g, 0, none⟩) rs.length c] 24)).cell? ⟨w.heap.size, 0, none⟩ = some (.slice (some ⟨g, 0, none⟩) rs.length c) := cell_box _ _
  have CLM : Hid (∀ W, Below w.heap.size w W → Calls Tryz.prog 34 #[.slice (some ⟨g, 0, none⟩) rs.length c] W fun e w' => ∃ v, e = .returned v ∧ OwnC w' W.heap.size v (claimsD (Tn.build l)) ∧ Below W.heap.size W w') := fun W hW => vclaims_any (dx_build (hd.keeps (keeps_below hW (Nat.le_refl _))) hsz)
  have NXW : Hid (∀ W vl, Below w.heap.size w W → ClsAt W vl (claimsD (Tn.build l)) → Nx W g 0 c rs (Tn.build l) vl (claimsD (Tn.build l))) := fun W vl hW hv => ⟨cx_build (hd.keeps (keeps_below hW (Nat.le_refl _))) (T.below hW) hsz, hv, fun j => build_vt hsz j, forest_claims (build_fine l)⟩
  obtain ⟨f, hf⟩ : ∃ f : Nat, f = 64 := ⟨64, rfl⟩
  have E : Hid (treeD (Tn.build l) = itemsF (attD (Tn.build l) (claimsD (Tn.build l))) f (Tn.build l) (claimsD (Tn.build l)) 0) := by show _ = _; rw [hf]; rfl
  have hf2 : 61 ≤ f := by omega
  rw [E.out]
  have HB1 : Hid (Below w.heap.size w (w.alloc (.cells #[.slice (some ⟨g, 0, none⟩) rs.length c] 24))) := B1
  clear hd T hsz E B1 hf
  generalize Tn.build l = d at *
  generalize claimsD d = cl at *
  go_enter Tryz.func9, Tryz.ntmps9
  go_upto_region 1 with fail
  generalize hW : w.alloc (.cells #[.slice (some ⟨g, 0, none⟩) rs.length c] 24) = w1 at *
  clear hW
  have C1 := CLM.out w1 HB1.out
  go_upto_region 2 with (go_at_call 34; refine C1.mono ?_; clear C1; rintro e w2 ⟨v2, rfl, ho2, hb2⟩; obtain ⟨p, cc, rfl⟩ := ho2.shape)
  have B3 : Below w2.heap.size w2 (w2.alloc (.cells #[.slice p cl.length cc] 26)) := (Below.refl _ _).alloc (Nat.le_refl _) _
  have q3 : (w2.alloc (.cells #[.slice p cl.length cc] 26)).cell? ⟨w2.heap.size, 0, none⟩ = some (.slice p cl.length cc) := cell_box _ _
  have HB3 : Hid (Below w.heap.size w (w2.alloc (.cells #[.slice p cl.length cc] 26))) := (HB1.out.trans (hb2.mono HB1.out.size)).trans (B3.mono (by have := hb2.size; have := HB1.out.size; omega))
  have hc3 : ClsAt (w2.alloc (.cells #[.slice p cl.length cc] 26)) (.slice p cl.length cc) cl := (cls_of_owns ho2).keeps (keeps_below B3 (Nat.le_refl _))
  have NX3 := NXW.out _ _ HB3.out hc3
  have q13 := keeps_below B3 (Nat.le_refl _) _ _ (keeps_below hb2 (Nat.le_refl _) _ _ q1)
  clear hc3 B3 hb2 ho2 q1 CLM HB1
  generalize w2.heap.size = C at *
  generalize w2.alloc (.cells #[.slice p cl.length cc] 26) = w3 at *
  have TL : Tell w3.heap.size [] (fun W => Below w3.heap.size w3 W) g 0 c rs d p cc cl (.func (.func 36) #[] #[.pointer (some ⟨w.heap.size, 0, none⟩), .pointer (some ⟨C, 0, none⟩)]) :=
    ⟨fun W h => NX3.below h, fun W h => h.size, fun W W' h k => h.trans k, by simp, fun W n h _ => (task_any (NX3.below h) (keeps_below h (Nat.le_refl _) _ _ q13) (keeps_below h (Nat.le_refl _) _ _ q3) (n : Int)).mono (by
      rintro e w' ⟨⟨p, c, rfl⟩, hb⟩
      exact ⟨⟨p, _, c, rfl⟩, h.trans (hb.mono h.size), Bt.below hb⟩)⟩
  have WC := twith_any TL (Below.refl _ _) f hf2
  clear NX3 NXW TL z1 hf2
  go_wp2_with (go_at_call 35; refine WC.mono ?_; clear WC; rintro e w5 ⟨v5, rfl, ho5, hi5, hb5⟩)
  go_ret
  exact ⟨_, rfl, ho5.mono HB3.out.size, HB3.out.trans (hi5.mono HB3.out.size)⟩
end Go.Proofs.YtbinbojicmhdlaeGreatDoor
