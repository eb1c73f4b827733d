/-
  OWN WORK: Jtp, Jwl.
-/
import Derived.Test.YtpnineimnjibaafDoorP6
import Derived.Test.YtpnineimnjibaafDoorP3
import Derived.Test.YtpnineimnjibaafDoorP4
/-
  THE WALK of the reference's Parse (laid by mkjtp.py).
-/
namespace Go.Proofs.YtpnineimnjibaafDoor
open Go.RowKit Go.Lib

theorem wp_append_event {wr : World} {o : Oper} {a : Act} {K : Act → World → Prop} {Q : Exit → Act → World → Prop}
    (s x : Operand) (ho : o.op = Op.call { callee := Callee.builtin Builtin.append, args := #[s, x], argTypes := #[22, 22] }) {B : Nat} {v : Value} {l : List Ez} (y : Ez) (kv : Value)
    (hs : a.eval s = v) (hx : a.eval x = .slice (some ⟨wr.heap.size, 0, none⟩) 1 1) (hown : OwnE wr B v l) (hk : IzsAt wr (fun g => B ≤ g ∧ some g ≠ v.ownBlock) kv y.item.kids) (hB : B ≤ wr.heap.size) (hsz : l.length ≤ 100000000)
    (h : ∀ v' w1, OwnE w1 B v' (l ++ [y]) → Below B wr w1 → wr.grownBy w1 v.ownBlock → K (a.put o.dst v') w1) :
    o.wp Tryd.prog a (wr.alloc (.cells (ezc (y, kv)).toArray 35)) K Q := by
  obtain ⟨i0, hi, hz0, hz1, hz2⟩ := info_parts infoE
  obtain ⟨kvs, hl, hown', hkk⟩ := hown
  have hlt := hown'.lt
  have halloc := hown'.alloc (.cells (ezc (y, kv)).toArray 35)
  refine wp_append_lies (wr.alloc (.cells (ezc (y, kv)).toArray 35)) s x 22 ho B 35 i0 _ 12 128 Tryd.underlying22 hi hz0 hz1 hz2 rfl (by decide) v _ _ hs halloc ⟨wr.heap.size, 0, none⟩ 1 1 (ezc (y, kv)) hx rfl ?_
    (one_ezc y kv hk.one) (by decide) (by unfold maxLen; omega) (by omega) (by simp; omega) _ rfl ?_
  · intro j u hj
    rw [add_at, Nat.zero_add, World.cell?_alloc_new]
    simpa using hj
  · intro g cap w1 k1 k2 k3 k4
    have kal := World.grownBy_alloc wr (.cells (ezc (y, kv)).toArray 35) v.ownBlock
    have kg : wr.grownBy w1 v.ownBlock := ⟨k2.os.trans kal.os, k2.tape.trans kal.tape, k2.output.trans kal.output, Nat.le_trans kal.size k2.size, fun q hq hr' => (k2.block q (Nat.lt_of_lt_of_le hq kal.size) hr').trans (kal.block q hq hr')⟩
    have hsz1 : (wr.alloc (.cells (ezc (y, kv)).toArray 35)).heap.size = wr.heap.size + 1 := by simp
    have far : ∀ q, q < wr.heap.size → some q ≠ v.ownBlock → some q ≠ (Value.slice (some ⟨g, 0, none⟩) (l.length + 1) cap).ownBlock := fun q hq hne e => by
      have e : q = g := by simpa [Value.ownBlock] using e
      rcases k3 with k3 | k3
      · exact hne (by rw [k3, e])
      · rw [hsz1] at k3; omega
    refine (h _ w1 ⟨kvs ++ [kv], by simp [hl], ?_, fun j hj hj' => ?_⟩ ((Below.refl B wr).grown kg hB (fun j hj => (hlt j hj).1)) kg)
    · rw [cellsEz_app _ _ _ _ hl, List.length_append]
      exact k1
    · by_cases hjl : j < l.length
      · have e1 : (l ++ [y])[j] = l[j] := List.getElem_append_left hjl
        have e2 : (kvs ++ [kv])[j] = kvs[j]'(by omega) := List.getElem_append_left (by omega)
        rw [e1, e2]
        exact (hkk j hjl (by omega)).frame (fun q hq hlt => ⟨kg.block q hlt hq.2, hq.1, far q hlt hq.2⟩)
      · have hj2 : j = l.length := by rw [List.length_append, List.length_singleton] at hj; omega
        subst hj2
        have e1 : (l ++ [y])[l.length] = y := by simp
        have e2 : (kvs ++ [kv])[l.length] = kv := by simp [← hl]
        rw [e1, e2]
        exact hk.frame (fun q hq hlt => ⟨kg.block q hlt hq.2, hq.1, far q hlt hq.2⟩)

theorem step_append_event {wr : World} {ops : Array Oper} {o : Oper} {a : Act} {K : Act → World → Prop} {Q : Exit → Act → World → Prop} {E : Prop} (hgd : o.guard = none)
    (s x : Operand) (ho : o.op = Op.call { callee := Callee.builtin Builtin.append, args := #[s, x], argTypes := #[22, 22] }) {B : Nat} {v : Value} {l : List Ez} (y : Ez) (kv : Value)
    (hs : a.eval s = v) (hx : a.eval x = .slice (some ⟨wr.heap.size, 0, none⟩) 1 1) (hown : OwnE wr B v l) (hk : IzsAt wr (fun g => B ≤ g ∧ some g ≠ v.ownBlock) kv y.item.kids) (hB : B ≤ wr.heap.size) (hsz : l.length ≤ 100000000)
    (h : ∀ v' w1, OwnE w1 B v' (l ++ [y]) → Below B wr w1 → wr.grownBy w1 v.ownBlock → K (a.put o.dst v') w1) :
    if Region.wanted o (yielded ops a.tmps) = true then Oper.wp Tryd.prog o a (wr.alloc (.cells (ezc (y, kv)).toArray 35)) K Q else E := by
  have hw : Region.wanted o (yielded ops a.tmps) = true := by simp [Region.wanted, hgd]
  rw [if_pos hw]
  exact wp_append_event s x ho y kv hs hx hown hk hB hsz h

/-! ### how far it has come -/
theorem event_chain (l : Bs) : takeEvent l = (takeNums 4 l).bind fun p => (takeItem 61 p.2).bind fun q => some (⟨p.1.getD 0 0, p.1.getD 1 0, p.1.getD 2 0, p.1.getD 3 0, q.1⟩, q.2) := by
  unfold takeEvent
  simp only [takeNums, Option.bind_assoc, Option.bind_some]
  cases h0 : takeNum l with
  | none => rfl
  | some p0 =>
  simp only [Option.bind_some]
  cases h1 : takeNum p0.2 with
  | none => rfl
  | some p1 =>
  simp only [Option.bind_some]
  cases h2 : takeNum p1.2 with
  | none => rfl
  | some p2 =>
  simp only [Option.bind_some]
  cases h3 : takeNum p2.2 with
  | none => rfl
  | some p3 => rfl
def Pf (b : Bs) (acc : List Ez) (s : Bs) : Prop := parseF b = (parseF s).map (acc ++ ·) ∧ acc.length + s.length ≤ b.length
theorem Pf.start (b : Bs) : Pf b [] b := ⟨by cases parseF b <;> rfl, by simp⟩
theorem Pf.done {b : Bs} {acc : List Ez} {s : Bs} (h : Pf b acc s) (hs : s = []) : parseF b = some acc := by
  rw [h.1, hs, parse_nil]
  simp
theorem Pf.no1 {b : Bs} {acc : List Ez} {s : Bs} (h : Pf b acc s) (hs : s ≠ []) {xs : List Int} {r : Bs} (ht : Tn 4 s xs r false) : parseF b = none := by
  unfold Tn at ht
  rw [h.1, parse_fail hs (by rw [event_chain, ht]; rfl)]
  rfl
theorem Pf.no2 {b : Bs} {acc : List Ez} {s : Bs} (h : Pf b acc s) (hs : s ≠ []) {xs : List Int} {r : Bs} (ht : Tn 4 s xs r true) {x : Iz} {r' : Bs} (hi : Ti 61 r x r' false) : parseF b = none := by
  unfold Tn at ht
  unfold Ti at hi
  rw [h.1, parse_fail hs (by rw [event_chain, ht, if_pos rfl, Option.bind_some, hi]; rfl)]
  rfl
theorem Pf.step {b : Bs} {acc : List Ez} {s : Bs} (h : Pf b acc s) {z0 z1 z2 z3 : Int} {r : Bs} (ht : Tn 4 s [z0, z1, z2, z3] r true) {x : Iz} {r' : Bs} (hi : Ti 61 r x r' true) : Pf b (acc ++ [⟨z0, z1, z2, z3, x⟩]) r' ∧ r'.length < s.length := by
  unfold Tn at ht
  unfold Ti at hi
  have he : takeEvent s = some (⟨z0, z1, z2, z3, x⟩, r') := by
    rw [event_chain, ht, if_pos rfl, Option.bind_some, hi, if_pos rfl, Option.bind_some]
    rfl
  have hlt := takeEvent_lt he
  have h2 := h.2
  refine ⟨⟨?_, by simp only [List.length_append, List.length_singleton]; omega⟩, by omega⟩
  rw [h.1, parse_step he]
  cases parseF r' with
  | none => rfl
  | some m => simp
def slenB : Value → Nat
  | .slice _ n _ => n
  | _ => 0
theorem slenB_bs {w : World} {P : Nat → Prop} {v : Value} {l : Bs} (h : BsAt w P v l) : slenB v = l.length := by
  obtain ⟨p, c, rfl⟩ := h.shape
  rfl
theorem zs4c {w : World} {v : Value} {a0 a1 a2 a3 : Int} (h : ZsAt w v [a0, a1, a2, a3]) : ∃ b o c, v = .slice (some ⟨b, o, none⟩) 4 c ∧ 4 ≤ c ∧ c ≤ 9223372036854775807 ∧ ∀ W, Below w.heap.size w W →
    W.cell? ⟨b, o, none⟩ = some (.int .i64 a0) ∧ W.cell? ⟨b, o + 1, none⟩ = some (.int .i64 a1) ∧ W.cell? ⟨b, o + 2, none⟩ = some (.int .i64 a2) ∧ W.cell? ⟨b, o + 3, none⟩ = some (.int .i64 a3) := by
  obtain ⟨p, c, rfl, h1, h2, h3⟩ := h.at
  obtain ⟨b, o, rfl, e0⟩ := h3 0 (by simp)
  have hx : ∀ W, Below w.heap.size w W → ∀ i (hi : i < 4), W.cell? ⟨b, o + i, none⟩ = some (.int .i64 ([a0, a1, a2, a3][i])) := fun W hW i hi => by
    obtain ⟨b', o', e1, e2⟩ := h3 i hi
    cases e1
    rw [← e2]
    exact World.cell?_of_block (hW.block _ (lt_of_cell e2))
  exact ⟨b, o, c, rfl, h1, h2, fun W hW => ⟨hx W hW 0 (by decide), hx W hW 1 (by decide), hx W hW 2 (by decide), hx W hW 3 (by decide)⟩⟩

set_option maxHeartbeats 3200000 in
set_option maxRecDepth 100000 in
theorem uparse {w : World} {v : Value} {b : Bs} (h : BsAt w (fun g => g < w.heap.size) v b) (hL : LtB w.heap.size w) (hl : b.length ≤ 100000000) :
    Calls Tryd.prog 7 #[v] w fun e w' => ∃ pv err, e = .returned (.tuple #[pv, .int .i64 err]) ∧ Out w' w.heap.size (parseF b) pv err ∧ Below w.heap.size w w' := by
  have HH : Hid (BsAt w (fun g => g < w.heap.size) v b) := h
  have HL : Hid (LtB w.heap.size w) := hL
  have HLL : Hid (b.length ≤ 100000000) := hl
  have HU : Hid (ItemU 61) := uitem_any 61 (Nat.le_refl _)
  obtain ⟨p, c, rfl⟩ := h.shape
  clear h hL hl
  generalize hbl : b.length = bl at *
  have HBL : Hid (b.length = bl) := hbl
  clear hbl
  go_enter Tryd.func7, Tryd.ntmps7
  go_wp2_with fail
  go_loopw [0, 4] (fun bv ov wr => ∃ (acc : List Ez) (s : Bs), Hid (Pf b acc s) ∧ Hid (OwnE wr w.heap.size ov acc) ∧ Hid (BsAt wr (fun g => g < w.heap.size) bv s) ∧ Hid (Below w.heap.size w wr)) (fun bv _ _ => slenB bv)
  case atStart => exact ⟨[], b, Pf.start b, OwnE.nil _ _, HH.out, Below.refl _ _⟩
  case round =>
    clear HH
    obtain ⟨acc, s, HF, HO, HS, HB⟩ := hrel
    obtain ⟨p0, c0, rfl⟩ := HS.out.shape
    by_cases hs : s = []
    · have HD : Hid (parseF b = some acc) := HF.out.done hs
      have HO2 : Hid (EzsAt wr (fun g => w.heap.size ≤ g) u4 acc) := HO.out.ezs
      subst hs
      clear HF HO HS
      go_wp2_with fail
      go_ret2
      exact ⟨_, _, rfl, Or.inl ⟨acc, HD.out, rfl, HO2.out⟩, HB.out⟩
    · have hpos : 0 < s.length := List.length_pos_iff.mpr hs
      have HSN : Hid (s ≠ []) := hs
      have hsl : s.length ≤ 100000000 := by have h1 := HF.out.2; have h2 := HLL.out; have h3 := HBL.out; omega
      have HSL : Hid (s.length ≤ 100000000) := hsl
      have HW : Hid (w.heap.size ≤ wr.heap.size) := HB.out.size
      have C := unumbers HS.out (fun g hg => Nat.lt_of_lt_of_le hg HW.out) ((HL.out.on HB.out).up HW.out) hsl 4 (by decide)
      rw [show ((4 : Nat) : Int) = 4 from rfl] at C
      clear HS hs hsl
      have HSE : Hid (∃ q : Nat, q = s.length) := ⟨_, rfl⟩
      go_upto_region 4 with (go_at_call 14; refine C.mono ?_; clear C; rintro e w5 ⟨lv, xs, rv, r, ok, rfl, ho, hr, hlen, ht, hb⟩)
      have HZ5 : Hid (ZsAt w5 lv xs) := zs_of_owns ho
      have HR5 : Hid (BsAt w5 (fun g => g < w.heap.size) rv r) := hr
      have HT5 : Hid (Tn 4 s xs r ok) := ht
      have HRL : Hid (r.length ≤ 100000000) := Nat.le_trans hlen HSL.out
      have HB5 : Hid (Below w.heap.size w w5) := HB.out.trans (hb.mono HW.out)
      have HO5 : Hid (OwnE w5 w.heap.size u4 acc) := HO.out.bt (Bt.below (S := []) hb) (by simp)
      have HW5 : Hid (wr.heap.size ≤ w5.heap.size) := hb.size
      have HOL : Hid (∀ g, u4.ownBlock = some g → w.heap.size ≤ g ∧ g < wr.heap.size) := HO.out.lt
      have HLV : Hid (∀ g, lv.ownBlock = some g → wr.heap.size ≤ g ∧ g < w5.heap.size) := World.ownsRow.lt ho
      clear HO HB ho hr hlen ht hb
      cases ok with
      | false =>
        have HP : Hid (parseF b = none) := HF.out.no1 HSN.out HT5.out
        clear HF HT5 HZ5 HR5 HO5 HOL HLV
        go_wp2_with fail
        go_ret2
        exact ⟨_, _, rfl, Or.inr ⟨HP.out, rfl, rfl⟩, HB5.out⟩
      | true =>
        obtain ⟨z0, z1, z2, z3, rfl⟩ := tn4 HT5.out
        obtain ⟨lb, lo, lc, rfl, l1, l2, hz⟩ := zs4c HZ5.out
        have HZ8 : Hid (∀ W, Below w5.heap.size w5 W → W.cell? ⟨lb, lo, none⟩ = some (.int .i64 z0) ∧ W.cell? ⟨lb, lo + 1, none⟩ = some (.int .i64 z1) ∧ W.cell? ⟨lb, lo + 2, none⟩ = some (.int .i64 z2) ∧ W.cell? ⟨lb, lo + 3, none⟩ = some (.int .i64 z3)) := hz
        clear hz HZ5
        have C := HU.out.parts HR5.out (fun g hg => Nat.lt_of_lt_of_le hg HB5.out.size) ((HL.out.on HB5.out).up HB5.out.size) HRL.out
        rw [show (61 : Int) - ((61 : Nat) : Int) = 0 from rfl] at C
        obtain ⟨p5, c5, rfl⟩ := HR5.out.shape
        go_upto_region 7 with (go_at_call 15; refine C.mono ?_; clear C; rintro e w6 ⟨y0, y1, y2, y3, y4, y5, y6, ks, px, cx, v6, r6, ok, rfl, hk, hr, hlen, ht, hb⟩)
        have hB2 : Below w6.heap.size w6 (w6.alloc (.cells #[.int .i64 y0, .int .i64 y1, .string y2, .string y3, .int .i64 y4, .int .i64 y5, .bool y6, .slice px ks.length cx] 33)) := (Below.refl _ _).alloc (Nat.le_refl _) _
        have hB3 : Below w5.heap.size w5 (w6.alloc (.cells #[.int .i64 y0, .int .i64 y1, .string y2, .string y3, .int .i64 y4, .int .i64 y5, .bool y6, .slice px ks.length cx] 33)) := hb.trans (hB2.mono hb.size)
        have HB8 : Hid (Below w5.heap.size w5 (w6.alloc (.cells #[.int .i64 y0, .int .i64 y1, .string y2, .string y3, .int .i64 y4, .int .i64 y5, .bool y6, .slice px ks.length cx] 33))) := hB3
        have HBW : Hid (Below w.heap.size w (w6.alloc (.cells #[.int .i64 y0, .int .i64 y1, .string y2, .string y3, .int .i64 y4, .int .i64 y5, .bool y6, .slice px ks.length cx] 33))) := HB5.out.trans (hB3.mono HB5.out.size)
        have HO8 : Hid (OwnE (w6.alloc (.cells #[.int .i64 y0, .int .i64 y1, .string y2, .string y3, .int .i64 y4, .int .i64 y5, .bool y6, .slice px ks.length cx] 33)) w.heap.size u4 acc) := HO5.out.bt (Bt.below (S := []) hB3) (by simp)
        have HS8 : Hid (BsAt (w6.alloc (.cells #[.int .i64 y0, .int .i64 y1, .string y2, .string y3, .int .i64 y4, .int .i64 y5, .bool y6, .slice px ks.length cx] 33)) (fun g => g < w.heap.size) v6 r6) := hr.under hB2
        have HK8 : Hid (IzsAt (w6.alloc (.cells #[.int .i64 y0, .int .i64 y1, .string y2, .string y3, .int .i64 y4, .int .i64 y5, .bool y6, .slice px ks.length cx] 33)) (fun g => w.heap.size ≤ g ∧ some g ≠ u4.ownBlock) (.slice px ks.length cx) ks) := hk.frame (fun g hg hlt => ⟨hB2.block g hlt, Nat.le_trans HB5.out.size hg, fun e => by have h1 := (HOL.out g e.symm).2; have h2 := HW5.out; omega⟩)
        have HX8 : Hid ((w6.alloc (.cells #[.int .i64 y0, .int .i64 y1, .string y2, .string y3, .int .i64 y4, .int .i64 y5, .bool y6, .slice px ks.length cx] 33)).heap[w6.heap.size]? = some (.cells #[.int .i64 y0, .int .i64 y1, .string y2, .string y3, .int .i64 y4, .int .i64 y5, .bool y6, .slice px ks.length cx] 33)) := heap_alloc_new _ _
        have HG8 : Hid (w6.heap.size < (w6.alloc (.cells #[.int .i64 y0, .int .i64 y1, .string y2, .string y3, .int .i64 y4, .int .i64 y5, .bool y6, .slice px ks.length cx] 33)).heap.size) := by show _ < _; simp
        have hlb := HLV.out lb (by simp [Value.ownBlock])
        have HLB : Hid (lb < (w6.alloc (.cells #[.int .i64 y0, .int .i64 y1, .string y2, .string y3, .int .i64 y4, .int .i64 y5, .bool y6, .slice px ks.length cx] 33)).heap.size) := by have h1 := hb.size; have h2 := HG8.out; show _ < _; omega
        have HNB : Hid (some lb ≠ u4.ownBlock ∧ some w6.heap.size ≠ u4.ownBlock) := ⟨fun e => by have := (HOL.out lb e.symm).2; omega, fun e => by have h1 := (HOL.out _ e.symm).2; have h2 := hb.size; have h3 := HW5.out; omega⟩
        have HZ9 : Hid (∀ W : World, W.heap[lb]? = (w6.alloc (.cells #[.int .i64 y0, .int .i64 y1, .string y2, .string y3, .int .i64 y4, .int .i64 y5, .bool y6, .slice px ks.length cx] 33)).heap[lb]? → W.cell? ⟨lb, lo, none⟩ = some (.int .i64 z0) ∧ W.cell? ⟨lb, lo + 1, none⟩ = some (.int .i64 z1) ∧ W.cell? ⟨lb, lo + 2, none⟩ = some (.int .i64 z2) ∧ W.cell? ⟨lb, lo + 3, none⟩ = some (.int .i64 z3)) := fun W hW => by
          obtain ⟨e0, e1, e2, e3⟩ := HZ8.out _ hB3
          exact ⟨by rw [← e0]; exact World.cell?_of_block hW, by rw [← e1]; exact World.cell?_of_block hW, by rw [← e2]; exact World.cell?_of_block hW, by rw [← e3]; exact World.cell?_of_block hW⟩
        have HT8 : Hid (Ti 61 r (.mk y0 y1 y2 y3 y4 y5 y6 ks) r6 ok) := ht
        clear HO5 HR5 HOL HLV HZ8 hlb hk hr hlen ht hb hB2 hB3
        generalize w6.alloc (.cells #[.int .i64 y0, .int .i64 y1, .string y2, .string y3, .int .i64 y4, .int .i64 y5, .bool y6, .slice px ks.length cx] 33) = w8 at *
        generalize w6.heap.size = G8 at *
        cases ok with
        | false =>
          have HP : Hid (parseF b = none) := HF.out.no2 HSN.out HT5.out HT8.out
          clear HF HT5 HT8 HZ9 HO8 HS8 HK8 HX8 HG8 HB8
          go_wp2_with fail
          go_ret2
          exact ⟨_, _, rfl, Or.inr ⟨HP.out, rfl, rfl⟩, HBW.out⟩
        | true =>
          have st := HF.out.step HT5.out HT8.out
          have HF9 : Hid (Pf b (acc ++ [⟨z0, z1, z2, z3, .mk y0 y1 y2 y3 y4 y5 y6 ks⟩]) r6) := st.1
          have HLT : Hid (r6.length < s.length) := st.2
          have hac : acc.length ≤ 100000000 := by have h1 := HF.out.2; have h2 := HLL.out; have h3 := HBL.out; omega
          have hO8 : OwnE w8.drew w.heap.size u4 acc := HO8.out.bt (Bt.below (S := []) (Below.refl _ _).drew) (by simp)
          have hK8 : IzsAt w8.drew (fun g => w.heap.size ≤ g ∧ some g ≠ u4.ownBlock) (.slice px ks.length cx) ks := HK8.out.frame (fun g hg _ => ⟨rfl, hg⟩)
          have hz8 : w.heap.size ≤ w8.drew.heap.size := HBW.out.size
          clear st HF HT5 HT8 HO8 HK8 HB5 HW5
          go_upto_region 9 with fail
          refine wp_region_held_drew (S := fun W : World => W.heap[lb]? = w8.heap[lb]? ∧ W.heap[G8]? = w8.heap[G8]?) (by kernel_rfl) ?_ (fun hHeld => ?_)
          · (first | exact ⟨rfl, rfl⟩ | exact ⟨g9.block lb HLB.out HNB.out.1, g9.block G8 HG8.out HNB.out.2⟩ | exact ⟨Below.heap_alloc _ _ _ HLB.out, Below.heap_alloc _ _ _ HG8.out⟩)
          refine wpAnyH_take (i := 0) (v := ?v0) rfl (by kernel_rfl) (by kernel_rfl) (by kernel_rfl) (fun _ _ _ h => h) (Or.inl ⟨by kernel_rfl, ?hy0⟩) (by assumption) ?rest0
          case hy0 => intro wS hSw; clear hSw; first | (go_simp; done) | (go_simp; with_reducible rfl) | with_reducible rfl
          (try simp only [List.getElem_toArray, List.getElem_cons_zero]); (try dsimp only); (try go_frame)
          refine wpAnyH_take (i := 1) (v := ?v1) rfl (by kernel_rfl) (by kernel_rfl) (by kernel_rfl) (fun _ _ _ h => h) (Or.inl ⟨by kernel_rfl, ?hy1⟩) (by assumption) ?rest1
          case hy1 => intro wS hSw; clear hSw; first | (go_simp; done) | (go_simp; with_reducible rfl) | with_reducible rfl
          (try simp only [List.getElem_toArray, List.getElem_cons_succ, List.getElem_cons_zero]); (try dsimp only); (try go_frame)
          refine wpAnyH_take (i := 2) (v := ?v2) rfl (by kernel_rfl) (by kernel_rfl) (by kernel_rfl) (fun _ _ _ h => h) (Or.inl ⟨by kernel_rfl, ?hy2⟩) (by assumption) ?rest2
          case hy2 => intro wS hSw; clear hSw; first | (go_simp; done) | (go_simp; with_reducible rfl) | with_reducible rfl
          (try simp only [List.getElem_toArray, List.getElem_cons_succ, List.getElem_cons_zero]); (try dsimp only); (try go_frame)
          refine wpAnyH_take (i := 3) (v := ?v3) rfl (by kernel_rfl) (by kernel_rfl) (by kernel_rfl) (fun _ _ _ h => h) (Or.inl ⟨by kernel_rfl, ?hy3⟩) (by assumption) ?rest3
          case hy3 => intro wS hSw; (try dsimp only at hSw); have q := (HZ9.out _ hSw.1).1; clear hSw; first | (go_simp; done) | (go_simp; with_reducible rfl) | with_reducible rfl
          (try simp only [List.getElem_toArray, List.getElem_cons_succ, List.getElem_cons_zero]); (try dsimp only); (try go_frame)
          refine wpAnyH_take (i := 4) (v := ?v4) rfl (by kernel_rfl) (by kernel_rfl) (by kernel_rfl) (fun _ _ _ h => h) (Or.inl ⟨by kernel_rfl, ?hy4⟩) (by assumption) ?rest4
          case hy4 => intro wS hSw; clear hSw; first | (go_simp; done) | (go_simp; with_reducible rfl) | with_reducible rfl
          (try simp only [List.getElem_toArray, List.getElem_cons_succ, List.getElem_cons_zero]); (try dsimp only); (try go_frame)
          refine wpAnyH_take (i := 5) (v := ?v5) rfl (by kernel_rfl) (by kernel_rfl) (by kernel_rfl) (fun _ _ _ h => h) (Or.inl ⟨by kernel_rfl, ?hy5⟩) (by assumption) ?rest5
          case hy5 => intro wS hSw; clear hSw; first | (go_simp; done) | (go_simp; with_reducible rfl) | with_reducible rfl
          (try simp only [List.getElem_toArray, List.getElem_cons_succ, List.getElem_cons_zero]); (try dsimp only); (try go_frame)
          refine wpAnyH_take (i := 6) (v := ?v6) rfl (by kernel_rfl) (by kernel_rfl) (by kernel_rfl) (fun _ _ _ h => h) (Or.inl ⟨by kernel_rfl, ?hy6⟩) (by assumption) ?rest6
          case hy6 => intro wS hSw; (try dsimp only at hSw); have q := (HZ9.out _ hSw.1).2.1; clear hSw; first | (go_simp; done) | (go_simp; with_reducible rfl) | with_reducible rfl
          (try simp only [List.getElem_toArray, List.getElem_cons_succ, List.getElem_cons_zero]); (try dsimp only); (try go_frame)
          refine wpAnyH_take (i := 7) (v := ?v7) rfl (by kernel_rfl) (by kernel_rfl) (by kernel_rfl) (fun _ _ _ h => h) (Or.inl ⟨by kernel_rfl, ?hy7⟩) (by assumption) ?rest7
          case hy7 => intro wS hSw; clear hSw; first | (go_simp; done) | (go_simp; with_reducible rfl) | with_reducible rfl
          (try simp only [List.getElem_toArray, List.getElem_cons_succ, List.getElem_cons_zero]); (try dsimp only); (try go_frame)
          refine wpAnyH_take (i := 8) (v := ?v8) rfl (by kernel_rfl) (by kernel_rfl) (by kernel_rfl) (fun _ _ _ h => h) (Or.inl ⟨by kernel_rfl, ?hy8⟩) (by assumption) ?rest8
          case hy8 => intro wS hSw; clear hSw; first | (go_simp; done) | (go_simp; with_reducible rfl) | with_reducible rfl
          (try simp only [List.getElem_toArray, List.getElem_cons_succ, List.getElem_cons_zero]); (try dsimp only); (try go_frame)
          refine wpAnyH_take (i := 9) (v := ?v9) rfl (by kernel_rfl) (by kernel_rfl) (by kernel_rfl) (fun _ _ _ h => h) (Or.inl ⟨by kernel_rfl, ?hy9⟩) (by assumption) ?rest9
          case hy9 => intro wS hSw; (try dsimp only at hSw); have q := (HZ9.out _ hSw.1).2.2.1; clear hSw; first | (go_simp; done) | (go_simp; with_reducible rfl) | with_reducible rfl
          (try simp only [List.getElem_toArray, List.getElem_cons_succ, List.getElem_cons_zero]); (try dsimp only); (try go_frame)
          refine wpAnyH_take (i := 10) (v := ?v10) rfl (by kernel_rfl) (by kernel_rfl) (by kernel_rfl) (fun _ _ _ h => h) (Or.inl ⟨by kernel_rfl, ?hy10⟩) (by assumption) ?rest10
          case hy10 => intro wS hSw; clear hSw; first | (go_simp; done) | (go_simp; with_reducible rfl) | with_reducible rfl
          (try simp only [List.getElem_toArray, List.getElem_cons_succ, List.getElem_cons_zero]); (try dsimp only); (try go_frame)
          refine wpAnyH_take (i := 11) (v := ?v11) rfl (by kernel_rfl) (by kernel_rfl) (by kernel_rfl) (fun _ _ _ h => h) (Or.inl ⟨by kernel_rfl, ?hy11⟩) (by assumption) ?rest11
          case hy11 => intro wS hSw; clear hSw; first | (go_simp; done) | (go_simp; with_reducible rfl) | with_reducible rfl
          (try simp only [List.getElem_toArray, List.getElem_cons_succ, List.getElem_cons_zero]); (try dsimp only); (try go_frame)
          refine wpAnyH_take (i := 12) (v := ?v12) rfl (by kernel_rfl) (by kernel_rfl) (by kernel_rfl) (fun _ _ _ h => h) (Or.inl ⟨by kernel_rfl, ?hy12⟩) (by assumption) ?rest12
          case hy12 => intro wS hSw; (try dsimp only at hSw); have q := (HZ9.out _ hSw.1).2.2.2; clear hSw; first | (go_simp; done) | (go_simp; with_reducible rfl) | with_reducible rfl
          (try simp only [List.getElem_toArray, List.getElem_cons_succ, List.getElem_cons_zero]); (try dsimp only); (try go_frame)
          refine wpAnyH_take (i := 13) (v := ?v13) rfl (by kernel_rfl) (by kernel_rfl) (by kernel_rfl) (fun _ _ _ h => h) (Or.inl ⟨by kernel_rfl, ?hy13⟩) (by assumption) ?rest13
          case hy13 => intro wS hSw; (try dsimp only at hSw); have hx := hSw.2.trans HX8.out; clear hSw; have q0 := cell_of_block hx 0; have q1 := cell_of_block hx 1; have q2 := cell_of_block hx 2; have q3 := cell_of_block hx 3; have q4 := cell_of_block hx 4; have q5 := cell_of_block hx 5; have q6 := cell_of_block hx 6; have q7 := cell_of_block hx 7; clear hx; first | (go_simp; done) | (go_simp; with_reducible rfl) | with_reducible rfl
          (try simp only [List.getElem_toArray, List.getElem_cons_succ, List.getElem_cons_zero]); (try dsimp only); (try go_frame)
          refine wpAnyH_take (i := 14) (v := ?v14) rfl (by kernel_rfl) (by kernel_rfl) (by kernel_rfl) (fun _ _ _ h => h) (Or.inl ⟨by kernel_rfl, ?hy14⟩) (by assumption) ?rest14
          case hy14 => intro wS hSw; clear hSw; first | (go_simp; done) | (go_simp; with_reducible rfl) | with_reducible rfl
          (try simp only [List.getElem_toArray, List.getElem_cons_succ, List.getElem_cons_zero]); (try dsimp only); (try go_frame)
          refine wpAnyH_ready (rs := [15]) (by kernel_rfl) (by simp) ?_
          refine AllReadyH.cons rfl (fun K hK => ?_) AllReadyH.nil
          go_simp
          (try go_wp2_with fail)
          clear hHeld
          refine hK.out _ _ ?_ (fun hHeld => ?_)
          · (first | exact ⟨rfl, rfl⟩ | exact ⟨g9.block lb HLB.out HNB.out.1, g9.block G8 HG8.out HNB.out.2⟩ | exact ⟨Below.heap_alloc _ _ _ HLB.out, Below.heap_alloc _ _ _ HG8.out⟩)
          clear hK K
          (try simp only [List.getElem_toArray, List.getElem_cons_succ, List.getElem_cons_zero]); (try dsimp only); (try go_frame)
          refine wpAnyH_ready (rs := [16]) (by kernel_rfl) (by simp) ?_
          refine AllReadyH.cons rfl (fun K hK => ?_) AllReadyH.nil
          (refine step_append_event rfl _ _ rfl ⟨z0, z1, z2, z3, .mk y0 y1 y2 y3 y4 y5 y6 ks⟩ (.slice px ks.length cx) rfl rfl hO8 hK8 hz8 hac ?_; intro v9 w9 o9 b9 g9)
          clear hHeld
          refine hK.out _ _ ?_ (fun hHeld => ?_)
          · (first | exact ⟨rfl, rfl⟩ | exact ⟨g9.block lb HLB.out HNB.out.1, g9.block G8 HG8.out HNB.out.2⟩ | exact ⟨Below.heap_alloc _ _ _ HLB.out, Below.heap_alloc _ _ _ HG8.out⟩)
          clear hK K
          (try simp only [List.getElem_toArray, List.getElem_cons_succ, List.getElem_cons_zero]); (try dsimp only); (try go_frame)
          refine wpAnyH_take (i := 17) (v := ?v17) rfl (by kernel_rfl) (by kernel_rfl) (by kernel_rfl) (fun _ _ _ h => h) (Or.inl ⟨by kernel_rfl, ?hy17⟩) (by assumption) ?rest17
          case hy17 => intro wS hSw; clear hSw; first | (go_simp; done) | (go_simp; with_reducible rfl) | with_reducible rfl
          (try simp only [List.getElem_toArray, List.getElem_cons_succ, List.getElem_cons_zero]); (try dsimp only); (try go_frame)
          refine wpAnyH_done (by kernel_rfl) ?_ _
          have HO9 : Hid (OwnE w9 w.heap.size v9 (acc ++ [⟨z0, z1, z2, z3, .mk y0 y1 y2 y3 y4 y5 y6 ks⟩])) := o9
          have HS9 : Hid (BsAt w9 (fun g => g < w.heap.size) v6 r6) := HS8.out.frame (fun g hg _ => ⟨b9.block g hg, hg⟩)
          have HB9 : Hid (Below w.heap.size w w9) := HBW.out.drew.trans b9
          clear o9 b9 g9 HS8 HBW hO8 hK8 hz8 hac HX8 HG8 HZ9 HB8 HLB HNB
          (try clear hHeld)
          go_wp2_with fail
          go_roundw
          case rel => exact ⟨_, r6, HF9, HO9, HS9, HB9⟩
          case measure => rw [slenB_bs HS9.out]; exact HLT.out
end Go.Proofs.YtpnineimnjibaafDoor

/-
  THE WALK of tnlaw10's WireTells (laid by mkjwl.py).
-/
namespace Go.Proofs.YtpnineimnjibaafDoor
open Go.RowKit Go.Lib

theorem EzsAt.nil (w : World) (P : Nat → Prop) : EzsAt w P (.slice none 0 0) [] := ⟨none, 0, rfl, Nat.le_refl _, by decide, fun j h => by simp at h⟩
/-- both answer the same -/
theorem out_both {w1 w2 : World} {B1 B2 : Nat} {o : Option (List Ez)} {p1 p2 : Value} {e1 e2 : Int} (h1 : Out w1 B1 o p1 e1) (h2 : Out w2 B2 o p2 e2) : e2 = e1 ∧ ∃ m, EzsAt w1 (fun g => B1 ≤ g) p1 m ∧ EzsAt w2 (fun g => B2 ≤ g) p2 m := by
  rcases h1 with ⟨l, rfl, rfl, z1⟩ | ⟨rfl, rfl, rfl⟩
  · rcases h2 with ⟨m, hm, rfl, z2⟩ | ⟨hm, _⟩
    · cases hm
      exact ⟨rfl, l, z1, z2⟩
    · cases hm
  · rcases h2 with ⟨m, hm, _⟩ | ⟨_, rfl, rfl⟩
    · cases hm
    · exact ⟨rfl, [], EzsAt.nil _ _, EzsAt.nil _ _⟩

set_option maxHeartbeats 6400000 in
set_option maxRecDepth 100000 in
theorem ywiretells {w : World} {v1 v2 : Value} {l : List Ez} {b : Bs} (h1 : EzsAt w (fun g => g < w.heap.size) v1 l) (n1 : ∀ e ∈ l, EvNum e) (h2 : BsAt w (fun g => g < w.heap.size) v2 b) (hL : LtB w.heap.size w)
    (hs1 : (eventsB l).length ≤ 100000000) (hs2 : b.length ≤ 100000000) :
    Calls Tryd.prog 3 #[v1, v2] w fun e w' => e = .returned (.bool true) ∧ Below w.heap.size w w' := by
  have CP := yparse h2 hL hs2
  have HCU : Hid (∀ W, Below w.heap.size w W → Calls Tryd.prog 7 #[v2] W fun e w' => ∃ pv err, e = .returned (.tuple #[pv, .int .i64 err]) ∧ Out w' W.heap.size (parseF b) pv err ∧ Below W.heap.size W w') := fun W hb =>
    uparse ((h2.under hb).frame (fun g hg _ => ⟨rfl, by have := hb.size; omega⟩)) ((hL.on hb).up hb.size) hs2
  have HC3 : Hid (∀ W, Below w.heap.size w W → Calls Tryd.prog 8 #[v1] W fun e w' => ∃ p n c, e = .returned (.slice p n c) ∧ TextOf w' (.slice p n c) (eventsB l) ∧ Below W.heap.size W w') := fun W hb =>
    ybytes_text ((h1.under hb).frame (fun g hg _ => ⟨rfl, by have := hb.size; omega⟩)) n1 ((hL.on hb).up hb.size) (by omega)
  have HC4 : Hid (∀ W, Below w.heap.size w W → Calls Tryd.prog 9 #[v1] W fun e w' => ∃ p n c, e = .returned (.slice p n c) ∧ TextOf w' (.slice p n c) (eventsB l) ∧ Below W.heap.size W w') := fun W hb =>
    (yubytes_any ((h1.under hb).frame (fun g hg _ => ⟨rfl, by have := hb.size; omega⟩)) n1 ((hL.on hb).up hb.size) (by omega)).mono (by
      rintro e w' ⟨v', e1, ⟨a, n, c, rfl⟩, t, b'⟩
      exact ⟨some a, n, c, e1, t, b'⟩)
  have hQ : ((bsS (eventsB l)).toList == (bsS (eventsB l)).toList) = true := by simp
  obtain ⟨p1, c1, rfl⟩ := h1.shape
  obtain ⟨p2, c2, rfl⟩ := h2.shape
  clear n1 h1 h2 hL hs1 hs2
  go_enter Tryd.func3, Tryd.ntmps3
  go_upto_region 2 with (go_at_call 6; refine CP.mono ?_; clear CP; rintro e w5 ⟨m1, e1, rfl, ho1, hb5⟩)
  have HB5 : Hid (Below w.heap.size w w5) := hb5
  have HO1 : Hid (Out w5 w.heap.size (parseF b) m1 e1) := ho1
  have C := HCU.out w5 hb5
  clear hb5 ho1 HCU
  go_upto_region 3 with (go_at_call 7; refine C.mono ?_; clear C; rintro e w6 ⟨m2, e2, rfl, ho2, hb6⟩)
  obtain ⟨rfl, m, z1, z2⟩ := out_both HO1.out ho2
  have HC5 : Hid (∀ W, Below w5.heap.size w5 W → Below w6.heap.size w6 W → Calls Tryd.prog 10 #[m1, m2] W fun e w' => e = .returned (.bool true) ∧ Below W.heap.size W w') := fun W k1 k2 => ysameevents (z1.under k1) (z2.under k2)
  have HB6 : Hid (Below w.heap.size w w6) := HB5.out.trans (hb6.mono HB5.out.size)
  have HB56 : Hid (Below w5.heap.size w5 w6) := hb6
  clear HO1 ho2 hb6 z1 z2
  refine wp_region_held_drew (S := fun _ : World => True) (by kernel_rfl) ?_ (fun hHeld => ?_)
  · exact trivial
  refine wpAnyH_take (i := 0) (v := ?v0) rfl (by kernel_rfl) (by kernel_rfl) (by kernel_rfl) (fun _ _ _ h => h) (Or.inl ⟨by kernel_rfl, ?hy0⟩) (by assumption) ?rest0
  case hy0 => intro wS hSw; clear hSw; first | (go_simp; done) | (go_simp; with_reducible rfl) | with_reducible rfl
  (try simp only [List.getElem_toArray, List.getElem_cons_zero]); (try dsimp only); (try go_frame)
  refine wpAnyH_take (i := 3) (v := ?v3) rfl (by kernel_rfl) (by kernel_rfl) (by kernel_rfl) (fun _ _ _ h => h) (Or.inl ⟨by kernel_rfl, ?hy3⟩) (by assumption) ?rest3
  case hy3 => intro wS hSw; clear hSw; first | (go_simp; done) | (go_simp; with_reducible rfl) | with_reducible rfl
  (try simp only [List.getElem_toArray, List.getElem_cons_succ, List.getElem_cons_zero]); (try dsimp only); (try go_frame)
  refine wpAnyH_ready (rs := [1]) (by kernel_rfl) (by simp) ?_
  refine AllReadyH.cons rfl (fun K hK => ?_) AllReadyH.nil
  go_simp
  (go_at_call 8; refine (HC3.out _ HB6.out.drew).mono ?_; rintro e w7 ⟨p7, n7, c7, rfl, t7, b7⟩; have B67 : Below w6.heap.size w6 w7 := (Below.refl w6.heap.size w6).drew.trans b7; have B7 := HB6.out.trans (B67.mono HB6.out.size); clear b7)
  go_wp2_with fail
  clear hHeld
  refine hK.out _ _ ?_ (fun hHeld => ?_)
  · exact trivial
  clear hK K
  (try simp only [List.getElem_toArray, List.getElem_cons_succ, List.getElem_cons_zero]); (try dsimp only); (try go_frame)
  refine wpAnyH_switch (S' := fun W : World => Below w7.heap.size w7 W) (fun wS hSw => by exact trivial) _ _ _ _ ?_
  clear hHeld
  have hHeld : (fun W : World => Below w7.heap.size w7 W) w7 := by exact Below.refl _ _
  refine wpAnyH_take (i := 2) (v := ?v2) rfl (by kernel_rfl) (by kernel_rfl) (by kernel_rfl) (fun _ _ _ h => h) (Or.inl ⟨by kernel_rfl, ?hy2⟩) (by assumption) ?rest2
  case hy2 => intro wS hSw; (try dsimp only at hSw); have q7 := (t7.on hSw).here; clear hSw; first | (go_simp; done) | (go_simp; with_reducible rfl) | with_reducible rfl
  (try simp only [List.getElem_toArray, List.getElem_cons_succ, List.getElem_cons_zero]); (try dsimp only); (try go_frame)
  refine wpAnyH_ready (rs := [4]) (by kernel_rfl) (by simp) ?_
  refine AllReadyH.cons rfl (fun K hK => ?_) AllReadyH.nil
  go_simp
  (go_at_call 9; refine (HC4.out _ B7).mono ?_; rintro e w8 ⟨p8, n8, c8, rfl, t8, b8⟩; have B8 := B7.trans (b8.mono B7.size); have B68 := B67.trans (b8.mono B67.size))
  go_wp2_with fail
  clear hHeld
  refine hK.out _ _ ?_ (fun hHeld => ?_)
  · exact b8
  clear hK K
  (try simp only [List.getElem_toArray, List.getElem_cons_succ, List.getElem_cons_zero]); (try dsimp only); (try go_frame)
  refine wpAnyH_switch (S' := fun W : World => Below w7.heap.size w7 W ∧ Below w8.heap.size w8 W) (fun wS hSw => by exact hSw.1) _ _ _ _ ?_
  clear hHeld
  have hHeld : (fun W : World => Below w7.heap.size w7 W ∧ Below w8.heap.size w8 W) w8 := by exact ⟨b8, Below.refl _ _⟩
  refine wpAnyH_take (i := 5) (v := ?v5) rfl (by kernel_rfl) (by kernel_rfl) (by kernel_rfl) (fun _ _ _ h => h) (Or.inl ⟨by kernel_rfl, ?hy5⟩) (by assumption) ?rest5
  case hy5 => intro wS hSw; (try dsimp only at hSw); have q8 := (t8.on hSw.2).here; clear hSw; first | (go_simp; done) | (go_simp; with_reducible rfl) | with_reducible rfl
  (try simp only [List.getElem_toArray, List.getElem_cons_succ, List.getElem_cons_zero]); (try dsimp only); (try go_frame)
  refine wpAnyH_take (i := 6) (v := ?v6) rfl (by kernel_rfl) (by kernel_rfl) (by kernel_rfl) (fun _ _ _ h => h) (Or.inl ⟨by kernel_rfl, ?hy6⟩) (by assumption) ?rest6
  case hy6 => intro wS hSw; clear hSw; first | (go_simp; done) | (go_simp; with_reducible rfl) | with_reducible rfl
  (try simp only [List.getElem_toArray, List.getElem_cons_succ, List.getElem_cons_zero]); (try dsimp only); (try go_frame)
  refine wpAnyH_take (i := 7) (v := ?v7) rfl (by kernel_rfl) (by kernel_rfl) (by kernel_rfl) (fun _ _ _ h => h) (Or.inl ⟨by kernel_rfl, ?hy7⟩) (by assumption) ?rest7
  case hy7 => intro wS hSw; clear hSw; first | (go_simp; done) | (go_simp; with_reducible rfl) | with_reducible rfl
  (try simp only [List.getElem_toArray, List.getElem_cons_succ, List.getElem_cons_zero]); (try dsimp only); (try go_frame)
  refine wpAnyH_take (i := 8) (v := ?v8) rfl (by kernel_rfl) (by kernel_rfl) (by kernel_rfl) (fun _ _ _ h => h) (Or.inl ⟨by kernel_rfl, ?hy8⟩) (by assumption) ?rest8
  case hy8 => intro wS hSw; clear hSw; first | (go_simp; done) | (go_simp; with_reducible rfl) | with_reducible rfl
  (try simp only [List.getElem_toArray, List.getElem_cons_succ, List.getElem_cons_zero]); (try dsimp only); (try go_frame)
  refine wpAnyH_take (i := 9) (v := ?v9) rfl (by kernel_rfl) (by kernel_rfl) (by kernel_rfl) (fun _ _ _ h => h) (Or.inl ⟨by kernel_rfl, ?hy9⟩) (by assumption) ?rest9
  case hy9 => intro wS hSw; clear hSw; first | (go_simp; done) | (go_simp; with_reducible rfl) | with_reducible rfl
  (try simp only [List.getElem_toArray, List.getElem_cons_succ, List.getElem_cons_zero]); (try dsimp only); (try go_frame)
  refine wpAnyH_take (i := 10) (v := ?v10) rfl (by kernel_rfl) (by kernel_rfl) (by kernel_rfl) (fun _ _ _ h => h) (Or.inl ⟨by kernel_rfl, ?hy10⟩) (by assumption) ?rest10
  case hy10 => intro wS hSw; clear hSw; first | (go_simp; done) | (go_simp; with_reducible rfl) | with_reducible rfl
  (try simp only [List.getElem_toArray, List.getElem_cons_succ, List.getElem_cons_zero]); (try dsimp only); (try go_frame)
  refine wpAnyH_take (i := 11) (v := ?v11) rfl (by kernel_rfl) (by kernel_rfl) (by kernel_rfl) (fun _ _ _ h => h) (Or.inl ⟨by kernel_rfl, ?hy11⟩) (by assumption) ?rest11
  case hy11 => intro wS hSw; clear hSw; first | (go_simp; done) | (go_simp; with_reducible rfl) | with_reducible rfl
  (try simp only [List.getElem_toArray, List.getElem_cons_succ, List.getElem_cons_zero]); (try dsimp only); (try go_frame)
  refine wpAnyH_take (i := 12) (v := ?v12) rfl (by kernel_rfl) (by kernel_rfl) (by kernel_rfl) (fun _ _ _ h => h) (Or.inl ⟨by kernel_rfl, ?hy12⟩) (by assumption) ?rest12
  case hy12 => intro wS hSw; clear hSw; first | (go_simp; done) | (go_simp; with_reducible rfl) | with_reducible rfl
  (try simp only [List.getElem_toArray, List.getElem_cons_succ, List.getElem_cons_zero]); (try dsimp only); (try go_frame)
  refine wpAnyH_take (i := 13) (v := ?v13) rfl (by kernel_rfl) (by kernel_rfl) (by kernel_rfl) (fun _ _ _ h => h) (Or.inl ⟨by kernel_rfl, ?hy13⟩) (by assumption) ?rest13
  case hy13 => intro wS hSw; clear hSw; first | (go_simp; done) | (go_simp; with_reducible rfl) | with_reducible rfl
  (try simp only [List.getElem_toArray, List.getElem_cons_succ, List.getElem_cons_zero]); (try dsimp only); (try go_frame)
  refine wpAnyH_take (i := 14) (v := ?v14) rfl (by kernel_rfl) (by kernel_rfl) (by kernel_rfl) (fun _ _ _ h => h) (Or.inl ⟨by kernel_rfl, ?hy14⟩) (by assumption) ?rest14
  case hy14 => intro wS hSw; clear hSw; first | (go_simp; done) | (go_simp; with_reducible rfl) | with_reducible rfl
  (try simp only [List.getElem_toArray, List.getElem_cons_succ, List.getElem_cons_zero]); (try dsimp only); (try go_frame)
  refine wpAnyH_ready (rs := [15]) (by kernel_rfl) (by simp) ?_
  refine AllReadyH.cons rfl (fun K hK => ?_) AllReadyH.nil
  go_simp
  (go_at_call 10; refine (HC5.out _ (HB56.out.trans (B68.mono HB56.out.size)) B68).mono ?_; rintro e w9 ⟨rfl, b9⟩; have B9 := B8.trans (b9.mono B8.size))
  go_wp2_with fail
  clear hHeld
  refine hK.out _ _ ?_ (fun hHeld => ?_)
  · exact ⟨b8.trans (b9.mono b8.size), b9⟩
  clear hK K
  (try simp only [List.getElem_toArray, List.getElem_cons_succ, List.getElem_cons_zero]); (try dsimp only); (try go_frame)
  refine wpAnyH_take (i := 16) (v := ?v16) rfl (by kernel_rfl) (by kernel_rfl) (by kernel_rfl) (fun _ _ _ h => h) (Or.inl ⟨by kernel_rfl, ?hy16⟩) (by assumption) ?rest16
  case hy16 => intro wS hSw; clear hSw; first | (go_simp; done) | (go_simp; with_reducible rfl) | with_reducible rfl
  (try simp only [List.getElem_toArray, List.getElem_cons_succ, List.getElem_cons_zero]); (try dsimp only); (try go_frame)
  refine wpAnyH_take (i := 17) (v := ?v17) rfl (by kernel_rfl) (by kernel_rfl) (by kernel_rfl) (fun _ _ _ h => h) (Or.inl ⟨by kernel_rfl, ?hy17⟩) (by assumption) ?rest17
  case hy17 => intro wS hSw; clear hSw; first | (go_simp; done) | (go_simp; with_reducible rfl) | with_reducible rfl
  (try simp only [List.getElem_toArray, List.getElem_cons_succ, List.getElem_cons_zero]); (try dsimp only); (try go_frame)
  refine wpAnyH_done (by kernel_rfl) ?_ _
  go_wp2_with fail
  go_ret
  exact ⟨rfl, B9⟩
end Go.Proofs.YtpnineimnjibaafDoor
