/-
  OWN WORK: Jim, Jis, Jve, Jpr, Jal, Xic.
-/
import Derived.Test.YtpnineimnjibaafDoorP2
import Derived.Test.YtpnineimnjibaafDoorP1
import Derived.Test.YtpnineimnjibaafDoorP0
import Derived.Deep.QuietTactic
import Derived.BigQuiet
import Derived.Deep.RegionHeld3
/-
  THE WALK of the reader's item.
-/
namespace Go.Proofs.YtpnineimnjibaafDoor
open Go.RowKit Go.Lib

/-- what the call has made so far: two boxes, the second one filled in part -/
structure Itm (w0 w : World) (B R G0 G1 : Nat) (s : St) (v : Value) (z xs : Array Value) (t : TypeId) : Prop where
  r : Rdr w B R s v
  bt : Bt [R] w0 w
  b0 : w.heap[G0]? = some (.cells z t)
  b1 : w.heap[G1]? = some (.cells xs t)
  n0 : w0.heap.size ≤ G0
  n1 : w0.heap.size ≤ G1
  ne : G0 ≠ G1
  rin : R < w0.heap.size
theorem Itm.call {w0 w w' : World} {B R G0 G1 : Nat} {s s' : St} {v v' : Value} {z xs : Array Value} {t : TypeId} (h : Itm w0 w B R G0 G1 s v z xs t) (hr : Rdr w' B R s' v') (hb : Bt [R] w w') : Itm w0 w' B R G0 G1 s' v' z xs t := by
  have l0 : G0 < w.heap.size := (Array.getElem?_eq_some_iff.1 h.b0).1
  have l1 : G1 < w.heap.size := (Array.getElem?_eq_some_iff.1 h.b1).1
  have q0 := h.n0
  have q1 := h.n1
  have q2 := h.rin
  exact ⟨hr, h.bt.trans hb, by rw [hb.block G0 l0 (by simp; omega)]; exact h.b0, by rw [hb.block G1 l1 (by simp; omega)]; exact h.b1, h.n0, h.n1, h.ne, h.rin⟩
theorem bt_new {S : List Nat} {w w' : World} (h : Bt S w w') {a : Addr} (ha : w.heap.size ≤ a.block) (v : Value) : Bt S w (w'.setCell a v) :=
  ⟨h.os, h.tape, h.output, by simp only [World.setCell, Array.size_modify]; exact h.size, fun i hi hn => by
    rw [Below.heap_setCell _ _ _ _ (fun e => by rw [e] at hi; omega)]
    exact h.block i hi hn⟩
theorem Rdr.far {w : World} {B R : Nat} {s : St} {v : Value} (h : Rdr w B R s v) {a : Addr} (ha : R < a.block) (u : Value) : Rdr (w.setCell a u) B R s v :=
  h.over (C := a.block) ((Below.refl _ _).setCell (Nat.le_refl _) _) ha
theorem Itm.set {w0 w : World} {B R G0 G1 : Nat} {s : St} {v : Value} {z xs : Array Value} {t : TypeId} (h : Itm w0 w B R G0 G1 s v z xs t) (i : Nat) (u : Value) : Itm w0 (w.setCell ⟨G1, i, none⟩ u) B R G0 G1 s v z (xs.setIfInBounds i u) t := by
  have q1 := h.n1
  have q2 := h.rin
  exact ⟨h.r.far (by simp only; omega) u, bt_new h.bt h.n1 u, by rw [Below.heap_setCell _ _ _ _ h.ne]; exact h.b0, heap_setCell_same _ _ _ _ _ _ h.b1, h.n0, h.n1, h.ne, h.rin⟩
theorem Itm.c1 {w0 w : World} {B R G0 G1 : Nat} {s : St} {v : Value} {z xs : Array Value} {t : TypeId} (h : Itm w0 w B R G0 G1 s v z xs t) (i : Nat) : w.cell? ⟨G1, i, none⟩ = xs[i]? := by simp [World.cell?, h.b1]
theorem Itm.c0 {w0 w : World} {B R G0 G1 : Nat} {s : St} {v : Value} {z xs : Array Value} {t : TypeId} (h : Itm w0 w B R G0 G1 s v z xs t) (i : Nat) : w.cell? ⟨G0, i, none⟩ = z[i]? := by simp [World.cell?, h.b0]
theorem Itm.f1 {w0 w : World} {B R G0 G1 : Nat} {s : St} {v : Value} {z xs : Array Value} {t : TypeId} (h : Itm w0 w B R G0 G1 s v z xs t) (i : Nat) : w.frozen? ⟨G1, i, none⟩ = false := by simp [World.frozen?, h.b1]
theorem Itm.f0 {w0 w : World} {B R G0 G1 : Nat} {s : St} {v : Value} {z xs : Array Value} {t : TypeId} (h : Itm w0 w B R G0 G1 s v z xs t) (i : Nat) : w.frozen? ⟨G0, i, none⟩ = false := by simp [World.frozen?, h.b0]
def zI : Array Value := #[.int .i64 0, .int .i64 0, .string ⟨#[]⟩, .string ⟨#[]⟩, .int .i64 0, .int .i64 0, .bool false, .slice none 0 0]
theorem Itm.start {w : World} {B R : Nat} {s : St} {v : Value} (h : Rdr w B R s v) (z xs : Array Value) (t : TypeId) :
    Itm w ((w.alloc (.cells z t)).alloc (.cells xs t)) B R w.heap.size (w.heap.size + 1) s v z xs t := by
  have B1 : Below w.heap.size w (w.alloc (.cells z t)) := (Below.refl _ _).alloc (Nat.le_refl _) _
  have hz : (w.alloc (.cells z t)).heap.size = w.heap.size + 1 := by simp
  have B2 : Below w.heap.size w ((w.alloc (.cells z t)).alloc (.cells xs t)) := B1.alloc (by omega) _
  refine ⟨h.on B2, Bt.below B2, ?_, ?_, Nat.le_refl _, by omega, by omega, h.in⟩
  · rw [heap_alloc_old _ _ (by omega), heap_alloc_new]
  · rw [← hz, heap_alloc_new]

theorem Itm.set0 {w0 w : World} {B R G0 G1 : Nat} {s : St} {v : Value} {z xs : Array Value} {t : TypeId} (h : Itm w0 w B R G0 G1 s v z xs t) (i : Nat) (u : Value) : Itm w0 (w.setCell ⟨G0, i, none⟩ u) B R G0 G1 s v (z.setIfInBounds i u) xs t := by
  have q1 := h.n0
  have q2 := h.rin
  exact ⟨h.r.far (by simp only; omega) u, bt_new h.bt h.n0 u, heap_setCell_same _ _ _ _ _ _ h.b0, by rw [Below.heap_setCell _ _ _ _ (fun e => h.ne e.symm)]; exact h.b1, h.n0, h.n1, h.ne, h.rin⟩
def set8 (w : World) (G : Nat) (y0 y1 y2 y3 y4 y5 y6 y7 : Value) : World :=
  (((((((w.setCell ⟨G, 0, none⟩ y0).setCell ⟨G, 1, none⟩ y1).setCell ⟨G, 2, none⟩ y2).setCell ⟨G, 3, none⟩ y3).setCell ⟨G, 4, none⟩ y4).setCell ⟨G, 5, none⟩ y5).setCell ⟨G, 6, none⟩ y6).setCell ⟨G, 7, none⟩ y7
theorem Itm.store8 {w0 w : World} {B R G0 G1 : Nat} {s : St} {v : Value} {a0 a1 a2 a3 a4 a5 a6 a7 : Value} {xs : Array Value} {t : TypeId} (h : Itm w0 w B R G0 G1 s v #[a0, a1, a2, a3, a4, a5, a6, a7] xs t) (y0 y1 y2 y3 y4 y5 y6 y7 : Value) :
    Itm w0 (set8 w G0 y0 y1 y2 y3 y4 y5 y6 y7) B R G0 G1 s v #[y0, y1, y2, y3, y4, y5, y6, y7] xs t := by
  unfold set8
  have h0 := h.set0 0 y0
  rw [show (#[a0, a1, a2, a3, a4, a5, a6, a7] : Array Value).setIfInBounds 0 y0 = #[y0, a1, a2, a3, a4, a5, a6, a7] from rfl] at h0
  have h1 := h0.set0 1 y1
  rw [show (#[y0, a1, a2, a3, a4, a5, a6, a7] : Array Value).setIfInBounds 1 y1 = #[y0, y1, a2, a3, a4, a5, a6, a7] from rfl] at h1
  have h2 := h1.set0 2 y2
  rw [show (#[y0, y1, a2, a3, a4, a5, a6, a7] : Array Value).setIfInBounds 2 y2 = #[y0, y1, y2, a3, a4, a5, a6, a7] from rfl] at h2
  have h3 := h2.set0 3 y3
  rw [show (#[y0, y1, y2, a3, a4, a5, a6, a7] : Array Value).setIfInBounds 3 y3 = #[y0, y1, y2, y3, a4, a5, a6, a7] from rfl] at h3
  have h4 := h3.set0 4 y4
  rw [show (#[y0, y1, y2, y3, a4, a5, a6, a7] : Array Value).setIfInBounds 4 y4 = #[y0, y1, y2, y3, y4, a5, a6, a7] from rfl] at h4
  have h5 := h4.set0 5 y5
  rw [show (#[y0, y1, y2, y3, y4, a5, a6, a7] : Array Value).setIfInBounds 5 y5 = #[y0, y1, y2, y3, y4, y5, a6, a7] from rfl] at h5
  have h6 := h5.set0 6 y6
  rw [show (#[y0, y1, y2, y3, y4, y5, a6, a7] : Array Value).setIfInBounds 6 y6 = #[y0, y1, y2, y3, y4, y5, y6, a7] from rfl] at h6
  have h7 := h6.set0 7 y7
  rw [show (#[y0, y1, y2, y3, y4, y5, y6, a7] : Array Value).setIfInBounds 7 y7 = #[y0, y1, y2, y3, y4, y5, y6, y7] from rfl] at h7
  exact h7
theorem set8_block (w : World) (G : Nat) (y0 y1 y2 y3 y4 y5 y6 y7 : Value) (k : Nat) (h : k ≠ G) : (set8 w G y0 y1 y2 y3 y4 y5 y6 y7).heap[k]? = w.heap[k]? := by
  unfold set8
  repeat rw [Below.heap_setCell _ _ _ _ h]

set_option maxHeartbeats 1600000 in
set_option maxRecDepth 100000 in
theorem item_zero : ItemC 0 := by
  intro w B R s v h
  have HI : Hid (Itm w ((w.alloc (.cells zI 33)).alloc (.cells zI 33)) B R w.heap.size (w.heap.size + 1) s v zI zI 33) := Itm.start h zI zI 33
  unfold zI at HI
  clear h
  have e : (61 : Int) - ((0 : Nat) : Int) = 61 := rfl
  rw [e]
  clear e
  have hz : (w.alloc (.cells zI 33)).heap.size = w.heap.size + 1 := by simp
  unfold zI at hz
  go_enter Tryd.func22, Tryd.ntmps22
  go_upto_region 3 with fail
  generalize (w.alloc (.cells #[.int .i64 0, .int .i64 0, .string ⟨#[]⟩, .string ⟨#[]⟩, .int .i64 0, .int .i64 0, .bool false, .slice none 0 0] 33)).alloc (.cells #[.int .i64 0, .int .i64 0, .string ⟨#[]⟩, .string ⟨#[]⟩, .int .i64 0, .int .i64 0, .bool false, .slice none 0 0] 33) = w1 at *
  clear hz
  generalize w.heap.size = G0 at *
  generalize G0 + 1 = G1 at *
  have C := yfail HI.out.r
  go_upto_region 4 with (go_at_call 31; refine C.mono ?_; clear C; rintro e w2 ⟨rfl, hr2, hb2⟩)
  have HI2 : Hid (Itm w w2 B R G0 G1 failS (.slice none 0 0) #[.int .i64 0, .int .i64 0, .string ⟨#[]⟩, .string ⟨#[]⟩, .int .i64 0, .int .i64 0, .bool false, .slice none 0 0] #[.int .i64 0, .int .i64 0, .string ⟨#[]⟩, .string ⟨#[]⟩, .int .i64 0, .int .i64 0, .bool false, .slice none 0 0] 33) := HI.out.call hr2 hb2
  have c0 := HI2.out.c1 0
  have c1 := HI2.out.c1 1
  have c2 := HI2.out.c1 2
  have c3 := HI2.out.c1 3
  have c4 := HI2.out.c1 4
  have c5 := HI2.out.c1 5
  have c6 := HI2.out.c1 6
  have c7 := HI2.out.c1 7
  have d0 := HI2.out.c0 0
  have d1 := HI2.out.c0 1
  have d2 := HI2.out.c0 2
  have d3 := HI2.out.c0 3
  have d4 := HI2.out.c0 4
  have d5 := HI2.out.c0 5
  have d6 := HI2.out.c0 6
  have d7 := HI2.out.c0 7
  have f0 := HI2.out.f0 0
  have f1 := HI2.out.f0 1
  have f2 := HI2.out.f0 2
  have f3 := HI2.out.f0 3
  have f4 := HI2.out.f0 4
  have f5 := HI2.out.f0 5
  have f6 := HI2.out.f0 6
  have f7 := HI2.out.f0 7
  have HI3 : Hid _ := HI2.out.store8 (.int .i64 0) (.int .i64 0) (.string ⟨#[]⟩) (.string ⟨#[]⟩) (.int .i64 0) (.int .i64 0) (.bool false) (.slice none 0 0)
  clear hr2 hb2 HI HI2
  go_wp2_with fail
  change bodyPost _ _ _ _ _ (set8 w2 G0 (.int .i64 0) (.int .i64 0) (.string ⟨#[]⟩) (.string ⟨#[]⟩) (.int .i64 0) (.int .i64 0) (.bool false) (.slice none 0 0))
  generalize set8 w2 G0 (.int .i64 0) (.int .i64 0) (.string ⟨#[]⟩) (.string ⟨#[]⟩) (.int .i64 0) (.int .i64 0) (.bool false) (.slice none 0 0) = w3 at *
  have r0 := HI3.out.c0 0
  have r1 := HI3.out.c0 1
  have r2 := HI3.out.c0 2
  have r3 := HI3.out.c0 3
  have r4 := HI3.out.c0 4
  have r5 := HI3.out.c0 5
  have r6 := HI3.out.c0 6
  have r7 := HI3.out.c0 7
  simp only [List.getElem?_toArray, List.getElem?_cons_zero, List.getElem?_cons_succ] at r0 r1 r2 r3 r4 r5 r6 r7
  refine bodyPost_ret (v := .agg #[.int .i64 0, .int .i64 0, .string ⟨#[]⟩, .string ⟨#[]⟩, .int .i64 0, .int .i64 0, .bool false, .slice none 0 0]) (by simp [results, Tryd.results22, go_sem, r0, r1, r2, r3, r4, r5, r6, r7]) rfl ⟨.slice none 0 0, .slice none 0 0, rfl, IzsAt.nil _ _, HI3.out.r, HI3.out.bt⟩
end Go.Proofs.YtpnineimnjibaafDoor

/-
  THE WALK of the reader's item, one step deeper.
-/
namespace Go.Proofs.YtpnineimnjibaafDoor
open Go.RowKit Go.Lib

set_option maxHeartbeats 3200000 in
set_option maxRecDepth 100000 in
theorem item_succ {d : Nat} (hd : d + 1 ≤ 61) (HI : ItemC d) : ItemC (d + 1) := by
  intro w B R s v h
  have HI0 : Hid (Itm w ((w.alloc (.cells zI 33)).alloc (.cells zI 33)) B R w.heap.size (w.heap.size + 1) s v zI zI 33) := Itm.start h zI zI 33
  unfold zI at HI0
  clear h
  have HIT : Hid (∀ (w : World) (B R : Nat) (s : St) (v : Value), Rdr w B R s v → Calls Tryd.prog 34 #[.pointer (some ⟨R, 0, none⟩), .int .i64 (61 - (d : Int))] w fun e w' => ∃ kv v', e = .returned kv ∧ IzsAt w' (fun g => w.heap.size ≤ g) kv (itemsF (itemF d) s).1 ∧ Rdr w' B R (itemsF (itemF d) s).2 v' ∧ Bt [R] w w') :=
    fun w B R s v h => yitems (by omega) HI h
  obtain ⟨av, hav⟩ : ∃ av : Int, av = 61 - ((d + 1 : Nat) : Int) := ⟨_, rfl⟩
  have ha : (61 : Int) - (d : Int) = av + 1 := by omega
  have h60 : av ≤ 60 := by omega
  have h0 : 0 ≤ av := by omega
  rw [ha] at HIT
  rw [← hav]
  have HF : Hid (itemF (d + 1) s = (let p0 := numF s
    let p1 := numF p0.2
    let p2 := numF p1.2
    let p3 := numF p2.2
    let p4 := flagF p3.2
    let p5 := textF p4.2
    let p6 := textF p5.2
    let p7 := itemsF (itemF d) p6.2
    (.mk p0.1 p1.1 p5.1 p6.1 p2.1 p3.1 p4.1 p7.1, p7.2))) := rfl
  generalize itemF (d + 1) s = res at *
  clear hav ha HI hd
  have hz : (w.alloc (.cells zI 33)).heap.size = w.heap.size + 1 := by simp
  unfold zI at hz
  go_enter Tryd.func22, Tryd.ntmps22
  go_upto_region 5 with fail
  generalize (w.alloc (.cells #[.int .i64 0, .int .i64 0, .string ⟨#[]⟩, .string ⟨#[]⟩, .int .i64 0, .int .i64 0, .bool false, .slice none 0 0] 33)).alloc (.cells #[.int .i64 0, .int .i64 0, .string ⟨#[]⟩, .string ⟨#[]⟩, .int .i64 0, .int .i64 0, .bool false, .slice none 0 0] 33) = w1 at *
  clear hz
  generalize hG : w.heap.size = G0 at *
  have HG : Hid (w.heap.size = G0) := hG
  clear hG
  generalize G0 + 1 = G1 at *
  have C := ynumber HI0.out.r
  generalize hq : numF s = q at C
  have HQ0 : Hid (numF s = q) := hq
  clear hq
  obtain ⟨a0, s1⟩ := q
  simp only at C
  go_upto_region 6 with (go_at_call 21; refine C.mono ?_; clear C; rintro e wa ⟨va, rfl, hr, hb⟩; have hi := HI0.out.call hr hb; have cc : wa.cell? ⟨G1, 0, none⟩ = some (.int .i64 0) := hi.c1 0; have ff := hi.f1 0)
  have hi2 := hi.set 0 (.int .i64 a0)
  rw [show (#[.int .i64 0, .int .i64 0, .string ⟨#[]⟩, .string ⟨#[]⟩, .int .i64 0, .int .i64 0, .bool false, .slice none 0 0] : Array Value).setIfInBounds 0 (.int .i64 a0) = #[.int .i64 a0, .int .i64 0, .string ⟨#[]⟩, .string ⟨#[]⟩, .int .i64 0, .int .i64 0, .bool false, .slice none 0 0] from rfl] at hi2
  have HI1 : Hid _ := hi2
  clear hi2 hi hr hb cc ff HI0
  generalize wa.setCell ⟨G1, 0, none⟩ (.int .i64 a0) = w2 at *
  have C := ynumber HI1.out.r
  generalize hq : numF s1 = q at C
  have HQ1 : Hid (numF s1 = q) := hq
  clear hq
  obtain ⟨a1, s2⟩ := q
  simp only at C
  go_upto_region 7 with (go_at_call 21; refine C.mono ?_; clear C; rintro e wa ⟨va, rfl, hr, hb⟩; have hi := HI1.out.call hr hb; have cc : wa.cell? ⟨G1, 1, none⟩ = some (.int .i64 0) := hi.c1 1; have ff := hi.f1 1)
  have hi2 := hi.set 1 (.int .i64 a1)
  rw [show (#[.int .i64 a0, .int .i64 0, .string ⟨#[]⟩, .string ⟨#[]⟩, .int .i64 0, .int .i64 0, .bool false, .slice none 0 0] : Array Value).setIfInBounds 1 (.int .i64 a1) = #[.int .i64 a0, .int .i64 a1, .string ⟨#[]⟩, .string ⟨#[]⟩, .int .i64 0, .int .i64 0, .bool false, .slice none 0 0] from rfl] at hi2
  have HI2 : Hid _ := hi2
  clear hi2 hi hr hb cc ff HI1
  generalize wa.setCell ⟨G1, 1, none⟩ (.int .i64 a1) = w3 at *
  have C := ynumber HI2.out.r
  generalize hq : numF s2 = q at C
  have HQ2 : Hid (numF s2 = q) := hq
  clear hq
  obtain ⟨a4, s3⟩ := q
  simp only at C
  go_upto_region 8 with (go_at_call 21; refine C.mono ?_; clear C; rintro e wa ⟨va, rfl, hr, hb⟩; have hi := HI2.out.call hr hb; have cc : wa.cell? ⟨G1, 4, none⟩ = some (.int .i64 0) := hi.c1 4; have ff := hi.f1 4)
  have hi2 := hi.set 4 (.int .i64 a4)
  rw [show (#[.int .i64 a0, .int .i64 a1, .string ⟨#[]⟩, .string ⟨#[]⟩, .int .i64 0, .int .i64 0, .bool false, .slice none 0 0] : Array Value).setIfInBounds 4 (.int .i64 a4) = #[.int .i64 a0, .int .i64 a1, .string ⟨#[]⟩, .string ⟨#[]⟩, .int .i64 a4, .int .i64 0, .bool false, .slice none 0 0] from rfl] at hi2
  have HI3 : Hid _ := hi2
  clear hi2 hi hr hb cc ff HI2
  generalize wa.setCell ⟨G1, 4, none⟩ (.int .i64 a4) = w4 at *
  have C := ynumber HI3.out.r
  generalize hq : numF s3 = q at C
  have HQ3 : Hid (numF s3 = q) := hq
  clear hq
  obtain ⟨a5, s4⟩ := q
  simp only at C
  go_upto_region 9 with (go_at_call 21; refine C.mono ?_; clear C; rintro e wa ⟨va, rfl, hr, hb⟩; have hi := HI3.out.call hr hb; have cc : wa.cell? ⟨G1, 5, none⟩ = some (.int .i64 0) := hi.c1 5; have ff := hi.f1 5)
  have hi2 := hi.set 5 (.int .i64 a5)
  rw [show (#[.int .i64 a0, .int .i64 a1, .string ⟨#[]⟩, .string ⟨#[]⟩, .int .i64 a4, .int .i64 0, .bool false, .slice none 0 0] : Array Value).setIfInBounds 5 (.int .i64 a5) = #[.int .i64 a0, .int .i64 a1, .string ⟨#[]⟩, .string ⟨#[]⟩, .int .i64 a4, .int .i64 a5, .bool false, .slice none 0 0] from rfl] at hi2
  have HI4 : Hid _ := hi2
  clear hi2 hi hr hb cc ff HI3
  generalize wa.setCell ⟨G1, 5, none⟩ (.int .i64 a5) = w5 at *
  have C := yflagr HI4.out.r
  generalize hq : flagF s4 = q at C
  have HQ4 : Hid (flagF s4 = q) := hq
  clear hq
  obtain ⟨a6, s5⟩ := q
  simp only at C
  go_upto_region 10 with (go_at_call 32; refine C.mono ?_; clear C; rintro e wa ⟨va, rfl, hr, hb⟩; have hi := HI4.out.call hr hb; have cc : wa.cell? ⟨G1, 6, none⟩ = some (.bool false) := hi.c1 6; have ff := hi.f1 6)
  have hi2 := hi.set 6 (.bool a6)
  rw [show (#[.int .i64 a0, .int .i64 a1, .string ⟨#[]⟩, .string ⟨#[]⟩, .int .i64 a4, .int .i64 a5, .bool false, .slice none 0 0] : Array Value).setIfInBounds 6 (.bool a6) = #[.int .i64 a0, .int .i64 a1, .string ⟨#[]⟩, .string ⟨#[]⟩, .int .i64 a4, .int .i64 a5, .bool a6, .slice none 0 0] from rfl] at hi2
  have HI5 : Hid _ := hi2
  clear hi2 hi hr hb cc ff HI4
  generalize wa.setCell ⟨G1, 6, none⟩ (.bool a6) = w6 at *
  have C := ytext HI5.out.r
  generalize hq : textF s5 = q at C
  have HQ5 : Hid (textF s5 = q) := hq
  clear hq
  obtain ⟨a2, s6⟩ := q
  simp only at C
  go_upto_region 11 with (go_at_call 33; refine C.mono ?_; clear C; rintro e wa ⟨va, rfl, hr, hb⟩; have hi := HI5.out.call hr hb; have cc : wa.cell? ⟨G1, 2, none⟩ = some (.string ⟨#[]⟩) := hi.c1 2; have ff := hi.f1 2)
  have hi2 := hi.set 2 (.string a2)
  rw [show (#[.int .i64 a0, .int .i64 a1, .string ⟨#[]⟩, .string ⟨#[]⟩, .int .i64 a4, .int .i64 a5, .bool a6, .slice none 0 0] : Array Value).setIfInBounds 2 (.string a2) = #[.int .i64 a0, .int .i64 a1, .string a2, .string ⟨#[]⟩, .int .i64 a4, .int .i64 a5, .bool a6, .slice none 0 0] from rfl] at hi2
  have HI6 : Hid _ := hi2
  clear hi2 hi hr hb cc ff HI5
  generalize wa.setCell ⟨G1, 2, none⟩ (.string a2) = w7 at *
  have C := ytext HI6.out.r
  generalize hq : textF s6 = q at C
  have HQ6 : Hid (textF s6 = q) := hq
  clear hq
  obtain ⟨a3, s7⟩ := q
  simp only at C
  go_upto_region 12 with (go_at_call 33; refine C.mono ?_; clear C; rintro e wa ⟨va, rfl, hr, hb⟩; have hi := HI6.out.call hr hb; have cc : wa.cell? ⟨G1, 3, none⟩ = some (.string ⟨#[]⟩) := hi.c1 3; have ff := hi.f1 3)
  have hi2 := hi.set 3 (.string a3)
  rw [show (#[.int .i64 a0, .int .i64 a1, .string a2, .string ⟨#[]⟩, .int .i64 a4, .int .i64 a5, .bool a6, .slice none 0 0] : Array Value).setIfInBounds 3 (.string a3) = #[.int .i64 a0, .int .i64 a1, .string a2, .string a3, .int .i64 a4, .int .i64 a5, .bool a6, .slice none 0 0] from rfl] at hi2
  have HI7 : Hid _ := hi2
  clear hi2 hi hr hb cc ff HI6
  generalize wa.setCell ⟨G1, 3, none⟩ (.string a3) = w8 at *
  have C := HIT.out _ _ _ _ _ HI7.out.r
  generalize hq : itemsF (itemF d) s7 = q at C
  have HQ7 : Hid (itemsF (itemF d) s7 = q) := hq
  clear hq
  obtain ⟨ks, s8⟩ := q
  simp only at C
  have HLT : Hid (G0 < w8.heap.size ∧ G1 < w8.heap.size) := ⟨(Array.getElem?_eq_some_iff.1 HI7.out.b0).1, (Array.getElem?_eq_some_iff.1 HI7.out.b1).1⟩
  have HWZ : Hid (w.heap.size ≤ w8.heap.size) := HI7.out.bt.size
  go_upto_region 13 with (go_at_call 34; refine C.mono ?_; clear C; rintro e wa ⟨kv, va, rfl, hk, hr, hb⟩; have hi := HI7.out.call hr hb; have cc : wa.cell? ⟨G1, 7, none⟩ = some (.slice none 0 0) := hi.c1 7; have ff := hi.f1 7; obtain ⟨pk, ck, ekv⟩ := hk.shape; subst ekv)
  have hi2 := hi.set 7 (.slice pk ks.length ck)
  rw [show (#[.int .i64 a0, .int .i64 a1, .string a2, .string a3, .int .i64 a4, .int .i64 a5, .bool a6, .slice none 0 0] : Array Value).setIfInBounds 7 (.slice pk ks.length ck) = #[.int .i64 a0, .int .i64 a1, .string a2, .string a3, .int .i64 a4, .int .i64 a5, .bool a6, .slice pk ks.length ck] from rfl] at hi2
  have HK : Hid (IzsAt (wa.setCell ⟨G1, 7, none⟩ (.slice pk ks.length ck)) (fun g => w8.heap.size ≤ g) (.slice pk ks.length ck) ks) := hk.frame (fun g hg _ => ⟨Below.heap_setCell _ _ _ _ (by have := HLT.out.2; simp only; omega), hg⟩)
  have HI8 : Hid _ := hi2
  clear hi2 hi hr hb cc ff HI7 hk
  generalize wa.setCell ⟨G1, 7, none⟩ (.slice pk ks.length ck) = w9 at *
  generalize ks.length = kl at *
  have c0 : w9.cell? ⟨G1, 0, none⟩ = some (.int .i64 a0) := HI8.out.c1 0
  have c1 : w9.cell? ⟨G1, 1, none⟩ = some (.int .i64 a1) := HI8.out.c1 1
  have c2 : w9.cell? ⟨G1, 2, none⟩ = some (.string a2) := HI8.out.c1 2
  have c3 : w9.cell? ⟨G1, 3, none⟩ = some (.string a3) := HI8.out.c1 3
  have c4 : w9.cell? ⟨G1, 4, none⟩ = some (.int .i64 a4) := HI8.out.c1 4
  have c5 : w9.cell? ⟨G1, 5, none⟩ = some (.int .i64 a5) := HI8.out.c1 5
  have c6 : w9.cell? ⟨G1, 6, none⟩ = some (.bool a6) := HI8.out.c1 6
  have c7 : w9.cell? ⟨G1, 7, none⟩ = some (.slice pk kl ck) := HI8.out.c1 7
  have d0 : w9.cell? ⟨G0, 0, none⟩ = some (.int .i64 0) := HI8.out.c0 0
  have d1 : w9.cell? ⟨G0, 1, none⟩ = some (.int .i64 0) := HI8.out.c0 1
  have d2 : w9.cell? ⟨G0, 2, none⟩ = some (.string ⟨#[]⟩) := HI8.out.c0 2
  have d3 : w9.cell? ⟨G0, 3, none⟩ = some (.string ⟨#[]⟩) := HI8.out.c0 3
  have d4 : w9.cell? ⟨G0, 4, none⟩ = some (.int .i64 0) := HI8.out.c0 4
  have d5 : w9.cell? ⟨G0, 5, none⟩ = some (.int .i64 0) := HI8.out.c0 5
  have d6 : w9.cell? ⟨G0, 6, none⟩ = some (.bool false) := HI8.out.c0 6
  have d7 : w9.cell? ⟨G0, 7, none⟩ = some (.slice none 0 0) := HI8.out.c0 7
  have f0 := HI8.out.f0 0
  have f1 := HI8.out.f0 1
  have f2 := HI8.out.f0 2
  have f3 := HI8.out.f0 3
  have f4 := HI8.out.f0 4
  have f5 := HI8.out.f0 5
  have f6 := HI8.out.f0 6
  have f7 := HI8.out.f0 7
  have HI9 : Hid _ := HI8.out.store8 (.int .i64 a0) (.int .i64 a1) (.string a2) (.string a3) (.int .i64 a4) (.int .i64 a5) (.bool a6) (.slice pk kl ck)
  have HK9 : Hid (IzsAt (set8 w9 G0 (.int .i64 a0) (.int .i64 a1) (.string a2) (.string a3) (.int .i64 a4) (.int .i64 a5) (.bool a6) (.slice pk kl ck)) (fun g => w.heap.size ≤ g) (.slice pk kl ck) ks) := HK.out.frame (fun g hg _ => ⟨set8_block _ _ _ _ _ _ _ _ _ _ _ (by have := HLT.out.1; omega), by have := HWZ.out; omega⟩)
  clear HI8 HK
  go_wp2_with fail
  change bodyPost _ _ _ _ _ (set8 w9 G0 (.int .i64 a0) (.int .i64 a1) (.string a2) (.string a3) (.int .i64 a4) (.int .i64 a5) (.bool a6) (.slice pk kl ck))
  generalize set8 w9 G0 (.int .i64 a0) (.int .i64 a1) (.string a2) (.string a3) (.int .i64 a4) (.int .i64 a5) (.bool a6) (.slice pk kl ck) = w9 at *
  have r0 := HI9.out.c0 0
  have r1 := HI9.out.c0 1
  have r2 := HI9.out.c0 2
  have r3 := HI9.out.c0 3
  have r4 := HI9.out.c0 4
  have r5 := HI9.out.c0 5
  have r6 := HI9.out.c0 6
  have r7 := HI9.out.c0 7
  simp only [List.getElem?_toArray, List.getElem?_cons_zero, List.getElem?_cons_succ] at r0 r1 r2 r3 r4 r5 r6 r7
  have HE : res = (.mk a0 a1 a2 a3 a4 a5 a6 ks, s8) := by
    rw [HF.out]
    simp only [HQ0.out, HQ1.out, HQ2.out, HQ3.out, HQ4.out, HQ5.out, HQ6.out, HQ7.out]
  rw [HE]
  refine bodyPost_ret (v := .agg #[.int .i64 a0, .int .i64 a1, .string a2, .string a3, .int .i64 a4, .int .i64 a5, .bool a6, .slice pk kl ck]) (by simp [results, Tryd.results22, go_sem, r0, r1, r2, r3, r4, r5, r6, r7]) rfl ⟨.slice pk kl ck, _, rfl, HK9.out, HI9.out.r, HI9.out.bt⟩

theorem item_any : ∀ d : Nat, d ≤ 61 → ItemC d
  | 0, _ => item_zero
  | d + 1, h => item_succ h (item_any d (by omega))
end Go.Proofs.YtpnineimnjibaafDoor

/-
  THE WALK of the reader's event.
-/
namespace Go.Proofs.YtpnineimnjibaafDoor
open Go.RowKit Go.Lib

/-- cells, one behind the other -/
def setL (w : World) (G : Nat) : Nat → List Value → World
  | _, [] => w
  | o, y :: ys => setL (w.setCell ⟨G, o, none⟩ y) G (o + 1) ys
def setA (z : Array Value) : Nat → List Value → Array Value
  | _, [] => z
  | o, y :: ys => setA (z.setIfInBounds o y) (o + 1) ys
theorem Itm.setL1 {w0 : World} {B R G0 G1 : Nat} {s : St} {v : Value} {z : Array Value} {t : TypeId} : ∀ (ys : List Value) (o : Nat) {w : World} {xs : Array Value}, Itm w0 w B R G0 G1 s v z xs t → Itm w0 (setL w G1 o ys) B R G0 G1 s v z (setA xs o ys) t
  | [], _, _, _, h => h
  | y :: ys, o, _, _, h => Itm.setL1 ys (o + 1) (h.set o y)
theorem Itm.setL0 {w0 : World} {B R G0 G1 : Nat} {s : St} {v : Value} {xs : Array Value} {t : TypeId} : ∀ (ys : List Value) (o : Nat) {w : World} {z : Array Value}, Itm w0 w B R G0 G1 s v z xs t → Itm w0 (setL w G0 o ys) B R G0 G1 s v (setA z o ys) xs t
  | [], _, _, _, h => h
  | y :: ys, o, _, _, h => Itm.setL0 ys (o + 1) (h.set0 o y)
theorem setL_block (G k : Nat) (h : k ≠ G) : ∀ (ys : List Value) (o : Nat) (w : World), (setL w G o ys).heap[k]? = w.heap[k]?
  | [], _, _ => rfl
  | y :: ys, o, w => by rw [setL, setL_block G k h ys (o + 1), Below.heap_setCell _ _ _ _ h]
/-- an event by value -/
def evV (e : Ez) (kv : Value) : Value := .agg #[.int .i64 e.kind, .int .i64 e.node, .int .i64 e.tgt, .int .i64 e.at_, .int .i64 e.item.node, .int .i64 e.item.role, .string e.item.name, .string e.item.about, .int .i64 e.item.level, .int .i64 e.item.checked, .bool e.item.off, kv]
def zE : Array Value := #[.int .i64 0, .int .i64 0, .int .i64 0, .int .i64 0, .int .i64 0, .int .i64 0, .string ⟨#[]⟩, .string ⟨#[]⟩, .int .i64 0, .int .i64 0, .bool false, .slice none 0 0]

set_option maxHeartbeats 3200000 in
set_option maxRecDepth 100000 in
theorem yevent {w : World} {B R : Nat} {s : St} {v : Value} (h : Rdr w B R s v) :
    Calls Tryd.prog 13 #[.pointer (some ⟨R, 0, none⟩)] w fun e w' => ∃ kv v', e = .returned (evV (eventF s).1 kv) ∧ IzsAt w' (fun g => w.heap.size ≤ g) kv (eventF s).1.item.kids ∧ Rdr w' B R (eventF s).2 v' ∧ Bt [R] w w' := by
  have HI0 : Hid (Itm w ((w.alloc (.cells zE 35)).alloc (.cells zE 35)) B R w.heap.size (w.heap.size + 1) s v zE zE 35) := Itm.start h zE zE 35
  unfold zE at HI0
  clear h
  have HIT : Hid (∀ (w : World) (B R : Nat) (s : St) (v : Value), Rdr w B R s v → Calls Tryd.prog 22 #[.pointer (some ⟨R, 0, none⟩), .int .i64 0] w fun e w' => ∃ kv v', e = .returned (itV (itemF 61 s).1 kv) ∧ IzsAt w' (fun g => w.heap.size ≤ g) kv (itemF 61 s).1.kids ∧ Rdr w' B R (itemF 61 s).2 v' ∧ Bt [R] w w') :=
    fun w B R s v h => item_any 61 (Nat.le_refl _) w B R s v h
  have HF : Hid (eventF s = (let p0 := numF s
    let p1 := numF p0.2
    let p2 := numF p1.2
    let p3 := numF p2.2
    let p4 := itemF 61 p3.2
    (⟨p0.1, p1.1, p2.1, p3.1, p4.1⟩, p4.2))) := rfl
  generalize eventF s = res at *
  have hz : (w.alloc (.cells zE 35)).heap.size = w.heap.size + 1 := by simp
  unfold zE at hz
  go_enter Tryd.func13, Tryd.ntmps13
  go_upto_region 2 with fail
  generalize (w.alloc (.cells #[.int .i64 0, .int .i64 0, .int .i64 0, .int .i64 0, .int .i64 0, .int .i64 0, .string ⟨#[]⟩, .string ⟨#[]⟩, .int .i64 0, .int .i64 0, .bool false, .slice none 0 0] 35)).alloc (.cells #[.int .i64 0, .int .i64 0, .int .i64 0, .int .i64 0, .int .i64 0, .int .i64 0, .string ⟨#[]⟩, .string ⟨#[]⟩, .int .i64 0, .int .i64 0, .bool false, .slice none 0 0] 35) = w1 at *
  clear hz
  generalize hG : w.heap.size = G0 at *
  have HG : Hid (w.heap.size = G0) := hG
  clear hG
  generalize G0 + 1 = G1 at *
  have C := ynumber HI0.out.r
  generalize hq : numF s = q at C
  have HQ0 : Hid (numF s = q) := hq
  clear hq
  obtain ⟨z0, s1⟩ := q
  simp only at C
  go_upto_region 3 with (go_at_call 21; refine C.mono ?_; clear C; rintro e wa ⟨va, rfl, hr, hb⟩; have hi := HI0.out.call hr hb; have cc : wa.cell? ⟨G1, 0, none⟩ = some (.int .i64 0) := hi.c1 0; have ff := hi.f1 0)
  have hi2 := hi.set 0 (.int .i64 z0)
  rw [show (#[.int .i64 0, .int .i64 0, .int .i64 0, .int .i64 0, .int .i64 0, .int .i64 0, .string ⟨#[]⟩, .string ⟨#[]⟩, .int .i64 0, .int .i64 0, .bool false, .slice none 0 0] : Array Value).setIfInBounds 0 (.int .i64 z0) = #[.int .i64 z0, .int .i64 0, .int .i64 0, .int .i64 0, .int .i64 0, .int .i64 0, .string ⟨#[]⟩, .string ⟨#[]⟩, .int .i64 0, .int .i64 0, .bool false, .slice none 0 0] from rfl] at hi2
  have HI1 : Hid _ := hi2
  clear hi2 hi hr hb cc ff HI0
  generalize wa.setCell ⟨G1, 0, none⟩ (.int .i64 z0) = w2 at *
  have C := ynumber HI1.out.r
  generalize hq : numF s1 = q at C
  have HQ1 : Hid (numF s1 = q) := hq
  clear hq
  obtain ⟨z1, s2⟩ := q
  simp only at C
  go_upto_region 4 with (go_at_call 21; refine C.mono ?_; clear C; rintro e wa ⟨va, rfl, hr, hb⟩; have hi := HI1.out.call hr hb; have cc : wa.cell? ⟨G1, 1, none⟩ = some (.int .i64 0) := hi.c1 1; have ff := hi.f1 1)
  have hi2 := hi.set 1 (.int .i64 z1)
  rw [show (#[.int .i64 z0, .int .i64 0, .int .i64 0, .int .i64 0, .int .i64 0, .int .i64 0, .string ⟨#[]⟩, .string ⟨#[]⟩, .int .i64 0, .int .i64 0, .bool false, .slice none 0 0] : Array Value).setIfInBounds 1 (.int .i64 z1) = #[.int .i64 z0, .int .i64 z1, .int .i64 0, .int .i64 0, .int .i64 0, .int .i64 0, .string ⟨#[]⟩, .string ⟨#[]⟩, .int .i64 0, .int .i64 0, .bool false, .slice none 0 0] from rfl] at hi2
  have HI2 : Hid _ := hi2
  clear hi2 hi hr hb cc ff HI1
  generalize wa.setCell ⟨G1, 1, none⟩ (.int .i64 z1) = w3 at *
  have C := ynumber HI2.out.r
  generalize hq : numF s2 = q at C
  have HQ2 : Hid (numF s2 = q) := hq
  clear hq
  obtain ⟨z2, s3⟩ := q
  simp only at C
  go_upto_region 5 with (go_at_call 21; refine C.mono ?_; clear C; rintro e wa ⟨va, rfl, hr, hb⟩; have hi := HI2.out.call hr hb; have cc : wa.cell? ⟨G1, 2, none⟩ = some (.int .i64 0) := hi.c1 2; have ff := hi.f1 2)
  have hi2 := hi.set 2 (.int .i64 z2)
  rw [show (#[.int .i64 z0, .int .i64 z1, .int .i64 0, .int .i64 0, .int .i64 0, .int .i64 0, .string ⟨#[]⟩, .string ⟨#[]⟩, .int .i64 0, .int .i64 0, .bool false, .slice none 0 0] : Array Value).setIfInBounds 2 (.int .i64 z2) = #[.int .i64 z0, .int .i64 z1, .int .i64 z2, .int .i64 0, .int .i64 0, .int .i64 0, .string ⟨#[]⟩, .string ⟨#[]⟩, .int .i64 0, .int .i64 0, .bool false, .slice none 0 0] from rfl] at hi2
  have HI3 : Hid _ := hi2
  clear hi2 hi hr hb cc ff HI2
  generalize wa.setCell ⟨G1, 2, none⟩ (.int .i64 z2) = w4 at *
  have C := ynumber HI3.out.r
  generalize hq : numF s3 = q at C
  have HQ3 : Hid (numF s3 = q) := hq
  clear hq
  obtain ⟨z3, s4⟩ := q
  simp only at C
  go_upto_region 6 with (go_at_call 21; refine C.mono ?_; clear C; rintro e wa ⟨va, rfl, hr, hb⟩; have hi := HI3.out.call hr hb; have cc : wa.cell? ⟨G1, 3, none⟩ = some (.int .i64 0) := hi.c1 3; have ff := hi.f1 3)
  have hi2 := hi.set 3 (.int .i64 z3)
  rw [show (#[.int .i64 z0, .int .i64 z1, .int .i64 z2, .int .i64 0, .int .i64 0, .int .i64 0, .string ⟨#[]⟩, .string ⟨#[]⟩, .int .i64 0, .int .i64 0, .bool false, .slice none 0 0] : Array Value).setIfInBounds 3 (.int .i64 z3) = #[.int .i64 z0, .int .i64 z1, .int .i64 z2, .int .i64 z3, .int .i64 0, .int .i64 0, .string ⟨#[]⟩, .string ⟨#[]⟩, .int .i64 0, .int .i64 0, .bool false, .slice none 0 0] from rfl] at hi2
  have HI4 : Hid _ := hi2
  clear hi2 hi hr hb cc ff HI3
  generalize wa.setCell ⟨G1, 3, none⟩ (.int .i64 z3) = w5 at *
  have C := HIT.out _ _ _ _ _ HI4.out.r
  generalize hq : itemF 61 s4 = q at C
  have HQ4 : Hid (itemF 61 s4 = q) := hq
  clear hq
  obtain ⟨x, s5⟩ := q
  cases x with
  | mk a0 a1 a2 a3 a4 a5 a6 ks =>
  unfold itV at C
  simp only [Iz.node, Iz.role, Iz.name, Iz.about, Iz.level, Iz.checked, Iz.off, Iz.kids] at C
  have HLT : Hid (G0 < w5.heap.size ∧ G1 < w5.heap.size) := ⟨(Array.getElem?_eq_some_iff.1 HI4.out.b0).1, (Array.getElem?_eq_some_iff.1 HI4.out.b1).1⟩
  have HWZ : Hid (w.heap.size ≤ w5.heap.size) := HI4.out.bt.size
  go_upto_region 7 with (go_at_call 22; refine C.mono ?_; clear C; rintro e wa ⟨kv, va, rfl, hk, hr, hb⟩; have hi := HI4.out.call hr hb; have cc0 : wa.cell? ⟨G1, 4, none⟩ = some (.int .i64 0) := hi.c1 4; have cc1 : wa.cell? ⟨G1, 5, none⟩ = some (.int .i64 0) := hi.c1 5; have cc2 : wa.cell? ⟨G1, 6, none⟩ = some (.string ⟨#[]⟩) := hi.c1 6; have cc3 : wa.cell? ⟨G1, 7, none⟩ = some (.string ⟨#[]⟩) := hi.c1 7; have cc4 : wa.cell? ⟨G1, 8, none⟩ = some (.int .i64 0) := hi.c1 8; have cc5 : wa.cell? ⟨G1, 9, none⟩ = some (.int .i64 0) := hi.c1 9; have cc6 : wa.cell? ⟨G1, 10, none⟩ = some (.bool false) := hi.c1 10; have cc7 : wa.cell? ⟨G1, 11, none⟩ = some (.slice none 0 0) := hi.c1 11; have ff0 := hi.f1 4; have ff1 := hi.f1 5; have ff2 := hi.f1 6; have ff3 := hi.f1 7; have ff4 := hi.f1 8; have ff5 := hi.f1 9; have ff6 := hi.f1 10; have ff7 := hi.f1 11; obtain ⟨pk, ck, ekv⟩ := hk.shape; subst ekv)
  have hi2 := hi.setL1 [.int .i64 a0, .int .i64 a1, .string a2, .string a3, .int .i64 a4, .int .i64 a5, .bool a6, .slice pk ks.length ck] 4
  rw [show setA #[.int .i64 z0, .int .i64 z1, .int .i64 z2, .int .i64 z3, .int .i64 0, .int .i64 0, .string ⟨#[]⟩, .string ⟨#[]⟩, .int .i64 0, .int .i64 0, .bool false, .slice none 0 0] 4 [.int .i64 a0, .int .i64 a1, .string a2, .string a3, .int .i64 a4, .int .i64 a5, .bool a6, .slice pk ks.length ck] = #[.int .i64 z0, .int .i64 z1, .int .i64 z2, .int .i64 z3, .int .i64 a0, .int .i64 a1, .string a2, .string a3, .int .i64 a4, .int .i64 a5, .bool a6, .slice pk ks.length ck] by kernel_rfl] at hi2
  have HK : Hid (IzsAt (setL wa G1 4 [.int .i64 a0, .int .i64 a1, .string a2, .string a3, .int .i64 a4, .int .i64 a5, .bool a6, .slice pk ks.length ck]) (fun g => w5.heap.size ≤ g) (.slice pk ks.length ck) ks) := hk.frame (fun g hg _ => ⟨setL_block _ _ (by have := HLT.out.2; omega) _ _ _, hg⟩)
  have HI5 : Hid _ := hi2
  clear hi2 hi hr hb HI4 hk cc0 ff0 cc1 ff1 cc2 ff2 cc3 ff3 cc4 ff4 cc5 ff5 cc6 ff6 cc7 ff7
  change Code.wp _ _ _ _ (setL wa G1 4 [.int .i64 a0, .int .i64 a1, .string a2, .string a3, .int .i64 a4, .int .i64 a5, .bool a6, .slice pk ks.length ck])
  generalize setL wa G1 4 [.int .i64 a0, .int .i64 a1, .string a2, .string a3, .int .i64 a4, .int .i64 a5, .bool a6, .slice pk ks.length ck] = w6 at *
  generalize ks.length = kl at *
  have c0 : w6.cell? ⟨G1, 0, none⟩ = some (.int .i64 z0) := HI5.out.c1 0
  have c1 : w6.cell? ⟨G1, 1, none⟩ = some (.int .i64 z1) := HI5.out.c1 1
  have c2 : w6.cell? ⟨G1, 2, none⟩ = some (.int .i64 z2) := HI5.out.c1 2
  have c3 : w6.cell? ⟨G1, 3, none⟩ = some (.int .i64 z3) := HI5.out.c1 3
  have c4 : w6.cell? ⟨G1, 4, none⟩ = some (.int .i64 a0) := HI5.out.c1 4
  have c5 : w6.cell? ⟨G1, 5, none⟩ = some (.int .i64 a1) := HI5.out.c1 5
  have c6 : w6.cell? ⟨G1, 6, none⟩ = some (.string a2) := HI5.out.c1 6
  have c7 : w6.cell? ⟨G1, 7, none⟩ = some (.string a3) := HI5.out.c1 7
  have c8 : w6.cell? ⟨G1, 8, none⟩ = some (.int .i64 a4) := HI5.out.c1 8
  have c9 : w6.cell? ⟨G1, 9, none⟩ = some (.int .i64 a5) := HI5.out.c1 9
  have c10 : w6.cell? ⟨G1, 10, none⟩ = some (.bool a6) := HI5.out.c1 10
  have c11 : w6.cell? ⟨G1, 11, none⟩ = some (.slice pk kl ck) := HI5.out.c1 11
  have d0 : w6.cell? ⟨G0, 0, none⟩ = some (.int .i64 0) := HI5.out.c0 0
  have d1 : w6.cell? ⟨G0, 1, none⟩ = some (.int .i64 0) := HI5.out.c0 1
  have d2 : w6.cell? ⟨G0, 2, none⟩ = some (.int .i64 0) := HI5.out.c0 2
  have d3 : w6.cell? ⟨G0, 3, none⟩ = some (.int .i64 0) := HI5.out.c0 3
  have d4 : w6.cell? ⟨G0, 4, none⟩ = some (.int .i64 0) := HI5.out.c0 4
  have d5 : w6.cell? ⟨G0, 5, none⟩ = some (.int .i64 0) := HI5.out.c0 5
  have d6 : w6.cell? ⟨G0, 6, none⟩ = some (.string ⟨#[]⟩) := HI5.out.c0 6
  have d7 : w6.cell? ⟨G0, 7, none⟩ = some (.string ⟨#[]⟩) := HI5.out.c0 7
  have d8 : w6.cell? ⟨G0, 8, none⟩ = some (.int .i64 0) := HI5.out.c0 8
  have d9 : w6.cell? ⟨G0, 9, none⟩ = some (.int .i64 0) := HI5.out.c0 9
  have d10 : w6.cell? ⟨G0, 10, none⟩ = some (.bool false) := HI5.out.c0 10
  have d11 : w6.cell? ⟨G0, 11, none⟩ = some (.slice none 0 0) := HI5.out.c0 11
  have f0 := HI5.out.f0 0
  have f1 := HI5.out.f0 1
  have f2 := HI5.out.f0 2
  have f3 := HI5.out.f0 3
  have f4 := HI5.out.f0 4
  have f5 := HI5.out.f0 5
  have f6 := HI5.out.f0 6
  have f7 := HI5.out.f0 7
  have f8 := HI5.out.f0 8
  have f9 := HI5.out.f0 9
  have f10 := HI5.out.f0 10
  have f11 := HI5.out.f0 11
  have hi9 := HI5.out.setL0 [.int .i64 z0, .int .i64 z1, .int .i64 z2, .int .i64 z3, .int .i64 a0, .int .i64 a1, .string a2, .string a3, .int .i64 a4, .int .i64 a5, .bool a6, .slice pk kl ck] 0
  rw [show setA #[.int .i64 0, .int .i64 0, .int .i64 0, .int .i64 0, .int .i64 0, .int .i64 0, .string ⟨#[]⟩, .string ⟨#[]⟩, .int .i64 0, .int .i64 0, .bool false, .slice none 0 0] 0 [.int .i64 z0, .int .i64 z1, .int .i64 z2, .int .i64 z3, .int .i64 a0, .int .i64 a1, .string a2, .string a3, .int .i64 a4, .int .i64 a5, .bool a6, .slice pk kl ck] = #[.int .i64 z0, .int .i64 z1, .int .i64 z2, .int .i64 z3, .int .i64 a0, .int .i64 a1, .string a2, .string a3, .int .i64 a4, .int .i64 a5, .bool a6, .slice pk kl ck] by kernel_rfl] at hi9
  have HI9 : Hid _ := hi9
  have HK9 : Hid (IzsAt (setL w6 G0 0 [.int .i64 z0, .int .i64 z1, .int .i64 z2, .int .i64 z3, .int .i64 a0, .int .i64 a1, .string a2, .string a3, .int .i64 a4, .int .i64 a5, .bool a6, .slice pk kl ck]) (fun g => w.heap.size ≤ g) (.slice pk kl ck) ks) := HK.out.frame (fun g hg _ => ⟨setL_block _ _ (by have := HLT.out.1; omega) _ _ _, by have := HWZ.out; omega⟩)
  clear HI5 HK hi9
  go_wp2_with fail
  change bodyPost _ _ _ _ _ (setL w6 G0 0 [.int .i64 z0, .int .i64 z1, .int .i64 z2, .int .i64 z3, .int .i64 a0, .int .i64 a1, .string a2, .string a3, .int .i64 a4, .int .i64 a5, .bool a6, .slice pk kl ck])
  generalize setL w6 G0 0 [.int .i64 z0, .int .i64 z1, .int .i64 z2, .int .i64 z3, .int .i64 a0, .int .i64 a1, .string a2, .string a3, .int .i64 a4, .int .i64 a5, .bool a6, .slice pk kl ck] = w9 at *
  have r0 := HI9.out.c0 0
  have r1 := HI9.out.c0 1
  have r2 := HI9.out.c0 2
  have r3 := HI9.out.c0 3
  have r4 := HI9.out.c0 4
  have r5 := HI9.out.c0 5
  have r6 := HI9.out.c0 6
  have r7 := HI9.out.c0 7
  have r8 := HI9.out.c0 8
  have r9 := HI9.out.c0 9
  have r10 := HI9.out.c0 10
  have r11 := HI9.out.c0 11
  simp only [List.getElem?_toArray, List.getElem?_cons_zero, List.getElem?_cons_succ] at r0 r1 r2 r3 r4 r5 r6 r7 r8 r9 r10 r11
  have HE : res = (⟨z0, z1, z2, z3, .mk a0 a1 a2 a3 a4 a5 a6 ks⟩, s5) := by
    rw [HF.out]
    simp only [HQ0.out, HQ1.out, HQ2.out, HQ3.out, HQ4.out]
  rw [HE]
  refine bodyPost_ret (v := .agg #[.int .i64 z0, .int .i64 z1, .int .i64 z2, .int .i64 z3, .int .i64 a0, .int .i64 a1, .string a2, .string a3, .int .i64 a4, .int .i64 a5, .bool a6, .slice pk kl ck]) (by simp [results, Tryd.results13, go_sem, r0, r1, r2, r3, r4, r5, r6, r7, r8, r9, r10, r11]) rfl ⟨.slice pk kl ck, _, rfl, HK9.out, HI9.out.r, HI9.out.bt⟩
end Go.Proofs.YtpnineimnjibaafDoor

/-
  THE WALK of wire.Parse.
-/
namespace Go.Proofs.YtpnineimnjibaafDoor
open Go.RowKit Go.Lib

/-- what Parse hands back -/
def Out (w : World) (B : Nat) (o : Option (List Ez)) (pv : Value) (err : Int) : Prop := (∃ l, o = some l ∧ err = 0 ∧ EzsAt w (fun g => B ≤ g) pv l) ∨ (o = none ∧ err = 2 ∧ pv = .slice none 0 0)
/-- how far it has come -/
def Far (b : Bs) (acc : List Ez) (s : St) : Prop := (s.2 = false ∧ parseF b = (parseF s.1).map (acc ++ ·) ∧ acc.length + s.1.length ≤ 100000000) ∨ (s = failS ∧ parseF b = none)
theorem Far.start {b : Bs} (h : b.length ≤ 100000000) : Far b [] (b, false) := Or.inl ⟨rfl, by cases parseF b <;> rfl, by simpa using h⟩
theorem Far.step {b : Bs} {acc : List Ez} {s : St} (h : Far b acc s) (hne : s.1 ≠ []) : Far b (acc ++ [(eventF s).1]) (eventF s).2 ∧ (eventF s).2.1.length < s.1.length ∧ acc.length ≤ 100000000 := by
  rcases h with ⟨h1, h2, h3⟩ | ⟨h1, _⟩
  · have e : s = (s.1, false) := Prod.ext rfl h1
    have hl : 0 < s.1.length := List.length_pos_iff.mpr hne
    cases ht : takeEvent s.1 with
    | none =>
      have he := event_none ht
      rw [← e] at he
      rw [he]
      exact ⟨Or.inr ⟨rfl, by rw [h2, parse_fail hne ht]; rfl⟩, hl, by omega⟩
    | some p =>
      have he := event_some (show takeEvent s.1 = some (p.1, p.2) from ht)
      rw [← e] at he
      have hs := parse_step (show takeEvent s.1 = some (p.1, p.2) from ht)
      have hlt := takeEvent_lt (show takeEvent s.1 = some (p.1, p.2) from ht)
      rw [he]
      refine ⟨Or.inl ⟨rfl, ?_, ?_⟩, by simp only; omega, by omega⟩
      · rw [h2, hs]
        cases parseF p.2 with
        | none => rfl
        | some m => simp
      · simp only [List.length_append, List.length_singleton]
        omega
  · rw [h1] at hne
    exact absurd rfl hne
theorem Far.done {b : Bs} {acc : List Ez} {s : St} (h : Far b acc s) (he : s.1 = []) : (s.2 = false ∧ parseF b = some acc) ∨ (s.2 = true ∧ parseF b = none) := by
  rcases h with ⟨h1, h2, _⟩ | ⟨h1, h2⟩
  · refine Or.inl ⟨h1, ?_⟩
    rw [h2, he, parse_nil]
    simp
  · exact Or.inr ⟨by rw [h1]; rfl, h2⟩
def rlen (w : World) (R : Nat) : Nat := match w.cell? ⟨R, 0, none⟩ with
  | some (.slice _ n _) => n
  | _ => 0
theorem Rdr.len {w : World} {B R : Nat} {s : St} {v : Value} (h : Rdr w B R s v) : rlen w R = s.1.length := by
  have c := h.c0
  obtain ⟨p, c1, rfl⟩ := h.bs.shape
  unfold rlen
  rw [c]

set_option maxHeartbeats 3200000 in
set_option maxRecDepth 100000 in
theorem yparse {w : World} {v : Value} {b : Bs} (h : BsAt w (fun g => g < w.heap.size) v b) (hL : LtB w.heap.size w) (hl : b.length ≤ 100000000) :
    Calls Tryd.prog 6 #[v] w fun e w' => ∃ pv err, e = .returned (.tuple #[pv, .int .i64 err]) ∧ Out w' w.heap.size (parseF b) pv err ∧ Below w.heap.size w w' := by
  have B1 : Below w.heap.size w (w.alloc (.cells #[v, .bool false] 38)) := (Below.refl _ _).alloc (Nat.le_refl _) _
  have HR1 : Hid (Rdr (w.alloc (.cells #[v, .bool false] 38)) w.heap.size w.heap.size (b, false) v) := ⟨heap_alloc_new _ _, Nat.le_refl _, h.under B1, vd_good b, hL.on B1, hl⟩
  have HB1 : Hid (Below w.heap.size w (w.alloc (.cells #[v, .bool false] 38))) := B1
  have HF1 : Hid (Far b [] (b, false)) := Far.start hl
  obtain ⟨p, c, rfl⟩ := h.shape
  clear h hL hl B1
  generalize b.length = bl at *
  go_enter Tryd.func6, Tryd.ntmps6
  go_upto_region 2 with fail
  generalize w.alloc (.cells #[.slice p bl c, .bool false] 38) = w1 at *
  generalize hG : w.heap.size = R at *
  have HG : Hid (w.heap.size = R) := hG
  clear hG
  go_wp2_with fail
  go_loopw [5] (fun bv wr => ∃ (acc : List Ez) (s : St) (v2 : Value), Hid (OwnE wr (R + 1) bv acc) ∧ Hid (Rdr wr R R s v2) ∧ Hid (Far b acc s) ∧ Hid (Below R w wr)) (fun _ wr => rlen wr R)
  case atStart => exact ⟨[], _, _, OwnE.nil _ _, HR1, HF1, HB1⟩
  case round =>
    clear HR1 HF1 HB1
    obtain ⟨acc, s, v2, HO, HR, HF, HB⟩ := hrel
    have c0 := HR.out.c0
    have c1 := HR.out.c1
    have HLN : Hid (rlen wr R = s.1.length) := HR.out.len
    have HZ : Hid (R + 1 ≤ wr.heap.size) := HR.out.in
    obtain ⟨p2, c2, rfl⟩ := HR.out.bs.shape
    by_cases hne : s.1 = []
    · have HD := HF.out.done hne
      have hl0 : s.1.length = 0 := by rw [hne]; rfl
      rw [hl0] at c0
      have HO2 : Hid (EzsAt wr (fun g => R + 1 ≤ g) u5 acc) := HO.out.ezs
      clear hl0 hne HF HLN HR HO
      rcases HD with ⟨hb, hp⟩ | ⟨hb, hp⟩
      · rw [hb] at c1
        have HP : Hid (parseF b = some acc) := hp
        clear hb hp
        go_wp2_with fail
        go_ret2
        refine ⟨_, _, rfl, Or.inl ⟨acc, HP.out, rfl, HO2.out.frame (fun g hg _ => ⟨rfl, by have := HG.out; omega⟩)⟩, by rw [HG.out]; exact HB.out⟩
      · rw [hb] at c1
        have HP : Hid (parseF b = none) := hp
        clear hb hp
        go_wp2_with fail
        go_ret2
        refine ⟨_, _, rfl, Or.inr ⟨HP.out, rfl, rfl⟩, by rw [HG.out]; exact HB.out⟩
    · have hpos : 0 < s.1.length := List.length_pos_iff.mpr hne
      obtain ⟨st1, st2, st3⟩ := HF.out.step hne
      have HS1 : Hid (Far b (acc ++ [(eventF s).1]) (eventF s).2) := st1
      have HS2 : Hid ((eventF s).2.1.length < s.1.length) := st2
      have HS3 : Hid (acc.length ≤ 100000000) := st3
      have C := yevent HR.out
      have HOL : Hid (∀ g, u5.ownBlock = some g → R + 1 ≤ g ∧ g < wr.heap.size) := HO.out.lt
      clear HR HF st1 st2 st3 hne
      generalize eventF s = q at *
      obtain ⟨⟨z0, z1, z2, z3, ⟨a0, a1, a2, a3, a4, a5, a6, ks⟩⟩, s3⟩ := q
      unfold evV at C
      simp only [Iz.node, Iz.role, Iz.name, Iz.about, Iz.level, Iz.checked, Iz.off, Iz.kids] at C
      simp only at HS2
      generalize s.1.length = sl at *
      go_upto_region 4 with fail
      clear c0 c1 hpos
      go_wp2_with (go_at_call 13; refine C.mono ?_; clear C; rintro e w6 ⟨kv, v6, rfl, hk6, hr6, hb6⟩; refine Hid.out ?_)
      refine Lib.hid ?_
      have hO6 : OwnE w6 (R + 1) u5 acc := HO.out.bt hb6 (fun g hg => by rw [List.mem_singleton] at hg; omega)
      have hk7 : IzsAt w6 (fun g => R + 1 ≤ g ∧ some g ≠ u5.ownBlock) kv ks := hk6.any (fun g hg _ => ⟨Nat.le_trans HZ.out hg, fun e => by have := (HOL.out g e.symm).2; omega⟩)
      have hz6 : R + 1 ≤ w6.heap.size := Nat.le_trans HZ.out hb6.size
      have hac := HS3.out
      have HR6 : Hid (Rdr w6 R R s3 v6) := hr6
      have HB6 : Hid (Below R w w6) := HB.out.trans (hb6.low (by have := HZ.out; omega) (fun k hk => by rw [List.mem_singleton] at hk; omega))
      clear hk6 hr6 hb6 HB HO HOL HZ HS3
      go_wp2_with (at_builtin; refine append_event rfl _ _ rfl ⟨z0, z1, z2, z3, .mk a0 a1 a2 a3 a4 a5 a6 ks⟩ kv rfl (by simp [Act.eval]) hO6 hk7 hz6 hac ?_; intro v7 w7 o7 b7 g7; refine Hid.out ?_)
      refine Lib.hid ?_
      have HO7 : Hid (OwnE w7 (R + 1) v7 (acc ++ [⟨z0, z1, z2, z3, .mk a0 a1 a2 a3 a4 a5 a6 ks⟩])) := o7
      have HR7 : Hid (Rdr w7 R R s3 v6) := HR6.out.over b7 (Nat.lt_succ_self _)
      have HB7 : Hid (Below R w w7) := HB6.out.trans (b7.mono (Nat.le_succ _))
      clear o7 b7 g7 hO6 hk7 hz6 hac HR6 HB6
      go_wp2_with fail
      go_roundw
      case rel => exact ⟨_, s3, v6, HO7, HR7, HS1, HB7⟩
      case measure => rw [HR7.out.len, HLN.out]; exact HS2.out
end Go.Proofs.YtpnineimnjibaafDoor

/-
  THE WALKS of tnlaw10's depth and alive.
-/
namespace Go.Proofs.YtpnineimnjibaafDoor
open Go.RowKit Go.Lib

theorem deepZ_take (l : List Iz) (j : Nat) (h : j < l.length) : deepZ (l.take (j + 1)) = max (deepZ (l.take j)) (deep1 l[j]) := by
  rw [List.take_succ_eq_append_getElem h]
  generalize l.take j = a
  generalize l[j] = x
  induction a with
  | nil => simp [deepZ]
  | cons y a ih => rw [List.cons_append, deepZ, deepZ, ih, Nat.max_assoc]
theorem deepZ_take_le (l : List Iz) (j : Nat) : deepZ (l.take j) ≤ deepZ l := by
  rw [deepZ_le]
  intro x hx
  exact deepZ_le.mp (Nat.le_refl _) x (List.mem_of_mem_take hx)

set_option maxHeartbeats 3200000 in
set_option maxRecDepth 100000 in
theorem ydepth (m : Nat) (hm : m ≤ 100000000) : ∀ (x : Iz) (kv : Value) (w : World), deep1 x ≤ m → IzsAt w (fun g => g < w.heap.size) kv x.kids →
    Calls Tryd.prog 12 #[itV x kv] w fun e w' => e = .returned (.int .i64 (deep1 x : Int)) ∧ Below w.heap.size w w' := by
  induction m with
  | zero => intro x kv w hd; rw [deep1_eq] at hd; omega
  | succ m ih =>
    intro x kv w hd hr
    have ih := ih (by omega)
    have HD : Hid (deep1 x = deepZ x.kids + 1) := deep1_eq x
    rw [deep1_eq] at hd
    have IH : Hid (∀ (j : Nat) (h : j < x.kids.length) (kv : Value) (W : World), IzsAt W (fun g => g < W.heap.size) kv x.kids[j].kids → Calls Tryd.prog 12 #[itV x.kids[j] kv] W fun e w' => e = .returned (.int .i64 (deep1 x.kids[j] : Int)) ∧ Below W.heap.size W w') :=
      fun j hj kv W hr => ih x.kids[j] kv W (deepZ_le.mp (by omega) _ (List.getElem_mem hj)) hr
    have HM : Hid (∀ j (h : j < x.kids.length), deepZ (x.kids.take (j + 1)) = max (deepZ (x.kids.take j)) (deep1 x.kids[j])) := fun j h => deepZ_take _ j h
    have HB1 : Hid (∀ j, deepZ (x.kids.take j) ≤ 100000000) := fun j => by have := deepZ_take_le x.kids j; show _ ≤ _; omega
    have HB2 : Hid (∀ j (h : j < x.kids.length), deep1 x.kids[j] ≤ 100000000) := fun j h => by have := deepZ_le.mp (Nat.le_refl (deepZ x.kids)) _ (List.getElem_mem h); show _ ≤ _; omega
    obtain ⟨p, c, rfl, y1, y2, hat⟩ := hr.at
    have T : Hid (∀ j (hj : j < x.kids.length), ∃ b o kv, p = some ⟨b, o, none⟩ ∧ b < w.heap.size ∧ IzAt w b (o + j * 8) x.kids[j] kv ∧ IzsAt w (fun g => g < w.heap.size) kv x.kids[j].kids) := hat
    have HX : Hid ((w.alloc (.cells #[.int .i64 x.node, .int .i64 x.role, .string x.name, .string x.about, .int .i64 x.level, .int .i64 x.checked, .bool x.off, .slice p x.kids.length c] 33)).heap[w.heap.size]? = some (.cells #[.int .i64 x.node, .int .i64 x.role, .string x.name, .string x.about, .int .i64 x.level, .int .i64 x.checked, .bool x.off, .slice p x.kids.length c] 33)) := heap_alloc_new _ _
    have HB0 : Hid (Below w.heap.size w (w.alloc (.cells #[.int .i64 x.node, .int .i64 x.role, .string x.name, .string x.about, .int .i64 x.level, .int .i64 x.checked, .bool x.off, .slice p x.kids.length c] 33))) := (Below.refl _ _).alloc (Nat.le_refl _) _
    unfold itV
    clear hr hat hd ih hm
    generalize deep1 x = dx at *
    generalize x.kids = ks at *
    generalize x.node = x0 at *
    generalize x.role = x1 at *
    generalize x.name = x2 at *
    generalize x.about = x3 at *
    generalize x.level = x4 at *
    generalize x.checked = x5 at *
    generalize x.off = x6 at *
    go_enter Tryd.func12, Tryd.ntmps12
    go_upto_region 2 with fail
    generalize hw1 : w.alloc (.cells #[.int .i64 x0, .int .i64 x1, .string x2, .string x3, .int .i64 x4, .int .i64 x5, .bool x6, .slice p ks.length c] 33) = w1 at *
    clear hw1
    generalize hG : w.heap.size = G at *
    have HG : Hid (w.heap.size = G) := hG
    clear hG
    have d7 : w1.cell? ⟨G, 7, none⟩ = some (.slice p ks.length c) := cell_of_block HX.out 7
    clear HX
    go_wp2_with fail
    go_loopw [3, 9] (fun sv iv wr => ∃ (j : Nat), j ≤ ks.length ∧ iv = .int .i64 j ∧ sv = .int .i64 (deepZ (ks.take j) : Int) ∧ Hid (Below G w wr)) (fun _ iv _ => ks.length - (RowKit.intOf iv).toNat)
    case atStart => exact ⟨0, Nat.zero_le _, rfl, rfl, HB0⟩
    case round =>
      clear HB0
      obtain ⟨j, hj, rfl, rfl, HB⟩ := hrel
      by_cases hlt : j < ks.length
      · obtain ⟨b1, o1, kv1, rfl, hb1, hc1, hrow1⟩ := T.out j hlt
        have K : ∀ i u, w.cell? ⟨b1, i, none⟩ = some u → wr.cell? ⟨b1, i, none⟩ = some u := fun i u h => (HB.out.cell (p := ⟨b1, i, none⟩) hb1).trans h
        have e0 := K _ _ hc1.c0
        have e1 := K _ _ hc1.c1
        have e2 := K _ _ hc1.c2
        have e3 := K _ _ hc1.c3
        have e4 := K _ _ hc1.c4
        have e5 := K _ _ hc1.c5
        have e6 := K _ _ hc1.c6
        have e7 := K _ _ hc1.c7
        have hBr : G ≤ wr.heap.size := by have h1 := HB.out.size; have h2 := HG.out; omega
        have HA2 : Hid (∀ o : Obj, IzsAt (wr.alloc o) (fun g => g < (wr.alloc o).heap.size) kv1 ks[j].kids ∧ Below G w (wr.alloc o)) := fun o => by
          have hW := HB.out.alloc hBr o
          exact ⟨hrow1.frame (fun g hg hlt => ⟨hW.block g hg, by simp; omega⟩), hW⟩
        have C := fun W h1 => IH.out j hlt kv1 W h1
        unfold itV at C
        have HC : Hid _ := C
        have hd1 := HB1.out j
        have hd2 := HB2.out j hlt
        have HMJ := HM.out j hlt
        have HMM : Hid (deepZ (ks.take (j + 1)) = max (deepZ (ks.take j)) (deep1 ks[j])) := HMJ
        obtain ⟨pk, ck, rfl⟩ := hrow1.shape
        clear hc1 K hb1 C hrow1 hBr HMJ
        generalize deepZ (ks.take j) = q1 at *
        generalize deep1 ks[j] = q2 at *
        generalize ks[j].kids = kk at *
        generalize ks[j].node = y0 at *
        generalize ks[j].role = y1 at *
        generalize ks[j].name = y2 at *
        generalize ks[j].about = y3 at *
        generalize ks[j].level = y4 at *
        generalize ks[j].checked = y5 at *
        generalize ks[j].off = y6 at *
        go_upto_region 5 with fail
        have HB8 : Hid ((wr.alloc (.cells #[.int .i64 y0, .int .i64 y1, .string y2, .string y3, .int .i64 y4, .int .i64 y5, .bool y6, .slice pk kk.length ck] 33)).heap[wr.heap.size]? = some (.cells #[.int .i64 y0, .int .i64 y1, .string y2, .string y3, .int .i64 y4, .int .i64 y5, .bool y6, .slice pk kk.length ck] 33)) := heap_alloc_new _ _
        have HA3 := HA2.out (.cells #[.int .i64 y0, .int .i64 y1, .string y2, .string y3, .int .i64 y4, .int .i64 y5, .bool y6, .slice pk kk.length ck] 33)
        clear HA2 e0 e1 e2 e3 e4 e5 e6 e7
        generalize hwa : wr.alloc (.cells #[.int .i64 y0, .int .i64 y1, .string y2, .string y3, .int .i64 y4, .int .i64 y5, .bool y6, .slice pk kk.length ck] 33) = wa at *
        clear hwa
        generalize wr.heap.size = R at *
        obtain ⟨a1, a2⟩ := HA3
        have C := HC.out wa a1
        have HW9 : Hid (Below G w wa) := a2
        have HGa : Hid (G ≤ wa.heap.size) := by have h1 := a2.size; have h2 := HG.out; show _ ≤ _; omega
        have g0 : wa.cell? ⟨R, 0, none⟩ = some (.int .i64 y0) := cell_of_block HB8.out 0
        have g1 : wa.cell? ⟨R, 1, none⟩ = some (.int .i64 y1) := cell_of_block HB8.out 1
        have g2 : wa.cell? ⟨R, 2, none⟩ = some (.string y2) := cell_of_block HB8.out 2
        have g3 : wa.cell? ⟨R, 3, none⟩ = some (.string y3) := cell_of_block HB8.out 3
        have g4 : wa.cell? ⟨R, 4, none⟩ = some (.int .i64 y4) := cell_of_block HB8.out 4
        have g5 : wa.cell? ⟨R, 5, none⟩ = some (.int .i64 y5) := cell_of_block HB8.out 5
        have g6 : wa.cell? ⟨R, 6, none⟩ = some (.bool y6) := cell_of_block HB8.out 6
        have g7 : wa.cell? ⟨R, 7, none⟩ = some (.slice pk kk.length ck) := cell_of_block HB8.out 7
        clear HC a1 a2 HB8
        go_wp2_with (go_at_call 12; refine C.mono ?_; clear C; rintro e w9 ⟨rfl, k9⟩)
        go_roundw
        case rel => exact ⟨j + 1, by omega, by go_num, by rw [HMM.out]; go_num, HW9.out.trans (k9.mono HGa.out)⟩
        case measure => simp [RowKit.intOf]; omega
      · obtain rfl : j = ks.length := by omega
        have hb := HB1.out ks.length
        rw [List.take_length] at hb ⊢
        have HE : Hid ((dx : Int) = (deepZ ks : Int) + 1) := by have := HD.out; show _ = _; omega
        clear HD HM HB1 HB2
        generalize deepZ ks = q at *
        go_wp2_with fail
        go_ret
        exact ⟨by rw [HE.out]; rfl, by rw [HG.out]; exact HB.out⟩
end Go.Proofs.YtpnineimnjibaafDoor

/-
  THE WALK of the reference's Same, at items that read the same.
-/
namespace Go.Proofs.YtpnineimnjibaafDoor
open Go.RowKit

theorem box_at8 (w : World) (x0 x1 x2 x3 x4 x5 x6 x7 : Value) (t : Nat) (i : Nat) (x : Value) (h : [x0, x1, x2, x3, x4, x5, x6, x7][i]? = some x) : (w.alloc (.cells #[x0, x1, x2, x3, x4, x5, x6, x7] t)).cell? ⟨w.heap.size, i, none⟩ = some x := by
  rw [World.cell?_alloc_new]
  simpa using h

set_option maxHeartbeats 3200000 in
set_option maxRecDepth 100000 in
theorem usame_true {P Q : Nat → Prop} (m : Nat) : ∀ (v1 v2 : Value) (l : List Iz) (w : World), IzsAt w P v1 l → IzsAt w Q v2 l → (nodesZ l).length ≤ m →
    Calls Tryd.prog 20 #[v1, v2] w fun e w' => e = .returned (.bool true) ∧ Below w.heap.size w w' := by
  induction m with
  | zero =>
    intro v1 v2 l w hr1 hr2 hm
    have hl : l = [] := by
      have := topZ_few l
      exact List.length_eq_zero_iff.mp (by omega)
    subst hl
    obtain ⟨p1, c1, rfl⟩ := hr1.shape
    obtain ⟨p2, c2, rfl⟩ := hr2.shape
    clear hr1 hr2
    go_enter Tryd.func20, Tryd.ntmps20
    go_wp2_with fail
    refine wp_loop_rounds 1 ?_
    rw [rounds_succ]
    go_wp2_with fail
    go_ret
    exact ⟨rfl, Below.refl _ _⟩
  | succ m ih =>
    intro v1 v2 l w hr1 hr2 hm
    obtain ⟨p1, c1, rfl, y1, y2, hat1⟩ := hr1.at
    obtain ⟨p2, c2, rfl, z1, z2, hat2⟩ := hr2.at
    have T1 : Hid (∀ j (hj : j < l.length), ∃ b o kv, p1 = some ⟨b, o, none⟩ ∧ P b ∧ IzAt w b (o + j * 8) l[j] kv ∧ IzsAt w P kv l[j].kids) := hat1
    have T2 : Hid (∀ j (hj : j < l.length), ∃ b o kv, p2 = some ⟨b, o, none⟩ ∧ Q b ∧ IzAt w b (o + j * 8) l[j] kv ∧ IzsAt w Q kv l[j].kids) := hat2
    have ZM : Hid (∀ j (hj : j < l.length), (nodesZ l[j].kids).length ≤ m) := fun j hj => by have := nodesZ_lt l j hj; omega
    clear hr1 hr2 hat1 hat2 hm
    go_enter Tryd.func20, Tryd.ntmps20
    go_wp2_with fail
    go_loopw [15] (fun i wr => ∃ j : Nat, j ≤ l.length ∧ i = .int .i64 j ∧ Below w.heap.size w wr) (fun i _ => l.length - (intOf i).toNat)
    case atStart => exact ⟨0, Nat.zero_le _, rfl, Below.refl _ _⟩
    case round =>
      obtain ⟨j, hj, rfl, hnx⟩ := hrel
      have hbz := hnx.size
      by_cases hlt : j < l.length
      · obtain ⟨b1, o1, kv1, rfl, _, hc1, hrow1⟩ := T1.out j hlt
        obtain ⟨b2, o2, kv2, rfl, _, hc2, hrow2⟩ := T2.out j hlt
        have KB : Keeps w wr := keeps_below hnx (Nat.le_refl _)
        have e0 := KB _ _ hc1.c0
        have e1 := KB _ _ hc1.c1
        have e2 := KB _ _ hc1.c2
        have e3 := KB _ _ hc1.c3
        have e4 := KB _ _ hc1.c4
        have e5 := KB _ _ hc1.c5
        have e6 := KB _ _ hc1.c6
        have e7 := KB _ _ hc1.c7
        have g0 := KB _ _ hc2.c0
        have g1 := KB _ _ hc2.c1
        have g2 := KB _ _ hc2.c2
        have g3 := KB _ _ hc2.c3
        have g4 := KB _ _ hc2.c4
        have g5 := KB _ _ hc2.c5
        have g6 := KB _ _ hc2.c6
        have g7 := KB _ _ hc2.c7
        have ZJ : (nodesZ l[j].kids).length ≤ m := ZM.out j hlt
        obtain ⟨pk1, ck1, rfl⟩ := hrow1.shape
        obtain ⟨pk2, ck2, rfl⟩ := hrow2.shape
        have CCc : ∀ W, Below w.heap.size w W → Calls Tryd.prog 20 #[.slice pk1 l[j].kids.length ck1, .slice pk2 l[j].kids.length ck2] W fun e w' => e = .returned (.bool true) ∧ Below W.heap.size W w' := fun W hW => ih _ _ l[j].kids W (hrow1.under hW) (hrow2.under hW) ZJ
        clear hc1 hc2 hrow1 hrow2 KB ZJ ih
        generalize l[j].kids = ks at *
        generalize l[j].node = x0 at *
        generalize l[j].role = x1 at *
        generalize l[j].name = x2 at *
        generalize l[j].about = x3 at *
        generalize l[j].level = x4 at *
        generalize l[j].checked = x5 at *
        generalize l[j].off = x6 at *
        have q02 : (x2.toList == x2.toList) = true := by simp
        have q03 : (x3.toList == x3.toList) = true := by simp
        go_wp2_with fail
        have SS : ∀ w'', Keeps wr w'' → (fun w'' => w''.cell? ⟨b1, o1 + j * 8, none⟩ = some (.int .i64 x0) ∧ w''.cell? ⟨b1, o1 + j * 8 + 1, none⟩ = some (.int .i64 x1) ∧ w''.cell? ⟨b1, o1 + j * 8 + 2, none⟩ = some (.string x2) ∧ w''.cell? ⟨b1, o1 + j * 8 + 3, none⟩ = some (.string x3) ∧ w''.cell? ⟨b1, o1 + j * 8 + 4, none⟩ = some (.int .i64 x4) ∧ w''.cell? ⟨b1, o1 + j * 8 + 5, none⟩ = some (.int .i64 x5) ∧ w''.cell? ⟨b1, o1 + j * 8 + 6, none⟩ = some (.bool x6) ∧ w''.cell? ⟨b1, o1 + j * 8 + 7, none⟩ = some (.slice pk1 ks.length ck1) ∧ w''.cell? ⟨b2, o2 + j * 8, none⟩ = some (.int .i64 x0) ∧ w''.cell? ⟨b2, o2 + j * 8 + 1, none⟩ = some (.int .i64 x1) ∧ w''.cell? ⟨b2, o2 + j * 8 + 2, none⟩ = some (.string x2) ∧ w''.cell? ⟨b2, o2 + j * 8 + 3, none⟩ = some (.string x3) ∧ w''.cell? ⟨b2, o2 + j * 8 + 4, none⟩ = some (.int .i64 x4) ∧ w''.cell? ⟨b2, o2 + j * 8 + 5, none⟩ = some (.int .i64 x5) ∧ w''.cell? ⟨b2, o2 + j * 8 + 6, none⟩ = some (.bool x6) ∧ w''.cell? ⟨b2, o2 + j * 8 + 7, none⟩ = some (.slice pk2 ks.length ck2)) w'' := fun w'' hk => ⟨hk _ _ e0, hk _ _ e1, hk _ _ e2, hk _ _ e3, hk _ _ e4, hk _ _ e5, hk _ _ e6, hk _ _ e7, hk _ _ g0, hk _ _ g1, hk _ _ g2, hk _ _ g3, hk _ _ g4, hk _ _ g5, hk _ _ g6, hk _ _ g7⟩
        go_region_held3 (fun w'' => w''.cell? ⟨b1, o1 + j * 8, none⟩ = some (.int .i64 x0) ∧ w''.cell? ⟨b1, o1 + j * 8 + 1, none⟩ = some (.int .i64 x1) ∧ w''.cell? ⟨b1, o1 + j * 8 + 2, none⟩ = some (.string x2) ∧ w''.cell? ⟨b1, o1 + j * 8 + 3, none⟩ = some (.string x3) ∧ w''.cell? ⟨b1, o1 + j * 8 + 4, none⟩ = some (.int .i64 x4) ∧ w''.cell? ⟨b1, o1 + j * 8 + 5, none⟩ = some (.int .i64 x5) ∧ w''.cell? ⟨b1, o1 + j * 8 + 6, none⟩ = some (.bool x6) ∧ w''.cell? ⟨b1, o1 + j * 8 + 7, none⟩ = some (.slice pk1 ks.length ck1) ∧ w''.cell? ⟨b2, o2 + j * 8, none⟩ = some (.int .i64 x0) ∧ w''.cell? ⟨b2, o2 + j * 8 + 1, none⟩ = some (.int .i64 x1) ∧ w''.cell? ⟨b2, o2 + j * 8 + 2, none⟩ = some (.string x2) ∧ w''.cell? ⟨b2, o2 + j * 8 + 3, none⟩ = some (.string x3) ∧ w''.cell? ⟨b2, o2 + j * 8 + 4, none⟩ = some (.int .i64 x4) ∧ w''.cell? ⟨b2, o2 + j * 8 + 5, none⟩ = some (.int .i64 x5) ∧ w''.cell? ⟨b2, o2 + j * 8 + 6, none⟩ = some (.bool x6) ∧ w''.cell? ⟨b2, o2 + j * 8 + 7, none⟩ = some (.slice pk2 ks.length ck2))
          ((apply SS; repeat (first | exact Keeps.refl _ | apply keeps_drew | apply keeps_alloc')))
          (fail)
        · have hA : ∀ i x, [.int .i64 x0, .int .i64 x1, .string x2, .string x3, .int .i64 x4, .int .i64 x5, .bool x6, .slice pk1 ks.length ck1][i]? = some x → ((wr.alloc (.cells #[.int .i64 x0, .int .i64 x1, .string x2, .string x3, .int .i64 x4, .int .i64 x5, .bool x6, .slice pk1 ks.length ck1] 33)).alloc (.cells #[.int .i64 x0, .int .i64 x1, .string x2, .string x3, .int .i64 x4, .int .i64 x5, .bool x6, .slice pk2 ks.length ck2] 33)).drew.cell? ⟨wr.heap.size, i, none⟩ = some x := fun i x hx => keeps_drew (keeps_alloc _ _) _ _ (box_at8 wr _ _ _ _ _ _ _ _ 33 i x hx)
          have hB : ∀ i x, [.int .i64 x0, .int .i64 x1, .string x2, .string x3, .int .i64 x4, .int .i64 x5, .bool x6, .slice pk2 ks.length ck2][i]? = some x → ((wr.alloc (.cells #[.int .i64 x0, .int .i64 x1, .string x2, .string x3, .int .i64 x4, .int .i64 x5, .bool x6, .slice pk1 ks.length ck1] 33)).alloc (.cells #[.int .i64 x0, .int .i64 x1, .string x2, .string x3, .int .i64 x4, .int .i64 x5, .bool x6, .slice pk2 ks.length ck2] 33)).drew.cell? ⟨wr.heap.size + 1, i, none⟩ = some x := fun i x hx => by
            have h := box_at8 (wr.alloc (.cells #[.int .i64 x0, .int .i64 x1, .string x2, .string x3, .int .i64 x4, .int .i64 x5, .bool x6, .slice pk1 ks.length ck1] 33)) (.int .i64 x0) (.int .i64 x1) (.string x2) (.string x3) (.int .i64 x4) (.int .i64 x5) (.bool x6) (.slice pk2 ks.length ck2) 33 i x hx
            rw [show (wr.alloc (.cells #[.int .i64 x0, .int .i64 x1, .string x2, .string x3, .int .i64 x4, .int .i64 x5, .bool x6, .slice pk1 ks.length ck1] 33)).heap.size = wr.heap.size + 1 by simp] at h
            exact keeps_drew (Keeps.refl _) _ _ h
          have BQ : Below w.heap.size w ((wr.alloc (.cells #[.int .i64 x0, .int .i64 x1, .string x2, .string x3, .int .i64 x4, .int .i64 x5, .bool x6, .slice pk1 ks.length ck1] 33)).alloc (.cells #[.int .i64 x0, .int .i64 x1, .string x2, .string x3, .int .i64 x4, .int .i64 x5, .bool x6, .slice pk2 ks.length ck2] 33)).drew := ((hnx.alloc hbz _).alloc (by simp; omega) _).drew
          generalize ((wr.alloc (.cells #[.int .i64 x0, .int .i64 x1, .string x2, .string x3, .int .i64 x4, .int .i64 x5, .bool x6, .slice pk1 ks.length ck1] 33)).alloc (.cells #[.int .i64 x0, .int .i64 x1, .string x2, .string x3, .int .i64 x4, .int .i64 x5, .bool x6, .slice pk2 ks.length ck2] 33)).drew = W at hA hB BQ ⊢
          have q0 := hA 0 _ rfl
          have q1 := hA 1 _ rfl
          have q2 := hA 2 _ rfl
          have q3 := hA 3 _ rfl
          have q4 := hA 4 _ rfl
          have q5 := hA 5 _ rfl
          have q6 := hA 6 _ rfl
          have q7 := hA 7 _ rfl
          have r0 := hB 0 _ rfl
          have r1 := hB 1 _ rfl
          have r2 := hB 2 _ rfl
          have r3 := hB 3 _ rfl
          have r4 := hB 4 _ rfl
          have r5 := hB 5 _ rfl
          have r6 := hB 6 _ rfl
          have r7 := hB 7 _ rfl
          clear hA hB e0 e1 e2 e3 e4 e5 e6 e7 g0 g1 g2 g3 g4 g5 g6 g7 SS
          generalize wr.heap.size + 1 = Y at *
          generalize wr.heap.size = X at *
          have CC := CCc W BQ
          clear CCc hnx
          go_wp2_with (go_at_call 20; refine CC.mono ?_; clear CC; rintro e w5 ⟨rfl, hb5⟩)
          go_roundw
          case rel => exact ⟨j + 1, by omega, by go_num, BQ.trans (hb5.mono BQ.size)⟩
          case measure => simp [intOf]; omega
        · have hA : ∀ i x, [.int .i64 x0, .int .i64 x1, .string x2, .string x3, .int .i64 x4, .int .i64 x5, .bool x6, .slice pk2 ks.length ck2][i]? = some x → ((wr.alloc (.cells #[.int .i64 x0, .int .i64 x1, .string x2, .string x3, .int .i64 x4, .int .i64 x5, .bool x6, .slice pk2 ks.length ck2] 33)).alloc (.cells #[.int .i64 x0, .int .i64 x1, .string x2, .string x3, .int .i64 x4, .int .i64 x5, .bool x6, .slice pk1 ks.length ck1] 33)).drew.cell? ⟨wr.heap.size, i, none⟩ = some x := fun i x hx => keeps_drew (keeps_alloc _ _) _ _ (box_at8 wr _ _ _ _ _ _ _ _ 33 i x hx)
          have hB : ∀ i x, [.int .i64 x0, .int .i64 x1, .string x2, .string x3, .int .i64 x4, .int .i64 x5, .bool x6, .slice pk1 ks.length ck1][i]? = some x → ((wr.alloc (.cells #[.int .i64 x0, .int .i64 x1, .string x2, .string x3, .int .i64 x4, .int .i64 x5, .bool x6, .slice pk2 ks.length ck2] 33)).alloc (.cells #[.int .i64 x0, .int .i64 x1, .string x2, .string x3, .int .i64 x4, .int .i64 x5, .bool x6, .slice pk1 ks.length ck1] 33)).drew.cell? ⟨wr.heap.size + 1, i, none⟩ = some x := fun i x hx => by
            have h := box_at8 (wr.alloc (.cells #[.int .i64 x0, .int .i64 x1, .string x2, .string x3, .int .i64 x4, .int .i64 x5, .bool x6, .slice pk2 ks.length ck2] 33)) (.int .i64 x0) (.int .i64 x1) (.string x2) (.string x3) (.int .i64 x4) (.int .i64 x5) (.bool x6) (.slice pk1 ks.length ck1) 33 i x hx
            rw [show (wr.alloc (.cells #[.int .i64 x0, .int .i64 x1, .string x2, .string x3, .int .i64 x4, .int .i64 x5, .bool x6, .slice pk2 ks.length ck2] 33)).heap.size = wr.heap.size + 1 by simp] at h
            exact keeps_drew (Keeps.refl _) _ _ h
          have BQ : Below w.heap.size w ((wr.alloc (.cells #[.int .i64 x0, .int .i64 x1, .string x2, .string x3, .int .i64 x4, .int .i64 x5, .bool x6, .slice pk2 ks.length ck2] 33)).alloc (.cells #[.int .i64 x0, .int .i64 x1, .string x2, .string x3, .int .i64 x4, .int .i64 x5, .bool x6, .slice pk1 ks.length ck1] 33)).drew := ((hnx.alloc hbz _).alloc (by simp; omega) _).drew
          generalize ((wr.alloc (.cells #[.int .i64 x0, .int .i64 x1, .string x2, .string x3, .int .i64 x4, .int .i64 x5, .bool x6, .slice pk2 ks.length ck2] 33)).alloc (.cells #[.int .i64 x0, .int .i64 x1, .string x2, .string x3, .int .i64 x4, .int .i64 x5, .bool x6, .slice pk1 ks.length ck1] 33)).drew = W at hA hB BQ ⊢
          have r0 := hA 0 _ rfl
          have r1 := hA 1 _ rfl
          have r2 := hA 2 _ rfl
          have r3 := hA 3 _ rfl
          have r4 := hA 4 _ rfl
          have r5 := hA 5 _ rfl
          have r6 := hA 6 _ rfl
          have r7 := hA 7 _ rfl
          have q0 := hB 0 _ rfl
          have q1 := hB 1 _ rfl
          have q2 := hB 2 _ rfl
          have q3 := hB 3 _ rfl
          have q4 := hB 4 _ rfl
          have q5 := hB 5 _ rfl
          have q6 := hB 6 _ rfl
          have q7 := hB 7 _ rfl
          clear hA hB e0 e1 e2 e3 e4 e5 e6 e7 g0 g1 g2 g3 g4 g5 g6 g7 SS
          generalize wr.heap.size + 1 = X at *
          generalize wr.heap.size = Y at *
          have CC := CCc W BQ
          clear CCc hnx
          go_wp2_with (go_at_call 20; refine CC.mono ?_; clear CC; rintro e w5 ⟨rfl, hb5⟩)
          go_roundw
          case rel => exact ⟨j + 1, by omega, by go_num, BQ.trans (hb5.mono BQ.size)⟩
          case measure => simp [intOf]; omega
      · obtain rfl : j = l.length := by omega
        go_wp2_with fail
        go_ret
        exact ⟨rfl, hnx⟩
end Go.Proofs.YtpnineimnjibaafDoor
