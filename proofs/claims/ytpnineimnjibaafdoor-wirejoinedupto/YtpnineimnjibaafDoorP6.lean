/-
  OWN WORK: Jtm.
-/
import Derived.Test.YtpnineimnjibaafDoorP5
import Derived.Test.YtpnineimnjibaafDoorP3
import Derived.Test.YtpnineimnjibaafDoorP4
/-
  THE WALK of the reference's Item (laid by mkjtm.py).
-/
namespace Go.Proofs.YtpnineimnjibaafDoor
open Go.RowKit Go.Lib

/-- the box that is handed back, of the call's own -/
structure Iu (w0 w : World) (G0 : Nat) : Prop where
  bel : Below w0.heap.size w0 w
  b0 : w.heap[G0]? = some (.cells #[.int .i64 0, .int .i64 0, .string ⟨#[]⟩, .string ⟨#[]⟩, .int .i64 0, .int .i64 0, .bool false, .slice none 0 0] 33)
  n0 : w0.heap.size ≤ G0
/-- and the item so far -/
structure Iv (w0 w : World) (G0 G9 : Nat) (xs : Array Value) : Prop where
  bel : Below w0.heap.size w0 w
  b0 : w.heap[G0]? = some (.cells #[.int .i64 0, .int .i64 0, .string ⟨#[]⟩, .string ⟨#[]⟩, .int .i64 0, .int .i64 0, .bool false, .slice none 0 0] 33)
  b9 : w.heap[G9]? = some (.cells xs 33)
  n0 : w0.heap.size ≤ G0
  n9 : w0.heap.size ≤ G9
  ne : G0 ≠ G9
theorem Iu.lt {w0 w : World} {G0 : Nat} (h : Iu w0 w G0) : G0 < w.heap.size := (Array.getElem?_eq_some_iff.1 h.b0).1
theorem Iv.lt {w0 w : World} {G0 G9 : Nat} {xs : Array Value} (h : Iv w0 w G0 G9 xs) : G0 < w.heap.size ∧ G9 < w.heap.size := ⟨(Array.getElem?_eq_some_iff.1 h.b0).1, (Array.getElem?_eq_some_iff.1 h.b9).1⟩
theorem Iu.on {w0 w w' : World} {G0 : Nat} (h : Iu w0 w G0) (hb : Below w.heap.size w w') : Iu w0 w' G0 :=
  ⟨h.bel.trans (hb.mono h.bel.size), by rw [hb.block G0 h.lt]; exact h.b0, h.n0⟩
theorem Iv.over {w0 w w' : World} {G0 G9 C : Nat} {xs : Array Value} (h : Iv w0 w G0 G9 xs) (hb : Below C w w') (h0 : G0 < C) (h9 : G9 < C) : Iv w0 w' G0 G9 xs :=
  ⟨h.bel.trans (hb.mono (by have := h.n0; omega)), by rw [hb.block G0 h0]; exact h.b0, by rw [hb.block G9 h9]; exact h.b9, h.n0, h.n9, h.ne⟩
theorem Iv.on {w0 w w' : World} {G0 G9 : Nat} {xs : Array Value} (h : Iv w0 w G0 G9 xs) (hb : Below w.heap.size w w') : Iv w0 w' G0 G9 xs := h.over hb h.lt.1 h.lt.2
theorem Iv.set {w0 w : World} {G0 G9 : Nat} {xs : Array Value} (h : Iv w0 w G0 G9 xs) (i : Nat) (u : Value) : Iv w0 (w.setCell ⟨G9, i, none⟩ u) G0 G9 (xs.setIfInBounds i u) :=
  ⟨h.bel.setCell h.n9 u, by rw [Below.heap_setCell _ _ _ _ h.ne]; exact h.b0, heap_setCell_same _ _ _ _ _ _ h.b9, h.n0, h.n9, h.ne⟩
theorem Iu.c0 {w0 w : World} {G0 : Nat} (h : Iu w0 w G0) (i : Nat) : w.cell? ⟨G0, i, none⟩ = (#[.int .i64 0, .int .i64 0, .string ⟨#[]⟩, .string ⟨#[]⟩, .int .i64 0, .int .i64 0, .bool false, .slice none 0 0] : Array Value)[i]? := by simp [World.cell?, h.b0]
theorem Iu.f0 {w0 w : World} {G0 : Nat} (h : Iu w0 w G0) (i : Nat) : w.frozen? ⟨G0, i, none⟩ = false := by simp [World.frozen?, h.b0]
theorem Iv.c0 {w0 w : World} {G0 G9 : Nat} {xs : Array Value} (h : Iv w0 w G0 G9 xs) (i : Nat) : w.cell? ⟨G0, i, none⟩ = (#[.int .i64 0, .int .i64 0, .string ⟨#[]⟩, .string ⟨#[]⟩, .int .i64 0, .int .i64 0, .bool false, .slice none 0 0] : Array Value)[i]? := by simp [World.cell?, h.b0]
theorem Iv.f0 {w0 w : World} {G0 G9 : Nat} {xs : Array Value} (h : Iv w0 w G0 G9 xs) (i : Nat) : w.frozen? ⟨G0, i, none⟩ = false := by simp [World.frozen?, h.b0]
theorem Iv.c9 {w0 w : World} {G0 G9 : Nat} {xs : Array Value} (h : Iv w0 w G0 G9 xs) (i : Nat) : w.cell? ⟨G9, i, none⟩ = xs[i]? := by simp [World.cell?, h.b9]
theorem Iv.f9 {w0 w : World} {G0 G9 : Nat} {xs : Array Value} (h : Iv w0 w G0 G9 xs) (i : Nat) : w.frozen? ⟨G9, i, none⟩ = false := by simp [World.frozen?, h.b9]
theorem put8 {w : World} {G : Nat} {a0 a1 a2 a3 a4 a5 a6 a7 : Value} {t : TypeId} (h : w.heap[G]? = some (.cells #[a0, a1, a2, a3, a4, a5, a6, a7] t)) (y0 y1 y2 y3 y4 y5 y6 y7 : Value) :
    (set8 w G y0 y1 y2 y3 y4 y5 y6 y7).heap[G]? = some (.cells #[y0, y1, y2, y3, y4, y5, y6, y7] t) := by
  unfold set8
  have h0 := heap_setCell_same _ G 0 _ _ y0 h
  rw [show (#[a0, a1, a2, a3, a4, a5, a6, a7] : Array Value).setIfInBounds 0 y0 = #[y0, a1, a2, a3, a4, a5, a6, a7] from rfl] at h0
  have h1 := heap_setCell_same _ G 1 _ _ y1 h0
  rw [show (#[y0, a1, a2, a3, a4, a5, a6, a7] : Array Value).setIfInBounds 1 y1 = #[y0, y1, a2, a3, a4, a5, a6, a7] from rfl] at h1
  have h2 := heap_setCell_same _ G 2 _ _ y2 h1
  rw [show (#[y0, y1, a2, a3, a4, a5, a6, a7] : Array Value).setIfInBounds 2 y2 = #[y0, y1, y2, a3, a4, a5, a6, a7] from rfl] at h2
  have h3 := heap_setCell_same _ G 3 _ _ y3 h2
  rw [show (#[y0, y1, y2, a3, a4, a5, a6, a7] : Array Value).setIfInBounds 3 y3 = #[y0, y1, y2, y3, a4, a5, a6, a7] from rfl] at h3
  have h4 := heap_setCell_same _ G 4 _ _ y4 h3
  rw [show (#[y0, y1, y2, y3, a4, a5, a6, a7] : Array Value).setIfInBounds 4 y4 = #[y0, y1, y2, y3, y4, a5, a6, a7] from rfl] at h4
  have h5 := heap_setCell_same _ G 5 _ _ y5 h4
  rw [show (#[y0, y1, y2, y3, y4, a5, a6, a7] : Array Value).setIfInBounds 5 y5 = #[y0, y1, y2, y3, y4, y5, a6, a7] from rfl] at h5
  have h6 := heap_setCell_same _ G 6 _ _ y6 h5
  rw [show (#[y0, y1, y2, y3, y4, y5, a6, a7] : Array Value).setIfInBounds 6 y6 = #[y0, y1, y2, y3, y4, y5, y6, a7] from rfl] at h6
  have h7 := heap_setCell_same _ G 7 _ _ y7 h6
  rw [show (#[y0, y1, y2, y3, y4, y5, y6, a7] : Array Value).setIfInBounds 7 y7 = #[y0, y1, y2, y3, y4, y5, y6, y7] from rfl] at h7
  exact h7
theorem bel8 {B : Nat} {w0 w : World} {G : Nat} (h : Below B w0 w) (hG : B ≤ G) (y0 y1 y2 y3 y4 y5 y6 y7 : Value) : Below B w0 (set8 w G y0 y1 y2 y3 y4 y5 y6 y7) :=
  (((((((h.setCell hG _).setCell hG _).setCell hG _).setCell hG _).setCell hG _).setCell hG _).setCell hG _).setCell hG _
/-- five numbers in memory -/
theorem zs5 {w : World} {v : Value} {a0 a1 a2 a3 a4 : Int} (h : ZsAt w v [a0, a1, a2, a3, a4]) : ∃ b o c, v = .slice (some ⟨b, o, none⟩) 5 c ∧ 5 ≤ c ∧ c ≤ 9223372036854775807 ∧
    w.cell? ⟨b, o, none⟩ = some (.int .i64 a0) ∧ w.cell? ⟨b, o + 1, none⟩ = some (.int .i64 a1) ∧ w.cell? ⟨b, o + 2, none⟩ = some (.int .i64 a2) ∧ w.cell? ⟨b, o + 3, none⟩ = some (.int .i64 a3) ∧ w.cell? ⟨b, o + 4, none⟩ = some (.int .i64 a4) := by
  obtain ⟨p, c, rfl, h1, h2, h3⟩ := h.at
  obtain ⟨b, o, rfl, e0⟩ := h3 0 (by simp)
  have hx : ∀ i (hi : i < 5), w.cell? ⟨b, o + i, none⟩ = some (.int .i64 ([a0, a1, a2, a3, a4][i])) := fun i hi => by
    obtain ⟨b', o', e1, e2⟩ := h3 i hi
    cases e1
    exact e2
  exact ⟨b, o, c, rfl, h1, h2, e0, hx 1 (by decide), hx 2 (by decide), hx 3 (by decide), hx 4 (by decide)⟩
theorem zs_under {w w' : World} {v : Value} {l : List Int} (h : ZsAt w v l) (hb : Below w.heap.size w w') : ZsAt w' v l := h.keeps (fun p u hu => by
  have hlt := lt_of_cell hu
  rw [← hu]
  exact World.cell?_of_block (hb.block _ hlt))

/-- what the reference's Item does, at a depth -/
def ItemU (d : Nat) : Prop := ∀ (w : World) (P : Nat → Prop) (v : Value) (l : Bs), BsAt w P v l → (∀ g, P g → g < w.heap.size) → LtB w.heap.size w → l.length ≤ 100000000 →
  Calls Tryd.prog 15 #[v, .int .i64 (61 - (d : Int))] w fun e w' => ∃ x kv rv r ok, e = .returned (.tuple #[itV x kv, rv, .bool ok]) ∧ IzsAt w' (fun g => w.heap.size ≤ g) kv x.kids ∧ BsAt w' P rv r ∧ r.length ≤ l.length ∧ Ti d l x r ok ∧ Below w.heap.size w w'

theorem ItemU.parts {d : Nat} (H : ItemU d) {w : World} {P : Nat → Prop} {v : Value} {l : Bs} (h : BsAt w P v l) (hP : ∀ g, P g → g < w.heap.size) (hL : LtB w.heap.size w) (hl : l.length ≤ 100000000) :
    Calls Tryd.prog 15 #[v, .int .i64 (61 - (d : Int))] w fun e w' => ∃ y0 y1 y2 y3 y4 y5 y6 ks px cx rv r ok, e = .returned (.tuple #[.agg #[.int .i64 y0, .int .i64 y1, .string y2, .string y3, .int .i64 y4, .int .i64 y5, .bool y6, .slice px ks.length cx], rv, .bool ok]) ∧
      IzsAt w' (fun g => w.heap.size ≤ g) (.slice px ks.length cx) ks ∧ BsAt w' P rv r ∧ r.length ≤ l.length ∧ Ti d l (.mk y0 y1 y2 y3 y4 y5 y6 ks) r ok ∧ Below w.heap.size w w' := by
  refine (H w P v l h hP hL hl).mono ?_
  rintro e w' ⟨x, kv, rv, r, ok, rfl, hk, h⟩
  obtain ⟨px, cx, rfl⟩ := hk.shape
  cases x with
  | mk y0 y1 y2 y3 y4 y5 y6 ks => exact ⟨y0, y1, y2, y3, y4, y5, y6, ks, px, cx, rv, r, ok, rfl, hk, h⟩

set_option maxHeartbeats 3200000 in
set_option maxRecDepth 100000 in
theorem uitem_zero : ItemU 0 := by
  intro w P v l h hP hL hl
  rw [show (61 : Int) - ((0 : Nat) : Int) = 61 from rfl]
  have B1 : Below w.heap.size w (w.alloc (.cells #[.int .i64 0, .int .i64 0, .string ⟨#[]⟩, .string ⟨#[]⟩, .int .i64 0, .int .i64 0, .bool false, .slice none 0 0] 33)) := (Below.refl _ _).alloc (Nat.le_refl _) _
  have HI1 : Hid (Iu w (w.alloc (.cells #[.int .i64 0, .int .i64 0, .string ⟨#[]⟩, .string ⟨#[]⟩, .int .i64 0, .int .i64 0, .bool false, .slice none 0 0] 33)) w.heap.size) := ⟨B1, heap_alloc_new _ _, Nat.le_refl _⟩
  have hs1 : w.heap.size ≤ (w.alloc (.cells #[.int .i64 0, .int .i64 0, .string ⟨#[]⟩, .string ⟨#[]⟩, .int .i64 0, .int .i64 0, .bool false, .slice none 0 0] 33)).heap.size := B1.size
  have C := unumbers (h.under B1) (fun g hg => Nat.lt_of_lt_of_le (hP g hg) hs1) ((hL.on B1).up hs1) hl 5 (by decide)
  rw [show ((5 : Nat) : Int) = 5 from rfl] at C
  have HP : Hid (∀ g, P g → g < w.heap.size) := hP
  have HL : Hid (LtB w.heap.size w) := hL
  have HLL : Hid (l.length ≤ 100000000) := hl
  obtain ⟨p, c, rfl⟩ := h.shape
  clear h hL hl B1 hs1 hP
  generalize hln : l.length = ln at *
  go_enter Tryd.func15, Tryd.ntmps15
  go_upto_region 1 with fail
  generalize w.alloc (.cells #[.int .i64 0, .int .i64 0, .string ⟨#[]⟩, .string ⟨#[]⟩, .int .i64 0, .int .i64 0, .bool false, .slice none 0 0] 33) = w1 at *
  generalize hG : w.heap.size = G0 at *
  have HG : Hid (w.heap.size = G0) := hG
  have HLN : Hid (l.length = ln) := hln
  have HLW : Hid (LtB w.heap.size w) := by show LtB w.heap.size w; rw [hG]; exact HL.out
  have HPW : Hid (∀ g, P g → g < w.heap.size) := fun g hg => by rw [hG]; exact HP.out g hg
  clear hG hln HL HP
  go_upto_region 2 with (go_at_call 14; refine C.mono ?_; clear C; rintro e w5 ⟨lv, xs, rv, r, ok, rfl, ho, hr, hlen, ht, hb⟩)
  have HI5 : Hid (Iu w w5 G0) := HI1.out.on hb
  have HZ5 : Hid (ZsAt w5 lv xs) := zs_of_owns ho
  have HR5 : Hid (BsAt w5 P rv r) := hr
  have HT5 : Hid (Tn 5 l xs r ok) := ht
  have HLE5 : Hid (r.length ≤ ln) := hlen
  clear HI1 ho hr hlen ht hb
  cases ok with
  | false =>
    have HTI : Hid (∀ x r, Ti 0 l x r false) := ti_nums HT5.out
    clear HZ5 HR5 HT5
    have d0 := HI5.out.c0 0
    have d1 := HI5.out.c0 1
    have d2 := HI5.out.c0 2
    have d3 := HI5.out.c0 3
    have d4 := HI5.out.c0 4
    have d5 := HI5.out.c0 5
    have d6 := HI5.out.c0 6
    have d7 := HI5.out.c0 7
    have f0 := HI5.out.f0 0
    have f1 := HI5.out.f0 1
    have f2 := HI5.out.f0 2
    have f3 := HI5.out.f0 3
    have f4 := HI5.out.f0 4
    have f5 := HI5.out.f0 5
    have f6 := HI5.out.f0 6
    have f7 := HI5.out.f0 7
    have HB8 : Hid (Below w.heap.size w (set8 w5 G0 (.int .i64 0) (.int .i64 0) (.string ⟨#[]⟩) (.string ⟨#[]⟩) (.int .i64 0) (.int .i64 0) (.bool false) (.slice none 0 0))) := bel8 HI5.out.bel HI5.out.n0 (.int .i64 0) (.int .i64 0) (.string ⟨#[]⟩) (.string ⟨#[]⟩) (.int .i64 0) (.int .i64 0) (.bool false) (.slice none 0 0)
    have HX8 : Hid ((set8 w5 G0 (.int .i64 0) (.int .i64 0) (.string ⟨#[]⟩) (.string ⟨#[]⟩) (.int .i64 0) (.int .i64 0) (.bool false) (.slice none 0 0)).heap[G0]? = some (.cells #[(.int .i64 0), (.int .i64 0), (.string ⟨#[]⟩), (.string ⟨#[]⟩), (.int .i64 0), (.int .i64 0), (.bool false), (.slice none 0 0)] 33)) := put8 HI5.out.b0 (.int .i64 0) (.int .i64 0) (.string ⟨#[]⟩) (.string ⟨#[]⟩) (.int .i64 0) (.int .i64 0) (.bool false) (.slice none 0 0)
    have HP8 : Hid (∀ k, k ≠ G0 → (set8 w5 G0 (.int .i64 0) (.int .i64 0) (.string ⟨#[]⟩) (.string ⟨#[]⟩) (.int .i64 0) (.int .i64 0) (.bool false) (.slice none 0 0)).heap[k]? = w5.heap[k]?) := fun k hk => set8_block _ _ (.int .i64 0) (.int .i64 0) (.string ⟨#[]⟩) (.string ⟨#[]⟩) (.int .i64 0) (.int .i64 0) (.bool false) (.slice none 0 0) k hk
    clear HI5
    go_wp2_with fail
    change bodyPost _ _ _ _ _ (set8 w5 G0 (.int .i64 0) (.int .i64 0) (.string ⟨#[]⟩) (.string ⟨#[]⟩) (.int .i64 0) (.int .i64 0) (.bool false) (.slice none 0 0))
    generalize set8 w5 G0 (.int .i64 0) (.int .i64 0) (.string ⟨#[]⟩) (.string ⟨#[]⟩) (.int .i64 0) (.int .i64 0) (.bool false) (.slice none 0 0) = w99 at *
    have r0 := cell_of_block HX8.out 0
    have r1 := cell_of_block HX8.out 1
    have r2 := cell_of_block HX8.out 2
    have r3 := cell_of_block HX8.out 3
    have r4 := cell_of_block HX8.out 4
    have r5 := cell_of_block HX8.out 5
    have r6 := cell_of_block HX8.out 6
    have r7 := cell_of_block HX8.out 7
    simp only [List.getElem?_toArray, List.getElem?_cons_zero, List.getElem?_cons_succ] at r0 r1 r2 r3 r4 r5 r6 r7
    refine bodyPost_ret (v := .tuple #[.agg #[(.int .i64 0), (.int .i64 0), (.string ⟨#[]⟩), (.string ⟨#[]⟩), (.int .i64 0), (.int .i64 0), (.bool false), (.slice none 0 0)], .slice none 0 0, .bool false]) (by simp [results, Tryd.results15, go_sem, r0, r1, r2, r3, r4, r5, r6, r7]) rfl ?_
    first | exact ⟨zeroI, .slice none 0 0, .slice none 0 0, [], false, rfl, IzsAt.nil _ _, BsAt.nil _ _, Nat.zero_le _, HTI.out _ _, HB8.out⟩ | exact ⟨zeroI, .slice none 0 0, .slice none 0 0, [], Or.inl ⟨rfl, IzsAt.nil _ _, BsAt.nil _ _, Nat.zero_le _, HTI.out _ _, HB8.out⟩⟩
  | true =>
    obtain ⟨a0, a1, a2, a3, a4, rfl⟩ := tn5 HT5.out
    obtain ⟨lb, lo, lc, rfl, l1, l2, z0, z1, z2, z3, z4⟩ := zs5 HZ5.out
    by_cases h4n : a4 < 0
    · have HTI : Hid (∀ x r, Ti 0 l x r false) := ti_flag HT5.out (Or.inl h4n)
      clear HR5 HT5 HZ5
      have d0 := HI5.out.c0 0
      have d1 := HI5.out.c0 1
      have d2 := HI5.out.c0 2
      have d3 := HI5.out.c0 3
      have d4 := HI5.out.c0 4
      have d5 := HI5.out.c0 5
      have d6 := HI5.out.c0 6
      have d7 := HI5.out.c0 7
      have f0 := HI5.out.f0 0
      have f1 := HI5.out.f0 1
      have f2 := HI5.out.f0 2
      have f3 := HI5.out.f0 3
      have f4 := HI5.out.f0 4
      have f5 := HI5.out.f0 5
      have f6 := HI5.out.f0 6
      have f7 := HI5.out.f0 7
      have HB8 : Hid (Below w.heap.size w (set8 w5 G0 (.int .i64 0) (.int .i64 0) (.string ⟨#[]⟩) (.string ⟨#[]⟩) (.int .i64 0) (.int .i64 0) (.bool false) (.slice none 0 0))) := bel8 HI5.out.bel HI5.out.n0 (.int .i64 0) (.int .i64 0) (.string ⟨#[]⟩) (.string ⟨#[]⟩) (.int .i64 0) (.int .i64 0) (.bool false) (.slice none 0 0)
      have HX8 : Hid ((set8 w5 G0 (.int .i64 0) (.int .i64 0) (.string ⟨#[]⟩) (.string ⟨#[]⟩) (.int .i64 0) (.int .i64 0) (.bool false) (.slice none 0 0)).heap[G0]? = some (.cells #[(.int .i64 0), (.int .i64 0), (.string ⟨#[]⟩), (.string ⟨#[]⟩), (.int .i64 0), (.int .i64 0), (.bool false), (.slice none 0 0)] 33)) := put8 HI5.out.b0 (.int .i64 0) (.int .i64 0) (.string ⟨#[]⟩) (.string ⟨#[]⟩) (.int .i64 0) (.int .i64 0) (.bool false) (.slice none 0 0)
      have HP8 : Hid (∀ k, k ≠ G0 → (set8 w5 G0 (.int .i64 0) (.int .i64 0) (.string ⟨#[]⟩) (.string ⟨#[]⟩) (.int .i64 0) (.int .i64 0) (.bool false) (.slice none 0 0)).heap[k]? = w5.heap[k]?) := fun k hk => set8_block _ _ (.int .i64 0) (.int .i64 0) (.string ⟨#[]⟩) (.string ⟨#[]⟩) (.int .i64 0) (.int .i64 0) (.bool false) (.slice none 0 0) k hk
      clear HI5
      go_wp2_with fail
      change bodyPost _ _ _ _ _ (set8 w5 G0 (.int .i64 0) (.int .i64 0) (.string ⟨#[]⟩) (.string ⟨#[]⟩) (.int .i64 0) (.int .i64 0) (.bool false) (.slice none 0 0))
      generalize set8 w5 G0 (.int .i64 0) (.int .i64 0) (.string ⟨#[]⟩) (.string ⟨#[]⟩) (.int .i64 0) (.int .i64 0) (.bool false) (.slice none 0 0) = w99 at *
      have r0 := cell_of_block HX8.out 0
      have r1 := cell_of_block HX8.out 1
      have r2 := cell_of_block HX8.out 2
      have r3 := cell_of_block HX8.out 3
      have r4 := cell_of_block HX8.out 4
      have r5 := cell_of_block HX8.out 5
      have r6 := cell_of_block HX8.out 6
      have r7 := cell_of_block HX8.out 7
      simp only [List.getElem?_toArray, List.getElem?_cons_zero, List.getElem?_cons_succ] at r0 r1 r2 r3 r4 r5 r6 r7
      refine bodyPost_ret (v := .tuple #[.agg #[(.int .i64 0), (.int .i64 0), (.string ⟨#[]⟩), (.string ⟨#[]⟩), (.int .i64 0), (.int .i64 0), (.bool false), (.slice none 0 0)], .slice none 0 0, .bool false]) (by simp [results, Tryd.results15, go_sem, r0, r1, r2, r3, r4, r5, r6, r7]) rfl ?_
      first | exact ⟨zeroI, .slice none 0 0, .slice none 0 0, [], false, rfl, IzsAt.nil _ _, BsAt.nil _ _, Nat.zero_le _, HTI.out _ _, HB8.out⟩ | exact ⟨zeroI, .slice none 0 0, .slice none 0 0, [], Or.inl ⟨rfl, IzsAt.nil _ _, BsAt.nil _ _, Nat.zero_le _, HTI.out _ _, HB8.out⟩⟩
    · by_cases h4g : 1 < a4
      · have HTI : Hid (∀ x r, Ti 0 l x r false) := ti_flag HT5.out (Or.inr h4g)
        clear HR5 HT5 HZ5
        have d0 := HI5.out.c0 0
        have d1 := HI5.out.c0 1
        have d2 := HI5.out.c0 2
        have d3 := HI5.out.c0 3
        have d4 := HI5.out.c0 4
        have d5 := HI5.out.c0 5
        have d6 := HI5.out.c0 6
        have d7 := HI5.out.c0 7
        have f0 := HI5.out.f0 0
        have f1 := HI5.out.f0 1
        have f2 := HI5.out.f0 2
        have f3 := HI5.out.f0 3
        have f4 := HI5.out.f0 4
        have f5 := HI5.out.f0 5
        have f6 := HI5.out.f0 6
        have f7 := HI5.out.f0 7
        have HB8 : Hid (Below w.heap.size w (set8 w5 G0 (.int .i64 0) (.int .i64 0) (.string ⟨#[]⟩) (.string ⟨#[]⟩) (.int .i64 0) (.int .i64 0) (.bool false) (.slice none 0 0))) := bel8 HI5.out.bel HI5.out.n0 (.int .i64 0) (.int .i64 0) (.string ⟨#[]⟩) (.string ⟨#[]⟩) (.int .i64 0) (.int .i64 0) (.bool false) (.slice none 0 0)
        have HX8 : Hid ((set8 w5 G0 (.int .i64 0) (.int .i64 0) (.string ⟨#[]⟩) (.string ⟨#[]⟩) (.int .i64 0) (.int .i64 0) (.bool false) (.slice none 0 0)).heap[G0]? = some (.cells #[(.int .i64 0), (.int .i64 0), (.string ⟨#[]⟩), (.string ⟨#[]⟩), (.int .i64 0), (.int .i64 0), (.bool false), (.slice none 0 0)] 33)) := put8 HI5.out.b0 (.int .i64 0) (.int .i64 0) (.string ⟨#[]⟩) (.string ⟨#[]⟩) (.int .i64 0) (.int .i64 0) (.bool false) (.slice none 0 0)
        have HP8 : Hid (∀ k, k ≠ G0 → (set8 w5 G0 (.int .i64 0) (.int .i64 0) (.string ⟨#[]⟩) (.string ⟨#[]⟩) (.int .i64 0) (.int .i64 0) (.bool false) (.slice none 0 0)).heap[k]? = w5.heap[k]?) := fun k hk => set8_block _ _ (.int .i64 0) (.int .i64 0) (.string ⟨#[]⟩) (.string ⟨#[]⟩) (.int .i64 0) (.int .i64 0) (.bool false) (.slice none 0 0) k hk
        clear HI5
        go_wp2_with fail
        change bodyPost _ _ _ _ _ (set8 w5 G0 (.int .i64 0) (.int .i64 0) (.string ⟨#[]⟩) (.string ⟨#[]⟩) (.int .i64 0) (.int .i64 0) (.bool false) (.slice none 0 0))
        generalize set8 w5 G0 (.int .i64 0) (.int .i64 0) (.string ⟨#[]⟩) (.string ⟨#[]⟩) (.int .i64 0) (.int .i64 0) (.bool false) (.slice none 0 0) = w99 at *
        have r0 := cell_of_block HX8.out 0
        have r1 := cell_of_block HX8.out 1
        have r2 := cell_of_block HX8.out 2
        have r3 := cell_of_block HX8.out 3
        have r4 := cell_of_block HX8.out 4
        have r5 := cell_of_block HX8.out 5
        have r6 := cell_of_block HX8.out 6
        have r7 := cell_of_block HX8.out 7
        simp only [List.getElem?_toArray, List.getElem?_cons_zero, List.getElem?_cons_succ] at r0 r1 r2 r3 r4 r5 r6 r7
        refine bodyPost_ret (v := .tuple #[.agg #[(.int .i64 0), (.int .i64 0), (.string ⟨#[]⟩), (.string ⟨#[]⟩), (.int .i64 0), (.int .i64 0), (.bool false), (.slice none 0 0)], .slice none 0 0, .bool false]) (by simp [results, Tryd.results15, go_sem, r0, r1, r2, r3, r4, r5, r6, r7]) rfl ?_
        first | exact ⟨zeroI, .slice none 0 0, .slice none 0 0, [], false, rfl, IzsAt.nil _ _, BsAt.nil _ _, Nat.zero_le _, HTI.out _ _, HB8.out⟩ | exact ⟨zeroI, .slice none 0 0, .slice none 0 0, [], Or.inl ⟨rfl, IzsAt.nil _ _, BsAt.nil _ _, Nat.zero_le _, HTI.out _ _, HB8.out⟩⟩
      · have HTI : Hid (∀ x r, Ti 0 l x r false) := ti_zero l
        clear HR5 HT5 HZ5
        have d0 := HI5.out.c0 0
        have d1 := HI5.out.c0 1
        have d2 := HI5.out.c0 2
        have d3 := HI5.out.c0 3
        have d4 := HI5.out.c0 4
        have d5 := HI5.out.c0 5
        have d6 := HI5.out.c0 6
        have d7 := HI5.out.c0 7
        have f0 := HI5.out.f0 0
        have f1 := HI5.out.f0 1
        have f2 := HI5.out.f0 2
        have f3 := HI5.out.f0 3
        have f4 := HI5.out.f0 4
        have f5 := HI5.out.f0 5
        have f6 := HI5.out.f0 6
        have f7 := HI5.out.f0 7
        have HB8 : Hid (Below w.heap.size w (set8 w5 G0 (.int .i64 0) (.int .i64 0) (.string ⟨#[]⟩) (.string ⟨#[]⟩) (.int .i64 0) (.int .i64 0) (.bool false) (.slice none 0 0))) := bel8 HI5.out.bel HI5.out.n0 (.int .i64 0) (.int .i64 0) (.string ⟨#[]⟩) (.string ⟨#[]⟩) (.int .i64 0) (.int .i64 0) (.bool false) (.slice none 0 0)
        have HX8 : Hid ((set8 w5 G0 (.int .i64 0) (.int .i64 0) (.string ⟨#[]⟩) (.string ⟨#[]⟩) (.int .i64 0) (.int .i64 0) (.bool false) (.slice none 0 0)).heap[G0]? = some (.cells #[(.int .i64 0), (.int .i64 0), (.string ⟨#[]⟩), (.string ⟨#[]⟩), (.int .i64 0), (.int .i64 0), (.bool false), (.slice none 0 0)] 33)) := put8 HI5.out.b0 (.int .i64 0) (.int .i64 0) (.string ⟨#[]⟩) (.string ⟨#[]⟩) (.int .i64 0) (.int .i64 0) (.bool false) (.slice none 0 0)
        have HP8 : Hid (∀ k, k ≠ G0 → (set8 w5 G0 (.int .i64 0) (.int .i64 0) (.string ⟨#[]⟩) (.string ⟨#[]⟩) (.int .i64 0) (.int .i64 0) (.bool false) (.slice none 0 0)).heap[k]? = w5.heap[k]?) := fun k hk => set8_block _ _ (.int .i64 0) (.int .i64 0) (.string ⟨#[]⟩) (.string ⟨#[]⟩) (.int .i64 0) (.int .i64 0) (.bool false) (.slice none 0 0) k hk
        clear HI5
        go_wp2_with fail
        change bodyPost _ _ _ _ _ (set8 w5 G0 (.int .i64 0) (.int .i64 0) (.string ⟨#[]⟩) (.string ⟨#[]⟩) (.int .i64 0) (.int .i64 0) (.bool false) (.slice none 0 0))
        generalize set8 w5 G0 (.int .i64 0) (.int .i64 0) (.string ⟨#[]⟩) (.string ⟨#[]⟩) (.int .i64 0) (.int .i64 0) (.bool false) (.slice none 0 0) = w99 at *
        have r0 := cell_of_block HX8.out 0
        have r1 := cell_of_block HX8.out 1
        have r2 := cell_of_block HX8.out 2
        have r3 := cell_of_block HX8.out 3
        have r4 := cell_of_block HX8.out 4
        have r5 := cell_of_block HX8.out 5
        have r6 := cell_of_block HX8.out 6
        have r7 := cell_of_block HX8.out 7
        simp only [List.getElem?_toArray, List.getElem?_cons_zero, List.getElem?_cons_succ] at r0 r1 r2 r3 r4 r5 r6 r7
        refine bodyPost_ret (v := .tuple #[.agg #[(.int .i64 0), (.int .i64 0), (.string ⟨#[]⟩), (.string ⟨#[]⟩), (.int .i64 0), (.int .i64 0), (.bool false), (.slice none 0 0)], .slice none 0 0, .bool false]) (by simp [results, Tryd.results15, go_sem, r0, r1, r2, r3, r4, r5, r6, r7]) rfl ?_
        first | exact ⟨zeroI, .slice none 0 0, .slice none 0 0, [], false, rfl, IzsAt.nil _ _, BsAt.nil _ _, Nat.zero_le _, HTI.out _ _, HB8.out⟩ | exact ⟨zeroI, .slice none 0 0, .slice none 0 0, [], Or.inl ⟨rfl, IzsAt.nil _ _, BsAt.nil _ _, Nat.zero_le _, HTI.out _ _, HB8.out⟩⟩

theorem zs5c {w W : World} {b o c : Nat} {a0 a1 a2 a3 a4 : Int} (h : ZsAt w (.slice (some ⟨b, o, none⟩) 5 c) [a0, a1, a2, a3, a4]) (hb : Below w.heap.size w W) :
    W.cell? ⟨b, o, none⟩ = some (.int .i64 a0) ∧ W.cell? ⟨b, o + 1, none⟩ = some (.int .i64 a1) ∧ W.cell? ⟨b, o + 2, none⟩ = some (.int .i64 a2) ∧ W.cell? ⟨b, o + 3, none⟩ = some (.int .i64 a3) ∧ W.cell? ⟨b, o + 4, none⟩ = some (.int .i64 a4) := by
  obtain ⟨b', o', c', e, _, _, h⟩ := zs5 (zs_under h hb)
  cases e
  exact h

set_option maxHeartbeats 3200000 in
set_option maxRecDepth 100000 in
theorem uitem_succ {d : Nat} (hd : d + 1 ≤ 61) (HI : ItemU d) : ItemU (d + 1) := by
  intro w P v l h hP hL hl
  have HU : Hid (ItemU d) := HI
  obtain ⟨av, hav⟩ : ∃ av : Int, av = 61 - ((d + 1 : Nat) : Int) := ⟨_, rfl⟩
  have ha : Hid ((61 : Int) - (d : Int) = av + 1) := by show _ = _; omega
  have h60 : av ≤ 60 := by omega
  have h0 : 0 ≤ av := by omega
  rw [← hav]
  clear hav HI hd
  have B1 : Below w.heap.size w (w.alloc (.cells #[.int .i64 0, .int .i64 0, .string ⟨#[]⟩, .string ⟨#[]⟩, .int .i64 0, .int .i64 0, .bool false, .slice none 0 0] 33)) := (Below.refl _ _).alloc (Nat.le_refl _) _
  have HI1 : Hid (Iu w (w.alloc (.cells #[.int .i64 0, .int .i64 0, .string ⟨#[]⟩, .string ⟨#[]⟩, .int .i64 0, .int .i64 0, .bool false, .slice none 0 0] 33)) w.heap.size) := ⟨B1, heap_alloc_new _ _, Nat.le_refl _⟩
  have hs1 : w.heap.size ≤ (w.alloc (.cells #[.int .i64 0, .int .i64 0, .string ⟨#[]⟩, .string ⟨#[]⟩, .int .i64 0, .int .i64 0, .bool false, .slice none 0 0] 33)).heap.size := B1.size
  have C := unumbers (h.under B1) (fun g hg => Nat.lt_of_lt_of_le (hP g hg) hs1) ((hL.on B1).up hs1) hl 5 (by decide)
  rw [show ((5 : Nat) : Int) = 5 from rfl] at C
  have HP : Hid (∀ g, P g → g < w.heap.size) := hP
  have HL : Hid (LtB w.heap.size w) := hL
  have HLL : Hid (l.length ≤ 100000000) := hl
  obtain ⟨p, c, rfl⟩ := h.shape
  clear h hL hl B1 hs1 hP
  generalize hln : l.length = ln at *
  go_enter Tryd.func15, Tryd.ntmps15
  go_upto_region 1 with fail
  generalize w.alloc (.cells #[.int .i64 0, .int .i64 0, .string ⟨#[]⟩, .string ⟨#[]⟩, .int .i64 0, .int .i64 0, .bool false, .slice none 0 0] 33) = w1 at *
  generalize hG : w.heap.size = G0 at *
  have HG : Hid (w.heap.size = G0) := hG
  have HLN : Hid (l.length = ln) := hln
  have HLW : Hid (LtB w.heap.size w) := by show LtB w.heap.size w; rw [hG]; exact HL.out
  have HPW : Hid (∀ g, P g → g < w.heap.size) := fun g hg => by rw [hG]; exact HP.out g hg
  clear hG hln HL HP
  go_upto_region 2 with (go_at_call 14; refine C.mono ?_; clear C; rintro e w5 ⟨lv, xs, rv, r, ok, rfl, ho, hr, hlen, ht, hb⟩)
  have HI5 : Hid (Iu w w5 G0) := HI1.out.on hb
  have HZ5 : Hid (ZsAt w5 lv xs) := zs_of_owns ho
  have HR5 : Hid (BsAt w5 P rv r) := hr
  have HT5 : Hid (Tn 5 l xs r ok) := ht
  have HLE5 : Hid (r.length ≤ ln) := hlen
  clear HI1 ho hr hlen ht hb
  cases ok with
  | false =>
    have HTI : Hid (∀ x r, Ti (d + 1) l x r false) := ti_nums HT5.out
    clear HZ5 HR5 HT5
    have d0 := HI5.out.c0 0
    have d1 := HI5.out.c0 1
    have d2 := HI5.out.c0 2
    have d3 := HI5.out.c0 3
    have d4 := HI5.out.c0 4
    have d5 := HI5.out.c0 5
    have d6 := HI5.out.c0 6
    have d7 := HI5.out.c0 7
    have f0 := HI5.out.f0 0
    have f1 := HI5.out.f0 1
    have f2 := HI5.out.f0 2
    have f3 := HI5.out.f0 3
    have f4 := HI5.out.f0 4
    have f5 := HI5.out.f0 5
    have f6 := HI5.out.f0 6
    have f7 := HI5.out.f0 7
    have HB8 : Hid (Below w.heap.size w (set8 w5 G0 (.int .i64 0) (.int .i64 0) (.string ⟨#[]⟩) (.string ⟨#[]⟩) (.int .i64 0) (.int .i64 0) (.bool false) (.slice none 0 0))) := bel8 HI5.out.bel HI5.out.n0 (.int .i64 0) (.int .i64 0) (.string ⟨#[]⟩) (.string ⟨#[]⟩) (.int .i64 0) (.int .i64 0) (.bool false) (.slice none 0 0)
    have HX8 : Hid ((set8 w5 G0 (.int .i64 0) (.int .i64 0) (.string ⟨#[]⟩) (.string ⟨#[]⟩) (.int .i64 0) (.int .i64 0) (.bool false) (.slice none 0 0)).heap[G0]? = some (.cells #[(.int .i64 0), (.int .i64 0), (.string ⟨#[]⟩), (.string ⟨#[]⟩), (.int .i64 0), (.int .i64 0), (.bool false), (.slice none 0 0)] 33)) := put8 HI5.out.b0 (.int .i64 0) (.int .i64 0) (.string ⟨#[]⟩) (.string ⟨#[]⟩) (.int .i64 0) (.int .i64 0) (.bool false) (.slice none 0 0)
    have HP8 : Hid (∀ k, k ≠ G0 → (set8 w5 G0 (.int .i64 0) (.int .i64 0) (.string ⟨#[]⟩) (.string ⟨#[]⟩) (.int .i64 0) (.int .i64 0) (.bool false) (.slice none 0 0)).heap[k]? = w5.heap[k]?) := fun k hk => set8_block _ _ (.int .i64 0) (.int .i64 0) (.string ⟨#[]⟩) (.string ⟨#[]⟩) (.int .i64 0) (.int .i64 0) (.bool false) (.slice none 0 0) k hk
    clear HI5
    go_wp2_with fail
    change bodyPost _ _ _ _ _ (set8 w5 G0 (.int .i64 0) (.int .i64 0) (.string ⟨#[]⟩) (.string ⟨#[]⟩) (.int .i64 0) (.int .i64 0) (.bool false) (.slice none 0 0))
    generalize set8 w5 G0 (.int .i64 0) (.int .i64 0) (.string ⟨#[]⟩) (.string ⟨#[]⟩) (.int .i64 0) (.int .i64 0) (.bool false) (.slice none 0 0) = w99 at *
    have r0 := cell_of_block HX8.out 0
    have r1 := cell_of_block HX8.out 1
    have r2 := cell_of_block HX8.out 2
    have r3 := cell_of_block HX8.out 3
    have r4 := cell_of_block HX8.out 4
    have r5 := cell_of_block HX8.out 5
    have r6 := cell_of_block HX8.out 6
    have r7 := cell_of_block HX8.out 7
    simp only [List.getElem?_toArray, List.getElem?_cons_zero, List.getElem?_cons_succ] at r0 r1 r2 r3 r4 r5 r6 r7
    refine bodyPost_ret (v := .tuple #[.agg #[(.int .i64 0), (.int .i64 0), (.string ⟨#[]⟩), (.string ⟨#[]⟩), (.int .i64 0), (.int .i64 0), (.bool false), (.slice none 0 0)], .slice none 0 0, .bool false]) (by simp [results, Tryd.results15, go_sem, r0, r1, r2, r3, r4, r5, r6, r7]) rfl ?_
    first | exact ⟨zeroI, .slice none 0 0, .slice none 0 0, [], false, rfl, IzsAt.nil _ _, BsAt.nil _ _, Nat.zero_le _, HTI.out _ _, HB8.out⟩ | exact ⟨zeroI, .slice none 0 0, .slice none 0 0, [], Or.inl ⟨rfl, IzsAt.nil _ _, BsAt.nil _ _, Nat.zero_le _, HTI.out _ _, HB8.out⟩⟩
  | true =>
    obtain ⟨a0, a1, a2, a3, a4, rfl⟩ := tn5 HT5.out
    obtain ⟨lb, lo, lc, rfl, l1, l2, z0, z1, z2, z3, z4⟩ := zs5 HZ5.out
    by_cases h4n : a4 < 0
    · have HTI : Hid (∀ x r, Ti (d + 1) l x r false) := ti_flag HT5.out (Or.inl h4n)
      clear HR5 HT5 HZ5
      have d0 := HI5.out.c0 0
      have d1 := HI5.out.c0 1
      have d2 := HI5.out.c0 2
      have d3 := HI5.out.c0 3
      have d4 := HI5.out.c0 4
      have d5 := HI5.out.c0 5
      have d6 := HI5.out.c0 6
      have d7 := HI5.out.c0 7
      have f0 := HI5.out.f0 0
      have f1 := HI5.out.f0 1
      have f2 := HI5.out.f0 2
      have f3 := HI5.out.f0 3
      have f4 := HI5.out.f0 4
      have f5 := HI5.out.f0 5
      have f6 := HI5.out.f0 6
      have f7 := HI5.out.f0 7
      have HB8 : Hid (Below w.heap.size w (set8 w5 G0 (.int .i64 0) (.int .i64 0) (.string ⟨#[]⟩) (.string ⟨#[]⟩) (.int .i64 0) (.int .i64 0) (.bool false) (.slice none 0 0))) := bel8 HI5.out.bel HI5.out.n0 (.int .i64 0) (.int .i64 0) (.string ⟨#[]⟩) (.string ⟨#[]⟩) (.int .i64 0) (.int .i64 0) (.bool false) (.slice none 0 0)
      have HX8 : Hid ((set8 w5 G0 (.int .i64 0) (.int .i64 0) (.string ⟨#[]⟩) (.string ⟨#[]⟩) (.int .i64 0) (.int .i64 0) (.bool false) (.slice none 0 0)).heap[G0]? = some (.cells #[(.int .i64 0), (.int .i64 0), (.string ⟨#[]⟩), (.string ⟨#[]⟩), (.int .i64 0), (.int .i64 0), (.bool false), (.slice none 0 0)] 33)) := put8 HI5.out.b0 (.int .i64 0) (.int .i64 0) (.string ⟨#[]⟩) (.string ⟨#[]⟩) (.int .i64 0) (.int .i64 0) (.bool false) (.slice none 0 0)
      have HP8 : Hid (∀ k, k ≠ G0 → (set8 w5 G0 (.int .i64 0) (.int .i64 0) (.string ⟨#[]⟩) (.string ⟨#[]⟩) (.int .i64 0) (.int .i64 0) (.bool false) (.slice none 0 0)).heap[k]? = w5.heap[k]?) := fun k hk => set8_block _ _ (.int .i64 0) (.int .i64 0) (.string ⟨#[]⟩) (.string ⟨#[]⟩) (.int .i64 0) (.int .i64 0) (.bool false) (.slice none 0 0) k hk
      clear HI5
      go_wp2_with fail
      change bodyPost _ _ _ _ _ (set8 w5 G0 (.int .i64 0) (.int .i64 0) (.string ⟨#[]⟩) (.string ⟨#[]⟩) (.int .i64 0) (.int .i64 0) (.bool false) (.slice none 0 0))
      generalize set8 w5 G0 (.int .i64 0) (.int .i64 0) (.string ⟨#[]⟩) (.string ⟨#[]⟩) (.int .i64 0) (.int .i64 0) (.bool false) (.slice none 0 0) = w99 at *
      have r0 := cell_of_block HX8.out 0
      have r1 := cell_of_block HX8.out 1
      have r2 := cell_of_block HX8.out 2
      have r3 := cell_of_block HX8.out 3
      have r4 := cell_of_block HX8.out 4
      have r5 := cell_of_block HX8.out 5
      have r6 := cell_of_block HX8.out 6
      have r7 := cell_of_block HX8.out 7
      simp only [List.getElem?_toArray, List.getElem?_cons_zero, List.getElem?_cons_succ] at r0 r1 r2 r3 r4 r5 r6 r7
      refine bodyPost_ret (v := .tuple #[.agg #[(.int .i64 0), (.int .i64 0), (.string ⟨#[]⟩), (.string ⟨#[]⟩), (.int .i64 0), (.int .i64 0), (.bool false), (.slice none 0 0)], .slice none 0 0, .bool false]) (by simp [results, Tryd.results15, go_sem, r0, r1, r2, r3, r4, r5, r6, r7]) rfl ?_
      first | exact ⟨zeroI, .slice none 0 0, .slice none 0 0, [], false, rfl, IzsAt.nil _ _, BsAt.nil _ _, Nat.zero_le _, HTI.out _ _, HB8.out⟩ | exact ⟨zeroI, .slice none 0 0, .slice none 0 0, [], Or.inl ⟨rfl, IzsAt.nil _ _, BsAt.nil _ _, Nat.zero_le _, HTI.out _ _, HB8.out⟩⟩
    · by_cases h4g : 1 < a4
      · have HTI : Hid (∀ x r, Ti (d + 1) l x r false) := ti_flag HT5.out (Or.inr h4g)
        clear HR5 HT5 HZ5
        have d0 := HI5.out.c0 0
        have d1 := HI5.out.c0 1
        have d2 := HI5.out.c0 2
        have d3 := HI5.out.c0 3
        have d4 := HI5.out.c0 4
        have d5 := HI5.out.c0 5
        have d6 := HI5.out.c0 6
        have d7 := HI5.out.c0 7
        have f0 := HI5.out.f0 0
        have f1 := HI5.out.f0 1
        have f2 := HI5.out.f0 2
        have f3 := HI5.out.f0 3
        have f4 := HI5.out.f0 4
        have f5 := HI5.out.f0 5
        have f6 := HI5.out.f0 6
        have f7 := HI5.out.f0 7
        have HB8 : Hid (Below w.heap.size w (set8 w5 G0 (.int .i64 0) (.int .i64 0) (.string ⟨#[]⟩) (.string ⟨#[]⟩) (.int .i64 0) (.int .i64 0) (.bool false) (.slice none 0 0))) := bel8 HI5.out.bel HI5.out.n0 (.int .i64 0) (.int .i64 0) (.string ⟨#[]⟩) (.string ⟨#[]⟩) (.int .i64 0) (.int .i64 0) (.bool false) (.slice none 0 0)
        have HX8 : Hid ((set8 w5 G0 (.int .i64 0) (.int .i64 0) (.string ⟨#[]⟩) (.string ⟨#[]⟩) (.int .i64 0) (.int .i64 0) (.bool false) (.slice none 0 0)).heap[G0]? = some (.cells #[(.int .i64 0), (.int .i64 0), (.string ⟨#[]⟩), (.string ⟨#[]⟩), (.int .i64 0), (.int .i64 0), (.bool false), (.slice none 0 0)] 33)) := put8 HI5.out.b0 (.int .i64 0) (.int .i64 0) (.string ⟨#[]⟩) (.string ⟨#[]⟩) (.int .i64 0) (.int .i64 0) (.bool false) (.slice none 0 0)
        have HP8 : Hid (∀ k, k ≠ G0 → (set8 w5 G0 (.int .i64 0) (.int .i64 0) (.string ⟨#[]⟩) (.string ⟨#[]⟩) (.int .i64 0) (.int .i64 0) (.bool false) (.slice none 0 0)).heap[k]? = w5.heap[k]?) := fun k hk => set8_block _ _ (.int .i64 0) (.int .i64 0) (.string ⟨#[]⟩) (.string ⟨#[]⟩) (.int .i64 0) (.int .i64 0) (.bool false) (.slice none 0 0) k hk
        clear HI5
        go_wp2_with fail
        change bodyPost _ _ _ _ _ (set8 w5 G0 (.int .i64 0) (.int .i64 0) (.string ⟨#[]⟩) (.string ⟨#[]⟩) (.int .i64 0) (.int .i64 0) (.bool false) (.slice none 0 0))
        generalize set8 w5 G0 (.int .i64 0) (.int .i64 0) (.string ⟨#[]⟩) (.string ⟨#[]⟩) (.int .i64 0) (.int .i64 0) (.bool false) (.slice none 0 0) = w99 at *
        have r0 := cell_of_block HX8.out 0
        have r1 := cell_of_block HX8.out 1
        have r2 := cell_of_block HX8.out 2
        have r3 := cell_of_block HX8.out 3
        have r4 := cell_of_block HX8.out 4
        have r5 := cell_of_block HX8.out 5
        have r6 := cell_of_block HX8.out 6
        have r7 := cell_of_block HX8.out 7
        simp only [List.getElem?_toArray, List.getElem?_cons_zero, List.getElem?_cons_succ] at r0 r1 r2 r3 r4 r5 r6 r7
        refine bodyPost_ret (v := .tuple #[.agg #[(.int .i64 0), (.int .i64 0), (.string ⟨#[]⟩), (.string ⟨#[]⟩), (.int .i64 0), (.int .i64 0), (.bool false), (.slice none 0 0)], .slice none 0 0, .bool false]) (by simp [results, Tryd.results15, go_sem, r0, r1, r2, r3, r4, r5, r6, r7]) rfl ?_
        first | exact ⟨zeroI, .slice none 0 0, .slice none 0 0, [], false, rfl, IzsAt.nil _ _, BsAt.nil _ _, Nat.zero_le _, HTI.out _ _, HB8.out⟩ | exact ⟨zeroI, .slice none 0 0, .slice none 0 0, [], Or.inl ⟨rfl, IzsAt.nil _ _, BsAt.nil _ _, Nat.zero_le _, HTI.out _ _, HB8.out⟩⟩
      · have T1H : Hid (T1 d l a0 a1 a2 a3 (a4 == 1) r) := t1_of HT5.out (fun h => by rcases h with h | h; exact h4n h; exact h4g h)
        clear HT5
        go_upto_region 4 with fail
        clear z0 z1 z2 z3 z4
        refine wp_region_held_drew (S := fun W : World => Below w5.heap.size w5 W) (by kernel_rfl) ?_ (fun hHeld => ?_)
        · (first | exact (Below.refl _ _).drew | exact ((Below.refl _ _).drew.alloc (Nat.le_refl _) _) | exact (((Below.refl _ _).alloc (Nat.le_refl _) _)) | trivial)
        refine wpAnyH_take (i := 0) (v := ?v0) rfl (by kernel_rfl) (by kernel_rfl) (by kernel_rfl) (fun _ _ _ h => h) (Or.inl ⟨by kernel_rfl, ?hy0⟩) (by assumption) ?rest0
        case hy0 => intro wS hSw; clear hSw; first | (go_simp; done) | (go_simp; with_reducible rfl) | with_reducible rfl
        (try simp only [List.getElem_toArray, List.getElem_cons_zero]); (try dsimp only); (try go_frame)
        refine wpAnyH_take (i := 1) (v := ?v1) rfl (by kernel_rfl) (by kernel_rfl) (by kernel_rfl) (fun _ _ _ h => h) (Or.inl ⟨by kernel_rfl, ?hy1⟩) (by assumption) ?rest1
        case hy1 => intro wS hSw; clear hSw; first | (go_simp; done) | (go_simp; with_reducible rfl) | with_reducible rfl
        (try simp only [List.getElem_toArray, List.getElem_cons_succ, List.getElem_cons_zero]); (try dsimp only); (try go_frame)
        refine wpAnyH_take (i := 2) (v := ?v2) rfl (by kernel_rfl) (by kernel_rfl) (by kernel_rfl) (fun _ _ _ h => h) (Or.inl ⟨by kernel_rfl, ?hy2⟩) (by assumption) ?rest2
        case hy2 => intro wS hSw; (try dsimp only at hSw); have q := (zs5c HZ5.out hSw).1; clear hSw; first | (go_simp; done) | (go_simp; with_reducible rfl) | with_reducible rfl
        (try simp only [List.getElem_toArray, List.getElem_cons_succ, List.getElem_cons_zero]); (try dsimp only); (try go_frame)
        refine wpAnyH_take (i := 3) (v := ?v3) rfl (by kernel_rfl) (by kernel_rfl) (by kernel_rfl) (fun _ _ _ h => h) (Or.inl ⟨by kernel_rfl, ?hy3⟩) (by assumption) ?rest3
        case hy3 => intro wS hSw; clear hSw; first | (go_simp; done) | (go_simp; with_reducible rfl) | with_reducible rfl
        (try simp only [List.getElem_toArray, List.getElem_cons_succ, List.getElem_cons_zero]); (try dsimp only); (try go_frame)
        refine wpAnyH_take (i := 4) (v := ?v4) rfl (by kernel_rfl) (by kernel_rfl) (by kernel_rfl) (fun _ _ _ h => h) (Or.inl ⟨by kernel_rfl, ?hy4⟩) (by assumption) ?rest4
        case hy4 => intro wS hSw; clear hSw; first | (go_simp; done) | (go_simp; with_reducible rfl) | with_reducible rfl
        (try simp only [List.getElem_toArray, List.getElem_cons_succ, List.getElem_cons_zero]); (try dsimp only); (try go_frame)
        refine wpAnyH_take (i := 5) (v := ?v5) rfl (by kernel_rfl) (by kernel_rfl) (by kernel_rfl) (fun _ _ _ h => h) (Or.inl ⟨by kernel_rfl, ?hy5⟩) (by assumption) ?rest5
        case hy5 => intro wS hSw; (try dsimp only at hSw); have q := (zs5c HZ5.out hSw).2.1; clear hSw; first | (go_simp; done) | (go_simp; with_reducible rfl) | with_reducible rfl
        (try simp only [List.getElem_toArray, List.getElem_cons_succ, List.getElem_cons_zero]); (try dsimp only); (try go_frame)
        refine wpAnyH_take (i := 6) (v := ?v6) rfl (by kernel_rfl) (by kernel_rfl) (by kernel_rfl) (fun _ _ _ h => h) (Or.inl ⟨by kernel_rfl, ?hy6⟩) (by assumption) ?rest6
        case hy6 => intro wS hSw; clear hSw; first | (go_simp; done) | (go_simp; with_reducible rfl) | with_reducible rfl
        (try simp only [List.getElem_toArray, List.getElem_cons_succ, List.getElem_cons_zero]); (try dsimp only); (try go_frame)
        refine wpAnyH_take (i := 7) (v := ?v7) rfl (by kernel_rfl) (by kernel_rfl) (by kernel_rfl) (fun _ _ _ h => h) (Or.inl ⟨by kernel_rfl, ?hy7⟩) (by assumption) ?rest7
        case hy7 => intro wS hSw; clear hSw; first | (go_simp; done) | (go_simp; with_reducible rfl) | with_reducible rfl
        (try simp only [List.getElem_toArray, List.getElem_cons_succ, List.getElem_cons_zero]); (try dsimp only); (try go_frame)
        refine wpAnyH_take (i := 8) (v := ?v8) rfl (by kernel_rfl) (by kernel_rfl) (by kernel_rfl) (fun _ _ _ h => h) (Or.inl ⟨by kernel_rfl, ?hy8⟩) (by assumption) ?rest8
        case hy8 => intro wS hSw; (try dsimp only at hSw); have q := (zs5c HZ5.out hSw).2.2.1; clear hSw; first | (go_simp; done) | (go_simp; with_reducible rfl) | with_reducible rfl
        (try simp only [List.getElem_toArray, List.getElem_cons_succ, List.getElem_cons_zero]); (try dsimp only); (try go_frame)
        refine wpAnyH_take (i := 9) (v := ?v9) rfl (by kernel_rfl) (by kernel_rfl) (by kernel_rfl) (fun _ _ _ h => h) (Or.inl ⟨by kernel_rfl, ?hy9⟩) (by assumption) ?rest9
        case hy9 => intro wS hSw; clear hSw; first | (go_simp; done) | (go_simp; with_reducible rfl) | with_reducible rfl
        (try simp only [List.getElem_toArray, List.getElem_cons_succ, List.getElem_cons_zero]); (try dsimp only); (try go_frame)
        refine wpAnyH_take (i := 10) (v := ?v10) rfl (by kernel_rfl) (by kernel_rfl) (by kernel_rfl) (fun _ _ _ h => h) (Or.inl ⟨by kernel_rfl, ?hy10⟩) (by assumption) ?rest10
        case hy10 => intro wS hSw; clear hSw; first | (go_simp; done) | (go_simp; with_reducible rfl) | with_reducible rfl
        (try simp only [List.getElem_toArray, List.getElem_cons_succ, List.getElem_cons_zero]); (try dsimp only); (try go_frame)
        refine wpAnyH_take (i := 11) (v := ?v11) rfl (by kernel_rfl) (by kernel_rfl) (by kernel_rfl) (fun _ _ _ h => h) (Or.inl ⟨by kernel_rfl, ?hy11⟩) (by assumption) ?rest11
        case hy11 => intro wS hSw; (try dsimp only at hSw); have q := (zs5c HZ5.out hSw).2.2.2.1; clear hSw; first | (go_simp; done) | (go_simp; with_reducible rfl) | with_reducible rfl
        (try simp only [List.getElem_toArray, List.getElem_cons_succ, List.getElem_cons_zero]); (try dsimp only); (try go_frame)
        refine wpAnyH_take (i := 12) (v := ?v12) rfl (by kernel_rfl) (by kernel_rfl) (by kernel_rfl) (fun _ _ _ h => h) (Or.inl ⟨by kernel_rfl, ?hy12⟩) (by assumption) ?rest12
        case hy12 => intro wS hSw; clear hSw; first | (go_simp; done) | (go_simp; with_reducible rfl) | with_reducible rfl
        (try simp only [List.getElem_toArray, List.getElem_cons_succ, List.getElem_cons_zero]); (try dsimp only); (try go_frame)
        refine wpAnyH_take (i := 13) (v := ?v13) rfl (by kernel_rfl) (by kernel_rfl) (by kernel_rfl) (fun _ _ _ h => h) (Or.inl ⟨by kernel_rfl, ?hy13⟩) (by assumption) ?rest13
        case hy13 => intro wS hSw; clear hSw; first | (go_simp; done) | (go_simp; with_reducible rfl) | with_reducible rfl
        (try simp only [List.getElem_toArray, List.getElem_cons_succ, List.getElem_cons_zero]); (try dsimp only); (try go_frame)
        refine wpAnyH_take (i := 14) (v := ?v14) rfl (by kernel_rfl) (by kernel_rfl) (by kernel_rfl) (fun _ _ _ h => h) (Or.inl ⟨by kernel_rfl, ?hy14⟩) (by assumption) ?rest14
        case hy14 => intro wS hSw; (try dsimp only at hSw); have q := (zs5c HZ5.out hSw).2.2.2.2; clear hSw; first | (go_simp; done) | (go_simp; with_reducible rfl) | with_reducible rfl
        (try simp only [List.getElem_toArray, List.getElem_cons_succ, List.getElem_cons_zero]); (try dsimp only); (try go_frame)
        refine wpAnyH_take (i := 15) (v := ?v15) rfl (by kernel_rfl) (by kernel_rfl) (by kernel_rfl) (fun _ _ _ h => h) (Or.inl ⟨by kernel_rfl, ?hy15⟩) (by assumption) ?rest15
        case hy15 => intro wS hSw; clear hSw; first | (go_simp; done) | (go_simp; with_reducible rfl) | with_reducible rfl
        (try simp only [List.getElem_toArray, List.getElem_cons_succ, List.getElem_cons_zero]); (try dsimp only); (try go_frame)
        refine wpAnyH_take (i := 16) (v := ?v16) rfl (by kernel_rfl) (by kernel_rfl) (by kernel_rfl) (fun _ _ _ h => h) (Or.inl ⟨by kernel_rfl, ?hy16⟩) (by assumption) ?rest16
        case hy16 => intro wS hSw; clear hSw; first | (go_simp; done) | (go_simp; with_reducible rfl) | with_reducible rfl
        (try simp only [List.getElem_toArray, List.getElem_cons_succ, List.getElem_cons_zero]); (try dsimp only); (try go_frame)
        refine wpAnyH_ready (rs := [17]) (by kernel_rfl) (by simp) ?_
        refine AllReadyH.cons rfl (fun K hK => ?_) AllReadyH.nil
        go_simp
        (try go_wp2_with fail)
        clear hHeld
        refine hK.out _ _ ?_ (fun hHeld => ?_)
        · (first | exact (Below.refl _ _).drew | exact ((Below.refl _ _).drew.alloc (Nat.le_refl _) _) | exact (((Below.refl _ _).alloc (Nat.le_refl _) _)) | trivial)
        clear hK K
        (try simp only [List.getElem_toArray, List.getElem_cons_succ, List.getElem_cons_zero]); (try dsimp only); (try go_frame)
        refine wpAnyH_ready (rs := [18]) (by kernel_rfl) (by simp) ?_
        refine AllReadyH.cons rfl (fun K hK => ?_) AllReadyH.nil
        go_simp
        (try go_wp2_with fail)
        clear hHeld
        refine hK.out _ _ ?_ (fun hHeld => ?_)
        · (first | exact (Below.refl _ _).drew | exact ((Below.refl _ _).drew.alloc (Nat.le_refl _) _) | exact (((Below.refl _ _).alloc (Nat.le_refl _) _)) | trivial)
        clear hK K
        (try simp only [List.getElem_toArray, List.getElem_cons_succ, List.getElem_cons_zero]); (try dsimp only); (try go_frame)
        refine wpAnyH_done (by kernel_rfl) ?_ _
        have B6 : Below w5.heap.size w5 (w5.alloc (.cells #[.int .i64 a0, .int .i64 a1, .string ⟨#[]⟩, .string ⟨#[]⟩, .int .i64 a2, .int .i64 a3, .bool (a4 == 1), .slice none 0 0] 33)).drew := ((Below.refl _ _).alloc (Nat.le_refl _) _).drew
        have X6 : (w5.alloc (.cells #[.int .i64 a0, .int .i64 a1, .string ⟨#[]⟩, .string ⟨#[]⟩, .int .i64 a2, .int .i64 a3, .bool (a4 == 1), .slice none 0 0] 33)).drew.heap[w5.heap.size]? = some (.cells #[.int .i64 a0, .int .i64 a1, .string ⟨#[]⟩, .string ⟨#[]⟩, .int .i64 a2, .int .i64 a3, .bool (a4 == 1), .slice none 0 0] 33) := heap_alloc_new _ _
        have HI6 : Hid (Iv w (w5.alloc (.cells #[.int .i64 a0, .int .i64 a1, .string ⟨#[]⟩, .string ⟨#[]⟩, .int .i64 a2, .int .i64 a3, .bool (a4 == 1), .slice none 0 0] 33)).drew G0 w5.heap.size #[.int .i64 a0, .int .i64 a1, .string ⟨#[]⟩, .string ⟨#[]⟩, .int .i64 a2, .int .i64 a3, .bool (a4 == 1), .slice none 0 0]) := ⟨(HI5.out.on B6).bel, (HI5.out.on B6).b0, X6, HI5.out.n0, HI5.out.bel.size, Nat.ne_of_lt HI5.out.lt⟩
        have HR6 : Hid (BsAt (w5.alloc (.cells #[.int .i64 a0, .int .i64 a1, .string ⟨#[]⟩, .string ⟨#[]⟩, .int .i64 a2, .int .i64 a3, .bool (a4 == 1), .slice none 0 0] 33)).drew P rv r) := HR5.out.under B6
        clear B6 X6 HI5 HR5 HZ5
        (try clear hHeld)
        generalize (w5.alloc (.cells #[.int .i64 a0, .int .i64 a1, .string ⟨#[]⟩, .string ⟨#[]⟩, .int .i64 a2, .int .i64 a3, .bool (a4 == 1), .slice none 0 0] 33)).drew = w6 at *
        generalize w5.heap.size = G9 at *
        have C := uword HR6.out ((HLW.out.on HI6.out.bel).up HI6.out.bel.size) (by have := HLE5.out; have := HLL.out; omega)
        go_upto_region 6 with (go_at_call 24; refine C.mono ?_; clear C; rintro e w7 ⟨t1, v7, r7, ok, rfl, hr, hlen, ht, hb⟩)
        have HI7 : Hid (Iv w w7 G0 G9 #[.int .i64 a0, .int .i64 a1, .string ⟨#[]⟩, .string ⟨#[]⟩, .int .i64 a2, .int .i64 a3, .bool (a4 == 1), .slice none 0 0]) := HI6.out.on hb
        have HR7 : Hid (BsAt w7 P v7 r7) := hr
        have HT7 : Hid (Tw r t1 r7 ok) := ht
        have HLE7 : Hid (r7.length ≤ ln) := by have := HLE5.out; show _ ≤ _; omega
        clear HI6 HR6 HLE5 hr hlen ht hb
        cases ok with
        | false =>
          have HTI : Hid (∀ x r, Ti (d + 1) l x r false) := T1H.out.no HT7.out
          clear HR7 HT7 T1H
          have c0 := HI7.out.c9 0
          have c1 := HI7.out.c9 1
          have c2 := HI7.out.c9 2
          have c3 := HI7.out.c9 3
          have c4 := HI7.out.c9 4
          have c5 := HI7.out.c9 5
          have c6 := HI7.out.c9 6
          have c7 := HI7.out.c9 7
          have d0 := HI7.out.c0 0
          have d1 := HI7.out.c0 1
          have d2 := HI7.out.c0 2
          have d3 := HI7.out.c0 3
          have d4 := HI7.out.c0 4
          have d5 := HI7.out.c0 5
          have d6 := HI7.out.c0 6
          have d7 := HI7.out.c0 7
          have f0 := HI7.out.f0 0
          have f1 := HI7.out.f0 1
          have f2 := HI7.out.f0 2
          have f3 := HI7.out.f0 3
          have f4 := HI7.out.f0 4
          have f5 := HI7.out.f0 5
          have f6 := HI7.out.f0 6
          have f7 := HI7.out.f0 7
          have HB8 : Hid (Below w.heap.size w (set8 w7 G0 (.int .i64 a0) (.int .i64 a1) (.string ⟨#[]⟩) (.string ⟨#[]⟩) (.int .i64 a2) (.int .i64 a3) (.bool (a4 == 1)) (.slice none 0 0))) := bel8 HI7.out.bel HI7.out.n0 (.int .i64 a0) (.int .i64 a1) (.string ⟨#[]⟩) (.string ⟨#[]⟩) (.int .i64 a2) (.int .i64 a3) (.bool (a4 == 1)) (.slice none 0 0)
          have HX8 : Hid ((set8 w7 G0 (.int .i64 a0) (.int .i64 a1) (.string ⟨#[]⟩) (.string ⟨#[]⟩) (.int .i64 a2) (.int .i64 a3) (.bool (a4 == 1)) (.slice none 0 0)).heap[G0]? = some (.cells #[(.int .i64 a0), (.int .i64 a1), (.string ⟨#[]⟩), (.string ⟨#[]⟩), (.int .i64 a2), (.int .i64 a3), (.bool (a4 == 1)), (.slice none 0 0)] 33)) := put8 HI7.out.b0 (.int .i64 a0) (.int .i64 a1) (.string ⟨#[]⟩) (.string ⟨#[]⟩) (.int .i64 a2) (.int .i64 a3) (.bool (a4 == 1)) (.slice none 0 0)
          have HP8 : Hid (∀ k, k ≠ G0 → (set8 w7 G0 (.int .i64 a0) (.int .i64 a1) (.string ⟨#[]⟩) (.string ⟨#[]⟩) (.int .i64 a2) (.int .i64 a3) (.bool (a4 == 1)) (.slice none 0 0)).heap[k]? = w7.heap[k]?) := fun k hk => set8_block _ _ (.int .i64 a0) (.int .i64 a1) (.string ⟨#[]⟩) (.string ⟨#[]⟩) (.int .i64 a2) (.int .i64 a3) (.bool (a4 == 1)) (.slice none 0 0) k hk
          clear HI7
          go_wp2_with fail
          change bodyPost _ _ _ _ _ (set8 w7 G0 (.int .i64 a0) (.int .i64 a1) (.string ⟨#[]⟩) (.string ⟨#[]⟩) (.int .i64 a2) (.int .i64 a3) (.bool (a4 == 1)) (.slice none 0 0))
          generalize set8 w7 G0 (.int .i64 a0) (.int .i64 a1) (.string ⟨#[]⟩) (.string ⟨#[]⟩) (.int .i64 a2) (.int .i64 a3) (.bool (a4 == 1)) (.slice none 0 0) = w99 at *
          have r0 := cell_of_block HX8.out 0
          have r1 := cell_of_block HX8.out 1
          have r2 := cell_of_block HX8.out 2
          have r3 := cell_of_block HX8.out 3
          have r4 := cell_of_block HX8.out 4
          have r5 := cell_of_block HX8.out 5
          have r6 := cell_of_block HX8.out 6
          have r7 := cell_of_block HX8.out 7
          simp only [List.getElem?_toArray, List.getElem?_cons_zero, List.getElem?_cons_succ] at r0 r1 r2 r3 r4 r5 r6 r7
          refine bodyPost_ret (v := .tuple #[.agg #[(.int .i64 a0), (.int .i64 a1), (.string ⟨#[]⟩), (.string ⟨#[]⟩), (.int .i64 a2), (.int .i64 a3), (.bool (a4 == 1)), (.slice none 0 0)], .slice none 0 0, .bool false]) (by simp [results, Tryd.results15, go_sem, r0, r1, r2, r3, r4, r5, r6, r7]) rfl ?_
          first | exact ⟨.mk a0 a1 ⟨#[]⟩ ⟨#[]⟩ a2 a3 (a4 == 1) [], .slice none 0 0, .slice none 0 0, [], false, rfl, IzsAt.nil _ _, BsAt.nil _ _, Nat.zero_le _, HTI.out _ _, HB8.out⟩ | exact ⟨.mk a0 a1 ⟨#[]⟩ ⟨#[]⟩ a2 a3 (a4 == 1) [], .slice none 0 0, .slice none 0 0, [], Or.inl ⟨rfl, IzsAt.nil _ _, BsAt.nil _ _, Nat.zero_le _, HTI.out _ _, HB8.out⟩⟩
        | true =>
          have T2H : Hid (T2 d l a0 a1 a2 a3 (a4 == 1) t1 r7) := T1H.out.yes HT7.out
          clear T1H HT7
          have C := uword HR7.out ((HLW.out.on HI7.out.bel).up HI7.out.bel.size) (by have := HLE7.out; have := HLL.out; omega)
          go_upto_region 9 with (go_at_call 24; refine C.mono ?_; clear C; rintro e w8 ⟨t2, v8, r8, ok, rfl, hr, hlen, ht, hb⟩)
          have HI8 : Hid (Iv w w8 G0 G9 #[.int .i64 a0, .int .i64 a1, .string ⟨#[]⟩, .string ⟨#[]⟩, .int .i64 a2, .int .i64 a3, .bool (a4 == 1), .slice none 0 0]) := HI7.out.on hb
          have HR8 : Hid (BsAt w8 P v8 r8) := hr
          have HT8 : Hid (Tw r7 t2 r8 ok) := ht
          have HLE8 : Hid (r8.length ≤ ln) := by have := HLE7.out; show _ ≤ _; omega
          clear HI7 HR7 HLE7 hr hlen ht hb
          cases ok with
          | false =>
            have HTI : Hid (∀ x r, Ti (d + 1) l x r false) := T2H.out.no HT8.out
            clear HR8 HT8 T2H
            have c0 := HI8.out.c9 0
            have c1 := HI8.out.c9 1
            have c2 := HI8.out.c9 2
            have c3 := HI8.out.c9 3
            have c4 := HI8.out.c9 4
            have c5 := HI8.out.c9 5
            have c6 := HI8.out.c9 6
            have c7 := HI8.out.c9 7
            have d0 := HI8.out.c0 0
            have d1 := HI8.out.c0 1
            have d2 := HI8.out.c0 2
            have d3 := HI8.out.c0 3
            have d4 := HI8.out.c0 4
            have d5 := HI8.out.c0 5
            have d6 := HI8.out.c0 6
            have d7 := HI8.out.c0 7
            have f0 := HI8.out.f0 0
            have f1 := HI8.out.f0 1
            have f2 := HI8.out.f0 2
            have f3 := HI8.out.f0 3
            have f4 := HI8.out.f0 4
            have f5 := HI8.out.f0 5
            have f6 := HI8.out.f0 6
            have f7 := HI8.out.f0 7
            have HB8 : Hid (Below w.heap.size w (set8 w8 G0 (.int .i64 a0) (.int .i64 a1) (.string ⟨#[]⟩) (.string ⟨#[]⟩) (.int .i64 a2) (.int .i64 a3) (.bool (a4 == 1)) (.slice none 0 0))) := bel8 HI8.out.bel HI8.out.n0 (.int .i64 a0) (.int .i64 a1) (.string ⟨#[]⟩) (.string ⟨#[]⟩) (.int .i64 a2) (.int .i64 a3) (.bool (a4 == 1)) (.slice none 0 0)
            have HX8 : Hid ((set8 w8 G0 (.int .i64 a0) (.int .i64 a1) (.string ⟨#[]⟩) (.string ⟨#[]⟩) (.int .i64 a2) (.int .i64 a3) (.bool (a4 == 1)) (.slice none 0 0)).heap[G0]? = some (.cells #[(.int .i64 a0), (.int .i64 a1), (.string ⟨#[]⟩), (.string ⟨#[]⟩), (.int .i64 a2), (.int .i64 a3), (.bool (a4 == 1)), (.slice none 0 0)] 33)) := put8 HI8.out.b0 (.int .i64 a0) (.int .i64 a1) (.string ⟨#[]⟩) (.string ⟨#[]⟩) (.int .i64 a2) (.int .i64 a3) (.bool (a4 == 1)) (.slice none 0 0)
            have HP8 : Hid (∀ k, k ≠ G0 → (set8 w8 G0 (.int .i64 a0) (.int .i64 a1) (.string ⟨#[]⟩) (.string ⟨#[]⟩) (.int .i64 a2) (.int .i64 a3) (.bool (a4 == 1)) (.slice none 0 0)).heap[k]? = w8.heap[k]?) := fun k hk => set8_block _ _ (.int .i64 a0) (.int .i64 a1) (.string ⟨#[]⟩) (.string ⟨#[]⟩) (.int .i64 a2) (.int .i64 a3) (.bool (a4 == 1)) (.slice none 0 0) k hk
            clear HI8
            go_wp2_with fail
            change bodyPost _ _ _ _ _ (set8 w8 G0 (.int .i64 a0) (.int .i64 a1) (.string ⟨#[]⟩) (.string ⟨#[]⟩) (.int .i64 a2) (.int .i64 a3) (.bool (a4 == 1)) (.slice none 0 0))
            generalize set8 w8 G0 (.int .i64 a0) (.int .i64 a1) (.string ⟨#[]⟩) (.string ⟨#[]⟩) (.int .i64 a2) (.int .i64 a3) (.bool (a4 == 1)) (.slice none 0 0) = w99 at *
            have r0 := cell_of_block HX8.out 0
            have r1 := cell_of_block HX8.out 1
            have r2 := cell_of_block HX8.out 2
            have r3 := cell_of_block HX8.out 3
            have r4 := cell_of_block HX8.out 4
            have r5 := cell_of_block HX8.out 5
            have r6 := cell_of_block HX8.out 6
            have r7 := cell_of_block HX8.out 7
            simp only [List.getElem?_toArray, List.getElem?_cons_zero, List.getElem?_cons_succ] at r0 r1 r2 r3 r4 r5 r6 r7
            refine bodyPost_ret (v := .tuple #[.agg #[(.int .i64 a0), (.int .i64 a1), (.string ⟨#[]⟩), (.string ⟨#[]⟩), (.int .i64 a2), (.int .i64 a3), (.bool (a4 == 1)), (.slice none 0 0)], .slice none 0 0, .bool false]) (by simp [results, Tryd.results15, go_sem, r0, r1, r2, r3, r4, r5, r6, r7]) rfl ?_
            first | exact ⟨.mk a0 a1 ⟨#[]⟩ ⟨#[]⟩ a2 a3 (a4 == 1) [], .slice none 0 0, .slice none 0 0, [], false, rfl, IzsAt.nil _ _, BsAt.nil _ _, Nat.zero_le _, HTI.out _ _, HB8.out⟩ | exact ⟨.mk a0 a1 ⟨#[]⟩ ⟨#[]⟩ a2 a3 (a4 == 1) [], .slice none 0 0, .slice none 0 0, [], Or.inl ⟨rfl, IzsAt.nil _ _, BsAt.nil _ _, Nat.zero_le _, HTI.out _ _, HB8.out⟩⟩
          | true =>
            have T3H : Hid (T3 d l a0 a1 a2 a3 (a4 == 1) t1 t2 r8) := T2H.out.yes HT8.out
            clear T2H HT8
            have c2 := HI8.out.c9 2
            have c3 := HI8.out.c9 3
            have f2 := HI8.out.f9 2
            have f3 := HI8.out.f9 3
            have hi9 := (HI8.out.set 2 (.string t1)).set 3 (.string t2)
            have HI9 : Hid (Iv w ((w8.setCell ⟨G9, 2, none⟩ (.string t1)).setCell ⟨G9, 3, none⟩ (.string t2)) G0 G9 #[.int .i64 a0, .int .i64 a1, .string t1, .string t2, .int .i64 a2, .int .i64 a3, .bool (a4 == 1), .slice none 0 0]) := hi9
            have HR9 : Hid (BsAt ((w8.setCell ⟨G9, 2, none⟩ (.string t1)).setCell ⟨G9, 3, none⟩ (.string t2)) P v8 r8) := HR8.out.frame (fun g hg hlt => ⟨by
              have h1 := HPW.out g hg
              have h2 := HI8.out.n9
              rw [Below.heap_setCell _ _ _ _ (by simp only; omega), Below.heap_setCell _ _ _ _ (by simp only; omega)], hg⟩)
            clear HI8 HR8 hi9
            go_upto_region 12 with fail
            generalize (w8.setCell ⟨G9, 2, none⟩ (.string t1)).setCell ⟨G9, 3, none⟩ (.string t2) = w9 at *
            clear c2 c3 f2 f3
            have C := utake HR9.out ((HLW.out.on HI9.out.bel).up HI9.out.bel.size) (by have := HLE8.out; have := HLL.out; omega)
            go_upto_region 13 with (go_at_call 23; refine C.mono ?_; clear C; rintro e wa ⟨n, va, ra, ok, rfl, hi, hr, hlen, ht, hb⟩)
            have HIa : Hid (Iv w wa G0 G9 #[.int .i64 a0, .int .i64 a1, .string t1, .string t2, .int .i64 a2, .int .i64 a3, .bool (a4 == 1), .slice none 0 0]) := HI9.out.on hb
            have HRa : Hid (BsAt wa P va ra) := hr
            have HTa : Hid (Tk r8 n ra ok) := ht
            have HLEa : Hid (ra.length ≤ ln) := by have := HLE8.out; show _ ≤ _; omega
            obtain ⟨i0, i1⟩ := hi
            obtain ⟨pa, ca, rfl⟩ := hr.shape
            clear HI9 HR9 HLE8 hr hlen ht hb
            cases ok with
            | false =>
              have HTI : Hid (∀ x r, Ti (d + 1) l x r false) := T3H.out.no HTa.out
              clear HRa HTa T3H
              have c0 := HIa.out.c9 0
              have c1 := HIa.out.c9 1
              have c2 := HIa.out.c9 2
              have c3 := HIa.out.c9 3
              have c4 := HIa.out.c9 4
              have c5 := HIa.out.c9 5
              have c6 := HIa.out.c9 6
              have c7 := HIa.out.c9 7
              have d0 := HIa.out.c0 0
              have d1 := HIa.out.c0 1
              have d2 := HIa.out.c0 2
              have d3 := HIa.out.c0 3
              have d4 := HIa.out.c0 4
              have d5 := HIa.out.c0 5
              have d6 := HIa.out.c0 6
              have d7 := HIa.out.c0 7
              have f0 := HIa.out.f0 0
              have f1 := HIa.out.f0 1
              have f2 := HIa.out.f0 2
              have f3 := HIa.out.f0 3
              have f4 := HIa.out.f0 4
              have f5 := HIa.out.f0 5
              have f6 := HIa.out.f0 6
              have f7 := HIa.out.f0 7
              have HB8 : Hid (Below w.heap.size w (set8 wa G0 (.int .i64 a0) (.int .i64 a1) (.string t1) (.string t2) (.int .i64 a2) (.int .i64 a3) (.bool (a4 == 1)) (.slice none 0 0))) := bel8 HIa.out.bel HIa.out.n0 (.int .i64 a0) (.int .i64 a1) (.string t1) (.string t2) (.int .i64 a2) (.int .i64 a3) (.bool (a4 == 1)) (.slice none 0 0)
              have HX8 : Hid ((set8 wa G0 (.int .i64 a0) (.int .i64 a1) (.string t1) (.string t2) (.int .i64 a2) (.int .i64 a3) (.bool (a4 == 1)) (.slice none 0 0)).heap[G0]? = some (.cells #[(.int .i64 a0), (.int .i64 a1), (.string t1), (.string t2), (.int .i64 a2), (.int .i64 a3), (.bool (a4 == 1)), (.slice none 0 0)] 33)) := put8 HIa.out.b0 (.int .i64 a0) (.int .i64 a1) (.string t1) (.string t2) (.int .i64 a2) (.int .i64 a3) (.bool (a4 == 1)) (.slice none 0 0)
              have HP8 : Hid (∀ k, k ≠ G0 → (set8 wa G0 (.int .i64 a0) (.int .i64 a1) (.string t1) (.string t2) (.int .i64 a2) (.int .i64 a3) (.bool (a4 == 1)) (.slice none 0 0)).heap[k]? = wa.heap[k]?) := fun k hk => set8_block _ _ (.int .i64 a0) (.int .i64 a1) (.string t1) (.string t2) (.int .i64 a2) (.int .i64 a3) (.bool (a4 == 1)) (.slice none 0 0) k hk
              clear HIa
              go_wp2_with fail
              change bodyPost _ _ _ _ _ (set8 wa G0 (.int .i64 a0) (.int .i64 a1) (.string t1) (.string t2) (.int .i64 a2) (.int .i64 a3) (.bool (a4 == 1)) (.slice none 0 0))
              generalize set8 wa G0 (.int .i64 a0) (.int .i64 a1) (.string t1) (.string t2) (.int .i64 a2) (.int .i64 a3) (.bool (a4 == 1)) (.slice none 0 0) = w99 at *
              have r0 := cell_of_block HX8.out 0
              have r1 := cell_of_block HX8.out 1
              have r2 := cell_of_block HX8.out 2
              have r3 := cell_of_block HX8.out 3
              have r4 := cell_of_block HX8.out 4
              have r5 := cell_of_block HX8.out 5
              have r6 := cell_of_block HX8.out 6
              have r7 := cell_of_block HX8.out 7
              simp only [List.getElem?_toArray, List.getElem?_cons_zero, List.getElem?_cons_succ] at r0 r1 r2 r3 r4 r5 r6 r7
              refine bodyPost_ret (v := .tuple #[.agg #[(.int .i64 a0), (.int .i64 a1), (.string t1), (.string t2), (.int .i64 a2), (.int .i64 a3), (.bool (a4 == 1)), (.slice none 0 0)], .slice none 0 0, .bool false]) (by simp [results, Tryd.results15, go_sem, r0, r1, r2, r3, r4, r5, r6, r7]) rfl ?_
              first | exact ⟨.mk a0 a1 t1 t2 a2 a3 (a4 == 1) [], .slice none 0 0, .slice none 0 0, [], false, rfl, IzsAt.nil _ _, BsAt.nil _ _, Nat.zero_le _, HTI.out _ _, HB8.out⟩ | exact ⟨.mk a0 a1 t1 t2 a2 a3 (a4 == 1) [], .slice none 0 0, .slice none 0 0, [], Or.inl ⟨rfl, IzsAt.nil _ _, BsAt.nil _ _, Nat.zero_le _, HTI.out _ _, HB8.out⟩⟩
            | true =>
              by_cases hn : n < 0
              · have HTI : Hid (∀ x r, Ti (d + 1) l x r false) := T3H.out.neg HTa.out hn
                clear HRa HTa T3H
                have c0 := HIa.out.c9 0
                have c1 := HIa.out.c9 1
                have c2 := HIa.out.c9 2
                have c3 := HIa.out.c9 3
                have c4 := HIa.out.c9 4
                have c5 := HIa.out.c9 5
                have c6 := HIa.out.c9 6
                have c7 := HIa.out.c9 7
                have d0 := HIa.out.c0 0
                have d1 := HIa.out.c0 1
                have d2 := HIa.out.c0 2
                have d3 := HIa.out.c0 3
                have d4 := HIa.out.c0 4
                have d5 := HIa.out.c0 5
                have d6 := HIa.out.c0 6
                have d7 := HIa.out.c0 7
                have f0 := HIa.out.f0 0
                have f1 := HIa.out.f0 1
                have f2 := HIa.out.f0 2
                have f3 := HIa.out.f0 3
                have f4 := HIa.out.f0 4
                have f5 := HIa.out.f0 5
                have f6 := HIa.out.f0 6
                have f7 := HIa.out.f0 7
                have HB8 : Hid (Below w.heap.size w (set8 wa G0 (.int .i64 a0) (.int .i64 a1) (.string t1) (.string t2) (.int .i64 a2) (.int .i64 a3) (.bool (a4 == 1)) (.slice none 0 0))) := bel8 HIa.out.bel HIa.out.n0 (.int .i64 a0) (.int .i64 a1) (.string t1) (.string t2) (.int .i64 a2) (.int .i64 a3) (.bool (a4 == 1)) (.slice none 0 0)
                have HX8 : Hid ((set8 wa G0 (.int .i64 a0) (.int .i64 a1) (.string t1) (.string t2) (.int .i64 a2) (.int .i64 a3) (.bool (a4 == 1)) (.slice none 0 0)).heap[G0]? = some (.cells #[(.int .i64 a0), (.int .i64 a1), (.string t1), (.string t2), (.int .i64 a2), (.int .i64 a3), (.bool (a4 == 1)), (.slice none 0 0)] 33)) := put8 HIa.out.b0 (.int .i64 a0) (.int .i64 a1) (.string t1) (.string t2) (.int .i64 a2) (.int .i64 a3) (.bool (a4 == 1)) (.slice none 0 0)
                have HP8 : Hid (∀ k, k ≠ G0 → (set8 wa G0 (.int .i64 a0) (.int .i64 a1) (.string t1) (.string t2) (.int .i64 a2) (.int .i64 a3) (.bool (a4 == 1)) (.slice none 0 0)).heap[k]? = wa.heap[k]?) := fun k hk => set8_block _ _ (.int .i64 a0) (.int .i64 a1) (.string t1) (.string t2) (.int .i64 a2) (.int .i64 a3) (.bool (a4 == 1)) (.slice none 0 0) k hk
                clear HIa
                go_wp2_with fail
                change bodyPost _ _ _ _ _ (set8 wa G0 (.int .i64 a0) (.int .i64 a1) (.string t1) (.string t2) (.int .i64 a2) (.int .i64 a3) (.bool (a4 == 1)) (.slice none 0 0))
                generalize set8 wa G0 (.int .i64 a0) (.int .i64 a1) (.string t1) (.string t2) (.int .i64 a2) (.int .i64 a3) (.bool (a4 == 1)) (.slice none 0 0) = w99 at *
                have r0 := cell_of_block HX8.out 0
                have r1 := cell_of_block HX8.out 1
                have r2 := cell_of_block HX8.out 2
                have r3 := cell_of_block HX8.out 3
                have r4 := cell_of_block HX8.out 4
                have r5 := cell_of_block HX8.out 5
                have r6 := cell_of_block HX8.out 6
                have r7 := cell_of_block HX8.out 7
                simp only [List.getElem?_toArray, List.getElem?_cons_zero, List.getElem?_cons_succ] at r0 r1 r2 r3 r4 r5 r6 r7
                refine bodyPost_ret (v := .tuple #[.agg #[(.int .i64 a0), (.int .i64 a1), (.string t1), (.string t2), (.int .i64 a2), (.int .i64 a3), (.bool (a4 == 1)), (.slice none 0 0)], .slice none 0 0, .bool false]) (by simp [results, Tryd.results15, go_sem, r0, r1, r2, r3, r4, r5, r6, r7]) rfl ?_
                first | exact ⟨.mk a0 a1 t1 t2 a2 a3 (a4 == 1) [], .slice none 0 0, .slice none 0 0, [], false, rfl, IzsAt.nil _ _, BsAt.nil _ _, Nat.zero_le _, HTI.out _ _, HB8.out⟩ | exact ⟨.mk a0 a1 t1 t2 a2 a3 (a4 == 1) [], .slice none 0 0, .slice none 0 0, [], Or.inl ⟨rfl, IzsAt.nil _ _, BsAt.nil _ _, Nat.zero_le _, HTI.out _ _, HB8.out⟩⟩
              · obtain ⟨m, rfl⟩ : ∃ m : Nat, n = m := ⟨n.toNat, by omega⟩
                by_cases hlong : ra.length < m
                · have HTI : Hid (∀ x r, Ti (d + 1) l x r false) := T3H.out.long HTa.out hlong
                  clear HRa HTa T3H
                  have c0 := HIa.out.c9 0
                  have c1 := HIa.out.c9 1
                  have c2 := HIa.out.c9 2
                  have c3 := HIa.out.c9 3
                  have c4 := HIa.out.c9 4
                  have c5 := HIa.out.c9 5
                  have c6 := HIa.out.c9 6
                  have c7 := HIa.out.c9 7
                  have d0 := HIa.out.c0 0
                  have d1 := HIa.out.c0 1
                  have d2 := HIa.out.c0 2
                  have d3 := HIa.out.c0 3
                  have d4 := HIa.out.c0 4
                  have d5 := HIa.out.c0 5
                  have d6 := HIa.out.c0 6
                  have d7 := HIa.out.c0 7
                  have f0 := HIa.out.f0 0
                  have f1 := HIa.out.f0 1
                  have f2 := HIa.out.f0 2
                  have f3 := HIa.out.f0 3
                  have f4 := HIa.out.f0 4
                  have f5 := HIa.out.f0 5
                  have f6 := HIa.out.f0 6
                  have f7 := HIa.out.f0 7
                  have HB8 : Hid (Below w.heap.size w (set8 wa G0 (.int .i64 a0) (.int .i64 a1) (.string t1) (.string t2) (.int .i64 a2) (.int .i64 a3) (.bool (a4 == 1)) (.slice none 0 0))) := bel8 HIa.out.bel HIa.out.n0 (.int .i64 a0) (.int .i64 a1) (.string t1) (.string t2) (.int .i64 a2) (.int .i64 a3) (.bool (a4 == 1)) (.slice none 0 0)
                  have HX8 : Hid ((set8 wa G0 (.int .i64 a0) (.int .i64 a1) (.string t1) (.string t2) (.int .i64 a2) (.int .i64 a3) (.bool (a4 == 1)) (.slice none 0 0)).heap[G0]? = some (.cells #[(.int .i64 a0), (.int .i64 a1), (.string t1), (.string t2), (.int .i64 a2), (.int .i64 a3), (.bool (a4 == 1)), (.slice none 0 0)] 33)) := put8 HIa.out.b0 (.int .i64 a0) (.int .i64 a1) (.string t1) (.string t2) (.int .i64 a2) (.int .i64 a3) (.bool (a4 == 1)) (.slice none 0 0)
                  have HP8 : Hid (∀ k, k ≠ G0 → (set8 wa G0 (.int .i64 a0) (.int .i64 a1) (.string t1) (.string t2) (.int .i64 a2) (.int .i64 a3) (.bool (a4 == 1)) (.slice none 0 0)).heap[k]? = wa.heap[k]?) := fun k hk => set8_block _ _ (.int .i64 a0) (.int .i64 a1) (.string t1) (.string t2) (.int .i64 a2) (.int .i64 a3) (.bool (a4 == 1)) (.slice none 0 0) k hk
                  clear HIa
                  go_wp2_with fail
                  change bodyPost _ _ _ _ _ (set8 wa G0 (.int .i64 a0) (.int .i64 a1) (.string t1) (.string t2) (.int .i64 a2) (.int .i64 a3) (.bool (a4 == 1)) (.slice none 0 0))
                  generalize set8 wa G0 (.int .i64 a0) (.int .i64 a1) (.string t1) (.string t2) (.int .i64 a2) (.int .i64 a3) (.bool (a4 == 1)) (.slice none 0 0) = w99 at *
                  have r0 := cell_of_block HX8.out 0
                  have r1 := cell_of_block HX8.out 1
                  have r2 := cell_of_block HX8.out 2
                  have r3 := cell_of_block HX8.out 3
                  have r4 := cell_of_block HX8.out 4
                  have r5 := cell_of_block HX8.out 5
                  have r6 := cell_of_block HX8.out 6
                  have r7 := cell_of_block HX8.out 7
                  simp only [List.getElem?_toArray, List.getElem?_cons_zero, List.getElem?_cons_succ] at r0 r1 r2 r3 r4 r5 r6 r7
                  refine bodyPost_ret (v := .tuple #[.agg #[(.int .i64 a0), (.int .i64 a1), (.string t1), (.string t2), (.int .i64 a2), (.int .i64 a3), (.bool (a4 == 1)), (.slice none 0 0)], .slice none 0 0, .bool false]) (by simp [results, Tryd.results15, go_sem, r0, r1, r2, r3, r4, r5, r6, r7]) rfl ?_
                  first | exact ⟨.mk a0 a1 t1 t2 a2 a3 (a4 == 1) [], .slice none 0 0, .slice none 0 0, [], false, rfl, IzsAt.nil _ _, BsAt.nil _ _, Nat.zero_le _, HTI.out _ _, HB8.out⟩ | exact ⟨.mk a0 a1 t1 t2 a2 a3 (a4 == 1) [], .slice none 0 0, .slice none 0 0, [], Or.inl ⟨rfl, IzsAt.nil _ _, BsAt.nil _ _, Nat.zero_le _, HTI.out _ _, HB8.out⟩⟩
                · have T4H : Hid (T4 d l a0 a1 a2 a3 (a4 == 1) t1 t2 m 0 [] ra) := T3H.out.yes HTa.out (by have := HLEa.out; have := HLN.out; omega)
                  have hml : m ≤ ra.length := by omega
                  have HM : Hid (m ≤ 100000000) := by have := HLEa.out; have := HLL.out; show _ ≤ _; omega
                  have HOa : Hid (OwnK wa wa.heap.size (.slice none 0 0) []) := OwnK.nil _ _
                  have HBa : Hid (w.heap.size ≤ wa.heap.size ∧ G0 < wa.heap.size ∧ G9 < wa.heap.size) := ⟨HIa.out.bel.size, HIa.out.lt.1, HIa.out.lt.2⟩
                  have SZ : Hid (wa.heap.size ≤ wa.heap.size) := Nat.le_refl _
                  clear T3H HTa
                  go_wp2_with fail
                  generalize hQ : wa.heap.size = Q at HOa HBa SZ
                  have SZ2 : Hid (Q ≤ wa.heap.size) := Nat.le_of_eq hQ.symm
                  clear hQ SZ
                  generalize ra.length = rn at *
                  go_loopw [0, 100] (fun bv iv wr => ∃ (j : Nat) (acc : List Iz) (s : Bs) (kv : Value), iv = .int .i64 j ∧ Hid (T4 d l a0 a1 a2 a3 (a4 == 1) t1 t2 m j acc s) ∧ Hid (Iv w wr G0 G9 #[.int .i64 a0, .int .i64 a1, .string t1, .string t2, .int .i64 a2, .int .i64 a3, .bool (a4 == 1), kv]) ∧ Hid (OwnK wr Q kv acc) ∧ Hid (BsAt wr P bv s) ∧ Hid (Q ≤ wr.heap.size)) (fun _ iv _ => m - (RowKit.intOf iv).toNat)
                  case atStart => exact ⟨0, [], ra, .slice none 0 0, rfl, T4H.out, HIa.out, HOa.out, HRa.out, SZ2.out⟩
                  case round =>
                    clear T4H HIa HOa HRa SZ2
                    obtain ⟨j, acc, s, kv, rfl, HT4, HI, HO, HS, HQ⟩ := hrel
                    have hjm := HT4.out.1
                    obtain ⟨pk, ck, rfl⟩ := HO.out.shape
                    by_cases hlt : j < m
                    · have C := HU.out.parts HS.out (fun g hg => Nat.lt_of_lt_of_le (HPW.out g hg) HI.out.bel.size) ((HLW.out.on HI.out.bel).up HI.out.bel.size) (by have := HT4.out.2.2.1; have := HLL.out; have := HLN.out; omega)
                      rw [ha.out] at C
                      have HOL : Hid (∀ g, (Value.slice pk acc.length ck).ownBlock = some g → Q ≤ g ∧ g < wr.heap.size) := HO.out.lt
                      go_upto_region 18 with (go_at_call 15; refine C.mono ?_; clear C; rintro e wb ⟨y0, y1, y2, y3, y4, y5, y6, ks, px, cx, vb, rb, ok, rfl, hk, hr, hlen, ht, hb⟩)
                      have hB2 : Below wb.heap.size wb (wb.alloc (.cells #[.int .i64 y0, .int .i64 y1, .string y2, .string y3, .int .i64 y4, .int .i64 y5, .bool y6, .slice px ks.length cx] 33)) := (Below.refl _ _).alloc (Nat.le_refl _) _
                      have HIc : Hid (Iv w (wb.alloc (.cells #[.int .i64 y0, .int .i64 y1, .string y2, .string y3, .int .i64 y4, .int .i64 y5, .bool y6, .slice px ks.length cx] 33)) G0 G9 #[.int .i64 a0, .int .i64 a1, .string t1, .string t2, .int .i64 a2, .int .i64 a3, .bool (a4 == 1), .slice pk acc.length ck]) := (HI.out.on hb).on hB2
                      have HOc : Hid (OwnK (wb.alloc (.cells #[.int .i64 y0, .int .i64 y1, .string y2, .string y3, .int .i64 y4, .int .i64 y5, .bool y6, .slice px ks.length cx] 33)) Q (.slice pk acc.length ck) acc) := HO.out.bt (Bt.below (S := []) (hb.trans (hB2.mono hb.size))) (by simp)
                      have HSc : Hid (BsAt (wb.alloc (.cells #[.int .i64 y0, .int .i64 y1, .string y2, .string y3, .int .i64 y4, .int .i64 y5, .bool y6, .slice px ks.length cx] 33)) P vb rb) := hr.under hB2
                      have HKc : Hid (IzsAt (wb.alloc (.cells #[.int .i64 y0, .int .i64 y1, .string y2, .string y3, .int .i64 y4, .int .i64 y5, .bool y6, .slice px ks.length cx] 33)) (fun g => wr.heap.size ≤ g) (.slice px ks.length cx) ks) := hk.frame (fun g hg hlt => ⟨hB2.block g hlt, hg⟩)
                      have HXc : Hid ((wb.alloc (.cells #[.int .i64 y0, .int .i64 y1, .string y2, .string y3, .int .i64 y4, .int .i64 y5, .bool y6, .slice px ks.length cx] 33)).heap[wb.heap.size]? = some (.cells #[.int .i64 y0, .int .i64 y1, .string y2, .string y3, .int .i64 y4, .int .i64 y5, .bool y6, .slice px ks.length cx] 33)) := heap_alloc_new _ _
                      have HQc : Hid (Q ≤ (wb.alloc (.cells #[.int .i64 y0, .int .i64 y1, .string y2, .string y3, .int .i64 y4, .int .i64 y5, .bool y6, .slice px ks.length cx] 33)).heap.size) := by have h1 := HQ.out; have h2 := hb.size; have h3 := hB2.size; show _ ≤ _; omega
                      have HTc : Hid (Ti d s (.mk y0 y1 y2 y3 y4 y5 y6 ks) rb ok) := ht
                      have HQr : Hid (Q ≤ wr.heap.size) := HQ.out
                      clear HI HO HS HQ hk hr hlen ht hb hB2
                      generalize wb.alloc (.cells #[.int .i64 y0, .int .i64 y1, .string y2, .string y3, .int .i64 y4, .int .i64 y5, .bool y6, .slice px ks.length cx] 33) = wc at *
                      generalize wb.heap.size = G13 at *
                      cases ok with
                      | false =>
                        have HTI : Hid (∀ x r, Ti (d + 1) l x r false) := HT4.out.no hlt HTc.out
                        have HOZ : Hid (IzsAt wc (fun g => Q ≤ g) (.slice pk acc.length ck) acc) := HOc.out.izs
                        clear HOc HSc HKc HXc HQc HTc HT4 HOL
                        have c0 := HIc.out.c9 0
                        have c1 := HIc.out.c9 1
                        have c2 := HIc.out.c9 2
                        have c3 := HIc.out.c9 3
                        have c4 := HIc.out.c9 4
                        have c5 := HIc.out.c9 5
                        have c6 := HIc.out.c9 6
                        have c7 := HIc.out.c9 7
                        have d0 := HIc.out.c0 0
                        have d1 := HIc.out.c0 1
                        have d2 := HIc.out.c0 2
                        have d3 := HIc.out.c0 3
                        have d4 := HIc.out.c0 4
                        have d5 := HIc.out.c0 5
                        have d6 := HIc.out.c0 6
                        have d7 := HIc.out.c0 7
                        have f0 := HIc.out.f0 0
                        have f1 := HIc.out.f0 1
                        have f2 := HIc.out.f0 2
                        have f3 := HIc.out.f0 3
                        have f4 := HIc.out.f0 4
                        have f5 := HIc.out.f0 5
                        have f6 := HIc.out.f0 6
                        have f7 := HIc.out.f0 7
                        have HB8 : Hid (Below w.heap.size w (set8 wc G0 (.int .i64 a0) (.int .i64 a1) (.string t1) (.string t2) (.int .i64 a2) (.int .i64 a3) (.bool (a4 == 1)) (.slice pk acc.length ck))) := bel8 HIc.out.bel HIc.out.n0 (.int .i64 a0) (.int .i64 a1) (.string t1) (.string t2) (.int .i64 a2) (.int .i64 a3) (.bool (a4 == 1)) (.slice pk acc.length ck)
                        have HX8 : Hid ((set8 wc G0 (.int .i64 a0) (.int .i64 a1) (.string t1) (.string t2) (.int .i64 a2) (.int .i64 a3) (.bool (a4 == 1)) (.slice pk acc.length ck)).heap[G0]? = some (.cells #[(.int .i64 a0), (.int .i64 a1), (.string t1), (.string t2), (.int .i64 a2), (.int .i64 a3), (.bool (a4 == 1)), (.slice pk acc.length ck)] 33)) := put8 HIc.out.b0 (.int .i64 a0) (.int .i64 a1) (.string t1) (.string t2) (.int .i64 a2) (.int .i64 a3) (.bool (a4 == 1)) (.slice pk acc.length ck)
                        have HP8 : Hid (∀ k, k ≠ G0 → (set8 wc G0 (.int .i64 a0) (.int .i64 a1) (.string t1) (.string t2) (.int .i64 a2) (.int .i64 a3) (.bool (a4 == 1)) (.slice pk acc.length ck)).heap[k]? = wc.heap[k]?) := fun k hk => set8_block _ _ (.int .i64 a0) (.int .i64 a1) (.string t1) (.string t2) (.int .i64 a2) (.int .i64 a3) (.bool (a4 == 1)) (.slice pk acc.length ck) k hk
                        clear HIc
                        go_wp2_with fail
                        change bodyPost _ _ _ _ _ (set8 wc G0 (.int .i64 a0) (.int .i64 a1) (.string t1) (.string t2) (.int .i64 a2) (.int .i64 a3) (.bool (a4 == 1)) (.slice pk acc.length ck))
                        generalize set8 wc G0 (.int .i64 a0) (.int .i64 a1) (.string t1) (.string t2) (.int .i64 a2) (.int .i64 a3) (.bool (a4 == 1)) (.slice pk acc.length ck) = w99 at *
                        have r0 := cell_of_block HX8.out 0
                        have r1 := cell_of_block HX8.out 1
                        have r2 := cell_of_block HX8.out 2
                        have r3 := cell_of_block HX8.out 3
                        have r4 := cell_of_block HX8.out 4
                        have r5 := cell_of_block HX8.out 5
                        have r6 := cell_of_block HX8.out 6
                        have r7 := cell_of_block HX8.out 7
                        simp only [List.getElem?_toArray, List.getElem?_cons_zero, List.getElem?_cons_succ] at r0 r1 r2 r3 r4 r5 r6 r7
                        refine bodyPost_ret (v := .tuple #[.agg #[(.int .i64 a0), (.int .i64 a1), (.string t1), (.string t2), (.int .i64 a2), (.int .i64 a3), (.bool (a4 == 1)), (.slice pk acc.length ck)], .slice none 0 0, .bool false]) (by simp [results, Tryd.results15, go_sem, r0, r1, r2, r3, r4, r5, r6, r7]) rfl ?_
                        first | exact ⟨.mk a0 a1 t1 t2 a2 a3 (a4 == 1) acc, .slice pk acc.length ck, .slice none 0 0, [], false, rfl, (HOZ.out.frame (fun g hg _ => ⟨HP8.out g (by have := HBa.out.2.1; omega), Nat.le_trans HBa.out.1 hg⟩)), BsAt.nil _ _, Nat.zero_le _, HTI.out _ _, HB8.out⟩ | exact ⟨.mk a0 a1 t1 t2 a2 a3 (a4 == 1) acc, .slice pk acc.length ck, .slice none 0 0, [], Or.inl ⟨rfl, (HOZ.out.frame (fun g hg _ => ⟨HP8.out g (by have := HBa.out.2.1; omega), Nat.le_trans HBa.out.1 hg⟩)), BsAt.nil _ _, Nat.zero_le _, HTI.out _ _, HB8.out⟩⟩
                      | true =>
                        have T5 : Hid (T4 d l a0 a1 a2 a3 (a4 == 1) t1 t2 m (j + 1) (acc ++ [.mk y0 y1 y2 y3 y4 y5 y6 ks]) rb) := HT4.out.step hlt HTc.out
                        have hac : acc.length ≤ 100000000 := by have := HT4.out.2.1; have := HM.out; omega
                        have c7 : wc.cell? ⟨G9, 7, none⟩ = some (.slice pk acc.length ck) := HIc.out.c9 7
                        have e0 : wc.cell? ⟨G13, 0, none⟩ = some (.int .i64 y0) := cell_of_block HXc.out 0
                        have e1 : wc.cell? ⟨G13, 1, none⟩ = some (.int .i64 y1) := cell_of_block HXc.out 1
                        have e2 : wc.cell? ⟨G13, 2, none⟩ = some (.string y2) := cell_of_block HXc.out 2
                        have e3 : wc.cell? ⟨G13, 3, none⟩ = some (.string y3) := cell_of_block HXc.out 3
                        have e4 : wc.cell? ⟨G13, 4, none⟩ = some (.int .i64 y4) := cell_of_block HXc.out 4
                        have e5 : wc.cell? ⟨G13, 5, none⟩ = some (.int .i64 y5) := cell_of_block HXc.out 5
                        have e6 : wc.cell? ⟨G13, 6, none⟩ = some (.bool y6) := cell_of_block HXc.out 6
                        have e7 : wc.cell? ⟨G13, 7, none⟩ = some (.slice px ks.length cx) := cell_of_block HXc.out 7
                        have hO := HOc.out
                        have hkx : IzsAt wc (fun g => Q ≤ g ∧ some g ≠ (Value.slice pk acc.length ck).ownBlock) (.slice px ks.length cx) ks := HKc.out.any (fun g hg _ => ⟨Nat.le_trans HQr.out hg, fun e => by have := (HOL.out g e.symm).2; omega⟩)
                        have hz := HQc.out
                        clear HOc HKc HXc HTc HT4 HOL HQr
                        go_wp2_with (at_builtin; refine append_item rfl _ _ rfl (.mk y0 y1 y2 y3 y4 y5 y6 ks) (.slice px ks.length cx) rfl (by simp [Act.eval]) hO hkx hz hac ?_; intro v7 w7 o7 b7 g7; refine Hid.out ?_)
                        refine Lib.hid ?_
                        obtain ⟨p7, n7, k7, rfl⟩ : ∃ p n c, v7 = .slice p n c := by obtain ⟨p, c, e⟩ := o7.shape; exact ⟨p, _, c, e⟩
                        have HI7 : Hid (Iv w w7 G0 G9 #[.int .i64 a0, .int .i64 a1, .string t1, .string t2, .int .i64 a2, .int .i64 a3, .bool (a4 == 1), .slice pk acc.length ck]) := HIc.out.over b7 HBa.out.2.1 HBa.out.2.2
                        have d7 : w7.cell? ⟨G9, 7, none⟩ = some (.slice pk acc.length ck) := HI7.out.c9 7
                        have ff : w7.frozen? ⟨G9, 7, none⟩ = false := HI7.out.f9 7
                        have hi8 := HI7.out.set 7 (.slice p7 n7 k7)
                        have HI8 : Hid (Iv w (w7.setCell ⟨G9, 7, none⟩ (.slice p7 n7 k7)) G0 G9 #[.int .i64 a0, .int .i64 a1, .string t1, .string t2, .int .i64 a2, .int .i64 a3, .bool (a4 == 1), .slice p7 n7 k7]) := hi8
                        have HO8 : Hid (OwnK (w7.setCell ⟨G9, 7, none⟩ (.slice p7 n7 k7)) Q (.slice p7 n7 k7) (acc ++ [.mk y0 y1 y2 y3 y4 y5 y6 ks])) := o7.bt (bt_set (Bt.refl [G9] w7) (by simp) _) (fun x hx => by rw [List.mem_singleton] at hx; rw [hx]; exact HBa.out.2.2)
                        have HS8 : Hid (BsAt (w7.setCell ⟨G9, 7, none⟩ (.slice p7 n7 k7)) P vb rb) := HSc.out.frame (fun g hg hlt => ⟨by
                          have h1 := HPW.out g hg
                          have h2 := HI7.out.n9
                          rw [Below.heap_setCell _ _ _ _ (by simp only; omega), b7.block g (by have := HBa.out.1; omega)], hg⟩)
                        have HQ8 : Hid (Q ≤ (w7.setCell ⟨G9, 7, none⟩ (.slice p7 n7 k7)).heap.size) := by show _ ≤ _; simp only [World.setCell, Array.size_modify]; exact Nat.le_trans hz b7.size
                        clear HI7 hi8 o7 b7 g7 hO hkx hz hac HIc HSc HQc c7 e0 e1 e2 e3 e4 e5 e6 e7
                        go_wp2_with fail
                        generalize w7.setCell ⟨G9, 7, none⟩ (.slice p7 n7 k7) = w8 at *
                        go_roundw
                        case rel => exact ⟨j + 1, _, rb, .slice p7 n7 k7, by go_num, T5, HI8, HO8, HS8, HQ8⟩
                        case measure => simp [RowKit.intOf]; omega
                    · have HTD : Hid (Ti (d + 1) l (.mk a0 a1 t1 t2 a2 a3 (a4 == 1) acc) s true) := HT4.out.done (by omega)
                      have HSL : Hid (s.length ≤ ln) := by have := HT4.out.2.2.1; have := HLN.out; show _ ≤ _; omega
                      have HOZ : Hid (IzsAt wr (fun g => Q ≤ g) (.slice pk acc.length ck) acc) := HO.out.izs
                      obtain rfl : j = m := by omega
                      clear HT4 HO
                      have c0 := HI.out.c9 0
                      have c1 := HI.out.c9 1
                      have c2 := HI.out.c9 2
                      have c3 := HI.out.c9 3
                      have c4 := HI.out.c9 4
                      have c5 := HI.out.c9 5
                      have c6 := HI.out.c9 6
                      have c7 := HI.out.c9 7
                      have d0 := HI.out.c0 0
                      have d1 := HI.out.c0 1
                      have d2 := HI.out.c0 2
                      have d3 := HI.out.c0 3
                      have d4 := HI.out.c0 4
                      have d5 := HI.out.c0 5
                      have d6 := HI.out.c0 6
                      have d7 := HI.out.c0 7
                      have f0 := HI.out.f0 0
                      have f1 := HI.out.f0 1
                      have f2 := HI.out.f0 2
                      have f3 := HI.out.f0 3
                      have f4 := HI.out.f0 4
                      have f5 := HI.out.f0 5
                      have f6 := HI.out.f0 6
                      have f7 := HI.out.f0 7
                      have HB8 : Hid (Below w.heap.size w (set8 wr G0 (.int .i64 a0) (.int .i64 a1) (.string t1) (.string t2) (.int .i64 a2) (.int .i64 a3) (.bool (a4 == 1)) (.slice pk acc.length ck))) := bel8 HI.out.bel HI.out.n0 (.int .i64 a0) (.int .i64 a1) (.string t1) (.string t2) (.int .i64 a2) (.int .i64 a3) (.bool (a4 == 1)) (.slice pk acc.length ck)
                      have HX8 : Hid ((set8 wr G0 (.int .i64 a0) (.int .i64 a1) (.string t1) (.string t2) (.int .i64 a2) (.int .i64 a3) (.bool (a4 == 1)) (.slice pk acc.length ck)).heap[G0]? = some (.cells #[(.int .i64 a0), (.int .i64 a1), (.string t1), (.string t2), (.int .i64 a2), (.int .i64 a3), (.bool (a4 == 1)), (.slice pk acc.length ck)] 33)) := put8 HI.out.b0 (.int .i64 a0) (.int .i64 a1) (.string t1) (.string t2) (.int .i64 a2) (.int .i64 a3) (.bool (a4 == 1)) (.slice pk acc.length ck)
                      have HP8 : Hid (∀ k, k ≠ G0 → (set8 wr G0 (.int .i64 a0) (.int .i64 a1) (.string t1) (.string t2) (.int .i64 a2) (.int .i64 a3) (.bool (a4 == 1)) (.slice pk acc.length ck)).heap[k]? = wr.heap[k]?) := fun k hk => set8_block _ _ (.int .i64 a0) (.int .i64 a1) (.string t1) (.string t2) (.int .i64 a2) (.int .i64 a3) (.bool (a4 == 1)) (.slice pk acc.length ck) k hk
                      clear HI
                      go_wp2_with fail
                      change bodyPost _ _ _ _ _ (set8 wr G0 (.int .i64 a0) (.int .i64 a1) (.string t1) (.string t2) (.int .i64 a2) (.int .i64 a3) (.bool (a4 == 1)) (.slice pk acc.length ck))
                      generalize set8 wr G0 (.int .i64 a0) (.int .i64 a1) (.string t1) (.string t2) (.int .i64 a2) (.int .i64 a3) (.bool (a4 == 1)) (.slice pk acc.length ck) = w99 at *
                      have r0 := cell_of_block HX8.out 0
                      have r1 := cell_of_block HX8.out 1
                      have r2 := cell_of_block HX8.out 2
                      have r3 := cell_of_block HX8.out 3
                      have r4 := cell_of_block HX8.out 4
                      have r5 := cell_of_block HX8.out 5
                      have r6 := cell_of_block HX8.out 6
                      have r7 := cell_of_block HX8.out 7
                      simp only [List.getElem?_toArray, List.getElem?_cons_zero, List.getElem?_cons_succ] at r0 r1 r2 r3 r4 r5 r6 r7
                      refine bodyPost_ret (v := .tuple #[.agg #[(.int .i64 a0), (.int .i64 a1), (.string t1), (.string t2), (.int .i64 a2), (.int .i64 a3), (.bool (a4 == 1)), (.slice pk acc.length ck)], u0, .bool true]) (by simp [results, Tryd.results15, go_sem, r0, r1, r2, r3, r4, r5, r6, r7]) rfl ?_
                      first | exact ⟨.mk a0 a1 t1 t2 a2 a3 (a4 == 1) acc, .slice pk acc.length ck, u0, s, true, rfl, (HOZ.out.frame (fun g hg _ => ⟨HP8.out g (by have := HBa.out.2.1; omega), Nat.le_trans HBa.out.1 hg⟩)), (HS.out.frame (fun g hg _ => ⟨HP8.out g (by have := HPW.out g hg; have := HG.out; omega), hg⟩)), (by have := HSL.out; have := HLN.out; omega), HTD.out, HB8.out⟩ | exact ⟨.mk a0 a1 t1 t2 a2 a3 (a4 == 1) acc, .slice pk acc.length ck, u0, s, Or.inr ⟨rfl, (HOZ.out.frame (fun g hg _ => ⟨HP8.out g (by have := HBa.out.2.1; omega), Nat.le_trans HBa.out.1 hg⟩)), (HS.out.frame (fun g hg _ => ⟨HP8.out g (by have := HPW.out g hg; have := HG.out; omega), hg⟩)), (by have := HSL.out; have := HLN.out; omega), HTD.out, HB8.out⟩⟩


theorem uitem_any : ∀ d : Nat, d ≤ 61 → ItemU d
  | 0, _ => uitem_zero
  | d + 1, h => uitem_succ h (uitem_any d (by omega))
end Go.Proofs.YtpnineimnjibaafDoor
