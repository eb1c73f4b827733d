/-
  OWN WORK: Jop, Jlw, Jow, Joe, Jar, Jpf, Jrd, Jrt, Jit.
-/
import Derived.Test.YtpnineimnjibaafDoorP1
import Derived.ChangeSlices
import Derived.Test.YtpnineimnjibaafDoorP0
import Derived.Deep.DeepLaidRun
import Derived.Deep.AppendLies
import Derived.Deep.RegionHeld3
import Derived.Deep.RegionLaw
import Derived.Deep.QuietTactic
import Derived.BigQuiet
/-
  WHAT CAME IN: events, all of whose numbers are of 64 bits, and bytes.
-/
namespace Go.Proofs.YtpnineimnjibaafDoor
open Go.ChangeShapes Go.WideShapes Go.ChangeAt Go.RowKit

/-! ### the numbers of items -/
mutual
def Int1 : Iz → Prop
  | .mk n r _ _ l c _ ks => (I6 n ∧ I6 r ∧ I6 l ∧ I6 c) ∧ IntZ ks
def IntZ : List Iz → Prop
  | [] => True
  | x :: xs => Int1 x ∧ IntZ xs
end
theorem intZ_mem : ∀ {l : List Iz}, IntZ l ↔ ∀ x ∈ l, Int1 x
  | [] => by rw [IntZ]; simp
  | x :: l => by rw [IntZ, intZ_mem]; simp
theorem int1_eq (x : Iz) : Int1 x ↔ (I6 x.node ∧ I6 x.role ∧ I6 x.level ∧ I6 x.checked) ∧ IntZ x.kids := by cases x with | mk => rw [Int1]; exact Iff.rfl
theorem nat_i6 {n : Nat} (h : n ≤ 1048576) : I6 (n : Int) := ⟨by omega, by omega⟩
theorem num_of_int : (∀ x : Iz, bulk1 x ≤ 1048576 → Int1 x → Num1 x) ∧ ∀ l : List Iz, bulkZ l ≤ 1048576 → IntZ l → NumZ l := by
  refine Iz.ind (fun x h hb hi => ?_) (fun _ _ => by rw [NumZ]; trivial) (fun x xs h1 h2 hb hi => ?_)
  · rw [bulk1_eq] at hb
    obtain ⟨⟨i0, i1, i2, i3⟩, hk⟩ := (int1_eq x).mp hi
    have hl := bulk_len x.kids
    exact (num1_eq x).mpr ⟨⟨i0, i1, i2, i3, nat_i6 (by omega), nat_i6 (by omega), nat_i6 (by omega)⟩, h (by omega) hk⟩
  · rw [bulkZ] at hb
    rw [IntZ] at hi
    rw [NumZ]
    exact ⟨h1 (by omega) hi.1, h2 (by omega) hi.2⟩
theorem items_le : (∀ x : Iz, Num1 x → (itemB x).length ≤ 21 * bulk1 x) ∧ ∀ l : List Iz, NumZ l → (itemsB l).length ≤ 21 * bulkZ l := by
  refine Iz.ind (fun x h hn => ?_) (fun _ => by rw [itemsB]; exact Nat.zero_le _) (fun x xs h1 h2 hn => ?_)
  · obtain ⟨⟨i0, i1, i2, i3, i5, i6, i7⟩, hk⟩ := (num1_eq x).mp hn
    have hb := h hk
    have b0 := numB_le i0
    have b1 := numB_le i1
    have b2 := numB_le i2
    have b3 := numB_le i3
    have b5 := numB_le i5
    have b6 := numB_le i6
    have b7 := numB_le i7
    have bf : (flagB x.off).length ≤ 21 := by
      unfold flagB
      exact numB_le (by cases x.off <;> exact ⟨by decide, by decide⟩)
    have s5 : x.name.data.toList.length = x.name.size := rfl
    have s6 : x.about.data.toList.length = x.about.size := rfl
    rw [itemB_eq, bulk1_eq, headB]
    simp only [List.length_append, textB]
    omega
  · rw [NumZ] at hn
    have g1 := h1 hn.1
    have g2 := h2 hn.2
    rw [itemsB, bulkZ, List.length_append]
    omega
theorem deep_le : (∀ x : Iz, deep1 x ≤ bulk1 x) ∧ ∀ l : List Iz, deepZ l ≤ bulkZ l := by
  refine Iz.ind (fun x h => ?_) (Nat.le_refl _) (fun x xs h1 h2 => ?_)
  · rw [deep1_eq, bulk1_eq]; omega
  · rw [deepZ, bulkZ]; omega
/-- an event all of whose numbers are of 64 bits -/
def EvInt (e : Ez) : Prop := I6 e.kind ∧ I6 e.node ∧ I6 e.tgt ∧ I6 e.at_ ∧ Int1 e.item
theorem EvInt.num {e : Ez} (h : EvInt e) (hb : bulk1 e.item ≤ 1048576) : EvNum e := ⟨h.1, h.2.1, h.2.2.1, h.2.2.2.1, num_of_int.1 _ hb h.2.2.2.2⟩
theorem events_le : ∀ l : List Ez, (∀ e ∈ l, EvNum e) → (eventsB l).length ≤ 21 * bulkE l
  | [], _ => Nat.zero_le _
  | e :: l, h => by
    obtain ⟨i0, i1, i2, i3, i4⟩ := h e (by simp)
    have b0 := numB_le i0
    have b1 := numB_le i1
    have b2 := numB_le i2
    have b3 := numB_le i3
    have b4 := items_le.1 _ i4
    have bl := events_le l (fun x hx => h x (by simp [hx]))
    rw [eventsB, bulkE, eventB, evHeadB]
    simp only [List.length_append]
    omega

set_option maxRecDepth 100000 in
theorem open_item6 {H : Type} {enc : TypeId × Value → H} {W : World} {base n : Nat} {sp : Nat → Bool} {held : Bool} {cs : List Value} {y : DataW H × List MemPlace} (h : DataW.trod enc Tryd.prog W base sp held n 33 cs = some y) :
    ∃ (z0 z1 : Int) (s2 s3 : ByteArray) (z4 z5 : Int) (b6 : Bool) (k : Value) (d : DataW H) (pl : List MemPlace) (m : Nat), cs = [.int .i64 z0, .int .i64 z1, .string s2, .string s3, .int .i64 z4, .int .i64 z5, .bool b6, k] ∧
      DataW.trod enc Tryd.prog W base sp held m 31 [k] = some (d, pl) ∧ Rows.uptoBulk d + 8 + s2.size + s3.size ≤ Rows.uptoBulk y.1 ∧ (I6 z0 ∧ I6 z1 ∧ I6 z4 ∧ I6 z5) := by
  obtain ⟨xs, k, _, hy, hl, hx, hf⟩ := DataW.trod_struct Tryd.underlying33 h
  rw [cellsT8] at hl
  have hx8 : xs.length = 8 := hx
  clear hx
  match cs, hl, xs, hx8 with
  | [c0, c1, c2, c3, c4, c5, c6, c7], _, [y0, y1, y2, y3, y4, y5, y6, y7], _ =>
    have g0 := hf 0 _ rfl
    have g1 := hf 1 _ rfl
    have g2 := hf 2 _ rfl
    have g3 := hf 3 _ rfl
    have g4 := hf 4 _ rfl
    have g5 := hf 5 _ rfl
    have g6 := hf 6 _ rfl
    have g7 := hf 7 _ rfl
    simp [cellsI, cellsS, cellsTs, cellsB1] at g0 g1 g2 g3 g4 g5 g6 g7
    obtain ⟨z0, e0, f0, w0⟩ := DataW.trod_int Tryd.underlying3 g0
    obtain ⟨z1, e1, f1, w1⟩ := DataW.trod_int Tryd.underlying3 g1
    obtain ⟨s2, e2, f2, _⟩ := DataW.trod_string Tryd.underlying9 g2
    obtain ⟨s3, e3, f3, _⟩ := DataW.trod_string Tryd.underlying9 g3
    obtain ⟨z4, e4, f4, w4⟩ := DataW.trod_int Tryd.underlying3 g4
    obtain ⟨z5, e5, f5, w5⟩ := DataW.trod_int Tryd.underlying3 g5
    obtain ⟨b6, e6, f6⟩ := DataW.trod_bool Tryd.underlying4 g6
    simp at e0 e1 e2 e3 e4 e5 e6
    refine ⟨z0, z1, s2, s3, z4, z5, b6, c7, y7.1, y7.2, k, by rw [e0, e1, e2, e3, e4, e5, e6], g7, ?_, bounds_i64 w0, bounds_i64 w1, bounds_i64 w4, bounds_i64 w5⟩
    rw [hy, f0, f1, f2, f3, f4, f5, f6]
    simp only [List.map_cons, List.map_nil, Rows.uptoBulk, Rows.uptoBulkAll]
    have q2 := Lib.size_eq s2
    have q3 := Lib.size_eq s3
    omega

theorem open_its6 {H : Type} {enc : TypeId × Value → H} {W : World} : ∀ (m : Nat) (v : Value) (d : DataW H) (fuel : Nat) (pl : List MemPlace), Rows.uptoBulk d ≤ m → DataW.trod enc Tryd.prog W 0 (fun _ => true) true fuel 31 [v] = some (d, pl) →
    ∃ l : List Iz, IzsAt W (fun g => g < W.heap.size) v l ∧ bulkZ l ≤ Rows.uptoBulk d ∧ IntZ l := by
  intro m
  induction m with
  | zero =>
    intro v d fuel pl hd hf
    rcases Deep.open_slice Tryd.underlying31 hf with ⟨hcs, hx⟩ | ⟨a, len, cap, mm, n, D, Pl, hcs, _, hl, hmx, hm, hx, hall⟩
    · simp only [Prod.mk.injEq] at hx
      rw [hx.1] at hd
      simp [Rows.uptoBulk] at hd
    · simp only [Prod.mk.injEq] at hx
      rw [hx.1] at hd
      simp [Rows.uptoBulk] at hd
  | succ m ih =>
    intro v d fuel pl hd hf
    rcases Deep.open_slice Tryd.underlying31 hf with ⟨hcs, hx⟩ | ⟨a, len, cap, mm, n, D, Pl, hcs, _, hl, hmx, hm, hx, hall⟩
    · simp only [List.cons.injEq, and_true] at hcs
      rw [hcs]
      exact ⟨[], .nil _ _, Nat.zero_le _, by rw [IntZ]; trivial⟩
    · simp only [List.cons.injEq, and_true] at hcs
      rw [hcs]
      simp only [if_true] at hm
      subst hm
      simp only [Prod.mk.injEq] at hx
      have hD : ∀ i, i < len → Rows.uptoBulk (D i) ≤ m := fun i hi => by
        have h1 : D i ∈ (List.range len).map D := List.mem_map.mpr ⟨i, List.mem_range.mpr hi, rfl⟩
        have h2 := bulk_all_mem h1
        rw [hx.1] at hd
        simp only [Rows.uptoBulk] at hd
        omega
      have each : ∀ i, i < len → ∃ p : Iz × Value, (∀ q, q < 8 → W.cell? ((a.add (i * 8)).add q) = (izc p)[q]?) ∧ IzsAt W (fun g => g < W.heap.size) p.2 p.1.kids ∧ bulk1 p.1 ≤ Rows.uptoBulk (D i) ∧ Int1 p.1 := by
        intro i hi
        obtain ⟨cs', h1, h2⟩ := hall i (by omega)
        obtain ⟨z0, z1, s2, s3, z4, z5, b6, k, dk, plk, mk, rfl, h3, h4, hw⟩ := open_item6 h2
        rw [cellsT8] at h1
        have h4 : Rows.uptoBulk dk + 8 + s2.size + s3.size ≤ Rows.uptoBulk (D i) := h4
        obtain ⟨lk, h5, h6, h7⟩ := ih k dk mk plk (by have := hD i hi; omega) h3
        refine ⟨(.mk z0 z1 s2 s3 z4 z5 b6 lk, k), fun q hq => (World.cells?_some h1).2.2 q hq, h5, ?_, ?_⟩
        · rw [bulk1]
          omega
        · rw [Int1]
          exact ⟨hw, h7⟩
      have inh : Inhabited (Iz × Value) := ⟨(.mk 0 0 ⟨#[]⟩ ⟨#[]⟩ 0 0 false [], .bool false)⟩
      obtain ⟨X, hX⟩ := Deep.choose_lt each
      have e1 : ((List.range len).map fun i => (X i).1).length = len := by rw [List.length_map, List.length_range]
      refine ⟨(List.range len).map fun i => (X i).1, ?_, ?_, ?_⟩
      · have hh : IzsAt W (fun g => g < W.heap.size) (.slice (some a) ((List.range len).map fun i => (X i).1).length mm) ((List.range len).map fun i => (X i).1) := by
          refine .mk (some a) mm _ ((List.range len).map fun i => (X i).2) (by rw [e1, List.length_map, List.length_range]) (by rw [e1]; exact hl) hmx (fun j hj hj' => ?_) (fun j hj hj' => ?_)
          · rw [e1] at hj
            obtain ⟨h1, _, _, _⟩ := hX j hj
            simp only [List.getElem_map, List.getElem_range]
            obtain ⟨b, o, spot⟩ := a
            have hs : spot = none := by
              have h0 := (hX 0 (by omega)).1 0 (by decide)
              have := World.cell?_spot (h0.trans rfl)
              simpa [Addr.add] using this
            subst hs
            have hcell : ∀ q, q < 8 → W.cell? ⟨b, o + j * 8 + q, none⟩ = (izc (X j))[q]? := fun q hq => by
              have := h1 q hq
              rw [add_at, add_at] at this
              exact this
            have k0 := hcell 0 (by decide)
            exact ⟨b, o, rfl, lt_of_cell (k0.trans rfl), ⟨k0.trans rfl, (hcell 1 (by decide)).trans rfl, (hcell 2 (by decide)).trans rfl, (hcell 3 (by decide)).trans rfl, (hcell 4 (by decide)).trans rfl, (hcell 5 (by decide)).trans rfl, (hcell 6 (by decide)).trans rfl, (hcell 7 (by decide)).trans rfl⟩⟩
          · rw [e1] at hj
            obtain ⟨_, h2, _, _⟩ := hX j hj
            simp only [List.getElem_map, List.getElem_range]
            exact h2
        rw [e1] at hh
        exact hh
      · have h1 := bulk_range (D := D) (X := fun i => (X i).1) (List.range len) (fun j hj => (hX j (List.mem_range.mp hj)).2.2.1)
        rw [hx.1]
        simp only [Rows.uptoBulk]
        omega
      · rw [intZ_mem]
        intro x hx2
        obtain ⟨i, hi, rfl⟩ := List.mem_map.mp hx2
        exact (hX i (List.mem_range.mp hi)).2.2.2
/-- a slice of events that came in, as it reads, and how much it holds -/
theorem open_events6 {H : Type} {enc : TypeId × Value → H} {W : World} {a0 : Option Addr} {len cap : Nat} {d : DataW H} {ps : List MemPlace} (h : DataW.Trod enc Tryd.prog W 0 (fun _ => true) true 22 (.slice a0 len cap) d ps) :
    ∃ l : List Ez, EzsAt W (fun g => g < W.heap.size) (.slice a0 len cap) l ∧ bulkE l ≤ Rows.uptoBulk d ∧ (∀ e ∈ l, EvInt e) ∧ (a0 = none → cap = 0) := by
  obtain ⟨fuel, hf⟩ := h
  simp [Value.cells] at hf
  rcases Deep.open_slice Tryd.underlying22 hf with ⟨hcs, hx⟩ | ⟨a, len', cap', mm, n, D, Pl, hcs, _, hl, hmx, hm, hx, hall⟩
  · simp at hcs
    obtain ⟨rfl, rfl, rfl⟩ := hcs
    exact ⟨[], ⟨none, 0, rfl, Nat.le_refl _, by decide, fun j hj => by simp at hj⟩, Nat.zero_le _, (fun e he => by simp at he), fun _ => rfl⟩
  · simp at hcs
    obtain ⟨rfl, rfl, rfl⟩ := hcs
    simp only [if_true] at hm
    subst hm
    simp only [Prod.mk.injEq] at hx
    have each : ∀ i, i < len → ∃ p : Ez × Value, (∀ q, q < 12 → W.cell? ((a.add (i * 12)).add q) = (ezc p)[q]?) ∧ IzsAt W (fun g => g < W.heap.size) p.2 p.1.item.kids ∧ 4 + bulk1 p.1.item ≤ Rows.uptoBulk (D i) ∧ EvInt p.1 := by
      intro i hi
      obtain ⟨cs', h1, h2⟩ := hall i (by omega)
      obtain ⟨z0, z1, z2, z3, c8, y4, m4, rfl, h3, h4, b0, b1, b2, b3⟩ := open_event h2
      obtain ⟨x0, x1, s2, s3, x4, x5, b6, k, dk, plk, mk, rfl, h5, h6, hw⟩ := open_item6 h3
      rw [cellsE12] at h1
      have h4 : Rows.uptoBulk y4.1 + 4 ≤ Rows.uptoBulk (D i) := h4
      obtain ⟨lk, h7, h8, h9⟩ := open_its6 _ k dk mk plk (Nat.le_refl _) h5
      refine ⟨(⟨z0, z1, z2, z3, .mk x0 x1 s2 s3 x4 x5 b6 lk⟩, k), fun q hq => (World.cells?_some h1).2.2 q hq, h7, ?_, b0, b1, b2, b3, ?_⟩
      · rw [bulk1]
        omega
      · show Int1 (.mk x0 x1 s2 s3 x4 x5 b6 lk)
        rw [Int1]
        exact ⟨hw, h9⟩
    have inh : Inhabited (Ez × Value) := ⟨(⟨0, 0, 0, 0, .mk 0 0 ⟨#[]⟩ ⟨#[]⟩ 0 0 false []⟩, .bool false)⟩
    obtain ⟨X, hX⟩ := Deep.choose_lt each
    have e1 : ((List.range len).map fun i => (X i).1).length = len := by rw [List.length_map, List.length_range]
    refine ⟨(List.range len).map fun i => (X i).1, ⟨some a, mm, by rw [e1], by rw [e1]; exact hl, by unfold maxLen at hmx; omega, fun j hj => ?_⟩, ?_, fun e he => ?_, fun e => by cases e⟩
    · rw [e1] at hj
      obtain ⟨h1, h2, _, _⟩ := hX j hj
      simp only [List.getElem_map, List.getElem_range]
      obtain ⟨b, o, spot⟩ := a
      have hs : spot = none := by
        have h0 := (hX 0 (by omega)).1 0 (by decide)
        have := World.cell?_spot (h0.trans rfl)
        simpa [Addr.add] using this
      subst hs
      have hcell : ∀ q, q < 12 → W.cell? ⟨b, o + j * 12 + q, none⟩ = (ezc (X j))[q]? := fun q hq => by
        have := h1 q hq
        rw [add_at, add_at] at this
        exact this
      have k0 := hcell 0 (by decide)
      exact ⟨b, o, (X j).2, rfl, lt_of_cell (k0.trans rfl), ⟨k0.trans rfl, (hcell 1 (by decide)).trans rfl, (hcell 2 (by decide)).trans rfl, (hcell 3 (by decide)).trans rfl, ⟨(hcell 4 (by decide)).trans rfl, (hcell 5 (by decide)).trans rfl, (hcell 6 (by decide)).trans rfl, (hcell 7 (by decide)).trans rfl, (hcell 8 (by decide)).trans rfl, (hcell 9 (by decide)).trans rfl, (hcell 10 (by decide)).trans rfl, (hcell 11 (by decide)).trans rfl⟩⟩, h2⟩
    · have h1 := bulkE_range (D := D) (X := fun i => (X i).1) (List.range len) (fun j hj => (hX j (List.mem_range.mp hj)).2.2.1)
      rw [hx.1]
      simp only [Rows.uptoBulk]
      omega
    · obtain ⟨i, hi, rfl⟩ := List.mem_map.mp he
      exact (hX i (List.mem_range.mp hi)).2.2.2

/-! ### bytes -/
theorem cellsU : Tryd.prog.cellsOf 5 = 1 := by kernel_rfl
theorem bulk_lits {H : Type} (k : IntKind) : ∀ zs : List Int, Rows.uptoBulkAll (lits (H := H) k zs) = zs.length
  | [] => rfl
  | z :: zs => by
    have := bulk_lits (H := H) k zs
    show Rows.uptoBulkAll (_ :: lits k zs) = _
    rw [Rows.uptoBulkAll, this, List.length_cons]
    simp only [Rows.uptoBulk]
    omega
theorem open_bytes {H : Type} {enc : TypeId × Value → H} {W : World} {a0 : Option Addr} {len cap : Nat} {d : DataW H} {ps : List MemPlace} (h : DataW.Trod enc Tryd.prog W 0 (fun _ => true) true 23 (.slice a0 len cap) d ps) :
    ∃ b : Bs, BsAt W (fun g => g < W.heap.size) (.slice a0 len cap) b ∧ b.length ≤ Rows.uptoBulk d := by
  obtain ⟨fuel, hf⟩ := h
  simp [Value.cells] at hf
  rcases open_ints Tryd.underlying23 Tryd.underlying5 cellsU hf with ⟨hcs, hx⟩ | ⟨a, len', cap', zs, hcs, _, hl, hm, hz, hx, hc, hw⟩
  · simp at hcs
    obtain ⟨rfl, rfl, rfl⟩ := hcs
    exact ⟨[], BsAt.nil _ _, Nat.zero_le _⟩
  · simp at hcs
    obtain ⟨rfl, rfl, rfl⟩ := hcs
    simp only [if_true] at hz
    simp only [Prod.mk.injEq] at hx
    have hlen : ((zs.take len).map fun n => UInt8.ofNat n.toNat).length = len := by rw [List.length_map, List.length_take]; omega
    refine ⟨(zs.take len).map fun n => UInt8.ofNat n.toNat, ⟨some a, cap, by rw [hlen], by omega, hm, (fun e => by cases e), fun j hj => ?_⟩, ?_⟩
    · rw [hlen] at hj
      obtain ⟨b, o, spot⟩ := a
      have h0 := hc j (by omega)
      have hs : spot = none := by
        have h00 := hc 0 (by omega)
        have := World.cell?_spot h00
        simpa [Addr.add] using this
      subst hs
      rw [add_at] at h0
      have hjz : j < zs.length := by omega
      have hb := bounds_u8 (hw _ (List.getElem_mem hjz))
      refine ⟨b, o, rfl, lt_of_cell h0, ?_⟩
      rw [h0]
      simp only [List.getElem_map, List.getElem_take, u8v, List.getD, List.getElem?_eq_getElem hjz, Option.getD_some]
      congr 2
      rw [UInt8.toNat_ofNat']
      omega
    · rw [hlen, hx.1]
      simp only [Rows.uptoBulk]
      rw [bulk_lits, List.length_take]
      omega
end Go.Proofs.YtpnineimnjibaafDoor

/-
  A WORLD FOR THE WITNESS: the settled one, strconv's tables and errors holding what the program's text lays; and the bounds of what comes in.
-/
namespace Go.Proofs.YtpnineimnjibaafDoor
open Go.ChangeShapes Go.WideShapes Go.ChangeAt Go.RowKit

def unlit : DataW Unit → Value
  | .lit (.int k n) => .int k n
  | _ => .bool false
def unagg : DataW Unit → Array Value
  | .agg l => (l.map unlit).toArray
  | _ => #[]
noncomputable def lowJ : Nat := (World.holding Tryd.prog default ⟨#[], #[], []⟩).heap.size
noncomputable def laidWorldJ (os : Os) : World :=
  let w0 := World.holding Tryd.prog os ⟨#[.cells #[.string ⟨#[118, 97, 108, 117, 101, 32, 111, 117, 116, 32, 111, 102, 32, 114, 97, 110, 103, 101]⟩] 106, .cells #[.string ⟨#[105, 110, 118, 97, 108, 105, 100, 32, 115, 121, 110, 116, 97, 120]⟩] 106], #[], []⟩
  { w0 with heap := ((((w0.heap.modify 3 fun
      | .cells _ t frozen => .cells (unagg Rows.laid_internal_strconv_uint64pow10) t frozen
      | o => o).modify 4 fun
      | .cells _ t frozen => .cells (unagg Rows.laid_math_bits_deBruijn32tab) t frozen
      | o => o).modify 5 fun
      | .cells _ t frozen => .cells (unagg Rows.laid_math_bits_deBruijn64tab) t frozen
      | o => o).modify 2 fun
      | .cells _ t frozen => .cells #[.iface 104 (.pointer (some ⟨lowJ, 0, none⟩))] t frozen
      | o => o).modify 1 fun
      | .cells _ t frozen => .cells #[.iface 104 (.pointer (some ⟨lowJ + 1, 0, none⟩))] t frozen
      | o => o }
theorem laid_metJ (os : Os) : laidMet Tryd.prog Rows.wireJoinedUptoRow.laid ((laidWorldJ os).forCall (fun _ _ => 0) ⟨#[], #[.slice none 0 0, .slice none 0 0], []⟩).memory :=
  laidMet_of_run3 8 (by kernel_rfl) (by kernel_rfl) (by kernel_rfl)

/-! ### the bounds of what comes in -/
theorem evs_num {l : List Ez} (h : ∀ e ∈ l, EvInt e) (hb : bulkE l ≤ 1048576) : ∀ e ∈ l, EvNum e := fun e he => (h e he).num (Nat.le_trans (bulkE_mem he) hb)
theorem evs_len {l : List Ez} (h : ∀ e ∈ l, EvInt e) (hb : bulkE l ≤ 1048576) : (eventsB l).length ≤ 30000000 := by
  have := events_le l (evs_num h hb)
  omega
theorem evs_few {l : List Ez} (hb : bulkE l ≤ 1048576) : l.length ≤ 1048576 := by
  have := bulkE_len l
  omega
theorem evs_deep {l : List Ez} (hb : bulkE l ≤ 1048576) : deepZ (l.map Ez.item) ≤ 100000000 := by
  rw [deepZ_le]
  intro x hx
  obtain ⟨e, he, rfl⟩ := List.mem_map.mp hx
  have h1 := deep_le.1 e.item
  have h2 := bulkE_mem he
  omega
end Go.Proofs.YtpnineimnjibaafDoor

/-
  ROWS of items, and of events, that the call makes, whatever their numbers: append of one.
-/
namespace Go.Proofs.YtpnineimnjibaafDoor
open Go.RowKit

/-! ### items -/
theorem izc_len (p : Iz × Value) : (izc p).length = 8 := rfl
def cellsZ (l : List Iz) (kvs : List Value) : List Value := (l.zip kvs).flatMap izc
theorem cellsZ_app (l m : List Iz) (ks ms : List Value) (h : ks.length = l.length) : cellsZ (l ++ m) (ks ++ ms) = cellsZ l ks ++ cellsZ m ms := by
  unfold cellsZ
  rw [List.zip_append h.symm, List.flatMap_append]
theorem cellsZ_at (l : List Iz) (kvs : List Value) (h : kvs.length = l.length) (j i : Nat) (hj : j < l.length) (hi : i < 8) : (cellsZ l kvs)[j * 8 + i]? = (izc (l[j], kvs[j]'(by omega)))[i]? := by
  unfold cellsZ
  rw [flat_at izc 8 izc_len _ _ _ hi, List.getElem?_eq_getElem (by rw [List.length_zip]; omega), List.getElem_zip]
  rfl
theorem IzsAt.one {w : World} {P : Nat → Prop} {v : Value} {l : List Iz} (h : IzsAt w P v l) : v.oneCell' = true := by
  obtain ⟨p, c, rfl⟩ := h.shape
  rfl
theorem one_izc (y : Iz) (kv : Value) (hk : kv.oneCell' = true) : ∀ u ∈ izc (y, kv), u.oneCell' = true := by
  intro u hu
  simp only [izc, List.mem_cons, List.not_mem_nil, or_false] at hu
  rcases hu with rfl | rfl | rfl | rfl | rfl | rfl | rfl | rfl
  · rfl
  · rfl
  · rfl
  · rfl
  · rfl
  · rfl
  · rfl
  · exact hk
theorem IzsAt.any {w : World} {P : Nat → Prop} {v : Value} {l : List Iz} (h : IzsAt w P v l) {Q : Nat → Prop} (hQ : ∀ g, P g → g < w.heap.size → Q g) : IzsAt w Q v l := h.frame (fun g hg hlt => ⟨rfl, hQ g hg hlt⟩)

/-- a row of items of the call's own, and all that is in them -/
def OwnK (w : World) (B : Nat) (v : Value) (l : List Iz) : Prop :=
  ∃ kvs, kvs.length = l.length ∧ w.ownsRow B 33 8 v l.length (cellsZ l kvs) ∧ ∀ j (h : j < l.length) (h' : j < kvs.length), IzsAt w (fun g => B ≤ g ∧ some g ≠ v.ownBlock) kvs[j] l[j].kids
theorem OwnK.nil (w : World) (B : Nat) : OwnK w B (.slice none 0 0) [] := ⟨[], rfl, World.ownsRow_nil _ _ _ _, fun j h => by simp at h⟩
theorem OwnK.shape {w : World} {B : Nat} {v : Value} {l : List Iz} (h : OwnK w B v l) : ∃ p c, v = .slice p l.length c := by
  obtain ⟨_, _, h, _⟩ := h
  exact owns_shape h
theorem OwnK.lt {w : World} {B : Nat} {v : Value} {l : List Iz} (h : OwnK w B v l) : ∀ g, v.ownBlock = some g → B ≤ g ∧ g < w.heap.size := by
  obtain ⟨kvs, hl, ho, hk⟩ := h
  exact ho.lt
theorem OwnK.izs {w : World} {B : Nat} {v : Value} {l : List Iz} (h : OwnK w B v l) : IzsAt w (fun g => B ≤ g) v l := by
  obtain ⟨kvs, hl, ho, hk⟩ := h
  have hlt := ho.lt
  obtain ⟨p, c, e, h1, h2, h3, h4⟩ := cells_of_owns ho
  subst e
  refine .mk p c l kvs hl h1 h2 (fun j hj hj' => ?_) (fun j hj hj' => (hk j hj hj').any (fun g hg _ => hg.1))
  have hx : ∀ i, i < 8 → ∀ x, (izc (l[j], kvs[j]))[i]? = some x → ∃ b o, p = some ⟨b, o, none⟩ ∧ w.cell? ⟨b, o + j * 8 + i, none⟩ = some x := fun i hi x hx => by
    obtain ⟨b, o, e1, e2⟩ := h4 (j * 8 + i) x (by rw [cellsZ_at l kvs hl j i hj hi]; exact hx)
    exact ⟨b, o, e1, by rw [Nat.add_assoc]; exact e2⟩
  obtain ⟨b, o, rfl, e0⟩ := hx 0 (by decide) _ rfl
  have hy : ∀ i, i < 8 → ∀ x, (izc (l[j], kvs[j]))[i]? = some x → w.cell? ⟨b, o + j * 8 + i, none⟩ = some x := fun i hi x h => by
    obtain ⟨b', o', e1, e2⟩ := hx i hi x h
    cases e1
    exact e2
  exact ⟨b, o, rfl, (hlt b rfl).1, ⟨e0, hy 1 (by decide) _ rfl, hy 2 (by decide) _ rfl, hy 3 (by decide) _ rfl, hy 4 (by decide) _ rfl, hy 5 (by decide) _ rfl, hy 6 (by decide) _ rfl, hy 7 (by decide) _ rfl⟩⟩
theorem OwnK.bt {S : List Nat} {w w' : World} {B : Nat} {v : Value} {l : List Iz} (h : OwnK w B v l) (hb : Bt S w w') (hS : ∀ x ∈ S, x < B) : OwnK w' B v l := by
  obtain ⟨kvs, hl, ho, hk⟩ := h
  exact ⟨kvs, hl, hb.owns ho hS, fun j h h' => (hk j h h').frame (fun g hg hlt => ⟨hb.block g hlt (fun hx => by have := hS g hx; omega), hg⟩)⟩

theorem append_item {wr : World} {ops : Array Oper} {rest : List Oper} {o : Oper} {a : Act} {Q : Exit → Act → World → Prop} (hgd : o.guard = none)
    (s x : Operand) (ho : o.op = Op.call { callee := Callee.builtin Builtin.append, args := #[s, x], argTypes := #[31, 31] }) {B : Nat} {v : Value} {l : List Iz} (y : Iz) (kv : Value)
    (hs : a.eval s = v) (hx : a.eval x = .slice (some ⟨wr.heap.size, 0, none⟩) 1 1) (hown : OwnK wr B v l) (hk : IzsAt wr (fun g => B ≤ g ∧ some g ≠ v.ownBlock) kv y.kids) (hB : B ≤ wr.heap.size) (hsz : l.length ≤ 100000000)
    (h : ∀ v' w1, OwnK w1 B v' (l ++ [y]) → Below B wr w1 → wr.grownBy w1 v.ownBlock → wpList Tryd.prog ops Q rest (a.put o.dst v') w1) :
    wpList Tryd.prog ops Q (o :: rest) a (wr.alloc (.cells (izc (y, kv)).toArray 33)) := by
  obtain ⟨i0, hi, hz0, hz1, hz2⟩ := info_parts infoT
  obtain ⟨kvs, hl, hown', hkk⟩ := hown
  have hlt := hown'.lt
  have halloc := hown'.alloc (.cells (izc (y, kv)).toArray 33)
  refine wpList_plain hgd fun K hK => ?_
  refine wp_append_lies (wr.alloc (.cells (izc (y, kv)).toArray 33)) s x 31 ho B 33 i0 _ 8 96 Tryd.underlying31 hi hz0 hz1 hz2 rfl (by decide) v _ _ hs halloc ⟨wr.heap.size, 0, none⟩ 1 1 (izc (y, kv)) hx rfl ?_
    (one_izc y kv hk.one) (by decide) (by unfold maxLen; omega) (by omega) (by simp; omega) _ rfl ?_
  · intro j u hj
    rw [add_at, Nat.zero_add, World.cell?_alloc_new]
    simpa using hj
  · intro g cap w1 k1 k2 k3 k4
    have kal := World.grownBy_alloc wr (.cells (izc (y, kv)).toArray 33) v.ownBlock
    have kg : wr.grownBy w1 v.ownBlock := ⟨k2.os.trans kal.os, k2.tape.trans kal.tape, k2.output.trans kal.output, Nat.le_trans kal.size k2.size, fun q hq hr' => (k2.block q (Nat.lt_of_lt_of_le hq kal.size) hr').trans (kal.block q hq hr')⟩
    have hsz1 : (wr.alloc (.cells (izc (y, kv)).toArray 33)).heap.size = wr.heap.size + 1 := by simp
    have far : ∀ q, q < wr.heap.size → some q ≠ v.ownBlock → some q ≠ (Value.slice (some ⟨g, 0, none⟩) (l.length + 1) cap).ownBlock := fun q hq hne e => by
      have e : q = g := by simpa [Value.ownBlock] using e
      rcases k3 with k3 | k3
      · exact hne (by rw [k3, e])
      · rw [hsz1] at k3; omega
    refine hK _ _ (h _ w1 ⟨kvs ++ [kv], by simp [hl], ?_, fun j hj hj' => ?_⟩ ((Below.refl B wr).grown kg hB (fun j hj => (hlt j hj).1)) kg)
    · rw [cellsZ_app _ _ _ _ hl, List.length_append]
      exact k1
    · by_cases hjl : j < l.length
      · have e1 : (l ++ [y])[j] = l[j] := List.getElem_append_left hjl
        have e2 : (kvs ++ [kv])[j] = kvs[j]'(by omega) := List.getElem_append_left (by omega)
        rw [e1, e2]
        exact (hkk j hjl (by omega)).frame (fun q hq hlt => ⟨kg.block q hlt hq.2, hq.1, far q hlt hq.2⟩)
      · have hj2 : j = l.length := by rw [List.length_append, List.length_singleton] at hj; omega
        subst hj2
        have e1 : (l ++ [y])[l.length] = y := by simp
        have e2 : (kvs ++ [kv])[l.length] = kv := by simp [← hl]
        rw [e1, e2]
        exact hk.frame (fun q hq hlt => ⟨kg.block q hlt hq.2, hq.1, far q hlt hq.2⟩)
end Go.Proofs.YtpnineimnjibaafDoor

/-
  ROWS of events that the call makes, whatever their numbers: append of one.
-/
namespace Go.Proofs.YtpnineimnjibaafDoor
open Go.RowKit

theorem infoE : (Tryd.prog.info? 35).map (fun i => (i.zero, i.size, i.bytes)) = some (some (.agg #[.int .i64 0, .int .i64 0, .int .i64 0, .int .i64 0, .int .i64 0, .int .i64 0, .string ⟨#[]⟩, .string ⟨#[]⟩, .int .i64 0, .int .i64 0, .bool false, .slice none 0 0]), 12, 128) := by kernel_rfl
theorem ezc_len (p : Ez × Value) : (ezc p).length = 12 := rfl
def cellsEz (l : List Ez) (kvs : List Value) : List Value := (l.zip kvs).flatMap ezc
theorem cellsEz_len (l : List Ez) (kvs : List Value) (h : kvs.length = l.length) : (cellsEz l kvs).length = l.length * 12 := by
  unfold cellsEz
  rw [flat_len ezc 12 ezc_len, List.length_zip, h, Nat.min_self]
theorem cellsEz_app (l m : List Ez) (ks ms : List Value) (h : ks.length = l.length) : cellsEz (l ++ m) (ks ++ ms) = cellsEz l ks ++ cellsEz m ms := by
  unfold cellsEz
  rw [List.zip_append h.symm, List.flatMap_append]
theorem cellsEz_at (l : List Ez) (kvs : List Value) (h : kvs.length = l.length) (j i : Nat) (hj : j < l.length) (hi : i < 12) : (cellsEz l kvs)[j * 12 + i]? = (ezc (l[j], kvs[j]'(by omega)))[i]? := by
  unfold cellsEz
  rw [flat_at ezc 12 ezc_len _ _ _ hi, List.getElem?_eq_getElem (by rw [List.length_zip]; omega), List.getElem_zip]
  rfl
theorem one_ezc (y : Ez) (kv : Value) (hk : kv.oneCell' = true) : ∀ u ∈ ezc (y, kv), u.oneCell' = true := by
  intro u hu
  simp only [ezc, izc, List.cons_append, List.nil_append, List.mem_cons, List.not_mem_nil, or_false] at hu
  rcases hu with rfl | rfl | rfl | rfl | rfl | rfl | rfl | rfl | rfl | rfl | rfl | rfl
  all_goals first | rfl | exact hk

/-- a row of events of the call's own, and all that is in them -/
def OwnE (w : World) (B : Nat) (v : Value) (l : List Ez) : Prop :=
  ∃ kvs, kvs.length = l.length ∧ w.ownsRow B 35 12 v l.length (cellsEz l kvs) ∧ ∀ j (h : j < l.length) (h' : j < kvs.length), IzsAt w (fun g => B ≤ g ∧ some g ≠ v.ownBlock) kvs[j] l[j].item.kids
theorem OwnE.nil (w : World) (B : Nat) : OwnE w B (.slice none 0 0) [] := ⟨[], rfl, World.ownsRow_nil _ _ _ _, fun j h => by simp at h⟩
theorem OwnE.shape {w : World} {B : Nat} {v : Value} {l : List Ez} (h : OwnE w B v l) : ∃ p c, v = .slice p l.length c := by
  obtain ⟨_, _, h, _⟩ := h
  exact owns_shape h
theorem OwnE.lt {w : World} {B : Nat} {v : Value} {l : List Ez} (h : OwnE w B v l) : ∀ g, v.ownBlock = some g → B ≤ g ∧ g < w.heap.size := by
  obtain ⟨kvs, hl, ho, hk⟩ := h
  exact ho.lt
theorem OwnE.ezs {w : World} {B : Nat} {v : Value} {l : List Ez} (h : OwnE w B v l) : EzsAt w (fun g => B ≤ g) v l := by
  obtain ⟨kvs, hl, ho, hk⟩ := h
  have hlt := ho.lt
  obtain ⟨p, c, e, h1, h2, h3, h4⟩ := cells_of_owns ho
  subst e
  refine ⟨p, c, rfl, h1, by unfold maxLen at h2; omega, fun j hj => ?_⟩
  have hj' : j < kvs.length := by omega
  have hx : ∀ i, i < 12 → ∀ x, (ezc (l[j], kvs[j]))[i]? = some x → ∃ b o, p = some ⟨b, o, none⟩ ∧ w.cell? ⟨b, o + j * 12 + i, none⟩ = some x := fun i hi x hx => by
    obtain ⟨b, o, e1, e2⟩ := h4 (j * 12 + i) x (by rw [cellsEz_at l kvs hl j i hj hi]; exact hx)
    exact ⟨b, o, e1, by rw [Nat.add_assoc]; exact e2⟩
  obtain ⟨b, o, rfl, e0⟩ := hx 0 (by decide) _ rfl
  have hy : ∀ i, i < 12 → ∀ x, (ezc (l[j], kvs[j]))[i]? = some x → w.cell? ⟨b, o + j * 12 + i, none⟩ = some x := fun i hi x h => by
    obtain ⟨b', o', e1, e2⟩ := hx i hi x h
    cases e1
    exact e2
  exact ⟨b, o, kvs[j], rfl, (hlt b rfl).1, ⟨e0, hy 1 (by decide) _ rfl, hy 2 (by decide) _ rfl, hy 3 (by decide) _ rfl, ⟨hy 4 (by decide) _ rfl, hy 5 (by decide) _ rfl, hy 6 (by decide) _ rfl, hy 7 (by decide) _ rfl, hy 8 (by decide) _ rfl, hy 9 (by decide) _ rfl, hy 10 (by decide) _ rfl, hy 11 (by decide) _ rfl⟩⟩, (hk j hj hj').any (fun g hg _ => hg.1)⟩
theorem OwnE.bt {S : List Nat} {w w' : World} {B : Nat} {v : Value} {l : List Ez} (h : OwnE w B v l) (hb : Bt S w w') (hS : ∀ x ∈ S, x < B) : OwnE w' B v l := by
  obtain ⟨kvs, hl, ho, hk⟩ := h
  exact ⟨kvs, hl, hb.owns ho hS, fun j h h' => (hk j h h').frame (fun g hg hlt => ⟨hb.block g hlt (fun hx => by have := hS g hx; omega), hg⟩)⟩

theorem append_event {wr : World} {ops : Array Oper} {rest : List Oper} {o : Oper} {a : Act} {Q : Exit → Act → World → Prop} (hgd : o.guard = none)
    (s x : Operand) (ho : o.op = Op.call { callee := Callee.builtin Builtin.append, args := #[s, x], argTypes := #[22, 22] }) {B : Nat} {v : Value} {l : List Ez} (y : Ez) (kv : Value)
    (hs : a.eval s = v) (hx : a.eval x = .slice (some ⟨wr.heap.size, 0, none⟩) 1 1) (hown : OwnE wr B v l) (hk : IzsAt wr (fun g => B ≤ g ∧ some g ≠ v.ownBlock) kv y.item.kids) (hB : B ≤ wr.heap.size) (hsz : l.length ≤ 100000000)
    (h : ∀ v' w1, OwnE w1 B v' (l ++ [y]) → Below B wr w1 → wr.grownBy w1 v.ownBlock → wpList Tryd.prog ops Q rest (a.put o.dst v') w1) :
    wpList Tryd.prog ops Q (o :: rest) a (wr.alloc (.cells (ezc (y, kv)).toArray 35)) := by
  obtain ⟨i0, hi, hz0, hz1, hz2⟩ := info_parts infoE
  obtain ⟨kvs, hl, hown', hkk⟩ := hown
  have hlt := hown'.lt
  have halloc := hown'.alloc (.cells (ezc (y, kv)).toArray 35)
  refine wpList_plain hgd fun K hK => ?_
  refine wp_append_lies (wr.alloc (.cells (ezc (y, kv)).toArray 35)) s x 22 ho B 35 i0 _ 12 128 Tryd.underlying22 hi hz0 hz1 hz2 rfl (by decide) v _ _ hs halloc ⟨wr.heap.size, 0, none⟩ 1 1 (ezc (y, kv)) hx rfl ?_
    (one_ezc y kv hk.one) (by decide) (by unfold maxLen; omega) (by omega) (by simp; omega) _ rfl ?_
  · intro j u hj
    rw [add_at, Nat.zero_add, World.cell?_alloc_new]
    simpa using hj
  · intro g cap w1 k1 k2 k3 k4
    have kal := World.grownBy_alloc wr (.cells (ezc (y, kv)).toArray 35) v.ownBlock
    have kg : wr.grownBy w1 v.ownBlock := ⟨k2.os.trans kal.os, k2.tape.trans kal.tape, k2.output.trans kal.output, Nat.le_trans kal.size k2.size, fun q hq hr' => (k2.block q (Nat.lt_of_lt_of_le hq kal.size) hr').trans (kal.block q hq hr')⟩
    have hsz1 : (wr.alloc (.cells (ezc (y, kv)).toArray 35)).heap.size = wr.heap.size + 1 := by simp
    have far : ∀ q, q < wr.heap.size → some q ≠ v.ownBlock → some q ≠ (Value.slice (some ⟨g, 0, none⟩) (l.length + 1) cap).ownBlock := fun q hq hne e => by
      have e : q = g := by simpa [Value.ownBlock] using e
      rcases k3 with k3 | k3
      · exact hne (by rw [k3, e])
      · rw [hsz1] at k3; omega
    refine hK _ _ (h _ w1 ⟨kvs ++ [kv], by simp [hl], ?_, fun j hj hj' => ?_⟩ ((Below.refl B wr).grown kg hB (fun j hj => (hlt j hj).1)) kg)
    · rw [cellsEz_app _ _ _ _ hl, List.length_append]
      exact k1
    · by_cases hjl : j < l.length
      · have e1 : (l ++ [y])[j] = l[j] := List.getElem_append_left hjl
        have e2 : (kvs ++ [kv])[j] = kvs[j]'(by omega) := List.getElem_append_left (by omega)
        rw [e1, e2]
        exact (hkk j hjl (by omega)).frame (fun q hq hlt => ⟨kg.block q hlt hq.2, hq.1, far q hlt hq.2⟩)
      · have hj2 : j = l.length := by rw [List.length_append, List.length_singleton] at hj; omega
        subst hj2
        have e1 : (l ++ [y])[l.length] = y := by simp
        have e2 : (kvs ++ [kv])[l.length] = kv := by simp [← hl]
        rw [e1, e2]
        exact hk.frame (fun q hq hlt => ⟨kg.block q hlt hq.2, hq.1, far q hlt hq.2⟩)
end Go.Proofs.YtpnineimnjibaafDoor

/-
  ROWS of events of the call's own, to which events that came in are appended: their kids lie where they lay.
-/
namespace Go.Proofs.YtpnineimnjibaafDoor
open Go.RowKit Go.Lib

/-- a row of the call's own, of events whose kids lie below B -/
def OwnEr (w : World) (B : Nat) (v : Value) (l : List Ez) : Prop :=
  ∃ kvs, kvs.length = l.length ∧ w.ownsRow B 35 12 v l.length (cellsEz l kvs) ∧ ∀ j (h : j < l.length) (h' : j < kvs.length), IzsAt w (fun g => g < B) kvs[j] l[j].item.kids
theorem OwnEr.lt {w : World} {B : Nat} {v : Value} {l : List Ez} (h : OwnEr w B v l) : ∀ g, v.ownBlock = some g → B ≤ g ∧ g < w.heap.size := by
  obtain ⟨kvs, hl, ho, hk⟩ := h
  exact ho.lt
theorem OwnEr.shape {w : World} {B : Nat} {v : Value} {l : List Ez} (h : OwnEr w B v l) : ∃ p c, v = .slice p l.length c := by
  obtain ⟨_, _, h, _⟩ := h
  exact owns_shape h
theorem OwnEr.empty {w : World} {B g : Nat} (h : w.heap[g]? = some (Obj.cells #[] 35)) (hB : B ≤ g) : OwnEr w B (.slice (some ⟨g, 0, none⟩) 0 0) [] :=
  ⟨[], rfl, ⟨rfl, Or.inr ⟨g, 0, #[], rfl, hB, h, Nat.le_refl _, by decide, rfl, rfl⟩⟩, fun j h => by simp at h⟩
theorem OwnEr.on {w w' : World} {B : Nat} {v : Value} {l : List Ez} (h : OwnEr w B v l) (hb : Below w.heap.size w w') : OwnEr w' B v l := by
  obtain ⟨kvs, hl, ho, hk⟩ := h
  exact ⟨kvs, hl, (Bt.below (S := []) hb).owns ho (by simp), fun j h h' => (hk j h h').under hb⟩
theorem OwnEr.ezs {w : World} {B : Nat} {v : Value} {l : List Ez} (h : OwnEr w B v l) (_hB : B ≤ w.heap.size) : EzsAt w (fun g => g < w.heap.size) v l := by
  obtain ⟨kvs, hl, ho, hk⟩ := h
  have hlt := ho.lt
  obtain ⟨p, c, e, h1, h2, h3, h4⟩ := cells_of_owns ho
  subst e
  refine ⟨p, c, rfl, h1, by unfold maxLen at h2; omega, fun j hj => ?_⟩
  have hj' : j < kvs.length := by omega
  have hx : ∀ i, i < 12 → ∀ x, (ezc (l[j], kvs[j]))[i]? = some x → ∃ b o, p = some ⟨b, o, none⟩ ∧ w.cell? ⟨b, o + j * 12 + i, none⟩ = some x := fun i hi x hx => by
    obtain ⟨b, o, e1, e2⟩ := h4 (j * 12 + i) x (by rw [cellsEz_at l kvs hl j i hj hi]; exact hx)
    exact ⟨b, o, e1, by rw [Nat.add_assoc]; exact e2⟩
  obtain ⟨b, o, rfl, e0⟩ := hx 0 (by decide) _ rfl
  have hy : ∀ i, i < 12 → ∀ x, (ezc (l[j], kvs[j]))[i]? = some x → w.cell? ⟨b, o + j * 12 + i, none⟩ = some x := fun i hi x h => by
    obtain ⟨b', o', e1, e2⟩ := hx i hi x h
    cases e1
    exact e2
  exact ⟨b, o, kvs[j], rfl, (hlt b rfl).2, ⟨e0, hy 1 (by decide) _ rfl, hy 2 (by decide) _ rfl, hy 3 (by decide) _ rfl, ⟨hy 4 (by decide) _ rfl, hy 5 (by decide) _ rfl, hy 6 (by decide) _ rfl, hy 7 (by decide) _ rfl, hy 8 (by decide) _ rfl, hy 9 (by decide) _ rfl, hy 10 (by decide) _ rfl, hy 11 (by decide) _ rfl⟩⟩, (hk j hj hj').frame (fun g hg _ => ⟨rfl, by omega⟩)⟩
/-- what came in, as cells -/
theorem ez_cells {w : World} {P : Nat → Prop} {v : Value} {l : List Ez} (h : EzsAt w P v l) : ∃ p c kvs, v = .slice p l.length c ∧ kvs.length = l.length ∧ (∀ q x, (cellsEz l kvs)[q]? = some x → ∃ b o, p = some ⟨b, o, none⟩ ∧ w.cell? ⟨b, o + q, none⟩ = some x) ∧
    ∀ j (h : j < l.length) (h' : j < kvs.length), IzsAt w P kvs[j] l[j].item.kids := by
  obtain ⟨p, c, rfl, h1, h2, h3⟩ := h
  have inh : Inhabited Value := ⟨.bool false⟩
  obtain ⟨K, hK⟩ := Deep.choose_lt (n := l.length) (p := fun j kv => ∀ hj : j < l.length, ∃ b o, p = some ⟨b, o, none⟩ ∧ P b ∧ EzAt w b (o + j * 12) l[j] kv ∧ IzsAt w P kv l[j].item.kids) (fun j hj => by
    obtain ⟨b, o, kv, h⟩ := h3 j hj
    exact ⟨kv, fun _ => ⟨b, o, h⟩⟩)
  have hkl : ((List.range l.length).map K).length = l.length := by rw [List.length_map, List.length_range]
  refine ⟨p, c, (List.range l.length).map K, rfl, hkl, fun q x hx => ?_, fun j hj hj' => ?_⟩
  · have hq : q < l.length * 12 := by
      rw [← cellsEz_len _ _ hkl]
      exact (List.getElem?_eq_some_iff.1 hx).1
    have hj : q / 12 < l.length := by omega
    have e : q / 12 * 12 + q % 12 = q := by omega
    have hi : q % 12 < 12 := by omega
    rw [← e, cellsEz_at l _ hkl _ _ hj hi] at hx
    obtain ⟨b, o, e1, _, hc, _⟩ := hK (q / 12) hj hj
    simp only [List.getElem_map, List.getElem_range] at hx
    refine ⟨b, o, e1, ?_⟩
    rw [← e, ← Nat.add_assoc]
    generalize q % 12 = m at *
    generalize q / 12 = k at *
    have : m = 0 ∨ m = 1 ∨ m = 2 ∨ m = 3 ∨ m = 4 ∨ m = 5 ∨ m = 6 ∨ m = 7 ∨ m = 8 ∨ m = 9 ∨ m = 10 ∨ m = 11 := by omega
    rcases this with rfl | rfl | rfl | rfl | rfl | rfl | rfl | rfl | rfl | rfl | rfl | rfl <;> simp [ezc, izc] at hx <;> subst hx
    · exact hc.c0
    · exact hc.c1
    · exact hc.c2
    · exact hc.c3
    · exact hc.it.c0
    · exact hc.it.c1
    · exact hc.it.c2
    · exact hc.it.c3
    · exact hc.it.c4
    · exact hc.it.c5
    · exact hc.it.c6
    · exact hc.it.c7
  · obtain ⟨b, o, _, _, _, hr⟩ := hK j hj hj
    simp only [List.getElem_map, List.getElem_range]
    exact hr
theorem one_cellsEz (l : List Ez) (kvs : List Value) (hk : ∀ v ∈ kvs, v.oneCell' = true) : ∀ u ∈ cellsEz l kvs, u.oneCell' = true := by
  intro u hu
  unfold cellsEz at hu
  rw [List.mem_flatMap] at hu
  obtain ⟨p, hp, hm⟩ := hu
  exact one_ezc p.1 p.2 (hk _ (List.of_mem_zip hp).2) u hm

theorem wp_append_events {wr : World} {o : Oper} {a : Act} {K : Act → World → Prop} {Q : Exit → Act → World → Prop}
    (s x : Operand) (ho : o.op = Op.call { callee := Callee.builtin Builtin.append, args := #[s, x], argTypes := #[22, 22] }) {B : Nat} {v u : Value} {l m : List Ez}
    (hs : a.eval s = v) (hx : a.eval x = u) (hown : OwnEr wr B v l) (hm : EzsAt wr (fun g => g < B) u m) (hn : ∀ n c, u = .slice none n c → c = 0) (hB : B ≤ wr.heap.size) (hsz : l.length + m.length ≤ 100000000)
    (h : ∀ v' w1, OwnEr w1 B v' (l ++ m) → Below B wr w1 → wr.heap.size ≤ w1.heap.size → K (a.put o.dst v') w1) : o.wp Tryd.prog a wr K Q := by
  obtain ⟨i0, hi, hz0, hz1, hz2⟩ := info_parts infoE
  have hown0 := hown
  obtain ⟨kvs, hl, hown', hkk⟩ := hown
  have hlt := hown'.lt
  obtain ⟨p, c, kus, rfl, hlu, hcs, hku⟩ := ez_cells hm
  have done : ∀ v' w1, w1.ownsRow B 35 12 v' (l.length + m.length) (cellsEz l kvs ++ cellsEz m kus) → wr.grownBy w1 v.ownBlock → K (a.put o.dst v') w1 := fun v' w1 k1 k2 => by
    have hb : Below B wr w1 := (Below.refl B wr).grown k2 hB (fun j hj => (hlt j hj).1)
    refine h v' w1 ⟨kvs ++ kus, by rw [List.length_append, List.length_append, hl, hlu], by rw [cellsEz_app _ _ _ _ hl, List.length_append]; exact k1, fun j hj hj' => ?_⟩ hb k2.size
    by_cases hjl : j < l.length
    · have e1 : (l ++ m)[j] = l[j] := List.getElem_append_left hjl
      have e2 : (kvs ++ kus)[j] = kvs[j]'(by omega) := List.getElem_append_left (by omega)
      rw [e1, e2]
      exact (hkk j hjl (by omega)).frame (fun q hq _ => ⟨hb.block q hq, hq⟩)
    · have hj2 : j - l.length < m.length := by rw [List.length_append] at hj; omega
      have e1 : (l ++ m)[j] = m[j - l.length] := List.getElem_append_right (by omega)
      have e2 : (kvs ++ kus)[j] = kus[j - l.length]'(by omega) := by rw [List.getElem_append_right (by omega)]; simp only [hl]
      rw [e1, e2]
      exact (hku (j - l.length) hj2 (by omega)).frame (fun q hq _ => ⟨hb.block q hq, hq⟩)
  have hone : ∀ y ∈ cellsEz m kus, y.oneCell' = true := one_cellsEz _ _ (fun y hy => by
    obtain ⟨j, hj, e⟩ := List.mem_iff_getElem.mp hy
    rw [← e]
    exact (hku j (by omega) hj).one)
  cases p with
  | none =>
    have hm0 : m = [] := by
      cases m with
      | nil => rfl
      | cons y m =>
        obtain ⟨b, o, e, _⟩ := hcs 0 _ (by rw [List.getElem?_eq_getElem (by rw [cellsEz_len _ _ hlu, List.length_cons]; omega)])
        cases e
    subst hm0
    have hc0 : c = 0 := hn _ _ rfl
    subst hc0
    have hk0 : kus = [] := List.length_eq_zero_iff.mp (by simpa using hlu)
    subst hk0
    have hrun := run_append_owned_none (P := Tryd.prog) (w := wr) B 22 o.type 35 i0 12 Tryd.underlying22 hi v _ _ hown'
    have hk' := done v wr (by simpa [cellsEz] using hown') ⟨rfl, rfl, rfl, Nat.le_refl _, fun _ _ _ => rfl⟩
    unfold Oper.wp
    simp [execOp, ho, resolve, invoke, builtin, hs, hx, hrun, Result.andThen]
    exact hk'
  | some ad =>
    refine wp_append_own _ s x 22 ho B 35 i0 _ 12 128 Tryd.underlying22 hi hz0 hz1 hz2 rfl (by decide) v _ _ hs hown' ad m.length c (cellsEz m kus) hx (cellsEz_len _ _ hlu) (fun j y hy => ?_) hone (by unfold maxLen; omega) (by omega) hB ?_
    · obtain ⟨b', o', e1, e2⟩ := hcs j y hy
      cases e1
      rw [add_at]
      exact e2
    · intro v' w1 k1 k2 _
      exact done v' w1 k1 k2
theorem step_append_events {wr : World} {ops : Array Oper} {o : Oper} {a : Act} {K : Act → World → Prop} {Q : Exit → Act → World → Prop} {E : Prop} (hgd : o.guard = none)
    (s x : Operand) (ho : o.op = Op.call { callee := Callee.builtin Builtin.append, args := #[s, x], argTypes := #[22, 22] }) {B : Nat} {v u : Value} {l m : List Ez}
    (hs : a.eval s = v) (hx : a.eval x = u) (hown : OwnEr wr B v l) (hm : EzsAt wr (fun g => g < B) u m) (hn : ∀ n c, u = .slice none n c → c = 0) (hB : B ≤ wr.heap.size) (hsz : l.length + m.length ≤ 100000000)
    (h : ∀ v' w1, OwnEr w1 B v' (l ++ m) → Below B wr w1 → wr.heap.size ≤ w1.heap.size → K (a.put o.dst v') w1) :
    if Region.wanted o (yielded ops a.tmps) = true then Oper.wp Tryd.prog o a wr K Q else E := by
  have hw : Region.wanted o (yielded ops a.tmps) = true := by simp [Region.wanted, hgd]
  rw [if_pos hw]
  exact wp_append_events s x ho hs hx hown hm hn hB hsz h
end Go.Proofs.YtpnineimnjibaafDoor

/-
  PLAIN MATHEMATICS: what the reader of wire.Parse does, step by step, and what comes of it.
-/
namespace Go.Proofs.YtpnineimnjibaafDoor
open Go.Lib

/-- what is still to be read; is it bad? -/
abbrev St := Bs × Bool
def failS : St := ([], true)
def numF (s : St) : Int × St := match takeNum s.1 with
  | some (n, r) => (n, (r, s.2))
  | none => (0, failS)
def flagF (s : St) : Bool × St := if (numF s).1 ≠ 0 ∧ (numF s).1 ≠ 1 then (false, failS) else (decide ((numF s).1 = 1), (numF s).2)
def countF (s : St) : Int × St := if (numF s).1 < 0 then (0, failS) else numF s
def textF (s : St) : ByteArray × St := if ((countF s).2.1.length : Int) < (countF s).1 then (⟨#[]⟩, failS) else (⟨((countF s).2.1.take (countF s).1.toNat).toArray⟩, ((countF s).2.1.drop (countF s).1.toNat, (countF s).2.2))
def loopF (f : St → Iz × St) : Nat → List Iz → St → List Iz × St
  | 0, acc, s => (acc, s)
  | k + 1, acc, s => if s.2 then ([], s) else loopF f k (acc ++ [(f s).1]) (f s).2
def itemsF (f : St → Iz × St) (s : St) : List Iz × St := loopF f (countF s).1.toNat [] (countF s).2
def zeroI : Iz := .mk 0 0 ⟨#[]⟩ ⟨#[]⟩ 0 0 false []
def itemF : Nat → St → Iz × St
  | 0, _ => (zeroI, failS)
  | d + 1, s =>
    let p0 := numF s
    let p1 := numF p0.2
    let p2 := numF p1.2
    let p3 := numF p2.2
    let p4 := flagF p3.2
    let p5 := textF p4.2
    let p6 := textF p5.2
    let p7 := itemsF (itemF d) p6.2
    (.mk p0.1 p1.1 p5.1 p6.1 p2.1 p3.1 p4.1 p7.1, p7.2)
def eventF (s : St) : Ez × St :=
  let p0 := numF s
  let p1 := numF p0.2
  let p2 := numF p1.2
  let p3 := numF p2.2
  let p4 := itemF 61 p3.2
  (⟨p0.1, p1.1, p2.1, p3.1, p4.1⟩, p4.2)

/-- it is bad only where nothing is left -/
def Vd (s : St) : Prop := s.2 = true → s.1 = []
theorem vd_good (l : Bs) : Vd (l, false) := fun h => by cases h
theorem num_some {s : St} (hs : Vd s) {n : Int} {r : Bs} (h : takeNum s.1 = some (n, r)) : s.2 = false ∧ numF s = (n, (r, false)) := by
  have hb : s.2 = false := by
    cases hb : s.2 with
    | false => rfl
    | true => rw [hs hb, takeNum_nil] at h; cases h
  refine ⟨hb, ?_⟩
  unfold numF
  rw [h, hb]
theorem num_none {s : St} (h : takeNum s.1 = none) : numF s = (0, failS) := by
  unfold numF
  rw [h]
theorem num_fail : numF failS = (0, failS) := num_none rfl
theorem flag_fail : flagF failS = (false, failS) := by unfold flagF; rw [num_fail]; simp
theorem count_fail : countF failS = (0, failS) := by unfold countF; rw [num_fail]; simp
theorem text_fail : textF failS = (⟨#[]⟩, failS) := by unfold textF; rw [count_fail]; simp [failS]
theorem items_fail (f : St → Iz × St) : itemsF f failS = ([], failS) := by unfold itemsF; rw [count_fail]; rfl
theorem item_fail (d : Nat) : (itemF d failS).2 = failS := by
  cases d with
  | zero => rfl
  | succ d => simp only [itemF, num_fail, flag_fail, text_fail, items_fail]
theorem flag_some {s : St} (hs : Vd s) {b : Bool} {r : Bs} (h : takeFlag s.1 = some (b, r)) : flagF s = (b, (r, false)) := by
  unfold takeFlag at h
  cases ht : takeNum s.1 with
  | none => rw [ht] at h; cases h
  | some p =>
    obtain ⟨n, r'⟩ := p
    rw [ht, Option.bind_some] at h
    obtain ⟨_, e⟩ := num_some hs ht
    unfold flagF
    rw [e]
    simp only at h
    split at h
    · rename_i e0; cases h; subst e0; rfl
    · split at h
      · rename_i e1; cases h; subst e1; rfl
      · cases h
theorem flag_none {s : St} (hs : Vd s) (h : takeFlag s.1 = none) : flagF s = (false, failS) := by
  unfold takeFlag at h
  cases ht : takeNum s.1 with
  | none => unfold flagF; rw [num_none ht]; simp
  | some p =>
    obtain ⟨n, r'⟩ := p
    rw [ht, Option.bind_some] at h
    obtain ⟨_, e⟩ := num_some hs ht
    unfold flagF
    rw [e]
    simp only at h
    split at h
    · cases h
    · rename_i e0
      split at h
      · cases h
      · rename_i e1
        rw [if_pos ⟨e0, e1⟩]
theorem count_some {s : St} (hs : Vd s) {n : Nat} {r : Bs} (h : takeCount s.1 = some (n, r)) : countF s = ((n : Int), (r, false)) := by
  unfold takeCount at h
  cases ht : takeNum s.1 with
  | none => rw [ht] at h; cases h
  | some p =>
    obtain ⟨m, r'⟩ := p
    rw [ht, Option.bind_some] at h
    obtain ⟨_, e⟩ := num_some hs ht
    unfold countF
    rw [e]
    simp only at h
    split at h
    · rename_i h0
      cases h
      rw [if_neg (by simp only; omega), Int.toNat_of_nonneg h0]
    · cases h
theorem count_none {s : St} (hs : Vd s) (h : takeCount s.1 = none) : countF s = (0, failS) := by
  unfold takeCount at h
  cases ht : takeNum s.1 with
  | none => unfold countF; rw [num_none ht]; simp
  | some p =>
    obtain ⟨m, r'⟩ := p
    rw [ht, Option.bind_some] at h
    obtain ⟨_, e⟩ := num_some hs ht
    unfold countF
    rw [e]
    simp only at h
    split at h
    · cases h
    · rename_i h0
      rw [if_pos (by simp only; omega)]
theorem text_some {s : St} (hs : Vd s) {t : ByteArray} {r : Bs} (h : takeText s.1 = some (t, r)) : textF s = (t, (r, false)) := by
  unfold takeText at h
  cases ht : takeCount s.1 with
  | none => rw [ht] at h; cases h
  | some p =>
    obtain ⟨m, r'⟩ := p
    rw [ht, Option.bind_some] at h
    unfold textF
    rw [count_some hs ht]
    simp only at h
    split at h
    · rename_i h0
      cases h
      rw [if_neg (by simp only; omega)]
      simp
    · cases h
theorem text_none {s : St} (hs : Vd s) (h : takeText s.1 = none) : textF s = (⟨#[]⟩, failS) := by
  unfold takeText at h
  cases ht : takeCount s.1 with
  | none =>
    unfold textF
    rw [count_none hs ht]
    simp [failS]
  | some p =>
    obtain ⟨m, r'⟩ := p
    rw [ht, Option.bind_some] at h
    unfold textF
    rw [count_some hs ht]
    simp only at h
    split at h
    · cases h
    · rename_i h0
      rw [if_pos (by simp only; omega)]
/-- items, one behind the other -/
theorem loop_some {f : St → Iz × St} {g : Bs → Option (Iz × Bs)} (hf : ∀ l x r, g l = some (x, r) → f (l, false) = (x, (r, false))) : ∀ (k : Nat) (acc : List Iz) (l : Bs) {xs : List Iz} {r : Bs}, takeMany g k l = some (xs, r) → loopF f k acc (l, false) = (acc ++ xs, (r, false))
  | 0, acc, l, xs, r, h => by rw [takeMany] at h; cases h; rw [loopF, List.append_nil]
  | k + 1, acc, l, xs, r, h => by
    rw [takeMany] at h
    cases h1 : g l with
    | none => rw [h1] at h; cases h
    | some p =>
      obtain ⟨x, r1⟩ := p
      rw [h1, Option.bind_some] at h
      cases h2 : takeMany g k r1 with
      | none => rw [h2] at h; cases h
      | some q =>
        obtain ⟨ys, r2⟩ := q
        rw [h2] at h
        cases h
        rw [loopF, if_neg (by simp), hf _ _ _ h1]
        simp only
        rw [loop_some hf k (acc ++ [x]) r1 h2, List.append_assoc]
        rfl
theorem loop_fail {f : St → Iz × St} (k : Nat) (acc : List Iz) : (loopF f k acc failS).2 = failS := by
  cases k with
  | zero => rfl
  | succ k => rw [loopF, if_pos (show failS.2 = true from rfl)]
theorem loop_none {f : St → Iz × St} {g : Bs → Option (Iz × Bs)} (hf : ∀ l x r, g l = some (x, r) → f (l, false) = (x, (r, false))) (hn : ∀ l, g l = none → (f (l, false)).2 = failS) : ∀ (k : Nat) (acc : List Iz) (l : Bs), takeMany g k l = none → (loopF f k acc (l, false)).2 = failS
  | 0, acc, l, h => by rw [takeMany] at h; cases h
  | k + 1, acc, l, h => by
    rw [takeMany] at h
    rw [loopF, if_neg (by simp)]
    cases h1 : g l with
    | none => rw [hn l h1, loop_fail]
    | some p =>
      obtain ⟨x, r1⟩ := p
      rw [h1, Option.bind_some] at h
      rw [hf _ _ _ h1]
      simp only
      cases h2 : takeMany g k r1 with
      | none => exact loop_none hf hn k _ r1 h2
      | some q => rw [h2] at h; cases h
theorem item_both : ∀ d : Nat, (∀ l x r, takeItem d l = some (x, r) → itemF d (l, false) = (x, (r, false))) ∧ ∀ l, takeItem d l = none → (itemF d (l, false)).2 = failS
  | 0 => ⟨fun l x r h => absurd h (by rw [takeItem]; intro h; cases h), fun l _ => rfl⟩
  | d + 1 => by
    obtain ⟨ih1, ih2⟩ := item_both d
    constructor
    · intro l x r h
      rw [takeItem] at h
      cases h1 : takeHead l with
      | none => rw [h1] at h; cases h
      | some p =>
        obtain ⟨⟨n, ro, le, ch, o, a, b, k⟩, r1⟩ := p
        rw [h1, Option.bind_some] at h
        cases h2 : takeMany (takeItem d) k r1 with
        | none => simp only [h2, Option.bind_none] at h; cases h
        | some q =>
          obtain ⟨xs, r2⟩ := q
          simp only [h2, Option.bind_some] at h
          cases h
          obtain ⟨e1, i0, i1, i2, i3, i5, i6, i7⟩ := takeHead_iff.mp h1
          subst e1
          have q0 := (num_some (vd_good _) (takeNum_num i0 (numB ro ++ (numB le ++ (numB ch ++ (flagB o ++ (textB a ++ (textB b ++ (numB (k : Int) ++ r1))))))))).2
          have q1 := (num_some (vd_good _) (takeNum_num i1 (numB le ++ (numB ch ++ (flagB o ++ (textB a ++ (textB b ++ (numB (k : Int) ++ r1)))))))).2
          have q2 := (num_some (vd_good _) (takeNum_num i2 (numB ch ++ (flagB o ++ (textB a ++ (textB b ++ (numB (k : Int) ++ r1))))))).2
          have q3 := (num_some (vd_good _) (takeNum_num i3 (flagB o ++ (textB a ++ (textB b ++ (numB (k : Int) ++ r1)))))).2
          have q4 := flag_some (vd_good _) (takeFlag_iff.mpr (rfl : flagB o ++ (textB a ++ (textB b ++ (numB (k : Int) ++ r1))) = _))
          have q5 := text_some (vd_good _) (takeText_iff.mpr ⟨(rfl : textB a ++ (textB b ++ (numB (k : Int) ++ r1)) = _), i5⟩)
          have q6 := text_some (vd_good _) (takeText_iff.mpr ⟨(rfl : textB b ++ (numB (k : Int) ++ r1) = _), i6⟩)
          have q7 : itemsF (itemF d) (numB (k : Int) ++ r1, false) = (xs, (r, false)) := by
            unfold itemsF
            rw [count_some (vd_good _) (takeCount_iff.mpr ⟨(rfl : numB (k : Int) ++ r1 = _), i7⟩)]
            simp only [Int.toNat_natCast]
            rw [loop_some ih1 k [] r1 h2, List.nil_append]
          simp only [itemF, q0, q1, q2, q3, q4, q5, q6, q7]
    · intro l h
      rw [takeItem] at h
      have fl := item_fail
      cases h0 : takeNum l with
      | none => simp only [itemF, num_none (s := (l, false)) h0, num_fail, flag_fail, text_fail, items_fail]
      | some p0 =>
      have q0 := (num_some (vd_good l) (show takeNum l = some (p0.1, p0.2) from h0)).2
      cases h1 : takeNum p0.2 with
      | none => simp only [itemF, q0, num_none (s := (p0.2, false)) h1, num_fail, flag_fail, text_fail, items_fail]
      | some p1 =>
      have q1 := (num_some (vd_good p0.2) (show takeNum p0.2 = some (p1.1, p1.2) from h1)).2
      cases h2 : takeNum p1.2 with
      | none => simp only [itemF, q0, q1, num_none (s := (p1.2, false)) h2, num_fail, flag_fail, text_fail, items_fail]
      | some p2 =>
      have q2 := (num_some (vd_good p1.2) (show takeNum p1.2 = some (p2.1, p2.2) from h2)).2
      cases h3 : takeNum p2.2 with
      | none => simp only [itemF, q0, q1, q2, num_none (s := (p2.2, false)) h3, flag_fail, text_fail, items_fail]
      | some p3 =>
      have q3 := (num_some (vd_good p2.2) (show takeNum p2.2 = some (p3.1, p3.2) from h3)).2
      cases h4 : takeFlag p3.2 with
      | none => simp only [itemF, q0, q1, q2, q3, flag_none (vd_good p3.2) h4, text_fail, items_fail]
      | some p4 =>
      have q4 := flag_some (vd_good p3.2) (show takeFlag p3.2 = some (p4.1, p4.2) from h4)
      cases h5 : takeText p4.2 with
      | none => simp only [itemF, q0, q1, q2, q3, q4, text_none (vd_good p4.2) h5, text_fail, items_fail]
      | some p5 =>
      have q5 := text_some (vd_good p4.2) (show takeText p4.2 = some (p5.1, p5.2) from h5)
      cases h6 : takeText p5.2 with
      | none => simp only [itemF, q0, q1, q2, q3, q4, q5, text_none (vd_good p5.2) h6, items_fail]
      | some p6 =>
      have q6 := text_some (vd_good p5.2) (show takeText p5.2 = some (p6.1, p6.2) from h6)
      cases h7 : takeCount p6.2 with
      | none =>
        have : itemsF (itemF d) (p6.2, false) = ([], failS) := by unfold itemsF; rw [count_none (vd_good p6.2) h7]; rfl
        simp only [itemF, q0, q1, q2, q3, q4, q5, q6, this]
      | some p7 =>
      have hh : takeHead l = some ((p0.1, p1.1, p2.1, p3.1, p4.1, p5.1, p6.1, p7.1), p7.2) := by
        unfold takeHead
        rw [h0, Option.bind_some, h1, Option.bind_some, h2, Option.bind_some, h3, Option.bind_some, h4, Option.bind_some, h5, Option.bind_some, h6, Option.bind_some, h7, Option.bind_some]
      rw [hh, Option.bind_some] at h
      cases h8 : takeMany (takeItem d) p7.1 p7.2 with
      | some q => simp only [h8, Option.bind_some] at h; cases h
      | none =>
        have : (itemsF (itemF d) (p6.2, false)).2 = failS := by
          unfold itemsF
          rw [count_some (vd_good p6.2) (show takeCount p6.2 = some (p7.1, p7.2) from h7)]
          simp only [Int.toNat_natCast]
          exact loop_none ih1 ih2 _ _ _ h8
        simp only [itemF, q0, q1, q2, q3, q4, q5, q6, this]
theorem event_some {l r : Bs} {e : Ez} (h : takeEvent l = some (e, r)) : eventF (l, false) = (e, (r, false)) := by
  obtain ⟨rfl, i0, i1, i2, i3, i4⟩ := takeEvent_iff.mp h
  simp only [eventB, evHeadB, List.append_assoc]
  have q0 := (num_some (vd_good _) (takeNum_num i0 (numB e.node ++ (numB e.tgt ++ (numB e.at_ ++ (itemB e.item ++ r)))))).2
  have q1 := (num_some (vd_good _) (takeNum_num i1 (numB e.tgt ++ (numB e.at_ ++ (itemB e.item ++ r))))).2
  have q2 := (num_some (vd_good _) (takeNum_num i2 (numB e.at_ ++ (itemB e.item ++ r)))).2
  have q3 := (num_some (vd_good _) (takeNum_num i3 (itemB e.item ++ r))).2
  have q4 := (item_both 61).1 _ _ _ ((takeItem_iff 61 _ _ _).mpr ⟨(rfl : itemB e.item ++ r = _), i4⟩)
  simp only [eventF, q0, q1, q2, q3, q4]
theorem event_none {l : Bs} (h : takeEvent l = none) : (eventF (l, false)).2 = failS := by
  unfold takeEvent at h
  cases h0 : takeNum l with
  | none => simp only [eventF, num_none (s := (l, false)) h0, num_fail, item_fail]
  | some p0 =>
  have q0 := (num_some (vd_good l) (show takeNum l = some (p0.1, p0.2) from h0)).2
  cases h1 : takeNum p0.2 with
  | none => simp only [eventF, q0, num_none (s := (p0.2, false)) h1, num_fail, item_fail]
  | some p1 =>
  have q1 := (num_some (vd_good p0.2) (show takeNum p0.2 = some (p1.1, p1.2) from h1)).2
  cases h2 : takeNum p1.2 with
  | none => simp only [eventF, q0, q1, num_none (s := (p1.2, false)) h2, num_fail, item_fail]
  | some p2 =>
  have q2 := (num_some (vd_good p1.2) (show takeNum p1.2 = some (p2.1, p2.2) from h2)).2
  cases h3 : takeNum p2.2 with
  | none => simp only [eventF, q0, q1, q2, num_none (s := (p2.2, false)) h3, item_fail]
  | some p3 =>
  have q3 := (num_some (vd_good p2.2) (show takeNum p2.2 = some (p3.1, p3.2) from h3)).2
  cases h4 : takeItem 61 p3.2 with
  | none => simp only [eventF, q0, q1, q2, q3, (item_both 61).2 _ h4]
  | some p4 =>
    rw [h0, Option.bind_some, h1, Option.bind_some, h2, Option.bind_some, h3, Option.bind_some, h4] at h
    cases h
end Go.Proofs.YtpnineimnjibaafDoor

/-
  THE READER of wire.Parse: how it lies in memory; fail, number.
-/
namespace Go.Proofs.YtpnineimnjibaafDoor
open Go.RowKit Go.Lib

/-- the reader in block R: what is still to be read lies below B; it is bad only where nothing is left -/
structure Rdr (w : World) (B R : Nat) (s : St) (v : Value) : Prop where
  blk : w.heap[R]? = some (.cells #[v, .bool s.2] 38)
  low : B ≤ R
  bs : BsAt w (fun g => g < B) v s.1
  vd : Vd s
  lt : LtB B w
  few : s.1.length ≤ 100000000
theorem Rdr.in {w : World} {B R : Nat} {s : St} {v : Value} (h : Rdr w B R s v) : R < w.heap.size := (Array.getElem?_eq_some_iff.1 h.blk).1
theorem Rdr.on {w w' : World} {B R : Nat} {s : St} {v : Value} (h : Rdr w B R s v) (hb : Below w.heap.size w w') : Rdr w' B R s v :=
  ⟨by rw [hb.block R h.in]; exact h.blk, h.low, h.bs.under hb, h.vd, h.lt.on (hb.mono (Nat.le_trans h.low (Nat.le_of_lt h.in))), h.few⟩
theorem Rdr.over {w w' : World} {B R C : Nat} {s : St} {v : Value} (h : Rdr w B R s v) (hb : Below C w w') (hC : R < C) : Rdr w' B R s v :=
  ⟨by rw [hb.block R hC]; exact h.blk, h.low, h.bs.frame (fun g hg _ => ⟨hb.block g (by have := h.low; omega), hg⟩), h.vd, h.lt.on (hb.mono (by have := h.low; omega)), h.few⟩
theorem Rdr.c0 {w : World} {B R : Nat} {s : St} {v : Value} (h : Rdr w B R s v) : w.cell? ⟨R, 0, none⟩ = some v := by simp [World.cell?, h.blk]
theorem Rdr.c1 {w : World} {B R : Nat} {s : St} {v : Value} (h : Rdr w B R s v) : w.cell? ⟨R, 1, none⟩ = some (.bool s.2) := by simp [World.cell?, h.blk]
theorem Rdr.f {w : World} {B R : Nat} {s : St} {v : Value} (h : Rdr w B R s v) (j : Nat) : w.frozen? ⟨R, j, none⟩ = false := by simp [World.frozen?, h.blk]
theorem bt_set {S : List Nat} {w w' : World} (h : Bt S w w') {a : Addr} (ha : a.block ∈ S) (v : Value) : Bt S w (w'.setCell a v) :=
  ⟨h.os, h.tape, h.output, by simp only [World.setCell, Array.size_modify]; exact h.size, fun i hi hn => by
    rw [Below.heap_setCell _ _ _ _ (fun e => hn (by rw [e]; exact ha))]
    exact h.block i hi hn⟩
theorem Rdr.set0 {w : World} {B R : Nat} {s : St} {v u : Value} {l : Bs} (h : Rdr w B R s v) (hu : BsAt w (fun g => g < B) u l) (hn : Vd (l, s.2)) (hl : l.length ≤ 100000000) : Rdr (w.setCell ⟨R, 0, none⟩ u) B R (l, s.2) u := by
  have hb : Below B w (w.setCell ⟨R, 0, none⟩ u) := (Below.refl B w).setCell h.low _
  exact ⟨heap_setCell_same _ _ _ _ _ _ h.blk, h.low, hu.frame (fun g hg hlt => ⟨hb.block g hg, hg⟩), hn, h.lt.on hb, hl⟩
theorem Rdr.fail {w : World} {B R : Nat} {s : St} {v : Value} (h : Rdr w B R s v) : Rdr ((w.setCell ⟨R, 1, none⟩ (.bool true)).setCell ⟨R, 0, none⟩ (.slice none 0 0)) B R failS (.slice none 0 0) := by
  have h1 : (w.setCell ⟨R, 1, none⟩ (.bool true)).heap[R]? = some (.cells #[v, .bool true] 38) := heap_setCell_same _ _ _ _ _ _ h.blk
  exact ⟨heap_setCell_same _ _ _ _ _ _ h1, h.low, BsAt.nil _ _, fun _ => rfl, h.lt.on (((Below.refl B w).setCell h.low _).setCell h.low _), Nat.zero_le _⟩

set_option maxHeartbeats 800000 in
theorem yfail {w : World} {B R : Nat} {s : St} {v : Value} (h : Rdr w B R s v) :
    Calls Tryd.prog 31 #[.pointer (some ⟨R, 0, none⟩)] w fun e w' => e = .returned (.tuple #[]) ∧ Rdr w' B R failS (.slice none 0 0) ∧ Bt [R] w w' := by
  have c0 := h.c0
  have c1 := h.c1
  have f0 := h.f 0
  have f1 := h.f 1
  have HF : Hid (Rdr ((w.setCell ⟨R, 1, none⟩ (.bool true)).setCell ⟨R, 0, none⟩ (.slice none 0 0)) B R failS (.slice none 0 0)) := h.fail
  have HT : Hid (Bt [R] w ((w.setCell ⟨R, 1, none⟩ (.bool true)).setCell ⟨R, 0, none⟩ (.slice none 0 0))) := bt_set (bt_set (Bt.refl _ _) (by simp) _) (by simp) _
  clear h
  go_enter Tryd.func31, Tryd.ntmps31
  go_wp2_with fail
  go_end0
  exact ⟨rfl, HF.out, HT.out⟩

/-! ### number -/
theorem yatoi_some {w : World} (hL : Lt w) (l : Bs) (hl : l.length ≤ 100000000) : Calls Tryd.prog 30 #[.string ⟨l.toArray⟩] w fun e w' => ∃ n ev, e = .returned (.tuple #[.int .i64 n, ev]) ∧ Below w.heap.size w w' := by
  have hs : (⟨l.toArray⟩ : ByteArray).size ≤ 1000000000 := by show l.toArray.size ≤ _; simp; omega
  cases e : atoiAll l with
  | ok v => exact (yatoi_ok (w := w) hs (v := v) (by simpa using e)).mono fun e w' ⟨e1, h1⟩ => ⟨_, _, e1, h1⟩
  | «syntax» => exact (yatoi_bad hL hs (fun v => by simp [e])).mono fun e w' ⟨n, t, p, e1, _, h1⟩ => ⟨_, _, e1, h1⟩
  | range => exact (yatoi_bad hL hs (fun v => by simp [e])).mono fun e w' ⟨n, t, p, e1, _, h1⟩ => ⟨_, _, e1, h1⟩

set_option maxHeartbeats 3200000 in
set_option maxRecDepth 100000 in
theorem ynumber_cut {w : World} {B R : Nat} {s : St} {v : Value} (h : Rdr w B R s v) (hc : cutB s.1 = none) :
    Calls Tryd.prog 21 #[.pointer (some ⟨R, 0, none⟩)] w fun e w' => e = .returned (.int .i64 0) ∧ Rdr w' B R failS (.slice none 0 0) ∧ Bt [R] w w' := by
  have c0 := h.c0
  have B1 : Below w.heap.size w (w.alloc (.cells #[.int .u8 32] 5)) := (Below.refl _ _).alloc (Nat.le_refl _) _
  have hg : (w.alloc (.cells #[.int .u8 32] 5)).cell? ⟨w.heap.size, 0, none⟩ = some (.int .u8 32) := by rw [World.cell?_alloc_new]; rfl
  have R1 := h.on B1
  have C1 := ycut_none R1.bs hg hc
  have hT := R1.bs.text
  have C2 := yatoi_some R1.lt.here s.1 h.few
  have HR1 : Hid (Rdr (w.alloc (.cells #[.int .u8 32] 5)) B R s v) := R1
  have HB1 : Hid (Below w.heap.size w (w.alloc (.cells #[.int .u8 32] 5))) := B1
  obtain ⟨p, c, rfl⟩ := h.bs.shape
  clear h hc B1 hg R1
  generalize (⟨s.1.toArray⟩ : ByteArray) = tx at *
  generalize s.1.length = n0 at *
  go_enter Tryd.func21, Tryd.ntmps21
  go_upto_region 3 with (first
    | (go_at_call 29; refine C1.mono ?_; clear C1; rintro e w5 ⟨rfl, hw5⟩; subst hw5)
    | (go_at_call 30; refine C2.mono ?_; clear C2; rintro e w6 ⟨n, ev, rfl, hb6⟩))
  have HR6 : Hid (Rdr w6 B R s (.slice p n0 c)) := HR1.out.on hb6
  have HB6 : Hid (Below w.heap.size w w6) := HB1.out.trans (hb6.mono HB1.out.size)
  clear HR1 HB1 hT hb6 c0
  go_quiet (fail)
  have HD : Hid (Below w6.heap.size w6 (w6.drewN nq)) := below_drewN (Below.refl _ _) nq
  generalize w6.drewN nq = w7 at *
  have C3 := yfail (HR6.out.on HD.out)
  have HB7 : Hid (Below w.heap.size w w7) := HB6.out.trans (HD.out.mono HB6.out.size)
  clear HR6 HB6 HD
  go_wp2_with (go_at_call 31; refine C3.mono ?_; clear C3; rintro e w8 ⟨rfl, hr8, hb8⟩)
  go_ret
  exact ⟨rfl, hr8, (Bt.below HB7.out).trans hb8⟩

set_option maxHeartbeats 3200000 in
set_option maxRecDepth 100000 in
theorem ynumber_bad {w : World} {B R : Nat} {s : St} {v : Value} (h : Rdr w B R s v) {a r : Bs} (hc : cutB s.1 = some (a, r)) (ha : ∀ n, atoiAll a ≠ .ok n) :
    Calls Tryd.prog 21 #[.pointer (some ⟨R, 0, none⟩)] w fun e w' => e = .returned (.int .i64 0) ∧ Rdr w' B R failS (.slice none 0 0) ∧ Bt [R] w w' := by
  have c0 := h.c0
  have B1 : Below w.heap.size w (w.alloc (.cells #[.int .u8 32] 5)) := (Below.refl _ _).alloc (Nat.le_refl _) _
  have hg : (w.alloc (.cells #[.int .u8 32] 5)).cell? ⟨w.heap.size, 0, none⟩ = some (.int .u8 32) := by rw [World.cell?_alloc_new]; rfl
  have R1 := h.on B1
  have C1 := ycut_some R1.bs hg hc
  have hlen : a.length ≤ 100000000 := by
    have h1 := congrArg List.length (cut_some hc).1
    have h2 := h.few
    rw [List.length_append] at h1
    omega
  have HC2 : Hid (∀ W, Below (w.alloc (.cells #[.int .u8 32] 5)).heap.size (w.alloc (.cells #[.int .u8 32] 5)) W → Calls Tryd.prog 30 #[.string ⟨a.toArray⟩] W fun e w' => ∃ n t p, e = .returned (.tuple #[.int .i64 n, .iface t p]) ∧ I6 n ∧ Below W.heap.size W w') :=
    fun W hW => yatoi_bad (R1.on hW).lt.here (by show a.toArray.size ≤ _; simp; omega) (fun n => by simpa using ha n)
  have HR1 : Hid (Rdr (w.alloc (.cells #[.int .u8 32] 5)) B R s v) := R1
  have HB1 : Hid (Below w.heap.size w (w.alloc (.cells #[.int .u8 32] 5))) := B1
  obtain ⟨p, c, rfl⟩ := h.bs.shape
  clear h hc B1 hg R1 hlen ha
  generalize s.1.length = n0 at *
  go_enter Tryd.func21, Tryd.ntmps21
  go_upto_region 2 with (go_at_call 29; refine C1.mono ?_; clear C1; rintro e w5 ⟨v1, v2, rfl, hv1, hv2, hb5⟩)
  have hT := hv1.text
  have C2 := HC2.out w5 hb5
  have HR5 : Hid (Rdr w5 B R s (.slice p n0 c)) := HR1.out.on hb5
  have HB5 : Hid (Below w.heap.size w w5) := HB1.out.trans (hb5.mono HB1.out.size)
  obtain ⟨p1, c1, rfl⟩ := hv1.shape
  clear HR1 HB1 hb5 c0 HC2 hv1 hv2
  generalize (⟨a.toArray⟩ : ByteArray) = tx at *
  generalize a.length = na at *
  go_upto_region 3 with (go_at_call 30; refine C2.mono ?_; clear C2; rintro e w6 ⟨n, t, q, rfl, _, hb6⟩)
  have HR6 : Hid (Rdr w6 B R s (.slice p n0 c)) := HR5.out.on hb6
  have HB6 : Hid (Below w.heap.size w w6) := HB5.out.trans (hb6.mono HB5.out.size)
  clear HR5 HB5 hT hb6
  go_quiet (fail)
  have HD : Hid (Below w6.heap.size w6 (w6.drewN nq)) := below_drewN (Below.refl _ _) nq
  generalize w6.drewN nq = w7 at *
  have C3 := yfail (HR6.out.on HD.out)
  have HB7 : Hid (Below w.heap.size w w7) := HB6.out.trans (HD.out.mono HB6.out.size)
  clear HR6 HB6 HD
  go_wp2_with (go_at_call 31; refine C3.mono ?_; clear C3; rintro e w8 ⟨rfl, hr8, hb8⟩)
  go_ret
  exact ⟨rfl, hr8, (Bt.below HB7.out).trans hb8⟩

set_option maxHeartbeats 3200000 in
set_option maxRecDepth 100000 in
theorem ynumber_ok {w : World} {B R : Nat} {s : St} {v : Value} (h : Rdr w B R s v) {a r : Bs} (hc : cutB s.1 = some (a, r)) {n : Int} (ha : atoiAll a = .ok n) (n' : Int) (s' : St) (hy : itoa n = a → n' = n ∧ s' = (r, s.2)) (hno : ¬ itoa n = a → n' = 0 ∧ s' = failS) :
    Calls Tryd.prog 21 #[.pointer (some ⟨R, 0, none⟩)] w fun e w' => ∃ v', e = .returned (.int .i64 n') ∧ Rdr w' B R s' v' ∧ Bt [R] w w' := by
  have HY : Hid (itoa n = a → n' = n ∧ s' = (r, s.2)) := hy
  have HN : Hid (¬ itoa n = a → n' = 0 ∧ s' = failS) := hno
  clear hy hno
  have c0 := h.c0
  have B1 : Below w.heap.size w (w.alloc (.cells #[.int .u8 32] 5)) := (Below.refl _ _).alloc (Nat.le_refl _) _
  have hg : (w.alloc (.cells #[.int .u8 32] 5)).cell? ⟨w.heap.size, 0, none⟩ = some (.int .u8 32) := by rw [World.cell?_alloc_new]; rfl
  have R1 := h.on B1
  have C1 := ycut_some R1.bs hg hc
  have hlen : a.length ≤ 100000000 ∧ r.length ≤ 100000000 := by
    have h1 := congrArg List.length (cut_some hc).1
    have h2 := h.few
    rw [List.length_append, List.length_cons] at h1
    omega
  have hn6 : I6 n := atoiAll_bounds ha
  have HVD : Hid (Vd (r, s.2)) := fun hb => by
    have h1 := h.vd hb
    rw [h1] at hc
    cases hc
  have HLR : Hid (r.length ≤ 100000000) := hlen.2
  have HC2 : Hid (∀ W, Below (w.alloc (.cells #[.int .u8 32] 5)).heap.size (w.alloc (.cells #[.int .u8 32] 5)) W → Calls Tryd.prog 30 #[.string ⟨a.toArray⟩] W fun e w' => e = .returned (.tuple #[.int .i64 n, .nilIface]) ∧ Below W.heap.size W w') :=
    fun W hW => yatoi_ok (by show a.toArray.size ≤ _; simp; omega) (by simpa using ha)
  have HC3 : Hid (∀ W, Lt W → Calls Tryd.prog 28 #[.int .i64 n] W fun e w' => e = .returned (.string ⟨(itoa n).toArray⟩) ∧ Below W.heap.size W w') := fun W hL => yitoa hL hn6
  have HR1 : Hid (Rdr (w.alloc (.cells #[.int .u8 32] 5)) B R s v) := R1
  have HB1 : Hid (Below w.heap.size w (w.alloc (.cells #[.int .u8 32] 5))) := B1
  obtain ⟨p, c, rfl⟩ := h.bs.shape
  have HEQ : Hid ((((⟨(itoa n).toArray⟩ : ByteArray).toList == (⟨a.toArray⟩ : ByteArray).toList)) = decide (itoa n = a)) := by
    show _ = _
    rw [Bool.eq_iff_iff, beq_iff_eq, ByteArray.toList_eq, ByteArray.toList_eq, decide_eq_true_eq]
  clear h hc B1 hg R1 hlen ha hn6
  generalize s.1.length = n0 at *
  go_enter Tryd.func21, Tryd.ntmps21
  go_upto_region 2 with (go_at_call 29; refine C1.mono ?_; clear C1; rintro e w5 ⟨v1, v2, rfl, hv1, hv2, hb5⟩)
  have hT := hv1.text
  have C2 := HC2.out w5 hb5
  have HR5 : Hid (Rdr w5 B R s (.slice p n0 c)) := HR1.out.on hb5
  have HB5 : Hid (Below w.heap.size w w5) := HB1.out.trans (hb5.mono HB1.out.size)
  have HV1 : Hid (BsAt w5 (fun g => g < B) v1 a) := hv1
  have HV2 : Hid (BsAt w5 (fun g => g < B) v2 r) := hv2
  obtain ⟨p1, c1, rfl⟩ := hv1.shape
  obtain ⟨p2, c2, rfl⟩ := hv2.shape
  clear HR1 HB1 hb5 c0 HC2 hv1 hv2
  go_upto_region 3 with (go_at_call 30; refine C2.mono ?_; clear C2; rintro e w6 ⟨rfl, hb6⟩)
  have HR6 : Hid (Rdr w6 B R s (.slice p n0 c)) := HR5.out.on hb6
  have HB6 : Hid (Below w.heap.size w w6) := HB5.out.trans (hb6.mono HB5.out.size)
  have HV6 : Hid (BsAt w6 (fun g => g < B) (.slice p1 a.length c1) a) := HV1.out.under hb6
  have HU6 : Hid (BsAt w6 (fun g => g < B) (.slice p2 r.length c2) r) := HV2.out.under hb6
  clear HR5 HB5 hT hb6 HV1 HV2
  have SS : ∀ W, Below w6.heap.size w6 W → (fun w'' : World => (convert 23 9 (.slice p1 a.length c1)).run Tryd.prog w'' = .ok (.string ⟨a.toArray⟩) w'') W := fun W hW => (HV6.out.under hW).text
  have HC4 : Hid (∀ W, Below w6.heap.size w6 W → Calls Tryd.prog 28 #[.int .i64 n] W fun e w' => e = .returned (.string ⟨(itoa n).toArray⟩) ∧ Below w6.heap.size w6 w') := fun W hW => (HC3.out W (HR6.out.on hW).lt.here).mono (by
    rintro e w' ⟨e1, h1⟩
    exact ⟨e1, hW.trans (h1.mono hW.size)⟩)
  generalize hl1 : a.length = na at *
  generalize hl2 : r.length = nr at *
  generalize hta : (⟨a.toArray⟩ : ByteArray) = ta at *
  generalize htn : (⟨(itoa n).toArray⟩ : ByteArray) = tn at *
  clear hl1 hl2 hta htn
  go_region_held3 (fun w'' : World => (convert 23 9 (.slice p1 na c1)).run Tryd.prog w'' = .ok (.string ta) w'')
    ((with_reducible refine SS _ ?_; first | with_reducible assumption | with_reducible exact Below.refl _ _ | with_reducible exact (Below.refl _ _).drew))
    (first
      | (go_at_call 28; refine (HC4.out _ (by first | assumption | exact Below.refl _ _ | exact (Below.refl _ _).drew)).mono ?_; rintro e w7 ⟨rfl, hb7⟩))
  have HR7 : Hid (Rdr w7 B R s (.slice p n0 c)) := HR6.out.on hb7
  have HB7 : Hid (Below w.heap.size w w7) := HB6.out.trans (hb7.mono HB6.out.size)
  have HU7 : Hid (BsAt w7 (fun g => g < B) (.slice p2 nr c2) r) := HU6.out.under hb7
  clear SS HC3 HC4 HR6 HB6 HU6 HV6 hb7
  generalize (tn.toList == ta.toList) = qq at *
  cases qq with
  | true =>
    have HE : Hid (n' = n ∧ s' = (r, s.2)) := HY.out (of_decide_eq_true HEQ.out.symm)
    have g0 := HR7.out.c0
    have g1 := HR7.out.f 0
    have HS : Hid (Rdr (w7.setCell ⟨R, 0, none⟩ (.slice p2 nr c2)) B R (r, s.2) (.slice p2 nr c2)) := HR7.out.set0 HU7.out HVD.out (by have := HU7.out.shape; obtain ⟨_, _, e9⟩ := this; cases e9; exact HLR.out)
    have HT : Hid (Bt [R] w (w7.setCell ⟨R, 0, none⟩ (.slice p2 nr c2))) := bt_set (Bt.below HB7.out) (by simp) _
    clear HEQ HR7 HB7 HU7 HY HN
    go_wp2_with fail
    go_ret
    exact ⟨_, by rw [HE.out.1]; rfl, by rw [HE.out.2]; exact HS.out, HT.out⟩
  | false =>
    have HE : Hid (n' = 0 ∧ s' = failS) := HN.out (of_decide_eq_false HEQ.out.symm)
    have C3 := yfail HR7.out
    clear HEQ HR7 HU7 HY HN
    go_wp2_with (go_at_call 31; refine C3.mono ?_; clear C3; rintro e w8 ⟨rfl, hr8, hb8⟩)
    go_ret
    exact ⟨_, by rw [HE.out.1]; rfl, by rw [HE.out.2]; exact hr8, (Bt.below HB7.out).trans hb8⟩

/-- number, whatever stands first -/
theorem ynumber {w : World} {B R : Nat} {s : St} {v : Value} (h : Rdr w B R s v) :
    Calls Tryd.prog 21 #[.pointer (some ⟨R, 0, none⟩)] w fun e w' => ∃ v', e = .returned (.int .i64 (numF s).1) ∧ Rdr w' B R (numF s).2 v' ∧ Bt [R] w w' := by
  have no : takeNum s.1 = none → (Calls Tryd.prog 21 #[.pointer (some ⟨R, 0, none⟩)] w fun e w' => e = .returned (.int .i64 0) ∧ Rdr w' B R failS (.slice none 0 0) ∧ Bt [R] w w') →
      Calls Tryd.prog 21 #[.pointer (some ⟨R, 0, none⟩)] w fun e w' => ∃ v', e = .returned (.int .i64 (numF s).1) ∧ Rdr w' B R (numF s).2 v' ∧ Bt [R] w w' := fun hn C => by
    rw [num_none hn]
    exact C.mono fun e w' ⟨h1, h2, h3⟩ => ⟨_, h1, h2, h3⟩
  cases hc : cutB s.1 with
  | none => exact no (by unfold takeNum; rw [hc]) (ynumber_cut h hc)
  | some q =>
    obtain ⟨a, r⟩ := q
    cases ha : atoiAll a with
    | «syntax» => exact no (by unfold takeNum; rw [hc]; simp only [ha]) (ynumber_bad h hc (fun n => by simp [ha]))
    | range => exact no (by unfold takeNum; rw [hc]; simp only [ha]) (ynumber_bad h hc (fun n => by simp [ha]))
    | ok n =>
      refine ynumber_ok h hc ha (numF s).1 (numF s).2 (fun e1 => ?_) (fun e1 => ?_)
      · have : numF s = (n, (r, s.2)) := by
          unfold numF takeNum
          rw [hc]
          simp only [ha, if_pos e1]
        rw [this]
        exact ⟨rfl, rfl⟩
      · rw [num_none (show takeNum s.1 = none by unfold takeNum; rw [hc]; simp only [ha, if_neg e1])]
        exact ⟨rfl, rfl⟩
theorem num_i6 (s : St) : I6 (numF s).1 := by
  unfold numF
  split
  · rename_i n r h
    exact (takeNum_iff.mp h).2
  · exact ⟨by decide, by decide⟩
end Go.Proofs.YtpnineimnjibaafDoor

/-
  THE WALKS of the reader's count, flag and text.
-/
namespace Go.Proofs.YtpnineimnjibaafDoor
open Go.RowKit Go.Lib

set_option maxHeartbeats 1600000 in
theorem ycount {w : World} {B R : Nat} {s : St} {v : Value} (h : Rdr w B R s v) :
    Calls Tryd.prog 40 #[.pointer (some ⟨R, 0, none⟩)] w fun e w' => ∃ v', e = .returned (.int .i64 (countF s).1) ∧ Rdr w' B R (countF s).2 v' ∧ Bt [R] w w' := by
  have C := ynumber h
  have HC : Hid (countF s = if (numF s).1 < 0 then (0, failS) else ((numF s).1, (numF s).2)) := rfl
  clear h
  generalize countF s = cf at *
  generalize (numF s).1 = n at *
  generalize (numF s).2 = s1 at *
  go_enter Tryd.func40, Tryd.ntmps40
  by_cases hn : n < 0
  · have HC2 : Hid (cf = (0, failS)) := by show _ = _; rw [HC.out, if_pos hn]
    clear HC
    go_upto_region 3 with (go_at_call 21; refine C.mono ?_; clear C; rintro e w5 ⟨v5, rfl, hr5, hb5⟩)
    have C3 := yfail hr5
    have HB : Hid (Bt [R] w w5) := hb5
    clear hr5 hb5
    go_wp2_with (go_at_call 31; refine C3.mono ?_; clear C3; rintro e w8 ⟨rfl, hr8, hb8⟩)
    go_ret
    exact ⟨_, by rw [HC2.out]; rfl, by rw [HC2.out]; exact hr8, HB.out.trans hb8⟩
  · have HC2 : Hid (cf = (n, s1)) := by show _ = _; rw [HC.out, if_neg hn]
    clear HC
    go_wp2_with (go_at_call 21; refine C.mono ?_; clear C; rintro e w5 ⟨v5, rfl, hr5, hb5⟩)
    go_ret
    exact ⟨_, by rw [HC2.out]; rfl, by rw [HC2.out]; exact hr5, hb5⟩
theorem count_nat (s : St) : 0 ≤ (countF s).1 ∧ (countF s).1 ≤ 9223372036854775807 := by
  have h := num_i6 s
  unfold countF
  split
  · exact ⟨by decide, by decide⟩
  · exact ⟨by omega, h.2⟩

set_option maxHeartbeats 1600000 in
theorem yflagr {w : World} {B R : Nat} {s : St} {v : Value} (h : Rdr w B R s v) :
    Calls Tryd.prog 32 #[.pointer (some ⟨R, 0, none⟩)] w fun e w' => ∃ v', e = .returned (.bool (flagF s).1) ∧ Rdr w' B R (flagF s).2 v' ∧ Bt [R] w w' := by
  have C := ynumber h
  have HC : Hid (flagF s = if (numF s).1 ≠ 0 ∧ (numF s).1 ≠ 1 then (false, failS) else (decide ((numF s).1 = 1), (numF s).2)) := rfl
  clear h
  generalize flagF s = cf at *
  generalize (numF s).1 = n at *
  generalize (numF s).2 = s1 at *
  go_enter Tryd.func32, Tryd.ntmps32
  by_cases h0 : n = 0
  · subst h0
    have HC2 : Hid (cf = (false, s1)) := by show _ = _; rw [HC.out, if_neg (by simp)]; rfl
    clear HC
    go_wp2_with (go_at_call 21; refine C.mono ?_; clear C; rintro e w5 ⟨v5, rfl, hr5, hb5⟩)
    go_ret
    exact ⟨_, by rw [HC2.out]; rfl, by rw [HC2.out]; exact hr5, hb5⟩
  · by_cases h1 : n = 1
    · subst h1
      have HC2 : Hid (cf = (true, s1)) := by show _ = _; rw [HC.out, if_neg (by simp)]; rfl
      clear HC
      go_wp2_with (go_at_call 21; refine C.mono ?_; clear C; rintro e w5 ⟨v5, rfl, hr5, hb5⟩)
      go_ret
      exact ⟨_, by rw [HC2.out]; rfl, by rw [HC2.out]; exact hr5, hb5⟩
    · have HC2 : Hid (cf = (false, failS)) := by show _ = _; rw [HC.out, if_pos ⟨h0, h1⟩]
      have q0 : (n != 0) = true := bne_iff_ne.2 h0
      have q2 : (n != 1) = true := bne_iff_ne.2 h1
      have q1 : (n == 1) = false := beq_eq_false_iff_ne.2 h1
      clear HC
      go_upto_region 3 with (go_at_call 21; refine C.mono ?_; clear C; rintro e w5 ⟨v5, rfl, hr5, hb5⟩)
      have C3 := yfail hr5
      have HB : Hid (Bt [R] w w5) := hb5
      clear hr5 hb5
      go_wp2_with (go_at_call 31; refine C3.mono ?_; clear C3; rintro e w8 ⟨rfl, hr8, hb8⟩)
      go_ret
      exact ⟨_, by rw [HC2.out]; rfl, by rw [HC2.out]; exact hr8, HB.out.trans hb8⟩

set_option maxHeartbeats 1600000 in
set_option maxRecDepth 100000 in
theorem ytext {w : World} {B R : Nat} {s : St} {v : Value} (h : Rdr w B R s v) :
    Calls Tryd.prog 33 #[.pointer (some ⟨R, 0, none⟩)] w fun e w' => ∃ v', e = .returned (.string (textF s).1) ∧ Rdr w' B R (textF s).2 v' ∧ Bt [R] w w' := by
  have C := ycount h
  have HC : Hid (textF s = if ((countF s).2.1.length : Int) < (countF s).1 then (⟨#[]⟩, failS) else (⟨((countF s).2.1.take (countF s).1.toNat).toArray⟩, ((countF s).2.1.drop (countF s).1.toNat, (countF s).2.2))) := rfl
  obtain ⟨n0, n1⟩ := count_nat s
  clear h
  generalize textF s = cf at *
  generalize (countF s).2 = s1 at *
  obtain ⟨n, hn⟩ : ∃ n : Nat, (countF s).1 = n := ⟨(countF s).1.toNat, by omega⟩
  rw [hn] at C HC n1
  clear hn n0
  simp only [Int.toNat_natCast] at HC
  go_enter Tryd.func33, Tryd.ntmps33
  go_upto_region 2 with (go_at_call 40; refine C.mono ?_; clear C; rintro e w5 ⟨v5, rfl, hr5, hb5⟩)
  have HB : Hid (Bt [R] w w5) := hb5
  have HR : Hid (Rdr w5 B R s1 v5) := hr5
  have c0 := hr5.c0
  by_cases hlt : s1.1.length < n
  · have HC2 : Hid (cf = (⟨#[]⟩, failS)) := by show _ = _; rw [HC.out, if_pos (by omega)]
    have C3 := yfail hr5
    obtain ⟨p, c, rfl⟩ := hr5.bs.shape
    clear hr5 hb5 HC HR
    generalize s1.1.length = m at *
    go_wp2_with (go_at_call 31; refine C3.mono ?_; clear C3; rintro e w8 ⟨rfl, hr8, hb8⟩)
    go_ret
    exact ⟨_, by rw [HC2.out]; rfl, by rw [HC2.out]; exact hr8, HB.out.trans hb8⟩
  · have HC2 : Hid (cf = (⟨(s1.1.take n).toArray⟩, (s1.1.drop n, s1.2))) := by show _ = _; rw [HC.out, if_neg (by omega)]
    have hV := hr5.vd
    obtain ⟨p, c, rfl, y1, y2, y3, y4⟩ := hr5.bs.at
    have hk := hr5.bs.take n (by omega)
    have hd := hr5.bs.drop n (by omega)
    have hT := hk.text
    have f0 := hr5.f 0
    have HD : Hid (∃ u, u = (Value.slice (if c = n then p else p.map (fun x => x.add n)) (s1.1.length - n) (c - n)) ∧ Rdr (w5.setCell ⟨R, 0, none⟩ u) B R (s1.1.drop n, s1.2) u) :=
      ⟨_, rfl, hr5.set0 hd (fun hb => by have := hV hb; simp only at this ⊢; rw [this]; simp) (by have := hr5.few; rw [List.length_drop]; omega)⟩
    clear hr5 hb5 HC HR hk hd hV y3 y4
    have hmn : n ≤ s1.1.length := by omega
    clear hlt
    generalize s1.1.length = m at *
    generalize (⟨(s1.1.take n).toArray⟩ : ByteArray) = tx at *
    by_cases hcn : c = n
    · subst hcn
      rw [if_pos rfl] at HD
      have HD2 : Hid (Rdr (w5.setCell ⟨R, 0, none⟩ (.slice p (m - c) (c - c))) B R (s1.1.drop c, s1.2) (.slice p (m - c) (c - c))) := by obtain ⟨u, rfl, h⟩ := HD.out; exact h
      have HT : Hid (Bt [R] w (w5.setCell ⟨R, 0, none⟩ (.slice p (m - c) (c - c)))) := bt_set HB.out (by simp) _
      have hm : m - c = 0 := by omega
      rw [hm, Nat.sub_self] at HD2 HT
      clear HD HB hm
      go_wp2_with fail
      go_ret
      exact ⟨_, by rw [HC2.out]; rfl, by rw [HC2.out]; exact HD2.out, HT.out⟩
    · have hne : ¬ (n = c) := fun e => hcn e.symm
      rw [if_neg hcn] at HD
      have HD2 : Hid (Rdr (w5.setCell ⟨R, 0, none⟩ (.slice (p.map (fun x => x.add n)) (m - n) (c - n))) B R (s1.1.drop n, s1.2) (.slice (p.map (fun x => x.add n)) (m - n) (c - n))) := by obtain ⟨u, rfl, h⟩ := HD.out; exact h
      have HT : Hid (Bt [R] w (w5.setCell ⟨R, 0, none⟩ (.slice (p.map (fun x => x.add n)) (m - n) (c - n)))) := bt_set HB.out (by simp) _
      clear HD HB
      go_wp2_with fail
      go_ret
      exact ⟨_, by rw [HC2.out]; rfl, by rw [HC2.out]; simpa [Addr.add] using HD2.out, by simpa [Addr.add] using HT.out⟩
end Go.Proofs.YtpnineimnjibaafDoor

/-
  THE WALKS of the reader's items and item.
-/
namespace Go.Proofs.YtpnineimnjibaafDoor
open Go.RowKit Go.Lib

/-! ### how much is left -/
theorem item_shrinks (d : Nat) {s : St} (hs : Vd s) (h : (itemF d s).2.2 = false) : s.2 = false ∧ (itemF d s).2.1.length + 2 ≤ s.1.length := by
  cases hb : s.2 with
  | true =>
    have e : s = failS := Prod.ext (hs hb) hb
    rw [e, item_fail] at h
    cases h
  | false =>
    have e : s = (s.1, false) := Prod.ext rfl hb
    refine ⟨rfl, ?_⟩
    rw [e] at h ⊢
    cases ht : takeItem d s.1 with
    | none => rw [(item_both d).2 _ ht] at h; cases h
    | some p =>
      rw [(item_both d).1 _ p.1 p.2 ht]
      exact takeItem_lt (x := p.1) ht
/-- what the reader's item does, at a depth -/
def ItemC (d : Nat) : Prop := ∀ (w : World) (B R : Nat) (s : St) (v : Value), Rdr w B R s v →
  Calls Tryd.prog 22 #[.pointer (some ⟨R, 0, none⟩), .int .i64 (61 - (d : Int))] w fun e w' => ∃ kv v', e = .returned (itV (itemF d s).1 kv) ∧ IzsAt w' (fun g => w.heap.size ≤ g) kv (itemF d s).1.kids ∧ Rdr w' B R (itemF d s).2 v' ∧ Bt [R] w w'
set_option maxHeartbeats 3200000 in
set_option maxRecDepth 100000 in
theorem yitems {d : Nat} (hd : d ≤ 61) (HI : ItemC d) {w : World} {B R : Nat} {s : St} {v : Value} (h : Rdr w B R s v) :
    Calls Tryd.prog 34 #[.pointer (some ⟨R, 0, none⟩), .int .i64 (61 - (d : Int))] w fun e w' => ∃ kv v', e = .returned kv ∧ IzsAt w' (fun g => w.heap.size ≤ g) kv (itemsF (itemF d) s).1 ∧ Rdr w' B R (itemsF (itemF d) s).2 v' ∧ Bt [R] w w' := by
  have C := ycount h
  have HRw : Hid (R < w.heap.size) := h.in
  have HC : Hid (itemsF (itemF d) s = loopF (itemF d) (countF s).1.toNat [] (countF s).2) := rfl
  obtain ⟨n0, n1⟩ := count_nat s
  have HII : Hid (ItemC d) := HI
  have ha0 : (0 : Int) ≤ 61 - (d : Int) := by omega
  have ha1 : 61 - (d : Int) ≤ 61 := by omega
  obtain ⟨av, hav⟩ : ∃ av : Int, av = 61 - (d : Int) := ⟨_, rfl⟩
  unfold ItemC at HII
  rw [← hav] at HII ha0 ha1 ⊢
  clear h HI hd hav
  generalize itemsF (itemF d) s = cf at *
  generalize (countF s).2 = s1 at *
  obtain ⟨n, hn⟩ : ∃ n : Nat, (countF s).1 = n := ⟨(countF s).1.toNat, by omega⟩
  rw [hn] at C HC n1
  clear hn n0
  simp only [Int.toNat_natCast] at HC
  go_enter Tryd.func34, Tryd.ntmps34
  go_wp2_with (go_at_call 40; refine C.mono ?_; clear C; rintro e w5 ⟨v5, rfl, hr5, hb5⟩)
  have HR5 : Hid (Rdr w5 B R s1 v5) := hr5
  have HB5 : Hid (Bt [R] w w5) := hb5
  clear hr5 hb5
  go_loopw [5, 8] (fun bv iv wr => ∃ (j : Nat) (acc : List Iz) (s2 : St) (v2 : Value), j ≤ n ∧ iv = .int .i64 j ∧ Hid (loopF (itemF d) (n - j) acc s2 = cf) ∧ Hid (OwnK wr w.heap.size bv acc) ∧ Hid (Rdr wr B R s2 v2) ∧ Hid (s2.2 = false → acc.length + s2.1.length ≤ 100000000) ∧ Hid (Bt [R] w wr)) (fun _ iv _ => n - (RowKit.intOf iv).toNat)
  case atStart => exact ⟨0, [], s1, v5, Nat.zero_le _, rfl, HC.out.symm, OwnK.nil _ _, HR5, fun _ => by simpa using HR5.out.few, HB5⟩
  case round =>
    clear HR5 HB5 HC
    obtain ⟨j, acc, s2, v2, hj, rfl, HL, HO, HR, HF, HB⟩ := hrel
    by_cases hlt : j < n
    · have c1 := HR.out.c1
      obtain ⟨l2, b2⟩ := s2
      have HN : Hid (n - j = (n - (j + 1)) + 1) := by show _ = _; omega
      cases b2 with
      | true =>
        have HE : Hid (cf = ([], (l2, true))) := by
          show _ = _
          rw [← HL.out, HN.out, loopF, if_pos rfl]
        go_wp2_with fail
        go_ret
        exact ⟨_, rfl, by rw [HE.out]; exact IzsAt.nil _ _, ⟨_, by rw [HE.out]; exact HR.out⟩, HB.out⟩
      | false =>
        have HE : Hid (loopF (itemF d) (n - (j + 1)) (acc ++ [(itemF d (l2, false)).1]) (itemF d (l2, false)).2 = cf) := by
          show _ = _
          rw [← HL.out, HN.out, loopF, if_neg (by simp)]
        have C := HII.out wr B R (l2, false) v2 HR.out
        have HSH : Hid ((itemF d (l2, false)).2.2 = false → (itemF d (l2, false)).2.1.length + 2 ≤ l2.length) := fun h => (item_shrinks d HR.out.vd h).2
        have HAC : Hid (acc.length + l2.length ≤ 100000000) := HF.out rfl
        have HZr : Hid (w.heap.size ≤ wr.heap.size) := HB.out.size
        clear HL HN HF
        generalize hq : itemF d (l2, false) = q at *
        clear hq
        obtain ⟨x, s3⟩ := q
        cases x with
        | mk x0 x1 x2 x3 x4 x5 x6 ks =>
        unfold itV at C
        simp only [Iz.node, Iz.role, Iz.name, Iz.about, Iz.level, Iz.checked, Iz.off, Iz.kids] at C HE HSH
        have HOl := HO.out.lt
        obtain ⟨pb, cb, rfl⟩ := HO.out.shape
        have HOL : Hid (∀ g, (Value.slice pb acc.length cb).ownBlock = some g → w.heap.size ≤ g ∧ g < wr.heap.size) := HOl
        clear HOl
        go_upto_region 6 with fail
        clear c1
        go_wp2_with (go_at_call 22; refine C.mono ?_; clear C; rintro e w6 ⟨kv, v6, rfl, hk6, hr6, hb6⟩; refine Hid.out ?_)
        refine Lib.hid ?_
        have hO6 : OwnK w6 w.heap.size (.slice pb acc.length cb) acc := HO.out.bt hb6 (fun g hg => by rw [List.mem_singleton] at hg; rw [hg]; exact HRw.out)
        have hk7 : IzsAt w6 (fun g => w.heap.size ≤ g ∧ some g ≠ (Value.slice pb acc.length cb).ownBlock) kv ks := hk6.any (fun g hg _ => ⟨Nat.le_trans HZr.out hg, fun e => by have := (HOL.out g e.symm).2; omega⟩)
        have hz6 : w.heap.size ≤ w6.heap.size := Nat.le_trans HZr.out hb6.size
        have hac : acc.length ≤ 100000000 := by have := HAC.out; omega
        have HR6 : Hid (Rdr w6 B R s3 v6) := hr6
        have HB6 : Hid (Bt [R] w w6) := HB.out.trans hb6
        clear hk6 hr6 hb6 HR HB HO HOL HZr HII
        go_wp2_with (at_builtin; refine append_item rfl _ _ rfl (.mk x0 x1 x2 x3 x4 x5 x6 ks) kv rfl (by simp [Act.eval]) hO6 hk7 hz6 hac ?_; intro v7 w7 o7 b7 g7; refine Hid.out ?_)
        refine Lib.hid ?_
        have HO7 : Hid (OwnK w7 w.heap.size v7 (acc ++ [.mk x0 x1 x2 x3 x4 x5 x6 ks])) := o7
        have HR7 : Hid (Rdr w7 B R s3 v6) := HR6.out.over b7 HRw.out
        have HB7 : Hid (Bt [R] w w7) := HB6.out.high b7 (Nat.le_refl _)
        have HF7 : Hid (s3.2 = false → (acc ++ [Iz.mk x0 x1 x2 x3 x4 x5 x6 ks]).length + s3.1.length ≤ 100000000) := fun h => by
          have h1 := HSH.out h
          have h2 := HAC.out
          rw [List.length_append, List.length_singleton]
          omega
        clear o7 b7 g7 hO6 hk7 hz6 hac HR6 HB6 HSH HAC
        go_wp2_with fail
        go_roundw
        case rel => exact ⟨j + 1, _, s3, v6, by omega, by go_num, HE, HO7, HR7, HF7, HB7⟩
        case measure => simp [RowKit.intOf]; omega
    · obtain rfl : j = n := by omega
      have HE : Hid (cf = (acc, s2)) := by
        show _ = _
        rw [← HL.out, Nat.sub_self, loopF]
      go_wp2_with fail
      go_ret
      exact ⟨_, _, rfl, by rw [HE.out]; exact HO.out.izs, by rw [HE.out]; exact HR.out, HB.out⟩
end Go.Proofs.YtpnineimnjibaafDoor
