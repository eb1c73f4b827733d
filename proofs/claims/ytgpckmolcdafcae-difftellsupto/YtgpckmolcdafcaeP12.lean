/-
  OWN WORK: Xev, Xdm, Xdt.
-/
import Derived.Test.YtgpckmolcdafcaeP0
import Derived.Test.YtgpckmolcdafcaeP1
import Derived.Test.YtgpckmolcdafcaeP2
import Derived.Test.YtgpckmolcdafcaeP3
import Derived.Test.YtgpckmolcdafcaeP4
import Derived.Test.YtgpckmolcdafcaeP5
import Derived.Test.YtgpckmolcdafcaeP6
import Derived.Test.YtgpckmolcdafcaeP7
import Derived.Test.YtgpckmolcdafcaeP8
import Derived.Test.YtgpckmolcdafcaeP9
import Derived.Test.YtgpckmolcdafcaeP10
import Derived.Test.YtgpckmolcdafcaeP11
import Derived.RegionTactic
/-
  EVENTS that came in: how they read, whatever their numbers.
-/
namespace Go.Proofs.Ytgpckmolcdafcae
open Go.ChangeShapes Go.WideShapes Go.ChangeAt Go.RowKit

/-- an event, with an item of any number -/
structure Ez where
  kind : Int
  node : Int
  tgt : Int
  at_ : Int
  item : Iz
def ezc (p : Ez × Value) : List Value := [.int .i64 p.1.kind, .int .i64 p.1.node, .int .i64 p.1.tgt, .int .i64 p.1.at_] ++ izc (p.1.item, p.2)
/-- all its numbers are of 64 bits -/
def I64 (z : Int) : Prop := -9223372036854775808 ≤ z ∧ z ≤ 9223372036854775807
def EzOk (e : Ez) : Prop := I64 e.kind ∧ I64 e.node ∧ I64 e.tgt ∧ I64 e.at_ ∧ NodeOk [e.item]
/-- an event of a row: its cells -/
structure EzAt (w : World) (b o : Nat) (e : Ez) (kv : Value) : Prop where
  c0 : w.cell? ⟨b, o, none⟩ = some (.int .i64 e.kind)
  c1 : w.cell? ⟨b, o + 1, none⟩ = some (.int .i64 e.node)
  c2 : w.cell? ⟨b, o + 2, none⟩ = some (.int .i64 e.tgt)
  c3 : w.cell? ⟨b, o + 3, none⟩ = some (.int .i64 e.at_)
  it : IzAt w b (o + 4) e.item kv
def EzsAt (w : World) (P : Nat → Prop) (v : Value) (l : List Ez) : Prop := ∃ p c, v = .slice p l.length c ∧ l.length ≤ c ∧ c ≤ 9223372036854775807 ∧
  ∀ j (hj : j < l.length), ∃ b o kv, p = some ⟨b, o, none⟩ ∧ P b ∧ EzAt w b (o + j * 12) l[j] kv ∧ IzsAt w P kv l[j].item.kids
theorem EzAt.block {w w' : World} {b o : Nat} {x : Ez} {kv : Value} (h : EzAt w b o x kv) (e : w'.heap[b]? = w.heap[b]?) : EzAt w' b o x kv :=
  ⟨by rw [← h.c0]; exact World.cell?_of_block e, by rw [← h.c1]; exact World.cell?_of_block e, by rw [← h.c2]; exact World.cell?_of_block e, by rw [← h.c3]; exact World.cell?_of_block e, h.it.block e⟩
theorem EzsAt.frame {w w' : World} {P : Nat → Prop} {v : Value} {l : List Ez} (h : EzsAt w P v l) {Q : Nat → Prop} (hf : ∀ g, P g → g < w.heap.size → w'.heap[g]? = w.heap[g]? ∧ Q g) : EzsAt w' Q v l := by
  obtain ⟨p, c, e, h1, h2, h3⟩ := h
  refine ⟨p, c, e, h1, h2, fun j hj => ?_⟩
  obtain ⟨b, o, kv, e1, hb, h4, h5⟩ := h3 j hj
  obtain ⟨e2, hq⟩ := hf b hb (lt_of_cell h4.c0)
  exact ⟨b, o, kv, e1, hq, h4.block e2, h5.frame hf⟩
def bulkE : List Ez → Nat
  | [] => 0
  | e :: l => 4 + bulk1 e.item + bulkE l
theorem bulkE_range {H : Type} {D : Nat → DataW H} {X : Nat → Ez} : ∀ (js : List Nat), (∀ j ∈ js, 4 + bulk1 (X j).item ≤ Rows.uptoBulk (D j)) → bulkE (js.map X) ≤ Rows.uptoBulkAll (js.map D)
  | [], _ => Nat.le_refl _
  | j :: js, h => by
    rw [List.map_cons, List.map_cons, bulkE, Rows.uptoBulkAll]
    have h1 := h j (by simp)
    have h2 := bulkE_range js (fun i hi => h i (by simp [hi]))
    omega
theorem bulkE_mem {l : List Ez} {e : Ez} (h : e ∈ l) : bulk1 e.item ≤ bulkE l := by
  induction l with
  | nil => simp at h
  | cons y l ih =>
    rw [bulkE]
    rcases List.mem_cons.mp h with rfl | h
    · omega
    · have := ih h; omega
theorem bulkE_len : ∀ l : List Ez, 12 * l.length ≤ bulkE l
  | [] => Nat.le_refl _
  | e :: l => by
    have := bulkE_len l
    rw [bulkE, bulk1_eq, List.length_cons]
    omega
theorem cellsE12 : Try.prog.cellsOf 28 = 12 := by kernel_rfl
set_option maxRecDepth 100000 in
theorem open_event {H : Type} {enc : TypeId × Value → H} {W : World} {base n : Nat} {sp : Nat → Bool} {held : Bool} {cs : List Value} {y : DataW H × List MemPlace} (h : DataW.trod enc Try.prog W base sp held n 28 cs = some y) :
    ∃ (z0 z1 z2 z3 : Int) (c8 : List Value) (y4 : DataW H × List MemPlace) (m : Nat), cs = [.int .i64 z0, .int .i64 z1, .int .i64 z2, .int .i64 z3] ++ c8 ∧
      DataW.trod enc Try.prog W base sp held m 26 c8 = some y4 ∧ Rows.uptoBulk y4.1 + 4 ≤ Rows.uptoBulk y.1 ∧ I64 z0 ∧ I64 z1 ∧ I64 z2 ∧ I64 z3 := by
  obtain ⟨xs, k, _, hy, hl, hx, hf⟩ := DataW.trod_struct Try.underlying28 h
  rw [cellsE12] at hl
  have hx5 : xs.length = 5 := hx
  clear hx
  match cs, hl, xs, hx5 with
  | [c0, c1, c2, c3, c4, c5, c6, c7, c8, c9, c10, c11], _, [y0, y1, y2, y3, y4], _ =>
    have g0 := hf 0 _ rfl
    have g1 := hf 1 _ rfl
    have g2 := hf 2 _ rfl
    have g3 := hf 3 _ rfl
    have g4 := hf 4 _ rfl
    simp [cellsI, cellsT8] at g0 g1 g2 g3 g4
    obtain ⟨z0, e0, f0, w0⟩ := DataW.trod_int Try.underlying3 g0
    obtain ⟨z1, e1, f1, w1⟩ := DataW.trod_int Try.underlying3 g1
    obtain ⟨z2, e2, f2, w2⟩ := DataW.trod_int Try.underlying3 g2
    obtain ⟨z3, e3, f3, w3⟩ := DataW.trod_int Try.underlying3 g3
    simp at e0 e1 e2 e3
    refine ⟨z0, z1, z2, z3, [c4, c5, c6, c7, c8, c9, c10, c11], y4, k, by rw [e0, e1, e2, e3]; rfl, g4, ?_, bounds_i64 w0, bounds_i64 w1, bounds_i64 w2, bounds_i64 w3⟩
    rw [hy, f0, f1, f2, f3]
    simp only [List.map_cons, List.map_nil, Rows.uptoBulk, Rows.uptoBulkAll]
    omega
/-- a slice of events that came in, as it reads, and how much it holds -/
theorem open_events {H : Type} {enc : TypeId × Value → H} {W : World} {a0 : Option Addr} {len cap : Nat} {d : DataW H} {ps : List MemPlace} (h : DataW.Trod enc Try.prog W 0 (fun _ => true) true 23 (.slice a0 len cap) d ps) :
    ∃ l : List Ez, EzsAt W (fun g => g < W.heap.size) (.slice a0 len cap) l ∧ bulkE l ≤ Rows.uptoBulk d ∧ ∀ e ∈ l, EzOk e := by
  obtain ⟨fuel, hf⟩ := h
  simp [Value.cells] at hf
  rcases Deep.open_slice Try.underlying23 hf with ⟨hcs, hx⟩ | ⟨a, len', cap', mm, n, D, Pl, hcs, _, hl, hmx, hm, hx, hall⟩
  · simp at hcs
    obtain ⟨rfl, rfl, rfl⟩ := hcs
    exact ⟨[], ⟨none, 0, rfl, Nat.le_refl _, by decide, fun j hj => by simp at hj⟩, Nat.zero_le _, fun e he => by simp at he⟩
  · simp at hcs
    obtain ⟨rfl, rfl, rfl⟩ := hcs
    simp only [if_true] at hm
    subst hm
    simp only [Prod.mk.injEq] at hx
    have each : ∀ i, i < len → ∃ p : Ez × Value, (∀ q, q < 12 → W.cell? ((a.add (i * 12)).add q) = (ezc p)[q]?) ∧ IzsAt W (fun g => g < W.heap.size) p.2 p.1.item.kids ∧ 4 + bulk1 p.1.item ≤ Rows.uptoBulk (D i) ∧ EzOk p.1 := by
      intro i hi
      obtain ⟨cs', h1, h2⟩ := hall i (by omega)
      obtain ⟨z0, z1, z2, z3, c8, y4, m4, rfl, h3, h4, b0, b1, b2, b3⟩ := open_event h2
      obtain ⟨x0, x1, s2, s3, x4, x5, b6, k, dk, plk, mk, rfl, h5, h6, hw⟩ := open_item h3
      rw [cellsE12] at h1
      have h4 : Rows.uptoBulk y4.1 + 4 ≤ Rows.uptoBulk (D i) := h4
      obtain ⟨lk, h7, h8, h9⟩ := open_its _ k dk mk plk (Nat.le_refl _) h5
      refine ⟨(⟨z0, z1, z2, z3, .mk x0 x1 s2 s3 x4 x5 b6 lk⟩, k), fun q hq => (World.cells?_some h1).2.2 q hq, h7, ?_, b0, b1, b2, b3, ?_⟩
      · rw [bulk1]
        omega
      · intro n hn
        rw [nodesZ, nodes1Z, nodesZ, List.append_nil] at hn
        rcases List.mem_cons.mp hn with rfl | hn
        · exact hw
        · exact h9 n hn
    have inh : Inhabited (Ez × Value) := ⟨(⟨0, 0, 0, 0, .mk 0 0 ⟨#[]⟩ ⟨#[]⟩ 0 0 false []⟩, .bool false)⟩
    obtain ⟨X, hX⟩ := Deep.choose_lt each
    have e1 : ((List.range len).map fun i => (X i).1).length = len := by rw [List.length_map, List.length_range]
    refine ⟨(List.range len).map fun i => (X i).1, ⟨some a, mm, by rw [e1], by rw [e1]; exact hl, by unfold maxLen at hmx; omega, fun j hj => ?_⟩, ?_, fun e he => ?_⟩
    · rw [e1] at hj
      obtain ⟨h1, h2, _, _⟩ := hX j hj
      simp only [List.getElem_map, List.getElem_range]
      obtain ⟨b, o, spot⟩ := a
      have hs : spot = none := by
        have h0 := (hX 0 (by omega)).1 0 (by decide)
        have := World.cell?_spot (h0.trans rfl)
        simpa [Addr.add] using this
      subst hs
      have hcell : ∀ q, q < 12 → W.cell? ⟨b, o + j * 12 + q, none⟩ = (ezc (X j))[q]? := fun q hq => by
        have := h1 q hq
        rw [add_at, add_at] at this
        exact this
      have k0 := hcell 0 (by decide)
      exact ⟨b, o, (X j).2, rfl, lt_of_cell (k0.trans rfl), ⟨k0.trans rfl, (hcell 1 (by decide)).trans rfl, (hcell 2 (by decide)).trans rfl, (hcell 3 (by decide)).trans rfl, ⟨(hcell 4 (by decide)).trans rfl, (hcell 5 (by decide)).trans rfl, (hcell 6 (by decide)).trans rfl, (hcell 7 (by decide)).trans rfl, (hcell 8 (by decide)).trans rfl, (hcell 9 (by decide)).trans rfl, (hcell 10 (by decide)).trans rfl, (hcell 11 (by decide)).trans rfl⟩⟩, h2⟩
    · have h1 := bulkE_range (D := D) (X := fun i => (X i).1) (List.range len) (fun j hj => (hX j (List.mem_range.mp hj)).2.2.1)
      rw [hx.1]
      simp only [Rows.uptoBulk]
      omega
    · obtain ⟨i, hi, rfl⟩ := List.mem_map.mp he
      exact (hX i (List.mem_range.mp hi)).2.2.2
end Go.Proofs.Ytgpckmolcdafcae

/-
  EVENTS that came in and are good: they read as the plain model's.
-/
namespace Go.Proofs.Ytgpckmolcdafcae
open Go.RowKit

def evOf (e : Ez) : EvM := ⟨e.kind, e.node, e.tgt, e.at_, .mk (if 0 ≤ e.item.node then e.item.node.toNat else e.node.toNat + 1) e.item.role e.item.name e.item.about e.item.level e.item.checked e.item.off (toIts e.item.kids)⟩
/-- what the law asks of each -/
def GoodE (e : Ez) : Prop := (e.kind = 5 ∨ e.kind = 2 → AlikeZ [e.item]) ∧ 0 ≤ e.node
theorem nodesZ_one (x : Iz) : nodesZ [x] = x.node :: nodesZ x.kids := by rw [nodesZ, nodesZ, List.append_nil, nodes1Z_eq]
theorem alike_kids {x : Iz} (h : AlikeZ [x]) : AlikeZ x.kids ∧ 0 ≤ x.node := by
  unfold AlikeZ at h
  rw [nodesZ_one] at h
  exact ⟨⟨fun n hn => h.1 n (List.mem_cons_of_mem _ hn), (List.nodup_cons.mp h.2).2⟩, h.1 _ List.mem_cons_self⟩
theorem toIts_len : (∀ x, (nodes1 (toIt x)).length = (nodes1Z x).length) ∧ ∀ l, (nodesL (toIts l)).length = (nodesZ l).length := by
  refine Iz.ind (fun x h => ?_) rfl (fun x xs h1 h2 => ?_)
  · rw [nodes1Z_eq, toIt_eq, nodes1_eq, List.length_cons, List.length_cons]
    show (nodesL (toIts x.kids)).length + 1 = _
    rw [h]
  · rw [toIts, nodesL, nodesZ, List.length_append, List.length_append, h1, h2]
theorem toIts_top : ∀ l : List Iz, (toIts l).length = l.length
  | [] => rfl
  | x :: l => by rw [toIts, List.length_cons, List.length_cons, toIts_top l]
theorem evOf_item {e : Ez} (h : 0 ≤ e.item.node) : (evOf e).item = toIt e.item := by
  rw [toIt_eq]
  show It.mk _ _ _ _ _ _ _ _ = _
  rw [if_pos h]
theorem evOf_few (e : Ez) : (nodes1 (evOf e).item).length = (nodes1Z e.item).length := by
  rw [nodes1_eq, nodes1Z_eq, List.length_cons, List.length_cons]
  show (nodesL (toIts e.item.kids)).length + 1 = _
  rw [toIts_len.2]
theorem ev_ok {w : World} {P : Nat → Prop} {e : Ez} {kv : Value} (hg : GoodE e) (ho : EzOk e) (hf : (nodes1Z e.item).length ≤ 400000) (hk : IzsAt w P kv e.item.kids) : EvOk w P (evOf e) e.node.toNat e.item.node kv where
  node := by have := hg.2; show e.node = ((e.node.toNat : Nat) : Int); omega
  nlt := by have := ho.2.1.2; omega
  tlt := by have := ho.2.2.1.2; show e.tgt < _; omega
  z52 := fun h => by
    have h0 := (alike_kids (hg.1 h)).2
    show e.item.node = (((if 0 ≤ e.item.node then e.item.node.toNat else e.node.toNat + 1) : Nat) : Int)
    rw [if_pos h0]
    omega
  z4 := fun _ => by
    show e.item.node = ((e.node.toNat : Nat) : Int) ↔ (if 0 ≤ e.item.node then e.item.node.toNat else e.node.toNat + 1) = e.node.toNat
    by_cases h0 : 0 ≤ e.item.node
    · rw [if_pos h0]; omega
    · rw [if_neg h0]; omega
  shape := by
    obtain ⟨p, c, h⟩ := hk.shape
    exact ⟨p, c, by rw [h]; show _ = Value.slice p (toIts e.item.kids).length c; rw [toIts_top]⟩
  a5 := fun h => by
    have hA := hg.1 (Or.inl h)
    have hAk := alike_kids hA
    have e1 : toIts [e.item] = [(evOf e).item] := by rw [toIts, toIts, evOf_item hAk.2]
    refine ⟨hAk.1.rd hk, by rw [← e1]; exact hA.unlike, fun k hk2 => ?_⟩
    rw [← e1] at hk2
    exact node_bound hA ho.2.2.2.2 k hk2
  few := by rw [evOf_few]; exact hf
  i2 := fun h => by
    have hA := hg.1 (Or.inr h)
    have hAk := alike_kids hA
    have e1 : toIts [e.item] = [(evOf e).item] := by rw [toIts, toIts, evOf_item hAk.2]
    refine node_bound hA ho.2.2.2.2 _ ?_
    rw [e1, nodesL, nodes1_eq]
    simp
theorem evs_good {w : World} {P : Nat → Prop} {v : Value} {l : List Ez} (h : EzsAt w P v l) (hg : ∀ e ∈ l, GoodE e) (ho : ∀ e ∈ l, EzOk e) (hf : ∀ e ∈ l, (nodes1Z e.item).length ≤ 400000) : EvsAt2 w v (l.map evOf) := by
  obtain ⟨p, c, e1, h1, h2, h3⟩ := h
  refine ⟨p, c, by rw [e1, List.length_map], by rw [List.length_map]; exact h1, h2, fun j hj => ?_⟩
  have hj' : j < l.length := by simpa using hj
  obtain ⟨b, o, kv, e2, hb, hA, hk⟩ := h3 j hj'
  have hm := List.getElem_mem hj'
  have hk' : IzsAt w (fun _ => True) kv l[j].item.kids := hk.frame (fun _ _ _ => ⟨rfl, trivial⟩)
  have ok := ev_ok (hg _ hm) (ho _ hm) (hf _ hm) hk'
  refine ⟨b, o, l[j].node.toNat, l[j].item.node, kv, e2, ?_, fun h => ?_⟩
  · rw [List.getElem_map]
    exact ⟨ok, hA.c0, by rw [← ok.node]; exact hA.c1, hA.c2, hA.c3, hA.it.c0, hA.it.c1, hA.it.c2, hA.it.c3, hA.it.c4, hA.it.c5, hA.it.c6, hA.it.c7⟩
  · rw [List.getElem_map] at h ⊢
    exact (alike_kids ((hg _ hm).1 (Or.inr h))).1.rd hk'
end Go.Proofs.Ytgpckmolcdafcae

/-
  THE WALK of DiffTells. (Laid by mkxdt.py.)
-/
namespace Go.Proofs.Ytgpckmolcdafcae
open Go.RowKit Go.Maps

theorem fault_eql (W : World) (a b : Int) : (binOp .eql 31 (.agg #[.int .i64 a, .int .i64 b]) (.agg #[.int .i64 a, .int .i64 b])).run Try.prog W = .ok (.bool true) W := by
  have u3 := Try.underlying3
  have hS : Try.prog.underlying 31 = some (.struct (Try.prog.fieldsOf 31)) := by kernel_rfl
  have hp : Try.prog.stoodInHeld 31 = false := by kernel_rfl
  rw [run_eql_struct, show (10000 : Nat) = 9999 + 1 from rfl, run_equalIn_agg W 9999 31 _ _ hS hp]
  simp only [Program.fieldsOf, Try.underlying31]
  go_simp
theorem fault_guard (W : World) (x y : Operand) (xs ys : Array Value) : (eqGuard .eql 31 x y (.agg xs) (.agg ys)).run Try.prog W = .ok () W := run_eqGuard_agg W .eql 31 x y xs ys (by kernel_rfl)

set_option maxHeartbeats 6400000 in
set_option maxRecDepth 100000 in
theorem dtells_walk {w : World} {v ve : Value} {l : List Iz} {es : List Ez} (ha : IzsAt w (fun g => g < w.heap.size) v l) (na : NodeOk l) (he : EzsAt w (fun g => g < w.heap.size) ve es) (ne : ∀ e ∈ es, EzOk e) (hz : 8 * (nodesZ l).length + bulkE es ≤ 1048576) :
    Calls Try.prog 3 #[v, ve] w fun e w' => e = .returned (.bool true) ∧ Below w.heap.size w w' := by
  obtain ⟨ra, hra⟩ : ∃ r : Bool, r = true ↔ AlikeZ l := bool_of _
  have CA := ualike_any ha na (by omega) ra hra
  have HFE : Hid (∀ e ∈ es, (nodes1Z e.item).length ≤ 131072) := fun e hm => by have := bulkE_mem hm; have := nodesZ_few.1 e.item; omega
  have HLN : Hid (es.length ≤ 87382) := by have := bulkE_len es; show _ ≤ _; omega
  cases ra with
  | false =>
    obtain ⟨pv, cv, rfl⟩ := ha.shape
    obtain ⟨pe, ce, rfl, y1, y2, hat⟩ := he
    clear ha na ne hz hra hat
    generalize l.length = m1 at *
    go_enter Try.func3, Try.ntmps3
    go_wp2_with (go_at_call 5; refine CA.mono ?_; clear CA; rintro e w1 ⟨rfl, hb1⟩; have HB1 : Hid (Below w.heap.size w w1) := hb1; clear hb1)
    go_ret
    exact ⟨rfl, HB1.out⟩
  | true =>
    have aa := hra.mp rfl
    have HZL : Hid ((nodesL (toIts l)).length ≤ 131072) := by show _ ≤ _; rw [toIts_len.2]; omega
    have HRL : Hid (∀ W, Below w.heap.size w W → RdI W (fun _ => True) v (toIts l)) := fun W hW => ((aa.rd ha).under hW).any (fun _ _ _ => trivial)
    have HUL : Hid (Unlike (toIts l)) := aa.unlike
    have HBL : Hid (∀ k ∈ nodesL (toIts l), k < 9223372036854775808) := node_bound aa na
    have HEV : Hid (∀ W, Below w.heap.size w W → (∀ e ∈ es, GoodE e) → EvsAt2 W ve (es.map evOf)) := fun W hW hg => evs_good (P := fun _ => True) (he.frame (fun g hg2 hlt => ⟨hW.block g hlt, trivial⟩)) hg ne (fun e hm => Nat.le_trans (HFE.out e hm) (by decide))
    have HIT : Hid (∀ m ∈ es.map evOf, (nodes1 m.item).length ≤ 200000) := fun m hm => by
      obtain ⟨e, he2, rfl⟩ := List.mem_map.mp hm
      rw [evOf_few]
      exact Nat.le_trans (HFE.out e he2) (by decide)
    have HLM : Hid ((es.map evOf).length ≤ 290000) := by have := HLN.out; show _ ≤ _; rw [List.length_map]; omega
    have KA : ∀ W, Below w.heap.size w W → (∀ e ∈ es, GoodE e) → Calls Try.prog 6 #[v, ve] W fun e w' => Applied (runM 0 (toIts l) (es.map evOf)) e w' W.heap.size ∧ Below W.heap.size W w' := fun W hW hg => happly_any (HRL.out W hW) HUL.out HBL.out (Nat.le_trans HZL.out (by decide)) (HEV.out W hW hg).evs HLM.out HIT.out
    have KB : ∀ W, Below w.heap.size w W → (∀ e ∈ es, GoodE e) → Calls Try.prog 7 #[v, ve] W fun e w' => AppliedR (runM 0 (toIts l) (es.map evOf)) e w' ∧ Below W.heap.size W w' := fun W hW hg => uapply_any (HRL.out W hW) HUL.out (Nat.le_trans HZL.out (by decide)) (HEV.out W hW hg) HLM.out HIT.out
    obtain ⟨pv, cv, rfl⟩ := ha.shape
    obtain ⟨pe, ce, rfl, y1, y2, hat⟩ := he
    have HAT : Hid (∀ j (hj : j < es.length), ∃ b o kv, pe = some ⟨b, o, none⟩ ∧ b < w.heap.size ∧ EzAt w b (o + j * 12) es[j] kv ∧ IzsAt w (fun g => g < w.heap.size) kv es[j].item.kids) := hat
    have HNE : Hid (∀ e ∈ es, EzOk e) := ne
    have HKA := (show Hid _ from KA)
    have HKB := (show Hid _ from KB)
    clear KA KB hat ne ha na hz hra aa HZL HRL HUL HBL HEV HIT HLM
    generalize runM 0 (toIts l) (es.map evOf) = R at *
    generalize l.length = m1 at *
    go_enter Try.func3, Try.ntmps3
    go_wp2_with (go_at_call 5; refine CA.mono ?_; clear CA; rintro e w1 ⟨rfl, hb1⟩; have HB1 : Hid (Below w.heap.size w w1) := hb1; clear hb1)
    go_loopw [16] (fun iv wr => ∃ (j : Nat), j ≤ es.length ∧ iv = .int .i64 j ∧ Hid (∀ e ∈ es.take j, GoodE e) ∧ Hid (Below w.heap.size w wr)) (fun iv _ => es.length - (intOf iv).toNat)
    case atStart => exact ⟨0, Nat.zero_le _, rfl, fun e he => by simp at he, HB1⟩
    case round =>
      obtain ⟨j, hj, rfl, HG, HB⟩ := hrel
      by_cases hlt : j < es.length
      · obtain ⟨b, o, kv, rfl, hb, hE, hK⟩ := HAT.out j hlt
        have hE2 := hE.block (HB.out.block b hb)
        have hK2 := (hK.under HB.out).frame (Q := fun _ => True) (fun g _ _ => ⟨rfl, trivial⟩)
        have HG1 : Hid (GoodE es[j] → ∀ e ∈ es.take (j + 1), GoodE e) := fun h e hm => by
          rw [List.take_succ_eq_append_getElem hlt] at hm
          rcases List.mem_append.mp hm with hm | hm
          · exact HG.out e hm
          · rw [List.mem_singleton.mp hm]; exact h
        have HNO : Hid (NodeOk [es[j].item]) := (HNE.out _ (List.getElem_mem hlt)).2.2.2.2
        have HFW : Hid ((nodes1Z es[j].item).length ≤ 131072) := HFE.out _ (List.getElem_mem hlt)
        clear hE hK
        generalize es[j] = ej at *
        obtain ⟨k, n, t, a, ⟨i0, i1, i2, i3, i4, i5, i6, ks⟩⟩ := ej
        obtain ⟨c0, c1, c2, c3, ⟨c4, c5, c6, c7, c8, c9, c10, c11⟩⟩ := hE2
        obtain ⟨pk, kn, ck, rfl⟩ : ∃ p n c, kv = .slice p n c := (by obtain ⟨p, c, e⟩ := hK2.shape; exact ⟨p, _, c, e⟩)
        have B2 : Below wr.heap.size wr (wr.alloc (.cells #[.int .i64 k, .int .i64 n, .int .i64 t, .int .i64 a, .int .i64 i0, .int .i64 i1, .string i2, .string i3, .int .i64 i4, .int .i64 i5, .bool i6, .slice pk kn ck] 28)) := (Below.refl _ _).alloc (Nat.le_refl _) _
        have BX := box12_new wr (.int .i64 k) (.int .i64 n) (.int .i64 t) (.int .i64 a) (.int .i64 i0) (.int .i64 i1) (.string i2) (.string i3) (.int .i64 i4) (.int .i64 i5) (.bool i6) (.slice pk kn ck) 28
        have zy : (wr.alloc (.cells #[.int .i64 k, .int .i64 n, .int .i64 t, .int .i64 a, .int .i64 i0, .int .i64 i1, .string i2, .string i3, .int .i64 i4, .int .i64 i5, .bool i6, .slice pk kn ck] 28)).heap.size = wr.heap.size + 1 := by simp
        have HK3 := hK2.under B2
        dsimp only [Ez.kind, Ez.node, Ez.tgt, Ez.at_, Ez.item, Iz.node, Iz.role, Iz.name, Iz.about, Iz.level, Iz.checked, Iz.off, Iz.kids, Nat.add_assoc] at c0 c1 c2 c3 c4 c5 c6 c7 c8 c9 c10 c11
        go_upto_region 6 with fail
        generalize wr.alloc (.cells #[.int .i64 k, .int .i64 n, .int .i64 t, .int .i64 a, .int .i64 i0, .int .i64 i1, .string i2, .string i3, .int .i64 i4, .int .i64 i5, .bool i6, .slice pk kn ck] 28) = W2 at *
        have HBW2 : Hid (Below w.heap.size w W2) := HB.out.trans (B2.mono HB.out.size)
        have HK2 : Hid (IzsAt W2 (fun _ => True) (.slice pk kn ck) ks) := HK3
        obtain ⟨d0, d1, d2, d3, d4, d5, d6, d7, d8, d9, d10, d11⟩ := BX
        have nz1 : ¬ wr.heap.size = W2.heap.size := by omega
        have nz2 : ¬ W2.heap.size = wr.heap.size := by omega
        clear c0 c1 c2 c3 c4 c5 c6 c7 c8 c9 c10 c11 B2 HK3 hK2 zy
        by_cases k5 : k = 5
        · subst k
          have HIN : IzsAt (W2.alloc (.cells #[.int .i64 i0, .int .i64 i1, .string i2, .string i3, .int .i64 i4, .int .i64 i5, .bool i6, .slice pk kn ck] 26)) (fun _ => True) (.slice (some ⟨W2.heap.size, 0, none⟩) 1 1) [.mk i0 i1 i2 i3 i4 i5 i6 ks] := by
            have hnew := heap_alloc_new W2 (.cells #[.int .i64 i0, .int .i64 i1, .string i2, .string i3, .int .i64 i4, .int .i64 i5, .bool i6, .slice pk kn ck] 26)
            have hu := HK2.out.under (w' := (W2.alloc (.cells #[.int .i64 i0, .int .i64 i1, .string i2, .string i3, .int .i64 i4, .int .i64 i5, .bool i6, .slice pk kn ck] 26))) ((Below.refl _ _).alloc (Nat.le_refl _) _)
            generalize (W2.alloc (.cells #[.int .i64 i0, .int .i64 i1, .string i2, .string i3, .int .i64 i4, .int .i64 i5, .bool i6, .slice pk kn ck] 26)) = W at *
            refine .mk (some ⟨W2.heap.size, 0, none⟩) 1 [.mk i0 i1 i2 i3 i4 i5 i6 ks] [.slice pk kn ck] rfl (Nat.le_refl _) (by decide) (fun jj h h' => ?_) (fun jj h h' => ?_)
            · have hj0 : jj = 0 := by simpa using h
              subst hj0
              exact ⟨_, _, rfl, trivial, ⟨by first | (simp [World.cell?, hnew]; done) | (simp [World.cell?, hnew]; rfl), by first | (simp [World.cell?, hnew]; done) | (simp [World.cell?, hnew]; rfl), by first | (simp [World.cell?, hnew]; done) | (simp [World.cell?, hnew]; rfl), by first | (simp [World.cell?, hnew]; done) | (simp [World.cell?, hnew]; rfl), by first | (simp [World.cell?, hnew]; done) | (simp [World.cell?, hnew]; rfl), by first | (simp [World.cell?, hnew]; done) | (simp [World.cell?, hnew]; rfl), by first | (simp [World.cell?, hnew]; done) | (simp [World.cell?, hnew]; rfl), by first | (simp [World.cell?, hnew]; done) | (simp [World.cell?, hnew]; rfl)⟩⟩
            · have hj0 : jj = 0 := by simpa using h
              subst hj0
              exact hu
          obtain ⟨rb, hrb⟩ : ∃ r : Bool, r = true ↔ AlikeZ [.mk i0 i1 i2 i3 i4 i5 i6 ks] := bool_of _
          have CB := ualike_any HIN HNO.out (by
            have h9 := HFW.out
            rw [nodes1Z_eq] at h9
            rw [nodesZ_one]
            exact Nat.le_trans h9 (by decide)) rb hrb
          have HB3 : Hid (Below w.heap.size w (W2.alloc (.cells #[.int .i64 i0, .int .i64 i1, .string i2, .string i3, .int .i64 i4, .int .i64 i5, .bool i6, .slice pk kn ck] 26))) := HBW2.out.alloc HBW2.out.size _
          have HRB : Hid (rb = true ↔ AlikeZ [.mk i0 i1 i2 i3 i4 i5 i6 ks]) := hrb
          have B3 : Below W2.heap.size W2 (W2.alloc (.cells #[.int .i64 i0, .int .i64 i1, .string i2, .string i3, .int .i64 i4, .int .i64 i5, .bool i6, .slice pk kn ck] 26)) := (Below.refl _ _).alloc (Nat.le_refl _) _
          have g1 := keeps_below B3 (Nat.le_refl _) _ _ d1
          have B3H : Hid (Below W2.heap.size W2 (W2.alloc (.cells #[.int .i64 i0, .int .i64 i1, .string i2, .string i3, .int .i64 i4, .int .i64 i5, .bool i6, .slice pk kn ck] 26))) := B3
          clear hrb HIN B3
          cases rb with
          | false =>
            go_wp2_with (go_at_call 5; refine CB.mono ?_; clear CB; rintro e w5 ⟨rfl, hb⟩; have HBC : Hid (Below w.heap.size w w5) := HB3.out.trans (hb.mono HB3.out.size); clear hb)
            go_ret
            exact ⟨rfl, HBC.out⟩
          | true =>
            by_cases hn : n < 0
            · go_wp2_with (go_at_call 5; refine CB.mono ?_; clear CB; rintro e w5 ⟨rfl, hb⟩; have HBC : Hid (Below w.heap.size w w5) := HB3.out.trans (hb.mono HB3.out.size); have e1 := keeps_below hb (Nat.le_refl _) _ _ g1; clear hb d0 d1 d2 d3 d4 d5 d6 d7 d8 d9 d10 d11 g1)
              go_ret
              exact ⟨rfl, HBC.out⟩
            · have HGG : Hid (∀ e ∈ es.take (j + 1), GoodE e) := HG1.out ⟨fun _ => HRB.out.mp rfl, by show 0 ≤ n; omega⟩
              go_wp2_with (go_at_call 5; refine CB.mono ?_; clear CB; rintro e w5 ⟨rfl, hb⟩; have HBC : Hid (Below w.heap.size w w5) := HB3.out.trans (hb.mono HB3.out.size); have e1 := keeps_below hb (Nat.le_refl _) _ _ g1; clear hb d0 d1 d2 d3 d4 d5 d6 d7 d8 d9 d10 d11 g1)
              go_roundw
              case rel => exact ⟨j + 1, by omega, by go_num, HGG, HBC⟩
              case measure => simp [intOf]; omega
        by_cases k2 : k = 2
        · subst k
          have HIN : IzsAt (W2.alloc (.cells #[.int .i64 i0, .int .i64 i1, .string i2, .string i3, .int .i64 i4, .int .i64 i5, .bool i6, .slice pk kn ck] 26)) (fun _ => True) (.slice (some ⟨W2.heap.size, 0, none⟩) 1 1) [.mk i0 i1 i2 i3 i4 i5 i6 ks] := by
            have hnew := heap_alloc_new W2 (.cells #[.int .i64 i0, .int .i64 i1, .string i2, .string i3, .int .i64 i4, .int .i64 i5, .bool i6, .slice pk kn ck] 26)
            have hu := HK2.out.under (w' := (W2.alloc (.cells #[.int .i64 i0, .int .i64 i1, .string i2, .string i3, .int .i64 i4, .int .i64 i5, .bool i6, .slice pk kn ck] 26))) ((Below.refl _ _).alloc (Nat.le_refl _) _)
            generalize (W2.alloc (.cells #[.int .i64 i0, .int .i64 i1, .string i2, .string i3, .int .i64 i4, .int .i64 i5, .bool i6, .slice pk kn ck] 26)) = W at *
            refine .mk (some ⟨W2.heap.size, 0, none⟩) 1 [.mk i0 i1 i2 i3 i4 i5 i6 ks] [.slice pk kn ck] rfl (Nat.le_refl _) (by decide) (fun jj h h' => ?_) (fun jj h h' => ?_)
            · have hj0 : jj = 0 := by simpa using h
              subst hj0
              exact ⟨_, _, rfl, trivial, ⟨by first | (simp [World.cell?, hnew]; done) | (simp [World.cell?, hnew]; rfl), by first | (simp [World.cell?, hnew]; done) | (simp [World.cell?, hnew]; rfl), by first | (simp [World.cell?, hnew]; done) | (simp [World.cell?, hnew]; rfl), by first | (simp [World.cell?, hnew]; done) | (simp [World.cell?, hnew]; rfl), by first | (simp [World.cell?, hnew]; done) | (simp [World.cell?, hnew]; rfl), by first | (simp [World.cell?, hnew]; done) | (simp [World.cell?, hnew]; rfl), by first | (simp [World.cell?, hnew]; done) | (simp [World.cell?, hnew]; rfl), by first | (simp [World.cell?, hnew]; done) | (simp [World.cell?, hnew]; rfl)⟩⟩
            · have hj0 : jj = 0 := by simpa using h
              subst hj0
              exact hu
          obtain ⟨rb, hrb⟩ : ∃ r : Bool, r = true ↔ AlikeZ [.mk i0 i1 i2 i3 i4 i5 i6 ks] := bool_of _
          have CB := ualike_any HIN HNO.out (by
            have h9 := HFW.out
            rw [nodes1Z_eq] at h9
            rw [nodesZ_one]
            exact Nat.le_trans h9 (by decide)) rb hrb
          have HB3 : Hid (Below w.heap.size w (W2.alloc (.cells #[.int .i64 i0, .int .i64 i1, .string i2, .string i3, .int .i64 i4, .int .i64 i5, .bool i6, .slice pk kn ck] 26))) := HBW2.out.alloc HBW2.out.size _
          have HRB : Hid (rb = true ↔ AlikeZ [.mk i0 i1 i2 i3 i4 i5 i6 ks]) := hrb
          have B3 : Below W2.heap.size W2 (W2.alloc (.cells #[.int .i64 i0, .int .i64 i1, .string i2, .string i3, .int .i64 i4, .int .i64 i5, .bool i6, .slice pk kn ck] 26)) := (Below.refl _ _).alloc (Nat.le_refl _) _
          have g1 := keeps_below B3 (Nat.le_refl _) _ _ d1
          have B3H : Hid (Below W2.heap.size W2 (W2.alloc (.cells #[.int .i64 i0, .int .i64 i1, .string i2, .string i3, .int .i64 i4, .int .i64 i5, .bool i6, .slice pk kn ck] 26))) := B3
          clear hrb HIN B3
          cases rb with
          | false =>
            go_wp2_with (go_at_call 5; refine CB.mono ?_; clear CB; rintro e w5 ⟨rfl, hb⟩; have HBC : Hid (Below w.heap.size w w5) := HB3.out.trans (hb.mono HB3.out.size); clear hb)
            go_ret
            exact ⟨rfl, HBC.out⟩
          | true =>
            by_cases hn : n < 0
            · go_wp2_with (go_at_call 5; refine CB.mono ?_; clear CB; rintro e w5 ⟨rfl, hb⟩; have HBC : Hid (Below w.heap.size w w5) := HB3.out.trans (hb.mono HB3.out.size); have e1 := keeps_below hb (Nat.le_refl _) _ _ g1; clear hb d0 d1 d2 d3 d4 d5 d6 d7 d8 d9 d10 d11 g1)
              go_ret
              exact ⟨rfl, HBC.out⟩
            · have HGG : Hid (∀ e ∈ es.take (j + 1), GoodE e) := HG1.out ⟨fun _ => HRB.out.mp rfl, by show 0 ≤ n; omega⟩
              go_wp2_with (go_at_call 5; refine CB.mono ?_; clear CB; rintro e w5 ⟨rfl, hb⟩; have HBC : Hid (Below w.heap.size w w5) := HB3.out.trans (hb.mono HB3.out.size); have e1 := keeps_below hb (Nat.le_refl _) _ _ g1; clear hb d0 d1 d2 d3 d4 d5 d6 d7 d8 d9 d10 d11 g1)
              go_roundw
              case rel => exact ⟨j + 1, by omega, by go_num, HGG, HBC⟩
              case measure => simp [intOf]; omega
        · have b5 : (k == 5) = false := by rw [beq_eq_false_iff_ne]; exact k5
          have b2 : (k == 2) = false := by rw [beq_eq_false_iff_ne]; exact k2
          have HBC := HBW2
          have HKN : Hid (k = 5 ∨ k = 2 → False) := fun h => by rcases h with h | h; exact k5 h; exact k2 h
          by_cases hn : n < 0
          · go_wp2_with fail
            go_ret
            exact ⟨rfl, HBC.out⟩
          · have HGG : Hid (∀ e ∈ es.take (j + 1), GoodE e) := HG1.out ⟨fun h => absurd h HKN.out, by show 0 ≤ n; omega⟩
            go_wp2_with fail
            go_roundw
            case rel => exact ⟨j + 1, by omega, by go_num, HGG, HBC⟩
            case measure => simp [intOf]; omega
      · obtain rfl : j = es.length := by omega
        rw [List.take_length] at HG
        have KA := HKA.out wr HB.out HG.out
        cases R with
        | error ck =>
          obtain ⟨c, k⟩ := ck
          go_upto_region 10 with (go_at_call 6; refine KA.mono ?_; clear KA; rintro e w5 ⟨h5, hb⟩; have h5' : e = .returned (.tuple #[.slice none 0 0, .agg #[.int .i64 c, .int .i64 (k : Int)]]) := h5; subst h5'; have HB5 : Hid (Below w.heap.size w w5) := HB.out.trans (hb.mono HB.out.size); clear hb h5)
          have q6 := box2 w5 (.int .i64 c) (.int .i64 (k : Int)) 31
          have HB6 : Hid (Below w.heap.size w (w5.alloc (.cells #[.int .i64 c, .int .i64 (k : Int)] 31))) := HB5.out.alloc HB5.out.size _
          have KB := HKB.out _ HB6.out HG.out
          generalize w5.alloc (.cells #[.int .i64 c, .int .i64 (k : Int)] 31) = w6 at *
          obtain ⟨q60, q61⟩ := q6
          go_upto_region 11 with (go_at_call 7; refine KB.mono ?_; clear KB; rintro e w7 ⟨h5, hb⟩; have h5' : e = .returned (.tuple #[.slice none 0 0, .agg #[.int .i64 c, .int .i64 (k : Int)]]) := h5; subst h5'; have HB7 : Hid (Below w.heap.size w w7) := HB6.out.trans (hb.mono HB6.out.size); have q70 := keeps_below hb (Nat.le_refl _) _ _ q60; have q71 := keeps_below hb (Nat.le_refl _) _ _ q61; clear hb h5)
          have q8 := box2 w7 (.int .i64 c) (.int .i64 (k : Int)) 31
          have B8 : Below w7.heap.size w7 (w7.alloc (.cells #[.int .i64 c, .int .i64 (k : Int)] 31)) := (Below.refl _ _).alloc (Nat.le_refl _) _
          have r70 := keeps_below B8 (Nat.le_refl _) _ _ q70
          have r71 := keeps_below B8 (Nat.le_refl _) _ _ q71
          have HB8 : Hid (Below w.heap.size w (w7.alloc (.cells #[.int .i64 c, .int .i64 (k : Int)] 31))) := HB7.out.alloc HB7.out.size _
          clear B8 q70 q71 q60 q61
          generalize w7.alloc (.cells #[.int .i64 c, .int .i64 (k : Int)] 31) = w8 at *
          obtain ⟨q80, q81⟩ := q8
          have hq := fault_eql
          have hg := fault_guard
          have C4 := usame_true (P := fun _ => True) (Q := fun _ => True) 0 (.slice none 0 0) (.slice none 0 0) [] w8 (IzsAt.nil _ _) (IzsAt.nil _ _) (by simp [nodesZ])
          go_wp2_with (go_at_call 8; refine C4.mono ?_; clear C4; rintro e w9 ⟨rfl, hb⟩; have HB9 : Hid (Below w.heap.size w w9) := HB8.out.trans (hb.mono HB8.out.size); clear hb)
          go_ret
          exact ⟨rfl, HB9.out⟩
        | ok T =>
          go_upto_region 10 with (go_at_call 6; refine KA.mono ?_; clear KA; rintro e w5 ⟨⟨v5, rfl, t1⟩, hb⟩; have HT5 : Hid (RdI w5 (fun _ => True) v5 T) := t1.row.rd.any (fun _ _ _ => trivial); have HB5 : Hid (Below w.heap.size w w5) := HB.out.trans (hb.mono HB.out.size); obtain ⟨p5, n5, c5, rfl⟩ : ∃ p n c, v5 = .slice p n c := (by obtain ⟨p, c, e⟩ := t1.shape; exact ⟨p, _, c, e⟩); clear hb t1)
          have q6 := box2 w5 (.int .i64 0) (.int .i64 0) 31
          have B6 : Below w5.heap.size w5 (w5.alloc (.cells #[.int .i64 0, .int .i64 0] 31)) := (Below.refl _ _).alloc (Nat.le_refl _) _
          have HT6 : Hid (RdI (w5.alloc (.cells #[.int .i64 0, .int .i64 0] 31)) (fun _ => True) (.slice p5 n5 c5) T) := HT5.out.under B6
          have HB6 : Hid (Below w.heap.size w (w5.alloc (.cells #[.int .i64 0, .int .i64 0] 31))) := HB5.out.alloc HB5.out.size _
          have KB := HKB.out _ HB6.out HG.out
          clear B6
          generalize w5.alloc (.cells #[.int .i64 0, .int .i64 0] 31) = w6 at *
          obtain ⟨q60, q61⟩ := q6
          go_upto_region 11 with (go_at_call 7; refine KB.mono ?_; clear KB; rintro e w7 ⟨⟨v7, rfl, t1⟩, hb⟩; have HT7 : Hid (RdI w7 (fun _ => True) v7 T) := t1; have HU7 : Hid (RdI w7 (fun _ => True) (.slice p5 n5 c5) T) := HT6.out.under hb; have HB7 : Hid (Below w.heap.size w w7) := HB6.out.trans (hb.mono HB6.out.size); obtain ⟨p7, n7, c7, rfl⟩ : ∃ p n c, v7 = .slice p n c := (by obtain ⟨p, c, e⟩ := t1.shape; exact ⟨p, _, c, e⟩); have q70 := keeps_below hb (Nat.le_refl _) _ _ q60; have q71 := keeps_below hb (Nat.le_refl _) _ _ q61; clear hb t1)
          have q8 := box2 w7 (.int .i64 0) (.int .i64 0) 31
          have B8 : Below w7.heap.size w7 (w7.alloc (.cells #[.int .i64 0, .int .i64 0] 31)) := (Below.refl _ _).alloc (Nat.le_refl _) _
          have r70 := keeps_below B8 (Nat.le_refl _) _ _ q70
          have r71 := keeps_below B8 (Nat.le_refl _) _ _ q71
          have HB8 : Hid (Below w.heap.size w (w7.alloc (.cells #[.int .i64 0, .int .i64 0] 31))) := HB7.out.alloc HB7.out.size _
          have C4 := usame_true _ (.slice p5 n5 c5) (.slice p7 n7 c7) (ofIts T) _ (IzsAt.under HU7.out B8) (IzsAt.under HT7.out B8) (Nat.le_refl _)
          clear B8 q70 q71 q60 q61
          generalize w7.alloc (.cells #[.int .i64 0, .int .i64 0] 31) = w8 at *
          obtain ⟨q80, q81⟩ := q8
          have hq := fault_eql
          have hg := fault_guard
          go_wp2_with (go_at_call 8; refine C4.mono ?_; clear C4; rintro e w9 ⟨rfl, hb⟩; have HB9 : Hid (Below w.heap.size w w9) := HB8.out.trans (hb.mono HB8.out.size); clear hb)
          go_ret
          exact ⟨rfl, HB9.out⟩
end Go.Proofs.Ytgpckmolcdafcae
