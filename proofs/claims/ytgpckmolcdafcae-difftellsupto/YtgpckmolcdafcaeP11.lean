/-
  OWN WORK: Xap.
-/
import Derived.Test.YtgpckmolcdafcaeP0
import Derived.Test.YtgpckmolcdafcaeP1
import Derived.Test.YtgpckmolcdafcaeP2
import Derived.Test.YtgpckmolcdafcaeP3
import Derived.Test.YtgpckmolcdafcaeP4
import Derived.Test.YtgpckmolcdafcaeP5
import Derived.Test.YtgpckmolcdafcaeP6
import Derived.Test.YtgpckmolcdafcaeP7
import Derived.Test.YtgpckmolcdafcaeP8
import Derived.Test.YtgpckmolcdafcaeP9
import Derived.Test.YtgpckmolcdafcaeP10
import Derived.RegionTactic
/-
  THE WALK of the reference's Apply. (Laid by mkxap.py.)
-/
namespace Go.Proofs.Ytgpckmolcdafcae
open Go.RowKit

theorem map_has (l : List Nat) (k : Int) : (l.map Int.ofNat).contains k = (decide (0 ≤ k) && l.contains k.toNat) := by
  rw [Bool.eq_iff_iff, List.contains_iff_mem, List.mem_map, Bool.and_eq_true, decide_eq_true_eq, List.contains_iff_mem]
  constructor
  · rintro ⟨m, hm, rfl⟩
    exact ⟨Int.natCast_nonneg m, by simpa using hm⟩
  · rintro ⟨h1, h2⟩
    exact ⟨k.toNat, h2, by show ((k.toNat : Nat) : Int) = k; omega⟩
/-- a slice of events, as it reads: what is to be added reads with its kids, too -/
def EvsAt2 (w : World) (v : Value) (ms : List EvM) : Prop := ∃ p c, v = .slice p ms.length c ∧ ms.length ≤ c ∧ c ≤ 9223372036854775807 ∧
  ∀ j (hj : j < ms.length), ∃ b o n z kv, p = some ⟨b, o, none⟩ ∧ EvAt w (fun _ => True) b (o + j * 12) ms[j] n z kv ∧ (ms[j].kind = 2 → RdI w (fun _ => True) kv ms[j].item.kids)
theorem EvsAt2.evs {w : World} {v : Value} {ms : List EvM} (h : EvsAt2 w v ms) : EvsAt w (fun _ => True) v ms := by
  obtain ⟨p, c, h1, h2, h3, h4⟩ := h
  exact ⟨p, c, h1, h2, h3, fun j hj => by
    obtain ⟨b, o, n, z, kv, e, h5, _⟩ := h4 j hj
    exact ⟨b, o, n, z, kv, e, trivial, h5⟩⟩
/-- what the reference's Apply answers -/
def AppliedR (r : Except (Int × Nat) (List It)) (e : Ending) (w' : World) : Prop := match r with
  | .ok T => ∃ v, e = .returned (.tuple #[v, .agg #[.int .i64 0, .int .i64 0]]) ∧ RdI w' (fun _ => True) v T
  | .error (c, k) => e = .returned (.tuple #[.slice none 0 0, .agg #[.int .i64 c, .int .i64 (k : Int)]])

set_option maxHeartbeats 6400000 in
set_option maxRecDepth 100000 in
theorem uapply_any {w : World} {v ve : Value} {l : List It} {ms : List EvM} (hr : RdI w (fun _ => True) v l) (hU : Unlike l) (hz : (nodesL l).length ≤ 200000) (he : EvsAt2 w ve ms) (hms : ms.length ≤ 290000) (hfe : ∀ m ∈ ms, (nodes1 m.item).length ≤ 200000) :
    Calls Try.prog 7 #[v, ve] w fun e w' => AppliedR (runM 0 l ms) e w' ∧ Below w.heap.size w w' := by
  obtain ⟨pe, ce, rfl, y1, y2, hat⟩ := he
  obtain ⟨pv, c, rfl⟩ := hr.shape
  have HAT : Hid (∀ j (hj : j < ms.length), ∃ b o n z kv, pe = some ⟨b, o, none⟩ ∧ EvAt w (fun _ => True) b (o + j * 12) ms[j] n z kv ∧ (ms[j].kind = 2 → RdI w (fun _ => True) kv ms[j].item.kids)) := hat
  have HMS : Hid (ms.length ≤ 290000) := hms
  have B0 : Below w.heap.size w (w.alloc (.cells #[.int .i64 0, .int .i64 0] 31)) := (Below.refl _ _).alloc (Nat.le_refl _) _
  have R0 : (w.alloc (.cells #[.int .i64 0, .int .i64 0] 31)).heap[w.heap.size]? = some (.cells #[.int .i64 0, .int .i64 0] 31) := heap_alloc_new _ _
  have HRW : Hid (RdI (w.alloc (.cells #[.int .i64 0, .int .i64 0] 31)) (fun g => g ≠ w.heap.size) (.slice pv l.length c) l) := (hr.any (Q := fun g => g ≠ w.heap.size) (fun g _ hlt => by omega)).under B0
  have HU0 : Hid (Unlike l) := hU
  have HZ0 : Hid ((nodesL l).length ≤ 200000 + 0) := hz
  clear hr hat hU hz
  go_enter Try.func7, Try.ntmps7
  go_upto_region 1 with fail
  generalize w.alloc (.cells #[.int .i64 0, .int .i64 0] 31) = W at *
  have HB0 : Hid (Below w.heap.size w W) := B0
  have HR0 : Hid (W.heap[w.heap.size]? = some (.cells #[.int .i64 0, .int .i64 0] 31)) := R0
  clear B0 R0
  go_wp2_with fail
  go_loopw [0, 17] (fun vl iv wr => ∃ (j : Nat) (T : List It), j ≤ ms.length ∧ iv = .int .i64 j ∧ Hid (RdI wr (fun g => g ≠ w.heap.size) vl T) ∧ Hid (Unlike T) ∧ Hid ((nodesL T).length ≤ 200000 + j) ∧ Hid (runM 0 l (ms.take j) = .ok T) ∧ Hid (Below w.heap.size w wr) ∧ Hid (wr.heap[w.heap.size]? = some (.cells #[.int .i64 0, .int .i64 0] 31))) (fun _ iv _ => ms.length - (intOf iv).toNat)
  case atStart => exact ⟨0, l, Nat.zero_le _, rfl, HRW, HU0, HZ0, rfl, HB0, HR0⟩
  case round =>
    obtain ⟨j, T, hj, rfl, HT, HU, HFE, HRN, HB, HRB⟩ := hrel
    by_cases hlt : j < ms.length
    · obtain ⟨b, o, n, z, kv, rfl, EA, EK⟩ := HAT.out j hlt
      have EA2 := EA.frame trivial (fun g _ hg => ⟨HB.out.block g hg, (by omega : g ≠ w.heap.size)⟩)
      obtain ⟨ok, c0, c1, c2, c3, c4, c5, c6, c7, c8, c9, c10, c11⟩ := EA2
      have HM : Hid (∀ T2, applyM T ms[j] = .ok T2 → runM 0 l (ms.take (j + 1)) = .ok T2) := fun T2 h2 => run_next hlt HRN.out h2
      have HME : Hid (∀ c, applyM T ms[j] = .error c → runM 0 l ms = .error (c, j)) := fun c h2 => by rw [run_here hlt HRN.out, h2]
      have HFJ : Hid ((nodes1 ms[j].item).length ≤ 200000) := hfe _ (List.getElem_mem hlt)
      have H5 : Hid (ms[j].kind = 5 → Unlike [ms[j].item]) := fun h => (ok.a5 h).2.1
      have HK5 : Hid (ms[j].kind = 5 ∨ ms[j].kind = 2 → RdI wr (fun g => g ≠ w.heap.size) kv ms[j].item.kids) := fun h => by
        rcases h with h | h
        · exact (ok.a5 h).1
        · exact ((EK h).any (Q := fun g => g ≠ w.heap.size) (fun g _ hlt => by omega)).under HB.out
      clear EA EK
      generalize ms[j] = m at *
      obtain ⟨kind, node, tgt, at_, item⟩ := m
      dsimp only at ok c0 c1 c2 c3 c4 c5 c6 c7 c8 c9 c10 c11 HFJ H5 HK5
      obtain rfl : node = (n : Int) := ok.node
      obtain ⟨pk, kn, ck, rfl, HKN⟩ : ∃ p k c, kv = .slice p k c ∧ Hid (k = item.kids.length) := (by obtain ⟨p, c, e⟩ := ok.shape; exact ⟨p, _, c, e, rfl⟩)
      have HZ52 : Hid (kind = 5 ∨ kind = 2 → z = (item.node : Int)) := ok.z52
      have HZ4 : Hid (kind = 4 → (z = (n : Int) ↔ item.node = n)) := ok.z4
      obtain ⟨pt, ct, rfl⟩ := HT.out.shape
      have HTZ : Hid ((nodesL T).length ≤ 500000) := (by have := HFE.out; have := HMS.out; show _ ≤ _; omega)
      clear ok
      have B7 : Below wr.heap.size wr ((wr.alloc (.cells #[.int .i64 (j : Int)] 3)).alloc (.cells #[.int .i64 kind, .int .i64 (n : Int), .int .i64 tgt, .int .i64 at_, .int .i64 z, .int .i64 item.role, .string item.name, .string item.about, .int .i64 item.level, .int .i64 item.checked, .bool item.off, .slice pk kn ck] 28)) := ((Below.refl _ _).alloc (Nat.le_refl _) _).alloc (by simp) _
      have z7 : ((wr.alloc (.cells #[.int .i64 (j : Int)] 3)).alloc (.cells #[.int .i64 kind, .int .i64 (n : Int), .int .i64 tgt, .int .i64 at_, .int .i64 z, .int .i64 item.role, .string item.name, .string item.about, .int .i64 item.level, .int .i64 item.checked, .bool item.off, .slice pk kn ck] 28)).heap.size = wr.heap.size + 2 := by simp
      have x7 : ((wr.alloc (.cells #[.int .i64 (j : Int)] 3)).alloc (.cells #[.int .i64 kind, .int .i64 (n : Int), .int .i64 tgt, .int .i64 at_, .int .i64 z, .int .i64 item.role, .string item.name, .string item.about, .int .i64 item.level, .int .i64 item.checked, .bool item.off, .slice pk kn ck] 28)).heap[wr.heap.size + 1]? = some (.cells #[.int .i64 kind, .int .i64 (n : Int), .int .i64 tgt, .int .i64 at_, .int .i64 z, .int .i64 item.role, .string item.name, .string item.about, .int .i64 item.level, .int .i64 item.checked, .bool item.off, .slice pk kn ck] 28) := by
        have h := heap_alloc_new (wr.alloc (.cells #[.int .i64 (j : Int)] 3)) (.cells #[.int .i64 kind, .int .i64 (n : Int), .int .i64 tgt, .int .i64 at_, .int .i64 z, .int .i64 item.role, .string item.name, .string item.about, .int .i64 item.level, .int .i64 item.checked, .bool item.off, .slice pk kn ck] 28)
        simpa using h
      have i7 : ((wr.alloc (.cells #[.int .i64 (j : Int)] 3)).alloc (.cells #[.int .i64 kind, .int .i64 (n : Int), .int .i64 tgt, .int .i64 at_, .int .i64 z, .int .i64 item.role, .string item.name, .string item.about, .int .i64 item.level, .int .i64 item.checked, .bool item.off, .slice pk kn ck] 28)).heap[wr.heap.size]? = some (.cells #[.int .i64 (j : Int)] 3) := by
        rw [heap_alloc_old _ _ (by simp)]
        exact heap_alloc_new _ _
      go_upto_region 5 with fail
      generalize ((wr.alloc (.cells #[.int .i64 (j : Int)] 3)).alloc (.cells #[.int .i64 kind, .int .i64 (n : Int), .int .i64 tgt, .int .i64 at_, .int .i64 z, .int .i64 item.role, .string item.name, .string item.about, .int .i64 item.level, .int .i64 item.checked, .bool item.off, .slice pk kn ck] 28)) = W7 at *
      have HB7 : Hid (Below w.heap.size w W7) := HB.out.trans (B7.mono HB.out.size)
      have ZR : w.heap.size < wr.heap.size := (Array.getElem?_eq_some_iff.1 HRB.out).1
      have HR7 : Hid (W7.heap[w.heap.size]? = some (.cells #[.int .i64 0, .int .i64 0] 31)) := (B7.block _ ZR).trans HRB.out
      have HT7 : Hid (RdI W7 (fun g => g ≠ w.heap.size) (.slice pt T.length ct) T) := HT.out.under B7
      have HK7 : Hid (kind = 5 ∨ kind = 2 → RdI W7 (fun g => g ≠ w.heap.size) (.slice pk kn ck) item.kids) := fun h => (HK5.out h).under B7
      have HZ7 : Hid (w.heap.size < W7.heap.size ∧ W7.heap.size = wr.heap.size + 2) := (by show _ ∧ _; omega)
      have KE : Hid (∀ w', Below W7.heap.size W7 w' → (w'.cell? ⟨wr.heap.size + 1, 0, none⟩ = some (.int .i64 kind) ∧ w'.cell? ⟨wr.heap.size + 1, 1, none⟩ = some (.int .i64 (n : Int)) ∧ w'.cell? ⟨wr.heap.size + 1, 2, none⟩ = some (.int .i64 tgt) ∧ w'.cell? ⟨wr.heap.size + 1, 3, none⟩ = some (.int .i64 at_) ∧ w'.cell? ⟨wr.heap.size + 1, 4, none⟩ = some (.int .i64 z) ∧ w'.cell? ⟨wr.heap.size + 1, 5, none⟩ = some (.int .i64 item.role) ∧ w'.cell? ⟨wr.heap.size + 1, 6, none⟩ = some (.string item.name) ∧ w'.cell? ⟨wr.heap.size + 1, 7, none⟩ = some (.string item.about) ∧ w'.cell? ⟨wr.heap.size + 1, 8, none⟩ = some (.int .i64 item.level) ∧ w'.cell? ⟨wr.heap.size + 1, 9, none⟩ = some (.int .i64 item.checked) ∧ w'.cell? ⟨wr.heap.size + 1, 10, none⟩ = some (.bool item.off) ∧ w'.cell? ⟨wr.heap.size + 1, 11, none⟩ = some (.slice pk kn ck) ∧ w'.cell? ⟨wr.heap.size, 0, none⟩ = some (.int .i64 (j : Int)) ∧ w'.cell? ⟨w.heap.size, 0, none⟩ = some (.int .i64 0) ∧ w'.cell? ⟨w.heap.size, 1, none⟩ = some (.int .i64 0) ∧ w'.frozen? ⟨w.heap.size, 0, none⟩ = false ∧ w'.frozen? ⟨w.heap.size, 1, none⟩ = false)) := fun w' hb => by
        have h1 := (hb.block wr.heap.size (by omega)).trans i7
        have h2 := (hb.block (wr.heap.size + 1) (by omega)).trans x7
        have h3 := (hb.block w.heap.size (by omega)).trans HR7.out
        clear x7 i7
        refine ⟨?_, ?_, ?_, ?_, ?_, ?_, ?_, ?_, ?_, ?_, ?_, ?_, ?_, ?_, ?_, ?_, ?_⟩ <;> first | (simp [World.cell?, h1]; done) | (simp [World.cell?, h2]; done) | (simp [World.cell?, h3]; done) | (simp [World.frozen?, h3]; done)
      have HKE : Hid (kn = 0 → item.kids = []) := fun h => List.length_eq_zero_iff.mp (HKN.out.symm.trans h)
      have HKP : Hid (kn ≠ 0 → item.kids.isEmpty = false) := fun h => by
        cases hc : item.kids with
        | nil => exact absurd (by rw [HKN.out, hc]; rfl) h
        | cons a b => rfl
      clear HKN
      generalize hE : wr.heap.size + 1 = E at *
      generalize hI : wr.heap.size = I at *
      obtain ⟨d0, d1, d2, d3, d4, d5, d6, d7, d8, d9, d10, d11, e0, q0, q1, f0, f1⟩ := KE.out W7 (Below.refl _ _)
      clear c0 c1 c2 c3 c4 c5 c6 c7 c8 c9 c10 c11 B7 z7 x7 i7 hI hE ZR
      by_cases k1 : kind = 1
      · subst kind
        have HA : Hid (∀ b, hasI T (n : Int) = b → applyM T ⟨1, (n : Int), tgt, at_, item⟩ = if b = true then .ok (rmL n T) else .error 6) := fun b h => by rw [app1, h, Int.toNat_natCast]
        go_upto_region 34 with fail
        have C := uhas_any HT7.out HTZ.out (n : Int)
        cases hh : hasI T (n : Int) with
        | false =>
          rw [hh] at C
          have hA := HA.out false hh
          simp only [if_neg Bool.false_ne_true] at hA
          go_upto_region 35 with (go_at_call 16; refine C.mono ?_; clear C; rintro e w5 ⟨rfl, hb⟩; have HBC : Hid (Below W7.heap.size W7 w5) := hb; clear hb d0 d1 d2 d3 d4 d5 d6 d7 d8 d9 d10 d11 e0 q0 q1 f0 f1; obtain ⟨d0, d1, d2, d3, d4, d5, d6, d7, d8, d9, d10, d11, e0, q0, q1, f0, f1⟩ := KE.out _ HBC.out)
          go_wp2_with (go_at_call 15; refine (ubad_any 6 j I e0).mono ?_; rintro e w6 ⟨rfl, hb6⟩; have HB6 : Hid (Below W7.heap.size W7 w6) := HBC.out.trans (hb6.mono HBC.out.size); clear hb6 d0 d1 d2 d3 d4 d5 d6 d7 d8 d9 d10 d11 e0 q0 q1 f0 f1; obtain ⟨d0, d1, d2, d3, d4, d5, d6, d7, d8, d9, d10, d11, e0, q0, q1, f0, f1⟩ := KE.out _ HB6.out)
          refine bodyPost_ret (v := .tuple #[.slice none 0 0, .agg #[.int .i64 6, .int .i64 (j : Int)]]) (by simp [results, Try.results7, go_sem, q0, q1]) rfl ⟨?_, ?_⟩
          · rw [HME.out 6 hA]
            exact rfl
          · exact ((HB7.out.trans (HB6.out.mono HB7.out.size)).setCell (p := ⟨w.heap.size, 0, none⟩) (Nat.le_refl _) _).setCell (p := ⟨w.heap.size, 1, none⟩) (Nat.le_refl _) _
        | true =>
          rw [hh] at C
          have hA := HA.out true hh
          simp only [if_true] at hA
          go_upto_region 37 with (go_at_call 16; refine C.mono ?_; clear C; rintro e w5 ⟨rfl, hb⟩; have HBC5 : Hid (Below W7.heap.size W7 w5) := hb; clear hb d0 d1 d2 d3 d4 d5 d6 d7 d8 d9 d10 d11 e0 q0 q1 f0 f1; obtain ⟨d0, d1, d2, d3, d4, d5, d6, d7, d8, d9, d10, d11, e0, q0, q1, f0, f1⟩ := KE.out _ HBC5.out)
          have CC := uCut_any n (HT7.out.under HBC5.out) HU.out (by have := HTZ.out; omega)
          unfold itA at CC
          go_wp2_with (go_at_call 20; refine CC.mono ?_; clear CC; rintro e w6 ⟨v6, X6, kx6, rfl, t1, t2, t3, t4, t5⟩; obtain ⟨p6, c6, rfl⟩ := t1.shape; have HBC : Hid (Below W7.heap.size W7 w6) := HBC5.out.trans (t5.mono HBC5.out.size); have HRD : Hid (RdI w6 (fun g => g ≠ w.heap.size) (.slice p6 (rmL n T).length c6) (rmL n T)) := t1.any (fun g hg _ => by rcases hg with hg | hg; exact hg.1; have := HZ7.out; have := HBC5.out.size; omega); clear t1 t2 t3 t4 t5)
          go_roundw
          case rel => exact ⟨j + 1, rmL n T, by omega, by go_num, HRD, apply_unlike HU.out H5.out hA, (by show _ ≤ _; exact apply_few (N := 200000 + j) HU.out H5.out hA HFE.out (Nat.le_trans HFJ.out (by omega))), HM.out _ hA, HB7.out.trans (HBC.out.mono HB7.out.size), (HBC.out.block w.heap.size (by have := HZ7.out; omega)).trans HR7.out⟩
          case measure => simp [intOf]; omega
      by_cases k2 : kind = 2
      · subst kind
        obtain rfl : z = (item.node : Int) := HZ52.out (Or.inr rfl)
        have HKK : Hid (RdI W7 (fun g => g ≠ w.heap.size) (.slice pk kn ck) item.kids) := HK7.out (Or.inr rfl)
        clear HK7
        have hA := app2 T (n : Int) tgt at_ item
        by_cases h0 : 0 ≤ tgt
        · have C := uhas_any HT7.out HTZ.out tgt
          cases hh : hasI T tgt with
          | false =>
            rw [hh] at C
            rw [if_pos ⟨h0, hh⟩] at hA
            go_upto_region 11 with (go_at_call 16; refine C.mono ?_; clear C; rintro e w5 ⟨rfl, hb⟩; have HBC : Hid (Below W7.heap.size W7 w5) := hb; clear hb d0 d1 d2 d3 d4 d5 d6 d7 d8 d9 d10 d11 e0 q0 q1 f0 f1; obtain ⟨d0, d1, d2, d3, d4, d5, d6, d7, d8, d9, d10, d11, e0, q0, q1, f0, f1⟩ := KE.out _ HBC.out)
            go_wp2_with (go_at_call 15; refine (ubad_any 6 j I e0).mono ?_; rintro e w6 ⟨rfl, hb6⟩; have HB6 : Hid (Below W7.heap.size W7 w6) := HBC.out.trans (hb6.mono HBC.out.size); clear hb6 d0 d1 d2 d3 d4 d5 d6 d7 d8 d9 d10 d11 e0 q0 q1 f0 f1; obtain ⟨d0, d1, d2, d3, d4, d5, d6, d7, d8, d9, d10, d11, e0, q0, q1, f0, f1⟩ := KE.out _ HB6.out)
            refine bodyPost_ret (v := .tuple #[.slice none 0 0, .agg #[.int .i64 6, .int .i64 (j : Int)]]) (by simp [results, Try.results7, go_sem, q0, q1]) rfl ⟨?_, ?_⟩
            · rw [HME.out 6 hA]
              exact rfl
            · exact ((HB7.out.trans (HB6.out.mono HB7.out.size)).setCell (p := ⟨w.heap.size, 0, none⟩) (Nat.le_refl _) _).setCell (p := ⟨w.heap.size, 1, none⟩) (Nat.le_refl _) _
          | true =>
            rw [hh] at C
            have hT : ¬ (0 ≤ tgt ∧ hasI T tgt = false) := fun h => by rw [hh] at h; cases h.2
            rw [if_neg hT] at hA
            go_upto_region 12 with (go_at_call 16; refine C.mono ?_; clear C; rintro e w5 ⟨rfl, hb⟩; have HBC : Hid (Below W7.heap.size W7 w5) := hb; clear hb d0 d1 d2 d3 d4 d5 d6 d7 d8 d9 d10 d11 e0 q0 q1 f0 f1; obtain ⟨d0, d1, d2, d3, d4, d5, d6, d7, d8, d9, d10, d11, e0, q0, q1, f0, f1⟩ := KE.out _ HBC.out)
            have CC := upasteP item (.slice pk kn ck) tgt at_ _ (HT7.out.under HBC.out) (HKK.out.under HBC.out) HU.out (by have := HTZ.out; omega) hT rfl
            unfold itA at CC
            have HBC5 := HBC
            clear HBC
            cases hr : decide (0 ≤ at_ ∧ at_ ≤ ((kidsAt T (toP tgt)).length : Int)) with
            | false =>
              rw [hr] at CC
              rw [if_pos (by have := of_decide_eq_false hr; omega)] at hA
              go_upto_region 14 with (go_at_call 17; refine CC.mono ?_; clear CC; rintro e w6 ⟨v6, rfl, t1, t5⟩; have HBC : Hid (Below W7.heap.size W7 w6) := HBC5.out.trans (t5.mono HBC5.out.size); clear t1 t5 d0 d1 d2 d3 d4 d5 d6 d7 d8 d9 d10 d11 e0 q0 q1 f0 f1; obtain ⟨d0, d1, d2, d3, d4, d5, d6, d7, d8, d9, d10, d11, e0, q0, q1, f0, f1⟩ := KE.out _ HBC.out)
              go_wp2_with (go_at_call 15; refine (ubad_any 3 j I e0).mono ?_; rintro e w6 ⟨rfl, hb6⟩; have HB6 : Hid (Below W7.heap.size W7 w6) := HBC.out.trans (hb6.mono HBC.out.size); clear hb6 d0 d1 d2 d3 d4 d5 d6 d7 d8 d9 d10 d11 e0 q0 q1 f0 f1; obtain ⟨d0, d1, d2, d3, d4, d5, d6, d7, d8, d9, d10, d11, e0, q0, q1, f0, f1⟩ := KE.out _ HB6.out)
              refine bodyPost_ret (v := .tuple #[.slice none 0 0, .agg #[.int .i64 3, .int .i64 (j : Int)]]) (by simp [results, Try.results7, go_sem, q0, q1]) rfl ⟨?_, ?_⟩
              · rw [HME.out 3 hA]
                exact rfl
              · exact ((HB7.out.trans (HB6.out.mono HB7.out.size)).setCell (p := ⟨w.heap.size, 0, none⟩) (Nat.le_refl _) _).setCell (p := ⟨w.heap.size, 1, none⟩) (Nat.le_refl _) _
            | true =>
              rw [hr] at CC
              rw [if_neg (by have := of_decide_eq_true hr; omega)] at hA
              go_upto_region 15 with (go_at_call 17; refine CC.mono ?_; clear CC; rintro e w6 ⟨v6, rfl, t1, t5⟩; have t2 := t1 rfl; obtain ⟨p6, n6, c6, rfl⟩ : ∃ p n c, v6 = .slice p n c := (by obtain ⟨p, c, e⟩ := t2.shape; exact ⟨p, _, c, e⟩); have HBC6 : Hid (Below W7.heap.size W7 w6) := HBC5.out.trans (t5.mono HBC5.out.size); have HRD6 : Hid (RdI w6 (fun g => g ≠ w.heap.size) (.slice p6 n6 c6) (insP (toP tgt) at_.toNat item T)) := t2.any (fun g hg _ => by rcases hg with hg | hg; exact hg.1; have := HZ7.out; have := HBC5.out.size; omega); clear t1 t2 t5 d0 d1 d2 d3 d4 d5 d6 d7 d8 d9 d10 d11 e0 q0 q1 f0 f1; obtain ⟨d0, d1, d2, d3, d4, d5, d6, d7, d8, d9, d10, d11, e0, q0, q1, f0, f1⟩ := KE.out _ HBC6.out)
              by_cases hk : kn = 0
              · have hke : item.kids = [] := HKE.out hk
                clear HKE HKP
                subst kn
                rw [if_neg (by rw [hke]; simp)] at hA
                have C3 := uhas_any (HT7.out.under HBC6.out) HTZ.out (item.node : Int)
                clear hke
                cases h7 : hasI T (item.node : Int) with
                | true =>
                  rw [h7] at C3
                  rw [if_pos h7] at hA
                  go_upto_region 18 with (go_at_call 16; refine C3.mono ?_; clear C3; rintro e w8 ⟨rfl, hb⟩; have HBC : Hid (Below W7.heap.size W7 w8) := HBC6.out.trans (hb.mono HBC6.out.size); clear hb d0 d1 d2 d3 d4 d5 d6 d7 d8 d9 d10 d11 e0 q0 q1 f0 f1; obtain ⟨d0, d1, d2, d3, d4, d5, d6, d7, d8, d9, d10, d11, e0, q0, q1, f0, f1⟩ := KE.out _ HBC.out)
                  go_wp2_with (go_at_call 15; refine (ubad_any 7 j I e0).mono ?_; rintro e w6 ⟨rfl, hb6⟩; have HB6 : Hid (Below W7.heap.size W7 w6) := HBC.out.trans (hb6.mono HBC.out.size); clear hb6 d0 d1 d2 d3 d4 d5 d6 d7 d8 d9 d10 d11 e0 q0 q1 f0 f1; obtain ⟨d0, d1, d2, d3, d4, d5, d6, d7, d8, d9, d10, d11, e0, q0, q1, f0, f1⟩ := KE.out _ HB6.out)
                  refine bodyPost_ret (v := .tuple #[.slice none 0 0, .agg #[.int .i64 7, .int .i64 (j : Int)]]) (by simp [results, Try.results7, go_sem, q0, q1]) rfl ⟨?_, ?_⟩
                  · rw [HME.out 7 hA]
                    exact rfl
                  · exact ((HB7.out.trans (HB6.out.mono HB7.out.size)).setCell (p := ⟨w.heap.size, 0, none⟩) (Nat.le_refl _) _).setCell (p := ⟨w.heap.size, 1, none⟩) (Nat.le_refl _) _
                | false =>
                  rw [h7] at C3
                  rw [if_neg (by rw [h7]; decide)] at hA
                  go_wp2_with (go_at_call 16; refine C3.mono ?_; clear C3; rintro e w8 ⟨rfl, hb⟩; have HBC : Hid (Below W7.heap.size W7 w8) := HBC6.out.trans (hb.mono HBC6.out.size); have HRD : Hid (RdI w8 (fun g => g ≠ w.heap.size) (.slice p6 n6 c6) (insP (toP tgt) at_.toNat item T)) := HRD6.out.under hb; clear hb d0 d1 d2 d3 d4 d5 d6 d7 d8 d9 d10 d11 e0 q0 q1 f0 f1)
                  go_roundw
                  case rel => exact ⟨j + 1, insP (toP tgt) at_.toNat item T, by omega, by go_num, HRD, apply_unlike HU.out H5.out hA, (by show _ ≤ _; exact apply_few (N := 200000 + j) HU.out H5.out hA HFE.out (Nat.le_trans HFJ.out (by omega))), HM.out _ hA, HB7.out.trans (HBC.out.mono HB7.out.size), (HBC.out.block w.heap.size (by have := HZ7.out; omega)).trans HR7.out⟩
                  case measure => simp [intOf]; omega
              · have hkp : 0 < kn := by omega
                rw [if_pos (HKP.out hk)] at hA
                have HBC := HBC6
                clear hk
                go_wp2_with (go_at_call 15; refine (ubad_any 8 j I e0).mono ?_; rintro e w6 ⟨rfl, hb6⟩; have HB6 : Hid (Below W7.heap.size W7 w6) := HBC.out.trans (hb6.mono HBC.out.size); clear hb6 d0 d1 d2 d3 d4 d5 d6 d7 d8 d9 d10 d11 e0 q0 q1 f0 f1; obtain ⟨d0, d1, d2, d3, d4, d5, d6, d7, d8, d9, d10, d11, e0, q0, q1, f0, f1⟩ := KE.out _ HB6.out)
                refine bodyPost_ret (v := .tuple #[.slice none 0 0, .agg #[.int .i64 8, .int .i64 (j : Int)]]) (by simp [results, Try.results7, go_sem, q0, q1]) rfl ⟨?_, ?_⟩
                · rw [HME.out 8 hA]
                  exact rfl
                · exact ((HB7.out.trans (HB6.out.mono HB7.out.size)).setCell (p := ⟨w.heap.size, 0, none⟩) (Nat.le_refl _) _).setCell (p := ⟨w.heap.size, 1, none⟩) (Nat.le_refl _) _
        · have hT : ¬ (0 ≤ tgt ∧ hasI T tgt = false) := fun h => h0 h.1
          rw [if_neg hT] at hA
          go_upto_region 12 with fail
          have HBC : Hid (Below W7.heap.size W7 W7) := Below.refl _ _
          have CC := upasteP item (.slice pk kn ck) tgt at_ _ (HT7.out.under HBC.out) (HKK.out.under HBC.out) HU.out (by have := HTZ.out; omega) hT rfl
          unfold itA at CC
          have HBC5 := HBC
          clear HBC
          cases hr : decide (0 ≤ at_ ∧ at_ ≤ ((kidsAt T (toP tgt)).length : Int)) with
          | false =>
            rw [hr] at CC
            rw [if_pos (by have := of_decide_eq_false hr; omega)] at hA
            go_upto_region 14 with (go_at_call 17; refine CC.mono ?_; clear CC; rintro e w6 ⟨v6, rfl, t1, t5⟩; have HBC : Hid (Below W7.heap.size W7 w6) := HBC5.out.trans (t5.mono HBC5.out.size); clear t1 t5 d0 d1 d2 d3 d4 d5 d6 d7 d8 d9 d10 d11 e0 q0 q1 f0 f1; obtain ⟨d0, d1, d2, d3, d4, d5, d6, d7, d8, d9, d10, d11, e0, q0, q1, f0, f1⟩ := KE.out _ HBC.out)
            go_wp2_with (go_at_call 15; refine (ubad_any 3 j I e0).mono ?_; rintro e w6 ⟨rfl, hb6⟩; have HB6 : Hid (Below W7.heap.size W7 w6) := HBC.out.trans (hb6.mono HBC.out.size); clear hb6 d0 d1 d2 d3 d4 d5 d6 d7 d8 d9 d10 d11 e0 q0 q1 f0 f1; obtain ⟨d0, d1, d2, d3, d4, d5, d6, d7, d8, d9, d10, d11, e0, q0, q1, f0, f1⟩ := KE.out _ HB6.out)
            refine bodyPost_ret (v := .tuple #[.slice none 0 0, .agg #[.int .i64 3, .int .i64 (j : Int)]]) (by simp [results, Try.results7, go_sem, q0, q1]) rfl ⟨?_, ?_⟩
            · rw [HME.out 3 hA]
              exact rfl
            · exact ((HB7.out.trans (HB6.out.mono HB7.out.size)).setCell (p := ⟨w.heap.size, 0, none⟩) (Nat.le_refl _) _).setCell (p := ⟨w.heap.size, 1, none⟩) (Nat.le_refl _) _
          | true =>
            rw [hr] at CC
            rw [if_neg (by have := of_decide_eq_true hr; omega)] at hA
            go_upto_region 15 with (go_at_call 17; refine CC.mono ?_; clear CC; rintro e w6 ⟨v6, rfl, t1, t5⟩; have t2 := t1 rfl; obtain ⟨p6, n6, c6, rfl⟩ : ∃ p n c, v6 = .slice p n c := (by obtain ⟨p, c, e⟩ := t2.shape; exact ⟨p, _, c, e⟩); have HBC6 : Hid (Below W7.heap.size W7 w6) := HBC5.out.trans (t5.mono HBC5.out.size); have HRD6 : Hid (RdI w6 (fun g => g ≠ w.heap.size) (.slice p6 n6 c6) (insP (toP tgt) at_.toNat item T)) := t2.any (fun g hg _ => by rcases hg with hg | hg; exact hg.1; have := HZ7.out; have := HBC5.out.size; omega); clear t1 t2 t5 d0 d1 d2 d3 d4 d5 d6 d7 d8 d9 d10 d11 e0 q0 q1 f0 f1; obtain ⟨d0, d1, d2, d3, d4, d5, d6, d7, d8, d9, d10, d11, e0, q0, q1, f0, f1⟩ := KE.out _ HBC6.out)
            by_cases hk : kn = 0
            · have hke : item.kids = [] := HKE.out hk
              clear HKE HKP
              subst kn
              rw [if_neg (by rw [hke]; simp)] at hA
              have C3 := uhas_any (HT7.out.under HBC6.out) HTZ.out (item.node : Int)
              clear hke
              cases h7 : hasI T (item.node : Int) with
              | true =>
                rw [h7] at C3
                rw [if_pos h7] at hA
                go_upto_region 18 with (go_at_call 16; refine C3.mono ?_; clear C3; rintro e w8 ⟨rfl, hb⟩; have HBC : Hid (Below W7.heap.size W7 w8) := HBC6.out.trans (hb.mono HBC6.out.size); clear hb d0 d1 d2 d3 d4 d5 d6 d7 d8 d9 d10 d11 e0 q0 q1 f0 f1; obtain ⟨d0, d1, d2, d3, d4, d5, d6, d7, d8, d9, d10, d11, e0, q0, q1, f0, f1⟩ := KE.out _ HBC.out)
                go_wp2_with (go_at_call 15; refine (ubad_any 7 j I e0).mono ?_; rintro e w6 ⟨rfl, hb6⟩; have HB6 : Hid (Below W7.heap.size W7 w6) := HBC.out.trans (hb6.mono HBC.out.size); clear hb6 d0 d1 d2 d3 d4 d5 d6 d7 d8 d9 d10 d11 e0 q0 q1 f0 f1; obtain ⟨d0, d1, d2, d3, d4, d5, d6, d7, d8, d9, d10, d11, e0, q0, q1, f0, f1⟩ := KE.out _ HB6.out)
                refine bodyPost_ret (v := .tuple #[.slice none 0 0, .agg #[.int .i64 7, .int .i64 (j : Int)]]) (by simp [results, Try.results7, go_sem, q0, q1]) rfl ⟨?_, ?_⟩
                · rw [HME.out 7 hA]
                  exact rfl
                · exact ((HB7.out.trans (HB6.out.mono HB7.out.size)).setCell (p := ⟨w.heap.size, 0, none⟩) (Nat.le_refl _) _).setCell (p := ⟨w.heap.size, 1, none⟩) (Nat.le_refl _) _
              | false =>
                rw [h7] at C3
                rw [if_neg (by rw [h7]; decide)] at hA
                go_wp2_with (go_at_call 16; refine C3.mono ?_; clear C3; rintro e w8 ⟨rfl, hb⟩; have HBC : Hid (Below W7.heap.size W7 w8) := HBC6.out.trans (hb.mono HBC6.out.size); have HRD : Hid (RdI w8 (fun g => g ≠ w.heap.size) (.slice p6 n6 c6) (insP (toP tgt) at_.toNat item T)) := HRD6.out.under hb; clear hb d0 d1 d2 d3 d4 d5 d6 d7 d8 d9 d10 d11 e0 q0 q1 f0 f1)
                go_roundw
                case rel => exact ⟨j + 1, insP (toP tgt) at_.toNat item T, by omega, by go_num, HRD, apply_unlike HU.out H5.out hA, (by show _ ≤ _; exact apply_few (N := 200000 + j) HU.out H5.out hA HFE.out (Nat.le_trans HFJ.out (by omega))), HM.out _ hA, HB7.out.trans (HBC.out.mono HB7.out.size), (HBC.out.block w.heap.size (by have := HZ7.out; omega)).trans HR7.out⟩
                case measure => simp [intOf]; omega
            · have hkp : 0 < kn := by omega
              rw [if_pos (HKP.out hk)] at hA
              have HBC := HBC6
              clear hk
              go_wp2_with (go_at_call 15; refine (ubad_any 8 j I e0).mono ?_; rintro e w6 ⟨rfl, hb6⟩; have HB6 : Hid (Below W7.heap.size W7 w6) := HBC.out.trans (hb6.mono HBC.out.size); clear hb6 d0 d1 d2 d3 d4 d5 d6 d7 d8 d9 d10 d11 e0 q0 q1 f0 f1; obtain ⟨d0, d1, d2, d3, d4, d5, d6, d7, d8, d9, d10, d11, e0, q0, q1, f0, f1⟩ := KE.out _ HB6.out)
              refine bodyPost_ret (v := .tuple #[.slice none 0 0, .agg #[.int .i64 8, .int .i64 (j : Int)]]) (by simp [results, Try.results7, go_sem, q0, q1]) rfl ⟨?_, ?_⟩
              · rw [HME.out 8 hA]
                exact rfl
              · exact ((HB7.out.trans (HB6.out.mono HB7.out.size)).setCell (p := ⟨w.heap.size, 0, none⟩) (Nat.le_refl _) _).setCell (p := ⟨w.heap.size, 1, none⟩) (Nat.le_refl _) _
      by_cases k3 : kind = 3
      · subst kind
        have hA := app3 T (n : Int) tgt at_ item
        go_upto_region 21 with fail
        have C := uhas_any HT7.out HTZ.out (n : Int)
        cases hh : hasI T (n : Int) with
        | false =>
          rw [hh] at C
          have hf : findI T (n : Int) = none := find_no (by rw [hasI_nat] at hh; simpa using hh)
          rw [hf] at hA
          simp only at hA
          go_upto_region 22 with (go_at_call 16; refine C.mono ?_; clear C; rintro e w5 ⟨rfl, hb⟩; have HBC : Hid (Below W7.heap.size W7 w5) := hb; clear hb d0 d1 d2 d3 d4 d5 d6 d7 d8 d9 d10 d11 e0 q0 q1 f0 f1; obtain ⟨d0, d1, d2, d3, d4, d5, d6, d7, d8, d9, d10, d11, e0, q0, q1, f0, f1⟩ := KE.out _ HBC.out)
          go_wp2_with (go_at_call 15; refine (ubad_any 6 j I e0).mono ?_; rintro e w6 ⟨rfl, hb6⟩; have HB6 : Hid (Below W7.heap.size W7 w6) := HBC.out.trans (hb6.mono HBC.out.size); clear hb6 d0 d1 d2 d3 d4 d5 d6 d7 d8 d9 d10 d11 e0 q0 q1 f0 f1; obtain ⟨d0, d1, d2, d3, d4, d5, d6, d7, d8, d9, d10, d11, e0, q0, q1, f0, f1⟩ := KE.out _ HB6.out)
          refine bodyPost_ret (v := .tuple #[.slice none 0 0, .agg #[.int .i64 6, .int .i64 (j : Int)]]) (by simp [results, Try.results7, go_sem, q0, q1]) rfl ⟨?_, ?_⟩
          · rw [HME.out 6 hA]
            exact rfl
          · exact ((HB7.out.trans (HB6.out.mono HB7.out.size)).setCell (p := ⟨w.heap.size, 0, none⟩) (Nat.le_refl _) _).setCell (p := ⟨w.heap.size, 1, none⟩) (Nat.le_refl _) _
        | true =>
          rw [hh] at C
          obtain ⟨X, hX, eX⟩ := in_node (by rw [hasI_nat] at hh; simpa using hh : n ∈ nodesL T)
          subst n
          have hf : findI T (X.node : Int) = some X := find_of HU.out hX
          rw [hf] at hA
          simp only at hA
          have HXX : Hid (X ∈ itemL T) := hX
          have HLC : Hid (((nodes1 X).map Int.ofNat).contains tgt = (decide (0 ≤ tgt) && (nodes1 X).contains tgt.toNat)) := map_has _ _
          clear hX hf hh
          go_upto_region 23 with (go_at_call 16; refine C.mono ?_; clear C; rintro e w5 ⟨rfl, hb⟩; have HBC : Hid (Below W7.heap.size W7 w5) := hb; clear hb d0 d1 d2 d3 d4 d5 d6 d7 d8 d9 d10 d11 e0 q0 q1 f0 f1; obtain ⟨d0, d1, d2, d3, d4, d5, d6, d7, d8, d9, d10, d11, e0, q0, q1, f0, f1⟩ := KE.out _ HBC.out)
          by_cases h0 : 0 ≤ tgt
          · have HBD : Hid (Below W7.heap.size W7 w5.drew) := HBC.out.drew
            have h0d : decide (0 ≤ tgt) = true := decide_eq_true h0
            rw [h0d, Bool.true_and] at HLC
            clear h0d
            cases hlp : (nodes1 X).contains tgt.toNat with
            | true =>
              rw [hlp] at HLC
              rw [if_pos ⟨h0, hlp⟩] at hA
              refine wp_region_held_drew (S := (fun w'' : World => w''.cell? ⟨E, 2, none⟩ = some (.int .i64 tgt) ∧ w''.cell? ⟨E, 1, none⟩ = some (.int .i64 (X.node : Int)))) (by kernel_rfl) ?_ (fun hHeld => ?_)
              · exact ⟨d2, d1⟩
              refine wpAnyH_take (i := 0) (v := ?va0) rfl (by kernel_rfl) (by kernel_rfl) (by kernel_rfl) (fun _ _ _ h => h) (Or.inl ⟨by kernel_rfl, ?hya0⟩) (by assumption) ?resta0
              case hya0 => intro wS hSw; (try dsimp only at hSw); (try obtain ⟨hSw, hSw2⟩ := hSw); first | (go_simp; done) | (go_simp; with_reducible rfl) | with_reducible rfl
              (try simp only [List.getElem_toArray, List.getElem_cons_zero]); (try dsimp only); (try go_frame)
              refine wpAnyH_take (i := 1) (v := ?va1) rfl (by kernel_rfl) (by kernel_rfl) (by kernel_rfl) (fun _ _ _ h => h) (Or.inl ⟨by kernel_rfl, ?hya1⟩) (by assumption) ?resta1
              case hya1 => intro wS hSw; (try dsimp only at hSw); (try obtain ⟨hSw, hSw2⟩ := hSw); first | (go_simp; done) | (go_simp; with_reducible rfl) | with_reducible rfl
              (try simp only [List.getElem_toArray, List.getElem_cons_succ, List.getElem_cons_zero]); (try dsimp only); (try go_frame)
              refine wpAnyH_take (i := 2) (v := ?va2) rfl (by kernel_rfl) (by kernel_rfl) (by kernel_rfl) (fun _ _ _ h => h) (Or.inl ⟨by kernel_rfl, ?hya2⟩) (by assumption) ?resta2
              case hya2 => intro wS hSw; (try dsimp only at hSw); (try obtain ⟨hSw, hSw2⟩ := hSw); first | (go_simp; done) | (go_simp; with_reducible rfl) | with_reducible rfl
              (try simp only [List.getElem_toArray, List.getElem_cons_succ, List.getElem_cons_zero]); (try dsimp only); (try go_frame)
              refine wpAnyH_take (i := 3) (v := ?va3) rfl (by kernel_rfl) (by kernel_rfl) (by kernel_rfl) (fun _ _ _ h => h) (Or.inl ⟨by kernel_rfl, ?hya3⟩) (by assumption) ?resta3
              case hya3 => intro wS hSw; (try dsimp only at hSw); (try obtain ⟨hSw, hSw2⟩ := hSw); first | (go_simp; done) | (go_simp; with_reducible rfl) | with_reducible rfl
              (try simp only [List.getElem_toArray, List.getElem_cons_succ, List.getElem_cons_zero]); (try dsimp only); (try go_frame)
              refine wpAnyH_take (i := 4) (v := ?va4) rfl (by kernel_rfl) (by kernel_rfl) (by kernel_rfl) (fun _ _ _ h => h) (Or.inl ⟨by kernel_rfl, ?hya4⟩) (by assumption) ?resta4
              case hya4 => intro wS hSw; (try dsimp only at hSw); (try obtain ⟨hSw, hSw2⟩ := hSw); first | (go_simp; done) | (go_simp; with_reducible rfl) | with_reducible rfl
              (try simp only [List.getElem_toArray, List.getElem_cons_succ, List.getElem_cons_zero]); (try dsimp only); (try go_frame)
              refine wpAnyH_take (i := 5) (v := ?va5) rfl (by kernel_rfl) (by kernel_rfl) (by kernel_rfl) (fun _ _ _ h => h) (Or.inl ⟨by kernel_rfl, ?hya5⟩) (by assumption) ?resta5
              case hya5 => intro wS hSw; (try dsimp only at hSw); (try obtain ⟨hSw, hSw2⟩ := hSw); first | (go_simp; done) | (go_simp; with_reducible rfl) | with_reducible rfl
              (try simp only [List.getElem_toArray, List.getElem_cons_succ, List.getElem_cons_zero]); (try dsimp only); (try go_frame)
              refine wpAnyH_take (i := 6) (v := ?va6) rfl (by kernel_rfl) (by kernel_rfl) (by kernel_rfl) (fun _ _ _ h => h) (Or.inl ⟨by kernel_rfl, ?hya6⟩) (by assumption) ?resta6
              case hya6 => intro wS hSw; (try dsimp only at hSw); (try obtain ⟨hSw, hSw2⟩ := hSw); first | (go_simp; done) | (go_simp; with_reducible rfl) | with_reducible rfl
              (try simp only [List.getElem_toArray, List.getElem_cons_succ, List.getElem_cons_zero]); (try dsimp only); (try go_frame)
              refine wpAnyH_take (i := 8) (v := ?va8) rfl (by kernel_rfl) (by kernel_rfl) (by kernel_rfl) (fun _ _ _ h => h) (Or.inl ⟨by kernel_rfl, ?hya8⟩) (by assumption) ?resta8
              case hya8 => intro wS hSw; (try dsimp only at hSw); (try obtain ⟨hSw, hSw2⟩ := hSw); first | (go_simp; done) | (go_simp; with_reducible rfl) | with_reducible rfl
              (try simp only [List.getElem_toArray, List.getElem_cons_succ, List.getElem_cons_zero]); (try dsimp only); (try go_frame)
              refine wpAnyH_take (i := 9) (v := ?va9) rfl (by kernel_rfl) (by kernel_rfl) (by kernel_rfl) (fun _ _ _ h => h) (Or.inl ⟨by kernel_rfl, ?hya9⟩) (by assumption) ?resta9
              case hya9 => intro wS hSw; (try dsimp only at hSw); (try obtain ⟨hSw, hSw2⟩ := hSw); first | (go_simp; done) | (go_simp; with_reducible rfl) | with_reducible rfl
              (try simp only [List.getElem_toArray, List.getElem_cons_succ, List.getElem_cons_zero]); (try dsimp only); (try go_frame)
              refine wpAnyH_ready (rs := [7]) (by kernel_rfl) (by simp) ?_
              refine AllReadyH.cons rfl (fun K hK => ?_) AllReadyH.nil
              go_simp
              (go_at_call 19; refine (uunder_any X.node ((nodesL T).length + 1) _ _ T _ (HT7.out.under HBD.out) HU.out (by omega) HTZ.out).mono ?_; rintro e w6 ⟨v6, L6, rfl, t1, t2, t3, t5⟩; obtain rfl := t2 X HXX.out rfl; have C5 := qhasz_any t1 tgt; rw [HLC.out] at C5; obtain ⟨p6, n6, c6, rfl⟩ : ∃ p n c, v6 = .slice p n c := (by obtain ⟨p, c, e, _⟩ := t1.at; exact ⟨p, _, c, e⟩); have HBE : Hid (Below W7.heap.size W7 w6) := HBD.out.trans (t5.mono HBD.out.size); clear t1 t2 t3 t5; obtain ⟨d0, d1, d2, d3, d4, d5, d6, d7, d8, d9, d10, d11, e0, q0, q1, f0, f1⟩ := KE.out _ HBE.out)
              go_wp2_with fail
              clear hHeld
              refine hK.out _ _ ?_ (fun hHeld => ?_)
              · exact ⟨d2, d1⟩
              clear hK K
              (try simp only [List.getElem_toArray, List.getElem_cons_succ, List.getElem_cons_zero]); (try dsimp only); (try go_frame)
              refine wpAnyH_ready (rs := [10]) (by kernel_rfl) (by simp) ?_
              refine AllReadyH.cons rfl (fun K hK => ?_) AllReadyH.nil
              go_simp
              (go_at_call 18; refine C5.mono ?_; clear C5; rintro e w7 ⟨rfl, hww⟩; subst hww)
              go_wp2_with fail
              clear hHeld
              refine hK.out _ _ ?_ (fun hHeld => ?_)
              · exact ⟨d2, d1⟩
              clear hK K
              (try simp only [List.getElem_toArray, List.getElem_cons_succ, List.getElem_cons_zero]); (try dsimp only); (try go_frame)
              refine wpAnyH_take (i := 11) (v := ?va11) rfl (by kernel_rfl) (by kernel_rfl) (by kernel_rfl) (fun _ _ _ h => h) (Or.inl ⟨by kernel_rfl, ?hya11⟩) (by assumption) ?resta11
              case hya11 => intro wS hSw; (try dsimp only at hSw); (try obtain ⟨hSw, hSw2⟩ := hSw); first | (go_simp; done) | (go_simp; with_reducible rfl) | with_reducible rfl
              (try simp only [List.getElem_toArray, List.getElem_cons_succ, List.getElem_cons_zero]); (try dsimp only); (try go_frame)
              refine wpAnyH_done (by kernel_rfl) ?_ _
              clear HBC HBD
              have HBC : Hid (Below W7.heap.size W7 w7) := HBE.out
              clear HBE
              go_wp2_with (go_at_call 15; refine (ubad_any 9 j I e0).mono ?_; rintro e w6 ⟨rfl, hb6⟩; have HB6 : Hid (Below W7.heap.size W7 w6) := HBC.out.trans (hb6.mono HBC.out.size); clear hb6 d0 d1 d2 d3 d4 d5 d6 d7 d8 d9 d10 d11 e0 q0 q1 f0 f1; obtain ⟨d0, d1, d2, d3, d4, d5, d6, d7, d8, d9, d10, d11, e0, q0, q1, f0, f1⟩ := KE.out _ HB6.out)
              refine bodyPost_ret (v := .tuple #[.slice none 0 0, .agg #[.int .i64 9, .int .i64 (j : Int)]]) (by simp [results, Try.results7, go_sem, q0, q1]) rfl ⟨?_, ?_⟩
              · rw [HME.out 9 hA]
                exact rfl
              · exact ((HB7.out.trans (HB6.out.mono HB7.out.size)).setCell (p := ⟨w.heap.size, 0, none⟩) (Nat.le_refl _) _).setCell (p := ⟨w.heap.size, 1, none⟩) (Nat.le_refl _) _
            | false =>
              rw [hlp] at HLC
              rw [if_neg (fun h => by rw [hlp] at h; cases h.2)] at hA
              refine wp_region_held_drew (S := (fun w'' : World => w''.cell? ⟨E, 2, none⟩ = some (.int .i64 tgt) ∧ w''.cell? ⟨E, 1, none⟩ = some (.int .i64 (X.node : Int)))) (by kernel_rfl) ?_ (fun hHeld => ?_)
              · exact ⟨d2, d1⟩
              refine wpAnyH_take (i := 0) (v := ?vb0) rfl (by kernel_rfl) (by kernel_rfl) (by kernel_rfl) (fun _ _ _ h => h) (Or.inl ⟨by kernel_rfl, ?hyb0⟩) (by assumption) ?restb0
              case hyb0 => intro wS hSw; (try dsimp only at hSw); (try obtain ⟨hSw, hSw2⟩ := hSw); first | (go_simp; done) | (go_simp; with_reducible rfl) | with_reducible rfl
              (try simp only [List.getElem_toArray, List.getElem_cons_zero]); (try dsimp only); (try go_frame)
              refine wpAnyH_take (i := 1) (v := ?vb1) rfl (by kernel_rfl) (by kernel_rfl) (by kernel_rfl) (fun _ _ _ h => h) (Or.inl ⟨by kernel_rfl, ?hyb1⟩) (by assumption) ?restb1
              case hyb1 => intro wS hSw; (try dsimp only at hSw); (try obtain ⟨hSw, hSw2⟩ := hSw); first | (go_simp; done) | (go_simp; with_reducible rfl) | with_reducible rfl
              (try simp only [List.getElem_toArray, List.getElem_cons_succ, List.getElem_cons_zero]); (try dsimp only); (try go_frame)
              refine wpAnyH_take (i := 2) (v := ?vb2) rfl (by kernel_rfl) (by kernel_rfl) (by kernel_rfl) (fun _ _ _ h => h) (Or.inl ⟨by kernel_rfl, ?hyb2⟩) (by assumption) ?restb2
              case hyb2 => intro wS hSw; (try dsimp only at hSw); (try obtain ⟨hSw, hSw2⟩ := hSw); first | (go_simp; done) | (go_simp; with_reducible rfl) | with_reducible rfl
              (try simp only [List.getElem_toArray, List.getElem_cons_succ, List.getElem_cons_zero]); (try dsimp only); (try go_frame)
              refine wpAnyH_take (i := 3) (v := ?vb3) rfl (by kernel_rfl) (by kernel_rfl) (by kernel_rfl) (fun _ _ _ h => h) (Or.inl ⟨by kernel_rfl, ?hyb3⟩) (by assumption) ?restb3
              case hyb3 => intro wS hSw; (try dsimp only at hSw); (try obtain ⟨hSw, hSw2⟩ := hSw); first | (go_simp; done) | (go_simp; with_reducible rfl) | with_reducible rfl
              (try simp only [List.getElem_toArray, List.getElem_cons_succ, List.getElem_cons_zero]); (try dsimp only); (try go_frame)
              refine wpAnyH_take (i := 4) (v := ?vb4) rfl (by kernel_rfl) (by kernel_rfl) (by kernel_rfl) (fun _ _ _ h => h) (Or.inl ⟨by kernel_rfl, ?hyb4⟩) (by assumption) ?restb4
              case hyb4 => intro wS hSw; (try dsimp only at hSw); (try obtain ⟨hSw, hSw2⟩ := hSw); first | (go_simp; done) | (go_simp; with_reducible rfl) | with_reducible rfl
              (try simp only [List.getElem_toArray, List.getElem_cons_succ, List.getElem_cons_zero]); (try dsimp only); (try go_frame)
              refine wpAnyH_take (i := 5) (v := ?vb5) rfl (by kernel_rfl) (by kernel_rfl) (by kernel_rfl) (fun _ _ _ h => h) (Or.inl ⟨by kernel_rfl, ?hyb5⟩) (by assumption) ?restb5
              case hyb5 => intro wS hSw; (try dsimp only at hSw); (try obtain ⟨hSw, hSw2⟩ := hSw); first | (go_simp; done) | (go_simp; with_reducible rfl) | with_reducible rfl
              (try simp only [List.getElem_toArray, List.getElem_cons_succ, List.getElem_cons_zero]); (try dsimp only); (try go_frame)
              refine wpAnyH_take (i := 6) (v := ?vb6) rfl (by kernel_rfl) (by kernel_rfl) (by kernel_rfl) (fun _ _ _ h => h) (Or.inl ⟨by kernel_rfl, ?hyb6⟩) (by assumption) ?restb6
              case hyb6 => intro wS hSw; (try dsimp only at hSw); (try obtain ⟨hSw, hSw2⟩ := hSw); first | (go_simp; done) | (go_simp; with_reducible rfl) | with_reducible rfl
              (try simp only [List.getElem_toArray, List.getElem_cons_succ, List.getElem_cons_zero]); (try dsimp only); (try go_frame)
              refine wpAnyH_take (i := 8) (v := ?vb8) rfl (by kernel_rfl) (by kernel_rfl) (by kernel_rfl) (fun _ _ _ h => h) (Or.inl ⟨by kernel_rfl, ?hyb8⟩) (by assumption) ?restb8
              case hyb8 => intro wS hSw; (try dsimp only at hSw); (try obtain ⟨hSw, hSw2⟩ := hSw); first | (go_simp; done) | (go_simp; with_reducible rfl) | with_reducible rfl
              (try simp only [List.getElem_toArray, List.getElem_cons_succ, List.getElem_cons_zero]); (try dsimp only); (try go_frame)
              refine wpAnyH_take (i := 9) (v := ?vb9) rfl (by kernel_rfl) (by kernel_rfl) (by kernel_rfl) (fun _ _ _ h => h) (Or.inl ⟨by kernel_rfl, ?hyb9⟩) (by assumption) ?restb9
              case hyb9 => intro wS hSw; (try dsimp only at hSw); (try obtain ⟨hSw, hSw2⟩ := hSw); first | (go_simp; done) | (go_simp; with_reducible rfl) | with_reducible rfl
              (try simp only [List.getElem_toArray, List.getElem_cons_succ, List.getElem_cons_zero]); (try dsimp only); (try go_frame)
              refine wpAnyH_ready (rs := [7]) (by kernel_rfl) (by simp) ?_
              refine AllReadyH.cons rfl (fun K hK => ?_) AllReadyH.nil
              go_simp
              (go_at_call 19; refine (uunder_any X.node ((nodesL T).length + 1) _ _ T _ (HT7.out.under HBD.out) HU.out (by omega) HTZ.out).mono ?_; rintro e w6 ⟨v6, L6, rfl, t1, t2, t3, t5⟩; obtain rfl := t2 X HXX.out rfl; have C5 := qhasz_any t1 tgt; rw [HLC.out] at C5; obtain ⟨p6, n6, c6, rfl⟩ : ∃ p n c, v6 = .slice p n c := (by obtain ⟨p, c, e, _⟩ := t1.at; exact ⟨p, _, c, e⟩); have HBE : Hid (Below W7.heap.size W7 w6) := HBD.out.trans (t5.mono HBD.out.size); clear t1 t2 t3 t5; obtain ⟨d0, d1, d2, d3, d4, d5, d6, d7, d8, d9, d10, d11, e0, q0, q1, f0, f1⟩ := KE.out _ HBE.out)
              go_wp2_with fail
              clear hHeld
              refine hK.out _ _ ?_ (fun hHeld => ?_)
              · exact ⟨d2, d1⟩
              clear hK K
              (try simp only [List.getElem_toArray, List.getElem_cons_succ, List.getElem_cons_zero]); (try dsimp only); (try go_frame)
              refine wpAnyH_ready (rs := [10]) (by kernel_rfl) (by simp) ?_
              refine AllReadyH.cons rfl (fun K hK => ?_) AllReadyH.nil
              go_simp
              (go_at_call 18; refine C5.mono ?_; clear C5; rintro e w7 ⟨rfl, hww⟩; subst hww)
              go_wp2_with fail
              clear hHeld
              refine hK.out _ _ ?_ (fun hHeld => ?_)
              · exact ⟨d2, d1⟩
              clear hK K
              (try simp only [List.getElem_toArray, List.getElem_cons_succ, List.getElem_cons_zero]); (try dsimp only); (try go_frame)
              refine wpAnyH_take (i := 11) (v := ?vb11) rfl (by kernel_rfl) (by kernel_rfl) (by kernel_rfl) (fun _ _ _ h => h) (Or.inl ⟨by kernel_rfl, ?hyb11⟩) (by assumption) ?restb11
              case hyb11 => intro wS hSw; (try dsimp only at hSw); (try obtain ⟨hSw, hSw2⟩ := hSw); first | (go_simp; done) | (go_simp; with_reducible rfl) | with_reducible rfl
              (try simp only [List.getElem_toArray, List.getElem_cons_succ, List.getElem_cons_zero]); (try dsimp only); (try go_frame)
              refine wpAnyH_done (by kernel_rfl) ?_ _
              clear HBC HBD
              have HBC : Hid (Below W7.heap.size W7 w7) := HBE.out
              clear HBE
              have C2 := uhas_any (HT7.out.under HBC.out) HTZ.out tgt
              cases h2 : hasI T tgt with
              | false =>
                rw [h2] at C2
                rw [if_pos ⟨h0, h2⟩] at hA
                have HBC5 : Hid (Below W7.heap.size W7 w7) := HBC.out
                clear HBC
                go_upto_region 26 with (go_at_call 16; refine C2.mono ?_; clear C2; rintro e w8 ⟨rfl, hb⟩; have HBC : Hid (Below W7.heap.size W7 w8) := HBC5.out.trans (hb.mono HBC5.out.size); clear hb d0 d1 d2 d3 d4 d5 d6 d7 d8 d9 d10 d11 e0 q0 q1 f0 f1; obtain ⟨d0, d1, d2, d3, d4, d5, d6, d7, d8, d9, d10, d11, e0, q0, q1, f0, f1⟩ := KE.out _ HBC.out)
                clear HBC5
                have HBC5 : Hid (Below W7.heap.size W7 w8) := HBC.out
                go_wp2_with (go_at_call 15; refine (ubad_any 6 j I e0).mono ?_; rintro e w9 ⟨rfl, hb6⟩; have HB6 : Hid (Below W7.heap.size W7 w9) := HBC.out.trans (hb6.mono HBC.out.size); clear hb6 d0 d1 d2 d3 d4 d5 d6 d7 d8 d9 d10 d11 e0 q0 q1 f0 f1; obtain ⟨d0, d1, d2, d3, d4, d5, d6, d7, d8, d9, d10, d11, e0, q0, q1, f0, f1⟩ := KE.out _ HB6.out)
                refine bodyPost_ret (v := .tuple #[.slice none 0 0, .agg #[.int .i64 6, .int .i64 (j : Int)]]) (by simp [results, Try.results7, go_sem, q0, q1]) rfl ⟨?_, ?_⟩
                · rw [HME.out 6 hA]
                  exact rfl
                · exact ((HB7.out.trans (HB6.out.mono HB7.out.size)).setCell (p := ⟨w.heap.size, 0, none⟩) (Nat.le_refl _) _).setCell (p := ⟨w.heap.size, 1, none⟩) (Nat.le_refl _) _
              | true =>
                rw [h2] at C2
                rw [if_neg (fun h => by rw [h2] at h; cases h.2)] at hA
                have hT2 : ¬ (0 ≤ tgt ∧ hasI (rmL X.node T) tgt = false) := fun h => by
                  have h9 := rm_here HU.out HXX.out h2 (fun hm => by rw [List.contains_iff_mem.mpr hm] at hlp; cases hlp)
                  rw [h9] at h
                  cases h.2
                have HBC0 : Hid (Below W7.heap.size W7 w7) := HBC.out
                clear HBC hlp
                go_upto_region 27 with (go_at_call 16; refine C2.mono ?_; clear C2; rintro e w5' ⟨rfl, hb⟩; have HBC : Hid (Below W7.heap.size W7 w5') := HBC0.out.trans (hb.mono HBC0.out.size); clear hb d0 d1 d2 d3 d4 d5 d6 d7 d8 d9 d10 d11 e0 q0 q1 f0 f1; obtain ⟨d0, d1, d2, d3, d4, d5, d6, d7, d8, d9, d10, d11, e0, q0, q1, f0, f1⟩ := KE.out _ HBC.out)
                clear HBC0
                have CC := uCut_any X.node (HT7.out.under HBC.out) HU.out (by have := HTZ.out; omega)
                unfold itA at CC
                have HBC5 : Hid _ := HBC
                clear HBC
                go_upto_region 28 with (go_at_call 20; refine CC.mono ?_; clear CC; rintro e wc6 ⟨v6, X6, kx6, rfl, t1, t2, t3, t4, t5⟩; obtain ⟨p6, n6, c6, rfl⟩ : ∃ p n c, v6 = .slice p n c := (by obtain ⟨p, c, e⟩ := t1.shape; exact ⟨p, _, c, e⟩); obtain ⟨p7, n7, c7, rfl⟩ : ∃ p n c, kx6 = .slice p n c := (by obtain ⟨p, c, e⟩ := t2.shape; exact ⟨p, _, c, e⟩); have hX6 : X = X6 := (by have h9 := t3 (node_inL HXX.out); exact (unlike_one HU.out h9.1 HXX.out h9.2).symm); subst hX6; have HBC6 : Hid (Below W7.heap.size W7 wc6) := HBC5.out.trans (t5.mono HBC5.out.size); have HT1 : Hid (RdI wc6 (fun g => g ≠ w.heap.size) (.slice p6 n6 c6) (rmL X.node T)) := t1.any (fun g hg _ => by rcases hg with hg | hg; exact hg.1; have := HZ7.out; have := HBC5.out.size; omega); have HT2 : Hid (RdI wc6 (fun g => g ≠ w.heap.size) (.slice p7 n7 c7) X.kids) := t2.any (fun g hg _ => by rcases hg with hg | hg; exact hg.1; have := HZ7.out; have := HBC5.out.size; omega); clear t1 t2 t3 t4 t5 d0 d1 d2 d3 d4 d5 d6 d7 d8 d9 d10 d11 e0 q0 q1 f0 f1; obtain ⟨d0, d1, d2, d3, d4, d5, d6, d7, d8, d9, d10, d11, e0, q0, q1, f0, f1⟩ := KE.out _ HBC6.out)
                have BX := box8_new wc6 (.int .i64 (X.node : Int)) (.int .i64 X.role) (.string X.name) (.string X.about) (.int .i64 X.level) (.int .i64 X.checked) (.bool X.off) (.slice p7 n7 c7) 26
                have B6 : Below wc6.heap.size wc6 (wc6.alloc (.cells #[.int .i64 (X.node : Int), .int .i64 X.role, .string X.name, .string X.about, .int .i64 X.level, .int .i64 X.checked, .bool X.off, .slice p7 n7 c7] 26)) := (Below.refl _ _).alloc (Nat.le_refl _) _
                generalize (wc6.alloc (.cells #[.int .i64 (X.node : Int), .int .i64 X.role, .string X.name, .string X.about, .int .i64 X.level, .int .i64 X.checked, .bool X.off, .slice p7 n7 c7] 26)) = w7 at *
                have HBC7 : Hid (Below W7.heap.size W7 w7) := HBC6.out.trans (B6.mono HBC6.out.size)
                clear d0 d1 d2 d3 d4 d5 d6 d7 d8 d9 d10 d11 e0 q0 q1 f0 f1
                obtain ⟨d0, d1, d2, d3, d4, d5, d6, d7, d8, d9, d10, d11, e0, q0, q1, f0, f1⟩ := KE.out _ HBC7.out
                obtain ⟨a0, a1, a2, a3, a4, a5, a6, a7⟩ := BX
                have CP := upasteP X (.slice p7 n7 c7) tgt at_ _ (HT1.out.under B6) (HT2.out.under B6) (rm_unlike HU.out) (by have := HTZ.out; have := ((rm_sub X.node).2 T).length_le; omega) hT2 rfl
                unfold itA at CP
                clear B6
                cases hr : decide (0 ≤ at_ ∧ at_ ≤ ((kidsAt (rmL X.node T) (toP tgt)).length : Int)) with
                | false =>
                  rw [hr] at CP
                  rw [if_pos (by have := of_decide_eq_false hr; omega)] at hA
                  go_upto_region 30 with (go_at_call 17; refine CP.mono ?_; clear CP; rintro e w8 ⟨v8, rfl, t1, t5⟩; have HBC : Hid (Below W7.heap.size W7 w8) := HBC7.out.trans (t5.mono HBC7.out.size); clear t1 t5 d0 d1 d2 d3 d4 d5 d6 d7 d8 d9 d10 d11 e0 q0 q1 f0 f1; obtain ⟨d0, d1, d2, d3, d4, d5, d6, d7, d8, d9, d10, d11, e0, q0, q1, f0, f1⟩ := KE.out _ HBC.out)
                  go_wp2_with (go_at_call 15; refine (ubad_any 3 j I e0).mono ?_; rintro e wc6 ⟨rfl, hb6⟩; have HB6 : Hid (Below W7.heap.size W7 wc6) := HBC.out.trans (hb6.mono HBC.out.size); clear hb6 d0 d1 d2 d3 d4 d5 d6 d7 d8 d9 d10 d11 e0 q0 q1 f0 f1; obtain ⟨d0, d1, d2, d3, d4, d5, d6, d7, d8, d9, d10, d11, e0, q0, q1, f0, f1⟩ := KE.out _ HB6.out)
                  refine bodyPost_ret (v := .tuple #[.slice none 0 0, .agg #[.int .i64 3, .int .i64 (j : Int)]]) (by simp [results, Try.results7, go_sem, q0, q1]) rfl ⟨?_, ?_⟩
                  · rw [HME.out 3 hA]
                    exact rfl
                  · exact ((HB7.out.trans (HB6.out.mono HB7.out.size)).setCell (p := ⟨w.heap.size, 0, none⟩) (Nat.le_refl _) _).setCell (p := ⟨w.heap.size, 1, none⟩) (Nat.le_refl _) _
                | true =>
                  rw [hr] at CP
                  rw [if_neg (by have := of_decide_eq_true hr; omega)] at hA
                  have HBC8 : Hid _ := HBC7
                  go_wp2_with (go_at_call 17; refine CP.mono ?_; clear CP; rintro e w8 ⟨v8, rfl, t1, t5⟩; have t2 := t1 rfl; obtain ⟨p8, n8, c8, rfl⟩ : ∃ p n c, v8 = .slice p n c := (by obtain ⟨p, c, e⟩ := t2.shape; exact ⟨p, _, c, e⟩); have HBC : Hid (Below W7.heap.size W7 w8) := HBC7.out.trans (t5.mono HBC7.out.size); have HRD : Hid (RdI w8 (fun g => g ≠ w.heap.size) (.slice p8 n8 c8) (movP X (toP tgt) at_.toNat T)) := t2.any (fun g hg _ => by rcases hg with hg | hg; exact hg.1; have := HZ7.out; have := HBC7.out.size; omega); clear t1 t2 t5 d0 d1 d2 d3 d4 d5 d6 d7 d8 d9 d10 d11 e0 q0 q1 f0 f1)
                  go_roundw
                  case rel => exact ⟨j + 1, movP X (toP tgt) at_.toNat T, by omega, by go_num, HRD, apply_unlike HU.out H5.out hA, (by show _ ≤ _; exact apply_few (N := 200000 + j) HU.out H5.out hA HFE.out (Nat.le_trans HFJ.out (by omega))), HM.out _ hA, HB7.out.trans (HBC.out.mono HB7.out.size), (HBC.out.block w.heap.size (by have := HZ7.out; omega)).trans HR7.out⟩
                  case measure => simp [intOf]; omega
          · have HBD : Hid (Below W7.heap.size W7 w5.drew) := HBC.out.drew
            rw [if_neg (fun h => h0 h.1), if_neg (fun h => h0 h.1)] at hA
            have hT2 : ¬ (0 ≤ tgt ∧ hasI (rmL X.node T) tgt = false) := fun h => h0 h.1
            have hlt0 : tgt < 0 := by omega
            refine wp_region_held_drew (S := (fun w'' : World => w''.cell? ⟨E, 2, none⟩ = some (.int .i64 tgt) ∧ w''.cell? ⟨E, 1, none⟩ = some (.int .i64 (X.node : Int)))) (by kernel_rfl) ?_ (fun hHeld => ?_)
            · exact ⟨d2, d1⟩
            refine wpAnyH_take (i := 0) (v := ?vc0) rfl (by kernel_rfl) (by kernel_rfl) (by kernel_rfl) (fun _ _ _ h => h) (Or.inl ⟨by kernel_rfl, ?hyc0⟩) (by assumption) ?restc0
            case hyc0 => intro wS hSw; (try dsimp only at hSw); (try obtain ⟨hSw, hSw2⟩ := hSw); first | (go_simp; done) | (go_simp; with_reducible rfl) | with_reducible rfl
            (try simp only [List.getElem_toArray, List.getElem_cons_zero]); (try dsimp only); (try go_frame)
            refine wpAnyH_take (i := 1) (v := ?vc1) rfl (by kernel_rfl) (by kernel_rfl) (by kernel_rfl) (fun _ _ _ h => h) (Or.inl ⟨by kernel_rfl, ?hyc1⟩) (by assumption) ?restc1
            case hyc1 => intro wS hSw; (try dsimp only at hSw); (try obtain ⟨hSw, hSw2⟩ := hSw); first | (go_simp; done) | (go_simp; with_reducible rfl) | with_reducible rfl
            (try simp only [List.getElem_toArray, List.getElem_cons_succ, List.getElem_cons_zero]); (try dsimp only); (try go_frame)
            refine wpAnyH_take (i := 2) (v := ?vc2) rfl (by kernel_rfl) (by kernel_rfl) (by kernel_rfl) (fun _ _ _ h => h) (Or.inl ⟨by kernel_rfl, ?hyc2⟩) (by assumption) ?restc2
            case hyc2 => intro wS hSw; (try dsimp only at hSw); (try obtain ⟨hSw, hSw2⟩ := hSw); first | (go_simp; done) | (go_simp; with_reducible rfl) | with_reducible rfl
            (try simp only [List.getElem_toArray, List.getElem_cons_succ, List.getElem_cons_zero]); (try dsimp only); (try go_frame)
            refine wpAnyH_take (i := 3) (v := ?vc3) rfl (by kernel_rfl) (by kernel_rfl) (by kernel_rfl) (fun _ _ _ h => h) (Or.inl ⟨by kernel_rfl, ?hyc3⟩) (by assumption) ?restc3
            case hyc3 => intro wS hSw; (try dsimp only at hSw); (try obtain ⟨hSw, hSw2⟩ := hSw); first | (go_simp; done) | (go_simp; with_reducible rfl) | with_reducible rfl
            (try simp only [List.getElem_toArray, List.getElem_cons_succ, List.getElem_cons_zero]); (try dsimp only); (try go_frame)
            refine wpAnyH_take (i := 4) (v := undef) rfl (by kernel_rfl) (by kernel_rfl) (by kernel_rfl) (fun _ _ _ h => h) (Or.inr ⟨by kernel_rfl, rfl⟩) (by assumption) ?_
            (try simp only [List.getElem_toArray, List.getElem_cons_succ, List.getElem_cons_zero]); (try dsimp only); (try go_frame)
            refine wpAnyH_take (i := 5) (v := undef) rfl (by kernel_rfl) (by kernel_rfl) (by kernel_rfl) (fun _ _ _ h => h) (Or.inr ⟨by kernel_rfl, rfl⟩) (by assumption) ?_
            (try simp only [List.getElem_toArray, List.getElem_cons_succ, List.getElem_cons_zero]); (try dsimp only); (try go_frame)
            refine wpAnyH_take (i := 6) (v := undef) rfl (by kernel_rfl) (by kernel_rfl) (by kernel_rfl) (fun _ _ _ h => h) (Or.inr ⟨by kernel_rfl, rfl⟩) (by assumption) ?_
            (try simp only [List.getElem_toArray, List.getElem_cons_succ, List.getElem_cons_zero]); (try dsimp only); (try go_frame)
            refine wpAnyH_take (i := 7) (v := undef) rfl (by kernel_rfl) (by kernel_rfl) (by kernel_rfl) (fun _ _ _ h => h) (Or.inr ⟨by kernel_rfl, rfl⟩) (by assumption) ?_
            (try simp only [List.getElem_toArray, List.getElem_cons_succ, List.getElem_cons_zero]); (try dsimp only); (try go_frame)
            refine wpAnyH_take (i := 8) (v := undef) rfl (by kernel_rfl) (by kernel_rfl) (by kernel_rfl) (fun _ _ _ h => h) (Or.inr ⟨by kernel_rfl, rfl⟩) (by assumption) ?_
            (try simp only [List.getElem_toArray, List.getElem_cons_succ, List.getElem_cons_zero]); (try dsimp only); (try go_frame)
            refine wpAnyH_take (i := 9) (v := undef) rfl (by kernel_rfl) (by kernel_rfl) (by kernel_rfl) (fun _ _ _ h => h) (Or.inr ⟨by kernel_rfl, rfl⟩) (by assumption) ?_
            (try simp only [List.getElem_toArray, List.getElem_cons_succ, List.getElem_cons_zero]); (try dsimp only); (try go_frame)
            refine wpAnyH_take (i := 10) (v := undef) rfl (by kernel_rfl) (by kernel_rfl) (by kernel_rfl) (fun _ _ _ h => h) (Or.inr ⟨by kernel_rfl, rfl⟩) (by assumption) ?_
            (try simp only [List.getElem_toArray, List.getElem_cons_succ, List.getElem_cons_zero]); (try dsimp only); (try go_frame)
            refine wpAnyH_take (i := 11) (v := ?vc11) rfl (by kernel_rfl) (by kernel_rfl) (by kernel_rfl) (fun _ _ _ h => h) (Or.inl ⟨by kernel_rfl, ?hyc11⟩) (by assumption) ?restc11
            case hyc11 => intro wS hSw; (try dsimp only at hSw); (try obtain ⟨hSw, hSw2⟩ := hSw); first | (go_simp; done) | (go_simp; with_reducible rfl) | with_reducible rfl
            (try simp only [List.getElem_toArray, List.getElem_cons_succ, List.getElem_cons_zero]); (try dsimp only); (try go_frame)
            refine wpAnyH_done (by kernel_rfl) ?_ _
            clear HBC d0 d1 d2 d3 d4 d5 d6 d7 d8 d9 d10 d11 e0 q0 q1 f0 f1
            have HBC : Hid (Below W7.heap.size W7 w5.drew) := HBD.out
            clear HBD
            generalize w5.drew = wd at *
            obtain ⟨d0, d1, d2, d3, d4, d5, d6, d7, d8, d9, d10, d11, e0, q0, q1, f0, f1⟩ := KE.out _ HBC.out
            go_upto_region 27 with fail
            have CC := uCut_any X.node (HT7.out.under HBC.out) HU.out (by have := HTZ.out; omega)
            unfold itA at CC
            have HBC5 : Hid _ := HBC
            clear HBC
            go_upto_region 28 with (go_at_call 20; refine CC.mono ?_; clear CC; rintro e w6 ⟨v6, X6, kx6, rfl, t1, t2, t3, t4, t5⟩; obtain ⟨p6, n6, c6, rfl⟩ : ∃ p n c, v6 = .slice p n c := (by obtain ⟨p, c, e⟩ := t1.shape; exact ⟨p, _, c, e⟩); obtain ⟨p7, n7, c7, rfl⟩ : ∃ p n c, kx6 = .slice p n c := (by obtain ⟨p, c, e⟩ := t2.shape; exact ⟨p, _, c, e⟩); have hX6 : X = X6 := (by have h9 := t3 (node_inL HXX.out); exact (unlike_one HU.out h9.1 HXX.out h9.2).symm); subst hX6; have HBC6 : Hid (Below W7.heap.size W7 w6) := HBC5.out.trans (t5.mono HBC5.out.size); have HT1 : Hid (RdI w6 (fun g => g ≠ w.heap.size) (.slice p6 n6 c6) (rmL X.node T)) := t1.any (fun g hg _ => by rcases hg with hg | hg; exact hg.1; have := HZ7.out; have := HBC5.out.size; omega); have HT2 : Hid (RdI w6 (fun g => g ≠ w.heap.size) (.slice p7 n7 c7) X.kids) := t2.any (fun g hg _ => by rcases hg with hg | hg; exact hg.1; have := HZ7.out; have := HBC5.out.size; omega); clear t1 t2 t3 t4 t5 d0 d1 d2 d3 d4 d5 d6 d7 d8 d9 d10 d11 e0 q0 q1 f0 f1; obtain ⟨d0, d1, d2, d3, d4, d5, d6, d7, d8, d9, d10, d11, e0, q0, q1, f0, f1⟩ := KE.out _ HBC6.out)
            have BX := box8_new w6 (.int .i64 (X.node : Int)) (.int .i64 X.role) (.string X.name) (.string X.about) (.int .i64 X.level) (.int .i64 X.checked) (.bool X.off) (.slice p7 n7 c7) 26
            have B6 : Below w6.heap.size w6 (w6.alloc (.cells #[.int .i64 (X.node : Int), .int .i64 X.role, .string X.name, .string X.about, .int .i64 X.level, .int .i64 X.checked, .bool X.off, .slice p7 n7 c7] 26)) := (Below.refl _ _).alloc (Nat.le_refl _) _
            generalize (w6.alloc (.cells #[.int .i64 (X.node : Int), .int .i64 X.role, .string X.name, .string X.about, .int .i64 X.level, .int .i64 X.checked, .bool X.off, .slice p7 n7 c7] 26)) = w7 at *
            have HBC7 : Hid (Below W7.heap.size W7 w7) := HBC6.out.trans (B6.mono HBC6.out.size)
            clear d0 d1 d2 d3 d4 d5 d6 d7 d8 d9 d10 d11 e0 q0 q1 f0 f1
            obtain ⟨d0, d1, d2, d3, d4, d5, d6, d7, d8, d9, d10, d11, e0, q0, q1, f0, f1⟩ := KE.out _ HBC7.out
            obtain ⟨a0, a1, a2, a3, a4, a5, a6, a7⟩ := BX
            have CP := upasteP X (.slice p7 n7 c7) tgt at_ _ (HT1.out.under B6) (HT2.out.under B6) (rm_unlike HU.out) (by have := HTZ.out; have := ((rm_sub X.node).2 T).length_le; omega) hT2 rfl
            unfold itA at CP
            clear B6
            cases hr : decide (0 ≤ at_ ∧ at_ ≤ ((kidsAt (rmL X.node T) (toP tgt)).length : Int)) with
            | false =>
              rw [hr] at CP
              rw [if_pos (by have := of_decide_eq_false hr; omega)] at hA
              go_upto_region 30 with (go_at_call 17; refine CP.mono ?_; clear CP; rintro e w8 ⟨v8, rfl, t1, t5⟩; have HBC : Hid (Below W7.heap.size W7 w8) := HBC7.out.trans (t5.mono HBC7.out.size); clear t1 t5 d0 d1 d2 d3 d4 d5 d6 d7 d8 d9 d10 d11 e0 q0 q1 f0 f1; obtain ⟨d0, d1, d2, d3, d4, d5, d6, d7, d8, d9, d10, d11, e0, q0, q1, f0, f1⟩ := KE.out _ HBC.out)
              go_wp2_with (go_at_call 15; refine (ubad_any 3 j I e0).mono ?_; rintro e w6 ⟨rfl, hb6⟩; have HB6 : Hid (Below W7.heap.size W7 w6) := HBC.out.trans (hb6.mono HBC.out.size); clear hb6 d0 d1 d2 d3 d4 d5 d6 d7 d8 d9 d10 d11 e0 q0 q1 f0 f1; obtain ⟨d0, d1, d2, d3, d4, d5, d6, d7, d8, d9, d10, d11, e0, q0, q1, f0, f1⟩ := KE.out _ HB6.out)
              refine bodyPost_ret (v := .tuple #[.slice none 0 0, .agg #[.int .i64 3, .int .i64 (j : Int)]]) (by simp [results, Try.results7, go_sem, q0, q1]) rfl ⟨?_, ?_⟩
              · rw [HME.out 3 hA]
                exact rfl
              · exact ((HB7.out.trans (HB6.out.mono HB7.out.size)).setCell (p := ⟨w.heap.size, 0, none⟩) (Nat.le_refl _) _).setCell (p := ⟨w.heap.size, 1, none⟩) (Nat.le_refl _) _
            | true =>
              rw [hr] at CP
              rw [if_neg (by have := of_decide_eq_true hr; omega)] at hA
              have HBC8 : Hid _ := HBC7
              go_wp2_with (go_at_call 17; refine CP.mono ?_; clear CP; rintro e w8 ⟨v8, rfl, t1, t5⟩; have t2 := t1 rfl; obtain ⟨p8, n8, c8, rfl⟩ : ∃ p n c, v8 = .slice p n c := (by obtain ⟨p, c, e⟩ := t2.shape; exact ⟨p, _, c, e⟩); have HBC : Hid (Below W7.heap.size W7 w8) := HBC7.out.trans (t5.mono HBC7.out.size); have HRD : Hid (RdI w8 (fun g => g ≠ w.heap.size) (.slice p8 n8 c8) (movP X (toP tgt) at_.toNat T)) := t2.any (fun g hg _ => by rcases hg with hg | hg; exact hg.1; have := HZ7.out; have := HBC7.out.size; omega); clear t1 t2 t5 d0 d1 d2 d3 d4 d5 d6 d7 d8 d9 d10 d11 e0 q0 q1 f0 f1)
              go_roundw
              case rel => exact ⟨j + 1, movP X (toP tgt) at_.toNat T, by omega, by go_num, HRD, apply_unlike HU.out H5.out hA, (by show _ ≤ _; exact apply_few (N := 200000 + j) HU.out H5.out hA HFE.out (Nat.le_trans HFJ.out (by omega))), HM.out _ hA, HB7.out.trans (HBC.out.mono HB7.out.size), (HBC.out.block w.heap.size (by have := HZ7.out; omega)).trans HR7.out⟩
              case measure => simp [intOf]; omega
      by_cases k4 : kind = 4
      · subst kind
        have HA : Hid (∀ b, hasI T (n : Int) = b → applyM T ⟨4, (n : Int), tgt, at_, item⟩ = if b = false then .error 6 else if z ≠ (n : Int) ∨ item.kids.isEmpty = false then .error 8 else .ok (telL n item T)) := fun b h => by rw [app4' _ _ _ _ _ z (HZ4.out rfl), h]
        have HZ4' : Hid (z = (n : Int) → item.node = n) := (HZ4.out rfl).mp
        clear HZ4
        go_upto_region 34 with fail
        have C := uhas_any HT7.out HTZ.out (n : Int)
        cases hh : hasI T (n : Int) with
        | false =>
          rw [hh] at C
          have hA := HA.out false hh
          rw [if_pos rfl] at hA
          go_upto_region 35 with (go_at_call 16; refine C.mono ?_; clear C; rintro e w5 ⟨rfl, hb⟩; have HBC : Hid (Below W7.heap.size W7 w5) := hb; clear hb d0 d1 d2 d3 d4 d5 d6 d7 d8 d9 d10 d11 e0 q0 q1 f0 f1; obtain ⟨d0, d1, d2, d3, d4, d5, d6, d7, d8, d9, d10, d11, e0, q0, q1, f0, f1⟩ := KE.out _ HBC.out)
          go_wp2_with (go_at_call 15; refine (ubad_any 6 j I e0).mono ?_; rintro e w6 ⟨rfl, hb6⟩; have HB6 : Hid (Below W7.heap.size W7 w6) := HBC.out.trans (hb6.mono HBC.out.size); clear hb6 d0 d1 d2 d3 d4 d5 d6 d7 d8 d9 d10 d11 e0 q0 q1 f0 f1; obtain ⟨d0, d1, d2, d3, d4, d5, d6, d7, d8, d9, d10, d11, e0, q0, q1, f0, f1⟩ := KE.out _ HB6.out)
          refine bodyPost_ret (v := .tuple #[.slice none 0 0, .agg #[.int .i64 6, .int .i64 (j : Int)]]) (by simp [results, Try.results7, go_sem, q0, q1]) rfl ⟨?_, ?_⟩
          · rw [HME.out 6 hA]
            exact rfl
          · exact ((HB7.out.trans (HB6.out.mono HB7.out.size)).setCell (p := ⟨w.heap.size, 0, none⟩) (Nat.le_refl _) _).setCell (p := ⟨w.heap.size, 1, none⟩) (Nat.le_refl _) _
        | true =>
          rw [hh] at C
          have hA := HA.out true hh
          rw [if_neg (by decide)] at hA
          go_upto_region 38 with (go_at_call 16; refine C.mono ?_; clear C; rintro e w5 ⟨rfl, hb⟩; have HBC : Hid (Below W7.heap.size W7 w5) := hb; clear hb d0 d1 d2 d3 d4 d5 d6 d7 d8 d9 d10 d11 e0 q0 q1 f0 f1; obtain ⟨d0, d1, d2, d3, d4, d5, d6, d7, d8, d9, d10, d11, e0, q0, q1, f0, f1⟩ := KE.out _ HBC.out)
          by_cases hz : z = (n : Int)
          · have hin : item.node = n := HZ4'.out hz
            clear HZ4'
            subst z
            by_cases hk : kn = 0
            · have hke : item.kids = [] := HKE.out hk
              clear HKE HKP
              subst kn
              rw [if_neg (by rw [hke]; simp)] at hA
              have CC := utell_any n item pk 0 ck _ _ _ T _ (HT7.out.under HBC.out) (Nat.le_refl _) (by have := HTZ.out; omega)
              rw [hin] at CC
              have HBC5 : Hid (Below W7.heap.size W7 w5) := HBC.out
              clear HBC hin hke hh
              go_wp2_with (go_at_call 21; refine CC.mono ?_; clear CC; rintro e w6 ⟨v6, rfl, t1, t5⟩; obtain ⟨p6, n6, c6, rfl⟩ : ∃ p n c, v6 = .slice p n c := (by obtain ⟨p, c, e⟩ := t1.shape; exact ⟨p, _, c, e⟩); have HBC : Hid (Below W7.heap.size W7 w6) := HBC5.out.trans (t5.mono HBC5.out.size); have HRD : Hid (RdI w6 (fun g => g ≠ w.heap.size) (.slice p6 n6 c6) (telL n item T)) := t1.any (fun g hg _ => by rcases hg with hg | hg; exact hg.1; have := HZ7.out; have := HBC5.out.size; omega); clear t1 t5)
              go_roundw
              case rel => exact ⟨j + 1, telL n item T, by omega, by go_num, HRD, apply_unlike HU.out H5.out hA, (by show _ ≤ _; exact apply_few (N := 200000 + j) HU.out H5.out hA HFE.out (Nat.le_trans HFJ.out (by omega))), HM.out _ hA, HB7.out.trans (HBC.out.mono HB7.out.size), (HBC.out.block w.heap.size (by have := HZ7.out; omega)).trans HR7.out⟩
              case measure => simp [intOf]; omega
            · have hkp : 0 < kn := by omega
              have hA2 := hA
              rw [if_pos (Or.inr (HKP.out hk))] at hA2
              clear hA hk
              go_wp2_with (go_at_call 15; refine (ubad_any 8 j I e0).mono ?_; rintro e w6 ⟨rfl, hb6⟩; have HB6 : Hid (Below W7.heap.size W7 w6) := HBC.out.trans (hb6.mono HBC.out.size); clear hb6 d0 d1 d2 d3 d4 d5 d6 d7 d8 d9 d10 d11 e0 q0 q1 f0 f1; obtain ⟨d0, d1, d2, d3, d4, d5, d6, d7, d8, d9, d10, d11, e0, q0, q1, f0, f1⟩ := KE.out _ HB6.out)
              refine bodyPost_ret (v := .tuple #[.slice none 0 0, .agg #[.int .i64 8, .int .i64 (j : Int)]]) (by simp [results, Try.results7, go_sem, q0, q1]) rfl ⟨?_, ?_⟩
              · rw [HME.out 8 hA2]
                exact rfl
              · exact ((HB7.out.trans (HB6.out.mono HB7.out.size)).setCell (p := ⟨w.heap.size, 0, none⟩) (Nat.le_refl _) _).setCell (p := ⟨w.heap.size, 1, none⟩) (Nat.le_refl _) _
          · have hA2 := hA
            rw [if_pos (Or.inl hz)] at hA2
            have hzb : (z != (n : Int)) = true := by rw [bne_iff_ne]; exact hz
            have hzc : (z == (n : Int)) = false := by rw [beq_eq_false_iff_ne]; exact hz
            clear hA
            go_wp2_with (go_at_call 15; refine (ubad_any 8 j I e0).mono ?_; rintro e w6 ⟨rfl, hb6⟩; have HB6 : Hid (Below W7.heap.size W7 w6) := HBC.out.trans (hb6.mono HBC.out.size); clear hb6 d0 d1 d2 d3 d4 d5 d6 d7 d8 d9 d10 d11 e0 q0 q1 f0 f1; obtain ⟨d0, d1, d2, d3, d4, d5, d6, d7, d8, d9, d10, d11, e0, q0, q1, f0, f1⟩ := KE.out _ HB6.out)
            refine bodyPost_ret (v := .tuple #[.slice none 0 0, .agg #[.int .i64 8, .int .i64 (j : Int)]]) (by simp [results, Try.results7, go_sem, q0, q1]) rfl ⟨?_, ?_⟩
            · rw [HME.out 8 hA2]
              exact rfl
            · exact ((HB7.out.trans (HB6.out.mono HB7.out.size)).setCell (p := ⟨w.heap.size, 0, none⟩) (Nat.le_refl _) _).setCell (p := ⟨w.heap.size, 1, none⟩) (Nat.le_refl _) _
      by_cases k5 : kind = 5
      · subst kind
        obtain rfl : z = (item.node : Int) := HZ52.out (Or.inl rfl)
        have HKK : Hid (RdI W7 (fun g => g ≠ w.heap.size) (.slice pk kn ck) item.kids) := HK7.out (Or.inl rfl)
        have hA : applyM T ⟨5, (n : Int), tgt, at_, item⟩ = .ok [item] := app5 _ _ _ _ _
        have HN : Hid (RdI (W7.alloc (.cells #[.int .i64 (item.node : Int), .int .i64 item.role, .string item.name, .string item.about, .int .i64 item.level, .int .i64 item.checked, .bool item.off, .slice pk kn ck] 26)) (fun g => g ≠ w.heap.size) (.slice (some ⟨W7.heap.size, 0, none⟩) 1 1) [item]) := by
          refine rd_row (kvs := [.slice pk kn ck]) (B := W7.heap.size) ?_ rfl (fun b hb => by simp [Value.ownBlock] at hb; have := HZ7.out; omega) (fun j h h' => ?_)
          · exact ⟨rfl, Or.inr ⟨W7.heap.size, 1, (itc (item, .slice pk kn ck)).toArray, rfl, Nat.le_refl _, heap_alloc_new _ _, Nat.le_refl _, by decide, rfl, rfl⟩⟩
          · have hj0 : j = 0 := by simpa using h
            subst hj0
            exact HKK.out.under ((Below.refl _ _).alloc (Nat.le_refl _) _)
        have HBC : Hid (Below W7.heap.size W7 (W7.alloc (.cells #[.int .i64 (item.node : Int), .int .i64 item.role, .string item.name, .string item.about, .int .i64 item.level, .int .i64 item.checked, .bool item.off, .slice pk kn ck] 26))) := (Below.refl _ _).alloc (Nat.le_refl _) _
        go_wp2_with fail
        go_roundw
        case rel => exact ⟨j + 1, [item], by omega, by go_num, HN, apply_unlike HU.out H5.out hA, (by show _ ≤ _; exact apply_few (N := 200000 + j) HU.out H5.out hA HFE.out (Nat.le_trans HFJ.out (by omega))), HM.out _ hA, HB7.out.trans (HBC.out.mono HB7.out.size), (HBC.out.block w.heap.size (by have := HZ7.out; omega)).trans HR7.out⟩
        case measure => simp [intOf]; omega
      · have hA : applyM T ⟨kind, (n : Int), tgt, at_, item⟩ = .error 1 := app_else k1 k2 k3 k4 k5
        have b1 : (kind == 1) = false := by rw [beq_eq_false_iff_ne]; exact k1
        have b2 : (kind == 2) = false := by rw [beq_eq_false_iff_ne]; exact k2
        have b3 : (kind == 3) = false := by rw [beq_eq_false_iff_ne]; exact k3
        have b4 : (kind == 4) = false := by rw [beq_eq_false_iff_ne]; exact k4
        have b5 : (kind == 5) = false := by rw [beq_eq_false_iff_ne]; exact k5
        have HBC : Hid (Below W7.heap.size W7 W7) := Below.refl _ _
        go_wp2_with (go_at_call 15; refine (ubad_any 1 j I e0).mono ?_; rintro e w6 ⟨rfl, hb6⟩; have HB6 : Hid (Below W7.heap.size W7 w6) := HBC.out.trans (hb6.mono HBC.out.size); clear hb6 d0 d1 d2 d3 d4 d5 d6 d7 d8 d9 d10 d11 e0 q0 q1 f0 f1; obtain ⟨d0, d1, d2, d3, d4, d5, d6, d7, d8, d9, d10, d11, e0, q0, q1, f0, f1⟩ := KE.out _ HB6.out)
        refine bodyPost_ret (v := .tuple #[.slice none 0 0, .agg #[.int .i64 1, .int .i64 (j : Int)]]) (by simp [results, Try.results7, go_sem, q0, q1]) rfl ⟨?_, ?_⟩
        · rw [HME.out 1 hA]
          exact rfl
        · exact ((HB7.out.trans (HB6.out.mono HB7.out.size)).setCell (p := ⟨w.heap.size, 0, none⟩) (Nat.le_refl _) _).setCell (p := ⟨w.heap.size, 1, none⟩) (Nat.le_refl _) _
    · obtain rfl : j = ms.length := by omega
      obtain ⟨pt, ct, rfl⟩ := HT.out.shape
      have hR := HRB.out
      have q0 : wr.cell? ⟨w.heap.size, 0, none⟩ = some (.int .i64 0) := by simp [World.cell?, hR]
      have q1 : wr.cell? ⟨w.heap.size, 1, none⟩ = some (.int .i64 0) := by simp [World.cell?, hR]
      have f0 : wr.frozen? ⟨w.heap.size, 0, none⟩ = false := by simp [World.frozen?, hR]
      have f1 : wr.frozen? ⟨w.heap.size, 1, none⟩ = false := by simp [World.frozen?, hR]
      have hrun : Hid (runM 0 l ms = .ok T) := by have := HRN.out; rw [List.take_length] at this; exact this
      clear hR
      go_wp2_with fail
      refine bodyPost_ret (v := .tuple #[.slice pt T.length ct, .agg #[.int .i64 0, .int .i64 0]]) (by simp [results, Try.results7, go_sem, q0, q1]) rfl ⟨?_, ?_⟩
      · rw [hrun.out]
        exact ⟨_, rfl, HT.out.frame (fun g hg _ => ⟨(heap_setCell_other _ _ _ _ hg).trans (heap_setCell_other _ _ _ _ hg), trivial⟩)⟩
      · exact (HB.out.setCell (p := ⟨w.heap.size, 0, none⟩) (Nat.le_refl _) _).setCell (p := ⟨w.heap.size, 1, none⟩) (Nat.le_refl _) _
end Go.Proofs.Ytgpckmolcdafcae
