/-
  OWN WORK: Hpu, Hmc, Hwi, Hfo, Hfi, Hop.
-/
import Derived.Test.YtgpckmolcdafcaeP3
import Derived.Deep.AppendLies
import Derived.Test.YtgpckmolcdafcaeP2
import Derived.Deep.RegionHeld3
/-
  THE WALK of diff's stand: put.
-/
namespace Go.Proofs.Ytgpckmolcdafcae
open Go.RowKit Go.Maps

/-- what is in a box of eight cells -/
def Box8 (N : Nat) (a0 a1 a2 a3 a4 a5 a6 a7 : Value) (w : World) : Prop := w.cell? ⟨N, 0, none⟩ = some a0 ∧ w.cell? ⟨N, 1, none⟩ = some a1 ∧ w.cell? ⟨N, 2, none⟩ = some a2 ∧ w.cell? ⟨N, 3, none⟩ = some a3 ∧ w.cell? ⟨N, 4, none⟩ = some a4 ∧ w.cell? ⟨N, 5, none⟩ = some a5 ∧ w.cell? ⟨N, 6, none⟩ = some a6 ∧ w.cell? ⟨N, 7, none⟩ = some a7
theorem box8_new (w : World) (a0 a1 a2 a3 a4 a5 a6 a7 : Value) (t : Nat) : Box8 w.heap.size a0 a1 a2 a3 a4 a5 a6 a7 (w.alloc (.cells #[a0, a1, a2, a3, a4, a5, a6, a7] t)) := by
  refine ⟨?_, ?_, ?_, ?_, ?_, ?_, ?_, ?_⟩ <;> rw [World.cell?_alloc_new] <;> simp
theorem Box8.keeps {N : Nat} {a0 a1 a2 a3 a4 a5 a6 a7 : Value} {w w' : World} (h : Box8 N a0 a1 a2 a3 a4 a5 a6 a7 w) (k : ∀ i v, w.cell? ⟨N, i, none⟩ = some v → w'.cell? ⟨N, i, none⟩ = some v) : Box8 N a0 a1 a2 a3 a4 a5 a6 a7 w' := by
  obtain ⟨h0, h1, h2, h3, h4, h5, h6, h7⟩ := h
  exact ⟨k _ _ h0, k _ _ h1, k _ _ h2, k _ _ h3, k _ _ h4, k _ _ h5, k _ _ h6, k _ _ h7⟩

set_option maxHeartbeats 3200000 in
set_option maxRecDepth 100000 in
theorem hput_any {w : World} {x : Ax} (h : StAt w x) {u i : Nat} (hu : u < x.ar.length) (hfew : x.ar.length ≤ 500000) (hkf : ∀ s, x.ar[u]? = some s → s.kids.length ≤ 500000 ∧ i ≤ s.kids.length) (y : It) (hyn : y.node < 9223372036854775808) (p : Option Addr) (n c : Nat) :
    Calls Try.prog 40 #[.pointer (some ⟨x.S, 0, none⟩), .int .i64 (u : Int), .int .i64 (i : Int), .agg #[.int .i64 (y.node : Int), .int .i64 y.role, .string y.name, .string y.about, .int .i64 y.level, .int .i64 y.checked, .bool y.off, .slice p n c]] w fun e w' =>
      e = .returned (.int .i64 (x.ar.length : Int)) ∧ ∃ x', StAt w' x' ∧ x'.ar = enterA (x.ar ++ [⟨y.with [], 0, []⟩]) x.ar.length u i ∧ x'.nm = updN x.nm y.node (some x.ar.length) ∧ Fw x x' w w' := by
  have s0 := h.s0
  have slt : x.S < w.heap.size := h.lt _ (Or.inl rfl)
  have hcap := h.cap.1
  have hcap2 := h.cap.2
  obtain ⟨SP, hSP⟩ : ∃ SP : Sp, SP = ⟨y.with [], 0, []⟩ := ⟨_, rfl⟩
  have HSP : Hid (SP = ⟨y.with [], 0, []⟩) := hSP
  have HSK : Hid (SP.kids = []) := by show _ = _; rw [hSP]
  have hspc : spc (SP, Value.slice none 0 0) = [.int .i64 (y.node : Int), .int .i64 y.role, .string y.name, .string y.about, .int .i64 y.level, .int .i64 y.checked, .bool y.off, .slice none 0 0, .int .i64 0, .slice none 0 0] := by
    rw [hSP]
    cases y with
    | mk => rfl
  have SP1 : Hid (∀ u ∈ spc (SP, Value.slice none 0 0), u.oneCell' = true) := by
    intro u hu
    rw [hspc] at hu
    simp only [List.mem_cons, List.not_mem_nil, or_false] at hu
    rcases hu with rfl | rfl | rfl | rfl | rfl | rfl | rfl | rfl | rfl | rfl <;> rfl
  rw [← hSP]
  generalize y.role = y1 at *
  generalize y.name = y2 at *
  generalize y.about = y3 at *
  generalize y.level = y4 at *
  generalize y.checked = y5 at *
  generalize y.off = y6 at *
  generalize y.node = y0 at *
  obtain ⟨i0', hi0, hz0, hz1, hz2⟩ := info_parts infoSp
  have HN : Hid (∀ (W : World) (j : Nat) (u : Value), (spc (SP, Value.slice none 0 0))[j]? = some u → (W.alloc (.cells #[.int .i64 (y0 : Int), .int .i64 y1, .string y2, .string y3, .int .i64 y4, .int .i64 y5, .bool y6, .slice none 0 0, .int .i64 0, .slice none 0 0] 59)).cell? ((⟨W.heap.size, 0, none⟩ : Addr).add j) = some u) := by
    intro W j u hj
    rw [add_at, Nat.zero_add, World.cell?_alloc_new]
    rw [hspc] at hj
    simpa using hj
  have BX := box8_new w (.int .i64 (y0 : Int)) (.int .i64 y1) (.string y2) (.string y3) (.int .i64 y4) (.int .i64 y5) (.bool y6) (.slice p n c) 26
  have W1 : Below w.heap.size w (w.alloc (.cells #[.int .i64 (y0 : Int), .int .i64 y1, .string y2, .string y3, .int .i64 y4, .int .i64 y5, .bool y6, .slice p n c] 26)) := (Below.refl _ _).alloc (Nat.le_refl _) _
  have X1 : StAt (w.alloc (.cells #[.int .i64 (y0 : Int), .int .i64 y1, .string y2, .string y3, .int .i64 y4, .int .i64 y5, .bool y6, .slice p n c] 26)) x := h.below W1
  have F1 : Fw x x w (w.alloc (.cells #[.int .i64 (y0 : Int), .int .i64 y1, .string y2, .string y3, .int .i64 y4, .int .i64 y5, .bool y6, .slice p n c] 26)) := Fw.below W1
  have z1 : (w.alloc (.cells #[.int .i64 (y0 : Int), .int .i64 y1, .string y2, .string y3, .int .i64 y4, .int .i64 y5, .bool y6, .slice p n c] 26)).heap.size = w.heap.size + 1 := by simp
  have NF : Hid (¬ x.foot w.heap.size) := fun hf => by have := h.lt _ hf; omega
  clear h hSP W1 hspc
  go_enter Try.func40, Try.ntmps40
  go_upto_region 2 with fail
  generalize w.alloc (.cells #[.int .i64 (y0 : Int), .int .i64 y1, .string y2, .string y3, .int .i64 y4, .int .i64 y5, .bool y6, .slice p n c] 26) = W at *
  generalize w.heap.size = N at *
  have X2 : Hid (StAt W.drew x) := X1.drew
  have F2 : Hid (Fw x x w W.drew) := F1.trans (Fw.below (bel_drewN _ W 1))
  have A2 : (fun w'' : World => w''.cell? ⟨N, 0, none⟩ = some (.int .i64 (y0 : Int)) ∧ w''.cell? ⟨N, 1, none⟩ = some (.int .i64 y1) ∧ w''.cell? ⟨N, 2, none⟩ = some (.string y2) ∧ w''.cell? ⟨N, 3, none⟩ = some (.string y3) ∧ w''.cell? ⟨N, 4, none⟩ = some (.int .i64 y4) ∧ w''.cell? ⟨N, 5, none⟩ = some (.int .i64 y5) ∧ w''.cell? ⟨N, 6, none⟩ = some (.bool y6) ∧ w''.cell? ⟨N, 7, none⟩ = some (.slice p n c)) W.drew := BX
  have ZD : Hid (W.drew.heap.size = W.heap.size) := rfl
  have NF2 : Hid (∀ (b : Nat), x.foot b → b ≠ N) := fun b hb e => NF.out (e ▸ hb)
  have NLT : N < W.heap.size := by omega
  have AK : Hid (∀ w1 w2, (fun w'' : World => w''.cell? ⟨N, 0, none⟩ = some (.int .i64 (y0 : Int)) ∧ w''.cell? ⟨N, 1, none⟩ = some (.int .i64 y1) ∧ w''.cell? ⟨N, 2, none⟩ = some (.string y2) ∧ w''.cell? ⟨N, 3, none⟩ = some (.string y3) ∧ w''.cell? ⟨N, 4, none⟩ = some (.int .i64 y4) ∧ w''.cell? ⟨N, 5, none⟩ = some (.int .i64 y5) ∧ w''.cell? ⟨N, 6, none⟩ = some (.bool y6) ∧ w''.cell? ⟨N, 7, none⟩ = some (.slice p n c)) w1 → Keeps w1 w2 → (fun w'' : World => w''.cell? ⟨N, 0, none⟩ = some (.int .i64 (y0 : Int)) ∧ w''.cell? ⟨N, 1, none⟩ = some (.int .i64 y1) ∧ w''.cell? ⟨N, 2, none⟩ = some (.string y2) ∧ w''.cell? ⟨N, 3, none⟩ = some (.string y3) ∧ w''.cell? ⟨N, 4, none⟩ = some (.int .i64 y4) ∧ w''.cell? ⟨N, 5, none⟩ = some (.int .i64 y5) ∧ w''.cell? ⟨N, 6, none⟩ = some (.bool y6) ∧ w''.cell? ⟨N, 7, none⟩ = some (.slice p n c)) w2) := fun w1 w2 hA hK => Box8.keeps (a0 := (.int .i64 (y0 : Int))) (a1 := (.int .i64 y1)) (a2 := (.string y2)) (a3 := (.string y3)) (a4 := (.int .i64 y4)) (a5 := (.int .i64 y5)) (a6 := (.bool y6)) (a7 := (.slice p n c)) hA (fun i v => hK _ _)
  have AT : Hid (∀ w2, Below W.heap.size W.drew w2 → (fun w'' : World => w''.cell? ⟨N, 0, none⟩ = some (.int .i64 (y0 : Int)) ∧ w''.cell? ⟨N, 1, none⟩ = some (.int .i64 y1) ∧ w''.cell? ⟨N, 2, none⟩ = some (.string y2) ∧ w''.cell? ⟨N, 3, none⟩ = some (.string y3) ∧ w''.cell? ⟨N, 4, none⟩ = some (.int .i64 y4) ∧ w''.cell? ⟨N, 5, none⟩ = some (.int .i64 y5) ∧ w''.cell? ⟨N, 6, none⟩ = some (.bool y6) ∧ w''.cell? ⟨N, 7, none⟩ = some (.slice p n c)) w2) := fun w2 hb => AK.out _ _ A2 (keeps_below hb (Nat.le_of_eq ZD.out))
  have AG : Hid (∀ w1 w2, (fun w'' : World => w''.cell? ⟨N, 0, none⟩ = some (.int .i64 (y0 : Int)) ∧ w''.cell? ⟨N, 1, none⟩ = some (.int .i64 y1) ∧ w''.cell? ⟨N, 2, none⟩ = some (.string y2) ∧ w''.cell? ⟨N, 3, none⟩ = some (.string y3) ∧ w''.cell? ⟨N, 4, none⟩ = some (.int .i64 y4) ∧ w''.cell? ⟨N, 5, none⟩ = some (.int .i64 y5) ∧ w''.cell? ⟨N, 6, none⟩ = some (.bool y6) ∧ w''.cell? ⟨N, 7, none⟩ = some (.slice p n c)) w1 → w1.grownBy w2 (Value.slice (some ⟨x.g, 0, none⟩) x.ar.length x.cap).ownBlock → (fun w'' : World => w''.cell? ⟨N, 0, none⟩ = some (.int .i64 (y0 : Int)) ∧ w''.cell? ⟨N, 1, none⟩ = some (.int .i64 y1) ∧ w''.cell? ⟨N, 2, none⟩ = some (.string y2) ∧ w''.cell? ⟨N, 3, none⟩ = some (.string y3) ∧ w''.cell? ⟨N, 4, none⟩ = some (.int .i64 y4) ∧ w''.cell? ⟨N, 5, none⟩ = some (.int .i64 y5) ∧ w''.cell? ⟨N, 6, none⟩ = some (.bool y6) ∧ w''.cell? ⟨N, 7, none⟩ = some (.slice p n c)) w2) := fun w1 w2 hA hg => Box8.keeps (a0 := (.int .i64 (y0 : Int))) (a1 := (.int .i64 y1)) (a2 := (.string y2)) (a3 := (.string y3)) (a4 := (.int .i64 y4)) (a5 := (.int .i64 y5)) (a6 := (.bool y6)) (a7 := (.slice p n c)) hA (fun i v hv => hg.cell hv (fun e => NF2.out x.g (Or.inr (Or.inl rfl)) (Option.some.inj e).symm))
  have AS : Hid (∀ w1 v, (fun w'' : World => w''.cell? ⟨N, 0, none⟩ = some (.int .i64 (y0 : Int)) ∧ w''.cell? ⟨N, 1, none⟩ = some (.int .i64 y1) ∧ w''.cell? ⟨N, 2, none⟩ = some (.string y2) ∧ w''.cell? ⟨N, 3, none⟩ = some (.string y3) ∧ w''.cell? ⟨N, 4, none⟩ = some (.int .i64 y4) ∧ w''.cell? ⟨N, 5, none⟩ = some (.int .i64 y5) ∧ w''.cell? ⟨N, 6, none⟩ = some (.bool y6) ∧ w''.cell? ⟨N, 7, none⟩ = some (.slice p n c)) w1 → (fun w'' : World => w''.cell? ⟨N, 0, none⟩ = some (.int .i64 (y0 : Int)) ∧ w''.cell? ⟨N, 1, none⟩ = some (.int .i64 y1) ∧ w''.cell? ⟨N, 2, none⟩ = some (.string y2) ∧ w''.cell? ⟨N, 3, none⟩ = some (.string y3) ∧ w''.cell? ⟨N, 4, none⟩ = some (.int .i64 y4) ∧ w''.cell? ⟨N, 5, none⟩ = some (.int .i64 y5) ∧ w''.cell? ⟨N, 6, none⟩ = some (.bool y6) ∧ w''.cell? ⟨N, 7, none⟩ = some (.slice p n c)) (w1.setCell ⟨x.S, 0, none⟩ v)) := fun w1 v hA => Box8.keeps (a0 := (.int .i64 (y0 : Int))) (a1 := (.int .i64 y1)) (a2 := (.string y2)) (a3 := (.string y3)) (a4 := (.int .i64 y4)) (a5 := (.int .i64 y5)) (a6 := (.bool y6)) (a7 := (.slice p n c)) hA (fun i u hv => by rw [World.cell?_setCell_other _ _ _ _ (by intro e; have e2 := congrArg Addr.block e; first | exact NF2.out x.S (Or.inl rfl) e2 | exact NF2.out x.S (Or.inl rfl) e2.symm)]; exact hv)
  have FZ : Hid (∀ w1 w2, StAt w1 x → w1.grownBy w2 (Value.slice (some ⟨x.g, 0, none⟩) x.ar.length x.cap).ownBlock → w2.frozen? ⟨x.S, 0, none⟩ = false) := fun w1 w2 hs hg => by
    rw [← hs.f0]
    simp only [World.frozen?, hg.block x.S (hs.lt _ (Or.inl rfl)) (fun e => hs.sg (Option.some.inj e))]
  clear BX X1 F1 s0 z1 slt
  refine wp_region_noPanic ?_
  refine AnyK.begin (A := (fun w'' : World => w''.cell? ⟨N, 0, none⟩ = some (.int .i64 (y0 : Int)) ∧ w''.cell? ⟨N, 1, none⟩ = some (.int .i64 y1) ∧ w''.cell? ⟨N, 2, none⟩ = some (.string y2) ∧ w''.cell? ⟨N, 3, none⟩ = some (.string y3) ∧ w''.cell? ⟨N, 4, none⟩ = some (.int .i64 y4) ∧ w''.cell? ⟨N, 5, none⟩ = some (.int .i64 y5) ∧ w''.cell? ⟨N, 6, none⟩ = some (.bool y6) ∧ w''.cell? ⟨N, 7, none⟩ = some (.slice p n c))) (B := (fun w'' : World => w''.cell? ⟨x.S, 0, none⟩ = some (.slice (some ⟨x.g, 0, none⟩) x.ar.length x.cap))) (i0 := 4) (st := 12) (by kernel_rfl) ?_ ?_ (by kernel_rfl) (fun hHeld => ?_)
  · exact A2
  · exact X2.out.s0
  refine AnyK.take (i := 0) (v := ?v0) (C := (fun w'' : World => w''.cell? ⟨N, 0, none⟩ = some (.int .i64 (y0 : Int)) ∧ w''.cell? ⟨N, 1, none⟩ = some (.int .i64 y1) ∧ w''.cell? ⟨N, 2, none⟩ = some (.string y2) ∧ w''.cell? ⟨N, 3, none⟩ = some (.string y3) ∧ w''.cell? ⟨N, 4, none⟩ = some (.int .i64 y4) ∧ w''.cell? ⟨N, 5, none⟩ = some (.int .i64 y5) ∧ w''.cell? ⟨N, 6, none⟩ = some (.bool y6) ∧ w''.cell? ⟨N, 7, none⟩ = some (.slice p n c))) rfl (by kernel_rfl) (by kernel_rfl) (by kernel_rfl) (fun _ _ _ h => h) (fun _ _ _ h => h.1) (by decide) (by kernel_rfl) (Or.inl ⟨by kernel_rfl, ?hy0⟩) hHeld ?rest0
  case hy0 => intro wS hSw; (try dsimp only at hSw); (try obtain ⟨hSw, hSw2⟩ := hSw); first | (go_simp; done) | (go_simp; with_reducible rfl) | with_reducible rfl
  clear hHeld; intro hHeld
  (try simp only [List.getElem_toArray, List.getElem_cons_zero]); (try dsimp only); (try go_frame)
  refine AnyK.take (i := 1) (v := ?v1) (C := (fun w'' : World => w''.cell? ⟨N, 0, none⟩ = some (.int .i64 (y0 : Int)) ∧ w''.cell? ⟨N, 1, none⟩ = some (.int .i64 y1) ∧ w''.cell? ⟨N, 2, none⟩ = some (.string y2) ∧ w''.cell? ⟨N, 3, none⟩ = some (.string y3) ∧ w''.cell? ⟨N, 4, none⟩ = some (.int .i64 y4) ∧ w''.cell? ⟨N, 5, none⟩ = some (.int .i64 y5) ∧ w''.cell? ⟨N, 6, none⟩ = some (.bool y6) ∧ w''.cell? ⟨N, 7, none⟩ = some (.slice p n c))) rfl (by kernel_rfl) (by kernel_rfl) (by kernel_rfl) (fun _ _ _ h => h) (fun _ _ _ h => h.1) (by decide) (by kernel_rfl) (Or.inl ⟨by kernel_rfl, ?hy1⟩) hHeld ?rest1
  case hy1 => intro wS hSw; (try dsimp only at hSw); (try obtain ⟨hSw, hSw2⟩ := hSw); first | (go_simp; done) | (go_simp; with_reducible rfl) | with_reducible rfl
  clear hHeld; intro hHeld
  (try simp only [List.getElem_toArray, List.getElem_cons_succ, List.getElem_cons_zero]); (try dsimp only); (try go_frame)
  refine AnyK.take (i := 2) (v := ?v2) (C := (fun w'' : World => w''.cell? ⟨N, 0, none⟩ = some (.int .i64 (y0 : Int)) ∧ w''.cell? ⟨N, 1, none⟩ = some (.int .i64 y1) ∧ w''.cell? ⟨N, 2, none⟩ = some (.string y2) ∧ w''.cell? ⟨N, 3, none⟩ = some (.string y3) ∧ w''.cell? ⟨N, 4, none⟩ = some (.int .i64 y4) ∧ w''.cell? ⟨N, 5, none⟩ = some (.int .i64 y5) ∧ w''.cell? ⟨N, 6, none⟩ = some (.bool y6) ∧ w''.cell? ⟨N, 7, none⟩ = some (.slice p n c))) rfl (by kernel_rfl) (by kernel_rfl) (by kernel_rfl) (fun _ _ _ h => h) (fun _ _ _ h => h.1) (by decide) (by kernel_rfl) (Or.inl ⟨by kernel_rfl, ?hy2⟩) hHeld ?rest2
  case hy2 => intro wS hSw; (try dsimp only at hSw); (try obtain ⟨hSw, hSw2⟩ := hSw); first | (go_simp; done) | (go_simp; with_reducible rfl) | with_reducible rfl
  clear hHeld; intro hHeld
  (try simp only [List.getElem_toArray, List.getElem_cons_succ, List.getElem_cons_zero]); (try dsimp only); (try go_frame)
  refine AnyK.take (i := 3) (v := ?v3) (C := (fun w'' : World => w''.cell? ⟨N, 0, none⟩ = some (.int .i64 (y0 : Int)) ∧ w''.cell? ⟨N, 1, none⟩ = some (.int .i64 y1) ∧ w''.cell? ⟨N, 2, none⟩ = some (.string y2) ∧ w''.cell? ⟨N, 3, none⟩ = some (.string y3) ∧ w''.cell? ⟨N, 4, none⟩ = some (.int .i64 y4) ∧ w''.cell? ⟨N, 5, none⟩ = some (.int .i64 y5) ∧ w''.cell? ⟨N, 6, none⟩ = some (.bool y6) ∧ w''.cell? ⟨N, 7, none⟩ = some (.slice p n c))) rfl (by kernel_rfl) (by kernel_rfl) (by kernel_rfl) (fun _ _ _ h => h) (fun _ _ _ h => h.1) (by decide) (by kernel_rfl) (Or.inl ⟨by kernel_rfl, ?hy3⟩) hHeld ?rest3
  case hy3 => intro wS hSw; (try dsimp only at hSw); (try obtain ⟨hSw, hSw2⟩ := hSw); first | (go_simp; done) | (go_simp; with_reducible rfl) | with_reducible rfl
  clear hHeld; intro hHeld
  (try simp only [List.getElem_toArray, List.getElem_cons_succ, List.getElem_cons_zero]); (try dsimp only); (try go_frame)
  refine AnyK.take (i := 4) (v := ?v4) (C := fun w'' : World => ((fun w'' : World => w''.cell? ⟨N, 0, none⟩ = some (.int .i64 (y0 : Int)) ∧ w''.cell? ⟨N, 1, none⟩ = some (.int .i64 y1) ∧ w''.cell? ⟨N, 2, none⟩ = some (.string y2) ∧ w''.cell? ⟨N, 3, none⟩ = some (.string y3) ∧ w''.cell? ⟨N, 4, none⟩ = some (.int .i64 y4) ∧ w''.cell? ⟨N, 5, none⟩ = some (.int .i64 y5) ∧ w''.cell? ⟨N, 6, none⟩ = some (.bool y6) ∧ w''.cell? ⟨N, 7, none⟩ = some (.slice p n c))) w'' ∧ ((fun w'' : World => w''.cell? ⟨x.S, 0, none⟩ = some (.slice (some ⟨x.g, 0, none⟩) x.ar.length x.cap))) w'') rfl (by kernel_rfl) (by kernel_rfl) (by kernel_rfl) (fun _ _ _ h => h) (fun _ _ hl h => ⟨h.1, h.2.2 (h.2.1 hl)⟩) (by decide) (by kernel_rfl) (Or.inl ⟨by kernel_rfl, ?hy4⟩) hHeld ?rest4
  case hy4 => intro wS hSw; (try dsimp only at hSw); (try obtain ⟨hSw, hSw2⟩ := hSw); first | (go_simp; done) | (go_simp; with_reducible rfl) | with_reducible rfl
  clear hHeld; intro hHeld
  (try simp only [List.getElem_toArray, List.getElem_cons_succ, List.getElem_cons_zero]); (try dsimp only); (try go_frame)
  refine AnyK.take (i := 5) (v := ?v5) (C := (fun w'' : World => w''.cell? ⟨N, 0, none⟩ = some (.int .i64 (y0 : Int)) ∧ w''.cell? ⟨N, 1, none⟩ = some (.int .i64 y1) ∧ w''.cell? ⟨N, 2, none⟩ = some (.string y2) ∧ w''.cell? ⟨N, 3, none⟩ = some (.string y3) ∧ w''.cell? ⟨N, 4, none⟩ = some (.int .i64 y4) ∧ w''.cell? ⟨N, 5, none⟩ = some (.int .i64 y5) ∧ w''.cell? ⟨N, 6, none⟩ = some (.bool y6) ∧ w''.cell? ⟨N, 7, none⟩ = some (.slice p n c))) rfl (by kernel_rfl) (by kernel_rfl) (by kernel_rfl) (fun _ _ _ h => h) (fun _ _ _ h => h.1) (by decide) (by kernel_rfl) (Or.inl ⟨by kernel_rfl, ?hy5⟩) hHeld ?rest5
  case hy5 => intro wS hSw; (try dsimp only at hSw); (try obtain ⟨hSw, hSw2⟩ := hSw); first | (go_simp; done) | (go_simp; with_reducible rfl) | with_reducible rfl
  clear hHeld; intro hHeld
  (try simp only [List.getElem_toArray, List.getElem_cons_succ, List.getElem_cons_zero]); (try dsimp only); (try go_frame)
  refine AnyK.run (i := 6) (by kernel_rfl) rfl (fun K hK => ?_)
  go_simp
  refine (halone_any _ (y0 : Int) y1 y4 y5 y2 y3 y6 p n c).mono ?_; rintro e w6 ⟨rfl, hb6⟩; have A6 := AT.out w6 (hb6.mono (Nat.le_of_eq ZD.out.symm)); have X6 : Hid (StAt w6 x) := X2.out.below (hb6.mono (Nat.le_of_eq ZD.out.symm)); have F6 : Hid (Fw x x w w6) := F2.out.trans (Fw.below (hb6.mono (Nat.le_of_eq ZD.out.symm)))
  clear hHeld
  refine hK.out _ _ ?_ (fun hHeld => ?_)
  · exact ⟨A6, fun h => absurd h (by decide), fun _ => X6.out.s0⟩
  clear hK K
  (try simp only [List.getElem_toArray, List.getElem_cons_succ, List.getElem_cons_zero]); (try dsimp only); (try go_frame)
  refine AnyK.take (i := 7) (v := ?v7) (C := (fun w'' : World => w''.cell? ⟨N, 0, none⟩ = some (.int .i64 (y0 : Int)) ∧ w''.cell? ⟨N, 1, none⟩ = some (.int .i64 y1) ∧ w''.cell? ⟨N, 2, none⟩ = some (.string y2) ∧ w''.cell? ⟨N, 3, none⟩ = some (.string y3) ∧ w''.cell? ⟨N, 4, none⟩ = some (.int .i64 y4) ∧ w''.cell? ⟨N, 5, none⟩ = some (.int .i64 y5) ∧ w''.cell? ⟨N, 6, none⟩ = some (.bool y6) ∧ w''.cell? ⟨N, 7, none⟩ = some (.slice p n c))) rfl (by kernel_rfl) (by kernel_rfl) (by kernel_rfl) (fun _ _ _ h => h) (fun _ _ _ h => h.1) (by decide) (by kernel_rfl) (Or.inl ⟨by kernel_rfl, ?hy7⟩) hHeld ?rest7
  case hy7 => intro wS hSw; (try dsimp only at hSw); (try obtain ⟨hSw, hSw2⟩ := hSw); first | (go_simp; done) | (go_simp; with_reducible rfl) | with_reducible rfl
  clear hHeld; intro hHeld
  (try simp only [List.getElem_toArray, List.getElem_cons_succ, List.getElem_cons_zero]); (try dsimp only); (try go_frame)
  refine AnyK.run (i := 8) (by kernel_rfl) rfl (fun K hK => ?_)
  go_simp
  have B8 : Below w6.heap.size w6 (w6.alloc (.cells #[.int .i64 (y0 : Int), .int .i64 y1, .string y2, .string y3, .int .i64 y4, .int .i64 y5, .bool y6, .slice none 0 0, .int .i64 0, .slice none 0 0] 59)) := (Below.refl _ _).alloc (Nat.le_refl _) _; have A8 := AK.out w6 _ A6 (keeps_below B8 (Nat.le_refl _)); have X8 : Hid (StAt (w6.alloc (.cells #[.int .i64 (y0 : Int), .int .i64 y1, .string y2, .string y3, .int .i64 y4, .int .i64 y5, .bool y6, .slice none 0 0, .int .i64 0, .slice none 0 0] 59)) x) := X6.out.below B8; have F8 : Hid (Fw x x w (w6.alloc (.cells #[.int .i64 (y0 : Int), .int .i64 y1, .string y2, .string y3, .int .i64 y4, .int .i64 y5, .bool y6, .slice none 0 0, .int .i64 0, .slice none 0 0] 59))) := F6.out.trans (Fw.below B8); have hnew : Hid (∀ (j : Nat) (u : Value), (spc (SP, Value.slice none 0 0))[j]? = some u → (w6.alloc (.cells #[.int .i64 (y0 : Int), .int .i64 y1, .string y2, .string y3, .int .i64 y4, .int .i64 y5, .bool y6, .slice none 0 0, .int .i64 0, .slice none 0 0] 59)).cell? ((⟨w6.heap.size, 0, none⟩ : Addr).add j) = some u) := HN.out w6; clear B8
  clear hHeld
  refine hK.out _ _ ?_ (fun hHeld => ?_)
  · exact ⟨A8, fun h => absurd h (by decide), fun _ => X8.out.s0⟩
  clear hK K
  (try simp only [List.getElem_toArray, List.getElem_cons_succ, List.getElem_cons_zero]); (try dsimp only); (try go_frame)
  refine AnyK.run (i := 9) (by kernel_rfl) rfl (fun K hK => ?_)
  refine step_append_lies _ rfl (.tmp 19) (.tmp 23) 41 rfl 0 59 i0' _ 10 128 Try.underlying41 hi0 hz0 hz1 hz2 rfl (by decide) (.slice (some ⟨x.g, 0, none⟩) x.ar.length x.cap) x.ar.length (cellsP x.ar x.kvs) rfl X8.out.row ⟨w6.heap.size, 0, none⟩ 1 1 (spc (SP, Value.slice none 0 0)) rfl rfl hnew.out SP1.out (by decide) (by unfold maxLen; omega) (by omega) (Nat.zero_le _) _ rfl ?_; intro g9 cap9 w9 k1 k2 k3 k4; have A9 := AG.out _ w9 A8 k2; have M9 := X8.out.more (s := SP) HSK.out k1 k2 (by rcases k3 with e | e; (exact Or.inl (Option.some.inj e)); (exact Or.inr (Nat.le_of_eq e.symm))); have c9 : w9.cell? ⟨x.S, 0, none⟩ = some (.slice (some ⟨x.g, 0, none⟩) x.ar.length x.cap) := k2.cell X8.out.s0 (fun e => X8.out.sg (Option.some.inj e)); have NM9 : Hid (NumAt (w9.setCell ⟨x.S, 0, none⟩ (.slice (some ⟨g9, 0, none⟩) (x.ar.length + 1) cap9)) x.M x.ar.length x.nm) := (X8.out.map.same (k2.block x.M (X8.out.lt _ (Or.inr (Or.inr (Or.inl rfl)))) (fun e => X8.out.gM (Option.some.inj e).symm))).same (heap_setCell_other _ _ _ _ (fun e => X8.out.sM e.symm)); have f9 : w9.frozen? ⟨x.S, 0, none⟩ = false := FZ.out _ w9 X8.out k2; clear k1 k3 k4
  clear hHeld
  refine hK.out _ _ ?_ (fun hHeld => ?_)
  · exact ⟨A9, fun h => absurd h (by decide), fun _ => c9⟩
  clear hK K
  (try simp only [List.getElem_toArray, List.getElem_cons_succ, List.getElem_cons_zero]); (try dsimp only); (try go_frame)
  refine AnyK.take (i := 10) (v := ?v10) (C := (fun w'' : World => w''.cell? ⟨N, 0, none⟩ = some (.int .i64 (y0 : Int)) ∧ w''.cell? ⟨N, 1, none⟩ = some (.int .i64 y1) ∧ w''.cell? ⟨N, 2, none⟩ = some (.string y2) ∧ w''.cell? ⟨N, 3, none⟩ = some (.string y3) ∧ w''.cell? ⟨N, 4, none⟩ = some (.int .i64 y4) ∧ w''.cell? ⟨N, 5, none⟩ = some (.int .i64 y5) ∧ w''.cell? ⟨N, 6, none⟩ = some (.bool y6) ∧ w''.cell? ⟨N, 7, none⟩ = some (.slice p n c))) rfl (by kernel_rfl) (by kernel_rfl) (by kernel_rfl) (fun _ _ _ h => h) (fun _ _ _ h => h.1) (by decide) (by kernel_rfl) (Or.inl ⟨by kernel_rfl, ?hy10⟩) hHeld ?rest10
  case hy10 => intro wS hSw; (try dsimp only at hSw); (try obtain ⟨hSw, hSw2⟩ := hSw); first | (go_simp; done) | (go_simp; with_reducible rfl) | with_reducible rfl
  clear hHeld; intro hHeld
  (try simp only [List.getElem_toArray, List.getElem_cons_succ, List.getElem_cons_zero]); (try dsimp only); (try go_frame)
  refine AnyK.take (i := 11) (v := ?v11) (C := (fun w'' : World => w''.cell? ⟨N, 0, none⟩ = some (.int .i64 (y0 : Int)) ∧ w''.cell? ⟨N, 1, none⟩ = some (.int .i64 y1) ∧ w''.cell? ⟨N, 2, none⟩ = some (.string y2) ∧ w''.cell? ⟨N, 3, none⟩ = some (.string y3) ∧ w''.cell? ⟨N, 4, none⟩ = some (.int .i64 y4) ∧ w''.cell? ⟨N, 5, none⟩ = some (.int .i64 y5) ∧ w''.cell? ⟨N, 6, none⟩ = some (.bool y6) ∧ w''.cell? ⟨N, 7, none⟩ = some (.slice p n c))) rfl (by kernel_rfl) (by kernel_rfl) (by kernel_rfl) (fun _ _ _ h => h) (fun _ _ _ h => h.1) (by decide) (by kernel_rfl) (Or.inl ⟨by kernel_rfl, ?hy11⟩) hHeld ?rest11
  case hy11 => intro wS hSw; (try dsimp only at hSw); (try obtain ⟨hSw, hSw2⟩ := hSw); first | (go_simp; done) | (go_simp; with_reducible rfl) | with_reducible rfl
  clear hHeld; intro hHeld
  (try simp only [List.getElem_toArray, List.getElem_cons_succ, List.getElem_cons_zero]); (try dsimp only); (try go_frame)
  refine AnyK.run (i := 12) (by kernel_rfl) rfl (fun K hK => ?_)
  go_simp
  clear hHeld
  refine hK.out _ _ ?_ (fun hHeld => ?_)
  · exact ⟨AS.out _ _ A9, fun h => absurd h (by decide), fun h => absurd h (by decide)⟩
  clear hK K
  (try simp only [List.getElem_toArray, List.getElem_cons_succ, List.getElem_cons_zero]); (try dsimp only); (try go_frame)
  refine AnyK.done (by kernel_rfl) ?_ _

  refine NoPanic.normal ?_
  have A12 := AS.out _ (.slice (some ⟨g9, 0, none⟩) (x.ar.length + 1) cap9) A9
  obtain ⟨M1, M2⟩ := M9
  have F12 : Hid (Fw x _ w _) := F8.out.trans M2
  clear M2 A9 A8 A6 hnew X8 X6 F8 F6 A2 X2 F2 c9 f9 FZ AS AG AT HN SP1
  generalize w9.setCell ⟨x.S, 0, none⟩ (.slice (some ⟨g9, 0, none⟩) (x.ar.length + 1) cap9) = W3 at *
  have NMd : NumAt W3.drew x.M x.ar.length x.nm := NM9.out
  obtain ⟨W4, hrun, n1, n2⟩ := NMd.store (by omega) y0 x.ar.length hyn
  generalize hx2 : ({ x with g := g9, cap := cap9, ar := x.ar ++ [SP], kvs := x.kvs ++ [.slice none 0 0] } : Ax) = x2 at *
  have e1 : x2.S = x.S := by rw [← hx2]
  have e2 : x2.M = x.M := by rw [← hx2]
  have e3 : x2.ar = x.ar ++ [SP] := by rw [← hx2]
  have e4 : x2.nm = x.nm := by rw [← hx2]
  have s1 := M1.s1
  rw [e1, e2] at s1
  have hl2 : x2.ar.length = x.ar.length + 1 := by rw [e3]; simp
  have M1d : StAt W3.drew x2 := M1.drew
  obtain ⟨R1, R2⟩ := M1d.setMap (nm' := updN x.nm y0 (some x.ar.length)) (by rw [e2, hl2]; exact n1) (by rw [e2]; exact n2)
  have MF : Hid (∀ (i : Nat) (v : Value), W3.cell? ⟨N, i, none⟩ = some v → W4.cell? ⟨N, i, none⟩ = some v) := fun i v hv => n2.cell (by exact hv) (fun e => NF2.out x.M (Or.inr (Or.inr (Or.inl rfl))) (Option.some.inj e).symm)
  obtain ⟨b0, b1, b2, b3, b4, b5, b6, b7⟩ := A12
  have b0' : W4.cell? ⟨N, 0, none⟩ = some (.int .i64 (y0 : Int)) := MF.out _ _ b0
  have s14 : W4.cell? ⟨x.S, 1, none⟩ = some (.map (some x.M)) := by have := R1.s1; simp only at this; rw [e1, e2] at this; exact this
  have SS : ∀ w'', Keeps W3 w'' → (fun w'' : World => w''.cell? ⟨x.S, 1, none⟩ = some (.map (some x.M)) ∧ w''.cell? ⟨N, 0, none⟩ = some (.int .i64 (y0 : Int))) w'' := fun w'' hk => ⟨hk _ _ s1, hk _ _ b0⟩
  have HR1 : Hid _ := R1
  have HR2 : Hid _ := R2
  have E1 : Hid (x2.S = x.S) := e1
  have E3 : Hid (x2.ar = x.ar ++ [SP]) := e3
  have SK4 : W4.cell? ⟨x.S, 1, none⟩ = some (.map (some x.M)) ∧ W4.cell? ⟨N, 0, none⟩ = some (.int .i64 (y0 : Int)) := ⟨s14, b0'⟩
  clear R1 R2 e1 e2 e3 e4 hl2 M1d NMd n1 n2 NM9 hx2 M1 MF AK
  go_wp2_with fail
  go_region_held3 (fun w'' : World => w''.cell? ⟨x.S, 1, none⟩ = some (.map (some x.M)) ∧ w''.cell? ⟨N, 0, none⟩ = some (.int .i64 (y0 : Int)))
    ((first | assumption | (apply SS; repeat (first | exact Keeps.refl _ | apply keeps_drew | apply keeps_alloc'))))
    (fail)
  have hul : u < x2.ar.length := by rw [E3.out, List.length_append]; omega
  have hkl : x.ar.length < x2.ar.length := by rw [E3.out]; simp
  have hgu : x.ar[u]? = some x2.ar[u] := by
    rw [List.getElem?_eq_getElem hu]
    simp only [E3.out]
    rw [List.getElem_append_left hu]
  obtain ⟨q1, q2⟩ := hkf _ hgu
  have EN := henter_any HR1.out (k := x.ar.length) (u := u) (i := i) hkl hul q1 q2
  simp only at EN
  rw [E1.out] at EN
  have FF : Hid (Fw x _ w W4) := (F12.out.trans (Fw.below (bel_drewN _ W3 1))).trans HR2.out
  clear hrun SS SK4 b1 b2 b3 b4 b5 b6 b7 b0 b0' s1 s14 k2 hb6 HR1 HR2 F12 hul hkl hgu q1 q2
  go_wp2_with (go_at_call 44; refine EN.mono ?_; clear EN; rintro e w7 ⟨rfl, HE⟩)
  go_ret
  obtain ⟨x', g1, g2, g3, g4⟩ := HE
  rw [← E1.out] at g4
  exact ⟨rfl, x', g1, by rw [g2, E3.out], g3, FF.out.trans g4⟩
end Go.Proofs.Ytgpckmolcdafcae

/-
  PLAIN MATHEMATICS of stands: items put one by one, each ahead of what is in it, make themselves.
-/
namespace Go.Proofs.Ytgpckmolcdafcae

def putP (T : List It) (e : Plc) : List It := insP e.2.1 e.2.2 (e.1.with []) T
def putAll (T : List It) (D : List Plc) : List It := D.foldl putP T
theorem putAll_app (T : List It) (a b : List Plc) : putAll T (a ++ b) = putAll (putAll T a) b := by unfold putAll; rw [List.foldl_append]
theorem plcL_take (p : Int) : ∀ (l : List It) (i j : Nat) (h : j < l.length), plcL p i (l.take (j + 1)) = plcL p i (l.take j) ++ plc1 p (i + j) l[j]
  | [], _, _, h => by simp at h
  | x :: l, i, 0, _ => by simp [plcL]
  | x :: l, i, j + 1, h => by
    rw [List.take_succ_cons, List.take_succ_cons, plcL, plcL, plcL_take p l (i + 1) j (by simpa using h), List.getElem_cons_succ, List.append_assoc]
    congr 3
    omega

/-- what there is, behind all that was put -/
structure Put (T T' : List It) (p : Int) (new : List It) (top : List Nat) : Prop where
  un : Unlike T'
  mem : ∀ k, k ∈ nodesL T' ↔ k ∈ nodesL T ∨ ∃ z ∈ new, z.node = k
  kids : ∀ q, Place T q → kidsAt T' q = if q = p then kidsAt T p ++ top else kidsAt T q
  now : ∀ z ∈ new, kidsAt T' (z.node : Int) = topN z.kids
  say : ∀ z ∈ new, ∃ v ∈ itemL T', v.node = z.node ∧ v.says = z.says
  old : ∀ z ∈ itemL T, ∃ v ∈ itemL T', v.node = z.node ∧ v.says = z.says
theorem insert_end : ∀ (l : List Nat) (a : Nat), l.insertIdx l.length a = l ++ [a]
  | [], a => rfl
  | x :: l, a => by rw [List.length_cons, List.insertIdx_succ_cons, insert_end l a]; rfl
theorem put_one {T : List It} {p : Int} {y : It} (hU : Unlike T) (hp : Place T p) (hy : y.node ∉ nodesL T) : Fits T p (kidsAt T p).length (y.with []) ∧ Put T (putP T (y, p, (kidsAt T p).length)) p [y.with []] [y.node] := by
  have hF : Fits T p (kidsAt T p).length (y.with []) := by
    refine ⟨hU, hp, Nat.le_refl _, ?_, fun k hk => ?_⟩
    · rw [nodes1_eq, with_kids]; simp [nodesL]
    · rw [nodes1_eq, with_kids, with_node] at hk
      simp [nodesL] at hk
      subst hk
      exact hy
  refine ⟨hF, ins_unlike hF, fun k => ?_, fun q hq => ?_, fun z hz => ?_, fun z hz => ?_, fun z hz => ?_⟩
  · show k ∈ nodesL (insP p _ (y.with []) T) ↔ _
    rw [ins_mem hF, nodes1_eq, with_kids, with_node]
    simp [nodesL, with_node, eq_comm]
  · show kidsAt (insP p _ (y.with []) T) q = _
    rw [ins_kids_at hF hq, with_node, insert_end]
  · rw [List.mem_singleton] at hz
    subst hz
    exact ins_kids_new hF (mem_item1.mpr (Or.inl rfl))
  · rw [List.mem_singleton] at hz
    subst hz
    exact ⟨_, ins_new hF (mem_item1.mpr (Or.inl rfl)), rfl, rfl⟩
  · obtain ⟨w, hw, w1, w2, _⟩ := ins_old hF hz
    exact ⟨w, hw, w1, w2⟩
/-- what is put is in nobody's way -/
theorem put_all : (∀ y : It, ∀ (T : List It) (p : Int) (i : Nat), Unlike T → Place T p → i = (kidsAt T p).length → (nodes1 y).Nodup → (∀ k ∈ nodes1 y, k ∉ nodesL T) → Put T (putAll T (plc1 p i y)) p (item1 y) [y.node]) ∧
    ∀ l : List It, ∀ (T : List It) (p : Int) (i : Nat), Unlike T → Place T p → i = (kidsAt T p).length → Unlike l → (∀ k ∈ nodesL l, k ∉ nodesL T) → Put T (putAll T (plcL p i l)) p (itemL l) (topN l) := by
  refine It.ind (fun y h T p i hU hp hi hn hd => ?_) (fun T p i hU hp hi hn hd => ?_) (fun y ys h1 h2 T p i hU hp hi hn hd => ?_)
  · subst hi
    rw [nodes1_eq, List.nodup_cons] at hn
    obtain ⟨hF, P1⟩ := put_one hU hp (y := y) (hd _ (by rw [nodes1_eq]; simp))
    rw [plc1_eq]
    show Put T (putAll (putP T (y, p, (kidsAt T p).length)) (plcL (y.node : Int) 0 y.kids)) p (item1 y) [y.node]
    have hmy : ∀ k, k ∈ nodesL (putP T (y, p, (kidsAt T p).length)) ↔ k ∈ nodesL T ∨ k = y.node := fun k => by
      rw [P1.mem]; simp [with_node, eq_comm]
    have hky : kidsAt (putP T (y, p, (kidsAt T p).length)) (y.node : Int) = [] := by
      have := P1.now (y.with []) (by simp)
      rw [with_node, with_kids] at this
      exact this
    have P2 := h _ (y.node : Int) 0 P1.un (place_mem ((hmy _).mpr (Or.inr rfl))) (by rw [hky]; rfl) hn.2 (fun k hk hm => by
      rcases (hmy k).mp hm with h3 | h3
      · exact hd k (by rw [nodes1_eq]; simp [hk]) h3
      · exact hn.1 (h3 ▸ hk))
    have hne : ∀ q, Place T q → q ≠ (y.node : Int) := fun q hq e => by
      rcases hq with e2 | ⟨v, hv, e2⟩
      · omega
      · have : v.node = y.node := by omega
        exact hd y.node (by rw [nodes1_eq]; simp) (this ▸ node_inL hv)
    have lift : ∀ q, Place T q → Place (putP T (y, p, (kidsAt T p).length)) q := fun q hq => place_of (fun n hn => (hmy n).mpr (Or.inl hn)) hq
    refine ⟨P2.un, fun k => ?_, fun q hq => ?_, fun z hz => ?_, fun z hz => ?_, fun z hz => ?_⟩
    · rw [P2.mem, hmy, item1_eq]
      constructor
      · rintro ((h3 | h3) | ⟨z, hz, e⟩)
        · exact Or.inl h3
        · exact Or.inr ⟨y, by simp, h3.symm⟩
        · exact Or.inr ⟨z, by simp [hz], e⟩
      · rintro (h3 | ⟨z, hz, e⟩)
        · exact Or.inl (Or.inl h3)
        · rcases List.mem_cons.mp hz with rfl | hz
          · exact Or.inl (Or.inr e.symm)
          · exact Or.inr ⟨z, hz, e⟩
    · rw [P2.kids q (lift q hq), if_neg (hne q hq), P1.kids q hq]
    · rcases mem_item1.mp hz with rfl | hz
      · rw [P2.kids _ (place_mem ((hmy _).mpr (Or.inr rfl))), if_pos rfl, hky]
        rfl
      · exact P2.now z hz
    · rcases mem_item1.mp hz with rfl | hz
      · obtain ⟨v, hv, v1, v2⟩ := P1.say (z.with []) (by simp)
        obtain ⟨u, hu, u1, u2⟩ := P2.old v hv
        exact ⟨u, hu, by rw [u1, v1, with_node], by rw [u2, v2, with_says]⟩
      · exact P2.say z hz
    · obtain ⟨v, hv, v1, v2⟩ := P1.old z hz
      obtain ⟨u, hu, u1, u2⟩ := P2.old v hv
      exact ⟨u, hu, by rw [u1, v1], by rw [u2, v2]⟩
  · refine ⟨hU, fun k => ?_, fun q hq => ?_, fun z hz => ?_, fun z hz => ?_, fun z hz => ⟨z, hz, rfl, rfl⟩⟩
    · simp [plcL, putAll, itemL]
    · simp only [plcL, putAll, List.foldl_nil, topN, List.map_nil, List.append_nil]
      by_cases e : q = p
      · rw [if_pos e, e]
      · rw [if_neg e]
    · simp [itemL] at hz
    · simp [itemL] at hz
  · unfold Unlike at hn
    rw [nodesL, List.nodup_append] at hn
    obtain ⟨n1, n2, n3⟩ := hn
    have P1 := h1 T p i hU hp hi n1 (fun k hk => hd k (by rw [nodesL]; simp [hk]))
    have hm1 : ∀ k, k ∈ nodesL (putAll T (plc1 p i y)) ↔ k ∈ nodesL T ∨ k ∈ nodes1 y := fun k => by rw [P1.mem, nodes1_items, List.mem_map]
    have lift : ∀ q, Place T q → Place (putAll T (plc1 p i y)) q := fun q hq => place_of (fun n hn => (hm1 n).mpr (Or.inl hn)) hq
    have P2 := h2 _ p (i + 1) P1.un (lift p hp) (by rw [P1.kids p hp, if_pos rfl, List.length_append, hi]; rfl) n2 (fun k hk hm => by
      rcases (hm1 k).mp hm with h3 | h3
      · exact hd k (by rw [nodesL]; simp [hk]) h3
      · exact n3 k h3 k hk rfl)
    have hni : ∀ z ∈ item1 y, Place T (z.node : Int) → False := fun z hz hq => by
      rcases hq with e | ⟨v, hv, e⟩
      · omega
      · have : v.node = z.node := by omega
        exact hd z.node (by rw [nodesL]; exact List.mem_append.mpr (Or.inl (node_in1 hz))) (this ▸ node_inL hv)
    rw [plcL, putAll_app]
    refine ⟨P2.un, fun k => ?_, fun q hq => ?_, fun z hz => ?_, fun z hz => ?_, fun z hz => ?_⟩
    · rw [P2.mem, P1.mem, itemL]
      simp only [List.mem_append]
      constructor
      · rintro ((h3 | ⟨z, hz, e⟩) | ⟨z, hz, e⟩)
        · exact Or.inl h3
        · exact Or.inr ⟨z, Or.inl hz, e⟩
        · exact Or.inr ⟨z, Or.inr hz, e⟩
      · rintro (h3 | ⟨z, hz | hz, e⟩)
        · exact Or.inl (Or.inl h3)
        · exact Or.inl (Or.inr ⟨z, hz, e⟩)
        · exact Or.inr ⟨z, hz, e⟩
    · rw [P2.kids q (lift q hq)]
      by_cases e : q = p
      · rw [if_pos e, if_pos e, P1.kids p hp, if_pos rfl]
        simp [topN]
      · rw [if_neg e, if_neg e, P1.kids q hq, if_neg e]
    · rw [itemL, List.mem_append] at hz
      rcases hz with hz | hz
      · have hpz : (z.node : Int) ≠ p := fun e => hni z hz (e ▸ hp)
        rw [P2.kids _ (place_mem ((hm1 _).mpr (Or.inr (node_in1 hz)))), if_neg hpz]
        exact P1.now z hz
      · exact P2.now z hz
    · rw [itemL, List.mem_append] at hz
      rcases hz with hz | hz
      · obtain ⟨v, hv, v1, v2⟩ := P1.say z hz
        obtain ⟨u, hu, u1, u2⟩ := P2.old v hv
        exact ⟨u, hu, by rw [u1, v1], by rw [u2, v2]⟩
      · exact P2.say z hz
    · obtain ⟨v, hv, v1, v2⟩ := P1.old z hz
      obtain ⟨u, hu, u1, u2⟩ := P2.old v hv
      exact ⟨u, hu, by rw [u1, v1], by rw [u2, v2]⟩
/-- of nothing they make themselves -/
theorem put_self {l : List It} (h : Unlike l) : putAll [] (plcL (-1) 0 l) = l := by
  have P := put_all.2 l [] (-1) 0 List.nodup_nil (Or.inl rfl) rfl h (fun k _ hk => by simp [nodesL] at hk)
  refine forest_same ?_ (fun x hx y hy e => ?_)
  · have := P.kids (-1) (Or.inl rfl)
    rw [if_pos rfl, kids_top, kids_top] at this
    simpa [topN] using this
  · obtain ⟨v, hv, v1, v2⟩ := P.say y hy
    have exv : x = v := unlike_one P.un hx hv (by rw [e, v1])
    subst exv
    refine ⟨?_, v2⟩
    rw [← kids_item P.un hx, e]
    exact P.now y hy
end Go.Proofs.Ytgpckmolcdafcae

/-
  THE WALK of diff's stand: within.
-/
namespace Go.Proofs.Ytgpckmolcdafcae
open Go.RowKit Go.Maps

/-! ### what is in what -/
/-- what stands in a place that is in x, is in x; and but for x itself what is in x stands in such a place -/
theorem up_in {T : List It} (h : Unlike T) {x y : It} (hx : x ∈ itemL T) {q : Int} (hq : Place T q) (hk : y.node ∈ kidsAt T q) :
    (y.node ∈ nodes1 x ↔ y.node = x.node ∨ (0 ≤ q ∧ q.toNat ∈ nodes1 x)) := by
  constructor
  · intro hm
    rw [nodes1_eq] at hm
    rcases List.mem_cons.mp hm with e | hm
    · exact Or.inl e
    · right
      -- its place below x
      have hyk : ∃ w ∈ item1 x, y.node ∈ topN w.kids := by
        obtain ⟨v, hv, ev⟩ := in_node hm
        rcases has_place x.kids v hv with h1 | ⟨u, hu, h1⟩
        · exact ⟨x, mem_item1.mpr (Or.inl rfl), by rw [← ev]; exact List.mem_map.mpr ⟨v, h1, rfl⟩⟩
        · exact ⟨u, mem_item1.mpr (Or.inr hu), by rw [← ev]; exact List.mem_map.mpr ⟨v, h1, rfl⟩⟩
      obtain ⟨w, hw, hyw⟩ := hyk
      have hwT : w ∈ itemL T := by
        rcases mem_item1.mp hw with rfl | hw
        · exact hx
        · exact item_kids.2 T x hx w hw
      have e := kids_one h hq (place_mem (node_inL hwT)) hk (by rw [kids_item h hwT]; exact hyw)
      rw [e]
      exact ⟨by omega, by simpa using node_in1 hw⟩
  · rintro (e | ⟨h0, hm⟩)
    · rw [e, nodes1_eq]; simp
    · rcases hq with rfl | ⟨v, hv, rfl⟩
      · omega
      · rw [Int.toNat_natCast] at hm
        have hv1 : v ∈ item1 x := by
          rw [nodes1_items] at hm
          obtain ⟨u, hu, eu⟩ := List.mem_map.mp hm
          have huT : u ∈ itemL T := by
            rcases mem_item1.mp hu with rfl | hu
            · exact hx
            · exact item_kids.2 T x hx u hu
          rw [← unlike_one h huT hv eu]
          exact hu
        rw [kids_item h hv] at hk
        obtain ⟨u, hu, eu⟩ := List.mem_map.mp hk
        rw [← eu]
        apply node_in1
        rcases mem_item1.mp hv1 with rfl | hv2
        · exact mem_item1.mpr (Or.inr (top_item hu))
        · exact mem_item1.mpr (Or.inr (kid_item hv2 hu))
/-- how much a node has in it -/
def bigN (T : List It) (p : Int) : Nat := if p < 0 then (nodesL T).length + 1 else match (itemL T).find? (fun x => decide ((x.node : Int) = p)) with | some x => (nodes1 x).length | none => 0
theorem big_item {T : List It} (h : Unlike T) {x : It} (hx : x ∈ itemL T) : bigN T (x.node : Int) = (nodes1 x).length := by
  unfold bigN
  rw [if_neg (by omega)]
  cases hf : (itemL T).find? (fun y => decide ((y.node : Int) = (x.node : Int))) with
  | none =>
    have := List.find?_eq_none.mp hf x hx
    simp at this
  | some y =>
    have h1 := List.mem_of_find?_eq_some hf
    have h2 := List.find?_some hf
    have e : y = x := unlike_one h h1 hx (by have h3 : (y.node : Int) = (x.node : Int) := by simpa using h2
                                             omega)
    rw [e]
theorem len_mem1 : ∀ {l : List It} {x : It}, x ∈ l → (nodes1 x).length ≤ (nodesL l).length
  | y :: l, x, h => by
    rw [nodesL, List.length_append]
    rcases List.mem_cons.mp h with rfl | h
    · omega
    · have := len_mem1 h
      omega
theorem len_itemL : (∀ x : It, ∀ y ∈ item1 x, (nodes1 y).length ≤ (nodes1 x).length) ∧ ∀ l : List It, ∀ y ∈ itemL l, (nodes1 y).length ≤ (nodesL l).length := by
  refine It.ind (fun x h y hy => ?_) (fun y hy => by simp [itemL] at hy) (fun x xs h1 h2 y hy => ?_)
  · rcases mem_item1.mp hy with rfl | hy
    · exact Nat.le_refl _
    · have := h y hy
      rw [nodes1_eq x, List.length_cons]
      omega
  · rw [itemL, List.mem_append] at hy
    rw [nodesL, List.length_append]
    rcases hy with hy | hy
    · have := h1 y hy; omega
    · have := h2 y hy; omega
theorem big_up {T : List It} (h : Unlike T) {y : It} (hy : y ∈ itemL T) {q : Int} (hq : Place T q) (hk : y.node ∈ kidsAt T q) : bigN T (y.node : Int) < bigN T q ∧ bigN T q ≤ (nodesL T).length + 1 := by
  rw [big_item h hy]
  rcases hq with rfl | ⟨v, hv, rfl⟩
  · have h1 := len_itemL.2 T y hy
    unfold bigN
    rw [if_pos (by omega)]
    omega
  · rw [big_item h hv]
    have h1 := len_itemL.2 T v hv
    rw [kids_item h hv] at hk
    obtain ⟨u, hu, eu⟩ := List.mem_map.mp hk
    have e : u = y := unlike_one h (kid_item hv hu) hy eu
    subst e
    have h2 := len_mem1 hu
    rw [nodes1_eq v, List.length_cons]
    rw [nodes1_eq v, List.length_cons] at h1
    omega
/-- how far it is to the top, from a spot -/
noncomputable def farK (nm : Nm) (T : List It) (k : Int) : Nat := open Classical in if h : ∃ q, Place T q ∧ (ixP nm q : Int) = k then (nodesL T).length + 2 - bigN T (Classical.choose h) else 0
theorem far_at {ar : List Sp} {nm : Nm} {T : List It} (h : Rp ar nm T) {q : Int} (hq : Place T q) : farK nm T (ixP nm q : Nat) = (nodesL T).length + 2 - bigN T q := by
  have hh : ∃ r, Place T r ∧ (ixP nm r : Int) = (ixP nm q : Nat) := ⟨q, hq, rfl⟩
  unfold farK
  rw [dif_pos hh]
  obtain ⟨h1, h2⟩ := Classical.choose_spec hh
  rw [h.pinj h1 hq (by omega)]
theorem far_out (nm : Nm) (T : List It) : farK nm T (-1) = 0 := by
  unfold farK
  rw [dif_neg]
  rintro ⟨q, _, e⟩
  omega

set_option maxHeartbeats 1600000 in
theorem hwithin_any {w : World} {x : Ax} {T : List It} (h : StAt w x) (hT : Rp x.ar x.nm T) {p : Int} (hp : Place T p) {X : It} (hX : X ∈ itemL T) :
    Calls Try.prog 42 #[.pointer (some ⟨x.S, 0, none⟩), .int .i64 (ixP x.nm p : Nat), .int .i64 (ixOf x.nm X.node : Nat)] w fun e w' => e = .returned (.bool (decide (0 ≤ p) && (nodes1 X).contains p.toNat)) ∧ w' = w := by
  have s0 := h.s0
  have hcap := h.cap.1
  have hcap2 := h.cap.2
  generalize hres : (decide (0 ≤ p) && (nodes1 X).contains p.toNat) = res
  -- one step up
  have step : Hid (∀ q, Place T q → q ≠ (X.node : Int) → ∃ u : Int, w.cell? ⟨x.g, ixP x.nm q * 10 + 8, none⟩ = some (.int .i64 u) ∧ ixP x.nm q < x.ar.length ∧ ((q = -1 ∧ u = -1) ∨ ∃ r, Place T r ∧ u = (ixP x.nm r : Nat) ∧ bigN T q < bigN T r ∧ bigN T r ≤ (nodesL T).length + 1 ∧ ((0 ≤ q ∧ q.toNat ∈ nodes1 X) ↔ (0 ≤ r ∧ r.toNat ∈ nodes1 X)))) := by
    intro q hq hne
    have hql := hT.lt hq
    obtain ⟨_, A, _⟩ := h.at (ixP x.nm q) hql
    refine ⟨_, A.c8, hql, ?_⟩
    rcases hq with rfl | ⟨y, hy, rfl⟩
    · left
      have e := hT.root
      have e1 : x.ar[ixP x.nm (-1)]? = x.ar[0]? := by rw [ixP_top]
      rw [e, List.getElem?_eq_getElem hql] at e1
      rw [Option.some.inj e1]
      exact ⟨rfl, rfl⟩
    · right
      obtain ⟨r, hr, hk⟩ := in_place hT.un (node_inL hy)
      have e := hT.spot y hy r hr hk
      have e1 : x.ar[ixP x.nm (y.node : Int)]? = x.ar[ixOf x.nm y.node]? := by rw [ixP_nat]
      rw [e, List.getElem?_eq_getElem hql] at e1
      rw [Option.some.inj e1]
      obtain ⟨b1, b2⟩ := big_up hT.un hy hr hk
      refine ⟨r, hr, rfl, b1, b2, ?_⟩
      have := up_in hT.un hX (y := y) hr hk
      rw [Int.toNat_natCast]
      constructor
      · rintro ⟨_, hm⟩
        rcases this.mp hm with e2 | e2
        · exact absurd (by rw [e2]) hne
        · exact e2
      · intro hm
        exact ⟨by omega, this.mpr (Or.inr hm)⟩
  have hin : Hid (∀ q, Place T q → (ixP x.nm q = ixOf x.nm X.node ↔ q = (X.node : Int))) := fun q hq => by
    constructor
    · intro e
      exact hT.pinj hq (place_mem (node_inL hX)) (by rw [ixP_nat]; exact e)
    · rintro rfl
      exact ixP_nat _ _
  have hres0 : Hid (res = true ↔ (0 ≤ p ∧ p.toNat ∈ nodes1 X)) := by
    show _ ↔ _
    rw [← hres]
    simp
  have hXX : Hid (X.node ∈ nodes1 X) := by show _ ∈ _; rw [nodes1_eq]; simp
  have hpl : Hid (Place T p) := hp
  have FA : Hid (∀ q, Place T q → farK x.nm T (ixP x.nm q : Nat) = (nodesL T).length + 2 - bigN T q) := fun q hq => far_at hT hq
  clear h hT hres hp
  generalize ixOf x.nm X.node = ixn at *
  go_enter Try.func42, Try.ntmps42
  go_wp2_with fail
  go_loopw [1] (fun kv wr => wr = w ∧ ((kv = .int .i64 (-1) ∧ Hid (res = false)) ∨ ∃ q, Hid (Place T q) ∧ kv = .int .i64 (ixP x.nm q : Nat) ∧ Hid (res = true ↔ (0 ≤ q ∧ q.toNat ∈ nodes1 X)))) (fun kv _ => farK x.nm T (intOf kv))
  case atStart => exact ⟨rfl, Or.inr ⟨p, hpl, rfl, hres0⟩⟩
  case round =>
    obtain ⟨hww, hrel⟩ := hrel
    subst hww
    rcases hrel with ⟨rfl, HR⟩ | ⟨q, HP, rfl, HR⟩
    · have e1 : ((-1 : Int) == (ixn : Int)) = false := by simp
      go_wp2_with fail
      go_ret
      exact ⟨by rw [HR.out]; rfl, rfl⟩
    · by_cases e : q = (X.node : Int)
      · have ei : ixP x.nm q = ixn := (hin.out q HP.out).mpr e
        have er : Hid (res = true) := HR.out.mpr (by rw [e]; exact ⟨by omega, by simpa using hXX.out⟩)
        rw [ei]
        clear ei e
        have e1 : ((ixn : Int) == (ixn : Int)) = true := by simp
        go_wp2_with fail
        go_ret
        exact ⟨by rw [er.out]; rfl, rfl⟩
      · obtain ⟨u, cu, hlt, hu⟩ := step.out q HP.out e
        have ne : ((ixP x.nm q : Int) == (ixn : Int)) = false := by
          have : ixP x.nm q ≠ ixn := fun e2 => e ((hin.out q HP.out).mp e2)
          simp; omega
        have F1 : Hid (farK x.nm T (ixP x.nm q : Nat) = (nodesL T).length + 2 - bigN T q) := FA.out q HP.out
        have HU : Hid ((q = -1 ∧ u = -1) ∨ ∃ r, Place T r ∧ u = (ixP x.nm r : Nat) ∧ bigN T q < bigN T r ∧ bigN T r ≤ (nodesL T).length + 1 ∧ ((0 ≤ q ∧ q.toNat ∈ nodes1 X) ↔ (0 ≤ r ∧ r.toNat ∈ nodes1 X))) := hu
        have h0 : (0 : Int) ≤ (ixP x.nm q : Nat) := by omega
        clear e hu
        generalize ixP x.nm q = kq at *
        go_wp2_with fail
        go_roundw
        case rel =>
          refine ⟨by first | rfl | trivial, ?_⟩
          rcases HU.out with ⟨e1, e2⟩ | ⟨r, hr, e1, _, _, hm⟩
          · left
            have h1 := HR.out
            rw [e1] at h1
            refine ⟨by rw [e2], ?_⟩
            show res = false
            cases res with
            | false => rfl
            | true => have := (h1.mp rfl).1; omega
          · right
            exact ⟨r, hr, by rw [e1], HR.out.trans hm⟩
        case measure =>
          simp only [intOf]
          rw [F1.out]
          rcases HU.out with ⟨e1, e2⟩ | ⟨r, hr, e1, b1, b2, _⟩
          · have h2 : bigN T q = (nodesL T).length + 1 := by rw [e1]; unfold bigN; rw [if_pos (by omega)]
            rw [e2, far_out]
            omega
          · rw [e1, FA.out r hr]
            omega
end Go.Proofs.Ytgpckmolcdafcae

/-
  THE WALK of diff's stand: forget.
-/
namespace Go.Proofs.Ytgpckmolcdafcae
open Go.RowKit Go.Maps

theorem less_cons (nm : Nm) (n : Nat) (ns : List Nat) : lessN (updN nm n none) ns = lessN nm (n :: ns) := by
  funext m
  unfold lessN updN
  by_cases h1 : m = n
  · subst h1; simp
  · by_cases h2 : m ∈ ns <;> simp [h1, h2]
theorem mem_nodes1L : ∀ {l : List It} {y : It} {n : Nat}, y ∈ l → n ∈ nodes1 y → n ∈ nodesL l := fun {l y n} h hn => by
  rw [nodes1_items] at hn
  obtain ⟨z, hz, e⟩ := List.mem_map.mp hn
  rw [← e]
  exact node_inL (mem_itemL.mpr ⟨y, h, hz⟩)
theorem less_app (nm : Nm) (a b : List Nat) : lessN (lessN nm a) b = lessN nm (a ++ b) := by
  funext m
  unfold lessN
  by_cases h1 : m ∈ a <;> by_cases h2 : m ∈ b <;> simp [h1, h2]

theorem step_delete {w : World} {ops : Array Oper} {o : Oper} {a : Act} {K : Act → World → Prop} {Q : Exit → Act → World → Prop} {E : Prop} (hg : o.guard = none) (m y : Operand)
    (hop : o.op = Op.call { callee := Callee.builtin Builtin.delete, args := #[m, y], argTypes := #[42, 3] }) {x : Ax} (h : StAt w x) {k : Nat} (hk : k < 9223372036854775808)
    (hm : a.eval m = .map (some x.M)) (hy : a.eval y = .int .i64 (k : Int)) (hK : ∀ w', StAt w' (x.setNm (updN x.nm k none)) → Fw x (x.setNm (updN x.nm k none)) w w' → K (a.put o.dst (.tuple #[])) w') : if Region.wanted o (yielded ops a.tmps) = true then Oper.wp Try.prog o a w K Q else E := by
  have hw : Region.wanted o (yielded ops a.tmps) = true := by simp [Region.wanted, hg]
  rw [if_pos hw]
  obtain ⟨w', hrun, r1, r2⟩ := h.map.drop k hk o.type
  obtain ⟨G1, G2⟩ := h.setMap r1 r2
  unfold Oper.wp
  simp [execOp, hop, resolve, invoke, builtin, hm, hy, hrun, Result.andThen]
  exact hK w' G1 G2

set_option maxHeartbeats 1600000 in
theorem hforget_any (ix : Nat → Nat) (m : Nat) : ∀ (y : It) (w : World) (x : Ax), StAt w x → Subs x.ar ix y → (nodes1 y).length ≤ m → (∀ n ∈ nodes1 y, n < 9223372036854775808) →
    Calls Try.prog 45 #[.pointer (some ⟨x.S, 0, none⟩), .int .i64 (ix y.node : Nat)] w fun e w' => e = .returned (.tuple #[]) ∧ StAt w' (x.setNm (lessN x.nm (nodes1 y))) ∧ Fw x (x.setNm (lessN x.nm (nodes1 y))) w w' := by
  induction m with
  | zero => intro y w x h hs hm; have := nodes_pos y; omega
  | succ m ih =>
    intro y w x h hs hm hb
    obtain ⟨up, hsp⟩ := hs.head
    obtain ⟨p, c, L⟩ := h.spot hsp
    have s0 := h.s0
    have s1 := h.s1
    have hcap := h.cap.1
    have hcap2 := h.cap.2
    have c0 := L.at_.c0
    simp only [with_node] at c0
    have ey : nodes1 y = y.node :: nodesL y.kids := nodes1_eq y
    have hyb : y.node < 9223372036854775808 := hb _ (by rw [ey]; simp)
    have HSP : Hid (x.ar[ix y.node]? = some ⟨y.with [], up, (topN y.kids).map ix⟩) := hsp
    have HKV : Hid (x.kvs[ix y.node]? = some (.slice p ((topN y.kids).map ix).length c)) := L.kv
    have HS : Hid (Subs x.ar ix y) := hs
    have HD : Hid (StAt w.drew x) := h.drew
    have HY : Hid (nodes1 y = y.node :: nodesL y.kids) := ey
    have HB : Hid (∀ n ∈ nodes1 y, n < 9223372036854775808) := hb
    have HM : Hid ((nodesL y.kids).length ≤ m) := by show _ ≤ _; rw [ey, List.length_cons] at hm; omega
    have hlt := L.lt
    have SS : ∀ w'', Keeps w w'' → (fun w'' => w''.cell? ⟨x.S, 0, none⟩ = some (.slice (some ⟨x.g, 0, none⟩) x.ar.length x.cap) ∧ w''.cell? ⟨x.S, 1, none⟩ = some (.map (some x.M)) ∧ w''.cell? ⟨x.g, ix y.node * 10, none⟩ = some (.int .i64 (y.node : Int))) w'' := fun w'' hk => ⟨hk _ _ s0, hk _ _ s1, hk _ _ c0⟩
    have hlen : ((topN y.kids).map ix).length = y.kids.length := by simp [topN]
    -- the list of kids, at whatever world of the loop
    have T : Hid (∀ wr nm, StAt wr (x.setNm nm) → wr.cell? ⟨x.g, ix y.node * 10 + 9, none⟩ = some (.slice p y.kids.length c) ∧ ∀ j (hj : j < y.kids.length), ∃ b o, p = some ⟨b, o, none⟩ ∧ wr.cell? ⟨b, o + j, none⟩ = some (.int .i64 (ix (y.kids[j]).node : Nat))) := by
      intro wr nm hg
      have L2 := hg.again (s := ⟨y.with [], up, (topN y.kids).map ix⟩) HSP.out HKV.out
      have c9 := L2.at_.c9
      rw [hlen] at c9
      refine ⟨c9, fun j hj => ?_⟩
      obtain ⟨b, o, e1, e2⟩ := L2.ints j (by simp only [hlen]; exact hj)
      refine ⟨b, o, e1, ?_⟩
      rw [e2]
      simp [topN]
    have hkc : y.kids.length ≤ c := by have := L.le; simp only [hlen] at this; exact this
    have hkm : c ≤ 9223372036854775807 := L.max
    clear L hlen hs hsp h hm hb ey
    go_enter Try.func45, Try.ntmps45
    go_wp2_with fail
    go_region_held3 (fun w'' => w''.cell? ⟨x.S, 0, none⟩ = some (.slice (some ⟨x.g, 0, none⟩) x.ar.length x.cap) ∧ w''.cell? ⟨x.S, 1, none⟩ = some (.map (some x.M)) ∧ w''.cell? ⟨x.g, ix y.node * 10, none⟩ = some (.int .i64 (y.node : Int)))
      ((first | assumption | (apply SS; repeat (first | exact Keeps.refl _ | apply keeps_drew | apply keeps_alloc'))))
      (first
        | (refine step_delete rfl _ _ rfl HD.out hyb rfl rfl ?_; intro w2 G2 F2; have SK : w2.cell? ⟨x.S, 0, none⟩ = some (.slice (some ⟨x.g, 0, none⟩) x.ar.length x.cap) ∧ w2.cell? ⟨x.S, 1, none⟩ = some (.map (some x.M)) ∧ w2.cell? ⟨x.g, ix y.node * 10, none⟩ = some (.int .i64 (y.node : Int)) := ⟨G2.s0, G2.s1, (by have c2 := (G2.again (s := ⟨y.with [], up, (topN y.kids).map ix⟩) HSP.out HKV.out).at_.c0; simp only [with_node] at c2; exact c2)⟩))
    have s2 : w2.cell? ⟨x.S, 0, none⟩ = some (.slice (some ⟨x.g, 0, none⟩) x.ar.length x.cap) := G2.s0
    have c29 := (T.out _ _ G2).1
    have FX : Hid (Fw x (x.setNm (updN x.nm y.node none)) w w2) := (Fw.below (bel_drewN _ w 1)).trans F2
    have GX : Hid (StAt w2 (x.setNm (updN x.nm y.node none))) := G2
    clear SK G2 F2 SS s0 s1 c0 HD
    go_wp2_with fail
    go_loopw [5, 28] (fun _ iv wr => ∃ j : Nat, j ≤ y.kids.length ∧ iv = .int .i64 j ∧ Hid (StAt wr (x.setNm (lessN x.nm (y.node :: nodesL (y.kids.take j))))) ∧ Hid (Fw x (x.setNm (lessN x.nm (y.node :: nodesL (y.kids.take j)))) w wr)) (fun _ iv _ => y.kids.length - (intOf iv).toNat)
    case atStart =>
      refine ⟨0, Nat.zero_le _, rfl, ?_, ?_⟩
      · have := GX.out
        rw [show lessN x.nm (y.node :: nodesL (y.kids.take 0)) = updN x.nm y.node none by rw [← less_cons]; simp [nodesL]; funext n; simp [lessN]]
        exact this
      · have := FX.out
        rw [show lessN x.nm (y.node :: nodesL (y.kids.take 0)) = updN x.nm y.node none by rw [← less_cons]; simp [nodesL]; funext n; simp [lessN]]
        exact this
    case round =>
      obtain ⟨j, hj, rfl, HG, HF⟩ := hrel
      by_cases hlt2 : j < y.kids.length
      · obtain ⟨b, o, rfl, cj⟩ := (T.out _ _ HG.out).2 j hlt2
        have HC := ih y.kids[j] wr _ HG.out (HS.out.kid (List.getElem_mem hlt2)) (Nat.le_trans (len_mem1 (List.getElem_mem hlt2)) HM.out) (fun n hn => HB.out n (by rw [HY.out]; exact List.mem_cons.mpr (Or.inr (mem_nodes1L (List.getElem_mem hlt2) hn))))
        have E : Hid (lessN (lessN x.nm (y.node :: nodesL (y.kids.take j))) (nodes1 y.kids[j]) = lessN x.nm (y.node :: nodesL (y.kids.take (j + 1)))) := by
          show _ = _
          rw [less_app, List.take_succ_eq_append_getElem hlt2, nodesL_app, List.cons_append]
          simp [nodesL]
        have eS : (x.setNm (lessN x.nm (y.node :: nodesL (y.kids.take j)))).S = x.S := rfl
        rw [eS] at HC
        generalize ix (y.kids[j]).node = kk at *
        clear c29 s2
        go_wp2_with (go_at_call 45; refine HC.mono ?_; clear HC; rintro e w5 ⟨rfl, g5, f5⟩)
        go_roundw
        case rel =>
          refine ⟨j + 1, by omega, by go_num, ?_, ?_⟩
          · have := g5
            rw [← E.out]
            exact this
          · have := HF.out.trans f5
            rw [← E.out]
            exact this
        case measure => simp [intOf]; omega
      · obtain rfl : j = y.kids.length := by omega
        rw [List.take_length] at HG HF
        go_wp2_with fail
        go_end0
        rw [HY.out]
        exact ⟨rfl, HG.out, HF.out⟩
end Go.Proofs.Ytgpckmolcdafcae

/-
  THE WALKS of diff's stand: fill, standing.
-/
namespace Go.Proofs.Ytgpckmolcdafcae
open Go.RowKit Go.Maps

theorem kids_few {T : List It} (h : Unlike T) {p : Int} (hp : Place T p) : (kidsAt T p).length ≤ (nodesL T).length := by
  rcases hp with rfl | ⟨x, hx, rfl⟩
  · rw [kids_top]
    exact (top_sub T).length_le
  · rw [kids_item h hx]
    have h1 := (top_sub x.kids).length_le
    have h2 := len_itemL.2 T x hx
    rw [nodes1_eq, List.length_cons] at h2
    omega
theorem rd_bounds {w : World} {P : Nat → Prop} {v : Value} {l : List It} (h : RdI w P v l) : ∃ p c, v = .slice p l.length c ∧ l.length ≤ c ∧ c ≤ 9223372036854775807 ∧ ∀ j (hj : j < l.length), ∃ b o kv, p = some ⟨b, o, none⟩ ∧ P b ∧ ItAt w b (o + j * 8) l[j] kv ∧ RdI w P kv l[j].kids := h.at

set_option maxHeartbeats 3200000 in
set_option maxRecDepth 100000 in
theorem hfill_any (m : Nat) : ∀ (v : Value) (l : List It) (w : World) (x : Ax) (T : List It) (p : Int), StAt w x → Rp x.ar x.nm T → Place T p → kidsAt T p = [] → RdI w (fun g => ¬ x.foot g) v l → Unlike l → (∀ k ∈ nodesL l, k ∉ nodesL T ∧ k < 9223372036854775808) → (nodesL l).length ≤ m → x.ar.length + (nodesL l).length ≤ 500000 →
    Calls Try.prog 24 #[.pointer (some ⟨x.S, 0, none⟩), .int .i64 (ixP x.nm p : Nat), v] w fun e w' => e = .returned (.tuple #[]) ∧ ∃ x', StAt w' x' ∧ Rp x'.ar x'.nm (putAll T (plcL p 0 l)) ∧ x'.ar.length = x.ar.length + (nodesL l).length ∧ (∀ q, Place T q → ixP x'.nm q = ixP x.nm q) ∧ Fw x x' w w' := by
  induction m with
  | zero =>
    intro v l w x T p h hT hp hk hr hU hd hm hz
    have hl : l = [] := by
      have := top_few l
      exact List.length_eq_zero_iff.mp (by omega)
    subst hl
    obtain ⟨pv, c, rfl⟩ := hr.shape
    clear hr
    go_enter Try.func24, Try.ntmps24
    go_wp2_with fail
    refine wp_loop_rounds 1 ?_
    rw [rounds_succ]
    go_wp2_with fail
    go_end0
    exact ⟨rfl, x, h, by simpa [plcL, putAll] using hT, by simp [nodesL], fun _ _ => rfl, Fw.refl _ _⟩
  | succ m ih =>
    intro v l w x T p h hT hp hk hr hU hd hm hz
    obtain ⟨pv, c, rfl, y1, y2, hat⟩ := rd_bounds hr
    have HR : Hid (RdI w (fun g => ¬ x.foot g) (.slice pv l.length c) l) := hr
    have H0 : Hid (StAt w x) := h
    have HT0 : Hid (Rp x.ar x.nm T) := hT
    have HP : Hid (Place T p) := hp
    have HK : Hid (kidsAt T p = []) := hk
    have HU : Hid (Unlike l) := hU
    have HD : Hid (∀ k ∈ nodesL l, k ∉ nodesL T ∧ k < 9223372036854775808) := hd
    have HM : Hid ((nodesL l).length ≤ m + 1) := hm
    have HZ : Hid (x.ar.length + (nodesL l).length ≤ 500000) := hz
    -- what there is behind j of them
    have HQ : Hid (∀ j, j ≤ l.length → Put T (putAll T (plcL p 0 (l.take j))) p (itemL (l.take j)) (topN (l.take j))) := fun j _ => by
      have hs : (nodesL (l.take j)).Sublist (nodesL l) := by
        have e : nodesL l = nodesL (l.take j) ++ nodesL (l.drop j) := by rw [← nodesL_app, List.take_append_drop]
        rw [e]
        exact List.sublist_append_left _ _
      exact put_all.2 (l.take j) T p 0 hT.un hp (by rw [hk]; rfl) (hs.nodup hU) (fun k hk2 => (hd k (hs.subset hk2)).1)
    have slt : x.S < w.heap.size := h.lt _ (Or.inl rfl)
    clear hr hat h hT hp hk hU hd hm hz
    generalize hup : ixP x.nm p = up at *
    have HUP : Hid (ixP x.nm p = up) := hup
    clear hup
    go_enter Try.func24, Try.ntmps24
    go_wp2_with fail
    go_loopw [10] (fun iv wr => ∃ (j : Nat) (xj : Ax), j ≤ l.length ∧ iv = .int .i64 j ∧ Hid (StAt wr xj) ∧ Hid (Rp xj.ar xj.nm (putAll T (plcL p 0 (l.take j)))) ∧ Hid (xj.ar.length = x.ar.length + (nodesL (l.take j)).length) ∧ Hid (∀ q, Place T q → ixP xj.nm q = ixP x.nm q) ∧ Hid (Fw x xj w wr)) (fun iv _ => l.length - (intOf iv).toNat)
    case atStart => exact ⟨0, x, Nat.zero_le _, rfl, H0, (by show Rp _ _ _; simpa [plcL, putAll] using HT0.out), (by show _ = _; simp [nodesL]), (fun _ _ => rfl), Fw.refl _ _⟩
    case round =>
      obtain ⟨j, xj, hj, rfl, HX, HT, HL, HI, HF⟩ := hrel
      by_cases hlt : j < l.length
      · obtain ⟨p', c', e, _, _, hat⟩ := rd_bounds (HF.out.rd HR.out)
        cases e
        obtain ⟨b, o, kv, rfl, hbn, IA, hkr⟩ := hat j hlt
        obtain ⟨pk, ck, ekv⟩ := hkr.shape
        subst ekv
        have c0 := IA.c0
        have c1 := IA.c1
        have c2 := IA.c2
        have c3 := IA.c3
        have c4 := IA.c4
        have c5 := IA.c5
        have c6 := IA.c6
        have c7 := IA.c7
        have hbl := lt_of_cell c0
        have hP := HQ.out j hj
        have hpl : Place (putAll T (plcL p 0 (l.take j))) p := place_of (fun n hn => (hP.mem n).mpr (Or.inl hn)) HP.out
        have hkj : (kidsAt (putAll T (plcL p 0 (l.take j))) p).length = j := by
          rw [hP.kids p HP.out, if_pos rfl, HK.out]
          simp [topN, Nat.min_eq_left hj]
        have hyl : l[j] ∈ l := List.getElem_mem hlt
        have hyd := HD.out (l[j]).node (by rw [nodesL_items]; exact List.mem_map.mpr ⟨_, top_item hyl, rfl⟩)
        have hyT : (l[j]).node ∉ nodesL (putAll T (plcL p 0 (l.take j))) := fun hm => by
          rcases (hP.mem _).mp hm with h3 | ⟨z, hz, ez⟩
          · exact hyd.1 h3
          · have hU2 := HU.out
            unfold Unlike at hU2
            have e2 : nodesL l = nodesL (l.take j) ++ (l[j].node :: nodesL l[j].kids ++ nodesL (l.drop (j + 1))) := by
              conv => lhs; rw [← List.take_append_drop j l, nodesL_app, List.drop_eq_getElem_cons hlt, nodesL, nodes1_eq]
            rw [e2, List.nodup_append] at hU2
            exact hU2.2.2 (l[j]).node (by rw [← ez]; exact node_inL hz) (l[j]).node (by simp) rfl
        obtain ⟨hF1, hF2⟩ := put_one hP.un hpl hyT
        rw [hkj] at hF1
        clear hF2
        have hR1 := HT.out.put hF1
        have hup2 : ixP xj.nm p = up := by rw [HI.out p HP.out, HUP.out]
        rw [hup2] at hR1
        have hupl : up < xj.ar.length := by rw [← hup2]; exact HT.out.lt hpl
        have hnl : (nodesL (l.take j)).length + (nodes1 l[j]).length ≤ (nodesL l).length := by
          have e2 : nodesL l = nodesL (l.take j) ++ (nodes1 l[j] ++ nodesL (l.drop (j + 1))) := by
            conv => lhs; rw [← List.take_append_drop j l, nodesL_app, List.drop_eq_getElem_cons hlt, nodesL]
          rw [e2, List.length_append, List.length_append]
          omega
        have hln := top_few l
        have hzz := HZ.out
        have hll := HL.out
        have hkf : ∀ s, xj.ar[up]? = some s → s.kids.length ≤ 500000 ∧ j ≤ s.kids.length := fun s hs => by
          obtain ⟨s', e1, e2, _⟩ := HT.out.place hpl
          rw [hup2, hs] at e1
          cases e1
          rw [e2, List.length_map, hkj]
          omega
        have W1 : Below wr.heap.size wr (wr.alloc (.cells #[.int .i64 (l[j].node : Int), .int .i64 l[j].role, .string l[j].name, .string l[j].about, .int .i64 l[j].level, .int .i64 l[j].checked, .bool l[j].off, .slice pk l[j].kids.length ck] 26)) := (Below.refl _ _).alloc (Nat.le_refl _) _
        have BX := box8_new wr (.int .i64 (l[j].node : Int)) (.int .i64 l[j].role) (.string l[j].name) (.string l[j].about) (.int .i64 l[j].level) (.int .i64 l[j].checked) (.bool l[j].off) (.slice pk l[j].kids.length ck) 26
        have X1 : StAt (wr.alloc (.cells #[.int .i64 (l[j].node : Int), .int .i64 l[j].role, .string l[j].name, .string l[j].about, .int .i64 l[j].level, .int .i64 l[j].checked, .bool l[j].off, .slice pk l[j].kids.length ck] 26)).drew xj := (HX.out.below W1).drew
        have F1 : Hid (Fw xj xj wr (wr.alloc (.cells #[.int .i64 (l[j].node : Int), .int .i64 l[j].role, .string l[j].name, .string l[j].about, .int .i64 l[j].level, .int .i64 l[j].checked, .bool l[j].off, .slice pk l[j].kids.length ck] 26)).drew) := (Fw.below W1).trans (Fw.below (bel_drewN _ _ 1))
        have NF : Hid (¬ xj.foot wr.heap.size) := fun hf => by have := HX.out.lt _ hf; omega
        have PU := hput_any X1 hupl (by omega) hkf l[j] hyd.2 pk l[j].kids.length ck
        have HR6 : Hid (RdI wr (fun g => ¬ xj.foot g) (.slice pk l[j].kids.length ck) l[j].kids) := hkr
        have HY : Hid (l[j].node ∉ nodesL (putAll T (plcL p 0 (l.take j)))) := hyT
        have HPP : Hid (Put T (putAll T (plcL p 0 (l.take j))) p (itemL (l.take j)) (topN (l.take j))) := hP
        have HR1 : Hid _ := hR1
        have HF1 : Hid (Fits (putAll T (plcL p 0 (l.take j))) p j (l[j].with [])) := hF1
        have HNL : Hid ((nodesL (l.take j)).length + (nodes1 l[j]).length ≤ (nodesL l).length) := hnl
        have HUK : Hid (Unlike l[j].kids) := unlike_sub HU.out (top_item hyl)
        have HTK : Hid (putAll T (plcL p 0 (l.take (j + 1))) = putAll (insP p j (l[j].with []) (putAll T (plcL p 0 (l.take j)))) (plcL (l[j].node : Int) 0 l[j].kids)) := by
          show _ = _
          rw [plcL_take p l 0 j hlt, putAll_app, plc1_eq, Nat.zero_add]
          rfl
        have HDK : Hid (∀ k ∈ nodesL l[j].kids, k ∉ nodesL (insP p j (l[j].with []) (putAll T (plcL p 0 (l.take j)))) ∧ k < 9223372036854775808) := by
          intro k hk
          have hkl : k ∈ nodesL l := by
            obtain ⟨z, hz, ez⟩ := in_node hk
            rw [← ez]
            exact node_inL (item_kids.2 l _ (top_item hyl) z hz)
          refine ⟨fun hm => ?_, (HD.out k hkl).2⟩
          rw [ins_mem HF1.out, nodes1_eq, with_kids, with_node] at hm
          have hU2 := HU.out
          unfold Unlike at hU2
          have e2 : nodesL l = nodesL (l.take j) ++ (l[j].node :: nodesL l[j].kids ++ nodesL (l.drop (j + 1))) := by
            conv => lhs; rw [← List.take_append_drop j l, nodesL_app, List.drop_eq_getElem_cons hlt, nodesL, nodes1_eq]
          rw [e2, List.nodup_append] at hU2
          rcases hm with hm | hm
          · rcases (HPP.out.mem _).mp hm with h3 | ⟨z, hz, ez⟩
            · exact (HD.out k hkl).1 h3
            · exact hU2.2.2 k (by rw [← ez]; exact node_inL hz) k (by simp [hk]) rfl
          · simp [nodesL] at hm
            subst hm
            have h5 := hU2.2.1
            rw [List.cons_append, List.nodup_cons] at h5
            exact h5.1 (by simp [hk])
        have HKK : Hid (kidsAt (insP p j (l[j].with []) (putAll T (plcL p 0 (l.take j)))) (l[j].node : Int) = []) := by
          have := ins_kids_new HF1.out (mem_item1.mpr (Or.inl rfl))
          rw [with_kids, with_node] at this
          exact this
        have HNK : Hid ((nodesL l[j].kids).length ≤ m ∧ (nodesL l[j].kids).length + 1 = (nodes1 l[j]).length) := by
          have h1 : (nodes1 l[j]).length = (nodesL l[j].kids).length + 1 := by rw [nodes1_eq, List.length_cons]
          have h2 := HM.out
          exact ⟨by omega, by omega⟩
        have HNT : Hid ((nodesL (l.take (j + 1))).length = (nodesL (l.take j)).length + (nodes1 l[j]).length) := by
          show _ = _
          rw [List.take_succ_eq_append_getElem hlt, nodesL_app, List.length_append]
          simp [nodesL]
        clear hP hpl hkj hyl hyd hyT hF1 hR1 hup2 hnl hkf W1 X1 hkr hbn hat IA
        generalize hT2 : putAll T (plcL p 0 (l.take j)) = Tj at *
        clear hT2
        generalize hyy : l[j] = y at *
        clear hyy
        generalize y.role = y1 at *
        generalize y.name = y2 at *
        generalize y.about = y3 at *
        generalize y.level = y4 at *
        generalize y.checked = y5 at *
        generalize y.off = y6 at *
        go_upto_region 3 with fail
        have NLT : wr.heap.size < (wr.alloc (.cells #[.int .i64 (y.node : Int), .int .i64 y1, .string y2, .string y3, .int .i64 y4, .int .i64 y5, .bool y6, .slice pk y.kids.length ck] 26)).heap.size := by simp
        generalize wr.alloc (.cells #[.int .i64 (y.node : Int), .int .i64 y1, .string y2, .string y3, .int .i64 y4, .int .i64 y5, .bool y6, .slice pk y.kids.length ck] 26) = W at *
        have eS : xj.S = x.S := HF.out.S
        rw [eS] at PU
        have BXd : Box8 wr.heap.size (.int .i64 (y.node : Int)) (.int .i64 y1) (.string y2) (.string y3) (.int .i64 y4) (.int .i64 y5) (.bool y6) (.slice pk y.kids.length ck) W.drew := BX
        have CK : Hid (∀ (w6 : World) (x6 : Ax), StAt w6 x6 → x6.ar = enterA (xj.ar ++ [⟨y.with [], 0, []⟩]) xj.ar.length up j → x6.nm = updN xj.nm y.node (some xj.ar.length) → Fw xj x6 W.drew w6 →
            Calls Try.prog 24 #[.pointer (some ⟨x.S, 0, none⟩), .int .i64 (xj.ar.length : Int), .slice pk y.kids.length ck] w6 fun e w' => e = .returned (.tuple #[]) ∧ ∃ x', StAt w' x' ∧ Rp x'.ar x'.nm (putAll T (plcL p 0 (l.take (j + 1)))) ∧ x'.ar.length = x.ar.length + (nodesL (l.take (j + 1))).length ∧ (∀ q, Place T q → ixP x'.nm q = ixP x.nm q) ∧ Fw x x' w w' ∧ ∀ (i : Nat) (v : Value), w6.cell? ⟨wr.heap.size, i, none⟩ = some v → w'.cell? ⟨wr.heap.size, i, none⟩ = some v) := by
          intro w6 x6 g1 g2 g3 g4
          have hR6 : Rp x6.ar x6.nm (insP p j (y.with []) Tj) := by rw [g2, g3]; exact HR1.out
          have e6 : ixP x6.nm (y.node : Int) = xj.ar.length := by rw [ixP_nat, g3, ix_upd_same]
          have l6 : x6.ar.length = xj.ar.length + 1 := by rw [g2, enter_len, List.length_append]; rfl
          have hS6 : x6.S = x.S := g4.S.trans eS
          have hrd := (F1.out.trans g4).rd HR6.out
          have h7 := HNK.out
          have h8 := HNL.out
          have h9 := HNT.out
          have C := ih (.slice pk y.kids.length ck) y.kids w6 x6 _ (y.node : Int) g1 hR6 (place_mem (by rw [ins_mem HF1.out, nodes1_eq, with_node]; simp)) HKK.out hrd HUK.out HDK.out h7.1 (by omega)
          rw [e6, hS6] at C
          refine C.mono ?_
          rintro e w7 ⟨r1, x7, r2, r3, r4, r5, r6⟩
          refine ⟨r1, x7, r2, by rw [HTK.out]; exact r3, by omega, fun q hq => ?_, (HF.out.trans (F1.out.trans g4)).trans r6, fun i v hv => r6.cell hv (fun hf => by
            rcases g4.foot _ hf with h1 | h1
            · exact NF.out h1
            · have : wr.heap.size < W.drew.heap.size := NLT
              exact absurd h1 (by simp only at *; omega))⟩
          have hqT : Place Tj q := place_of (fun n hn => (HPP.out.mem n).mpr (Or.inl hn)) hq
          rw [r5 q (place_of (fun n hn => (ins_mem HF1.out n).mpr (Or.inl hn)) hqT), g3, ixP_upd (fun e2 => ?_), HI.out q hq]
          rcases hqT with e3 | ⟨v, hv, e3⟩
          · omega
          · have : v.node = y.node := by omega
            exact HY.out (this ▸ node_inL hv)
        have NFx : Hid (∀ x6 w6, Fw xj x6 W.drew w6 → ∀ (i : Nat) (v : Value), W.drew.cell? ⟨wr.heap.size, i, none⟩ = some v → w6.cell? ⟨wr.heap.size, i, none⟩ = some v) := fun x6 w6 hf i v hv => hf.cell hv NF.out
        clear HR1 HF1 HTK HDK HKK HNK HNL HNT HPP HY HR6 HUK F1 BX hzz hll hln c0 c1 c2 c3 c4 c5 c6 c7 HT HL HI
        generalize wr.heap.size = N at *
        have SS : ∀ w'', Keeps W w'' → (fun w'' : World => w''.cell? ⟨N, 0, none⟩ = some (.int .i64 (y.node : Int)) ∧ w''.cell? ⟨N, 1, none⟩ = some (.int .i64 y1) ∧ w''.cell? ⟨N, 2, none⟩ = some (.string y2) ∧ w''.cell? ⟨N, 3, none⟩ = some (.string y3) ∧ w''.cell? ⟨N, 4, none⟩ = some (.int .i64 y4) ∧ w''.cell? ⟨N, 5, none⟩ = some (.int .i64 y5) ∧ w''.cell? ⟨N, 6, none⟩ = some (.bool y6) ∧ w''.cell? ⟨N, 7, none⟩ = some (.slice pk y.kids.length ck)) w'' := fun w'' hk => Box8.keeps (a0 := (.int .i64 (y.node : Int))) (a1 := (.int .i64 y1)) (a2 := (.string y2)) (a3 := (.string y3)) (a4 := (.int .i64 y4)) (a5 := (.int .i64 y5)) (a6 := (.bool y6)) (a7 := (.slice pk y.kids.length ck)) BXd (fun i v hv => hk _ _ hv)
        go_region_held3 (fun w'' : World => w''.cell? ⟨N, 0, none⟩ = some (.int .i64 (y.node : Int)) ∧ w''.cell? ⟨N, 1, none⟩ = some (.int .i64 y1) ∧ w''.cell? ⟨N, 2, none⟩ = some (.string y2) ∧ w''.cell? ⟨N, 3, none⟩ = some (.string y3) ∧ w''.cell? ⟨N, 4, none⟩ = some (.int .i64 y4) ∧ w''.cell? ⟨N, 5, none⟩ = some (.int .i64 y5) ∧ w''.cell? ⟨N, 6, none⟩ = some (.bool y6) ∧ w''.cell? ⟨N, 7, none⟩ = some (.slice pk y.kids.length ck))
          ((first | assumption | (apply SS; repeat (first | exact Keeps.refl _ | apply keeps_drew | apply keeps_alloc'))))
          (first
            | (go_at_call 40; refine PU.mono ?_; clear PU; rintro e w6 ⟨rfl, x6, g1, g2, g3, g4⟩; have A6 : (fun w'' : World => w''.cell? ⟨N, 0, none⟩ = some (.int .i64 (y.node : Int)) ∧ w''.cell? ⟨N, 1, none⟩ = some (.int .i64 y1) ∧ w''.cell? ⟨N, 2, none⟩ = some (.string y2) ∧ w''.cell? ⟨N, 3, none⟩ = some (.string y3) ∧ w''.cell? ⟨N, 4, none⟩ = some (.int .i64 y4) ∧ w''.cell? ⟨N, 5, none⟩ = some (.int .i64 y5) ∧ w''.cell? ⟨N, 6, none⟩ = some (.bool y6) ∧ w''.cell? ⟨N, 7, none⟩ = some (.slice pk y.kids.length ck)) w6 := Box8.keeps (a0 := (.int .i64 (y.node : Int))) (a1 := (.int .i64 y1)) (a2 := (.string y2)) (a3 := (.string y3)) (a4 := (.int .i64 y4)) (a5 := (.int .i64 y5)) (a6 := (.bool y6)) (a7 := (.slice pk y.kids.length ck)) BXd (NFx.out x6 w6 g4); have C6 := CK.out w6 x6 g1 g2 g3 g4)
            | (go_at_call 24; refine C6.mono ?_; clear C6; rintro e w7 ⟨rfl, x7, r2, r3, r4, r5, r6, r7⟩; have A7 : (fun w'' : World => w''.cell? ⟨N, 0, none⟩ = some (.int .i64 (y.node : Int)) ∧ w''.cell? ⟨N, 1, none⟩ = some (.int .i64 y1) ∧ w''.cell? ⟨N, 2, none⟩ = some (.string y2) ∧ w''.cell? ⟨N, 3, none⟩ = some (.string y3) ∧ w''.cell? ⟨N, 4, none⟩ = some (.int .i64 y4) ∧ w''.cell? ⟨N, 5, none⟩ = some (.int .i64 y5) ∧ w''.cell? ⟨N, 6, none⟩ = some (.bool y6) ∧ w''.cell? ⟨N, 7, none⟩ = some (.slice pk y.kids.length ck)) w7 := Box8.keeps (a0 := (.int .i64 (y.node : Int))) (a1 := (.int .i64 y1)) (a2 := (.string y2)) (a3 := (.string y3)) (a4 := (.int .i64 y4)) (a5 := (.int .i64 y5)) (a6 := (.bool y6)) (a7 := (.slice pk y.kids.length ck)) A6 r7; have R2 : Hid _ := r2; have R3 : Hid _ := r3; have R4 : Hid _ := r4; have R5 : Hid _ := r5; have R6 : Hid _ := r6; clear r2 r3 r4 r5 r6 r7))
        clear A6 A7 g1 g2 g3 g4 BXd SS CK NFx
        go_wp2_with fail
        go_roundw
        case rel => exact ⟨j + 1, x7, by omega, by go_num, R2, R3, R4, R5, R6⟩
        case measure => simp [intOf]; omega
      · obtain rfl : j = l.length := by omega
        rw [List.take_length] at HT HL
        go_wp2_with fail
        go_end0
        exact ⟨rfl, xj, HX.out, HT.out, HL.out, HI.out, HF.out⟩

/-- the same stand, in another box -/
theorem StAt.box {w : World} {x : Ax} (h : StAt w x) {S : Nat} (c0 : w.cell? ⟨S, 0, none⟩ = some (.slice (some ⟨x.g, 0, none⟩) x.ar.length x.cap)) (c1 : w.cell? ⟨S, 1, none⟩ = some (.map (some x.M)))
    (f0 : w.frozen? ⟨S, 0, none⟩ = false) (f1 : w.frozen? ⟨S, 1, none⟩ = false) (hn : ¬ x.foot S) : StAt w { x with S := S } :=
  ⟨c0, c1, f0, f1, h.row, h.len, h.kids, h.map, fun e => hn (Or.inr (Or.inl e)), fun e => hn (Or.inr (Or.inr (Or.inl e))), h.gM,
    fun v hv b e => ⟨fun e2 => hn (Or.inr (Or.inr (Or.inr ⟨v, hv, by rw [e, e2]⟩))), (h.kS v hv b e).2⟩, h.one⟩

def sp0 : Sp := ⟨item0, -1, []⟩
def ax0 (n : Nat) : Ax := ⟨n + 1 + 1, n, n + 1, 1, [sp0], [.slice none 0 0], fun _ => none⟩
theorem stand_new (W : World) : StAt (((W.alloc (.cells #[.int .i64 0, .int .i64 0, .string ⟨#[]⟩, .string ⟨#[]⟩, .int .i64 0, .int .i64 0, .bool false, .slice none 0 0, .int .i64 (-1), .slice none 0 0] 59)).alloc (.map #[] 0)).alloc (.cells #[.slice (some ⟨W.heap.size, 0, none⟩) 1 1, .map (some (W.heap.size + 1))] 44)) (ax0 W.heap.size) := by
  have z1 : (W.alloc (.cells #[.int .i64 0, .int .i64 0, .string ⟨#[]⟩, .string ⟨#[]⟩, .int .i64 0, .int .i64 0, .bool false, .slice none 0 0, .int .i64 (-1), .slice none 0 0] 59)).heap.size = W.heap.size + 1 := by simp
  have R1 := World.ownsRow_lit (base := 0) (e := 59) (size := 10) W #[.int .i64 0, .int .i64 0, .string ⟨#[]⟩, .string ⟨#[]⟩, .int .i64 0, .int .i64 0, .bool false, .slice none 0 0, .int .i64 (-1), .slice none 0 0] 1 (Nat.zero_le _) (by decide) rfl
  generalize hw1 : W.alloc (.cells #[.int .i64 0, .int .i64 0, .string ⟨#[]⟩, .string ⟨#[]⟩, .int .i64 0, .int .i64 0, .bool false, .slice none 0 0, .int .i64 (-1), .slice none 0 0] 59) = w1 at *
  clear hw1
  have z2 : (w1.alloc (.map #[] 0)).heap.size = W.heap.size + 1 + 1 := by simp [z1]
  have N1 := num_made w1
  rw [z1] at N1
  have R2 := R1.alloc (.map #[] 0)
  generalize w1.alloc (.map #[] 0) = w2 at *
  have hb : ∀ k, k < w2.heap.size → (w2.alloc (.cells #[.slice (some ⟨W.heap.size, 0, none⟩) 1 1, .map (some (W.heap.size + 1))] 44)).heap[k]? = w2.heap[k]? := fun k hk => heap_alloc_old w2 _ hk
  have hS : (w2.alloc (.cells #[.slice (some ⟨W.heap.size, 0, none⟩) 1 1, .map (some (W.heap.size + 1))] 44)).heap[W.heap.size + 1 + 1]? = some (.cells #[.slice (some ⟨W.heap.size, 0, none⟩) 1 1, .map (some (W.heap.size + 1))] 44) := by rw [← z2]; exact heap_alloc_new w2 _
  refine ⟨by simp [ax0, World.cell?, hS], by simp [ax0, World.cell?, hS], by simp [ax0, World.frozen?, hS], by simp [ax0, World.frozen?, hS], ?_, rfl, fun j hj hj' => ?_, ?_, by simp [ax0]; omega, by simp [ax0], by simp [ax0], fun v hv b e => ?_, fun i j hi hj b e1 e2 => ?_⟩
  · have := R2.alloc (.cells #[.slice (some ⟨W.heap.size, 0, none⟩) 1 1, .map (some (W.heap.size + 1))] 44)
    exact this
  · have : j = 0 := by simp [ax0] at hj; exact hj
    subst this
    exact World.ownsRow_nil _ _ _ _
  · have h2 := N1.same (hb _ (by omega))
    obtain ⟨D, h3, h4⟩ := h2
    exact ⟨D, h3.mono (by simp), h4⟩
  · simp [ax0] at hv
    subst hv
    cases e
  · simp [ax0] at hi hj
    omega

set_option maxHeartbeats 1600000 in
set_option maxRecDepth 100000 in
theorem hstanding_any {w : World} {P : Nat → Prop} {v : Value} {l : List It} (hr : RdI w P v l) (hU : Unlike l) (hb : ∀ k ∈ nodesL l, k < 9223372036854775808) (hz : (nodesL l).length ≤ 400000) :
    Calls Try.prog 12 #[v] w fun e w' => ∃ x, e = .returned (.agg #[.slice (some ⟨x.g, 0, none⟩) x.ar.length x.cap, .map (some x.M)]) ∧ StAt w' x ∧ Rp x.ar x.nm l ∧ x.ar.length = (nodesL l).length + 1 ∧ (∀ k, x.foot k → w.heap.size ≤ k) ∧ Below w.heap.size w w' := by
  obtain ⟨pv, c, rfl⟩ := hr.shape
  have hmk : ∀ W : World, (Instr.makeMap 42 none).run Try.prog W = .ok (.map (some W.heap.size)) (W.alloc (.map #[] 0)) := fun _ => rfl
  have HR : Hid (RdI w P (.slice pv l.length c) l) := hr
  clear hr
  have z0 : (w.alloc (.cells #[.slice none 0 0, .map none] 44)).heap.size = w.heap.size + 1 := by simp
  have X0 := stand_new (w.alloc (.cells #[.slice none 0 0, .map none] 44))
  rw [z0] at X0
  have B0 : Below w.heap.size w ((((w.alloc (.cells #[.slice none 0 0, .map none] 44)).alloc (.cells #[.int .i64 0, .int .i64 0, .string ⟨#[]⟩, .string ⟨#[]⟩, .int .i64 0, .int .i64 0, .bool false, .slice none 0 0, .int .i64 (-1), .slice none 0 0] 59)).alloc (.map #[] 0)).alloc (.cells #[.slice (some ⟨w.heap.size + 1, 0, none⟩) 1 1, .map (some (w.heap.size + 1 + 1))] 44)) :=
    ((((Below.refl w.heap.size w).alloc (Nat.le_refl _) _).alloc (by simp) _).alloc (by simp; omega) _).alloc (by simp; omega) _
  have hR0 : ((((w.alloc (.cells #[.slice none 0 0, .map none] 44)).alloc (.cells #[.int .i64 0, .int .i64 0, .string ⟨#[]⟩, .string ⟨#[]⟩, .int .i64 0, .int .i64 0, .bool false, .slice none 0 0, .int .i64 (-1), .slice none 0 0] 59)).alloc (.map #[] 0)).alloc (.cells #[.slice (some ⟨w.heap.size + 1, 0, none⟩) 1 1, .map (some (w.heap.size + 1 + 1))] 44)).heap[w.heap.size]? = some (.cells #[.slice none 0 0, .map none] 44) := by
    rw [heap_alloc_old _ _ (by simp; omega), heap_alloc_old _ _ (by simp; omega), heap_alloc_old _ _ (by simp), heap_alloc_new]
  go_enter Try.func12, Try.ntmps12
  go_upto_region 2 with fail
  generalize ((((w.alloc (.cells #[.slice none 0 0, .map none] 44)).alloc (.cells #[.int .i64 0, .int .i64 0, .string ⟨#[]⟩, .string ⟨#[]⟩, .int .i64 0, .int .i64 0, .bool false, .slice none 0 0, .int .i64 (-1), .slice none 0 0] 59)).alloc (.map #[] 0)).alloc (.cells #[.slice (some ⟨w.heap.size + 1, 0, none⟩) 1 1, .map (some (w.heap.size + 1 + 1))] 44)) = W at *
  have hfn : Hid (∀ k, (ax0 (w.heap.size + 1)).foot k → w.heap.size < k) := fun k hk => by
    rcases hk with e | e | e | ⟨v, hv, e⟩
    · simp only [ax0] at e; omega
    · simp only [ax0] at e; omega
    · simp only [ax0] at e; omega
    · simp [ax0] at hv
      subst hv
      cases e
  have hrd : RdI W (fun g => ¬ (ax0 (w.heap.size + 1)).foot g) (.slice pv l.length c) l := HR.out.frame (fun g _ hlt => ⟨B0.block g hlt, fun hf => by have := hfn.out g hf; omega⟩)
  have C := hfill_any (nodesL l).length (.slice pv l.length c) l W (ax0 (w.heap.size + 1)) [] (-1) X0 Rp.empty (Or.inl rfl) rfl hrd hU (fun k hk => ⟨by simp [nodesL], hb k hk⟩) (Nat.le_refl _) (by show 1 + _ ≤ _; omega)
  rw [ixP_top, put_self hU] at C
  have hwl : w.heap.size < W.heap.size := Array.getElem?_eq_some_iff.1 hR0 |>.1
  have HB0 : Hid (Below w.heap.size w W) := B0
  have HR0 : Hid (W.heap[w.heap.size]? = some (.cells #[.slice none 0 0, .map none] 44)) := hR0
  clear hrd HR hR0 B0 X0 z0 hmk
  go_wp2_with (go_at_call 24; refine C.mono ?_; clear C; rintro e w5 ⟨rfl, x5, g1, g2, g3', g4', g5⟩; have g3 : Hid _ := g3'; clear g3' g4'; have s0 := g1.s0; have s1 := g1.s1; rw [g5.S] at s0 s1; have hb5 : w5.heap[w.heap.size]? = some (.cells #[.slice none 0 0, .map none] 44) := (by rw [g5.block _ hwl (fun hf => by have := hfn.out _ hf; omega)]; exact HR0.out); have r0 : w5.cell? ⟨w.heap.size, 0, none⟩ = some (.slice none 0 0) := (by simp [World.cell?, hb5]); have r1 : w5.cell? ⟨w.heap.size, 1, none⟩ = some (.map none) := (by simp [World.cell?, hb5]); have f0 : w5.frozen? ⟨w.heap.size, 0, none⟩ = false := (by simp [World.frozen?, hb5]); have f1 : w5.frozen? ⟨w.heap.size, 1, none⟩ = false := (by simp [World.frozen?, hb5]); simp only [ax0] at s0 s1)
  have nR : ¬ x5.foot w.heap.size := fun hf => by
    rcases g5.foot _ hf with h1 | h1
    · have := hfn.out _ h1; omega
    · omega
  have e0 : ((w5.setCell ⟨w.heap.size, 0, none⟩ (.slice (some ⟨x5.g, 0, none⟩) x5.ar.length x5.cap)).setCell ⟨w.heap.size, 1, none⟩ (.map (some x5.M))).cell? ⟨w.heap.size, 0, none⟩ = some (.slice (some ⟨x5.g, 0, none⟩) x5.ar.length x5.cap) := by
    rw [World.cell?_setCell_other _ _ _ _ (by intro e; cases e)]
    exact World.cell?_setCell_same _ _ _ r0
  have e1 : ((w5.setCell ⟨w.heap.size, 0, none⟩ (.slice (some ⟨x5.g, 0, none⟩) x5.ar.length x5.cap)).setCell ⟨w.heap.size, 1, none⟩ (.map (some x5.M))).cell? ⟨w.heap.size, 1, none⟩ = some (.map (some x5.M)) := by
    exact World.cell?_setCell_same _ _ _ (by rw [World.cell?_setCell_other _ _ _ _ (by intro e; cases e)]; exact r1)
  refine bodyPost_ret (v := .agg #[.slice (some ⟨x5.g, 0, none⟩) x5.ar.length x5.cap, .map (some x5.M)]) (by simp only [results, Try.results12, go_sem]; simp [go_sem, e0, e1]) rfl ⟨x5, rfl, ?_, g2, ?_, fun k hk => ?_, ?_⟩
  · refine g1.same (fun k hk => ?_)
    have hne : k ≠ w.heap.size := fun e => nR (by rw [← e]; exact hk)
    rw [heap_setCell_other _ _ _ _ hne, heap_setCell_other _ _ _ _ hne]
  · have := g3.out
    simp only [ax0, List.length_singleton] at this
    omega
  · rcases g5.foot _ hk with h1 | h1
    · have := hfn.out _ h1; omega
    · omega
  · have b5 : Below w.heap.size W w5 := g5.to_below (by omega) (fun k hk => by have := hfn.out k hk; omega)
    exact ((HB0.out.trans b5).setCell (p := ⟨w.heap.size, 0, none⟩) (Nat.le_refl _) _).setCell (p := ⟨w.heap.size, 1, none⟩) (Nat.le_refl _) _
end Go.Proofs.Ytgpckmolcdafcae

/-
  THE WALKS of diff's stand: add, move, remove.
-/
namespace Go.Proofs.Ytgpckmolcdafcae
open Go.RowKit Go.Maps

theorem toP_place' (t : Int) : toP t = -1 ∨ (0 ≤ t ∧ toP t = t) := by
  unfold toP
  by_cases h : t < 0
  · rw [if_pos h]; exact Or.inl rfl
  · rw [if_neg h]; exact Or.inr ⟨by omega, rfl⟩
theorem ixP_toP (nm : Nm) (t : Int) : ixP nm (toP t) = ixP nm t := by
  unfold toP ixP
  by_cases h : t < 0
  · rw [if_pos h, if_pos (by omega), if_pos h]
  · rw [if_neg h]
/-- whether a place is there, in the stand and in the forest -/
theorem Rp.there {ar : List Sp} {nm : Nm} {T : List It} (h : Rp ar nm T) (n : Nat) : (nm n).isSome = (nodesL T).contains n := by
  by_cases hn : n ∈ nodesL T
  · rw [(h.inn n hn).1]
    simp [hn]
  · rw [h.out n hn]
    simp [hn]
theorem Rp.has {ar : List Sp} {nm : Nm} {T : List It} (h : Rp ar nm T) (t : Int) : (decide (t < 0) || (nm t.toNat).isSome) = !(decide (0 ≤ t) && !hasI T t) := by
  unfold hasI
  rw [h.there]
  by_cases h0 : t < 0
  · have h1 : ¬ 0 ≤ t := by omega
    simp [h0, h1]
  · have h1 : 0 ≤ t := by omega
    simp [h0, h1]
theorem place_toP {T : List It} {t : Int} (h : ¬ (0 ≤ t ∧ hasI T t = false)) : Place T (toP t) := by
  rcases toP_place' t with e | ⟨h0, e⟩
  · rw [e]; exact Or.inl rfl
  · rw [e]
    have h1 : hasI T t = true := by
      cases hh : hasI T t with
      | true => rfl
      | false => exact absurd ⟨h0, hh⟩ h
    unfold hasI at h1
    simp only [Bool.and_eq_true, decide_eq_true_eq, List.contains_iff_mem] at h1
    have := place_mem h1.2
    rwa [Int.toNat_of_nonneg h0] at this

set_option maxHeartbeats 3200000 in
set_option maxRecDepth 100000 in
theorem hremove_any {w : World} {x : Ax} {T : List It} (h : StAt w x) (hT : Rp x.ar x.nm T) (hb : ∀ k ∈ nodesL T, k < 9223372036854775808) (hz : (nodesL T).length ≤ 500000) (n : Nat) (hn : n < 9223372036854775808) :
    Calls Try.prog 27 #[.pointer (some ⟨x.S, 0, none⟩), .int .i64 (n : Int)] w fun e w' => ∃ x', StAt w' x' ∧ Fw x x' w w' ∧ x'.ar.length = x.ar.length ∧
      ((n ∈ nodesL T ∧ e = .returned (.int .i64 0) ∧ Rp x'.ar x'.nm (rmL n T)) ∨ (n ∉ nodesL T ∧ e = .returned (.int .i64 6) ∧ x' = x)) := by
  have s1 := h.s1
  have hl := h.map.look n hn
  have h0 := h.s0
  by_cases hin : n ∈ nodesL T
  · obtain ⟨X, hX, eX⟩ := in_node hin
    subst eX
    obtain ⟨p, hp, hk⟩ := in_place hT.un hin
    have hsp := hT.spot X hX p hp hk
    obtain ⟨hlt, hsp2⟩ := List.getElem?_eq_some_iff.mp hsp
    have hpl := hT.lt hp
    have e1 : (x.nm X.node).isSome = true := by rw [(hT.inn _ hin).1]; rfl
    rw [e1] at hl
    have hfew : x.ar[ixP x.nm p].kids.length ≤ 500000 := by
      obtain ⟨s, q1, q2, _⟩ := hT.place hp
      rw [List.getElem?_eq_getElem hpl] at q1
      rw [Option.some.inj q1, q2, List.length_map]
      exact Nat.le_trans (kids_few hT.un hp) hz
    have LV := hleave_any h hlt hpl (by rw [hsp2]) hfew
    have FG : Hid (∀ (w5 : World) (x5 : Ax), StAt w5 x5 → x5.ar = leaveA x.ar (ixOf x.nm X.node) (ixP x.nm p) → x5.nm = x.nm → Fw x x5 w w5 →
        Calls Try.prog 45 #[.pointer (some ⟨x.S, 0, none⟩), .int .i64 (ixOf x.nm X.node : Nat)] w5 fun e w' => e = .returned (.tuple #[]) ∧ ∃ x', StAt w' x' ∧ Fw x x' w w' ∧ x'.ar.length = x.ar.length ∧ Rp x'.ar x'.nm (rmL X.node T)) := by
      intro w5 x5 g1 g2 g3 g4
      have hS5 : x5.S = x.S := g4.S
      have hsub : Subs x5.ar (ixOf x.nm) X := fun z hz => by
        obtain ⟨u, hu⟩ := hT.sub hX z hz
        refine ⟨u, ?_⟩
        rw [g2, leave_at hu]
        have hne : ixP x.nm p ≠ ixOf x.nm z.node := fun e => by
          rcases hp with rfl | ⟨y, hy, rfl⟩
          · rw [ixP_top] at e
            have hzT : z.node ∈ nodesL T := by
              rcases mem_item1.mp hz with rfl | hz
              · exact hin
              · exact node_inL (item_kids.2 T X hX z hz)
            have := (hT.inn _ hzT).2.1
            omega
          · have hzT : z.node ∈ nodesL T := by
              rcases mem_item1.mp hz with rfl | hz
              · exact hin
              · exact node_inL (item_kids.2 T X hX z hz)
            rw [ixP_nat] at e
            have e2 := hT.inj _ (node_inL hy) _ hzT e
            exact up_out hT.un hX hk y.node rfl (by rw [e2]; exact node_in1 hz)
        rw [if_neg hne]
      have C := hforget_any (ixOf x.nm) (nodes1 X).length X w5 x5 g1 hsub (Nat.le_refl _) (fun k hk2 => hb k (by
        rw [nodes1_items] at hk2
        obtain ⟨z, hz, ez⟩ := List.mem_map.mp hk2
        rw [← ez]
        rcases mem_item1.mp hz with rfl | hz
        · exact hin
        · exact node_inL (item_kids.2 T X hX z hz)))
      rw [hS5] at C
      refine C.mono ?_
      rintro e w6 ⟨r1, r2, r3⟩
      refine ⟨r1, _, r2, g4.trans r3, ?_, ?_⟩
      · show x5.ar.length = _
        rw [g2, leave_len]
      · have := hT.remove hX hp hk
        show Rp x5.ar (lessN x5.nm (nodes1 X)) _
        rw [g2, g3]
        exact this
    clear hsp hsp2 hpl hfew hT h hb hk hp hlt h0 hz
    generalize ixOf x.nm X.node = kx at *
    generalize hS : x.S = S at *
    go_enter Try.func27, Try.ntmps27
    go_wp2_with (first
      | (go_at_call 43; refine LV.mono ?_; clear LV; rintro e w5 ⟨rfl, x5, g1, g2, g3, g4⟩; have C6 := FG.out w5 x5 g1 g2 g3 g4; clear g1 g2 g3 g4)
      | (go_at_call 45; refine C6.mono ?_; clear C6; rintro e w6 ⟨rfl, R6⟩))
    go_ret
    obtain ⟨x', r1, r2, r3, r4⟩ := R6
    exact ⟨x', r1, r2, r3, Or.inl ⟨hin, rfl, r4⟩⟩
  · have e1 : (x.nm n).isSome = false := by rw [hT.out n hin]; rfl
    rw [e1] at hl
    have HX : Hid (StAt w x) := h
    clear hT h hb
    generalize ixOf x.nm n = kx at *
    generalize hS : x.S = S at *
    go_enter Try.func27, Try.ntmps27
    go_wp2_with fail
    go_ret
    exact ⟨x, HX.out, Fw.refl _ _, rfl, Or.inr ⟨hin, rfl, rfl⟩⟩
end Go.Proofs.Ytgpckmolcdafcae
