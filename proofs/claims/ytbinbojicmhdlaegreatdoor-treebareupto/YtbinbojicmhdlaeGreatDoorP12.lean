/-
  OWN WORK: Nna, Vcb, Vcc, Vcd, Vce, Nmk, Oas, Nst, Nnm, Nli.
-/
import Derived.Test.YtbinbojicmhdlaeGreatDoorP11
import Derived.Test.YtbinbojicmhdlaeGreatDoorP8
import Derived.Test.YtbinbojicmhdlaeGreatDoorP5
import Derived.Deep.Strs
import Derived.Test.YtbinbojicmhdlaeGreatDoorP3
/-
  THE WALKS of naming's begin, has, mayAsk, said.
-/
namespace Go.Proofs.YtbinbojicmhdlaeGreatDoor
open Go.RowKit Go.Maps

/-- a document with the table of kinds, and claims of it -/
structure Nx (w : World) (b o c : Nat) (rs : List Raw) (d : Tn.Dc) (vl : Value) (cl : List Cl) : Prop where
  cx : Cx w b o c rs d
  cls : ClsAt w vl cl
  vt : ∀ j, Vt (Tn.nd d j)
  forest : Forest d cl
theorem Nx.keeps {w w' : World} {b o c : Nat} {rs : List Raw} {d : Tn.Dc} {vl : Value} {cl : List Cl} (h : Nx w b o c rs d vl cl) (k : Keeps w w') (hs : w.heap.size ≤ w'.heap.size) : Nx w' b o c rs d vl cl := ⟨h.cx.keeps k hs, h.cls.keeps k, h.vt, h.forest⟩
theorem Nx.below {w w' : World} {b o c : Nat} {rs : List Raw} {d : Tn.Dc} {vl : Value} {cl : List Cl} (h : Nx w b o c rs d vl cl) (hb : Below w.heap.size w w') : Nx w' b o c rs d vl cl := h.keeps (keeps_below hb (Nat.le_refl _)) hb.size
theorem Nx.bt {S : List Nat} {w w' : World} {b o c : Nat} {rs : List Raw} {d : Tn.Dc} {vl : Value} {cl : List Cl} (h : Nx w b o c rs d vl cl) (hb : Bt S w w') (hm : AreMaps S w) : Nx w' b o c rs d vl cl := h.keeps (hb.keeps hm) hb.size

/-- two blocks are maps -/
theorem maps2 {w : World} {A L : Nat} {S T : List Nat} (h : SetAt w A S) (k : SetAt w L T) : AreMaps [A, L] w := by
  intro x hx
  simp only [List.mem_cons, List.not_mem_nil, or_false] at hx
  rcases hx with rfl | rfl
  · exact h.maps _ (by simp)
  · exact k.maps _ (by simp)
theorem Bt.wide {S T : List Nat} {w w' : World} (h : Bt S w w') (hS : ∀ k ∈ S, k ∈ T) : Bt T w w' := h.forget (fun k hk => Or.inl (hS k hk))
theorem SetAt.bt {w w' : World} {b : Nat} {S T : List Nat} (h : SetAt w b S) (hb : Bt T w w') (hn : b ∉ T) : SetAt w' b S := h.same (hb.block b h.lt hn)
theorem box4' (w : World) (x y z u : Value) (t : Nat) : (w.alloc (.cells #[x, y, z, u] t)).cell? ⟨w.heap.size, 0, none⟩ = some x ∧ (w.alloc (.cells #[x, y, z, u] t)).cell? ⟨w.heap.size, 1, none⟩ = some y ∧ (w.alloc (.cells #[x, y, z, u] t)).cell? ⟨w.heap.size, 2, none⟩ = some z ∧ (w.alloc (.cells #[x, y, z, u] t)).cell? ⟨w.heap.size, 3, none⟩ = some u := by
  refine ⟨?_, ?_, ?_, ?_⟩ <;> rw [World.cell?_alloc_new] <;> simp

set_option maxHeartbeats 1600000 in
theorem nhas_any {w : World} {A : Nat} {S : List Nat} (hS : SetAt w A S) (k : Int) (h1 : -1000 ≤ k) (h2 : k ≤ 1000) :
    Calls Tryz.prog 112 #[.map (some A), .int .i64 k] w fun e w' => e = .returned (.bool (decide (0 ≤ k ∧ k.toNat ∈ S))) ∧ Below w.heap.size w w' := by
  have hlook := hS.look k h1 h2
  generalize decide (0 ≤ k ∧ k.toNat ∈ S) = q at *
  clear hS
  go_enter Tryz.func112, Tryz.ntmps112
  go_wp2_with fail
  go_ret
  exact ⟨rfl, (Below.refl _ _).alloc (Nat.le_refl _) _⟩

set_option maxHeartbeats 1600000 in
theorem nmay_any {w : World} {b o c : Nat} {rs : List Raw} {d : Tn.Dc} (hd : DocAt w b o c rs d) {A : Nat} {L : Option Nat} {S : List Nat} (hS : SetAt w A S) (p : Option Addr) (n1 c1 : Nat) (k : Int) (h1 : -1000 ≤ k) (h2 : k ≤ 1000) :
    Calls Tryz.prog 145 #[.agg #[.slice (some ⟨b, o, none⟩) rs.length c, .slice p n1 c1, .map (some A), .map L], .int .i64 k] w fun e w' => e = .returned (.bool (!decide (0 ≤ k ∧ k.toNat ∈ S) && Tn.isN d k false)) ∧ Below w.heap.size w w' := by
  have B1 := (Below.refl w.heap.size w).alloc (Nat.le_refl _) (.cells #[.slice (some ⟨b, o, none⟩) rs.length c, .slice p n1 c1, .map (some A), .map L] 94)
  have hH := nhas_any (hS.below B1) k h1 h2
  have HD : Hid (DocAt w b o c rs d) := hd
  generalize decide (0 ≤ k ∧ k.toNat ∈ S) = q at *
  have hI : ∀ W, Below w.heap.size w W → Calls Tryz.prog 69 #[.slice (some ⟨b, o, none⟩) rs.length c, .int .i64 k, .bool false] W fun e w' => e = .returned (.bool (Tn.isN d k false)) ∧ w' = W := fun W hb => dis_any (HD.out.keeps (keeps_below hb (Nat.le_refl _))) k false
  generalize Tn.isN d k false = r at *
  clear hS hd
  have C0 := box4' w (.slice (some ⟨b, o, none⟩) rs.length c) (.slice p n1 c1) (.map (some A)) (.map L) 94
  cases q with
  | true =>
    go_enter Tryz.func145, Tryz.ntmps145
    go_wp2_with (go_at_call 112; refine hH.mono ?_; rintro e w2 ⟨rfl, hb2⟩)
    go_ret
    exact ⟨rfl, B1.trans (hb2.mono B1.size)⟩
  | false =>
    obtain ⟨q0, q1, q2, q3⟩ := C0
    go_enter Tryz.func145, Tryz.ntmps145
    go_wp2_with (first
      | (go_at_call 112; refine hH.mono ?_; rintro e w2 ⟨rfl, hb2⟩; have K2 := keeps_below hb2 (Nat.le_refl _); have b0 := K2 _ _ q0; have B2 := B1.trans (hb2.mono B1.size))
      | (go_at_call 69; refine (hI _ B2).mono ?_; rintro e w3 ⟨rfl, hww⟩; subst hww))
    go_ret
    exact ⟨by simp, B2⟩

set_option maxHeartbeats 1600000 in
theorem nsaid_any {w : World} {b o c : Nat} {rs : List Raw} {d : Tn.Dc} (hx : Cx w b o c rs d) (A L : Option Nat) (p : Option Addr) (n1 c1 : Nat) (n : Int) (name : ByteArray) :
    Calls Tryz.prog 115 #[.agg #[.slice (some ⟨b, o, none⟩) rs.length c, .slice p n1 c1, .map A, .map L], .int .i64 n, .string name] w fun e w' => e = .returned (.string (saidN d n name)) ∧ Below w.heap.size w w' := by
  have B1 := (Below.refl w.heap.size w).alloc (Nat.le_refl _) (.cells #[.slice (some ⟨b, o, none⟩) rs.length c, .slice p n1 c1, .map A, .map L] 94)
  have hS := osaid_any (hx.below B1).doc hx.fine.okd hx.vn n name
  generalize saidN d n name = r at *
  go_enter Tryz.func115, Tryz.ntmps115
  go_wp2_with (go_at_call 43; refine hS.mono ?_; rintro e w2 ⟨rfl, hb2⟩)
  go_ret
  exact ⟨rfl, B1.trans (hb2.mono B1.size)⟩
theorem SetAt.set {w : World} {b : Nat} {S : List Nat} (h : SetAt w b S) {a : Addr} (ha : b ≠ a.block) (u : Value) : SetAt (w.setCell a u) b S := by
  obtain ⟨D, h1, h2⟩ := h
  exact ⟨D, h1.setCell ha u, h2⟩

theorem PreAt.set {w : World} {b n : Nat} {S : List Nat} (h : PreAt w b S n) {a : Addr} (ha : b ≠ a.block) (u : Value) : PreAt (w.setCell a u) b S n := by
  obtain ⟨D, h1, h2⟩ := h
  exact ⟨D, h1.setCell ha u, h2⟩

set_option maxHeartbeats 1600000 in
theorem nbegin_any {w : World} (p : Option Addr) (l1 c1 : Nat) (q : Option Addr) (l2 c2 : Nat) (n : Nat) (hn : n ≤ 1000) :
    Calls Tryz.prog 70 #[.slice p l1 c1, .slice q l2 c2, .int .i64 (n : Int)] w fun e w' => ∃ A L, e = .returned (.agg #[.slice p l1 c1, .slice q l2 c2, .map (some A), .map (some L)]) ∧ w.heap.size ≤ A ∧ A < L ∧ (SetAt w' A [n] ∧ PreAt w' A [] n) ∧ SetAt w' L [] ∧ Below w.heap.size w w' := by
  have hmm := @run_makeMap Tryz.prog
  have B0 := (Below.refl w.heap.size w).alloc (Nat.le_refl _) (.cells #[.slice none 0 0, .slice none 0 0, .map none, .map none] 94)
  have z0 : (w.alloc (.cells #[.slice none 0 0, .slice none 0 0, .map none, .map none] 94)).heap.size = w.heap.size + 1 := by simp
  obtain ⟨w1, hrun, r1, r2⟩ := (World.ownsMap_made (w.alloc (.cells #[.slice none 0 0, .slice none 0 0, .map none, .map none] 94)) Tryz.prog 3 (unitElem (H := Unit))).update (t := 92) (e := 124) keyU Tryz.underlying92 (by unfold maxLen; omega) (keyOf_int_mk Tryz.underlying3 (WalkArith.wf_i64 (n := (n : Int)) (by omega))) (unitElem_mk (H := Unit))
  have hz1 : w.heap.size + 2 ≤ w1.heap.size := by have := r2.size; simp at this; omega
  have b1 : w1.heap[w.heap.size]? = some (.cells #[.slice none 0 0, .slice none 0 0, .map none, .map none] 94) := by
    rw [r2.block _ (by simp; omega) (by simp), (MapKept.heap_alloc _ _).2 _ (by simp)]
    exact (MapKept.heap_alloc w _).1
  have b2 : (w1.alloc (.map #[] 0)).heap[w.heap.size]? = some (.cells #[.slice none 0 0, .slice none 0 0, .map none, .map none] 94) := by
    rw [(MapKept.heap_alloc _ _).2 _ (by omega)]
    exact b1
  have P1 : Hid (PreAt (w1.alloc (.map #[] 0)) (w.heap.size + 1) [] n) := by
    have h : PreAt w1 (w.heap.size + 1) [] n := by
      rw [z0] at r1
      refine ⟨_, r1, fun kl hk => ?_, fun k hk => by simp at hk⟩
      rw [has_put ⟨_, rfl⟩] at hk
      exact ⟨n, Or.inr rfl, by simpa [Maps.has] using hk⟩
    exact h.below ((Below.refl _ _).alloc (Nat.le_refl _) _)
  have H1 : Hid (SetAt (w1.alloc (.map #[] 0)) (w.heap.size + 1) [n]) := by
    have h : SetAt w1 (w.heap.size + 1) [n] := by
      rw [z0] at r1
      refine ⟨_, r1.mono (by simp), fun kl => ?_⟩
      rw [has_put ⟨_, rfl⟩]
      simp [Maps.has]
    exact h.below ((Below.refl _ _).alloc (Nat.le_refl _) _)
  have H2 : Hid (SetAt (w1.alloc (.map #[] 0)) w1.heap.size []) := set_made w1
  have G2 : Hid (Below w.heap.size w (w1.alloc (.map #[] 0))) := ((B0.alloc (by simp) (.map #[] 0)).grown r2 (by simp; omega) (fun j hj => by simp at hj; omega)).alloc (by omega) _
  rw [z0] at hrun
  have A1 : ∀ t, (Instr.makeMap t none).run Tryz.prog (w.alloc (.cells #[.slice none 0 0, .slice none 0 0, .map none, .map none] 94)) = .ok (.map (some (w.heap.size + 1))) ((w.alloc (.cells #[.slice none 0 0, .slice none 0 0, .map none, .map none] 94)).alloc (.map #[] 0)) := fun t => by rw [hmm]; simp
  have A2 : ∀ t, (Instr.makeMap t none).run Tryz.prog w1 = .ok (.map (some w1.heap.size)) (w1.alloc (.map #[] 0)) := fun t => hmm t w1
  generalize hw2 : w1.alloc (.map #[] 0) = w2 at *
  have c0 : w2.cell? ⟨w.heap.size, 0, none⟩ = some (.slice none 0 0) := by simp [World.cell?, b2]
  have c1' : w2.cell? ⟨w.heap.size, 1, none⟩ = some (.slice none 0 0) := by simp [World.cell?, b2]
  have c2' : w2.cell? ⟨w.heap.size, 2, none⟩ = some (.map none) := by simp [World.cell?, b2]
  have c3' : w2.cell? ⟨w.heap.size, 3, none⟩ = some (.map none) := by simp [World.cell?, b2]
  have fz : ∀ k, w2.frozen? ⟨w.heap.size, k, none⟩ = false := fun k => by simp [World.frozen?, b2]
  have f0 := fz 0
  have f1 := fz 1
  have f2 := fz 2
  have f3 := fz 3
  clear r1 r2 b1 b2 B0 hmm hw2
  go_enter Tryz.func70, Tryz.ntmps70
  go_wp2_with (fail)
  refine bodyPost_ret (v := .agg #[.slice p l1 c1, .slice q l2 c2, .map (some (w.heap.size + 1)), .map (some w1.heap.size)]) (by simp [results, Tryz.results70, go_sem, c0, c1', c2', c3']) rfl ⟨w.heap.size + 1, w1.heap.size, rfl, by omega, by omega, ⟨?_, ?_⟩, ?_, ?_⟩
  · exact (((H1.out.set (by simp) _).set (by simp) _).set (by simp) _).set (by simp) _
  · exact (((P1.out.set (by simp) _).set (by simp) _).set (by simp) _).set (by simp) _
  · exact (((H2.out.set (by simp; omega) _).set (by simp; omega) _).set (by simp; omega) _).set (by simp; omega) _
  · exact (((G2.out.setCell (p := ⟨w.heap.size, 0, none⟩) (Nat.le_refl _) _).setCell (p := ⟨w.heap.size, 1, none⟩) (Nat.le_refl _) _).setCell (p := ⟨w.heap.size, 2, none⟩) (Nat.le_refl _) _).setCell (p := ⟨w.heap.size, 3, none⟩) (Nat.le_refl _) _
end Go.Proofs.YtbinbojicmhdlaeGreatDoor

/-
  PLAIN MATHEMATICS: what tnlaw6's ahead tells; lists of claims, step by step.
-/
namespace Go.Proofs.YtbinbojicmhdlaeGreatDoor
open Tn

def askT (d : Dc) (n : Nat) (t : List UInt8) : Int := findD d (n : Int) (Tx.bs t)
theorem asks_toks (d : Dc) (n : Nat) : asksD d n = (Wd.toksOf (valN d (n : Int) ⟨#[97, 114, 105, 97, 45, 111, 119, 110, 115]⟩)).map (askT d n) := rfl

/-- claims of m, of a list's first so many -/
theorem take_filter {α : Type} (p : α → Bool) (l : List α) (j : Nat) (h : j < l.length) : (l.take (j + 1)).filter p = (l.take j).filter p ++ (if p l[j] then [l[j]] else []) := by
  rw [List.take_succ_eq_append_getElem h, List.filter_append]
  congr 1
  cases hp : p l[j] <;> simp [hp]

/-! ### the claims, turn by turn -/

def accD (d : Dc) (i : Nat) : List Cl := ((shD d).take i).foldl (claimN d) []
theorem acc_succ {d : Dc} {i : Nat} (hi : i < (shD d).length) : accD d (i + 1) = claimN d (accD d i) (shD d)[i] := by
  unfold accD
  rw [List.take_succ_eq_append_getElem hi, List.foldl_append]
  rfl
theorem acc_full (d : Dc) : accD d (shD d).length = claimsD d := by
  unfold accD claimsD
  rw [List.take_length]
theorem out_succ {d : Dc} {i n q : Nat} (hq : q < (Wd.toksOf (valN d (n : Int) ⟨#[97, 114, 105, 97, 45, 111, 119, 110, 115]⟩)).length) : outD d i n (q + 1) = claim1 d n (outD d i n q) (askT d n (Wd.toksOf (valN d (n : Int) ⟨#[97, 114, 105, 97, 45, 111, 119, 110, 115]⟩))[q]) := by
  have hq2 : q < (asksD d n).length := by rw [asks_toks, List.length_map]; exact hq
  unfold outD
  rw [List.take_succ_eq_append_getElem hq2, List.foldl_append]
  simp [asks_toks]
theorem out_full (d : Dc) (i n : Nat) : outD d i n (Wd.toksOf (valN d (n : Int) ⟨#[97, 114, 105, 97, 45, 111, 119, 110, 115]⟩)).length = claimN d (accD d i) n := by
  have e : (asksD d n).take (Wd.toksOf (valN d (n : Int) ⟨#[97, 114, 105, 97, 45, 111, 119, 110, 115]⟩)).length = asksD d n := List.take_of_length_le (by rw [asks_toks, List.length_map]; exact Nat.le_refl _)
  unfold outD
  rw [e]
  rfl
theorem way_asks {d : Dc} {n : Nat} : ∀ (ks : List Int) (l : List Cl), wayD d (ks.foldl (claim1 d n) l) (n : Int) = wayD d l (n : Int)
  | [], _ => rfl
  | k :: ks, l => by rw [List.foldl_cons, way_asks ks, way_claim]
theorem way_out (d : Dc) (i n q : Nat) : wayD d (outD d i n q) (n : Int) = wayD d (accD d i) (n : Int) := way_asks _ _
def freeD (sh : List Nat) (l : List Cl) (k : Int) : Bool := decide (1 ≤ k) && sh.contains k.toNat && decide (ownerD l k < 0)
theorem takes_free (d : Dc) (i n q : Nat) (k : Int) : takes d (outD d i n q) n k = (freeD (shD d) (outD d i n q) k && !(wayD d (accD d i) (n : Int)).contains k.toNat) := by
  unfold takes freeD
  rw [way_out]
theorem free_nat {sh : List Nat} {l : List Cl} {k : Int} (h : freeD sh l k = true) : ∃ m : Nat, k = (m : Int) := by
  unfold freeD at h
  simp at h
  exact ⟨k.toNat, by omega⟩
theorem claim_yes {d : Dc} {n : Nat} {l : List Cl} {k : Nat} (h : takes d l n (k : Int) = true) : claim1 d n l (k : Int) = l ++ [(n, k)] := by
  unfold claim1
  rw [if_pos h, Int.toNat_natCast]
theorem claim_no {d : Dc} {n : Nat} {l : List Cl} {k : Int} (h : takes d l n k = false) : claim1 d n l k = l := by
  unfold claim1
  rw [if_neg (by simp [h])]
theorem out_few {d : Dc} (h : Fine d) {i : Nat} (hi : i < (shD d).length) (q : Nat) : (outD d i (shD d)[i] q).length ≤ 60 := forest_few h (forest_out h hi q)
end Go.Proofs.YtbinbojicmhdlaeGreatDoor

/-
  THE WALKS of owns.Owner and owns.Up, and of the reference's Owner and In.
-/
namespace Go.Proofs.YtbinbojicmhdlaeGreatDoor
open Go.RowKit

theorem find_first {α : Type} {p : α → Bool} {l : List α} {j : Nat} (hj : j < l.length) (hp : p l[j] = true) (hn : ∀ k ∈ l.take j, p k = false) : l.find? p = some l[j] := by
  have e : l = l.take j ++ l[j] :: l.drop (j + 1) := by rw [← List.drop_eq_getElem_cons hj, List.take_append_drop]
  have e1 : (l.take j).find? p = none := List.find?_eq_none.mpr (fun x hx => by simp [hn x hx])
  conv => lhs; rw [e]
  rw [List.find?_append, e1, Option.none_or, List.find?_cons, hp]

theorem owner_at {l : List Cl} {n : Int} {j : Nat} (hj : j < l.length) (he : (l[j].2 : Int) = n) (hn : ∀ c ∈ l.take j, (c.2 : Int) ≠ n) : ownerD l n = (l[j].1 : Int) := by
  unfold ownerD
  rw [find_first hj (by simpa using he) (fun c hc => by simpa using hn c hc)]

theorem notyet {l : List Cl} {n : Int} {j : Nat} (hj : j < l.length) (he : (l[j].2 : Int) ≠ n) (hn : ∀ c ∈ l.take j, (c.2 : Int) ≠ n) : ∀ c ∈ l.take (j + 1), (c.2 : Int) ≠ n := by
  intro c hc
  rw [List.take_succ_eq_append_getElem hj, List.mem_append, List.mem_singleton] at hc
  rcases hc with hc | rfl
  · exact hn c hc
  · exact he

set_option maxHeartbeats 800000 in
theorem owner1_any {w : World} {K : Nat} {n : Int} (hK : w.cell? ⟨K, 0, none⟩ = some (.int .i64 n)) (a b : Nat) :
    Calls Tryz.prog 102 #[.agg #[.int .i64 (a : Int), .int .i64 (b : Int)], .pointer (some ⟨K, 0, none⟩)] w fun e w' => e = .returned (.bool ((b : Int) == n)) ∧ Below w.heap.size w w' := by
  have hK2 := keeps_alloc w (.cells #[.int .i64 (a : Int), .int .i64 (b : Int)] 64) _ _ hK
  go_enter Tryz.func102, Tryz.ntmps102
  go_wp2_with fail
  go_ret
  exact ⟨by simp, (Below.refl _ _).alloc (Nat.le_refl _) _⟩

set_option maxHeartbeats 1600000 in
theorem idxC_any {w : World} {vl : Value} {l : List Cl} (hl : ClsAt w vl l) {K : Nat} {n : Int} (hK : w.cell? ⟨K, 0, none⟩ = some (.int .i64 n)) :
    Calls Tryz.prog 101 #[vl, .func (.func 102) #[] #[.pointer (some ⟨K, 0, none⟩)]] w fun e w' => (∃ i : Int, e = .returned (.int .i64 i) ∧ ((i = -1 ∧ ownerD l n = -1) ∨ ∃ j : Nat, ∃ hj : j < l.length, i = (j : Int) ∧ ownerD l n = (l[j].1 : Int))) ∧ Below w.heap.size w w' := by
  obtain ⟨q, cc, rfl, h1, h2, _, hat⟩ := hl.at
  have T : Hid (∀ j (hj : j < l.length), ∃ b o, q = some ⟨b, o, none⟩ ∧ w.cell? ⟨b, o + j * 2, none⟩ = some (.int .i64 (l[j].1 : Int)) ∧ w.cell? ⟨b, o + j * 2 + 1, none⟩ = some (.int .i64 (l[j].2 : Int))) := hat
  have HK : Hid (w.cell? ⟨K, 0, none⟩ = some (.int .i64 n)) := hK
  clear hat hl hK
  go_enter Tryz.func101, Tryz.ntmps101
  go_wp2_with fail
  go_loopw [8] (fun i wr => ∃ j : Nat, j ≤ l.length ∧ i = .int .i64 j ∧ Hid (∀ c ∈ l.take j, (c.2 : Int) ≠ n) ∧ Below w.heap.size w wr) (fun i _ => l.length - (intOf i).toNat)
  case atStart => exact ⟨0, Nat.zero_le _, rfl, fun k hk => by simp at hk, Below.refl _ _⟩
  case round =>
    obtain ⟨j, hj, rfl, NO, hnx⟩ := hrel
    by_cases hlt : j < l.length
    · obtain ⟨e1, o1, rfl, k1, k2⟩ := T.out j hlt
      have y1 := keeps_below hnx (Nat.le_refl _) _ _ k1
      have y2 := keeps_below hnx (Nat.le_refl _) _ _ k2
      clear k1 k2
      have hF := owner1_any (keeps_below hnx (Nat.le_refl _) _ _ HK.out) l[j].1 l[j].2
      have OA := fun he => owner_at (n := n) hlt he NO.out
      have ON := fun he => notyet (n := n) hlt he NO.out
      by_cases hh : (l[j].2 : Int) = n
      · have E : Hid (ownerD l n = (l[j].1 : Int)) := OA hh
        rw [show ((l[j].2 : Int) == n) = true by simpa using hh] at hF
        clear hh OA ON
        generalize hx : l[j].1 = x at *
        generalize l[j].2 = z at *
        go_wp2_with (go_at_call 102; refine hF.mono ?_; rintro e w9 ⟨rfl, hb9⟩)
        go_ret
        exact ⟨⟨_, rfl, Or.inr ⟨j, hlt, rfl, by rw [hx]; exact E.out⟩⟩, hnx.trans (hb9.mono hnx.size)⟩
      · have N2 : Hid (∀ c ∈ l.take (j + 1), (c.2 : Int) ≠ n) := ON hh
        rw [show ((l[j].2 : Int) == n) = false by simpa using hh] at hF
        clear hh OA ON
        generalize l[j].1 = x at *
        generalize l[j].2 = z at *
        go_wp2_with (go_at_call 102; refine hF.mono ?_; rintro e w9 ⟨rfl, hb9⟩)
        go_roundw
        case rel => exact ⟨j + 1, by omega, by go_num, N2, hnx.trans (hb9.mono hnx.size)⟩
        case measure => simp [intOf]; omega
    · obtain rfl : j = l.length := by omega
      have E : Hid (ownerD l n = -1) := owner_none (fun c hc => NO.out c (by rw [List.take_length]; exact hc))
      go_wp2_with fail
      go_ret
      exact ⟨⟨_, rfl, Or.inl ⟨rfl, E.out⟩⟩, hnx⟩

set_option maxHeartbeats 1600000 in
theorem vowner_any {w : World} {vl : Value} {l : List Cl} (hl : ClsAt w vl l) (n : Int) :
    Calls Tryz.prog 64 #[vl, .int .i64 n] w fun e w' => e = .returned (.int .i64 (ownerD l n)) ∧ Below w.heap.size w w' := by
  have B1 := (Below.refl w.heap.size w).alloc (Nat.le_refl _) (.cells #[.int .i64 n] 3)
  have hI := idxC_any (hl.keeps (keeps_alloc w (.cells #[.int .i64 n] 3))) (cell_box w (.int .i64 n) (t := 3))
  obtain ⟨q, cc, rfl, h1, h2, _, hat⟩ := (hl.keeps (keeps_alloc w (.cells #[.int .i64 n] 3))).at
  have T : Hid (∀ j (hj : j < l.length), ∃ b o, q = some ⟨b, o, none⟩ ∧ (w.alloc (.cells #[.int .i64 n] 3)).cell? ⟨b, o + j * 2, none⟩ = some (.int .i64 (l[j].1 : Int)) ∧ (w.alloc (.cells #[.int .i64 n] 3)).cell? ⟨b, o + j * 2 + 1, none⟩ = some (.int .i64 (l[j].2 : Int))) := hat
  clear hat hl
  go_enter Tryz.func64, Tryz.ntmps64
  go_upto_region 1 with fail
  generalize hG : w.heap.size = G at *
  generalize w.alloc (.cells #[.int .i64 n] 3) = w1 at *
  go_upto_region 2 with (go_at_call 101; refine hI.mono ?_; rintro e w9 ⟨⟨i, rfl, hi⟩, hb9⟩)
  rcases hi with ⟨rfl, hi⟩ | ⟨j, hj, rfl, hi⟩
  · have E : Hid (ownerD l n = -1) := hi
    clear hi
    go_wp2_with fail
    go_ret
    exact ⟨by rw [E.out]; rfl, by rw [hG]; exact B1.trans (hb9.mono (by have := B1.size; omega))⟩
  · have E : Hid (ownerD l n = (l[j].1 : Int)) := hi
    obtain ⟨e1, o1, rfl, k1, k2⟩ := T.out j hj
    have y1 := keeps_below hb9 (Nat.le_refl _) _ _ k1
    clear hi k1 k2
    generalize l[j].1 = x at *
    go_wp2_with fail
    go_ret
    exact ⟨by rw [E.out]; rfl, by rw [hG]; exact B1.trans (hb9.mono (by have := B1.size; omega))⟩

set_option maxHeartbeats 1600000 in
theorem vup_any {w : World} {b o c : Nat} {rs : List Raw} {d : Tn.Dc} (hd : DocAt w b o c rs d) (hg : Okd d) {vl : Value} {l : List Cl} (hl : ClsAt w vl l) (n : Int) :
    Calls Tryz.prog 83 #[.slice (some ⟨b, o, none⟩) rs.length c, vl, .int .i64 n] w fun e w' => e = .returned (.int .i64 (inD d l n)) ∧ Below w.heap.size w w' := by
  have hO := vowner_any hl n
  have hU : ∀ W, Below w.heap.size w W → Calls Tryz.prog 116 #[.slice (some ⟨b, o, none⟩) rs.length c, .int .i64 n] W fun e w' => e = .returned (.int .i64 (upF d n)) ∧ Below W.heap.size W w' := fun W hb => fup_any (hd.keeps (keeps_below hb (Nat.le_refl _))) hg n
  have E : Hid (inD d l n = if 0 ≤ ownerD l n then ownerD l n else upF d n) := rfl
  clear hd hl
  generalize inD d l n = res at *
  generalize upF d n = u at *
  generalize ownerD l n = ow at *
  by_cases h0 : 0 ≤ ow
  · have E2 : Hid (res = ow) := by show _ = _; rw [E.out, if_pos h0]
    clear E
    go_enter Tryz.func83, Tryz.ntmps83
    go_wp2_with (go_at_call 64; refine hO.mono ?_; rintro e w1 ⟨rfl, hb1⟩)
    go_ret
    exact ⟨by rw [E2.out]; rfl, hb1⟩
  · have E2 : Hid (res = u) := by show _ = _; rw [E.out, if_neg h0]
    clear E
    go_enter Tryz.func83, Tryz.ntmps83
    go_wp2_with (first
      | (go_at_call 64; refine hO.mono ?_; rintro e w1 ⟨rfl, hb1⟩)
      | (go_at_call 116; refine (hU _ hb1).mono ?_; rintro e w2 ⟨rfl, hb2⟩))
    go_ret
    exact ⟨by rw [E2.out]; rfl, hb1.trans (hb2.mono hb1.size)⟩

set_option maxHeartbeats 1600000 in
theorem qowner_any {w : World} {vl : Value} {l : List Cl} (hl : ClsAt w vl l) (n : Int) :
    Calls Tryz.prog 33 #[vl, .int .i64 n] w fun e w' => e = .returned (.int .i64 (ownerD l n)) ∧ Below w.heap.size w w' := by
  obtain ⟨q, cc, rfl, h1, h2, _, hat⟩ := hl.at
  have T : Hid (∀ j (hj : j < l.length), ∃ b o, q = some ⟨b, o, none⟩ ∧ w.cell? ⟨b, o + j * 2, none⟩ = some (.int .i64 (l[j].1 : Int)) ∧ w.cell? ⟨b, o + j * 2 + 1, none⟩ = some (.int .i64 (l[j].2 : Int))) := hat
  clear hat hl
  go_enter Tryz.func33, Tryz.ntmps33
  go_wp2_with fail
  go_loopw [9] (fun i wr => ∃ j : Nat, j ≤ l.length ∧ i = .int .i64 j ∧ Hid (∀ c ∈ l.take j, (c.2 : Int) ≠ n) ∧ Below w.heap.size w wr) (fun i _ => l.length - (intOf i).toNat)
  case atStart => exact ⟨0, Nat.zero_le _, rfl, fun k hk => by simp at hk, Below.refl _ _⟩
  case round =>
    obtain ⟨j, hj, rfl, NO, hnx⟩ := hrel
    have hbz := hnx.size
    by_cases hlt : j < l.length
    · obtain ⟨e1, o1, rfl, k1, k2⟩ := T.out j hlt
      have y1 := keeps_below hnx (Nat.le_refl _) _ _ k1
      have y2 := keeps_below hnx (Nat.le_refl _) _ _ k2
      clear k1 k2
      have OA := fun he => owner_at (n := n) hlt he NO.out
      have ON := fun he => notyet (n := n) hlt he NO.out
      by_cases hh : (l[j].2 : Int) = n
      · have E : Hid (ownerD l n = (l[j].1 : Int)) := OA hh
        have hq : ((l[j].2 : Int) == n) = true := by simpa using hh
        clear hh OA ON
        generalize l[j].1 = x at *
        generalize l[j].2 = z at *
        go_wp2_with fail
        go_ret
        exact ⟨by rw [E.out]; rfl, hnx.alloc hbz _⟩
      · have N2 : Hid (∀ c ∈ l.take (j + 1), (c.2 : Int) ≠ n) := ON hh
        have hq : ((l[j].2 : Int) == n) = false := by simpa using hh
        clear hh OA ON
        generalize l[j].1 = x at *
        generalize l[j].2 = z at *
        go_wp2_with fail
        go_roundw
        case rel => exact ⟨j + 1, by omega, by go_num, N2, hnx.alloc hbz _⟩
        case measure => simp [intOf]; omega
    · obtain rfl : j = l.length := by omega
      have E : Hid (ownerD l n = -1) := owner_none (fun c hc => NO.out c (by rw [List.take_length]; exact hc))
      go_wp2_with fail
      go_ret
      exact ⟨by rw [E.out]; rfl, hnx⟩

set_option maxHeartbeats 1600000 in
theorem qin_any {w : World} {b o c : Nat} {rs : List Raw} {d : Tn.Dc} (hd : DocAt w b o c rs d) (hf : Fine d) {vl : Value} {l : List Cl} (hl : ClsAt w vl l) (n : Int) :
    Calls Tryz.prog 25 #[.slice (some ⟨b, o, none⟩) rs.length c, vl, .int .i64 n] w fun e w' => e = .returned (.int .i64 (inD d l n)) ∧ Below w.heap.size w w' := by
  have hO := qowner_any hl n
  have hU : ∀ W, Below w.heap.size w W → Calls Tryz.prog 54 #[.slice (some ⟨b, o, none⟩) rs.length c, .int .i64 n] W fun e w' => e = .returned (.int .i64 (upF d n)) ∧ Below W.heap.size W w' := fun W hb => qup_any (hd.keeps (keeps_below hb (Nat.le_refl _))) hf n
  have E : Hid (inD d l n = if 0 ≤ ownerD l n then ownerD l n else upF d n) := rfl
  clear hd hl
  generalize inD d l n = res at *
  generalize upF d n = u at *
  generalize ownerD l n = ow at *
  by_cases h0 : 0 ≤ ow
  · have E2 : Hid (res = ow) := by show _ = _; rw [E.out, if_pos h0]
    clear E
    go_enter Tryz.func25, Tryz.ntmps25
    go_wp2_with (go_at_call 33; refine hO.mono ?_; rintro e w1 ⟨rfl, hb1⟩)
    go_ret
    exact ⟨by rw [E2.out]; rfl, hb1⟩
  · have E2 : Hid (res = u) := by show _ = _; rw [E.out, if_neg h0]
    clear E
    go_enter Tryz.func25, Tryz.ntmps25
    go_wp2_with (first
      | (go_at_call 33; refine hO.mono ?_; rintro e w1 ⟨rfl, hb1⟩)
      | (go_at_call 54; refine (hU _ hb1).mono ?_; rintro e w2 ⟨rfl, hb2⟩))
    go_ret
    exact ⟨by rw [E2.out]; rfl, hb1.trans (hb2.mono hb1.size)⟩
end Go.Proofs.YtbinbojicmhdlaeGreatDoor

/-
  THE WALKS of owns' lineage, idsOf, Kids, and of the functions in Claims and Kids.
-/
namespace Go.Proofs.YtbinbojicmhdlaeGreatDoor
open Go.RowKit

set_option maxHeartbeats 1600000 in
theorem vfree_any {w : World} {S X : Nat} {vs vc : Value} {sh : List Nat} {l : List Cl} (hS : w.cell? ⟨S, 0, none⟩ = some vs) (hX : w.cell? ⟨X, 0, none⟩ = some vc) (hs : IntsAt w vs sh) (hc : ClsAt w vc l) (n : Int) :
    Calls Tryz.prog 62 #[.int .i64 n, .pointer (some ⟨S, 0, none⟩), .pointer (some ⟨X, 0, none⟩)] w fun e w' => e = .returned (.bool (freeD sh l n)) ∧ Below w.heap.size w w' := by
  by_cases h0 : 0 < n
  · obtain ⟨k, rfl⟩ : ∃ k : Nat, n = (k : Int) := ⟨n.toNat, by omega⟩
    have E : Hid (freeD sh l (k : Int) = (sh.contains k && decide (ownerD l (k : Int) < 0))) := by
      show _ = _
      unfold freeD
      rw [Int.toNat_natCast, decide_eq_true (by omega : (1 : Int) ≤ (k : Int)), Bool.true_and]
    have hC := contains_any hs k
    have hO := vowner_any hc (k : Int)
    have hkn : 0 < k := by omega
    obtain ⟨ps, cs, rfl, _⟩ := hs
    obtain ⟨pc, cc, rfl, _⟩ := hc
    generalize freeD sh l (k : Int) = res at *
    generalize ownerD l (k : Int) = ow at *
    generalize sh.contains k = q at *
    cases q with
    | false =>
      have E2 : Hid (res = false) := by show _ = _; rw [E.out]; rfl
      clear E hO
      go_enter Tryz.func62, Tryz.ntmps62
      go_wp2_with (go_at_call 63; refine hC.mono ?_; rintro e w1 ⟨rfl, hw1⟩; subst hw1)
      go_ret
      exact ⟨by rw [E2.out]; rfl, Below.refl _ _⟩
    | true =>
      have E2 : Hid (res = decide (ow < 0)) := by show _ = _; rw [E.out]; rfl
      clear E
      go_enter Tryz.func62, Tryz.ntmps62
      go_wp2_with (first
        | (go_at_call 63; refine hC.mono ?_; rintro e w1 ⟨rfl, hw1⟩; subst hw1)
        | (go_at_call 64; refine hO.mono ?_; rintro e w2 ⟨rfl, hb2⟩))
      go_ret
      exact ⟨by rw [E2.out]; simp, hb2⟩
  · have E : Hid (freeD sh l n = false) := by
      show _ = _
      unfold freeD
      rw [decide_eq_false (by omega : ¬ (1 : Int) ≤ n), Bool.false_and, Bool.false_and]
    clear hS hX hs hc
    generalize freeD sh l n = res at *
    go_enter Tryz.func62, Tryz.ntmps62
    go_wp2_with fail
    go_ret
    exact ⟨by rw [E.out]; rfl, Below.refl _ _⟩

/-- a slice of tokens -/
theorem toks_at {w : World} {B : Nat} {v : Value} {ts : List (List UInt8)} (h : w.ownsRow B 9 1 v ts.length (ts.map Wd.tv)) :
    ∃ p c, v = .slice p ts.length c ∧ ts.length ≤ c ∧ c ≤ 9223372036854775807 ∧ ∀ j (hj : j < ts.length), ∃ b o, p = some ⟨b, o, none⟩ ∧ w.cell? ⟨b, o + j, none⟩ = some (.string (Tx.bs ts[j])) := by
  obtain ⟨p, c, e, h1, h2, _, h4⟩ := cells_of_owns h
  refine ⟨p, c, e, h1, by unfold maxLen at h2; omega, fun j hj => ?_⟩
  obtain ⟨b, o, e1, e2⟩ := h4 j (Wd.tv ts[j]) (by rw [List.getElem?_map, List.getElem?_eq_getElem hj]; rfl)
  exact ⟨b, o, e1, e2⟩

set_option maxHeartbeats 800000 in
theorem vids_any {w : World} {b o c : Nat} {rs : List Raw} {d : Tn.Dc} (h : Dx w b o c rs d) (n : Int) :
    Calls Tryz.prog 65 #[.slice (some ⟨b, o, none⟩) rs.length c, .int .i64 n] w fun e w' => ∃ v, e = .returned v ∧ w'.ownsRow w.heap.size 9 1 v (Wd.toksOf (valN d n ⟨#[97, 114, 105, 97, 45, 111, 119, 110, 115]⟩)).length ((Wd.toksOf (valN d n ⟨#[97, 114, 105, 97, 45, 111, 119, 110, 115]⟩)).map Wd.tv) ∧ Below w.heap.size w w' := by
  have hA := dattr_all h.doc h.fine.okd n ⟨#[97, 114, 105, 97, 45, 111, 119, 110, 115]⟩
  have hz := val_size h.vn n ⟨#[97, 114, 105, 97, 45, 111, 119, 110, 115]⟩
  have hT : ∀ W, Calls Tryz.prog 80 #[.string (valN d n ⟨#[97, 114, 105, 97, 45, 111, 119, 110, 115]⟩)] W fun e w' => ∃ v, e = .returned v ∧ w'.ownsRow W.heap.size 9 1 v (Wd.toksOf (valN d n ⟨#[97, 114, 105, 97, 45, 111, 119, 110, 115]⟩)).length ((Wd.toksOf (valN d n ⟨#[97, 114, 105, 97, 45, 111, 119, 110, 115]⟩)).map Wd.tv) ∧ Below W.heap.size W w' := fun W => (Wd.tokens_own _ W hz).mono (by
    rintro e w' ⟨v, h1, h2, h3, _⟩
    exact ⟨v, h1, h2, h3⟩)
  clear h hz
  generalize Wd.toksOf (valN d n ⟨#[97, 114, 105, 97, 45, 111, 119, 110, 115]⟩) = ts at *
  generalize valN d n ⟨#[97, 114, 105, 97, 45, 111, 119, 110, 115]⟩ = s at *
  generalize (attrN d n ⟨#[97, 114, 105, 97, 45, 111, 119, 110, 115]⟩).isSome = q at *
  go_enter Tryz.func65, Tryz.ntmps65
  go_wp2_with (first
    | (go_at_call 48; refine hA.mono ?_; rintro e w1 ⟨rfl, hb1⟩)
    | (go_at_call 80; refine (hT _).mono ?_; rintro e w2 ⟨v2, rfl, ho2, hb2⟩))
  go_ret
  refine ⟨_, rfl, ?_, hb1.trans (hb2.mono hb1.size)⟩
  obtain ⟨k1, k2⟩ := ho2
  refine ⟨k1, ?_⟩
  rcases k2 with k2 | ⟨g, cap, cur, e, h3, h6⟩
  · exact Or.inl k2
  · exact Or.inr ⟨g, cap, cur, e, Nat.le_trans hb1.size h3, h6⟩

set_option maxHeartbeats 1600000 in
theorem lineage_any {w : World} {b o c : Nat} {rs : List Raw} {d : Tn.Dc} (h : Dx w b o c rs d) {vl : Value} {l : List Cl} (hl : ClsAt w vl l) (hF : Forest d l) {n : Nat} (hn : n ∈ shD d) :
    Calls Tryz.prog 66 #[.slice (some ⟨b, o, none⟩) rs.length c, vl, .int .i64 (n : Int)] w fun e w' => ∃ v, e = .returned v ∧ OwnI w' w.heap.size v (wayD d l (n : Int)) ∧ Below w.heap.size w w' := by
  have HU : Hid (∀ W (x : Int), Below w.heap.size w W → Calls Tryz.prog 83 #[.slice (some ⟨b, o, none⟩) rs.length c, vl, .int .i64 x] W fun e w' => e = .returned (.int .i64 (inD d l x)) ∧ Below W.heap.size W w') := fun W x hb => vup_any (h.doc.keeps (keeps_below hb (Nat.le_refl _))) h.fine.okd (hl.keeps (keeps_below hb (Nat.le_refl _))) x
  have WC : Hid (∀ x ∈ shD d, wayD d l (x : Int) = x :: wayD d l (inD d l (x : Int)) ∧ (inD d l (x : Int) = -1 ∨ ∃ y ∈ shD d, inD d l (x : Int) = (y : Int))) := fun x hx => ⟨way_cons h.fine hF hx, in_cases h.fine hF hx⟩
  have W0 : Hid (wayD d l (-1) = []) := way_no d l (by omega)
  have WZ : Hid ((wayD d l (n : Int)).length ≤ 60) := by
    have h1 := way_len h.fine hF hn 64
    have h2 := (sh_few h.fine).1
    show _ ≤ _
    unfold wayD
    omega
  have SN : Hid (n ∈ shD d) := hn
  obtain ⟨pl, cl, rfl, _⟩ := hl
  clear h hF hn
  go_enter Tryz.func66, Tryz.ntmps66
  go_wp2_with fail
  go_loopw [2, 7] (fun nv v wr => ∃ (x : Int) (acc : List Nat), nv = .int .i64 x ∧ Hid (wayD d l (n : Int) = acc ++ wayD d l x) ∧ Hid (x = -1 ∨ ∃ y ∈ shD d, x = (y : Int)) ∧ OwnI wr w.heap.size v acc ∧ Below w.heap.size w wr) (fun nv _ _ => (wayD d l (intOf nv)).length)
  case atStart => exact ⟨(n : Int), [], rfl, by show _ = _; rfl, Or.inr ⟨n, SN.out, rfl⟩, OwnI.nil _ _, Below.refl _ _⟩
  case round =>
    obtain ⟨x, acc, rfl, R, X, hown, hnx⟩ := hrel
    have hbz := hnx.size
    rcases X.out with rfl | ⟨y, hy, rfl⟩
    · have E : Hid (wayD d l (n : Int) = acc) := by show _ = _; rw [R.out, W0.out, List.append_nil]
      clear R X
      go_wp2_with fail
      go_ret
      exact ⟨_, rfl, by rw [E.out]; exact hown, hnx⟩
    · obtain ⟨e1, e2⟩ := WC.out y hy
      have hlen : acc.length ≤ 1000000 := by
        have h1 := WZ.out
        rw [R.out, List.length_append] at h1
        omega
      have R2 : Hid (wayD d l (n : Int) = (acc ++ [y]) ++ wayD d l (inD d l (y : Int))) := by
        show _ = _
        rw [R.out, e1]
        simp
      have X2 : Hid (inD d l (y : Int) = -1 ∨ ∃ z ∈ shD d, inD d l (y : Int) = (z : Int)) := e2
      have M : Hid ((wayD d l (inD d l (y : Int))).length < (wayD d l (y : Int)).length) := by show _ < _; rw [e1]; simp
      clear R X e1 e2 hy
      have hU := fun W hb => HU.out W (y : Int) hb
      generalize inD d l (y : Int) = z at *
      go_wp2_with (first
        | (at_builtin; refine append_int1 (w0 := w) rfl _ _ rfl y rfl (by simp [Act.eval]) hown hnx hbz hlen ?_; intro v6 w6 o6 n6 _ _)
        | (go_at_call 83; refine (hU _ n6).mono ?_; rintro e w7 ⟨rfl, hb7⟩))
      go_roundw
      case rel => exact ⟨z, acc ++ [y], rfl, R2, X2, o6.below hb7 (Nat.le_refl _), n6.trans (hb7.mono n6.size)⟩
      case measure => simpa [intOf] using M.out
end Go.Proofs.YtbinbojicmhdlaeGreatDoor

/-
  THE WALK of owns.Kids.
-/
namespace Go.Proofs.YtbinbojicmhdlaeGreatDoor
open Go.RowKit

theorem vkids1_enters : ∀ args w, (callFunc 163 args).run Tryz.prog w = .ok (.enter 163 args) w := enters_of Tryz.func163 (by kernel_rfl) rfl

set_option maxHeartbeats 800000 in
theorem vkids1_any {w : World} {K : Nat} {vl : Value} {l : List Cl} (hl : ClsAt w vl l) (hK : w.cell? ⟨K, 0, none⟩ = some vl) (k : Nat) :
    Calls Tryz.prog 163 #[.int .i64 (k : Int), .pointer (some ⟨K, 0, none⟩)] w fun e w' => e = .returned (.bool (decide (0 ≤ ownerD l (k : Int)))) ∧ Below w.heap.size w w' := by
  have hO := vowner_any hl (k : Int)
  obtain ⟨pl, cl, rfl, _⟩ := hl
  generalize ownerD l (k : Int) = ow at *
  go_enter Tryz.func163, Tryz.ntmps163
  go_wp2_with (go_at_call 64; refine hO.mono ?_; rintro e w1 ⟨rfl, hb1⟩)
  go_ret
  exact ⟨by simp, hb1⟩

theorem vkids1_tests {w : World} {K : Nat} {vl : Value} {l : List Cl} (hl : ClsAt w vl l) (hK : w.cell? ⟨K, 0, none⟩ = some vl) : Tests 163 #[.pointer (some ⟨K, 0, none⟩)] (fun k => decide (0 ≤ ownerD l (k : Int))) w := by
  intro k
  have e : (#[.int .i64 (k : Int)] ++ #[.pointer (some ⟨K, 0, none⟩)] : Array Value) = #[.int .i64 (k : Int), .pointer (some ⟨K, 0, none⟩)] := by simp
  rw [e]
  exact vkids1_any hl hK k

theorem kids_few {d : Tn.Dc} (hg : Okd d) (n : Int) : (kidsD d n).length ≤ 1000 := by
  unfold kidsD
  split
  · split
    · exact hg.small n.toNat true
    · split
      · exact hg.small n.toNat false
      · unfold givenD
        split
        · exact Nat.le_trans (List.length_filter_le _ _) (hg.small _ false)
        · simp
  · simp

def mine (l : List Cl) (n : Int) (j : Nat) : List Nat := ((l.take j).filter (fun c => decide ((c.1 : Int) = n))).map (·.2)
theorem mine_succ (l : List Cl) (n : Int) (j : Nat) (h : j < l.length) : mine l n (j + 1) = mine l n j ++ (if (l[j].1 : Int) = n then [l[j].2] else []) := by
  unfold mine
  rw [take_filter _ l j h, List.map_append]
  congr 1
  by_cases e : (l[j].1 : Int) = n
  · rw [if_pos e, if_pos (by simpa using e)]; rfl
  · rw [if_neg e, if_neg (by simpa using e)]; rfl
theorem mine_len (l : List Cl) (n : Int) (j : Nat) : (mine l n j).length ≤ l.length := by
  unfold mine
  rw [List.length_map]
  have h1 := List.length_filter_le (fun c : Cl => decide ((c.1 : Int) = n)) (l.take j)
  have h2 := List.length_take_le j l
  have h3 : (l.take j).length ≤ l.length := by rw [List.length_take]; omega
  omega
theorem inside_mine (d : Tn.Dc) (l : List Cl) (n : Int) : insideD d l n = (kidsD d n).filter (fun (k : Nat) => !decide (0 ≤ ownerD l (k : Int))) ++ mine l n l.length := by
  unfold insideD mine
  rw [List.take_length]
  congr 1
  apply List.filter_congr
  intro k _
  rw [Bool.eq_iff_iff]
  simp

set_option maxHeartbeats 3200000 in
theorem vkids_any {w : World} {b o c : Nat} {rs : List Raw} {d : Tn.Dc} (hd : DocAt w b o c rs d) (hg : Okd d) {vl : Value} {l : List Cl} (hl : ClsAt w vl l) (hlen : l.length ≤ 1000) (n : Int) :
    Calls Tryz.prog 140 #[.slice (some ⟨b, o, none⟩) rs.length c, vl, .int .i64 n] w fun e w' => ∃ v, e = .returned v ∧ OwnI w' w.heap.size v (insideD d l n) ∧ Below w.heap.size w w' := by
  have B1 := (Below.refl w.heap.size w).alloc (Nat.le_refl _) (.cells #[vl] 26)
  have J1 := keeps_alloc w (.cells #[vl] 26)
  have hK := fkids_any (hd.keeps J1) hg n
  have L1 : Hid (ClsAt (w.alloc (.cells #[vl] 26)) vl l) := hl.keeps J1
  have X1 : Hid ((w.alloc (.cells #[vl] 26)).cell? ⟨w.heap.size, 0, none⟩ = some vl) := cell_box w vl (t := 26)
  have hz1 : (w.alloc (.cells #[vl] 26)).heap.size = w.heap.size + 1 := by simp
  have hkl := kids_few hg n
  have E : Hid (insideD d l n = (kidsD d n).filter (fun (k : Nat) => !decide (0 ≤ ownerD l (k : Int))) ++ mine l n l.length) := inside_mine d l n
  obtain ⟨pl, cl, rfl, k1, k2, _, hat⟩ := hl.at
  have T : Hid (∀ j (hj : j < l.length), ∃ b o, pl = some ⟨b, o, none⟩ ∧ w.cell? ⟨b, o + j * 2, none⟩ = some (.int .i64 (l[j].1 : Int)) ∧ w.cell? ⟨b, o + j * 2 + 1, none⟩ = some (.int .i64 (l[j].2 : Int))) := hat
  clear hat hl hd J1
  generalize insideD d l n = res at *
  generalize kidsD d n = kd at *
  have FL := List.length_filter_le (fun (k : Nat) => !decide (0 ≤ ownerD l (k : Int))) kd
  have hbase : Hid ((kd.filter (fun (k : Nat) => !decide (0 ≤ ownerD l (k : Int)))).length ≤ 1000) := Nat.le_trans FL hkl
  clear FL
  go_enter Tryz.func140, Tryz.ntmps140
  go_upto_region 1 with fail
  generalize w.alloc (.cells #[.slice pl l.length cl] 26) = w1 at *
  generalize hG : w.heap.size = G at *
  go_upto_region 2 with (first
    | (go_at_call 99; refine hK.mono ?_; rintro e w2 ⟨v2, rfl, ho2, hb2⟩; have hD := del_any vkids1_enters ho2 hkl (fun W hgr => vkids1_tests (K := G) (L1.out.keeps (keeps_below (hb2.grown hgr hb2.size (fun j hj => (World.ownsRow.lt ho2 j hj).1)) (Nat.le_refl _))) (keeps_below (hb2.grown hgr hb2.size (fun j hj => (World.ownsRow.lt ho2 j hj).1)) (Nat.le_refl _) _ _ X1.out)))
    | (go_at_call 161; refine hD.mono ?_; rintro e w3 ⟨v3, rfl, ho3, hob3, hg3⟩))
  have B3 : Below w1.heap.size w1 w3 := hb2.grown hg3 hb2.size (fun j hj => (World.ownsRow.lt ho2 j hj).1)
  have X3 := keeps_below B3 (Nat.le_refl _) _ _ X1.out
  have BB : Below G w w3 := B1.trans (B3.mono (by omega))
  have O3 : OwnI w3 G v3 (kd.filter (fun (k : Nat) => !decide (0 ≤ ownerD l (k : Int)))) := OwnI.mono ho3 (by omega)
  clear hK hD ho3 hob3 hg3 ho2 hb2 B3 L1 X1 B1 hz1
  generalize kd.filter (fun (k : Nat) => !decide (0 ≤ ownerD l (k : Int))) = base at *
  go_upto_region 3 with fail
  go_loopw [7, 17] (fun v i wr => ∃ j : Nat, j ≤ l.length ∧ i = .int .i64 j ∧ OwnI wr G v (base ++ mine l n j) ∧ Below G w wr) (fun _ i _ => l.length - (intOf i).toNat)
  case atStart => exact ⟨0, Nat.zero_le _, rfl, by simpa [mine] using O3, BB⟩
  case round =>
    obtain ⟨j, hj, rfl, hown, hnx⟩ := hrel
    have hbz : G ≤ wr.heap.size := by have := hnx.size; omega
    have hml := mine_len l n j
    have hbl := hbase.out
    have hz : (base ++ mine l n j).length ≤ 1000000 := by rw [List.length_append]; omega
    by_cases hlt : j < l.length
    · obtain ⟨e1, o1, rfl, c1, c2⟩ := T.out j hlt
      have y1 := keeps_below hnx (by omega) _ _ c1
      have y2 := keeps_below hnx (by omega) _ _ c2
      have MS : Hid (mine l n (j + 1) = mine l n j ++ (if (l[j].1 : Int) = n then [l[j].2] else [])) := mine_succ l n j hlt
      clear c1 c2 hml hbl
      generalize l[j].1 = x at *
      generalize l[j].2 = z at *
      by_cases e : (x : Int) = n
      · have M2 : Hid (base ++ mine l n (j + 1) = (base ++ mine l n j) ++ [z]) := by show _ = _; rw [MS.out, if_pos e, List.append_assoc]
        have hq : ((x : Int) == n) = true := by simpa using e
        clear MS e
        go_wp2_with (at_builtin; refine append_int1 (w0 := w) rfl _ _ rfl z rfl (by simp [Act.eval]) (hown.alloc _) (hnx.alloc hbz _) (by simp; omega) hz ?_; intro v6 w6 o6 n6 _ _)
        go_roundw
        case rel => exact ⟨j + 1, by omega, by go_num, by rw [M2.out]; exact o6, n6⟩
        case measure => simp [intOf]; omega
      · have M2 : Hid (base ++ mine l n (j + 1) = base ++ mine l n j) := by show _ = _; rw [MS.out, if_neg e, List.append_nil]
        have hq : ((x : Int) == n) = false := by simpa using e
        clear MS e
        go_wp2_with fail
        go_roundw
        case rel => exact ⟨j + 1, by omega, by go_num, by rw [M2.out]; exact hown.alloc _, hnx.alloc hbz _⟩
        case measure => simp [intOf]; omega
    · obtain rfl : j = l.length := by omega
      go_wp2_with fail
      go_ret
      exact ⟨_, rfl, by rw [E.out, hG]; exact hown, by rw [hG]; exact hnx⟩
end Go.Proofs.YtbinbojicmhdlaeGreatDoor

/-
  THE WALK of naming's list: what is in a node, and in that, is listed with it.
-/
namespace Go.Proofs.YtbinbojicmhdlaeGreatDoor
open Go.RowKit Go.Maps

theorem inside_cap {d : Tn.Dc} (h : Fine d) {l : List Cl} (hl : Forest d l) (n : Int) : (insideD d l n).length ≤ 1060 := by
  rw [inside_mine, List.length_append]
  have h1 := kids_few h.okd n
  have h2 := mine_len l n l.length
  have h3 := forest_few h hl
  have h4 := List.length_filter_le (fun (k : Nat) => !decide (0 ≤ ownerD l (k : Int))) (kidsD d n)
  omega

/-- what list does, with as much fuel as that -/
def ListC (b o c : Nat) (rs : List Raw) (d : Tn.Dc) (p : Option Addr) (cc : Nat) (cl : List Cl) (L f : Nat) : Prop :=
  ∀ (W : World) (A : Option Nat) (l : List Nat) (n : Nat), Nx W b o c rs d (.slice p cl.length cc) cl → SetAt W L l → OkL d l → 61 ≤ f + l.length → Tn.lvD d n = true →
    Calls Tryz.prog 146 #[.agg #[.slice (some ⟨b, o, none⟩) rs.length c, .slice p cl.length cc, .map A, .map (some L)], .int .i64 (n : Int)] W fun e w' =>
      e = .returned (.tuple #[]) ∧ SetAt w' L (markF f d cl n l) ∧ Bt [L] W w'

set_option maxHeartbeats 3200000 in
set_option maxRecDepth 100000 in
theorem nlist_step {b o c : Nat} {rs : List Raw} {d : Tn.Dc} {p : Option Addr} {cc : Nat} {cl : List Cl} {L f : Nat} (H : ListC b o c rs d p cc cl L f) : ListC b o c rs d p cc cl L (f + 1) := by
  intro W A l n hx hS ho hf hn
  have hF := hx.cx.fine
  have hdl := hF.good.len.2
  have hnn := Tn.lv_lt hn
  have hll := ho.few hF
  have B1 := (Below.refl W.heap.size W).alloc (Nat.le_refl _) (.cells #[.slice (some ⟨b, o, none⟩) rs.length c, .slice p cl.length cc, .map A, .map (some L)] 94)
  have C0 := box4' W (.slice (some ⟨b, o, none⟩) rs.length c) (.slice p cl.length cc) (.map A) (.map (some L)) 94
  have hH := nhas_any (hS.below B1) (n : Int) (by omega) (by omega)
  have e0 : decide (0 ≤ (n : Int) ∧ (n : Int).toNat ∈ l) = l.contains n := by
    rw [Bool.eq_iff_iff]
    simp
  rw [e0] at hH
  have NX : Hid (Nx W b o c rs d (.slice p cl.length cc) cl) := hx
  have S0 : Hid (SetAt W L l) := hS
  by_cases hc : l.contains n = true
  · have E : Hid (markF (f + 1) d cl n l = l) := by show _ = _; rw [markF, if_pos hc]
    rw [E.out]
    rw [hc] at hH
    clear hx hS E hc e0
    go_enter Tryz.func146, Tryz.ntmps146
    go_wp2_with (go_at_call 112; refine hH.mono ?_; rintro e w2 ⟨rfl, hb2⟩)
    refine bodyPost_ret (results_none rfl _ _ _) rfl ?_
    have B2 := B1.trans (hb2.mono B1.size)
    exact ⟨rfl, S0.out.below B2, Bt.below B2⟩
  · have hnot : n ∉ l := by simpa using hc
    have E : Hid (markF (f + 1) d cl n l = (insideD d cl (n : Int)).foldl (fun l k => markF f d cl k l) (l ++ [n])) := by show _ = _; rw [markF, if_neg hc]
    have hc' : l.contains n = false := by simpa using hc
    rw [hc'] at hH
    have VK : Hid (∀ w2, Nx w2 b o c rs d (.slice p cl.length cc) cl → Calls Tryz.prog 140 #[.slice (some ⟨b, o, none⟩) rs.length c, .slice p cl.length cc, .int .i64 (n : Int)] w2 fun e w' => ∃ v, e = .returned v ∧ OwnI w' w2.heap.size v (insideD d cl (n : Int)) ∧ Below w2.heap.size w2 w') := fun w2 h => vkids_any h.cx.doc h.cx.fine.okd h.cls (by have := forest_few hF h.forest; omega) (n : Int)
    have OK1 : OkL d (l ++ [n]) := ho.add hn hnot
    have HL : Hid (∀ k ∈ insideD d cl (n : Int), Tn.lvD d k = true) := fun k hk => inside_lv hF hx.forest hk
    have MK : Hid (∀ j, Marked d (l ++ [n]) (((insideD d cl (n : Int)).take j).foldl (fun l k => markF f d cl k l) (l ++ [n]))) := fun j => fold_mark (fun l k ol hk => mark_ok hF hx.forest f k l ol hk) _ _ (fun k hk => HL.out k (List.mem_of_mem_take hk)) OK1
    have FU : Hid (61 ≤ f + (l ++ [n]).length) := by show _ ≤ _; rw [List.length_append]; simp; omega
    clear hx hS hc hc' e0 hnot ho OK1 hf
    generalize insideD d cl (n : Int) = zs at *
    have EJ : Hid (∀ j (h : j < zs.length), ((zs.take (j + 1)).foldl (fun l k => markF f d cl k l) (l ++ [n])) = markF f d cl zs[j] ((zs.take j).foldl (fun l k => markF f d cl k l) (l ++ [n]))) := fun j h => by
      rw [List.take_succ_eq_append_getElem h, List.foldl_append]
      rfl
    have E0 : Hid ((zs.take 0).foldl (fun l k => markF f d cl k l) (l ++ [n]) = l ++ [n]) := rfl
    have EZ : Hid (markF (f + 1) d cl n l = (zs.take zs.length).foldl (fun l k => markF f d cl k l) (l ++ [n])) := by show _ = _; rw [List.take_length]; exact E.out
    generalize hE : (fun j => (zs.take j).foldl (fun l k => markF f d cl k l) (l ++ [n])) = G
    have eE : ∀ j, (zs.take j).foldl (fun l k => markF f d cl k l) (l ++ [n]) = G j := fun j => by rw [← hE]
    simp only [eE] at MK EJ E0 EZ
    rw [EZ.out]
    clear eE hE E EZ
    have z1 : (W.alloc (.cells #[.slice (some ⟨b, o, none⟩) rs.length c, .slice p cl.length cc, .map A, .map (some L)] 94)).heap.size = W.heap.size + 1 := by simp
    have hLl := S0.out.lt
    go_enter Tryz.func146, Tryz.ntmps146
    obtain ⟨q0, q1, q2, q3⟩ := C0
    go_upto_region 4 with (first
      | (go_at_call 112; refine hH.mono ?_; rintro e w2 ⟨rfl, hb2⟩; have K2 := keeps_below hb2 (Nat.le_refl _); have b0 := K2 _ _ q0; have b1 := K2 _ _ q1; have b2 := K2 _ _ q2; have b3 := K2 _ _ q3; have B2 := B1.trans (hb2.mono B1.size); have S2 : Hid (SetAt w2 L l) := S0.out.below B2)
      | (at_mapUpdate; refine set_put rfl _ _ _ rfl L l n (by omega) (by omega) rfl (S2.out.pre n) rfl rfl ?_; intro w3 hS3 hg3; have G3 : Bt [L] w2 w3 := Bt.grow1 hg3 (by simp); have K3 := G3.keeps S2.out.maps; have d0 := K3 _ _ b0; have d1 := K3 _ _ b1; have d2 := K3 _ _ b2; have d3 := K3 _ _ b3; have N3 : Hid (Nx w3 b o c rs d (.slice p cl.length cc) cl) := (NX.out.below B2).keeps K3 G3.size; have VK3 := VK.out w3 N3.out; have S3 : Hid (SetAt w3 L (l ++ [n])) := hS3; clear hS3; go_frame)
      | (go_at_call 140; refine VK3.mono ?_; rintro e w4 ⟨v4, rfl, ho4, hb4⟩; have K4 := keeps_below hb4 (Nat.le_refl _); have e0 := K4 _ _ d0; have e1 := K4 _ _ d1; have e2 := K4 _ _ d2; have e3 := K4 _ _ d3; obtain ⟨pz, cz, rfl, y1, y2, _, hat⟩ := (ints_of_owns ho4).at))
    have T : Hid (∀ j (hj : j < zs.length), ∃ b o, pz = some ⟨b, o, none⟩ ∧ w4.cell? ⟨b, o + j, none⟩ = some (.int .i64 (zs[j] : Int))) := hat
    have S4 : Hid (SetAt w4 L (l ++ [n])) := S3.out.below hb4
    have M4 : Hid (AreMaps [L] w4) := S4.out.maps
    have N4 : Hid (Nx w4 b o c rs d (.slice p cl.length cc) cl) := N3.out.below hb4
    have BT4 : Hid (Bt [L] W w4) := ((Bt.below B2).trans G3).trans (Bt.below hb4)
    clear hat ho4 VK3 VK K2 K3 K4 b0 b1 b2 b3 d0 d1 d2 d3 q0 q1 q2 q3 hb2 hb4 hg3 G3 S2 S3 N3 B1 B2 hH NX S0
    go_loopw [21] (fun iv wr => ∃ j : Nat, j ≤ zs.length ∧ iv = .int .i64 j ∧ Hid (SetAt wr L (G j)) ∧ Bt [L] w4 wr) (fun iv _ => zs.length - (intOf iv).toNat)
    case atStart => exact ⟨0, Nat.zero_le _, rfl, by show SetAt _ _ _; rw [E0.out]; exact S4.out, Bt.refl _ _⟩
    case round =>
      obtain ⟨j, hj, rfl, hSr, hbt⟩ := hrel
      have KR : Keeps w4 wr := hbt.keeps M4.out
      have a0 := KR _ _ e0
      have a1 := KR _ _ e1
      have a2 := KR _ _ e2
      have a3 := KR _ _ e3
      by_cases hlt : j < zs.length
      · obtain ⟨bz, oz, rfl, hc⟩ := T.out j hlt
        have hc1 := KR _ _ hc
        have HC := H wr A (G j) zs[j] (N4.out.keeps KR hbt.size) hSr.out (MK.out j).ok (Nat.le_trans FU.out (Nat.add_le_add_left (MK.out j).len f)) (HL.out _ (List.getElem_mem hlt))
        rw [← EJ.out j hlt] at HC
        clear hc
        generalize zs[j] = k at *
        go_wp2_with (go_at_call 146; refine HC.mono ?_; rintro e w5 ⟨rfl, hS5, hb5⟩)
        go_roundw
        case rel => exact ⟨j + 1, by omega, by go_num, hS5, hbt.trans hb5⟩
        case measure => simp [intOf]; omega
      · obtain rfl : j = zs.length := by omega
        go_wp2_with fail
        go_end0
        exact ⟨rfl, hSr.out, BT4.out.trans hbt⟩

theorem nlist_all {b o c : Nat} {rs : List Raw} {d : Tn.Dc} {p : Option Addr} {cc : Nat} {cl : List Cl} {L : Nat} : ∀ f, ListC b o c rs d p cc cl L f
  | 0 => fun W A l n hx hS ho hf hn => absurd (ho.few hx.cx.fine) (by omega)
  | f + 1 => nlist_step (nlist_all f)
end Go.Proofs.YtbinbojicmhdlaeGreatDoor

/-
  THE WALK of tnlaw5's RoleAsked; a slice of strings that came in, as it reads.
-/
namespace Go.Proofs.YtbinbojicmhdlaeGreatDoor
open Go.RowKit

def StrsAt (w : World) (v : Value) (l : List ByteArray) : Prop :=
  ∃ p c, v = .slice p l.length c ∧ l.length ≤ c ∧ c ≤ 9223372036854775807 ∧ ∀ j (h : j < l.length), ∃ b o, p = some ⟨b, o, none⟩ ∧ w.cell? ⟨b, o + j, none⟩ = some (.string l[j])
theorem StrsAt.keeps {w w' : World} {v : Value} {l : List ByteArray} (h : StrsAt w v l) (k : Keeps w w') : StrsAt w' v l := by
  obtain ⟨p, c, e, h1, h2, h4⟩ := h
  refine ⟨p, c, e, h1, h2, fun j hj => ?_⟩
  obtain ⟨b, o, e1, e2⟩ := h4 j hj
  exact ⟨b, o, e1, k _ _ e2⟩


section
open Go.ChangeShapes Go.WideShapes Go.ChangeAt
end

end Go.Proofs.YtbinbojicmhdlaeGreatDoor

/-
  ROWS of the call's own: texts, and numbers that may be below zero; append, with all other blocks as they were.
-/
namespace Go.Proofs.YtbinbojicmhdlaeGreatDoor
open Go.RowKit

def sv (s : ByteArray) : Value := .string s
def zv (k : Int) : Value := .int .i64 k
def OwnS (w : World) (B : Nat) (v : Value) (l : List ByteArray) : Prop := w.ownsRow B 9 1 v l.length (l.map sv)
def OwnZ (w : World) (B : Nat) (v : Value) (l : List Int) : Prop := w.ownsRow B 3 1 v l.length (l.map zv)
def ZsAt (w : World) (v : Value) (l : List Int) : Prop := CellsAt w v l.length (l.map zv)
theorem OwnS.nil (w : World) (B : Nat) : OwnS w B (.slice none 0 0) [] := World.ownsRow_nil _ _ _ _
theorem OwnZ.nil (w : World) (B : Nat) : OwnZ w B (.slice none 0 0) [] := World.ownsRow_nil _ _ _ _
theorem zs_of_ints {w : World} {v : Value} {l : List Nat} (h : IntsAt w v l) : ZsAt w v (l.map Int.ofNat) := by
  unfold ZsAt
  unfold IntsAt at h
  rw [List.length_map, List.map_map]
  exact h
theorem ZsAt.keeps {w w' : World} {v : Value} {l : List Int} (h : ZsAt w v l) (k : Keeps w w') : ZsAt w' v l := CellsAt.keeps h k
theorem ZsAt.at {w : World} {v : Value} {l : List Int} (h : ZsAt w v l) : ∃ p c, v = .slice p l.length c ∧ l.length ≤ c ∧ c ≤ 9223372036854775807 ∧
    ∀ j (hj : j < l.length), ∃ b o, p = some ⟨b, o, none⟩ ∧ w.cell? ⟨b, o + j, none⟩ = some (.int .i64 l[j]) := by
  obtain ⟨p, c, e, h1, h2, h3, h4⟩ := h
  refine ⟨p, c, e, h1, by unfold maxLen at h2; omega, fun j hj => ?_⟩
  obtain ⟨b, o, e1, e2⟩ := h4 j (zv l[j]) (by simp [hj])
  exact ⟨b, o, e1, e2⟩
theorem box2 (w : World) (x y : Value) (t : Nat) : (w.alloc (.cells #[x, y] t)).cell? ⟨w.heap.size, 0, none⟩ = some x ∧ (w.alloc (.cells #[x, y] t)).cell? ⟨w.heap.size, 1, none⟩ = some y := by
  constructor <;> rw [World.cell?_alloc_new] <;> simp
theorem box3' (w : World) (x y z : Value) (t : Nat) : (w.alloc (.cells #[x, y, z] t)).cell? ⟨w.heap.size, 0, none⟩ = some x ∧ (w.alloc (.cells #[x, y, z] t)).cell? ⟨w.heap.size, 1, none⟩ = some y ∧ (w.alloc (.cells #[x, y, z] t)).cell? ⟨w.heap.size, 2, none⟩ = some z := by
  refine ⟨?_, ?_, ?_⟩ <;> rw [World.cell?_alloc_new] <;> simp
theorem box3 (w : World) (x y z : Value) (t : Nat) (o : Obj) : ((w.alloc (.cells #[x, y, z] t)).alloc o).cell? ⟨w.heap.size, 0, none⟩ = some x ∧ ((w.alloc (.cells #[x, y, z] t)).alloc o).cell? ⟨w.heap.size, 1, none⟩ = some y ∧ ((w.alloc (.cells #[x, y, z] t)).alloc o).cell? ⟨w.heap.size, 2, none⟩ = some z := by
  have h := box3' w x y z t
  exact ⟨keeps_alloc _ _ _ _ h.1, keeps_alloc _ _ _ _ h.2.1, keeps_alloc _ _ _ _ h.2.2⟩

theorem append_str {wr : World} {ops : Array Oper} {rest : List Oper} {o : Oper} {a : Act} {Q : Exit → Act → World → Prop} (hgd : o.guard = none)
    (s x : Operand) (ho : o.op = Op.call { callee := Callee.builtin Builtin.append, args := #[s, x], argTypes := #[59, 59] }) {B : Nat} {v : Value} {l : List ByteArray} (t : ByteArray)
    (hs : a.eval s = v) (hx : a.eval x = .slice (some ⟨wr.heap.size, 0, none⟩) 1 1) (hown : OwnS wr B v l) (hB : B ≤ wr.heap.size) (hsz : l.length ≤ 1000000000)
    (h : ∀ v' w1, OwnS w1 B v' (l ++ [t]) → Below B wr w1 → wpList Tryz.prog ops Q rest (a.put o.dst v') w1) :
    wpList Tryz.prog ops Q (o :: rest) a (wr.alloc (.cells #[.string t] 9)) := by
  obtain ⟨i0, hi, hz0, hz1, hz2⟩ := info_parts Wd.info9
  unfold OwnS at hown h
  refine wpList_append_own _ hgd s x 59 ho B 9 i0 (.string ⟨#[]⟩) 1 16 Tryz.underlying59 hi hz0 hz1 hz2 rfl (by decide) v _ _ hs (hown.alloc _) ⟨_, 0, none⟩ 1 1 [sv t] hx rfl ?_ ?_ ?_ ?_ ?_ ?_
  · exact cell_one_new _ _ _
  · intro u hu; simp at hu; subst hu; rfl
  · unfold maxLen; omega
  · omega
  · simp; omega
  · intro v' w1 h1 h2 _
    exact h v' w1 (by simpa using h1) (((Below.refl B wr).alloc hB (.cells #[.string t] 9)).grown h2 (by simp; omega) (fun j hj => (hown.lt j hj).1))
/-- strings.Join of a row of the call's own -/
theorem gjoin_owns {w : World} {B : Nat} {v : Value} {l : List ByteArray} (h : OwnS w B v l) (hN : l.length ≤ 1073741824) (hlen : (Tx.joined (txs l)).length ≤ 1073741824) :
    Calls Tryz.prog 125 #[v, .string ⟨#[32]⟩] w fun e w' => e = .returned (.string (joinB l)) ∧ Below w.heap.size w w' := by
  by_cases hne : l = []
  · subst hne
    rcases h.2 with ⟨rfl, _⟩ | ⟨g, cap, cur, rfl, _⟩
    · refine (Tryz.strings_Join_none none 0 _ w).mono ?_
      rintro e w' ⟨rfl, rfl⟩
      exact ⟨rfl, Below.refl _ _⟩
    · refine (Tryz.strings_Join_none _ cap _ w).mono ?_
      rintro e w' ⟨rfl, rfl⟩
      exact ⟨rfl, Below.refl _ _⟩
  · have h' : w.ownsRow B 9 1 v (txs l).length ((txs l).map Wd.tv) := by
      have e : (txs l).map Wd.tv = l.map sv := by
        unfold txs
        rw [List.map_map]
        rfl
      rw [e]
      unfold OwnS at h
      simpa [txs] using h
    obtain ⟨g, c, rfl, hW⟩ := Wd.words_of h' (by
      intro e
      apply hne
      have : (txs l).length = 0 := by rw [e]; rfl
      simpa [txs] using this)
    exact Wd.join_words (txs l) B g c w hW (by simpa [txs] using hN) hlen
end Go.Proofs.YtbinbojicmhdlaeGreatDoor

/-
  THE WALK of naming's names.
-/
namespace Go.Proofs.YtbinbojicmhdlaeGreatDoor
open Go.RowKit Go.Maps

/-- one more -/
def stepE (nm : St → Nat → ByteArray × St) (s : List ByteArray × St) (k : Int) : List ByteArray × St :=
  if 0 ≤ k ∧ s.2.had.contains k.toNat = false then (s.1 ++ [(nm s.2 k.toNat).1], (nm s.2 k.toNat).2) else s
theorem each_fold (nm : St → Nat → ByteArray × St) : ∀ (ks : List Int) (s : List ByteArray × St), eachF nm ks s = ks.foldl (stepE nm) s
  | [], _ => rfl
  | k :: ks, s => by
    rw [eachF, each_fold nm ks, List.foldl_cons]
    rfl
theorem each_take (nm : St → Nat → ByteArray × St) (ks : List Int) (s : List ByteArray × St) (j : Nat) (h : j < ks.length) : eachF nm (ks.take (j + 1)) s = stepE nm (eachF nm (ks.take j) s) ks[j] := by
  rw [each_fold, each_fold, List.take_succ_eq_append_getElem h, List.foldl_append]
  rfl

/-- what name answers, with as much fuel as that -/
def NameC (b o c : Nat) (rs : List Raw) (d : Tn.Dc) (p : Option Addr) (cc : Nat) (cl : List Cl) (A L f : Nat) : Prop :=
  ∀ (W : World) (st : St) (n : Nat) (fo : Bool), Nx W b o c rs d (.slice p cl.length cc) cl → PreAt W A st.had n → SetAt W L st.lst → OkS d st → 61 ≤ f + st.had.length → Tn.lvD d n = true → n ∉ st.had →
    Calls Tryz.prog 71 #[.agg #[.slice (some ⟨b, o, none⟩) rs.length c, .slice p cl.length cc, .map (some A), .map (some L)], .int .i64 (n : Int), .bool fo] W fun e w' =>
      e = .returned (.string (nameF f d cl st n fo).1) ∧ SetAt w' A (nameF f d cl st n fo).2.had ∧ SetAt w' L (nameF f d cl st n fo).2.lst ∧ Bt [A, L] W w'

set_option maxHeartbeats 6400000 in
set_option maxRecDepth 100000 in
theorem nnames_of {b o c : Nat} {rs : List Raw} {d : Tn.Dc} {p : Option Addr} {cc : Nat} {cl : List Cl} {A L f : Nat} (H : NameC b o c rs d p cc cl A L f) {W : World} {vk : Value} {ks : List Int} {st : St} (hx : Nx W b o c rs d (.slice p cl.length cc) cl) (hS : SetAt W A st.had) (hL : SetAt W L st.lst) (ho : OkS d st) (hf : 61 ≤ f + st.had.length)
    (hk : ZsAt W vk ks) (hks : ∀ k ∈ ks, -1 ≤ k ∧ ∀ j : Nat, k = (j : Int) → Tn.lvD d j = true) (hlen : ks.length ≤ 1073741824) :
    Calls Tryz.prog 144 #[.agg #[.slice (some ⟨b, o, none⟩) rs.length c, .slice p cl.length cc, .map (some A), .map (some L)], vk] W fun e w' =>
      e = .returned (.string (joinF (eachF (fun t k => nameF f d cl t k true) ks ([], st))).1) ∧ SetAt w' A (joinF (eachF (fun t k => nameF f d cl t k true) ks ([], st))).2.had ∧ SetAt w' L (joinF (eachF (fun t k => nameF f d cl t k true) ks ([], st))).2.lst ∧ Bt [A, L] W w' := by
  have hF := hx.cx.fine
  have hdl := hF.good.len.2
  have hAl := hS.lt
  have hLl := hL.lt
  have ER : Hid (∀ j, EachR d ([], st) (eachF (fun t k => nameF f d cl t k true) (ks.take j) ([], st))) := fun j => each_went ((name_ok hF hx.cx.vn hx.vt hx.forest f).one true) (ks.take j) ([], st) (fun k hk' i e => (hks k (List.mem_of_mem_take hk')).2 i e) ho (by show 61 - f ≤ st.had.length; omega)
  have E0 : Hid (eachF (fun t k => nameF f d cl t k true) (ks.take 0) ([], st) = ([], st)) := rfl
  have EZ : Hid (eachF (fun t k => nameF f d cl t k true) ks ([], st) = eachF (fun t k => nameF f d cl t k true) (ks.take ks.length) ([], st)) := by show _ = _; rw [List.take_length]
  have EJ : Hid (∀ j (h : j < ks.length), eachF (fun t k => nameF f d cl t k true) (ks.take (j + 1)) ([], st) = stepE (fun t k => nameF f d cl t k true) (eachF (fun t k => nameF f d cl t k true) (ks.take j) ([], st)) ks[j]) := fun j h => each_take _ ks _ j h
  have KS : Hid (∀ k ∈ ks, -1 ≤ k ∧ ∀ j : Nat, k = (j : Int) → Tn.lvD d j = true) := hks
  have NX : Hid (Nx W b o c rs d (.slice p cl.length cc) cl) := hx
  have S0 : Hid (SetAt W A st.had) := hS
  have L0 : Hid (SetAt W L st.lst) := hL
  obtain ⟨pk, ck, rfl, kc1, kc2, hat⟩ := hk.at
  have HAT : Hid (∀ j (hj : j < ks.length), ∃ b o, pk = some ⟨b, o, none⟩ ∧ W.cell? ⟨b, o + j, none⟩ = some (.int .i64 ks[j])) := hat
  have FU : Hid (61 ≤ f + st.had.length) := hf
  generalize hE : (fun j => eachF (fun t k => nameF f d cl t k true) (ks.take j) ([], st)) = E
  have eE : ∀ j, eachF (fun t k => nameF f d cl t k true) (ks.take j) ([], st) = E j := fun j => by rw [← hE]
  simp only [eE] at ER E0 EZ EJ
  rw [EZ.out]
  clear eE hE hat hk hS hL hx hks ho EZ
  have B2 : Below W.heap.size W (W.alloc (.cells #[.slice (some ⟨b, o, none⟩) rs.length c, .slice p cl.length cc, .map (some A), .map (some L)] 94)) := (Below.refl W.heap.size W).alloc (Nat.le_refl _) _
  have z2 : (W.alloc (.cells #[.slice (some ⟨b, o, none⟩) rs.length c, .slice p cl.length cc, .map (some A), .map (some L)] 94)).heap.size = W.heap.size + 1 := by simp
  have C0 := box4' W (.slice (some ⟨b, o, none⟩) rs.length c) (.slice p cl.length cc) (.map (some A)) (.map (some L)) 94
  go_enter Tryz.func144, Tryz.ntmps144
  go_upto_region 3 with fail
  generalize W.alloc (.cells #[.slice (some ⟨b, o, none⟩) rs.length c, .slice p cl.length cc, .map (some A), .map (some L)] 94) = w2 at *
  obtain ⟨q0, q1, q2, q3⟩ := C0
  have N2 : Hid (Nx w2 b o c rs d (.slice p cl.length cc) cl) := NX.out.below B2
  have S2 : SetAt w2 A st.had := S0.out.below B2
  have L2 : SetAt w2 L st.lst := L0.out.below B2
  have M2 : Hid (AreMaps [A, L] w2) := maps2 S2 L2
  go_loopw [5, 10] (fun nv iv wr => ∃ (j : Nat) (nw : Value), j ≤ ks.length ∧ iv = .int .i64 j ∧ nv = nw ∧ OwnS wr (W.heap.size + 1) nw (E j).1 ∧ SetAt wr A (E j).2.had ∧ Hid (SetAt wr L (E j).2.lst) ∧ Bt [A, L] w2 wr)
    (fun _ iv _ => ks.length - (intOf iv).toNat)
  case atStart => exact ⟨0, _, Nat.zero_le _, rfl, rfl, by rw [E0.out]; exact OwnS.nil _ _, by rw [E0.out]; exact S2, by show SetAt _ _ _; rw [E0.out]; exact L2, Bt.refl _ _⟩
  case round =>
    obtain ⟨j, nv, hj, rfl, rfl, hown, hSr, hLr, hbt⟩ := hrel
    have zr := hbt.size
    have KR : Keeps w2 wr := hbt.keeps M2.out
    have a0 := KR _ _ q0
    have a1 := KR _ _ q1
    have a2 := KR _ _ q2
    have a3 := KR _ _ q3
    have NR : Hid (Nx wr b o c rs d (.slice p cl.length cc) cl) := N2.out.keeps KR zr
    have ERj := ER.out j
    have hfew := ERj.went.ok.few hF
    have hll := ERj.len
    have hsm := ERj.sum
    have hwl := ERj.went.len
    simp only [List.length_nil, sumS] at hll hsm
    by_cases hlt : j < ks.length
    · obtain ⟨bk, ok, rfl, hcell⟩ := HAT.out j hlt
      have hc : wr.cell? ⟨bk, ok + j, none⟩ = some (.int .i64 ks[j]) := KR _ _ (keeps_below B2 (Nat.le_refl _) _ _ hcell)
      have hkj := KS.out ks[j] (List.getElem_mem _)
      have EJj := EJ.out j hlt
      have EM : Hid (E (j + 1) = stepE (fun t k => nameF f d cl t k true) (E j) ks[j]) := EJj
      clear EJj hcell
      generalize ks[j] = k at *
      by_cases hit : 0 ≤ k ∧ (E j).2.had.contains k.toNat = false
      · obtain ⟨m, rfl⟩ : ∃ m : Nat, k = (m : Int) := ⟨k.toNat, by omega⟩
        have hml := hkj.2 m rfl
        have hmn := Tn.lv_lt hml
        have hnot : m ∉ (E j).2.had := by simpa using hit.2
        have EH : Hid (E (j + 1) = ((E j).1 ++ [(nameF f d cl (E j).2 m true).1], (nameF f d cl (E j).2 m true).2)) := by
          show _ = _
          rw [EM.out]
          unfold stepE
          rw [if_pos hit, Int.toNat_natCast]
        have MA := nmay_any NR.out.cx.doc hSr (L := some L) p cl.length cc (m : Int) (by omega) (by omega)
        have eM : (!decide (0 ≤ (m : Int) ∧ (m : Int).toNat ∈ (E j).2.had) && Tn.isN d (m : Int) false) = true := by
          rw [Tn.isN_iff, hml]
          simpa using hnot
        rw [eM] at MA
        have NC : Hid (∀ w3, Below wr.heap.size wr w3 → Calls Tryz.prog 71 #[.agg #[.slice (some ⟨b, o, none⟩) rs.length c, .slice p cl.length cc, .map (some A), .map (some L)], .int .i64 (m : Int), .bool true] w3 fun e w' =>
            e = .returned (.string (nameF f d cl (E j).2 m true).1) ∧ SetAt w' A (nameF f d cl (E j).2 m true).2.had ∧ SetAt w' L (nameF f d cl (E j).2 m true).2.lst ∧ Bt [A, L] w3 w') := fun w3 hb3 => H w3 (E j).2 m true (NR.out.below hb3) ((hSr.below hb3).pre m) (hLr.out.below hb3) ERj.went.ok (by have := FU.out; have : st.had.length ≤ (E j).2.had.length := hwl; omega) hml hnot
        have HS : Hid (SetAt wr A (E j).2.had) := hSr
        have HB : Hid (Bt [A, L] w2 wr) := hbt
        have HO : Hid (OwnS wr (W.heap.size + 1) _ (E j).1) := hown
        have hl9 : (E j).1.length ≤ 1000000000 := by omega
        clear EM hit hkj hml hnot eM hSr ERj hbt
        generalize (nameF f d cl (E j).2 m true).2 = s9 at *
        generalize (nameF f d cl (E j).2 m true).1 = t9 at *
        generalize hEj : (E j).1 = ej at *
        clear hEj
        go_wp2_with (first
          | (go_at_call 145; refine MA.mono ?_; rintro e w3 ⟨rfl, hb3⟩; have K3 := keeps_below hb3 (Nat.le_refl _); have b0 := K3 _ _ a0; have b1 := K3 _ _ a1; have b2 := K3 _ _ a2; have b3 := K3 _ _ a3; have NC3 := NC.out w3 hb3)
          | (go_at_call 71; refine NC3.mono ?_; rintro e w4 ⟨rfl, hS4, hL4, hb4⟩; have O4 : OwnS w4 (W.heap.size + 1) _ ej := hb4.owns (owns_below HO.out hb3) (by simp; omega); have z4 : W.heap.size + 1 ≤ w4.heap.size := by (have := hb4.size; have := hb3.size; omega))
          | (at_builtin; refine append_str rfl _ _ rfl t9 rfl rfl O4 z4 hl9 ?_; intro v5 w5 O5 hb5))
        go_roundw
        case rel =>
          refine ⟨j + 1, _, by omega, by go_num, rfl, by rw [EH.out]; exact O5, ?_, ?_, ?_⟩
          · rw [EH.out]
            exact hS4.same (hb5.block A (by omega))
          · show SetAt _ _ _
            rw [EH.out]
            exact hL4.same (hb5.block L (by omega))
          · exact ((HB.out.trans ((Bt.below hb3).trans hb4)).high hb5 (by omega))
        case measure => simp [intOf]; omega
      · have MA := nmay_any NR.out.cx.doc hSr (L := some L) p cl.length cc k (by omega) (by
          by_cases h0 : 0 ≤ k
          · obtain ⟨m, rfl⟩ : ∃ m : Nat, k = (m : Int) := ⟨k.toNat, by omega⟩
            have := Tn.lv_lt (hkj.2 m rfl)
            omega
          · omega)
        have eM : (!decide (0 ≤ k ∧ k.toNat ∈ (E j).2.had) && Tn.isN d k false) = false := by
          by_cases h0 : 0 ≤ k
          · have : k.toNat ∈ (E j).2.had := by
              apply Classical.byContradiction
              intro hn
              exact hit ⟨h0, by simpa using hn⟩
            simp [h0, this]
          · have : Tn.isN d k false = false := by unfold Tn.isN; simp [h0]
            rw [this]
            simp
        rw [eM] at MA
        have EH : Hid (E (j + 1) = E j) := by
          show _ = _
          rw [EM.out]
          unfold stepE
          rw [if_neg hit]
        have HS : Hid (SetAt wr A (E j).2.had) := hSr
        have HB : Hid (Bt [A, L] w2 wr) := hbt
        have HO : Hid (OwnS wr (W.heap.size + 1) _ (E j).1) := hown
        clear EM hit hkj eM hSr ERj hbt hown
        go_wp2_with (go_at_call 145; refine MA.mono ?_; rintro e w3 ⟨rfl, hb3⟩)
        go_roundw
        case rel => exact ⟨j + 1, _, by omega, by go_num, rfl, by rw [EH.out]; exact owns_below HO.out hb3, by rw [EH.out]; exact HS.out.below hb3, by show SetAt _ _ _; rw [EH.out]; exact hLr.out.below hb3, HB.out.trans (Bt.below hb3)⟩
        case measure => simp [intOf]; omega
    · obtain rfl : j = ks.length := by omega
      have hjs := joined_sum (E ks.length).1
      have hb9 : (Tx.joined (txs (E ks.length).1)).length ≤ 1073741824 := by
        have h1 : VL * ((E ks.length).2.had.length - st.had.length) ≤ VL * 60 := Nat.mul_le_mul_left _ (by omega)
        unfold VL at *
        omega
      have GJ := gjoin_owns hown (by omega) hb9
      have SQ : ∀ w3, Calls Tryz.prog 82 #[.string (joinB (E ks.length).1)] w3 fun e w' => e = .returned (.string (Wd.sqz (joinB (E ks.length).1))) ∧ Below w3.heap.size w3 w' := fun w3 => Wd.squeeze_big _ w3 (by have := joinB_size (E ks.length).1; have h1 : VL * ((E ks.length).2.had.length - st.had.length) ≤ VL * 60 := Nat.mul_le_mul_left _ (by omega); unfold VL at *; omega)
      have ER9 : Hid ((joinF (E ks.length)).1 = Wd.sqz (joinB (E ks.length).1)) := rfl
      have HS : Hid (SetAt wr A (joinF (E ks.length)).2.had) := hSr
      have HB : Hid (Bt [A, L] W wr) := (Bt.below B2).trans hbt
      have HLL : Hid (SetAt wr L (joinF (E ks.length)).2.lst) := hLr.out
      clear hjs hb9 hSr ERj hbt hll hsm
      generalize joinB (E ks.length).1 = jb at *
      go_wp2_with (first
        | (go_at_call 125; refine GJ.mono ?_; rintro e w3 ⟨rfl, hb3⟩)
        | (go_at_call 82; refine (SQ _).mono ?_; rintro e w4 ⟨rfl, hb4⟩))
      go_ret
      exact ⟨congrArg (fun s => Ending.returned (.string s)) ER9.out.symm, (HS.out.below hb3).below hb4, (HLL.out.below hb3).below hb4, HB.out.trans ((Bt.below hb3).trans (Bt.below hb4))⟩
end Go.Proofs.YtbinbojicmhdlaeGreatDoor

/-
  THE WALK of naming's listedNames.
-/
namespace Go.Proofs.YtbinbojicmhdlaeGreatDoor
open Go.RowKit Go.Maps

theorem toks_cells {w : World} {B : Nat} {v : Value} {ts : List (List UInt8)} (h : w.ownsRow B 9 1 v ts.length (ts.map Wd.tv)) : ∃ p c, v = .slice p ts.length c ∧ ts.length ≤ c ∧ c ≤ 9223372036854775807 ∧ ∀ j (_ : j < ts.length), ∃ b o, p = some ⟨b, o, none⟩ ∧ w.cell? ⟨b, o + j, none⟩ = some (.string (Tx.bs ts[j])) := by
  obtain ⟨p, c, e, h1, h2, h3, h4⟩ := cells_of_owns h
  refine ⟨p, c, e, h1, by unfold maxLen at h2; omega, fun j hj => ?_⟩
  obtain ⟨b, o, e1, e2⟩ := h4 j (Wd.tv ts[j]) (by simp [hj])
  exact ⟨b, o, e1, e2⟩
theorem wtoks_at (s : ByteArray) (W : World) (hs : s.size ≤ 4194304) : Calls Tryz.prog 80 #[.string s] W fun e w' => ∃ p c, e = .returned (.slice p (Wd.toksOf s).length c) ∧ Hid ((Wd.toksOf s).length ≤ c ∧ c ≤ 9223372036854775807 ∧ ∀ j (_ : j < (Wd.toksOf s).length), ∃ b o, p = some ⟨b, o, none⟩ ∧ w'.cell? ⟨b, o + j, none⟩ = some (.string (Tx.bs (Wd.toksOf s)[j]))) ∧ Below W.heap.size W w' :=
  (Wd.tokens_own s W hs).mono (by
    rintro e w' ⟨v, rfl, h2, h3, _⟩
    obtain ⟨p, c, rfl, h⟩ := toks_cells h2
    exact ⟨p, c, rfl, h, h3⟩)
theorem find_range {d : Tn.Dc} (h : Fine d) (n : Int) (id : ByteArray) : -1 ≤ findD d n id ∧ ∀ j : Nat, findD d n id = (j : Int) → Tn.lvD d j = true := by
  refine ⟨?_, fun j e => find_lv h e⟩
  rcases find_neg (d := d) (n := n) (id := id) with e | ⟨k, e⟩ <;> omega

set_option maxHeartbeats 6400000 in
set_option maxRecDepth 100000 in
theorem nlisted_of {b o c : Nat} {rs : List Raw} {d : Tn.Dc} {p : Option Addr} {cc : Nat} {cl : List Cl} {A L f : Nat} (H : NameC b o c rs d p cc cl A L f) (hne : A ≠ L) {W : World} {st : St} (hx : Nx W b o c rs d (.slice p cl.length cc) cl) (hS : SetAt W A st.had) (hL : SetAt W L st.lst) (ho : OkS d st) (hf : 61 ≤ f + st.had.length) (n : Int) (name : ByteArray) :
    Calls Tryz.prog 114 #[.agg #[.slice (some ⟨b, o, none⟩) rs.length c, .slice p cl.length cc, .map (some A), .map (some L)], .int .i64 n, .string name] W fun e w' =>
      e = .returned (.string (listD (nameF f d cl) d cl n name st).1) ∧ SetAt w' A (listD (nameF f d cl) d cl n name st).2.had ∧ SetAt w' L (listD (nameF f d cl) d cl n name st).2.lst ∧ Bt [A, L] W w' := by
  have hF := hx.cx.fine
  have hdl := hF.good.len.2
  have hAl := hS.lt
  have hLl := hL.lt
  have hz := val_size hx.cx.vn n name
  have htl := Wd.toksOf_len (valN d n name)
  have OK : Hid (Okd d) := hF.okd
  have ER : Hid (∀ j, EachR d ([], st) (eachF (tagN (nameF f d cl) d cl) ((refsD d n name).take j) ([], st))) := fun j => each_went ((name_ok hF hx.cx.vn hx.vt hx.forest f).tag hF hx.forest) ((refsD d n name).take j) ([], st) (fun k hk' i e => refs_lv hF n name k (List.mem_of_mem_take hk') i e) ho (by show 61 - f ≤ st.had.length; omega)
  have E0 : Hid (eachF (tagN (nameF f d cl) d cl) ((refsD d n name).take 0) ([], st) = ([], st)) := rfl
  have hlr : (refsD d n name).length = (Wd.toksOf (valN d n name)).length := by unfold refsD; rw [List.length_map]
  have EZ : Hid (listD (nameF f d cl) d cl n name st = joinF (eachF (tagN (nameF f d cl) d cl) ((refsD d n name).take (Wd.toksOf (valN d n name)).length) ([], st))) := by show _ = _; rw [← hlr, List.take_length]; rfl
  have EJ : Hid (∀ j (h : j < (Wd.toksOf (valN d n name)).length), eachF (tagN (nameF f d cl) d cl) ((refsD d n name).take (j + 1)) ([], st) = stepE (tagN (nameF f d cl) d cl) (eachF (tagN (nameF f d cl) d cl) ((refsD d n name).take j) ([], st)) (findD d n (Tx.bs (Wd.toksOf (valN d n name))[j]))) := fun j h => by
    have h1 := each_take (tagN (nameF f d cl) d cl) (refsD d n name) ([], st) j (by rw [hlr]; exact h)
    have h2 : (refsD d n name)[j]'(by rw [hlr]; exact h) = findD d n (Tx.bs (Wd.toksOf (valN d n name))[j]) := by unfold refsD; rw [List.getElem_map]
    rw [h2] at h1
    exact h1
  have B1 : Below W.heap.size W (W.alloc (.cells #[.slice (some ⟨b, o, none⟩) rs.length c, .slice p cl.length cc, .map (some A), .map (some L)] 94)) := (Below.refl W.heap.size W).alloc (Nat.le_refl _) _
  have C0 := box4' W (.slice (some ⟨b, o, none⟩) rs.length c) (.slice p cl.length cc) (.map (some A)) (.map (some L)) 94
  have hA := dattr_all (hx.below B1).cx.doc OK.out n name
  have hT : ∀ w2, Calls Tryz.prog 80 #[.string (valN d n name)] w2 fun e w' => ∃ p c, e = .returned (.slice p (Wd.toksOf (valN d n name)).length c) ∧ Hid ((Wd.toksOf (valN d n name)).length ≤ c ∧ c ≤ 9223372036854775807 ∧ ∀ j (_ : j < (Wd.toksOf (valN d n name)).length), ∃ b o, p = some ⟨b, o, none⟩ ∧ w'.cell? ⟨b, o + j, none⟩ = some (.string (Tx.bs (Wd.toksOf (valN d n name))[j]))) ∧ Below w2.heap.size w2 w' := fun w2 => wtoks_at _ w2 hz
  have NX : Hid (Nx W b o c rs d (.slice p cl.length cc) cl) := hx
  have S0 : Hid (SetAt W A st.had) := hS
  have L0 : Hid (SetAt W L st.lst) := hL
  have FU : Hid (61 ≤ f + st.had.length) := hf
  have HF : Hid (Fine d) := hF
  have HFO : Hid (Forest d cl) := hx.forest
  have HNE : Hid (A ≠ L) := hne
  rw [EZ.out]
  generalize hE : (fun j => eachF (tagN (nameF f d cl) d cl) ((refsD d n name).take j) ([], st)) = E
  have eE : ∀ j, eachF (tagN (nameF f d cl) d cl) ((refsD d n name).take j) ([], st) = E j := fun j => by rw [← hE]
  simp only [eE] at ER E0 EZ EJ
  rw [eE]
  have HJF : Hid (∀ s : List ByteArray × St, joinF s = (Wd.sqz (joinB s.1), s.2)) := fun _ => rfl
  generalize Wd.toksOf (valN d n name) = ts at *
  generalize valN d n name = vs at *
  generalize (attrN d n name).isSome = vb at *
  clear hx hS hL ho hf hF eE hE EZ hlr hne
  have z1 : (W.alloc (.cells #[.slice (some ⟨b, o, none⟩) rs.length c, .slice p cl.length cc, .map (some A), .map (some L)] 94)).heap.size = W.heap.size + 1 := by simp
  go_enter Tryz.func114, Tryz.ntmps114
  go_upto_region 1 with fail
  generalize W.alloc (.cells #[.slice (some ⟨b, o, none⟩) rs.length c, .slice p cl.length cc, .map (some A), .map (some L)] 94) = w1 at *
  obtain ⟨q0, q1, q2, q3⟩ := C0
  go_upto_region 4 with (first
    | (go_at_call 48; refine hA.mono ?_; rintro e w2 ⟨rfl, hb2⟩)
    | (go_at_call 80; refine (hT _).mono ?_; rintro e w3 ⟨pt, ct, rfl, HT, hb3⟩))
  have B3 : Below W.heap.size W w3 := B1.trans ((hb2.mono B1.size).trans (hb3.mono (Nat.le_trans B1.size hb2.size)))
  have K3 : Keeps w1 w3 := (keeps_below hb2 (Nat.le_refl _)).trans (keeps_below hb3 (Nat.le_refl _))
  have r0 := K3 _ _ q0
  have r1 := K3 _ _ q1
  have r2 := K3 _ _ q2
  have r3 := K3 _ _ q3
  have z3 : W.heap.size + 1 ≤ w3.heap.size := by have := hb2.size; have := hb3.size; omega
  have N3 : Hid (Nx w3 b o c rs d (.slice p cl.length cc) cl) := NX.out.below B3
  have S3 : Hid (SetAt w3 A st.had) := S0.out.below B3
  have L3 : Hid (SetAt w3 L st.lst) := L0.out.below B3
  have M3 : Hid (AreMaps [A, L] w3) := maps2 S3.out L3.out
  clear hT hA q0 q1 q2 q3 K3 hb2 hb3 B1 NX S0 L0
  go_loopw [9, 24] (fun nv iv wr => ∃ (j : Nat) (nw : Value), j ≤ ts.length ∧ iv = .int .i64 j ∧ nv = nw ∧ OwnS wr w3.heap.size nw (E j).1 ∧ SetAt wr A (E j).2.had ∧ Hid (SetAt wr L (E j).2.lst) ∧ Bt [A, L] w3 wr)
    (fun _ iv _ => ts.length - (intOf iv).toNat)
  case atStart => exact ⟨0, _, Nat.zero_le _, rfl, rfl, by rw [E0.out]; exact OwnS.nil _ _, by rw [E0.out]; exact S3.out, by show SetAt _ _ _; rw [E0.out]; exact L3.out, Bt.refl _ _⟩
  case round =>
    obtain ⟨j, nw, hj, rfl, rfl, hown, hSr, hLr, hbt⟩ := hrel
    have KR := hbt.keeps M3.out
    have a0 := KR _ _ r0
    have a1 := KR _ _ r1
    have a2 := KR _ _ r2
    have a3 := KR _ _ r3
    have zr := hbt.size
    have NR : Hid (Nx wr b o c rs d (.slice p cl.length cc) cl) := N3.out.keeps KR zr
    have ERj := ER.out j
    have hfew := ERj.went.ok.few HF.out
    have hll := ERj.len
    have hsm := ERj.sum
    have hwl := ERj.went.len
    simp only [List.length_nil, sumS] at hll hsm
    by_cases hlt : j < ts.length
    · obtain ⟨g1, g2, HC⟩ := HT.out
      obtain ⟨bk, ok, rfl, hcell⟩ := HC j hlt
      have hc : wr.cell? ⟨bk, ok + j, none⟩ = some (.string (Tx.bs ts[j])) := KR _ _ hcell
      have hFi : Calls Tryz.prog 67 #[.slice (some ⟨b, o, none⟩) rs.length c, .int .i64 n, .string (Tx.bs ts[j])] wr fun e w' => e = .returned (.int .i64 (findD d n (Tx.bs ts[j]))) ∧ Below wr.heap.size wr w' := dfind_any NR.out.cx.doc OK.out.tame OK.out.small OK.out.root OK.out.rise OK.out.few n _
      have hkj := find_range HF.out n (Tx.bs ts[j])
      have EM : Hid (E (j + 1) = stepE (tagN (nameF f d cl) d cl) (E j) (findD d n (Tx.bs ts[j]))) := EJ.out j hlt
      clear HC hcell
      generalize findD d n (Tx.bs ts[j]) = k at *
      generalize Tx.bs ts[j] = id at *
      have HB : Hid (Bt [A, L] w3 wr) := hbt
      have HO : Hid (OwnS wr w3.heap.size _ (E j).1) := hown
      have HS : Hid (SetAt wr A (E j).2.had) := hSr
      have KK : Hid (∀ w4, Below wr.heap.size wr w4 → w4.cell? ⟨W.heap.size, 0, none⟩ = some (.slice (some ⟨b, o, none⟩) rs.length c) ∧ w4.cell? ⟨W.heap.size, 1, none⟩ = some (.slice p cl.length cc) ∧ w4.cell? ⟨W.heap.size, 2, none⟩ = some (.map (some A)) ∧ w4.cell? ⟨W.heap.size, 3, none⟩ = some (.map (some L))) := fun w4 hb => ⟨keeps_below hb (Nat.le_refl _) _ _ a0, keeps_below hb (Nat.le_refl _) _ _ a1, keeps_below hb (Nat.le_refl _) _ _ a2, keeps_below hb (Nat.le_refl _) _ _ a3⟩
      by_cases hit : 0 ≤ k ∧ (E j).2.had.contains k.toNat = false
      · obtain ⟨m, rfl⟩ : ∃ m : Nat, k = (m : Int) := ⟨k.toNat, by omega⟩
        have hml := hkj.2 m rfl
        have hmn := Tn.lv_lt hml
        have hnot : m ∉ (E j).2.had := by simpa using hit.2
        have HMK := mark_ok HF.out HFO.out 64 m (E j).2.lst ERj.went.ok.okl hml
        have OKM : OkS d (markS d cl m (E j).2) := ⟨ERj.went.ok.nodup, ERj.went.ok.live, HMK.ok.nodup, HMK.ok.live⟩
        have EH : Hid (E (j + 1) = ((E j).1 ++ [(nameF f d cl (markS d cl m (E j).2) m true).1], (nameF f d cl (markS d cl m (E j).2) m true).2)) := by
          show _ = _
          rw [EM.out]
          unfold stepE
          rw [if_pos hit, Int.toNat_natCast]
          rfl
        have eM : (!decide (0 ≤ (m : Int) ∧ (m : Int).toNat ∈ (E j).2.had) && Tn.isN d (m : Int) false) = true := by
          rw [Tn.isN_iff, hml]
          simpa using hnot
        have MA : Hid (∀ w4, Below wr.heap.size wr w4 → Calls Tryz.prog 145 #[.agg #[.slice (some ⟨b, o, none⟩) rs.length c, .slice p cl.length cc, .map (some A), .map (some L)], .int .i64 (m : Int)] w4 fun e w' => e = .returned (.bool true) ∧ Below w4.heap.size w4 w') := fun w4 hb => by
          have := nmay_any (NR.out.below hb).cx.doc (hSr.below hb) (L := some L) p cl.length cc (m : Int) (by omega) (by omega)
          rw [eM] at this
          exact this
        have ML : Hid (∀ w5, Below wr.heap.size wr w5 → Calls Tryz.prog 146 #[.agg #[.slice (some ⟨b, o, none⟩) rs.length c, .slice p cl.length cc, .map (some A), .map (some L)], .int .i64 (m : Int)] w5 fun e w' => e = .returned (.tuple #[]) ∧ SetAt w' L (markS d cl m (E j).2).lst ∧ Bt [L] w5 w') := fun w5 hb => nlist_all 64 w5 (some A) (E j).2.lst m (NR.out.below hb) (hLr.out.below hb) ERj.went.ok.okl (by omega) hml
        have LM : Hid (∀ w5, Below wr.heap.size wr w5 → AreMaps [L] w5) := fun w5 hb => (hLr.out.below hb).maps
        have NC : Hid (∀ w5 w6, Below wr.heap.size wr w5 → Bt [L] w5 w6 → SetAt w6 L (markS d cl m (E j).2).lst → Calls Tryz.prog 71 #[.agg #[.slice (some ⟨b, o, none⟩) rs.length c, .slice p cl.length cc, .map (some A), .map (some L)], .int .i64 (m : Int), .bool true] w6 fun e w' =>
            e = .returned (.string (nameF f d cl (markS d cl m (E j).2) m true).1) ∧ SetAt w' A (nameF f d cl (markS d cl m (E j).2) m true).2.had ∧ SetAt w' L (nameF f d cl (markS d cl m (E j).2) m true).2.lst ∧ Bt [A, L] w6 w') := fun w5 w6 hb h1 h2 => H w6 (markS d cl m (E j).2) m true ((NR.out.below hb).bt h1 (LM.out w5 hb)) (SetAt.pre (S := (markS d cl m (E j).2).had) ((hSr.below hb).bt h1 (by simpa using HNE.out)) m) h2 OKM (by have := FU.out; have h9 : st.had.length ≤ (E j).2.had.length := hwl; show 61 ≤ f + (E j).2.had.length; omega) hml hnot
        have hl9 : (E j).1.length ≤ 1000000000 := by omega
        clear EM hit hkj hml hnot eM hSr hLr ERj hbt hown HMK OKM
        generalize (nameF f d cl (markS d cl m (E j).2) m true).2 = s9 at *
        generalize (nameF f d cl (markS d cl m (E j).2) m true).1 = t9 at *
        generalize (markS d cl m (E j).2).lst = l9 at *
        generalize hEj : (E j).1 = ej at *
        clear hEj a0 a1 a2 a3
        have A0 := KK.out wr (Below.refl _ _)
        obtain ⟨a0, a1, a2, a3⟩ := A0
        go_wp2_with (first
          | (go_at_call 67; refine hFi.mono ?_; rintro e w4 ⟨rfl, hb4⟩; have A4 := KK.out w4 hb4; obtain ⟨b0, b1, b2, b3⟩ := A4; have MA4 := MA.out w4 hb4)
          | (go_at_call 145; refine MA4.mono ?_; rintro e w5 ⟨rfl, hb5⟩; have B5 : Below wr.heap.size wr w5 := hb4.trans (hb5.mono hb4.size); have A5 := KK.out w5 B5; obtain ⟨c0, c1, c2, c3⟩ := A5; have ML5 := ML.out w5 B5; have K5 : Hid (AreMaps [L] w5) := LM.out w5 B5)
          | (go_at_call 146; refine ML5.mono ?_; rintro e w6 ⟨rfl, hL6, hb6⟩; have K6 := hb6.keeps K5.out; have d0 := K6 _ _ c0; have d1 := K6 _ _ c1; have d2 := K6 _ _ c2; have d3 := K6 _ _ c3; have NC6 := NC.out w5 w6 B5 hb6 hL6)
          | (go_at_call 71; refine NC6.mono ?_; rintro e w7 ⟨rfl, hS7, hL7, hb7⟩; have O7 : OwnS w7 w3.heap.size _ ej := hb7.owns (hb6.owns (owns_below HO.out B5) (by simp; omega)) (by simp; omega); have z7 : w3.heap.size ≤ w7.heap.size := by (have := hb7.size; have := hb6.size; have := B5.size; omega))
          | (at_builtin; refine append_str rfl _ _ rfl t9 rfl rfl O7 z7 hl9 ?_; intro v8 w8 O8 hb8))
        go_roundw
        case rel =>
          refine ⟨j + 1, _, by omega, by go_num, rfl, by rw [EH.out]; exact O8, ?_, ?_, ?_⟩
          · rw [EH.out]
            exact hS7.same (hb8.block A (by omega))
          · show SetAt _ _ _
            rw [EH.out]
            exact hL7.same (hb8.block L (by omega))
          · exact ((HB.out.trans ((Bt.below B5).trans ((hb6.wide (by simp)).trans hb7))).high hb8 (by omega))
        case measure => simp [intOf]; omega
      · have eM : (!decide (0 ≤ k ∧ k.toNat ∈ (E j).2.had) && Tn.isN d k false) = false := by
          by_cases h0 : 0 ≤ k
          · have : k.toNat ∈ (E j).2.had := by
              apply Classical.byContradiction
              intro hn
              exact hit ⟨h0, by simpa using hn⟩
            simp [h0, this]
          · have : Tn.isN d k false = false := by unfold Tn.isN; simp [h0]
            rw [this]
            simp
        have MA : Hid (∀ w4, Below wr.heap.size wr w4 → Calls Tryz.prog 145 #[.agg #[.slice (some ⟨b, o, none⟩) rs.length c, .slice p cl.length cc, .map (some A), .map (some L)], .int .i64 k] w4 fun e w' => e = .returned (.bool false) ∧ Below w4.heap.size w4 w') := fun w4 hb => by
          have := nmay_any (NR.out.below hb).cx.doc (hSr.below hb) (L := some L) p cl.length cc k (by omega) (by
            by_cases h0 : 0 ≤ k
            · obtain ⟨m, rfl⟩ : ∃ m : Nat, k = (m : Int) := ⟨k.toNat, by omega⟩
              have := Tn.lv_lt (hkj.2 m rfl)
              omega
            · omega)
          rw [eM] at this
          exact this
        have EH : Hid (E (j + 1) = E j) := by
          show _ = _
          rw [EM.out]
          unfold stepE
          rw [if_neg hit]
        have HLr : Hid (SetAt wr L (E j).2.lst) := hLr.out
        clear EM hit hkj eM hSr ERj hbt hown hLr
        go_wp2_with (first
          | (go_at_call 67; refine hFi.mono ?_; rintro e w4 ⟨rfl, hb4⟩; have A4 := KK.out w4 hb4; obtain ⟨b0, b1, b2, b3⟩ := A4; have MA4 := MA.out w4 hb4)
          | (go_at_call 145; refine MA4.mono ?_; rintro e w5 ⟨rfl, hb5⟩; have B5 : Below wr.heap.size wr w5 := hb4.trans (hb5.mono hb4.size)))
        go_roundw
        case rel => exact ⟨j + 1, _, by omega, by go_num, rfl, by rw [EH.out]; exact owns_below HO.out B5, by rw [EH.out]; exact HS.out.below B5, by show SetAt _ _ _; rw [EH.out]; exact HLr.out.below B5, HB.out.trans (Bt.below B5)⟩
        case measure => simp [intOf]; omega
    · obtain rfl : j = ts.length := by omega
      have hjs := joined_sum (E ts.length).1
      have hb9 : (Tx.joined (txs (E ts.length).1)).length ≤ 1073741824 := by
        have h1 : VL * ((E ts.length).2.had.length - st.had.length) ≤ VL * 60 := Nat.mul_le_mul_left _ (by omega)
        unfold VL at *
        omega
      have GJ := gjoin_owns hown (by omega) hb9
      have SQ : ∀ w3, Calls Tryz.prog 82 #[.string (joinB (E ts.length).1)] w3 fun e w' => e = .returned (.string (Wd.sqz (joinB (E ts.length).1))) ∧ Below w3.heap.size w3 w' := fun w3 => Wd.squeeze_big _ w3 (by have := joinB_size (E ts.length).1; have h1 : VL * ((E ts.length).2.had.length - st.had.length) ≤ VL * 60 := Nat.mul_le_mul_left _ (by omega); unfold VL at *; omega)
      have ER9 : Hid ((joinF (E ts.length)).1 = Wd.sqz (joinB (E ts.length).1)) := rfl
      have HS : Hid (SetAt wr A (joinF (E ts.length)).2.had) := hSr
      have HLL : Hid (SetAt wr L (joinF (E ts.length)).2.lst) := hLr.out
      have HB : Hid (Bt [A, L] W wr) := (Bt.below B3).trans hbt
      clear hjs hb9 hSr hLr ERj hbt hll hsm
      generalize joinB (E ts.length).1 = jb at *
      go_wp2_with (first
        | (go_at_call 125; refine GJ.mono ?_; rintro e w6 ⟨rfl, hb6⟩)
        | (go_at_call 82; refine (SQ _).mono ?_; rintro e w7 ⟨rfl, hb7⟩))
      go_ret
      exact ⟨congrArg (fun s => Ending.returned (.string s)) ER9.out.symm, (HS.out.below hb6).below hb7, (HLL.out.below hb6).below hb7, HB.out.trans ((Bt.below hb6).trans (Bt.below hb7))⟩
end Go.Proofs.YtbinbojicmhdlaeGreatDoor
