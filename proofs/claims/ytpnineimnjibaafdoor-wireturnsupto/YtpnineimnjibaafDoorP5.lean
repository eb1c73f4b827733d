/-
  OWN WORK: Jwt, Jtk, Jtw, Jti.
-/
import Derived.Test.YtpnineimnjibaafDoorP4
import Derived.Test.YtpnineimnjibaafDoorP0
import Derived.Test.YtpnineimnjibaafDoorP1
import Derived.Deep.RegionHeld3
import Derived.Deep.QuietTactic
import Derived.BigQuiet
import Derived.Test.YtpnineimnjibaafDoorP2
/-
  THE WALK of tnlaw10's WireTurns (laid by mkjwt.py).
-/
namespace Go.Proofs.YtpnineimnjibaafDoor
open Go.RowKit Go.Lib

set_option maxHeartbeats 6400000 in
set_option maxRecDepth 100000 in
theorem ywireturns {w : World} {v1 v2 : Value} {l : List Ez} {b : Bs} (h1 : EzsAt w (fun g => g < w.heap.size) v1 l) (n1 : ∀ e ∈ l, EvNum e) (h2 : BsAt w (fun g => g < w.heap.size) v2 b) (hL : LtB w.heap.size w)
    (hs1 : (eventsB l).length ≤ 100000000) (hs2 : b.length ≤ 100000000) (hd : deepZ (l.map Ez.item) ≤ 100000000) :
    Calls Tryd.prog 4 #[v1, v2] w fun e w' => e = .returned (.bool true) ∧ Below w.heap.size w w' := by
  have CA := yalive hL
  have hdl := deepZ_le.mp hd
  have ID : Hid (∀ (j : Nat) (h : j < l.length) (kv : Value) (W : World), IzsAt W (fun g => g < W.heap.size) kv l[j].item.kids → Calls Tryd.prog 12 #[itV l[j].item kv] W fun e w' => e = .returned (.int .i64 (deep1 l[j].item : Int)) ∧ Below W.heap.size W w') :=
    fun j hj kv W hr => ydepth 100000000 (Nat.le_refl _) l[j].item kv W (hdl _ (List.mem_map.mpr ⟨l[j], List.getElem_mem hj, rfl⟩)) hr
  have HM : Hid (∀ j (h : j < l.length), deepZ ((l.map Ez.item).take (j + 1)) = max (deepZ ((l.map Ez.item).take j)) (deep1 l[j].item)) := fun j h => by
    rw [deepZ_take _ j (by rw [List.length_map]; exact h), List.getElem_map]
  have HD1 : Hid (∀ j, deepZ ((l.map Ez.item).take j) ≤ 100000000) := fun j => by have := deepZ_take_le (l.map Ez.item) j; show _ ≤ _; omega
  have HD2 : Hid (∀ j (h : j < l.length), deep1 l[j].item ≤ 100000000) := fun j h => hdl _ (List.mem_map.mpr ⟨l[j], List.getElem_mem h, rfl⟩)
  have HC1 : Hid (∀ W, Below w.heap.size w W → Calls Tryd.prog 8 #[v1] W fun e w' => ∃ v', e = .returned v' ∧ BsAt w' (fun g => g < w'.heap.size) v' (eventsB l) ∧ Below W.heap.size W w') := fun W hb =>
    (ybytes_any ((h1.under hb).frame (fun g hg _ => ⟨rfl, by have := hb.size; omega⟩)) n1 ((hL.on hb).up hb.size) (by omega)).mono fun e w' ⟨v', e1, ho, hb'⟩ => ⟨v', e1, ho.bs.frame (fun g _ hlt => ⟨rfl, hlt⟩), hb'⟩
  have HC2 : Hid (∀ W v, Below w.heap.size w W → BsAt W (fun g => g < W.heap.size) v (eventsB l) → deepZ (l.map Ez.item) ≤ 16 →
      Calls Tryd.prog 6 #[v] W fun e w' => ∃ pv, e = .returned (.tuple #[pv, .int .i64 0]) ∧ EzsAt w' (fun g => W.heap.size ≤ g) pv l ∧ Below W.heap.size W w') := fun W v hb hv hd6 => by
    have hp : parseF (eventsB l) = some l := parse_iff.mpr ⟨rfl, fun e he => by
      obtain ⟨a0, a1, a2, a3, a4⟩ := n1 e he
      have := deepZ_le.mp hd6 _ (List.mem_map.mpr ⟨e, he, rfl⟩)
      exact ⟨a0, a1, a2, a3, a4, by omega⟩⟩
    refine (yparse hv ((hL.on hb).up hb.size) hs1).mono ?_
    rintro e w' ⟨pv, err, rfl, hout, hb'⟩
    rw [hp] at hout
    rcases hout with ⟨m, hm, rfl, hz⟩ | ⟨hn, _⟩
    · cases hm
      exact ⟨pv, rfl, hz, hb'⟩
    · cases hn
  have HC3 : Hid (∀ W pv (P : Nat → Prop), Below w.heap.size w W → EzsAt W P pv l → Calls Tryd.prog 10 #[pv, v1] W fun e w' => e = .returned (.bool true) ∧ Below W.heap.size W w') := fun W pv P hb hz => ysameevents hz (h1.under hb)
  have HC4 : Hid (∀ W, Below w.heap.size w W → Calls Tryd.prog 6 #[v2] W fun e w' => ∃ pv err, e = .returned (.tuple #[pv, .int .i64 err]) ∧ Out w' W.heap.size (parseF b) pv err ∧ Below W.heap.size W w') := fun W hb =>
    yparse ((h2.under hb).frame (fun g hg _ => ⟨rfl, by have := hb.size; omega⟩)) ((hL.on hb).up hb.size) hs2
  have HC5 : Hid (∀ W v m, Below w.heap.size w W → parseF b = some m → EzsAt W (fun g => g < W.heap.size) v m → Calls Tryd.prog 8 #[v] W fun e w' => ∃ p n c, e = .returned (.slice p n c) ∧ TextOf w' (.slice p n c) b ∧ Below W.heap.size W w') := fun W v m hb hm hz => by
    obtain ⟨e1, hg⟩ := parse_iff.mp hm
    rw [e1]
    exact ybytes_text hz (fun e he => (hg e he).num) ((hL.on hb).up hb.size) (by rw [← e1]; omega)
  have HT2 : Hid (∀ W, Below w.heap.size w W → TextOf W v2 b) := fun W hb => (h2.under hb).textOf
  obtain ⟨p, c, rfl, y1, y2, hat⟩ := h1
  obtain ⟨p2, c2, rfl⟩ := h2.shape
  have T : Hid (∀ j (hj : j < l.length), ∃ b o kv, p = some ⟨b, o, none⟩ ∧ b < w.heap.size ∧ EzAt w b (o + j * 12) l[j] kv ∧ IzsAt w (fun g => g < w.heap.size) kv l[j].item.kids) := hat
  have HLL : Hid ((l.map Ez.item).take l.length = l.map Ez.item) := by rw [List.take_of_length_le (by rw [List.length_map]; exact Nat.le_refl _)]; exact rfl
  have hQ : ((bsS b).toList == (bsS b).toList) = true := by simp
  clear hat n1 h2 hL hs1 hs2 hd hdl
  generalize b.length = bl at *
  go_enter Tryd.func4, Tryd.ntmps4
  go_upto_region 4 with (go_at_call 11; refine CA.mono ?_; clear CA; rintro e w5 ⟨rfl, hb5⟩)
  have HB5 : Hid (Below w.heap.size w w5) := hb5
  clear hb5
  go_wp2_with fail
  go_loopw [5, 16] (fun sv iv wr => ∃ (j : Nat), j ≤ l.length ∧ iv = .int .i64 j ∧ sv = .int .i64 (deepZ ((l.map Ez.item).take j) : Int) ∧ Hid (Below w.heap.size w wr)) (fun _ iv _ => l.length - (RowKit.intOf iv).toNat)
  case atStart => exact ⟨0, Nat.zero_le _, rfl, rfl, HB5⟩
  case round =>
    clear HB5
    obtain ⟨j, hj, rfl, rfl, HB⟩ := hrel
    by_cases hlt : j < l.length
    · obtain ⟨b1, o1, kv1, rfl, hb1, hc1, hrow1⟩ := T.out j hlt
      have K : ∀ i u, w.cell? ⟨b1, i, none⟩ = some u → wr.cell? ⟨b1, i, none⟩ = some u := fun i u h => (HB.out.cell (p := ⟨b1, i, none⟩) hb1).trans h
      have f0 := K _ _ hc1.c0
      have f1 := K _ _ hc1.c1
      have f2 := K _ _ hc1.c2
      have f3 := K _ _ hc1.c3
      have e0 := K _ _ hc1.it.c0
      have e1 := K _ _ hc1.it.c1
      have e2 := K _ _ hc1.it.c2
      have e3 := K _ _ hc1.it.c3
      have e4 := K _ _ hc1.it.c4
      have e5 := K _ _ hc1.it.c5
      have e6 := K _ _ hc1.it.c6
      have e7 := K _ _ hc1.it.c7
      simp only [Nat.add_assoc (o1 + j * 12), Nat.reduceAdd] at e1 e2 e3 e4 e5 e6 e7
      have hBr : w.heap.size ≤ wr.heap.size := HB.out.size
      have HA2 : Hid (∀ o : Obj, IzsAt (wr.alloc o) (fun g => g < (wr.alloc o).heap.size) kv1 l[j].item.kids ∧ Below w.heap.size w (wr.alloc o)) := fun o => by
        have hW := HB.out.alloc hBr o
        exact ⟨hrow1.frame (fun g hg hlt => ⟨hW.block g hg, by simp; omega⟩), hW⟩
      have C := fun W h1 => ID.out j hlt kv1 W h1
      unfold itV at C
      have HC : Hid _ := C
      have hd1 := HD1.out j
      have hd2 := HD2.out j hlt
      have HMM : Hid (deepZ ((l.map Ez.item).take (j + 1)) = max (deepZ ((l.map Ez.item).take j)) (deep1 l[j].item)) := HM.out j hlt
      obtain ⟨pk, ck, rfl⟩ := hrow1.shape
      clear hc1 K hb1 C hrow1 hBr HC1 HC2 HC3 HC4 HC5 HT2
      generalize deepZ ((l.map Ez.item).take j) = q1 at *
      generalize deep1 l[j].item = q2 at *
      generalize l[j].kind = z0 at *
      generalize l[j].node = z1 at *
      generalize l[j].tgt = z2 at *
      generalize l[j].at_ = z3 at *
      generalize l[j].item.kids = kk at *
      generalize l[j].item.node = y0 at *
      generalize l[j].item.role = y1 at *
      generalize l[j].item.name = y2 at *
      generalize l[j].item.about = y3 at *
      generalize l[j].item.level = y4 at *
      generalize l[j].item.checked = y5 at *
      generalize l[j].item.off = y6 at *
      go_upto_region 7 with fail
      have HB8 : Hid ((wr.alloc (.cells #[.int .i64 z0, .int .i64 z1, .int .i64 z2, .int .i64 z3, .int .i64 y0, .int .i64 y1, .string y2, .string y3, .int .i64 y4, .int .i64 y5, .bool y6, .slice pk kk.length ck] 35)).heap[wr.heap.size]? = some (.cells #[.int .i64 z0, .int .i64 z1, .int .i64 z2, .int .i64 z3, .int .i64 y0, .int .i64 y1, .string y2, .string y3, .int .i64 y4, .int .i64 y5, .bool y6, .slice pk kk.length ck] 35)) := heap_alloc_new _ _
      have HA3 := HA2.out (.cells #[.int .i64 z0, .int .i64 z1, .int .i64 z2, .int .i64 z3, .int .i64 y0, .int .i64 y1, .string y2, .string y3, .int .i64 y4, .int .i64 y5, .bool y6, .slice pk kk.length ck] 35)
      clear HA2 e0 e1 e2 e3 e4 e5 e6 e7 f0 f1 f2 f3
      generalize hwa : wr.alloc (.cells #[.int .i64 z0, .int .i64 z1, .int .i64 z2, .int .i64 z3, .int .i64 y0, .int .i64 y1, .string y2, .string y3, .int .i64 y4, .int .i64 y5, .bool y6, .slice pk kk.length ck] 35) = wa at *
      clear hwa
      generalize wr.heap.size = R at *
      obtain ⟨a1, a2⟩ := HA3
      have C := HC.out wa a1
      have HW9 : Hid (Below w.heap.size w wa) := a2
      have g0 : wa.cell? ⟨R, 4, none⟩ = some (.int .i64 y0) := cell_of_block HB8.out 4
      have g1 : wa.cell? ⟨R, 5, none⟩ = some (.int .i64 y1) := cell_of_block HB8.out 5
      have g2 : wa.cell? ⟨R, 6, none⟩ = some (.string y2) := cell_of_block HB8.out 6
      have g3 : wa.cell? ⟨R, 7, none⟩ = some (.string y3) := cell_of_block HB8.out 7
      have g4 : wa.cell? ⟨R, 8, none⟩ = some (.int .i64 y4) := cell_of_block HB8.out 8
      have g5 : wa.cell? ⟨R, 9, none⟩ = some (.int .i64 y5) := cell_of_block HB8.out 9
      have g6 : wa.cell? ⟨R, 10, none⟩ = some (.bool y6) := cell_of_block HB8.out 10
      have g7 : wa.cell? ⟨R, 11, none⟩ = some (.slice pk kk.length ck) := cell_of_block HB8.out 11
      clear HC a1 a2 HB8
      go_wp2_with (go_at_call 12; refine C.mono ?_; clear C; rintro e w9 ⟨rfl, k9⟩)
      go_roundw
      case rel => exact ⟨j + 1, by omega, by go_num, by rw [HMM.out]; go_num, HW9.out.trans (k9.mono HW9.out.size)⟩
      case measure => simp [RowKit.intOf]; omega
    · obtain rfl : j = l.length := by omega
      rw [HLL.out]
      clear T ID HM HD1 HD2 hlt hj HLL
      generalize hdz : deepZ (l.map Ez.item) = dz at *
      by_cases h16 : dz ≤ 16
      · have HD6 : Hid (dz ≤ 16) := h16
        have h16i : decide ((dz : Int) ≤ 16) = true := decide_eq_true (by omega)
        clear h16 hdz
        go_upto_region 11 with (first
          | (go_at_call 8; refine (HC1.out _ HB.out).mono ?_; rintro e w3 ⟨v3, rfl, hb3, k3⟩; have HB3 : Hid (Below w.heap.size w w3) := HB.out.trans (k3.mono HB.out.size); have C2 := HC2.out _ _ HB3.out hb3 HD6.out; clear hb3 k3)
          | (go_at_call 6; refine C2.mono ?_; clear C2; rintro e w4 ⟨pv4, rfl, hz4, k4⟩; have HB4 : Hid (Below w.heap.size w w4) := HB3.out.trans (k4.mono HB3.out.size); clear k4))
        have C3 := HC3.out _ _ _ HB4.out hz4
        clear hz4 HC1 HC2 HC3 HB HB3
        go_upto_region 13 with (go_at_call 10; refine C3.mono ?_; clear C3; rintro e w6 ⟨rfl, k6⟩)
        have HB6 : Hid (Below w.heap.size w w6) := HB4.out.trans (k6.mono HB4.out.size)
        clear k6 HB4
        go_upto_region 14 with (go_at_call 6; refine (HC4.out _ HB6.out).mono ?_; rintro e w7 ⟨pv, err, rfl, hout, b7⟩)
        have HB7 : Hid (Below w.heap.size w w7) := HB6.out.trans (b7.mono HB6.out.size)
        clear b7
        rcases hout with ⟨m, hm, rfl, hz⟩ | ⟨hn, rfl, rfl⟩
        · have C5 := HC5.out w7.drew pv m HB7.out.drew hm (hz.frame (fun g _ hlt => ⟨rfl, hlt⟩))
          obtain ⟨pm, cm, rfl⟩ := hz.shape
          clear hz hm HC4 HC5
          generalize m.length = nm at *
          refine wp_region_held_drew (S := fun W : World => Below w7.heap.size w7 W) (by kernel_rfl) ?_ (fun hHeld => ?_)
          · exact (Below.refl _ _).drew
          refine wpAnyH_take (i := 0) (v := ?v0w6) rfl (by kernel_rfl) (by kernel_rfl) (by kernel_rfl) (fun _ _ _ h => h) (Or.inl ⟨by kernel_rfl, ?hy0w6⟩) (by assumption) ?rest0w6
          case hy0w6 => intro wS hSw; clear hSw; first | (go_simp; done) | (go_simp; with_reducible rfl) | with_reducible rfl
          (try simp only [List.getElem_toArray, List.getElem_cons_zero]); (try dsimp only); (try go_frame)
          refine wpAnyH_take (i := 1) (v := ?v1w6) rfl (by kernel_rfl) (by kernel_rfl) (by kernel_rfl) (fun _ _ _ h => h) (Or.inl ⟨by kernel_rfl, ?hy1w6⟩) (by assumption) ?rest1w6
          case hy1w6 => intro wS hSw; clear hSw; first | (go_simp; done) | (go_simp; with_reducible rfl) | with_reducible rfl
          (try simp only [List.getElem_toArray, List.getElem_cons_succ, List.getElem_cons_zero]); (try dsimp only); (try go_frame)
          refine wpAnyH_take (i := 2) (v := ?v2w6) rfl (by kernel_rfl) (by kernel_rfl) (by kernel_rfl) (fun _ _ _ h => h) (Or.inl ⟨by kernel_rfl, ?hy2w6⟩) (by assumption) ?rest2w6
          case hy2w6 => intro wS hSw; clear hSw; first | (go_simp; done) | (go_simp; with_reducible rfl) | with_reducible rfl
          (try simp only [List.getElem_toArray, List.getElem_cons_succ, List.getElem_cons_zero]); (try dsimp only); (try go_frame)
          refine wpAnyH_take (i := 3) (v := undef) rfl (by kernel_rfl) (by kernel_rfl) (by kernel_rfl) (fun _ _ _ h => h) (Or.inr ⟨by kernel_rfl, rfl⟩) (by assumption) ?_
          (try simp only [List.getElem_toArray, List.getElem_cons_succ, List.getElem_cons_zero]); (try dsimp only); (try go_frame)
          refine wpAnyH_take (i := 4) (v := undef) rfl (by kernel_rfl) (by kernel_rfl) (by kernel_rfl) (fun _ _ _ h => h) (Or.inr ⟨by kernel_rfl, rfl⟩) (by assumption) ?_
          (try simp only [List.getElem_toArray, List.getElem_cons_succ, List.getElem_cons_zero]); (try dsimp only); (try go_frame)
          refine wpAnyH_take (i := 5) (v := undef) rfl (by kernel_rfl) (by kernel_rfl) (by kernel_rfl) (fun _ _ _ h => h) (Or.inr ⟨by kernel_rfl, rfl⟩) (by assumption) ?_
          (try simp only [List.getElem_toArray, List.getElem_cons_succ, List.getElem_cons_zero]); (try dsimp only); (try go_frame)
          refine wpAnyH_take (i := 6) (v := ?v6w6) rfl (by kernel_rfl) (by kernel_rfl) (by kernel_rfl) (fun _ _ _ h => h) (Or.inl ⟨by kernel_rfl, ?hy6w6⟩) (by assumption) ?rest6w6
          case hy6w6 => intro wS hSw; clear hSw; first | (go_simp; done) | (go_simp; with_reducible rfl) | with_reducible rfl
          (try simp only [List.getElem_toArray, List.getElem_cons_succ, List.getElem_cons_zero]); (try dsimp only); (try go_frame)
          refine wpAnyH_take (i := 7) (v := ?v7w6) rfl (by kernel_rfl) (by kernel_rfl) (by kernel_rfl) (fun _ _ _ h => h) (Or.inl ⟨by kernel_rfl, ?hy7w6⟩) (by assumption) ?rest7w6
          case hy7w6 => intro wS hSw; clear hSw; first | (go_simp; done) | (go_simp; with_reducible rfl) | with_reducible rfl
          (try simp only [List.getElem_toArray, List.getElem_cons_succ, List.getElem_cons_zero]); (try dsimp only); (try go_frame)
          refine wpAnyH_take (i := 8) (v := ?v8w6) rfl (by kernel_rfl) (by kernel_rfl) (by kernel_rfl) (fun _ _ _ h => h) (Or.inl ⟨by kernel_rfl, ?hy8w6⟩) (by assumption) ?rest8w6
          case hy8w6 => intro wS hSw; clear hSw; first | (go_simp; done) | (go_simp; with_reducible rfl) | with_reducible rfl
          (try simp only [List.getElem_toArray, List.getElem_cons_succ, List.getElem_cons_zero]); (try dsimp only); (try go_frame)
          refine wpAnyH_take (i := 9) (v := ?v9w6) rfl (by kernel_rfl) (by kernel_rfl) (by kernel_rfl) (fun _ _ _ h => h) (Or.inl ⟨by kernel_rfl, ?hy9w6⟩) (by assumption) ?rest9w6
          case hy9w6 => intro wS hSw; clear hSw; first | (go_simp; done) | (go_simp; with_reducible rfl) | with_reducible rfl
          (try simp only [List.getElem_toArray, List.getElem_cons_succ, List.getElem_cons_zero]); (try dsimp only); (try go_frame)
          refine wpAnyH_take (i := 10) (v := ?v10w6) rfl (by kernel_rfl) (by kernel_rfl) (by kernel_rfl) (fun _ _ _ h => h) (Or.inl ⟨by kernel_rfl, ?hy10w6⟩) (by assumption) ?rest10w6
          case hy10w6 => intro wS hSw; clear hSw; first | (go_simp; done) | (go_simp; with_reducible rfl) | with_reducible rfl
          (try simp only [List.getElem_toArray, List.getElem_cons_succ, List.getElem_cons_zero]); (try dsimp only); (try go_frame)
          refine wpAnyH_take (i := 11) (v := ?v11w6) rfl (by kernel_rfl) (by kernel_rfl) (by kernel_rfl) (fun _ _ _ h => h) (Or.inl ⟨by kernel_rfl, ?hy11w6⟩) (by assumption) ?rest11w6
          case hy11w6 => intro wS hSw; clear hSw; first | (go_simp; done) | (go_simp; with_reducible rfl) | with_reducible rfl
          (try simp only [List.getElem_toArray, List.getElem_cons_succ, List.getElem_cons_zero]); (try dsimp only); (try go_frame)
          refine wpAnyH_take (i := 14) (v := ?v14w6) rfl (by kernel_rfl) (by kernel_rfl) (by kernel_rfl) (fun _ _ _ h => h) (Or.inl ⟨by kernel_rfl, ?hy14w6⟩) (by assumption) ?rest14w6
          case hy14w6 => intro wS hSw; clear hSw; first | (go_simp; done) | (go_simp; with_reducible rfl) | with_reducible rfl
          (try simp only [List.getElem_toArray, List.getElem_cons_succ, List.getElem_cons_zero]); (try dsimp only); (try go_frame)
          refine wpAnyH_take (i := 15) (v := ?v15w6) rfl (by kernel_rfl) (by kernel_rfl) (by kernel_rfl) (fun _ _ _ h => h) (Or.inl ⟨by kernel_rfl, ?hy15w6⟩) (by assumption) ?rest15w6
          case hy15w6 => intro wS hSw; (try dsimp only at hSw); have q15 := (HT2.out _ (HB7.out.trans (hSw.mono HB7.out.size))).here; clear hSw; first | (go_simp; done) | (go_simp; with_reducible rfl) | with_reducible rfl
          (try simp only [List.getElem_toArray, List.getElem_cons_succ, List.getElem_cons_zero]); (try dsimp only); (try go_frame)
          refine wpAnyH_ready (rs := [12]) (by kernel_rfl) (by simp) ?_
          refine AllReadyH.cons rfl (fun K hK => ?_) AllReadyH.nil
          go_simp
          (go_at_call 8; refine C5.mono ?_; clear C5; rintro e w8 ⟨p8, n8, c8, rfl, t8, b8d⟩; have b8 : Below w7.heap.size w7 w8 := (Below.refl w7.heap.size w7).drew.trans b8d; clear b8d)
          go_wp2_with fail
          clear hHeld
          refine hK.out _ _ ?_ (fun hHeld => ?_)
          · exact b8
          clear hK K
          (try simp only [List.getElem_toArray, List.getElem_cons_succ, List.getElem_cons_zero]); (try dsimp only); (try go_frame)
          refine wpAnyH_switch (S' := fun W : World => Below w7.heap.size w7 W ∧ Below w8.heap.size w8 W) (fun wS hSw => by exact hSw.1) _ _ _ _ ?_
          clear hHeld
          have hHeld : (fun W : World => Below w7.heap.size w7 W ∧ Below w8.heap.size w8 W) w8 := by exact ⟨b8, Below.refl _ _⟩
          refine wpAnyH_take (i := 13) (v := ?v13w6) rfl (by kernel_rfl) (by kernel_rfl) (by kernel_rfl) (fun _ _ _ h => h) (Or.inl ⟨by kernel_rfl, ?hy13w6⟩) (by assumption) ?rest13w6
          case hy13w6 => intro wS hSw; (try dsimp only at hSw); have q13 := (t8.on hSw.2).here; clear hSw; first | (go_simp; done) | (go_simp; with_reducible rfl) | with_reducible rfl
          (try simp only [List.getElem_toArray, List.getElem_cons_succ, List.getElem_cons_zero]); (try dsimp only); (try go_frame)
          refine wpAnyH_take (i := 16) (v := ?v16w6) rfl (by kernel_rfl) (by kernel_rfl) (by kernel_rfl) (fun _ _ _ h => h) (Or.inl ⟨by kernel_rfl, ?hy16w6⟩) (by assumption) ?rest16w6
          case hy16w6 => intro wS hSw; clear hSw; first | (go_simp; done) | (go_simp; with_reducible rfl) | with_reducible rfl
          (try simp only [List.getElem_toArray, List.getElem_cons_succ, List.getElem_cons_zero]); (try dsimp only); (try go_frame)
          refine wpAnyH_take (i := 17) (v := ?v17w6) rfl (by kernel_rfl) (by kernel_rfl) (by kernel_rfl) (fun _ _ _ h => h) (Or.inl ⟨by kernel_rfl, ?hy17w6⟩) (by assumption) ?rest17w6
          case hy17w6 => intro wS hSw; clear hSw; first | (go_simp; done) | (go_simp; with_reducible rfl) | with_reducible rfl
          (try simp only [List.getElem_toArray, List.getElem_cons_succ, List.getElem_cons_zero]); (try dsimp only); (try go_frame)
          refine wpAnyH_take (i := 18) (v := ?v18w6) rfl (by kernel_rfl) (by kernel_rfl) (by kernel_rfl) (fun _ _ _ h => h) (Or.inl ⟨by kernel_rfl, ?hy18w6⟩) (by assumption) ?rest18w6
          case hy18w6 => intro wS hSw; clear hSw; first | (go_simp; done) | (go_simp; with_reducible rfl) | with_reducible rfl
          (try simp only [List.getElem_toArray, List.getElem_cons_succ, List.getElem_cons_zero]); (try dsimp only); (try go_frame)
          refine wpAnyH_take (i := 19) (v := ?v19w6) rfl (by kernel_rfl) (by kernel_rfl) (by kernel_rfl) (fun _ _ _ h => h) (Or.inl ⟨by kernel_rfl, ?hy19w6⟩) (by assumption) ?rest19w6
          case hy19w6 => intro wS hSw; clear hSw; first | (go_simp; done) | (go_simp; with_reducible rfl) | with_reducible rfl
          (try simp only [List.getElem_toArray, List.getElem_cons_succ, List.getElem_cons_zero]); (try dsimp only); (try go_frame)
          refine wpAnyH_done (by kernel_rfl) ?_ _
          go_wp2_with fail
          go_ret
          exact ⟨rfl, HB7.out.trans (b8.mono HB7.out.size)⟩
        · clear HC4 HC5
          go_quiet (fail)
          go_wp2_with fail
          go_ret
          exact ⟨rfl, below_drewN HB7.out _⟩
      · have h16i : decide ((dz : Int) ≤ 16) = false := decide_eq_false (by omega)
        clear h16 hdz HC1 HC2 HC3
        go_upto_region 13 with fail
        clear h16i
        go_upto_region 14 with (go_at_call 6; refine (HC4.out _ HB.out).mono ?_; rintro e w7 ⟨pv, err, rfl, hout, b7⟩)
        have HB7 : Hid (Below w.heap.size w w7) := HB.out.trans (b7.mono HB.out.size)
        clear b7
        rcases hout with ⟨m, hm, rfl, hz⟩ | ⟨hn, rfl, rfl⟩
        · have C5 := HC5.out w7.drew pv m HB7.out.drew hm (hz.frame (fun g _ hlt => ⟨rfl, hlt⟩))
          obtain ⟨pm, cm, rfl⟩ := hz.shape
          clear hz hm HC4 HC5
          generalize m.length = nm at *
          refine wp_region_held_drew (S := fun W : World => Below w7.heap.size w7 W) (by kernel_rfl) ?_ (fun hHeld => ?_)
          · exact (Below.refl _ _).drew
          refine wpAnyH_take (i := 0) (v := ?v0wr) rfl (by kernel_rfl) (by kernel_rfl) (by kernel_rfl) (fun _ _ _ h => h) (Or.inl ⟨by kernel_rfl, ?hy0wr⟩) (by assumption) ?rest0wr
          case hy0wr => intro wS hSw; clear hSw; first | (go_simp; done) | (go_simp; with_reducible rfl) | with_reducible rfl
          (try simp only [List.getElem_toArray, List.getElem_cons_zero]); (try dsimp only); (try go_frame)
          refine wpAnyH_take (i := 1) (v := ?v1wr) rfl (by kernel_rfl) (by kernel_rfl) (by kernel_rfl) (fun _ _ _ h => h) (Or.inl ⟨by kernel_rfl, ?hy1wr⟩) (by assumption) ?rest1wr
          case hy1wr => intro wS hSw; clear hSw; first | (go_simp; done) | (go_simp; with_reducible rfl) | with_reducible rfl
          (try simp only [List.getElem_toArray, List.getElem_cons_succ, List.getElem_cons_zero]); (try dsimp only); (try go_frame)
          refine wpAnyH_take (i := 2) (v := ?v2wr) rfl (by kernel_rfl) (by kernel_rfl) (by kernel_rfl) (fun _ _ _ h => h) (Or.inl ⟨by kernel_rfl, ?hy2wr⟩) (by assumption) ?rest2wr
          case hy2wr => intro wS hSw; clear hSw; first | (go_simp; done) | (go_simp; with_reducible rfl) | with_reducible rfl
          (try simp only [List.getElem_toArray, List.getElem_cons_succ, List.getElem_cons_zero]); (try dsimp only); (try go_frame)
          refine wpAnyH_take (i := 3) (v := undef) rfl (by kernel_rfl) (by kernel_rfl) (by kernel_rfl) (fun _ _ _ h => h) (Or.inr ⟨by kernel_rfl, rfl⟩) (by assumption) ?_
          (try simp only [List.getElem_toArray, List.getElem_cons_succ, List.getElem_cons_zero]); (try dsimp only); (try go_frame)
          refine wpAnyH_take (i := 4) (v := undef) rfl (by kernel_rfl) (by kernel_rfl) (by kernel_rfl) (fun _ _ _ h => h) (Or.inr ⟨by kernel_rfl, rfl⟩) (by assumption) ?_
          (try simp only [List.getElem_toArray, List.getElem_cons_succ, List.getElem_cons_zero]); (try dsimp only); (try go_frame)
          refine wpAnyH_take (i := 5) (v := undef) rfl (by kernel_rfl) (by kernel_rfl) (by kernel_rfl) (fun _ _ _ h => h) (Or.inr ⟨by kernel_rfl, rfl⟩) (by assumption) ?_
          (try simp only [List.getElem_toArray, List.getElem_cons_succ, List.getElem_cons_zero]); (try dsimp only); (try go_frame)
          refine wpAnyH_take (i := 6) (v := ?v6wr) rfl (by kernel_rfl) (by kernel_rfl) (by kernel_rfl) (fun _ _ _ h => h) (Or.inl ⟨by kernel_rfl, ?hy6wr⟩) (by assumption) ?rest6wr
          case hy6wr => intro wS hSw; clear hSw; first | (go_simp; done) | (go_simp; with_reducible rfl) | with_reducible rfl
          (try simp only [List.getElem_toArray, List.getElem_cons_succ, List.getElem_cons_zero]); (try dsimp only); (try go_frame)
          refine wpAnyH_take (i := 7) (v := ?v7wr) rfl (by kernel_rfl) (by kernel_rfl) (by kernel_rfl) (fun _ _ _ h => h) (Or.inl ⟨by kernel_rfl, ?hy7wr⟩) (by assumption) ?rest7wr
          case hy7wr => intro wS hSw; clear hSw; first | (go_simp; done) | (go_simp; with_reducible rfl) | with_reducible rfl
          (try simp only [List.getElem_toArray, List.getElem_cons_succ, List.getElem_cons_zero]); (try dsimp only); (try go_frame)
          refine wpAnyH_take (i := 8) (v := ?v8wr) rfl (by kernel_rfl) (by kernel_rfl) (by kernel_rfl) (fun _ _ _ h => h) (Or.inl ⟨by kernel_rfl, ?hy8wr⟩) (by assumption) ?rest8wr
          case hy8wr => intro wS hSw; clear hSw; first | (go_simp; done) | (go_simp; with_reducible rfl) | with_reducible rfl
          (try simp only [List.getElem_toArray, List.getElem_cons_succ, List.getElem_cons_zero]); (try dsimp only); (try go_frame)
          refine wpAnyH_take (i := 9) (v := ?v9wr) rfl (by kernel_rfl) (by kernel_rfl) (by kernel_rfl) (fun _ _ _ h => h) (Or.inl ⟨by kernel_rfl, ?hy9wr⟩) (by assumption) ?rest9wr
          case hy9wr => intro wS hSw; clear hSw; first | (go_simp; done) | (go_simp; with_reducible rfl) | with_reducible rfl
          (try simp only [List.getElem_toArray, List.getElem_cons_succ, List.getElem_cons_zero]); (try dsimp only); (try go_frame)
          refine wpAnyH_take (i := 10) (v := ?v10wr) rfl (by kernel_rfl) (by kernel_rfl) (by kernel_rfl) (fun _ _ _ h => h) (Or.inl ⟨by kernel_rfl, ?hy10wr⟩) (by assumption) ?rest10wr
          case hy10wr => intro wS hSw; clear hSw; first | (go_simp; done) | (go_simp; with_reducible rfl) | with_reducible rfl
          (try simp only [List.getElem_toArray, List.getElem_cons_succ, List.getElem_cons_zero]); (try dsimp only); (try go_frame)
          refine wpAnyH_take (i := 11) (v := ?v11wr) rfl (by kernel_rfl) (by kernel_rfl) (by kernel_rfl) (fun _ _ _ h => h) (Or.inl ⟨by kernel_rfl, ?hy11wr⟩) (by assumption) ?rest11wr
          case hy11wr => intro wS hSw; clear hSw; first | (go_simp; done) | (go_simp; with_reducible rfl) | with_reducible rfl
          (try simp only [List.getElem_toArray, List.getElem_cons_succ, List.getElem_cons_zero]); (try dsimp only); (try go_frame)
          refine wpAnyH_take (i := 14) (v := ?v14wr) rfl (by kernel_rfl) (by kernel_rfl) (by kernel_rfl) (fun _ _ _ h => h) (Or.inl ⟨by kernel_rfl, ?hy14wr⟩) (by assumption) ?rest14wr
          case hy14wr => intro wS hSw; clear hSw; first | (go_simp; done) | (go_simp; with_reducible rfl) | with_reducible rfl
          (try simp only [List.getElem_toArray, List.getElem_cons_succ, List.getElem_cons_zero]); (try dsimp only); (try go_frame)
          refine wpAnyH_take (i := 15) (v := ?v15wr) rfl (by kernel_rfl) (by kernel_rfl) (by kernel_rfl) (fun _ _ _ h => h) (Or.inl ⟨by kernel_rfl, ?hy15wr⟩) (by assumption) ?rest15wr
          case hy15wr => intro wS hSw; (try dsimp only at hSw); have q15 := (HT2.out _ (HB7.out.trans (hSw.mono HB7.out.size))).here; clear hSw; first | (go_simp; done) | (go_simp; with_reducible rfl) | with_reducible rfl
          (try simp only [List.getElem_toArray, List.getElem_cons_succ, List.getElem_cons_zero]); (try dsimp only); (try go_frame)
          refine wpAnyH_ready (rs := [12]) (by kernel_rfl) (by simp) ?_
          refine AllReadyH.cons rfl (fun K hK => ?_) AllReadyH.nil
          go_simp
          (go_at_call 8; refine C5.mono ?_; clear C5; rintro e w8 ⟨p8, n8, c8, rfl, t8, b8d⟩; have b8 : Below w7.heap.size w7 w8 := (Below.refl w7.heap.size w7).drew.trans b8d; clear b8d)
          go_wp2_with fail
          clear hHeld
          refine hK.out _ _ ?_ (fun hHeld => ?_)
          · exact b8
          clear hK K
          (try simp only [List.getElem_toArray, List.getElem_cons_succ, List.getElem_cons_zero]); (try dsimp only); (try go_frame)
          refine wpAnyH_switch (S' := fun W : World => Below w7.heap.size w7 W ∧ Below w8.heap.size w8 W) (fun wS hSw => by exact hSw.1) _ _ _ _ ?_
          clear hHeld
          have hHeld : (fun W : World => Below w7.heap.size w7 W ∧ Below w8.heap.size w8 W) w8 := by exact ⟨b8, Below.refl _ _⟩
          refine wpAnyH_take (i := 13) (v := ?v13wr) rfl (by kernel_rfl) (by kernel_rfl) (by kernel_rfl) (fun _ _ _ h => h) (Or.inl ⟨by kernel_rfl, ?hy13wr⟩) (by assumption) ?rest13wr
          case hy13wr => intro wS hSw; (try dsimp only at hSw); have q13 := (t8.on hSw.2).here; clear hSw; first | (go_simp; done) | (go_simp; with_reducible rfl) | with_reducible rfl
          (try simp only [List.getElem_toArray, List.getElem_cons_succ, List.getElem_cons_zero]); (try dsimp only); (try go_frame)
          refine wpAnyH_take (i := 16) (v := ?v16wr) rfl (by kernel_rfl) (by kernel_rfl) (by kernel_rfl) (fun _ _ _ h => h) (Or.inl ⟨by kernel_rfl, ?hy16wr⟩) (by assumption) ?rest16wr
          case hy16wr => intro wS hSw; clear hSw; first | (go_simp; done) | (go_simp; with_reducible rfl) | with_reducible rfl
          (try simp only [List.getElem_toArray, List.getElem_cons_succ, List.getElem_cons_zero]); (try dsimp only); (try go_frame)
          refine wpAnyH_take (i := 17) (v := ?v17wr) rfl (by kernel_rfl) (by kernel_rfl) (by kernel_rfl) (fun _ _ _ h => h) (Or.inl ⟨by kernel_rfl, ?hy17wr⟩) (by assumption) ?rest17wr
          case hy17wr => intro wS hSw; clear hSw; first | (go_simp; done) | (go_simp; with_reducible rfl) | with_reducible rfl
          (try simp only [List.getElem_toArray, List.getElem_cons_succ, List.getElem_cons_zero]); (try dsimp only); (try go_frame)
          refine wpAnyH_take (i := 18) (v := ?v18wr) rfl (by kernel_rfl) (by kernel_rfl) (by kernel_rfl) (fun _ _ _ h => h) (Or.inl ⟨by kernel_rfl, ?hy18wr⟩) (by assumption) ?rest18wr
          case hy18wr => intro wS hSw; clear hSw; first | (go_simp; done) | (go_simp; with_reducible rfl) | with_reducible rfl
          (try simp only [List.getElem_toArray, List.getElem_cons_succ, List.getElem_cons_zero]); (try dsimp only); (try go_frame)
          refine wpAnyH_take (i := 19) (v := ?v19wr) rfl (by kernel_rfl) (by kernel_rfl) (by kernel_rfl) (fun _ _ _ h => h) (Or.inl ⟨by kernel_rfl, ?hy19wr⟩) (by assumption) ?rest19wr
          case hy19wr => intro wS hSw; clear hSw; first | (go_simp; done) | (go_simp; with_reducible rfl) | with_reducible rfl
          (try simp only [List.getElem_toArray, List.getElem_cons_succ, List.getElem_cons_zero]); (try dsimp only); (try go_frame)
          refine wpAnyH_done (by kernel_rfl) ?_ _
          go_wp2_with fail
          go_ret
          exact ⟨rfl, HB7.out.trans (b8.mono HB7.out.size)⟩
        · clear HC4 HC5
          go_quiet (fail)
          go_wp2_with fail
          go_ret
          exact ⟨rfl, below_drewN HB7.out _⟩
end Go.Proofs.YtpnineimnjibaafDoor

/-
  THE WALKS of the reference's Take, word, numbers.
-/
namespace Go.Proofs.YtpnineimnjibaafDoor
open Go.RowKit Go.Lib

/-- what Take says of bytes: the number that stands first, and what is behind it; or none does -/
def Tk (l : Bs) (n : Int) (r : Bs) (ok : Bool) : Prop := takeNum l = if ok = true then some (n, r) else none
theorem cut_at {l : Bs} {k : Nat} (hx : l[k]? = some 32) (hn : ∀ x ∈ l.take k, x ≠ 32) : cutB l = some (l.take k, l.drop (k + 1)) := by
  have hk : k < l.length := by
    rcases Nat.lt_or_ge k l.length with h | h
    · exact h
    · rw [List.getElem?_eq_none h] at hx; cases hx
  have e1 : l.take k ++ 32 :: l.drop (k + 1) = l := by
    have e2 : l[k] = 32 := by rw [List.getElem?_eq_getElem hk] at hx; exact Option.some.inj hx
    rw [← e2, ← List.drop_eq_getElem_cons hk, List.take_append_drop]
  have h := cut_app (l.take k) (l.drop (k + 1)) hn
  rw [e1] at h
  exact h
/-- no blank among the first 21 bytes, or none at all -/
theorem take_none {l : Bs} {k : Nat} (h : l.length ≤ k ∨ 20 < k) (hn : ∀ x ∈ l.take k, x ≠ 32) : takeNum l = none := by
  cases hc : cutB l with
  | none => unfold takeNum; rw [hc]
  | some p =>
    obtain ⟨s, r⟩ := p
    obtain ⟨e, hs⟩ := cut_some hc
    have hlen : k ≤ s.length := by
      rcases Nat.lt_or_ge s.length k with hlt | hge
      · have hm : (32 : UInt8) ∈ l.take k := by
          rw [e, List.take_append, List.mem_append]
          refine Or.inr ?_
          obtain ⟨j, hj⟩ : ∃ j, k - s.length = j + 1 := ⟨k - s.length - 1, by omega⟩
          rw [hj, List.take_succ_cons]
          exact List.mem_cons_self
        exact absurd rfl (hn _ hm)
      · exact hge
    have hl : l.length = s.length + (r.length + 1) := by rw [e, List.length_append, List.length_cons]
    exact takeNum_short hc (by omega)
theorem take_ok {l : Bs} {k : Nat} {z : Int} {q : Bool} (hc : cutB l = some (l.take k, l.drop (k + 1))) (ha : atoiAll (l.take k) = .ok z) (hq : q = decide (itoa z = l.take k)) : Tk l z (l.drop (k + 1)) q := by
  unfold Tk takeNum
  rw [hc, hq]
  simp only [ha]
  by_cases e : itoa z = l.take k
  · rw [if_pos e, if_pos (decide_eq_true e)]
  · rw [if_neg e, if_neg (by simpa using e)]
theorem take_bad {l : Bs} {k : Nat} (hc : cutB l = some (l.take k, l.drop (k + 1))) (ha : ∀ z, atoiAll (l.take k) ≠ .ok z) (n : Int) (r : Bs) : Tk l n r false := by
  unfold Tk takeNum
  rw [hc, if_neg (by decide)]
  cases h : atoiAll (l.take k) with
  | ok z => exact absurd h (ha z)
  | «syntax» => simp only [h]
  | range => simp only [h]

set_option maxHeartbeats 3200000 in
set_option maxRecDepth 100000 in
theorem utake {w : World} {P : Nat → Prop} {v : Value} {l : Bs} (h : BsAt w P v l) (hL : LtB w.heap.size w) (hl : l.length ≤ 100000000) :
    Calls Tryd.prog 23 #[v] w fun e w' => ∃ n rv r ok, e = .returned (.tuple #[.int .i64 n, rv, .bool ok]) ∧ I6 n ∧ BsAt w' P rv r ∧ r.length ≤ l.length ∧ Tk l n r ok ∧ Below w.heap.size w w' := by
  have HH : Hid (BsAt w P v l) := h
  have HL : Hid (LtB w.heap.size w) := hL
  obtain ⟨p, c, rfl, h1, h2, h3, h4⟩ := h.at
  have HAT : Hid (∀ j x, l[j]? = some x → ∃ b o, p = some ⟨b, o, none⟩ ∧ w.cell? ⟨b, o + j, none⟩ = some (.int .u8 (x.toNat : Int))) := fun j x hx => by
    have hj : j < l.length := by
      rcases Nat.lt_or_ge j l.length with h | h
      · exact h
      · rw [List.getElem?_eq_none h] at hx; cases hx
    rw [List.getElem?_eq_getElem hj] at hx
    obtain ⟨b, o, e1, _, e2⟩ := h4 j hj
    rw [Option.some.inj hx] at e2
    exact ⟨b, o, e1, e2⟩
  have HLN : Hid (∀ k, k ≤ l.length → (l.take k).length = k) := fun k hk => by rw [List.length_take]; omega
  clear h hL h3 h4
  have HG : Hid (∀ k, k < l.length → ∃ x, l[k]? = some x) := fun k hk => ⟨_, List.getElem?_eq_getElem hk⟩
  have HGN : Hid (∃ m, m = l.length) := ⟨_, rfl⟩
  go_enter Tryd.func23, Tryd.ntmps23
  go_wp2_with fail
  go_loopw [5] (fun iv wr => ∃ k : Nat, k ≤ l.length ∧ k ≤ 21 ∧ iv = .int .i64 k ∧ w = wr ∧ Hid (∀ x ∈ l.take k, x ≠ 32)) (fun iv _ => 30 - (RowKit.intOf iv).toNat)
  case atStart => exact ⟨0, Nat.zero_le _, by omega, rfl, rfl, fun x hx => by simp at hx⟩
  case round =>
    obtain ⟨k, hk, hk2, rfl, rfl, HNB⟩ := hrel
    by_cases hlt : k < l.length
    · by_cases h20 : k ≤ 20
      · obtain ⟨x, hx⟩ := HG.out k hlt
        obtain ⟨b, o, rfl, hc⟩ := HAT.out k x hx
        have HX : Hid (l[k]? = some x) := hx
        clear hx HG HGN HAT
        by_cases hb : x = 32
        · subst hb
          have hcut := cut_at HX.out HNB.out
          have E1 := HH.out.take k hk
          have E2 := HH.out.drop (k + 1) (by omega)
          have TX := E1.text
          have HE2 : Hid (BsAt w P (.slice (if c = k + 1 then (some ⟨b, o, none⟩ : Option Addr) else (some ⟨b, o, none⟩ : Option Addr).map (fun x => x.add (k + 1))) (l.length - (k + 1)) (c - (k + 1))) (l.drop (k + 1))) := E2
          have HCUT : Hid (cutB l = some (l.take k, l.drop (k + 1))) := hcut
          have HRL : Hid ((l.drop (k + 1)).length ≤ l.length) := by show _ ≤ _; rw [List.length_drop]; omega
          have hsz : (⟨(l.take k).toArray⟩ : ByteArray).size ≤ 1000000000 := by show (l.take k).toArray.size ≤ _; rw [List.size_toArray, HLN.out k hk]; omega
          clear E1 E2 hcut HH HX HNB
          have hc' : w.cell? ⟨b, o + k, none⟩ = some (.int .u8 32) := hc
          clear hc
          by_cases ha : ∃ z, atoiAll (l.take k) = .ok z
          · obtain ⟨z, hz⟩ := ha
            have hz6 : I6 z := atoiAll_bounds hz
            have C := yatoi_ok (w := w) hsz (v := z) (by simpa using hz)
            have HC3 : Hid (∀ W, Below w.heap.size w W → ∀ W2, Below W.heap.size W W2 → Calls Tryd.prog 28 #[.int .i64 z] W2 fun e w' => e = .returned (.string ⟨(itoa z).toArray⟩) ∧ Below W.heap.size W w') := fun W hW W2 hW2 =>
              (yitoa ((HL.out.on hW) W2 (hW2.mono hW.size)) hz6).mono (by
                rintro e w' ⟨e1, h1⟩
                exact ⟨e1, hW2.trans (h1.mono hW2.size)⟩)
            have HEQ : Hid ((((⟨(itoa z).toArray⟩ : ByteArray).toList == (⟨(l.take k).toArray⟩ : ByteArray).toList)) = decide (itoa z = l.take k)) := by
              show _ = _
              rw [Bool.eq_iff_iff, beq_iff_eq, ByteArray.toList_eq, ByteArray.toList_eq, decide_eq_true_eq]
            have HZ : Hid (I6 z ∧ atoiAll (l.take k) = .ok z) := ⟨hz6, hz⟩
            clear hz hz6 hsz
            generalize (⟨(itoa z).toArray⟩ : ByteArray) = tn at *
            generalize (⟨(l.take k).toArray⟩ : ByteArray) = ta at *
            go_upto_region 7 with (go_at_call 30; refine C.mono ?_; clear C; rintro e w6 ⟨rfl, hb6⟩)
            have HC4 := HC3.out w6 hb6
            have HB6 : Hid (Below w.heap.size w w6) := hb6
            clear HC3 hb6 TX hc'
            have hw1 : IntKind.i64.wrap ((k : Int) + 1) = (k : Int) + 1 := by rw [IntKind.wrap_i64]; omega
            have hb0 : (0 : Int) ≤ (k : Int) + 1 := by omega
            have hb1 : (k : Int) + 1 ≤ (l.length : Int) := by omega
            have hb2 : ((k : Int) + 1).toNat = k + 1 := by omega
            by_cases hcn : c = k + 1
            · subst hcn
              have hm0 : l.length - (k + 1) = 0 := by omega
              rw [if_pos rfl, hm0] at HE2
              go_region_held3 (fun _ => True) (trivial) ((go_at_call 28; refine (HC4 _ (by first | assumption | exact Below.refl _ _ | exact (Below.refl _ _).drew)).mono ?_; rintro e w7 ⟨rfl, hb7⟩))
              have HE7 : Hid (BsAt w7 P _ _) := HE2.out.under (HB6.out.trans (hb7.mono HB6.out.size))
              have HB7 : Hid (Below w.heap.size w w7) := HB6.out.trans (hb7.mono HB6.out.size)
              clear HE2 HB6 hb7 HC4
              generalize (tn.toList == ta.toList) = qq at *
              go_wp2_with fail
              go_ret3
              exact ⟨z, _, l.drop (k + 1), qq, rfl, HZ.out.1, by simpa using HE7.out, HRL.out, take_ok HCUT.out HZ.out.2 HEQ.out, HB7.out⟩
            · have hne : ¬ (k + 1 = c) := fun e => hcn e.symm
              rw [if_neg hcn] at HE2
              go_region_held3 (fun _ => True) (trivial) ((go_at_call 28; refine (HC4 _ (by first | assumption | exact Below.refl _ _ | exact (Below.refl _ _).drew)).mono ?_; rintro e w7 ⟨rfl, hb7⟩))
              have HE7 : Hid (BsAt w7 P _ _) := HE2.out.under (HB6.out.trans (hb7.mono HB6.out.size))
              have HB7 : Hid (Below w.heap.size w w7) := HB6.out.trans (hb7.mono HB6.out.size)
              clear HE2 HB6 hb7 HC4
              generalize (tn.toList == ta.toList) = qq at *
              go_wp2_with fail
              go_ret3
              exact ⟨z, _, l.drop (k + 1), qq, rfl, HZ.out.1, by simpa [Addr.add] using HE7.out, HRL.out, take_ok HCUT.out HZ.out.2 HEQ.out, HB7.out⟩
          · have ha2 : ∀ z, atoiAll (l.take k) ≠ .ok z := fun z hz => ha ⟨z, hz⟩
            have C := yatoi_bad (w := w) HL.out.here hsz (fun z => by simpa using ha2 z)
            have HBAD : Hid (∀ n r, Tk l n r false) := take_bad HCUT.out ha2
            clear ha ha2 hsz
            generalize (⟨(l.take k).toArray⟩ : ByteArray) = ta at *
            go_upto_region 7 with (go_at_call 30; refine C.mono ?_; clear C; rintro e w6 ⟨z, t, q, rfl, hz6, hb6⟩)
            have HB6 : Hid (Below w.heap.size w w6) := hb6
            have HZ : Hid (I6 z) := hz6
            clear hb6 TX hc' hz6
            have hw1 : IntKind.i64.wrap ((k : Int) + 1) = (k : Int) + 1 := by rw [IntKind.wrap_i64]; omega
            have hb0 : (0 : Int) ≤ (k : Int) + 1 := by omega
            have hb1 : (k : Int) + 1 ≤ (l.length : Int) := by omega
            have hb2 : ((k : Int) + 1).toNat = k + 1 := by omega
            by_cases hcn : c = k + 1
            · subst hcn
              have hm0 : l.length - (k + 1) = 0 := by omega
              rw [if_pos rfl, hm0] at HE2
              go_quiet (fail)
              go_wp2_with fail
              go_ret3
              exact ⟨z, _, l.drop (k + 1), _, rfl, HZ.out, (by simpa using HE2.out.under (below_drewN HB6.out nq)), HRL.out, HBAD.out _ _, below_drewN HB6.out nq⟩
            · have hne : ¬ (k + 1 = c) := fun e => hcn e.symm
              rw [if_neg hcn] at HE2
              go_quiet (fail)
              go_wp2_with fail
              go_ret3
              exact ⟨z, _, l.drop (k + 1), _, rfl, HZ.out, (by simpa [Addr.add] using HE2.out.under (below_drewN HB6.out nq)), HRL.out, HBAD.out _ _, below_drewN HB6.out nq⟩
        · have q1 : ((x.toNat : Int) == 32) = false := by
            rw [beq_eq_false_iff_ne]
            intro e
            exact hb (UInt8.toNat_inj.mp (by rw [show (32 : UInt8).toNat = 32 from rfl]; omega))
          have q2 : ¬ ((x.toNat : Int) = 32) := fun e => by rw [e] at q1; cases q1
          have HN2 : Hid (∀ y ∈ l.take (k + 1), y ≠ 32) := fun y hy => by
            rw [List.take_add_one, HX.out, List.mem_append] at hy
            rcases hy with hy | hy
            · exact HNB.out y hy
            · simp at hy; rw [hy]; exact hb
          clear HNB hb HX
          generalize (x.toNat : Int) = xz at *
          go_wp2_with fail
          go_roundw
          case rel => exact ⟨k + 1, by omega, by omega, by go_num, by first | rfl | trivial, HN2⟩
          case measure => simp [RowKit.intOf]; omega
      · have HNO : Hid (takeNum l = none) := take_none (Or.inr (by omega)) HNB.out
        have HNN : Hid (Tk l 0 [] false) := HNO.out
        have h21 : k = 21 := by omega
        go_wp2_with fail
        go_ret3
        exact ⟨0, _, [], false, rfl, ⟨by decide, by decide⟩, BsAt.nil _ _, Nat.zero_le _, HNN.out, Below.refl _ _⟩
    · have HNO : Hid (takeNum l = none) := take_none (Or.inl (by omega)) HNB.out
      have HNN : Hid (Tk l 0 [] false) := HNO.out
      go_wp2_with fail
      go_ret3
      exact ⟨0, _, [], false, rfl, ⟨by decide, by decide⟩, BsAt.nil _ _, Nat.zero_le _, HNN.out, Below.refl _ _⟩
end Go.Proofs.YtpnineimnjibaafDoor

/-
  THE WALKS of the reference's word and numbers.
-/
namespace Go.Proofs.YtpnineimnjibaafDoor
open Go.RowKit Go.Lib

def Tw (l : Bs) (s : ByteArray) (r : Bs) (ok : Bool) : Prop := takeText l = if ok = true then some (s, r) else none
theorem tw_no {l r : Bs} {n : Int} {s : ByteArray} {r' : Bs} (h : Tk l n r false) : Tw l s r' false := by
  unfold Tk at h
  unfold Tw takeText takeCount
  rw [h]
  rfl
theorem tw_neg {l r : Bs} {n : Int} {s : ByteArray} {r' : Bs} (h : Tk l n r true) (hn : n < 0) : Tw l s r' false := by
  unfold Tk at h
  unfold Tw takeText takeCount
  rw [h, if_pos rfl, Option.bind_some, if_neg (by simp only; omega)]
  rfl
theorem tw_long {l r : Bs} {n : Nat} {s : ByteArray} {r' : Bs} (h : Tk l (n : Int) r true) (hn : r.length < n) : Tw l s r' false := by
  unfold Tk at h
  unfold Tw takeText takeCount
  rw [h, if_pos rfl, Option.bind_some, if_pos (by simp only; omega), Option.bind_some, if_neg (by simp only [Int.toNat_natCast]; omega)]
  rfl
theorem tw_yes {l r : Bs} {n : Nat} (h : Tk l (n : Int) r true) (hn : n ≤ r.length) : Tw l ⟨(r.take n).toArray⟩ (r.drop n) true := by
  unfold Tk at h
  unfold Tw takeText takeCount
  rw [h, if_pos rfl, Option.bind_some, if_pos (by simp only; omega), Option.bind_some, if_pos (by simp only [Int.toNat_natCast]; omega), if_pos rfl]
  simp only [Int.toNat_natCast]

set_option maxHeartbeats 3200000 in
set_option maxRecDepth 100000 in
theorem uword {w : World} {P : Nat → Prop} {v : Value} {l : Bs} (h : BsAt w P v l) (hL : LtB w.heap.size w) (hl : l.length ≤ 100000000) :
    Calls Tryd.prog 24 #[v] w fun e w' => ∃ s rv r ok, e = .returned (.tuple #[.string s, rv, .bool ok]) ∧ BsAt w' P rv r ∧ r.length ≤ l.length ∧ Tw l s r ok ∧ Below w.heap.size w w' := by
  have C := utake h hL hl
  clear h hL hl
  go_enter Tryd.func24, Tryd.ntmps24
  go_upto_region 2 with (go_at_call 23; refine C.mono ?_; clear C; rintro e w5 ⟨n, rv, r, ok, rfl, hi, hr, hlen, ht, hb⟩)
  have HR : Hid (BsAt w5 P rv r) := hr
  have HT : Hid (Tk l n r ok) := ht
  have HB : Hid (Below w.heap.size w w5) := hb
  have HLE : Hid (r.length ≤ l.length) := hlen
  obtain ⟨i0, i1⟩ := hi
  obtain ⟨p, c, rfl, y1, y2, y3, y4⟩ := hr.at
  clear hr ht hb y4 y3 hlen
  cases ok with
  | false =>
    go_wp2_with fail
    go_ret3
    exact ⟨_, _, [], _, rfl, BsAt.nil _ _, Nat.zero_le _, tw_no HT.out, HB.out⟩
  | true =>
    by_cases hn : n < 0
    · go_wp2_with fail
      go_ret3
      exact ⟨_, _, [], _, rfl, BsAt.nil _ _, Nat.zero_le _, tw_neg HT.out hn, HB.out⟩
    · obtain ⟨m, rfl⟩ : ∃ m : Nat, n = m := ⟨n.toNat, by omega⟩
      clear hn i0
      by_cases hlt : r.length < m
      · go_wp2_with fail
        go_ret3
        exact ⟨_, _, [], _, rfl, BsAt.nil _ _, Nat.zero_le _, tw_long HT.out hlt, HB.out⟩
      · have hm : m ≤ r.length := by omega
        have HK : Hid (BsAt w5 P (.slice p m c) (r.take m)) := HR.out.take m hm
        have HD : Hid (BsAt w5 P (.slice (if c = m then p else p.map (fun x => x.add m)) (r.length - m) (c - m)) (r.drop m)) := HR.out.drop m hm
        have HY : Hid (Tw l ⟨(r.take m).toArray⟩ (r.drop m) true) := tw_yes HT.out hm
        have HLD : Hid ((r.drop m).length ≤ l.length) := by show _ ≤ _; rw [List.length_drop]; have := HLE.out; omega
        have SS : ∀ W, Below w5.heap.size w5 W → (fun w'' : World => (convert 23 9 (.slice p m c)).run Tryd.prog w'' = .ok (.string ⟨(r.take m).toArray⟩) w'') W := fun W hW => (HK.out.under hW).text
        have hb0 : (0 : Int) ≤ (m : Int) := by omega
        have hb1 : (m : Int) ≤ (r.length : Int) := by omega
        have hb2 : (m : Int) ≤ (c : Int) := by omega
        have hb3 : m ≤ c := by omega
        clear HR HT hlt HLE HK
        generalize r.length = n0 at *
        generalize r.drop m = rd at *
        generalize (⟨(r.take m).toArray⟩ : ByteArray) = tx at *
        go_upto_region 4 with fail
        by_cases hcn : c = m
        · subst hcn
          have hm0 : n0 - c = 0 := by omega
          rw [if_pos rfl, hm0, Nat.sub_self] at HD
          go_region_held3 (fun w'' : World => (convert 23 9 (.slice p c c)).run Tryd.prog w'' = .ok (.string tx) w'')
            ((with_reducible refine SS _ ?_; first | with_reducible assumption | with_reducible exact Below.refl _ _ | with_reducible exact (Below.refl _ _).drew))
            (fail)
          go_wp2_with fail
          go_ret3
          exact ⟨_, _, rd, Or.inr ⟨rfl, HD.out.under (Below.refl _ _).drew, HLD.out, HY.out, HB.out.drew⟩⟩
        · have hne : ¬ (m = c) := fun e => hcn e.symm
          rw [if_neg hcn] at HD
          go_region_held3 (fun w'' : World => (convert 23 9 (.slice p m c)).run Tryd.prog w'' = .ok (.string tx) w'')
            ((with_reducible refine SS _ ?_; first | with_reducible assumption | with_reducible exact Below.refl _ _ | with_reducible exact (Below.refl _ _).drew))
            (fail)
          go_wp2_with fail
          go_ret3
          exact ⟨_, _, rd, Or.inr ⟨rfl, by simpa [Addr.add] using HD.out.under (Below.refl _ _).drew, HLD.out, HY.out, HB.out.drew⟩⟩

/-- so many numbers that stand first -/
def takeNums : Nat → Bs → Option (List Int × Bs)
  | 0, l => some ([], l)
  | k + 1, l => (takeNum l).bind fun p => (takeNums k p.2).bind fun q => some (p.1 :: q.1, q.2)
def Tn (k : Nat) (l : Bs) (xs : List Int) (r : Bs) (ok : Bool) : Prop := takeNums k l = if ok = true then some (xs, r) else none
theorem takeNums_len : ∀ {k : Nat} {l r : Bs} {xs : List Int}, takeNums k l = some (xs, r) → xs.length = k ∧ (∀ x ∈ xs, I6 x) ∧ r.length ≤ l.length
  | 0, l, r, xs, h => by rw [takeNums] at h; cases h; exact ⟨rfl, fun x hx => by simp at hx, Nat.le_refl _⟩
  | k + 1, l, r, xs, h => by
    rw [takeNums] at h
    cases h1 : takeNum l with
    | none => rw [h1] at h; cases h
    | some p =>
      rw [h1, Option.bind_some] at h
      cases h2 : takeNums k p.2 with
      | none => rw [h2] at h; cases h
      | some q =>
        rw [h2] at h
        cases h
        obtain ⟨a, b, c⟩ := takeNums_len (show takeNums k p.2 = some (q.1, q.2) from h2)
        have h3 := takeNum_lt (show takeNum l = some (p.1, p.2) from h1)
        exact ⟨by rw [List.length_cons, a], fun x hx => by
          rcases List.mem_cons.mp hx with rfl | hx
          · exact (takeNum_iff.mp (show takeNum l = some (p.1, p.2) from h1)).2
          · exact b x hx, by omega⟩
/-- so far -/
def Tf (k : Nat) (l : Bs) (j : Nat) (acc : List Int) (s : Bs) : Prop := j ≤ k ∧ acc.length = j ∧ s.length ≤ l.length ∧ takeNums k l = (takeNums (k - j) s).map fun q => (acc ++ q.1, q.2)
theorem Tf.start (k : Nat) (l : Bs) : Tf k l 0 [] l := ⟨Nat.zero_le _, rfl, Nat.le_refl _, by rw [Nat.sub_zero]; cases takeNums k l <;> rfl⟩
theorem Tf.no {k : Nat} {l : Bs} {j : Nat} {acc : List Int} {s : Bs} {n : Int} {r : Bs} (h : Tf k l j acc s) (hj : j < k) (ht : Tk s n r false) (xs : List Int) (r' : Bs) : Tn k l xs r' false := by
  obtain ⟨_, _, _, h⟩ := h
  unfold Tk at ht
  unfold Tn
  obtain ⟨i, hi⟩ : ∃ i, k - j = i + 1 := ⟨k - j - 1, by omega⟩
  rw [h, hi, takeNums, ht]
  rfl
theorem Tf.step {k : Nat} {l : Bs} {j : Nat} {acc : List Int} {s : Bs} {n : Int} {r : Bs} (h : Tf k l j acc s) (hj : j < k) (ht : Tk s n r true) : Tf k l (j + 1) (acc ++ [n]) r := by
  obtain ⟨_, ha, hs, h⟩ := h
  unfold Tk at ht
  rw [if_pos rfl] at ht
  have h3 := takeNum_lt ht
  refine ⟨hj, by rw [List.length_append, ha]; rfl, by omega, ?_⟩
  obtain ⟨i, hi⟩ : ∃ i, k - j = i + 1 := ⟨k - j - 1, by omega⟩
  have hi2 : k - (j + 1) = i := by omega
  rw [h, hi, hi2, takeNums, ht, Option.bind_some]
  cases takeNums i r with
  | none => rfl
  | some q => simp
theorem Tf.done {k : Nat} {l : Bs} {j : Nat} {acc : List Int} {s : Bs} (h : Tf k l j acc s) (hj : j = k) : Tn k l acc s true := by
  obtain ⟨_, _, _, h⟩ := h
  unfold Tn
  rw [h, hj, Nat.sub_self, takeNums]
  simp

set_option maxHeartbeats 3200000 in
set_option maxRecDepth 100000 in
theorem unumbers {w : World} {P : Nat → Prop} {v : Value} {l : Bs} (h : BsAt w P v l) (hP : ∀ g, P g → g < w.heap.size) (hL : LtB w.heap.size w) (hl : l.length ≤ 100000000) (k : Nat) (hk : k ≤ 10) :
    Calls Tryd.prog 14 #[v, .int .i64 k] w fun e w' => ∃ lv xs rv r ok, e = .returned (.tuple #[lv, rv, .bool ok]) ∧ OwnZ w' w.heap.size lv xs ∧ BsAt w' P rv r ∧ r.length ≤ l.length ∧ Tn k l xs r ok ∧ Below w.heap.size w w' := by
  have HH : Hid (BsAt w P v l) := h
  have HL : Hid (LtB w.heap.size w) := hL
  have HP : Hid (∀ g, P g → g < w.heap.size) := hP
  obtain ⟨p, c, rfl⟩ := h.shape
  clear h hL hP
  go_enter Tryd.func14, Tryd.ntmps14
  go_wp2_with fail
  go_loopw [0, 7, 12] (fun bv ov iv wr => ∃ (j : Nat) (acc : List Int) (s : Bs), iv = .int .i64 j ∧ Hid (Tf k l j acc s) ∧ Hid (OwnZ wr w.heap.size ov acc) ∧ Hid (BsAt wr P bv s) ∧ Hid (Below w.heap.size w wr)) (fun _ _ iv _ => k - (RowKit.intOf iv).toNat)
  case atStart => exact ⟨0, [], l, rfl, Tf.start k l, OwnZ.nil _ _, HH.out, Below.refl _ _⟩
  case round =>
    clear HH
    obtain ⟨j, acc, s, rfl, HF, HO, HS, HB⟩ := hrel
    have hjk := HF.out.1
    by_cases hlt : j < k
    · have hsl := HF.out.2.2.1
      have C := utake HS.out ((HL.out.on HB.out).up HB.out.size) (by omega)
      have HZ : Hid (w.heap.size ≤ wr.heap.size) := HB.out.size
      clear hsl HS
      go_upto_region 5 with (go_at_call 23; refine C.mono ?_; clear C; rintro e w5 ⟨n, rv, r, ok, rfl, hi, hr, hlen, ht, hb⟩)
      have HT : Hid (Tk s n r ok) := ht
      have HR : Hid (BsAt w5 P rv r) := hr
      have HB5 : Hid (Below w.heap.size w w5) := HB.out.trans (hb.mono HZ.out)
      have HO5 : Hid (OwnZ w5 w.heap.size u7 acc) := (Bt.below (S := []) hb).owns HO.out (by simp)
      clear hi hr hlen ht hb HO HB
      cases ok with
      | false =>
        go_wp2_with fail
        go_ret3
        exact ⟨_, [], _, [], _, rfl, OwnZ.nil _ _, BsAt.nil _ _, Nat.zero_le _, HF.out.no hlt HT.out _ _, HB5.out⟩
      | true =>
        have HF2 : Hid (Tf k l (j + 1) (acc ++ [n]) r) := HF.out.step hlt HT.out
        have hO := HO5.out
        have hz : w.heap.size ≤ w5.heap.size := HB5.out.size
        have hac : acc.length ≤ 1000000000 := by have := HF.out.2.1; omega
        clear HF HT HO5
        go_wp2_with (at_builtin; refine append_z rfl _ _ rfl n rfl (by simp [Act.eval]) hO hz hac ?_; intro v7 w7 o7 b7; refine Hid.out ?_)
        refine Lib.hid ?_
        have HO7 : Hid (OwnZ w7 w.heap.size v7 (acc ++ [n])) := o7
        have HB7 : Hid (Below w.heap.size w w7) := HB5.out.trans b7
        have HR7 : Hid (BsAt w7 P rv r) := HR.out.frame (fun g hg hlt => ⟨b7.block g (HP.out g hg), hg⟩)
        clear o7 b7 hO hz hac HB5 HR
        go_wp2_with fail
        go_roundw
        case rel => exact ⟨j + 1, _, r, by go_num, HF2, HO7, HR7, HB7⟩
        case measure => simp [RowKit.intOf]; omega
    · obtain rfl : j = k := by omega
      go_wp2_with fail
      go_ret3
      exact ⟨_, acc, _, s, _, rfl, HO.out, HS.out, HF.out.2.2.1, HF.out.done rfl, HB.out⟩
end Go.Proofs.YtpnineimnjibaafDoor

/-
  PLAIN MATHEMATICS: the item that stands first, as the reference takes it: five numbers, two texts, a count, so many items.
-/
namespace Go.Proofs.YtpnineimnjibaafDoor
open Go.RowKit Go.Lib

def flagZ (z : Int) : Option Bool := if z = 0 then some false else if z = 1 then some true else none
def Ti (d : Nat) (l : Bs) (x : Iz) (r : Bs) (ok : Bool) : Prop := takeItem d l = if ok = true then some (x, r) else none
theorem ti_zero (l : Bs) (x : Iz) (r : Bs) : Ti 0 l x r false := rfl
theorem item_chain (d : Nat) (l : Bs) : takeItem (d + 1) l = (takeNums 5 l).bind fun p => (flagZ (p.1.getD 4 0)).bind fun o => (takeText p.2).bind fun t => (takeText t.2).bind fun u => (takeCount u.2).bind fun c =>
    (takeMany (takeItem d) c.1 c.2).bind fun q => some (.mk (p.1.getD 0 0) (p.1.getD 1 0) t.1 u.1 (p.1.getD 2 0) (p.1.getD 3 0) o q.1, q.2) := by
  rw [takeItem]
  unfold takeHead takeFlag
  simp only [takeNums, Option.bind_assoc, Option.bind_some]
  cases h0 : takeNum l with
  | none => rfl
  | some p0 =>
  simp only [Option.bind_some]
  cases h1 : takeNum p0.2 with
  | none => rfl
  | some p1 =>
  simp only [Option.bind_some]
  cases h2 : takeNum p1.2 with
  | none => rfl
  | some p2 =>
  simp only [Option.bind_some]
  cases h3 : takeNum p2.2 with
  | none => rfl
  | some p3 =>
  simp only [Option.bind_some]
  cases h4 : takeNum p3.2 with
  | none => rfl
  | some p4 =>
  simp only [Option.bind_some, List.getD_cons_zero, List.getD_cons_succ]
  unfold flagZ
  by_cases e0 : p4.1 = 0
  · rw [if_pos e0, if_pos e0]
    rfl
  · rw [if_neg e0, if_neg e0]
    by_cases e1 : p4.1 = 1
    · rw [if_pos e1, if_pos e1]
      rfl
    · rw [if_neg e1, if_neg e1]
      rfl

theorem ti_nums {d : Nat} {l : Bs} {xs : List Int} {r : Bs} (h : Tn 5 l xs r false) (x : Iz) (r' : Bs) : Ti d l x r' false := by
  cases d with
  | zero => rfl
  | succ d =>
    unfold Tn at h
    unfold Ti
    rw [item_chain, h]
    rfl
theorem ti_flag {d : Nat} {l : Bs} {a0 a1 a2 a3 a4 : Int} {r : Bs} (h : Tn 5 l [a0, a1, a2, a3, a4] r true) (h4 : a4 < 0 ∨ 1 < a4) (x : Iz) (r' : Bs) : Ti d l x r' false := by
  cases d with
  | zero => rfl
  | succ d =>
    unfold Tn at h
    unfold Ti
    rw [item_chain, h, if_pos rfl, Option.bind_some]
    have : flagZ ([a0, a1, a2, a3, a4].getD 4 0) = none := by
      show flagZ a4 = none
      unfold flagZ
      rw [if_neg (by omega), if_neg (by omega)]
    rw [this]
    rfl
theorem tn5 {l : Bs} {xs : List Int} {r : Bs} (h : Tn 5 l xs r true) : ∃ a0 a1 a2 a3 a4, xs = [a0, a1, a2, a3, a4] := by
  have := (takeNums_len (show takeNums 5 l = some (xs, r) from h)).1
  match xs, this with
  | [a0, a1, a2, a3, a4], _ => exact ⟨a0, a1, a2, a3, a4, rfl⟩
theorem tn4 {l : Bs} {xs : List Int} {r : Bs} (h : Tn 4 l xs r true) : ∃ a0 a1 a2 a3, xs = [a0, a1, a2, a3] := by
  have := (takeNums_len (show takeNums 4 l = some (xs, r) from h)).1
  match xs, this with
  | [a0, a1, a2, a3], _ => exact ⟨a0, a1, a2, a3, rfl⟩

/-- behind the numbers -/
def T1 (d : Nat) (l : Bs) (a0 a1 a2 a3 : Int) (o : Bool) (r : Bs) : Prop := takeItem (d + 1) l = (takeText r).bind fun t => (takeText t.2).bind fun u => (takeCount u.2).bind fun c =>
    (takeMany (takeItem d) c.1 c.2).bind fun q => some (.mk a0 a1 t.1 u.1 a2 a3 o q.1, q.2)
/-- behind the name -/
def T2 (d : Nat) (l : Bs) (a0 a1 a2 a3 : Int) (o : Bool) (t : ByteArray) (r : Bs) : Prop := takeItem (d + 1) l = (takeText r).bind fun u => (takeCount u.2).bind fun c =>
    (takeMany (takeItem d) c.1 c.2).bind fun q => some (.mk a0 a1 t u.1 a2 a3 o q.1, q.2)
/-- behind both texts -/
def T3 (d : Nat) (l : Bs) (a0 a1 a2 a3 : Int) (o : Bool) (t u : ByteArray) (r : Bs) : Prop := takeItem (d + 1) l = (takeCount r).bind fun c =>
    (takeMany (takeItem d) c.1 c.2).bind fun q => some (.mk a0 a1 t u a2 a3 o q.1, q.2)
/-- so many items further -/
def T4 (d : Nat) (l : Bs) (a0 a1 a2 a3 : Int) (o : Bool) (t u : ByteArray) (n j : Nat) (acc : List Iz) (s : Bs) : Prop := j ≤ n ∧ acc.length = j ∧ s.length ≤ l.length ∧ takeItem (d + 1) l = (takeMany (takeItem d) (n - j) s).bind fun q => some (.mk a0 a1 t u a2 a3 o (acc ++ q.1), q.2)
theorem t1_of {d : Nat} {l : Bs} {a0 a1 a2 a3 a4 : Int} {r : Bs} (h : Tn 5 l [a0, a1, a2, a3, a4] r true) (h4 : ¬ (a4 < 0 ∨ 1 < a4)) : T1 d l a0 a1 a2 a3 (a4 == 1) r := by
  unfold Tn at h
  unfold T1
  rw [item_chain, h, if_pos rfl, Option.bind_some]
  have : flagZ ([a0, a1, a2, a3, a4].getD 4 0) = some (a4 == 1) := by
    show flagZ a4 = _
    have h5 : a4 = 0 ∨ a4 = 1 := by omega
    rcases h5 with rfl | rfl <;> rfl
  rw [this]
  rfl
theorem T1.no {d : Nat} {l : Bs} {a0 a1 a2 a3 : Int} {o : Bool} {r : Bs} (h : T1 d l a0 a1 a2 a3 o r) {s : ByteArray} {r1 : Bs} (ht : Tw r s r1 false) (x : Iz) (r' : Bs) : Ti (d + 1) l x r' false := by
  unfold Tw at ht
  unfold T1 at h
  unfold Ti
  rw [h, ht]
  rfl
theorem T1.yes {d : Nat} {l : Bs} {a0 a1 a2 a3 : Int} {o : Bool} {r : Bs} (h : T1 d l a0 a1 a2 a3 o r) {s : ByteArray} {r1 : Bs} (ht : Tw r s r1 true) : T2 d l a0 a1 a2 a3 o s r1 := by
  unfold Tw at ht
  unfold T1 at h
  unfold T2
  rw [h, ht]
  rfl
theorem T2.no {d : Nat} {l : Bs} {a0 a1 a2 a3 : Int} {o : Bool} {t : ByteArray} {r : Bs} (h : T2 d l a0 a1 a2 a3 o t r) {s : ByteArray} {r1 : Bs} (ht : Tw r s r1 false) (x : Iz) (r' : Bs) : Ti (d + 1) l x r' false := by
  unfold Tw at ht
  unfold T2 at h
  unfold Ti
  rw [h, ht]
  rfl
theorem T2.yes {d : Nat} {l : Bs} {a0 a1 a2 a3 : Int} {o : Bool} {t : ByteArray} {r : Bs} (h : T2 d l a0 a1 a2 a3 o t r) {s : ByteArray} {r1 : Bs} (ht : Tw r s r1 true) : T3 d l a0 a1 a2 a3 o t s r1 := by
  unfold Tw at ht
  unfold T2 at h
  unfold T3
  rw [h, ht]
  rfl
theorem T3.no {d : Nat} {l : Bs} {a0 a1 a2 a3 : Int} {o : Bool} {t u : ByteArray} {r : Bs} (h : T3 d l a0 a1 a2 a3 o t u r) {n : Int} {r1 : Bs} (ht : Tk r n r1 false) (x : Iz) (r' : Bs) : Ti (d + 1) l x r' false := by
  unfold Tk at ht
  unfold T3 at h
  unfold Ti
  rw [h, takeCount, ht]
  rfl
theorem T3.neg {d : Nat} {l : Bs} {a0 a1 a2 a3 : Int} {o : Bool} {t u : ByteArray} {r : Bs} (h : T3 d l a0 a1 a2 a3 o t u r) {n : Int} {r1 : Bs} (ht : Tk r n r1 true) (hn : n < 0) (x : Iz) (r' : Bs) : Ti (d + 1) l x r' false := by
  unfold Tk at ht
  unfold T3 at h
  unfold Ti
  rw [h, takeCount, ht, if_pos rfl, Option.bind_some, if_neg (by simp only; omega)]
  rfl
theorem T3.long {d : Nat} {l : Bs} {a0 a1 a2 a3 : Int} {o : Bool} {t u : ByteArray} {r : Bs} (h : T3 d l a0 a1 a2 a3 o t u r) {n : Nat} {r1 : Bs} (ht : Tk r (n : Int) r1 true) (hn : r1.length < n) (x : Iz) (r' : Bs) : Ti (d + 1) l x r' false := by
  unfold Tk at ht
  unfold T3 at h
  unfold Ti
  rw [h, takeCount, ht, if_pos rfl, Option.bind_some, if_pos (by simp only; omega), Option.bind_some]
  simp only [Int.toNat_natCast]
  cases hm : takeMany (takeItem d) n r1 with
  | none => rfl
  | some q =>
    have := takeMany_lt (show takeMany (takeItem d) n r1 = some (q.1, q.2) from hm)
    omega
theorem T3.yes {d : Nat} {l : Bs} {a0 a1 a2 a3 : Int} {o : Bool} {t u : ByteArray} {r : Bs} (h : T3 d l a0 a1 a2 a3 o t u r) {n : Nat} {r1 : Bs} (ht : Tk r (n : Int) r1 true) (hl : r1.length ≤ l.length) : T4 d l a0 a1 a2 a3 o t u n 0 [] r1 := by
  unfold Tk at ht
  unfold T3 at h
  refine ⟨Nat.zero_le _, rfl, hl, ?_⟩
  rw [h, takeCount, ht, if_pos rfl, Option.bind_some, if_pos (by simp only; omega), Option.bind_some]
  simp only [Int.toNat_natCast, Nat.sub_zero, List.nil_append]
theorem T4.no {d : Nat} {l : Bs} {a0 a1 a2 a3 : Int} {o : Bool} {t u : ByteArray} {n j : Nat} {acc : List Iz} {s : Bs} (h : T4 d l a0 a1 a2 a3 o t u n j acc s) (hj : j < n) {y : Iz} {r : Bs} (ht : Ti d s y r false) (x : Iz) (r' : Bs) : Ti (d + 1) l x r' false := by
  obtain ⟨_, _, _, h⟩ := h
  unfold Ti at ht
  unfold Ti
  obtain ⟨i, hi⟩ : ∃ i, n - j = i + 1 := ⟨n - j - 1, by omega⟩
  rw [h, hi, takeMany, ht]
  rfl
theorem T4.step {d : Nat} {l : Bs} {a0 a1 a2 a3 : Int} {o : Bool} {t u : ByteArray} {n j : Nat} {acc : List Iz} {s : Bs} (h : T4 d l a0 a1 a2 a3 o t u n j acc s) (hj : j < n) {y : Iz} {r : Bs} (ht : Ti d s y r true) : T4 d l a0 a1 a2 a3 o t u n (j + 1) (acc ++ [y]) r := by
  obtain ⟨_, ha, hs, h⟩ := h
  unfold Ti at ht
  rw [if_pos rfl] at ht
  have h3 := takeItem_lt ht
  refine ⟨hj, by rw [List.length_append, ha]; rfl, by omega, ?_⟩
  obtain ⟨i, hi⟩ : ∃ i, n - j = i + 1 := ⟨n - j - 1, by omega⟩
  have hi2 : n - (j + 1) = i := by omega
  rw [h, hi, hi2, takeMany, ht, Option.bind_some]
  cases takeMany (takeItem d) i r with
  | none => rfl
  | some q => simp
theorem T4.done {d : Nat} {l : Bs} {a0 a1 a2 a3 : Int} {o : Bool} {t u : ByteArray} {n j : Nat} {acc : List Iz} {s : Bs} (h : T4 d l a0 a1 a2 a3 o t u n j acc s) (hj : j = n) : Ti (d + 1) l (.mk a0 a1 t u a2 a3 o acc) s true := by
  obtain ⟨_, _, _, h⟩ := h
  unfold Ti
  rw [h, hj, Nat.sub_self, takeMany, if_pos rfl, Option.bind_some]
  simp
end Go.Proofs.YtpnineimnjibaafDoor
