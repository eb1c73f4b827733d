/-
  OWN WORK: Hsv, Tow, Hrc, Hwn, Hof, Xal, Xic, Hlv, Hdt, Xor, Xte, Xif, Xcu.
-/
import Derived.Test.YtgpckmolcdafcaeP7
import Derived.Test.YtgpckmolcdafcaeP5
import Derived.Test.YtgpckmolcdafcaeP2
import Derived.Maps.OwnOps
import Derived.Test.YtgpckmolcdafcaeP0
import Derived.Deep.QuietTactic
import Derived.BigQuiet
import Derived.Deep.RegionHeld3
import Derived.Test.YtgpckmolcdafcaeP1
import Derived.Deep.AppendLies
import Derived.RegionTactic
/-
  THE WALK of diff.steps.
-/
namespace Go.Proofs.Ytgpckmolcdafcae
open Go.RowKit Go.Maps

theorem owns_up {w : World} {C D e k n : Nat} {v : Value} {xs : List Value} (h : w.ownsRow C e k v n xs) (hb : ∀ b, v.ownBlock = some b → D ≤ b) : w.ownsRow D e k v n xs := by
  obtain ⟨h1, h2⟩ := h
  refine ⟨h1, ?_⟩
  rcases h2 with h2 | ⟨g, cap, cur, rfl, h3, h4⟩
  · exact Or.inl h2
  · exact Or.inr ⟨g, cap, cur, rfl, hb g rfl, h4⟩
theorem steps_world {w W w5 w6 : World} {x5 : Ax} {a : List It} {M c : Nat} {L : List Nat} (HB0 : Below w.heap.size w W) (Z0 : W.heap.size = w.heap.size + 1) (Q0 : W.cell? ⟨w.heap.size, 0, none⟩ = some (.slice none 0 0)) (F0 : W.frozen? ⟨w.heap.size, 0, none⟩ = false)
    (G1 : StAt w5 x5) (G2 : Rp x5.ar x5.nm a) (G3 : x5.ar.length = (nodesL a).length + 1) (hz : (nodesL a).length ≤ 131072) (ba : ∀ k ∈ nodesL a, k < 9223372036854775808) (G4 : ∀ k, x5.foot k → W.heap.size ≤ k) (G5 : Below W.heap.size W w5) (M1 : w5.heap.size ≤ M) (M2 : KeepAt w6 M c L) (M3 : Below w5.heap.size w5 w6) :
    ∃ W8, (((w6.alloc (.cells #[.slice (some ⟨x5.g, 0, none⟩) x5.ar.length x5.cap, .map (some x5.M)] 44)).alloc (.cells #[.map (some M)] 69)).alloc (.cells #[.func (.func 32) #[] #[.pointer (some ⟨w6.heap.size, 0, none⟩), .pointer (some ⟨w.heap.size, 0, none⟩)]] 71)) = W8 ∧ ∃ s0 : Sx, SdAt W8 s0 ∧ s0.T = a ∧ s0.ms = [] ∧ s0.x.S = w6.heap.size ∧ s0.E = w.heap.size ∧
      W8.cell? ⟨w6.heap.size + 1, 0, none⟩ = some (.map (some M)) ∧ W8.cell? ⟨w6.heap.size + 1 + 1, 0, none⟩ = some (tellF s0) ∧ KeepAt W8 M c L ∧ ¬ s0.foot (w6.heap.size + 1) ∧ ¬ s0.foot (w6.heap.size + 1 + 1) ∧ ¬ s0.foot M ∧ (∀ k, s0.foot k → w.heap.size ≤ k) ∧ Below w.heap.size w W8 := by
  have X6 := G1.below M3
  have lM := M2.lt
  have z5 := G5.size
  have z6 := M3.size
  have B7 : Below w6.heap.size w6 (w6.alloc (.cells #[.slice (some ⟨x5.g, 0, none⟩) x5.ar.length x5.cap, .map (some x5.M)] 44)) := (Below.refl _ _).alloc (Nat.le_refl _) _
  have z7 : (w6.alloc (.cells #[.slice (some ⟨x5.g, 0, none⟩) x5.ar.length x5.cap, .map (some x5.M)] 44)).heap.size = w6.heap.size + 1 := by simp
  have X7 := X6.boxed 44
  generalize w6.alloc (.cells #[.slice (some ⟨x5.g, 0, none⟩) x5.ar.length x5.cap, .map (some x5.M)] 44) = w7 at *
  have B8 : Below w7.heap.size w7 (w7.alloc (.cells #[.map (some M)] 69)) := (Below.refl _ _).alloc (Nat.le_refl _) _
  have z8 : (w7.alloc (.cells #[.map (some M)] 69)).heap.size = w7.heap.size + 1 := by simp
  have q8 : (w7.alloc (.cells #[.map (some M)] 69)).cell? ⟨w7.heap.size, 0, none⟩ = some (.map (some M)) := cell_box _ _
  generalize w7.alloc (.cells #[.map (some M)] 69) = w8 at *
  have B9 : Below w8.heap.size w8 (w8.alloc (.cells #[.func (.func 32) #[] #[.pointer (some ⟨w6.heap.size, 0, none⟩), .pointer (some ⟨w.heap.size, 0, none⟩)]] 71)) := (Below.refl _ _).alloc (Nat.le_refl _) _
  have q9 : (w8.alloc (.cells #[.func (.func 32) #[] #[.pointer (some ⟨w6.heap.size, 0, none⟩), .pointer (some ⟨w.heap.size, 0, none⟩)]] 71)).cell? ⟨w8.heap.size, 0, none⟩ = some (.func (.func 32) #[] #[.pointer (some ⟨w6.heap.size, 0, none⟩), .pointer (some ⟨w.heap.size, 0, none⟩)]) := cell_box _ _
  refine ⟨_, rfl, ?_⟩
  generalize w8.alloc (.cells #[.func (.func 32) #[] #[.pointer (some ⟨w6.heap.size, 0, none⟩), .pointer (some ⟨w.heap.size, 0, none⟩)]] 71) = w9 at *
  have B79 : Below w7.heap.size w7 w9 := B8.trans (B9.mono B8.size)
  have B69 : Below w6.heap.size w6 w9 := B7.trans (B79.mono B7.size)
  have B59 : Below w5.heap.size w5 w9 := M3.trans (B69.mono M3.size)
  have BW9 : Below W.heap.size W w9 := G5.trans (B59.mono G5.size)
  have Bw9 : Below w.heap.size w w9 := HB0.trans (BW9.mono HB0.size)
  have X9 : StAt w9 { x5 with S := w6.heap.size } := X7.below B79
  have hf : ∀ k, ({ x5 with S := w6.heap.size } : Ax).foot k → W.heap.size ≤ k ∧ (k < w5.heap.size ∨ k = w6.heap.size) := fun k hk => by
    rcases hk with e | e | e | e
    · have e : k = w6.heap.size := e
      exact ⟨by omega, Or.inr e⟩
    · exact ⟨G4 k (Or.inr (Or.inl e)), Or.inl (G1.lt k (Or.inr (Or.inl e)))⟩
    · exact ⟨G4 k (Or.inr (Or.inr (Or.inl e))), Or.inl (G1.lt k (Or.inr (Or.inr (Or.inl e))))⟩
    · exact ⟨G4 k (Or.inr (Or.inr (Or.inr e))), Or.inl (G1.lt k (Or.inr (Or.inr (Or.inr e))))⟩
  have hs : ∀ k, (⟨{ x5 with S := w6.heap.size }, a, w.heap.size, .slice none 0 0, []⟩ : Sx).foot k → w.heap.size ≤ k ∧ (k = w.heap.size ∨ k < w5.heap.size ∨ k = w6.heap.size) := fun k hk => by
    rcases hk with hk | hk | hk
    · obtain ⟨h1, h2⟩ := hf k hk
      exact ⟨by omega, Or.inr h2⟩
    · have e : k = w.heap.size := hk
      exact ⟨by omega, Or.inl e⟩
    · cases hk
  refine ⟨⟨{ x5 with S := w6.heap.size }, a, w.heap.size, .slice none 0 0, []⟩, ⟨X9, G2, ba, keeps_below BW9 (Nat.le_refl _) _ _ Q0, (BW9.frozen (p := ⟨w.heap.size, 0, none⟩) (by simp only; omega)).trans F0, World.ownsRow_nil _ _ _ _, fun h => by have h2 : W.heap.size ≤ w.heap.size := (hf _ h).1; omega, fun b e => (by cases e), (by show x5.ar.length ≤ 200001 + 0; omega)⟩, rfl, rfl, rfl, rfl, ?_, ?_, ?_, ?_, ?_, ?_, fun k hk => (hs k hk).1, Bw9⟩
  · rw [← z7]; exact keeps_below B9 (Nat.le_refl _) _ _ q8
  · rw [← z7, ← z8]; exact q9
  · exact M2.below B69
  · intro h; have := hs _ h; omega
  · intro h; have := hs _ h; omega
  · intro h; have := hs _ h; omega

set_option maxHeartbeats 3200000 in
set_option maxRecDepth 100000 in
theorem hsteps_any {w : World} {va vb : Value} {a b : List It} (ra : RdI w (fun _ => True) va a) (rb : RdI w (fun _ => True) vb b) (ua : Unlike a) (ub : Unlike b) (ba : ∀ k ∈ nodesL a, k < 9223372036854775808) (bb : ∀ k ∈ nodesL b, k < 9223372036854775808) (hz : Few a b) :
    Calls Try.prog 23 #[va, vb] w fun e w' => ∃ ve, e = .returned ve ∧ w'.ownsRow w.heap.size 28 12 ve (evsM a b).length (evsq (evsM a b)) ∧ Below w.heap.size w w' := by
  have hst : ∀ (W : World) (a : Addr) (fn : Fn) (x y : Array Value), Sem.run Try.prog (store a (.func fn x y)) W = stored Try.prog W a (.func fn x y) .plain := fun W a fn x y => run_store Try.prog W a (.func fn x y) .plain rfl
  have hmf : ∀ (fn : Fn) (first cap : Array Value) (w : World), (Instr.makeFunc fn first cap).run Try.prog w = .ok (.func fn first cap) w := fun _ _ _ _ => rfl
  have B0 : Below w.heap.size w (w.alloc (.cells #[.slice none 0 0] 23)) := (Below.refl _ _).alloc (Nat.le_refl _) _
  have z0 : (w.alloc (.cells #[.slice none 0 0] 23)).heap.size = w.heap.size + 1 := by simp
  have q0 : (w.alloc (.cells #[.slice none 0 0] 23)).cell? ⟨w.heap.size, 0, none⟩ = some (.slice none 0 0) := cell_box _ _
  have f0 : (w.alloc (.cells #[.slice none 0 0] 23)).frozen? ⟨w.heap.size, 0, none⟩ = false := World.frozen?_alloc_new _ _ _ _
  have CS := hstanding_any (ra.under B0) ua ba (by have := hz.la; omega)
  have CN : Hid (∀ W, Below w.heap.size w W → Calls Try.prog 31 #[vb] W fun e w' => ∃ M, e = .returned (.map (some M)) ∧ W.heap.size ≤ M ∧ KeepAt w' M (nodesL b).length (nodesL b) ∧ Below W.heap.size W w') := fun W hW => hnodesOf_any (rb.under hW) (by have := hz.lb; omega) bb
  obtain ⟨pa, ca, rfl⟩ := ra.shape
  obtain ⟨pb, cb, rfl⟩ := rb.shape
  have RB : Hid (RdI w (fun _ => True) (.slice pb b.length cb) b) := rb
  have UA : Hid (Unlike a) := ua
  have UB : Hid (Unlike b) := ub
  have BA : Hid (∀ k ∈ nodesL a, k < 9223372036854775808) := ba
  have BB : Hid (∀ k ∈ nodesL b, k < 9223372036854775808) := bb
  have HZ : Hid (Few a b) := hz
  clear ra rb ua ub ba bb hz
  go_enter Try.func23, Try.ntmps23
  go_upto_region 2 with fail
  generalize w.alloc (.cells #[.slice none 0 0] 23) = W at *
  have HB0 : Hid (Below w.heap.size w W) := B0
  have Z0 : Hid (W.heap.size = w.heap.size + 1) := z0
  have Q0 : Hid (W.cell? ⟨w.heap.size, 0, none⟩ = some (.slice none 0 0)) := q0
  have F0 : Hid (W.frozen? ⟨w.heap.size, 0, none⟩ = false) := f0
  clear B0 z0 q0 f0
  go_upto_region 4 with (first
    | (go_at_call 12; refine CS.mono ?_; clear CS; rintro e w5 ⟨x5, rfl, g1, g2, g3, g4, g5⟩; have G1 : Hid (StAt w5 x5) := g1; have G2 : Hid (Rp x5.ar x5.nm a) := g2; have G3 : Hid (x5.ar.length = (nodesL a).length + 1) := g3; have G4 : Hid (∀ k, x5.foot k → W.heap.size ≤ k) := g4; have G5 : Hid (Below W.heap.size W w5) := g5; have HB5 : Hid (Below w.heap.size w w5) := HB0.out.trans (g5.mono HB0.out.size); clear g1 g2 g3 g4 g5)
    | (go_at_call 31; refine (CN.out _ HB5.out).mono ?_; rintro e w6 ⟨M, rfl, h1, h2, h3⟩; have M1 : Hid (w5.heap.size ≤ M) := h1; have M2 : Hid (KeepAt w6 M (nodesL b).length (nodesL b)) := h2; have M3 : Hid (Below w5.heap.size w5 w6) := h3; clear h1 h2 h3))
  obtain ⟨W8, hW8, s0, S1, S2, S3, S4, S5, S6, S7, S8, S9, S10, S11, S12, S13⟩ := steps_world HB0.out Z0.out Q0.out F0.out G1.out G2.out G3.out (by have := HZ.out.la; omega) BA.out G4.out G5.out M1.out M2.out M3.out
  rw [hW8]
  have R1 := hrmneed_any S1 (G := w6.heap.size + 1) (M := M) (L := nodesL b) (by rw [S2, S3]; simp only [List.length_nil]; have := HZ.out.la; omega) S6 S8
  rw [S4] at R1
  have HS1 : Hid (SdAt W8 s0) := S1
  have HS2 : Hid (s0.T = a) := S2
  have HS3 : Hid (s0.ms = []) := S3
  have HS4 : Hid (s0.x.S = w6.heap.size) := S4
  have HS5 : Hid (s0.E = w.heap.size) := S5
  have HS6 : Hid (W8.cell? ⟨w6.heap.size + 1, 0, none⟩ = some (.map (some M))) := S6
  have HS7 : Hid (W8.cell? ⟨w6.heap.size + 1 + 1, 0, none⟩ = some (tellF s0)) := S7
  have HS8 : Hid (KeepAt W8 M (nodesL b).length (nodesL b)) := S8
  have HS9 : Hid (¬ s0.foot (w6.heap.size + 1)) := S9
  have HS10 : Hid (¬ s0.foot (w6.heap.size + 1 + 1)) := S10
  have HS11 : Hid (¬ s0.foot M) := S11
  have HS12 : Hid (∀ k, s0.foot k → w.heap.size ≤ k) := S12
  have HS13 : Hid (Below w.heap.size w W8) := S13
  have TF : tellF s0 = .func (.func 32) #[] #[.pointer (some ⟨w6.heap.size, 0, none⟩), .pointer (some ⟨w.heap.size, 0, none⟩)] := by unfold tellF; rw [S4, S5]
  have c8 := S7
  rw [TF] at c8 R1
  have RBK : Hid (RdI W8 (fun g => ¬ s0.foot g) (.slice pb b.length cb) b) := RB.out.frame (fun g _ hlt => ⟨S13.block g hlt, fun hf => by have := S12 g hf; omega⟩)
  have u1 : Unlike (T1 a b) := cut_unlike _ UA.out
  have hD : Done (T2 a b) (plcL (-1) 0 b) := brought u1 UB.out
  have HU2 : Hid (Unlike (T2 a b)) := hD.un
  have l1 := HZ.out.all
  have l2 := HZ.out.two
  have V3 := visit3 (wK := W8) (s0 := s0) (B8 := w6.heap.size + 1 + 1) S7 S10 (T := T1 a b) (b := b) (bring_ok u1 UB.out) BB.out ((maxL (badA b) a).map evRm) (by rw [List.length_map]; omega)
  have V4 := visit4 (wK := W8) (s0 := s0) (B8 := w6.heap.size + 1 + 1) S7 S10 (T := T3 a b) (b := b) UB.out (T3_nodes UA.out UB.out) BB.out (((maxL (badA b) a).map evRm ++ evsBring (T1 a b) (plcL (-1) 0 b)) ++ (maxL (badA b) (T2 a b)).map evRm) (by rw [List.length_append, List.length_append, List.length_map, List.length_map]; omega)
  rw [S4] at V3 V4
  have HV3 := (show Hid _ from V3)
  have HV4 := (show Hid _ from V4)
  have HL : Hid ((maxL (badA b) a).length + (evsBring (T1 a b) (plcL (-1) 0 b)).length + (nodesL (T2 a b)).length ≤ 289000) := l2
  clear S1 S2 S3 S4 S5 S6 S7 S8 S9 S10 S11 S12 S13 hW8 u1 hD l1 l2 V3 V4 TF CN
  go_upto_region 6 with (go_at_call 34; refine R1.mono ?_; clear R1; rintro e w1 ⟨rfl, s1, t1, t2, t3, t4⟩; have A1 : Hid (SdAt w1 s1) := t1; have A2 : Hid (Fz s0 s1 W8 w1) := t2; have A3 : Hid (s1.T = T1 a b) := (by rw [HS2.out] at t3; exact t3); have A4 : Hid (s1.ms = (maxL (badA b) a).map evRm) := (by rw [HS2.out, HS3.out] at t4; exact t4); have c81 := t2.cell c8 HS10.out; clear t1 t2 t3 t4)
  have E3 := heach3_any RBK.out A1.out A2.out HV3.out ⟨A3.out, by rw [evsBring, List.append_nil]; exact A4.out⟩
  go_upto_region 7 with (go_at_call 35; refine E3.mono ?_; clear E3; rintro e w2 ⟨rfl, s2, t1, t2, t3, t4⟩; have D1 : Hid (SdAt w2 s2) := t1; have D2 : Hid (Fz s0 s2 W8 w2) := A2.out.trans t2; have D3 : Hid (s2.T = T2 a b) := t3; have D4 : Hid (s2.ms = (maxL (badA b) a).map evRm ++ evsBring (T1 a b) (plcL (-1) 0 b)) := t4; clear t1 t2 t3 t4)
  have c82 := D2.out.cell c8 HS10.out
  have R2 : Calls Try.prog 34 #[.pointer (some ⟨w6.heap.size, 0, none⟩), .func (.func 33) #[] #[.pointer (some ⟨w6.heap.size + 1, 0, none⟩)], .func (.func 32) #[] #[.pointer (some ⟨w6.heap.size, 0, none⟩), .pointer (some ⟨w.heap.size, 0, none⟩)]] w2 fun e w' => e = .returned (.tuple #[]) ∧ ∃ s', SdAt w' s' ∧ Fz s2 s' w2 w' ∧ s'.T = cutL (badA b) (T2 a b) ∧ s'.ms = s2.ms ++ (maxL (badA b) (T2 a b)).map evRm := by
    have h1 := hrmneed_any D1.out (G := w6.heap.size + 1) (M := M) (L := nodesL b) (by rw [D3.out, D4.out, List.length_append, List.length_map]; have := HL.out; omega) (D2.out.cell HS6.out HS9.out) (HS8.out.same (D2.out.block M HS8.out.lt HS11.out))
    rw [D3.out] at h1
    unfold tellF at h1
    rw [D2.out.S, D2.out.E, HS4.out, HS5.out] at h1
    exact h1
  go_upto_region 8 with (go_at_call 34; refine R2.mono ?_; clear R2; rintro e w3 ⟨rfl, s3, t1, t2, t3, t4⟩; have I1 : Hid (SdAt w3 s3) := t1; have I2 : Hid (Fz s0 s3 W8 w3) := D2.out.trans t2; have I3 : Hid (s3.T = T3 a b) := (by rw [(bad_T2 UA.out UB.out).2] at t3; exact t3); have I4 : Hid (s3.ms = ((maxL (badA b) a).map evRm ++ evsBring (T1 a b) (plcL (-1) 0 b)) ++ (maxL (badA b) (T2 a b)).map evRm) := (by rw [D4.out] at t4; exact t4); clear t1 t2 t3 t4)
  have c83 := I2.out.cell c8 HS10.out
  have E4 := heach4_any RBK.out I1.out I2.out HV4.out ⟨I3.out, by simp only [ttD, List.map_nil, List.filter_nil, List.append_nil]; exact I4.out⟩
  have HE : Hid ((((maxL (badA b) a).map evRm ++ evsBring (T1 a b) (plcL (-1) 0 b)) ++ (maxL (badA b) (T2 a b)).map evRm) ++ (ttD (T3 a b) (plcL (-1) 0 b)).map evTell = evsM a b) := by
    show _ = _
    unfold evsM
    rw [ttD_all, (bad_T2 UA.out UB.out).1]
    simp only [List.append_assoc]
  go_upto_region 9 with (go_at_call 35; refine E4.mono ?_; clear E4; rintro e w4 ⟨rfl, s4, t1, t2, t3, t4⟩; have J1 : Hid (SdAt w4 s4) := t1; have J2 : Hid (Fz s0 s4 W8 w4) := I2.out.trans t2; have J4 : Hid (s4.ms = evsM a b) := (by rw [HE.out] at t4; exact t4); clear t1 t2 t3 t4)
  have cE := J1.out.cE
  rw [J2.out.E, HS5.out] at cE
  obtain ⟨pv, cv, ev, _, _⟩ := row_shape J1.out.own
  have HV : Hid (s4.ve = .slice pv s4.ms.length cv) := ev
  rw [ev] at cE
  clear ev
  go_wp2_with fail
  go_ret
  refine ⟨_, rfl, ?_, ?_⟩
  · have h1 := J1.out.own
    rw [HV.out, J4.out] at h1
    rw [J4.out]
    refine owns_up h1 (fun bk hk => ?_)
    have hf : s4.foot bk := Or.inr (Or.inr (by rw [HV.out, J4.out]; exact hk))
    rcases J2.out.foot _ hf with h2 | h2
    · exact HS12.out _ h2
    · exact Nat.le_trans HS13.out.size h2
  · exact HS13.out.trans (J2.out.to_below HS13.out.size HS12.out)
end Go.Proofs.Ytgpckmolcdafcae

/-
  THE WALK of tree.Own: how long what it hands back is.
-/
namespace Go.Proofs.Ytgpckmolcdafcae
open Go.RowKit

theorem cellsT_cons (x : It) (l : List It) (k : Value) (ks : List Value) : cellsT (x :: l) (k :: ks) = itc (x, k) ++ cellsT l ks := rfl
theorem cellsT_set : ∀ (l : List It) (kvs : List Value) (j : Nat) (v : Value), kvs.length = l.length → j < l.length → cellsT l (kvs.set j v) = (cellsT l kvs).set (j * 8 + 7) v
  | [], _, _, _, _, h => by simp at h
  | x :: l, [], _, _, h, _ => by simp at h
  | x :: l, k :: ks, 0, v, _, _ => by
    rw [List.set_cons_zero, cellsT_cons, cellsT_cons, List.set_append_left _ _ (by rw [itc_len]; omega)]
    rfl
  | x :: l, k :: ks, j + 1, v, h, hj => by
    rw [List.set_cons_succ, cellsT_cons, cellsT_cons, cellsT_set l ks j v (by simpa using h) (by simpa using hj), List.set_append_right _ _ (by rw [itc_len]; omega), itc_len]
    congr 2
    omega

end Go.Proofs.Ytgpckmolcdafcae

/-
  ITEMS that read: their cells, one by one; append of a slice of them, whatever it lies in.
-/
namespace Go.Proofs.Ytgpckmolcdafcae
open Go.RowKit

theorem rd_cells {w : World} {P : Nat → Prop} {v : Value} {l : List It} (h : RdI w P v l) : ∃ p c kvs, v = .slice p l.length c ∧ l.length ≤ c ∧ c ≤ 9223372036854775807 ∧ kvs.length = l.length ∧
    (∀ j y, (cellsT l kvs)[j]? = some y → ∃ b o, p = some ⟨b, o, none⟩ ∧ P b ∧ w.cell? ⟨b, o + j, none⟩ = some y) ∧ ∀ j (h : j < l.length) (h' : j < kvs.length), RdI w P kvs[j] l[j].kids := by
  unfold RdI at h
  generalize hL : ofIts l = L at h
  cases h with
  | mk p c xs kvs hl h1 h2 hc hk =>
    subst hL
    have hlen := ofIts_len l
    refine ⟨p, c, kvs, by rw [hlen], by rw [← hlen]; exact h1, by unfold maxLen at h2; omega, by rw [hl, hlen], fun j y hy => ?_, fun j h h' => ?_⟩
    · have hl2 : kvs.length = l.length := by rw [hl, hlen]
      have hjl : j < l.length * 8 := by
        have := (List.getElem?_eq_some_iff.mp hy).1
        rw [cellsT_len l kvs hl2] at this
        exact this
      obtain ⟨q, r, hr, rfl⟩ : ∃ q r, r < 8 ∧ j = q * 8 + r := ⟨j / 8, j % 8, Nat.mod_lt _ (by decide), by omega⟩
      have hq : q < l.length := by omega
      rw [cellsT_at l kvs hl2 q r hq hr] at hy
      obtain ⟨b, o, e, hb, hA⟩ := hc q (by rw [hlen]; exact hq) (by omega)
      refine ⟨b, o, e, hb, ?_⟩
      have ex : (ofIts l)[q]'(by rw [hlen]; exact hq) = ofIt l[q] := by simp only [ofIts_map, List.getElem_map]
      rw [ex] at hA
      have hA := hA.it
      have hA' : w.cell? ⟨b, o + (q * 8 + r), none⟩ = (itc (l[q], kvs[q]))[r]? := by
        rw [← Nat.add_assoc]
        match r, hr with
        | 0, _ => exact hA.c0
        | 1, _ => exact hA.c1
        | 2, _ => exact hA.c2
        | 3, _ => exact hA.c3
        | 4, _ => exact hA.c4
        | 5, _ => exact hA.c5
        | 6, _ => exact hA.c6
        | 7, _ => exact hA.c7
      rw [hA', hy]
    · have := hk j (by rw [hlen]; exact h) h'
      have ex : (ofIts l)[j]'(by rw [hlen]; exact h) = ofIt l[j] := by simp only [ofIts_map, List.getElem_map]
      rw [ex, ofIt_kids] at this
      exact this
theorem rd_mk {w : World} {P : Nat → Prop} {p : Option Addr} {c : Nat} {l : List It} {kvs : List Value} (h1 : l.length ≤ c) (h2 : c ≤ 9223372036854775807) (hl : kvs.length = l.length)
    (hc : ∀ j y, (cellsT l kvs)[j]? = some y → ∃ b o, p = some ⟨b, o, none⟩ ∧ P b ∧ w.cell? ⟨b, o + j, none⟩ = some y) (hk : ∀ j (h : j < l.length) (h' : j < kvs.length), RdI w P kvs[j] l[j].kids) : RdI w P (.slice p l.length c) l := by
  unfold RdI
  have hlen := ofIts_len l
  have e : (Value.slice p l.length c) = .slice p (ofIts l).length c := by rw [hlen]
  rw [e]
  refine .mk p c (ofIts l) kvs (by rw [hlen, hl]) (by rw [hlen]; exact h1) (by unfold maxLen; omega) (fun j hj hj' => ?_) (fun j hj hj' => ?_)
  · have hjl : j < l.length := by rw [hlen] at hj; exact hj
    have at_ : ∀ r, r < 8 → ∀ y, (itc (l[j], kvs[j]))[r]? = some y → ∃ b o, p = some ⟨b, o, none⟩ ∧ P b ∧ w.cell? ⟨b, o + (j * 8 + r), none⟩ = some y := fun r hr y hy => hc (j * 8 + r) y (by rw [cellsT_at l kvs hl j r hjl hr]; exact hy)
    obtain ⟨b, o, e0, hb, c0⟩ := at_ 0 (by decide) _ rfl
    have at2 : ∀ r, r < 8 → ∀ y, (itc (l[j], kvs[j]))[r]? = some y → w.cell? ⟨b, o + j * 8 + r, none⟩ = some y := fun r hr y hy => by
      obtain ⟨b', o', e1, _, c1⟩ := at_ r hr y hy
      rw [e0] at e1
      cases e1
      rw [Nat.add_assoc]
      exact c1
    refine ⟨b, o, e0, hb, ?_⟩
    have ex : (ofIts l)[j] = ofIt l[j] := by simp only [ofIts_map, List.getElem_map]
    rw [ex]
    exact ItAt.any ⟨at2 0 (by decide) _ rfl, at2 1 (by decide) _ rfl, at2 2 (by decide) _ rfl, at2 3 (by decide) _ rfl, at2 4 (by decide) _ rfl, at2 5 (by decide) _ rfl, at2 6 (by decide) _ rfl, at2 7 (by decide) _ rfl⟩
  · have hjl : j < l.length := by rw [hlen] at hj; exact hj
    have ex : (ofIts l)[j] = ofIt l[j] := by simp only [ofIts_map, List.getElem_map]
    rw [ex, ofIt_kids]
    exact hk j hjl hj'
/-- a row of the call's own, whose items' kids read -/
theorem rd_row {w : World} {B : Nat} {v : Value} {l : List It} {kvs : List Value} (ho : w.ownsRow B 26 8 v l.length (cellsT l kvs)) (hl : kvs.length = l.length) {P : Nat → Prop} (hP : ∀ b, v.ownBlock = some b → P b) (hk : ∀ j (h : j < l.length) (h' : j < kvs.length), RdI w P kvs[j] l[j].kids) : RdI w P v l := by
  obtain ⟨p, c, e, h1, h2, h3, h4⟩ := cells_of_owns ho
  subst e
  refine rd_mk h1 (by unfold maxLen at h2; omega) hl (fun j y hy => ?_) hk
  obtain ⟨b, o, e, hc⟩ := h4 j y hy
  exact ⟨b, o, e, hP b (by rw [e]; rfl), hc⟩
theorem run_append_empty {w : World} (c : Nat) (ty : TypeId) (base n : Nat) (v : Value) (xs : List Value) (hown : w.ownsRow base 26 8 v n xs) :
    (Builtin.append_ #[22, 22] ty #[v, .slice none 0 c]).run Try.prog w = .ok v w := by
  obtain ⟨i0, hi, hz0, hz1, hz2⟩ := info_parts infoT
  rcases hown.2 with ⟨rfl, rfl⟩ | ⟨g, cap, cur, rfl, _, _, hnc, _⟩
  · simp [Builtin.append_, run_underlying Try.underlying22, sizeOf, typeInfo, hi, Builtin.lenOf, Builtin.firstCells]
  · simp [Builtin.append_, run_underlying Try.underlying22, sizeOf, typeInfo, hi, Builtin.lenOf, Builtin.firstCells, hnc, storeCells]
/-- append of items that read -/
theorem append_rd {wr : World} {ops : Array Oper} {rest : List Oper} {o : Oper} {a : Act} {Q : Exit → Act → World → Prop} (hgd : o.guard = none)
    (s x : Operand) (ho : o.op = Op.call { callee := Callee.builtin Builtin.append, args := #[s, x], argTypes := #[22, 22] }) {P : Nat → Prop} {B n : Nat} {v u : Value} {xs : List Value} {m : List It}
    (hs : a.eval s = v) (hx : a.eval x = u) (hown : wr.ownsRow B 26 8 v n xs) (hm : RdI wr P u m) (hB : B ≤ wr.heap.size) (hsz : n + m.length ≤ 1000000)
    (h : ∀ v' w1 kvs, kvs.length = m.length → w1.ownsRow B 26 8 v' (n + m.length) (xs ++ cellsT m kvs) → (∀ j (h : j < m.length) (h' : j < kvs.length), RdI wr P kvs[j] m[j].kids) → wr.grownBy w1 v.ownBlock → wpList Try.prog ops Q rest (a.put o.dst v') w1) :
    wpList Try.prog ops Q (o :: rest) a wr := by
  refine wpList_plain hgd fun K hK => ?_
  obtain ⟨i0, hi, hz0, hz1, hz2⟩ := info_parts infoT
  obtain ⟨p, c, kvs, rfl, h1, h2, hl, hc, hk⟩ := rd_cells hm
  have one : ∀ u ∈ cellsT m kvs, u.oneCell' = true := oneT m kvs (fun y hy => by
    obtain ⟨j, hj, e⟩ := List.mem_iff_getElem.mp hy
    rw [← e]
    obtain ⟨p', c', e'⟩ := (hk j (by omega) hj).shape
    rw [e']
    rfl)
  cases p with
  | none =>
    have hm0 : m = [] := by
      cases m with
      | nil => rfl
      | cons y ys =>
        exfalso
        obtain ⟨b, o, e, _⟩ := hc 0 _ (List.getElem?_eq_getElem (by rw [cellsT_len _ _ hl]; simp))
        cases e
    subst hm0
    have hk0 : kvs = [] := List.length_eq_zero_iff.mp hl
    subst hk0
    have hrun := run_append_empty c o.type B n v xs hown
    have hk' := hK _ _ (h v wr [] rfl (by simpa [cellsT] using hown) (fun j h => by simp at h) (grown_refl _ _))
    unfold Oper.wp
    simp [execOp, ho, resolve, invoke, builtin, hs, hx, hrun, Result.andThen]
    exact hk'
  | some ad =>
    refine wp_append_own _ s x 22 ho B 26 i0 _ 8 96 Try.underlying22 hi hz0 hz1 hz2 rfl (by decide) v n xs hs hown ad m.length c (cellsT m kvs) hx (cellsT_len _ _ hl) (fun j y hy => by
        obtain ⟨b, o, e1, _, e2⟩ := hc j y hy
        cases e1
        rw [add_at]
        exact e2) one (by unfold maxLen; omega) (by omega) hB ?_
    intro v' w1 k1 k2 _
    exact hK _ _ (h v' w1 kvs hl k1 hk k2)
end Go.Proofs.Ytgpckmolcdafcae

/-
  THE WALK of tree.Own, of items that came in: a copy, all of it.
-/
namespace Go.Proofs.Ytgpckmolcdafcae
open Go.RowKit

set_option maxHeartbeats 3200000 in
set_option maxRecDepth 100000 in
theorem htown_any {P : Nat → Prop} (m : Nat) : ∀ (v : Value) (l : List It) (w : World), RdI w P v l → (nodesL l).length ≤ m → (nodesL l).length ≤ 800000 →
    Calls Try.prog 30 #[v] w fun e w' => ∃ v', e = .returned v' ∧ RdI w' (fun g => w.heap.size ≤ g) v' l ∧ Below w.heap.size w w' := by
  induction m with
  | zero =>
    intro v l w hr hm hsz
    have hl : l = [] := by
      have := top_few l
      exact List.length_eq_zero_iff.mp (by omega)
    subst hl
    have HR : Hid (RdI w P v []) := hr
    obtain ⟨p, c, rfl⟩ := hr.shape
    have hown : w.ownsRow w.heap.size 26 8 (.slice none 0 0) 0 [] := World.ownsRow_nil _ _ _ _
    clear hr
    go_enter Try.func30, Try.ntmps30
    go_upto_region 2 with (at_builtin; refine append_rd rfl _ _ rfl rfl rfl hown HR.out (Nat.le_refl _) (by simp) ?_; intro v' w1 kvs h1 h2 h3 h4; obtain ⟨pv, cv, rfl⟩ := owns_shape h2)
    have H2 : Hid (w1.ownsRow w.heap.size 26 8 (.slice pv 0 cv) 0 ([] ++ cellsT [] kvs)) := h2
    have H1 : Hid (kvs.length = 0) := h1
    have HB : Hid (Below w.heap.size w w1) := (Below.refl _ w).grown h4 (Nat.le_refl _) (fun j hj => by cases hj)
    clear h1 h2 h3 h4 hown
    go_wp2_with fail
    refine wp_loop_rounds 1 ?_
    rw [rounds_succ]
    go_wp2_with fail
    go_ret
    refine ⟨_, rfl, ?_, HB.out⟩
    have h2 := H2.out
    rw [List.nil_append] at h2
    exact rd_row (l := []) (kvs := kvs) h2 H1.out (fun b hb => (h2.lt b hb).1) (fun j h => by simp at h)
  | succ m ih =>
    intro v l w hr hm hsz
    have HR : Hid (RdI w P v l) := hr
    have htf := top_few l
    have ZM : Hid (∀ j (hj : j < l.length), (nodesL l[j].kids).length ≤ m ∧ (nodesL l[j].kids).length ≤ 800000) := fun j hj => by have := nodesL_lt l j hj; omega
    have hl6 : 0 + l.length ≤ 1000000 := by omega
    obtain ⟨p, c, rfl⟩ := hr.shape
    have hown : w.ownsRow w.heap.size 26 8 (.slice none 0 0) 0 [] := World.ownsRow_nil _ _ _ _
    clear hr hm hsz htf
    go_enter Try.func30, Try.ntmps30
    go_upto_region 2 with (at_builtin; refine append_rd rfl _ _ rfl rfl rfl hown HR.out (Nat.le_refl _) hl6 ?_; intro v' w1 kvs h1 h2 h3 h4; rw [Nat.zero_add] at h2; obtain ⟨pv, cv, rfl⟩ := owns_shape h2)
    rw [List.nil_append] at h2
    have H2 : Hid (w1.ownsRow w.heap.size 26 8 (.slice pv l.length cv) l.length (cellsT l kvs)) := h2
    have H3 : Hid (∀ j (h : j < l.length) (h' : j < kvs.length), RdI w P kvs[j] l[j].kids) := h3
    have H1 : Hid (kvs.length = l.length) := h1
    have hb1 : Below w.heap.size w w1 := (Below.refl _ w).grown h4 (Nat.le_refl _) (fun j hj => by cases hj)
    have HLT : Hid (∀ b, (Value.slice pv l.length cv).ownBlock = some b → w.heap.size ≤ b ∧ b < w1.heap.size) := h2.lt
    clear h1 h2 h3 h4 hown
    have hcv : l.length ≤ cv ∧ cv ≤ 9223372036854775807 := by
      obtain ⟨p', c', e, e1, e2, _⟩ := cells_of_owns H2.out
      cases e
      exact ⟨e1, by unfold maxLen at e2; omega⟩
    obtain ⟨hc1, hc2⟩ := hcv
    go_wp2_with fail
    go_loopw [4, 9] (fun _ iv wr => ∃ (j : Nat) (ks : List Value), j ≤ l.length ∧ iv = .int .i64 j ∧ Hid (ks.length = l.length ∧ wr.ownsRow w.heap.size 26 8 (.slice pv l.length cv) l.length (cellsT l ks) ∧ (∀ i, j ≤ i → ks[i]? = kvs[i]?) ∧ ∀ i (h : i < l.length) (h' : i < ks.length), i < j → RdI wr (fun g => w1.heap.size ≤ g) ks[i] l[i].kids) ∧ Below w.heap.size w wr ∧ Hid (w1.heap.size ≤ wr.heap.size)) (fun _ iv _ => l.length - (intOf iv).toNat)
    case atStart => exact ⟨0, kvs, Nat.zero_le _, rfl, ⟨H1.out, H2.out, fun _ _ => rfl, fun i _ _ h => by omega⟩, hb1, Nat.le_refl _⟩
    case round =>
      clear hb1
      obtain ⟨j, ks, hj, rfl, HK, hbr, HZ⟩ := hrel
      by_cases hlt : j < l.length
      · have hjk : j < ks.length := by rw [HK.out.1]; exact hlt
        have hjv : j < kvs.length := by rw [H1.out]; exact hlt
        have ekv : ks[j] = kvs[j] := by
          have := HK.out.2.2.1 j (Nat.le_refl _)
          rw [List.getElem?_eq_getElem hjk, List.getElem?_eq_getElem hjv] at this
          exact Option.some.inj this
        have hrow := H3.out j hlt hjv
        obtain ⟨gb, cap, e0, hgB, hgl⟩ := HK.out.2.1.form (by omega)
        cases e0
        have hcell := World.ownsRow.cells HK.out.2.1 (g := gb) rfl (j * 8 + 7) ks[j] (by rw [cellsT_at l ks HK.out.1 j 7 hlt (by decide)]; rfl)
        rw [add_at, Nat.zero_add, ekv] at hcell
        have hfz : wr.frozen? ⟨gb, j * 8 + 7, none⟩ = false := World.ownsRow.frozenAt HK.out.2.1 _
        obtain ⟨pk, ck, ek⟩ := hrow.shape
        rw [ek] at hcell hrow
        have OW := ih _ _ wr (hrow.under hbr) (ZM.out j hlt).1 (ZM.out j hlt).2
        have HGB : Hid (w.heap.size ≤ gb ∧ gb < wr.heap.size) := ⟨hgB, hgl⟩
        have HG1 : Hid (gb < w1.heap.size) := (HLT.out gb rfl).2
        have HLJ : Hid (j < l.length) := hlt
        clear hrow ekv ek hgB hgl
        generalize hkk : l[j].kids = kk at *
        have HKK : Hid (l[j].kids = kk) := hkk
        clear hkk
        go_wp2_with (go_at_call 30; refine OW.mono ?_; clear OW; rintro e w5 ⟨v5, rfl, hr5, hb5⟩; have c7 := keeps_below hb5 (Nat.le_refl _) _ _ hcell; have f7 : w5.frozen? ⟨gb, j * 8 + 7, none⟩ = false := (hb5.frozen (p := ⟨gb, j * 8 + 7, none⟩) HGB.out.2).trans hfz; obtain ⟨p5, c5, rfl⟩ := hr5.shape; have R5 : Hid (RdI w5 (fun g => wr.heap.size ≤ g) (.slice p5 kk.length c5) kk) := hr5; clear hr5)
        go_roundw
        case rel =>
          have h5 := owns_below HK.out.2.1 hb5
          have h6 := owns_set h5 (j * 8 + 7) (.slice p5 kk.length c5)
          rw [← cellsT_set l ks j _ HK.out.1 hlt] at h6
          have hz := HZ.out
          have hz5 := hb5.size
          have fr : ∀ g, w1.heap.size ≤ g → g < w5.heap.size → (w5.setCell ⟨gb, j * 8 + 7, none⟩ (.slice p5 kk.length c5)).heap[g]? = w5.heap[g]? := fun g h1 _ => heap_setCell_other _ _ _ _ (fun e => by have := HG1.out; have e : g = gb := e; omega)
          have hz9 : Hid (w1.heap.size ≤ (w5.setCell ⟨gb, j * 8 + 7, none⟩ (.slice p5 kk.length c5)).heap.size) := by
            show _ ≤ _
            have : w1.heap.size ≤ w5.heap.size := by omega
            simpa using this
          refine ⟨j + 1, ks.set j (.slice p5 kk.length c5), by omega, by go_num, ⟨by rw [List.length_set]; exact HK.out.1, h6, fun i hi => ?_, fun i hi hi' hij => ?_⟩, (hbr.trans (hb5.mono hbr.size)).setCell (p := ⟨gb, j * 8 + 7, none⟩) HGB.out.1 _, hz9⟩
          · rw [List.getElem?_set_ne (by omega)]
            exact HK.out.2.2.1 i (by omega)
          · rw [List.getElem_set]
            by_cases e : j = i
            · subst e
              rw [if_pos rfl]
              have e9 : l[j].kids = kk := HKK.out
              rw [e9]
              exact R5.out.frame (fun g hg hlt => ⟨fr g (by omega) hlt, by omega⟩)
            · rw [if_neg e]
              have h7 := HK.out.2.2.2 i hi (by rw [List.length_set] at hi'; exact hi') (by omega)
              exact (h7.under hb5).frame (fun g hg hlt => ⟨fr g hg hlt, hg⟩)
        case measure => simp [intOf]; omega
      · obtain rfl : j = l.length := by omega
        go_wp2_with fail
        go_ret
        obtain ⟨k1, k2, _, k4⟩ := HK.out
        have hs := hbr.size
        have hz1 : w.heap.size ≤ w1.heap.size ∨ l = [] := by
          by_cases hl0 : l = []
          · exact Or.inr hl0
          · left
            obtain ⟨gb, cap, e0, hgB, hgl⟩ := H2.out.form (by have : 0 < l.length := List.length_pos_iff.mpr hl0; omega)
            omega
        refine ⟨_, rfl, rd_row k2 k1 (fun b hb => (k2.lt b hb).1) (fun i h h' => (k4 i h h' h).any (fun g hg _ => ?_)), hbr⟩
        rcases hz1 with hz1 | hz1
        · omega
        · subst hz1; simp at h
end Go.Proofs.Ytgpckmolcdafcae

/-
  THE WALKS of diff.all, and of diff.Of.
-/
namespace Go.Proofs.Ytgpckmolcdafcae
open Go.RowKit Go.Maps

/-- events that are plain -/
def EvGood (m : EvM) : Prop := ∃ n : Nat, m.node = (n : Int) ∧ n < 9223372036854775808 ∧ m.tgt < 9223372036854775808 ∧ m.item.kids = [] ∧ m.item.node < 9223372036854775808 ∧ m.kind ≠ 5
theorem good_bring {T : List It} {y : It} {p : Int} {i : Nat} (hy : y.node < 9223372036854775808) (hp : p < 9223372036854775808) : ∀ m ∈ evBring T y p i, EvGood m := by
  intro m hm
  unfold evBring at hm
  split at hm
  · rw [List.mem_singleton] at hm
    subst hm
    exact ⟨0, rfl, by omega, hp, with_kids _ _, by show (y.with []).node < _; rw [with_node]; exact hy, by show (2 : Int) ≠ 5; decide⟩
  · split at hm
    · simp at hm
    · rw [List.mem_singleton] at hm
      subst hm
      exact ⟨y.node, rfl, hy, hp, rfl, by show (0 : Nat) < _; omega, by show (3 : Int) ≠ 5; decide⟩
theorem good_brings : ∀ (D : List Plc) (T : List It), (∀ e ∈ D, e.1.node < 9223372036854775808 ∧ e.2.1 < 9223372036854775808) → ∀ m ∈ evsBring T D, EvGood m
  | [], _, _, m, hm => by simp [evsBring] at hm
  | d :: D, T, h, m, hm => by
    rw [evsBring] at hm
    rcases List.mem_append.mp hm with hm | hm
    · exact good_bring (h d (by simp)).1 (h d (by simp)).2 m hm
    · exact good_brings D _ (fun e he => h e (by simp [he])) m hm
theorem good_rm {ns : List Nat} (h : ∀ n ∈ ns, n < 9223372036854775808) : ∀ m ∈ ns.map evRm, EvGood m := by
  intro m hm
  obtain ⟨n, hn, rfl⟩ := List.mem_map.mp hm
  exact ⟨n, rfl, h n hn, by show (0 : Int) < _; omega, rfl, by show (0 : Nat) < _; omega, by show (1 : Int) ≠ 5; decide⟩
theorem good_tell {ys : List It} (h : ∀ y ∈ ys, y.node < 9223372036854775808) : ∀ m ∈ ys.map evTell, EvGood m := by
  intro m hm
  obtain ⟨y, hy, rfl⟩ := List.mem_map.mp hm
  exact ⟨y.node, rfl, h y hy, by show (0 : Int) < _; omega, with_kids _ _, by show (y.with []).node < _; rw [with_node]; exact h y hy, by show (4 : Int) ≠ 5; decide⟩
theorem good_evs {a b : List It} (ha : Unlike a) (hb : Unlike b) (ba : ∀ k ∈ nodesL a, k < 9223372036854775808) (bb : ∀ k ∈ nodesL b, k < 9223372036854775808) : ∀ m ∈ evsM a b, EvGood m := by
  have u1 : Unlike (T1 a b) := cut_unlike _ ha
  have hpl : ∀ e ∈ plcL (-1) 0 b, e.1.node < 9223372036854775808 ∧ e.2.1 < 9223372036854775808 := fun e he => by
    refine ⟨bb _ (node_inL (plc_mem.2 b (-1) 0 e he)), ?_⟩
    rcases plc_par.2 b (-1) 0 e he with h | ⟨k, hk, h⟩
    · omega
    · have := bb k hk; omega
  have h2 : ∀ n ∈ nodesL (T2 a b), n < 9223372036854775808 := fun n hn => by
    rcases bringAll_sub _ _ n (bring_ok u1 hb) hn with h | ⟨d, hd, e2⟩
    · exact ba n (((cut_sub (badA b)).2 a).subset h)
    · rw [e2]; exact (hpl d hd).1
  intro m hm
  unfold evsM at hm
  rcases List.mem_append.mp hm with hm | hm
  · exact good_rm (fun n hn => ba n ((max_in (badA b)).2 _ n hn)) m hm
  rcases List.mem_append.mp hm with hm | hm
  · exact good_brings _ _ hpl m hm
  rcases List.mem_append.mp hm with hm | hm
  · exact good_rm (fun n hn => h2 n ((max_in (badB b)).2 _ n hn)) m hm
  · exact good_tell (fun y hy => bb _ (node_inL (List.mem_filter.mp hy).1)) m hm
theorem evs_read {w : World} {B : Nat} {v : Value} {ms : List EvM} (h : w.ownsRow B 28 12 v ms.length (evsq ms)) (hg : ∀ m ∈ ms, EvGood m) : EvsAt w (fun g => B ≤ g) v ms := by
  obtain ⟨p, c, rfl, h1, h2⟩ := row_shape h
  refine ⟨p, c, rfl, h1, h2, fun j hj => ?_⟩
  obtain ⟨g, cap, e0, hgB, hgl⟩ := h.form (by omega)
  cases e0
  obtain ⟨n, g1, g2, g3, g4, g5, g6⟩ := hg _ (List.getElem_mem hj)
  have hy : ∀ i, i < 12 → ∀ x, (evq ms[j])[i]? = some x → w.cell? ⟨g, 0 + j * 12 + i, none⟩ = some x := fun i hi x hx => by
    have := World.ownsRow.cells h (g := g) rfl (j * 12 + i) x (by unfold evsq; rw [flat_at evq 12 evq_len _ _ _ hi, List.getElem?_eq_getElem hj]; exact hx)
    rw [add_at] at this
    rw [Nat.add_assoc]
    exact this
  have hn1 : (nodes1 ms[j].item).length = 1 := by rw [nodes1_eq, g4]; simp [nodesL]
  have c1 := hy 1 (by decide) _ rfl
  rw [g1] at c1
  exact ⟨g, 0, n, (ms[j].item.node : Int), .slice none 0 0, rfl, hgB, ⟨g1, g2, g3, fun _ => rfl, fun _ => by omega, ⟨none, 0, by rw [g4]; rfl⟩, fun e => absurd e g6, by omega, fun _ => g5⟩, hy 0 (by decide) _ rfl, c1, hy 2 (by decide) _ rfl, hy 3 (by decide) _ rfl, hy 4 (by decide) _ rfl, hy 5 (by decide) _ rfl, hy 6 (by decide) _ rfl, hy 7 (by decide) _ rfl, hy 8 (by decide) _ rfl, hy 9 (by decide) _ rfl, hy 10 (by decide) _ rfl, hy 11 (by decide) _ rfl⟩

set_option maxHeartbeats 1600000 in
theorem hall_any {w : World} {P : Nat → Prop} {v : Value} {y : It} (h : RdI w P v [y]) (hU : Unlike [y]) (hb : ∀ k ∈ nodesL [y], k < 9223372036854775808) (hz : (nodesL [y]).length ≤ 400000) :
    Calls Try.prog 22 #[v] w fun e w' => ∃ ve, e = .returned ve ∧ EvsAt w' (fun g => w.heap.size ≤ g) ve [evAll y] ∧ Below w.heap.size w w' := by
  have C := htown_any (nodesL [y]).length v [y] w h (Nat.le_refl _) (by omega)
  have HU : Hid (Unlike [y]) := hU
  have HB : Hid (∀ k ∈ nodesL [y], k < 9223372036854775808) := hb
  have HZ : Hid ((nodesL [y]).length ≤ 400000) := hz
  obtain ⟨p, c, rfl⟩ := h.shape
  clear h hU hb hz
  go_enter Try.func22, Try.ntmps22
  go_wp2_with (go_at_call 30; refine C.mono ?_; clear C; rintro e w1 ⟨v1, rfl, hr1, hb1⟩; obtain ⟨p1, c1, rfl, y1, y2, hat⟩ := hr1.at; obtain ⟨b1, o1, kv, rfl, hbb, hA, hK⟩ := hat 0 (by simp); obtain ⟨pk, ck, rfl⟩ := hK.shape; simp only [List.getElem_cons_zero, Nat.zero_mul, Nat.add_zero] at hA hK; obtain ⟨a0, a1, a2, a3, a4, a5, a6, a7⟩ := hA; have HK : Hid (RdI w1 (fun g => w.heap.size ≤ g) (.slice pk y.kids.length ck) y.kids) := hK; have HB1 : Hid (Below w.heap.size w w1) := hb1; clear hat hK hr1 hb1)
  go_ret
  have B2 : Below w1.heap.size w1 (w1.alloc (.cells #[.int .i64 5, .int .i64 0, .int .i64 0, .int .i64 0, .int .i64 (y.node : Int), .int .i64 y.role, .string y.name, .string y.about, .int .i64 y.level, .int .i64 y.checked, .bool y.off, .slice pk y.kids.length ck] 28)) := (Below.refl _ _).alloc (Nat.le_refl _) _
  obtain ⟨d0, d1, d2, d3, d4, d5, d6, d7, d8, d9, d10, d11⟩ := box12_new w1 (.int .i64 5) (.int .i64 0) (.int .i64 0) (.int .i64 0) (.int .i64 (y.node : Int)) (.int .i64 y.role) (.string y.name) (.string y.about) (.int .i64 y.level) (.int .i64 y.checked) (.bool y.off) (.slice pk y.kids.length ck) 28
  refine ⟨_, rfl, ⟨some ⟨w1.heap.size, 0, none⟩, 1, rfl, Nat.le_refl _, by decide, fun j hj => ?_⟩, HB1.out.trans (B2.mono HB1.out.size)⟩
  have : j = 0 := by simpa using hj
  subst this
  exact ⟨w1.heap.size, 0, 0, (y.node : Int), .slice pk y.kids.length ck, rfl, HB1.out.size, ⟨rfl, by omega, (by show (0 : Int) < _; omega), fun _ => rfl, (fun e => by cases e), ⟨pk, ck, rfl⟩, fun _ => ⟨HK.out.under B2, HU.out, HB.out⟩, (by have := HZ.out; rw [nodesL_len1] at this; exact this), (fun e => by cases e)⟩, d0, d1, d2, d3, d4, d5, d6, d7, d8, d9, d10, d11⟩

set_option maxHeartbeats 3200000 in
theorem hOf_any {w : World} {va vb : Value} {a b : List It} (ra : RdI w (fun _ => True) va a) (rb : RdI w (fun _ => True) vb b) (ua : Unlike a) (ub : Unlike b) (ba : ∀ k ∈ nodesL a, k < 9223372036854775808) (bb : ∀ k ∈ nodesL b, k < 9223372036854775808) (hz : Few a b) :
    Calls Try.prog 10 #[va, vb] w fun e w' => ∃ ve, e = .returned ve ∧ EvsAt w' (fun g => w.heap.size ≤ g) ve (ofM a b) ∧ Below w.heap.size w w' := by
  have CS := hsteps_any ra rb ua ub ba bb hz
  have HG : Hid (∀ m ∈ evsM a b, EvGood m) := good_evs ua ub ba bb
  have RB : Hid (RdI w (fun _ => True) vb b) := rb
  have UB : Hid (Unlike b) := ub
  have BB : Hid (∀ k ∈ nodesL b, k < 9223372036854775808) := bb
  have HZ : Hid ((nodesL b).length ≤ 400000) := by show _ ≤ _; have := hz.lb; omega
  obtain ⟨pa, ca, rfl⟩ := ra.shape
  obtain ⟨pb, cb, rfl⟩ := rb.shape
  clear ra rb ua ub ba bb hz
  by_cases h1 : b.length = 1
  · obtain ⟨y, rfl⟩ : ∃ y, b = [y] := List.length_eq_one_iff.mp h1
    have HO : Hid (ofM a [y] = if a.isEmpty = true ∨ 20 < (evsM a [y]).length then [evAll y] else evsM a [y]) := rfl
    have CA : Hid (∀ W, Below w.heap.size w W → Calls Try.prog 22 #[.slice pb 1 cb] W fun e w' => ∃ ve, e = .returned ve ∧ EvsAt w' (fun g => W.heap.size ≤ g) ve [evAll y] ∧ Below W.heap.size W w') := fun W hW => hall_any (RB.out.under hW) UB.out BB.out HZ.out
    simp only [List.length_singleton] at CS
    clear h1
    by_cases h2 : a.length = 0
    · have ha : a = [] := List.length_eq_zero_iff.mp h2
      subst ha
      have E : Hid (ofM [] [y] = [evAll y]) := by show _ = _; rw [HO.out]; simp
      clear HO CS HG h2
      go_enter Try.func10, Try.ntmps10
      go_wp2_with (go_at_call 22; refine (CA.out w (Below.refl _ _)).mono ?_; rintro e w1 ⟨v1, rfl, t1, t2⟩; have T1 : Hid (EvsAt w1 (fun g => w.heap.size ≤ g) v1 [evAll y]) := t1; clear t1)
      go_ret
      rw [E.out]
      exact ⟨_, rfl, T1.out, t2⟩
    · have ha : ((a.length : Int) == 0) = false := by rw [beq_eq_false_iff_ne]; omega
      have ha2 : a.isEmpty = false := by cases a with | nil => simp at h2 | cons x xs => rfl
      by_cases h3 : 20 < (evsM a [y]).length
      · have E : Hid (ofM a [y] = [evAll y]) := by show _ = _; rw [HO.out, if_pos (Or.inr h3)]
        clear HO h2 ha2
        generalize hn : (evsM a [y]).length = n at *
        generalize evsM a [y] = ms at *
        clear hn
        go_enter Try.func10, Try.ntmps10
        go_wp2_with (first
          | (go_at_call 23; refine CS.mono ?_; clear CS; rintro e w1 ⟨v1, rfl, t1, t2⟩; obtain ⟨p1, c1, rfl, _, _⟩ := row_shape t1; clear t1)
          | (go_at_call 22; refine (CA.out _ t2).mono ?_; rintro e w2 ⟨v2, rfl, t3, t4⟩; have T3 : Hid (EvsAt w2 (fun g => w1.heap.size ≤ g) v2 [evAll y]) := t3; clear t3))
        go_ret
        rw [E.out]
        exact ⟨_, rfl, T3.out.frame (fun g hg _ => ⟨rfl, Nat.le_trans t2.size hg⟩), t2.trans (t4.mono t2.size)⟩
      · have E : Hid (ofM a [y] = evsM a [y]) := by show _ = _; rw [HO.out, if_neg (by rw [ha2]; simp; omega)]
        clear HO h2 ha2 CA
        generalize hms : evsM a [y] = ms at *
        clear hms
        go_enter Try.func10, Try.ntmps10
        go_wp2_with (go_at_call 23; refine CS.mono ?_; clear CS; rintro e w1 ⟨v1, rfl, t1, t2⟩; have T1 : Hid (EvsAt w1 (fun g => w.heap.size ≤ g) v1 ms) := evs_read t1 HG.out; obtain ⟨p1, c1, rfl, _, _⟩ := row_shape t1; clear t1)
        go_ret
        rw [E.out]
        exact ⟨_, rfl, T1.out, t2⟩
  · have E : Hid (ofM a b = evsM a b) := by
      show _ = _
      unfold ofM
      split
      · exact absurd rfl h1
      · rfl
    have hb : ((b.length : Int) == 1) = false := by rw [beq_eq_false_iff_ne]; omega
    clear h1
    generalize hms : evsM a b = ms at *
    clear hms
    generalize b.length = nb at *
    by_cases h2 : a.length = 0
    · rw [h2] at CS ⊢
      clear h2
      go_enter Try.func10, Try.ntmps10
      go_wp2_with (go_at_call 23; refine CS.mono ?_; clear CS; rintro e w1 ⟨v1, rfl, t1, t2⟩; have T1 : Hid (EvsAt w1 (fun g => w.heap.size ≤ g) v1 ms) := evs_read t1 HG.out; obtain ⟨p1, c1, rfl, _, _⟩ := row_shape t1; clear t1)
      all_goals (go_ret; rw [E.out]; exact ⟨_, rfl, T1.out, t2⟩)
    · have ha : ((a.length : Int) == 0) = false := by rw [beq_eq_false_iff_ne]; omega
      clear h2
      go_enter Try.func10, Try.ntmps10
      go_wp2_with (go_at_call 23; refine CS.mono ?_; clear CS; rintro e w1 ⟨v1, rfl, t1, t2⟩; have T1 : Hid (EvsAt w1 (fun g => w.heap.size ≤ g) v1 ms) := evs_read t1 HG.out; obtain ⟨p1, c1, rfl, _, _⟩ := row_shape t1; clear t1)
      all_goals (go_ret; rw [E.out]; exact ⟨_, rfl, T1.out, t2⟩)
end Go.Proofs.Ytgpckmolcdafcae

/-
  THE WALK of the reference's Alike, of items that came in.
-/
namespace Go.Proofs.Ytgpckmolcdafcae
open Go.RowKit Go.Maps

theorem HadAt.look2 {w : World} {b : Nat} {acc : List Nat} (h : HadAt w b acc) (k : Nat) (hk : k ≤ 9223372036854775807) : (Instr.lookup 38 (.map (some b)) (.int .i64 (k : Int)) false).run Try.prog w = .ok (.bool (acc.contains k)) w := by
  obtain ⟨D, h1, _, h3⟩ := h
  obtain ⟨v, ps, hrun, hv⟩ := h1.lookup (t := 38) keyI Try.underlying38 (Try.zeroValue4 w) (zd := .lit (.bool false)) (zp := []) rfl (keyOf_int_mk Try.underlying3 (WalkArith.wf_i64 (n := (k : Int)) (by omega)))
  rw [h3 k] at hv
  rw [hrun]
  cases v with
  | bool x =>
    simp only [rb, Option.some.injEq, Prod.mk.injEq] at hv
    have : x = acc.contains k := by simpa using hv.1
    rw [this]
  | _ => cases hv
theorem had_made (w : World) : HadAt (w.alloc (.map #[] 0)) w.heap.size [] := ⟨.map [], World.ownsMap_made w Try.prog 3 rb, (World.ownsMap_made w Try.prog 3 rb).isMap, fun k => by simp [DataW.atKey]⟩
set_option maxRecDepth 100000 in
theorem HadAt.store {w : World} {b : Nat} {acc : List Nat} (h : HadAt w b acc) (hc : acc.length ≤ 1000000000) (k : Nat) (hk : k ≤ 9223372036854775807) :
    ∃ w', (Instr.mapUpdate 38 (.map (some b)) (.int .i64 (k : Int)) (.bool true)).run Try.prog w = .ok () w' ∧ HadAt w' b (acc ++ [k]) ∧ w.grownBy w' (some b) := by
  obtain ⟨D, h1, h2, h3⟩ := h
  obtain ⟨w', hrun, g1, g2⟩ := h1.store (t := 38) (e := 4) keyI Try.underlying38 (by unfold maxLen; omega) (keyOf_int_mk Try.underlying3 (WalkArith.wf_i64 (n := (k : Int)) (by omega))) (val := .bool true) (d := .lit (.bool true)) (ps := []) rfl
  refine ⟨w', hrun, ⟨_, by simpa using g1, g1.isMap, fun j => ?_⟩, g2.grown⟩
  by_cases e : j = k
  · subst e
    rw [atKey_put_same h1.isMap (by trivial)]
    simp
  · have hne : (Lit.int .i64 (j : Int)) ≠ .int .i64 (k : Int) := fun x => e (by injection x with _ x; omega)
    rw [atKey_put_other hne, h3 j]
    simp [e]
theorem nodup_snoc {l : List Int} {n : Int} : (l ++ [n]).Nodup ↔ l.Nodup ∧ n ∉ l := by
  rw [List.nodup_append]
  constructor
  · rintro ⟨h1, _, h3⟩
    exact ⟨h1, fun hm => h3 n hm n (by simp) rfl⟩
  · rintro ⟨h1, h2⟩
    refine ⟨h1, by simp, fun a ha b hb e => h2 ?_⟩
    rw [List.mem_singleton] at hb
    rw [← hb, ← e]
    exact ha

set_option maxHeartbeats 1600000 in
theorem ualike_any {w : World} {P : Nat → Prop} {v : Value} {l : List Iz} (h : IzsAt w P v l) (hN : NodeOk l) (hz : (nodesZ l).length ≤ 500000) (r : Bool) (hr : r = true ↔ AlikeZ l) :
    Calls Try.prog 5 #[v] w fun e w' => e = .returned (.bool r) ∧ Below w.heap.size w w' := by
  have B1 : Below w.heap.size w (w.alloc (.map #[] 0)) := (Below.refl _ _).alloc (Nat.le_refl _) _
  have K1 := had_made w
  have z1 : (w.alloc (.map #[] 0)).heap.size = w.heap.size + 1 := by simp
  have C := unodes_any (nodesZ l).length v l _ (h.under B1) (Nat.le_refl _) hz
  have HR : Hid (r = true ↔ AlikeZ l) := hr
  have HA : Hid (AlikeZ l ↔ (∀ n ∈ nodesZ l, 0 ≤ n) ∧ (nodesZ l).Nodup) := Iff.rfl
  have HN : Hid (∀ n ∈ nodesZ l, -9223372036854775808 ≤ n ∧ n ≤ 9223372036854775807) := hN
  have HZ : Hid ((nodesZ l).length ≤ 500000) := hz
  obtain ⟨p, c, rfl⟩ := h.shape
  clear h hN hz hr
  generalize nodesZ l = L at *
  generalize AlikeZ l = A at *
  generalize l.length = ll at *
  have hmk : ∀ W : World, (Instr.makeMap 38 none).run Try.prog W = .ok (.map (some W.heap.size)) (W.alloc (.map #[] 0)) := fun _ => rfl
  go_enter Try.func5, Try.ntmps5
  go_upto_region 2 with fail
  generalize hW : w.alloc (.map #[] 0) = W at *
  clear hW
  have Z1 : Hid (W.heap.size = w.heap.size + 1) := z1
  clear z1
  go_wp2_with (go_at_call 11; refine C.mono ?_; clear C; rintro e w5 ⟨v5, rfl, ho5, hb5⟩; obtain ⟨p5, c5, e5, i1, i2, i3⟩ := (zs_of_owns ho5).at; subst e5)
  have HB5 : Hid (Below w.heap.size w w5) := B1.trans (hb5.mono B1.size)
  have K5 : Hid (HadAt w5 w.heap.size []) := K1.below hb5
  have T5 : Hid (∀ j (hj : j < L.length), ∃ b o, p5 = some ⟨b, o, none⟩ ∧ w5.cell? ⟨b, o + j, none⟩ = some (.int .i64 L[j]) ∧ b ≠ w.heap.size) := fun j hj => by
    obtain ⟨b, o, e1, e2⟩ := i3 j hj
    refine ⟨b, o, e1, e2, ?_⟩
    have hL := World.ownsRow.lt ho5 b (by rw [e1]; rfl)
    have := Z1.out
    omega
  clear i3 ho5 hb5 B1 K1
  go_loopw [10] (fun iv wr => ∃ (j : Nat) (acc : List Nat), j ≤ L.length ∧ iv = .int .i64 j ∧ Hid (HadAt wr w.heap.size acc) ∧ Hid (L.take j = acc.map (fun n : Nat => (n : Int)) ∧ (L.take j).Nodup) ∧ Hid (Below w.heap.size w wr) ∧ Hid (Bt [w.heap.size] w5 wr)) (fun iv _ => L.length - (intOf iv).toNat)
  case atStart => exact ⟨0, [], Nat.zero_le _, rfl, K5, ⟨rfl, List.nodup_nil⟩, HB5, Bt.refl _ _⟩
  case round =>
    obtain ⟨j, acc, hj, rfl, HK, HL, HBr, HT⟩ := hrel
    by_cases hlt : j < L.length
    · obtain ⟨b, o, rfl, cj0, hne⟩ := T5.out j hlt
      have cj := HT.out.cell cj0 (by simpa using hne)
      have hk := HN.out _ (List.getElem_mem hlt)
      have HE : Hid (L.take (j + 1) = L.take j ++ [L[j]]) := by show _ = _; rw [List.take_succ_eq_append_getElem hlt]
      have HM : Hid (L[j] ∈ L) := List.getElem_mem hlt
      generalize L[j] = k at *
      clear cj0 hne
      by_cases h0 : k < 0
      · have HF : Hid (¬ A) := fun hA => by have := (HA.out.mp hA).1 k HM.out; omega
        clear hk
        go_wp2_with fail
        go_ret
        exact ⟨by rw [show r = false from (Bool.not_eq_true r).mp (fun h => HF.out (HR.out.mp h))]; rfl, HBr.out⟩
      · obtain ⟨kn, rfl⟩ : ∃ n : Nat, k = (n : Int) := ⟨k.toNat, by omega⟩
        have hkn : kn ≤ 9223372036854775807 := by omega
        have hlook := HK.out.look2 kn hkn
        have HC : Hid (acc.contains kn = true ↔ (kn : Int) ∈ L.take j) := by
          show _ ↔ _
          rw [HL.out.1, List.contains_iff_mem, List.mem_map]
          constructor
          · intro h; exact ⟨kn, h, rfl⟩
          · rintro ⟨m, hm, e⟩; rw [show kn = m by omega]; exact hm
        cases hc : acc.contains kn with
        | true =>
          rw [hc] at hlook
          have HF : Hid (¬ A) := fun hA => by
            have h1 := (HA.out.mp hA).2
            have h2 : (L.take (j + 1)).Nodup := (List.take_sublist _ _).nodup h1
            rw [HE.out, nodup_snoc] at h2
            exact h2.2 (HC.out.mp hc)
          clear hk hc
          go_wp2_with fail
          go_ret
          exact ⟨by rw [show r = false from (Bool.not_eq_true r).mp (fun h => HF.out (HR.out.mp h))]; rfl, HBr.out⟩
        | false =>
          rw [hc] at hlook
          have hjl : acc.length ≤ 1000000000 := by
            have := congrArg List.length HL.out.1
            rw [List.length_map, List.length_take] at this
            have := HZ.out
            omega
          obtain ⟨w8, hst, k8, g8⟩ := HK.out.store hjl kn hkn
          have HL2 : Hid (L.take (j + 1) = (acc ++ [kn]).map (fun n : Nat => (n : Int)) ∧ (L.take (j + 1)).Nodup) := by
            constructor
            · rw [HE.out, HL.out.1]; simp
            · rw [HE.out, nodup_snoc]
              exact ⟨HL.out.2, fun hm => by rw [HC.out.mpr hm] at hc; cases hc⟩
          have K8 : Hid (HadAt w8 w.heap.size (acc ++ [kn])) := k8
          have B8 : Hid (Below w.heap.size w w8) := HBr.out.trans ⟨g8.os, g8.tape, g8.output, g8.size, fun k hk => g8.block k (by have := HBr.out.size; omega) (fun e => by have := Option.some.inj e; omega)⟩
          have T8 : Hid (Bt [w.heap.size] w5 w8) := HT.out.grow g8 (List.mem_singleton.mpr rfl)
          clear hk hc k8 g8 hjl
          go_wp2_with fail
          go_roundw
          case rel => exact ⟨j + 1, acc ++ [kn], by omega, by go_num, K8, HL2, B8, T8⟩
          case measure => simp [intOf]; omega
    · obtain rfl : j = L.length := by omega
      rw [List.take_length] at HL
      have HF : Hid A := HA.out.mpr ⟨fun n hn => by
        rw [HL.out.1] at hn
        obtain ⟨m, _, e⟩ := List.mem_map.mp hn
        omega, HL.out.2⟩
      go_wp2_with fail
      go_ret
      exact ⟨by rw [HR.out.mpr HF.out]; rfl, HBr.out⟩
end Go.Proofs.Ytgpckmolcdafcae

/-
  THE WALK of the reference's Same, at items that read the same.
-/
namespace Go.Proofs.Ytgpckmolcdafcae
open Go.RowKit

theorem box_at8 (w : World) (x0 x1 x2 x3 x4 x5 x6 x7 : Value) (t : Nat) (i : Nat) (x : Value) (h : [x0, x1, x2, x3, x4, x5, x6, x7][i]? = some x) : (w.alloc (.cells #[x0, x1, x2, x3, x4, x5, x6, x7] t)).cell? ⟨w.heap.size, i, none⟩ = some x := by
  rw [World.cell?_alloc_new]
  simpa using h

set_option maxHeartbeats 3200000 in
set_option maxRecDepth 100000 in
theorem usame_true {P Q : Nat → Prop} (m : Nat) : ∀ (v1 v2 : Value) (l : List Iz) (w : World), IzsAt w P v1 l → IzsAt w Q v2 l → (nodesZ l).length ≤ m →
    Calls Try.prog 8 #[v1, v2] w fun e w' => e = .returned (.bool true) ∧ Below w.heap.size w w' := by
  induction m with
  | zero =>
    intro v1 v2 l w hr1 hr2 hm
    have hl : l = [] := by
      have := topZ_few l
      exact List.length_eq_zero_iff.mp (by omega)
    subst hl
    obtain ⟨p1, c1, rfl⟩ := hr1.shape
    obtain ⟨p2, c2, rfl⟩ := hr2.shape
    clear hr1 hr2
    go_enter Try.func8, Try.ntmps8
    go_wp2_with fail
    refine wp_loop_rounds 1 ?_
    rw [rounds_succ]
    go_wp2_with fail
    go_ret
    exact ⟨rfl, Below.refl _ _⟩
  | succ m ih =>
    intro v1 v2 l w hr1 hr2 hm
    obtain ⟨p1, c1, rfl, y1, y2, hat1⟩ := hr1.at
    obtain ⟨p2, c2, rfl, z1, z2, hat2⟩ := hr2.at
    have T1 : Hid (∀ j (hj : j < l.length), ∃ b o kv, p1 = some ⟨b, o, none⟩ ∧ P b ∧ IzAt w b (o + j * 8) l[j] kv ∧ IzsAt w P kv l[j].kids) := hat1
    have T2 : Hid (∀ j (hj : j < l.length), ∃ b o kv, p2 = some ⟨b, o, none⟩ ∧ Q b ∧ IzAt w b (o + j * 8) l[j] kv ∧ IzsAt w Q kv l[j].kids) := hat2
    have ZM : Hid (∀ j (hj : j < l.length), (nodesZ l[j].kids).length ≤ m) := fun j hj => by have := nodesZ_lt l j hj; omega
    clear hr1 hr2 hat1 hat2 hm
    go_enter Try.func8, Try.ntmps8
    go_wp2_with fail
    go_loopw [15] (fun i wr => ∃ j : Nat, j ≤ l.length ∧ i = .int .i64 j ∧ Below w.heap.size w wr) (fun i _ => l.length - (intOf i).toNat)
    case atStart => exact ⟨0, Nat.zero_le _, rfl, Below.refl _ _⟩
    case round =>
      obtain ⟨j, hj, rfl, hnx⟩ := hrel
      have hbz := hnx.size
      by_cases hlt : j < l.length
      · obtain ⟨b1, o1, kv1, rfl, _, hc1, hrow1⟩ := T1.out j hlt
        obtain ⟨b2, o2, kv2, rfl, _, hc2, hrow2⟩ := T2.out j hlt
        have KB : Keeps w wr := keeps_below hnx (Nat.le_refl _)
        have e0 := KB _ _ hc1.c0
        have e1 := KB _ _ hc1.c1
        have e2 := KB _ _ hc1.c2
        have e3 := KB _ _ hc1.c3
        have e4 := KB _ _ hc1.c4
        have e5 := KB _ _ hc1.c5
        have e6 := KB _ _ hc1.c6
        have e7 := KB _ _ hc1.c7
        have g0 := KB _ _ hc2.c0
        have g1 := KB _ _ hc2.c1
        have g2 := KB _ _ hc2.c2
        have g3 := KB _ _ hc2.c3
        have g4 := KB _ _ hc2.c4
        have g5 := KB _ _ hc2.c5
        have g6 := KB _ _ hc2.c6
        have g7 := KB _ _ hc2.c7
        have ZJ : (nodesZ l[j].kids).length ≤ m := ZM.out j hlt
        obtain ⟨pk1, ck1, rfl⟩ := hrow1.shape
        obtain ⟨pk2, ck2, rfl⟩ := hrow2.shape
        have CCc : ∀ W, Below w.heap.size w W → Calls Try.prog 8 #[.slice pk1 l[j].kids.length ck1, .slice pk2 l[j].kids.length ck2] W fun e w' => e = .returned (.bool true) ∧ Below W.heap.size W w' := fun W hW => ih _ _ l[j].kids W (hrow1.under hW) (hrow2.under hW) ZJ
        clear hc1 hc2 hrow1 hrow2 KB ZJ ih
        generalize l[j].kids = ks at *
        generalize l[j].node = x0 at *
        generalize l[j].role = x1 at *
        generalize l[j].name = x2 at *
        generalize l[j].about = x3 at *
        generalize l[j].level = x4 at *
        generalize l[j].checked = x5 at *
        generalize l[j].off = x6 at *
        have q02 : (x2.toList == x2.toList) = true := by simp
        have q03 : (x3.toList == x3.toList) = true := by simp
        go_wp2_with fail
        have SS : ∀ w'', Keeps wr w'' → (fun w'' => w''.cell? ⟨b1, o1 + j * 8, none⟩ = some (.int .i64 x0) ∧ w''.cell? ⟨b1, o1 + j * 8 + 1, none⟩ = some (.int .i64 x1) ∧ w''.cell? ⟨b1, o1 + j * 8 + 2, none⟩ = some (.string x2) ∧ w''.cell? ⟨b1, o1 + j * 8 + 3, none⟩ = some (.string x3) ∧ w''.cell? ⟨b1, o1 + j * 8 + 4, none⟩ = some (.int .i64 x4) ∧ w''.cell? ⟨b1, o1 + j * 8 + 5, none⟩ = some (.int .i64 x5) ∧ w''.cell? ⟨b1, o1 + j * 8 + 6, none⟩ = some (.bool x6) ∧ w''.cell? ⟨b1, o1 + j * 8 + 7, none⟩ = some (.slice pk1 ks.length ck1) ∧ w''.cell? ⟨b2, o2 + j * 8, none⟩ = some (.int .i64 x0) ∧ w''.cell? ⟨b2, o2 + j * 8 + 1, none⟩ = some (.int .i64 x1) ∧ w''.cell? ⟨b2, o2 + j * 8 + 2, none⟩ = some (.string x2) ∧ w''.cell? ⟨b2, o2 + j * 8 + 3, none⟩ = some (.string x3) ∧ w''.cell? ⟨b2, o2 + j * 8 + 4, none⟩ = some (.int .i64 x4) ∧ w''.cell? ⟨b2, o2 + j * 8 + 5, none⟩ = some (.int .i64 x5) ∧ w''.cell? ⟨b2, o2 + j * 8 + 6, none⟩ = some (.bool x6) ∧ w''.cell? ⟨b2, o2 + j * 8 + 7, none⟩ = some (.slice pk2 ks.length ck2)) w'' := fun w'' hk => ⟨hk _ _ e0, hk _ _ e1, hk _ _ e2, hk _ _ e3, hk _ _ e4, hk _ _ e5, hk _ _ e6, hk _ _ e7, hk _ _ g0, hk _ _ g1, hk _ _ g2, hk _ _ g3, hk _ _ g4, hk _ _ g5, hk _ _ g6, hk _ _ g7⟩
        go_region_held3 (fun w'' => w''.cell? ⟨b1, o1 + j * 8, none⟩ = some (.int .i64 x0) ∧ w''.cell? ⟨b1, o1 + j * 8 + 1, none⟩ = some (.int .i64 x1) ∧ w''.cell? ⟨b1, o1 + j * 8 + 2, none⟩ = some (.string x2) ∧ w''.cell? ⟨b1, o1 + j * 8 + 3, none⟩ = some (.string x3) ∧ w''.cell? ⟨b1, o1 + j * 8 + 4, none⟩ = some (.int .i64 x4) ∧ w''.cell? ⟨b1, o1 + j * 8 + 5, none⟩ = some (.int .i64 x5) ∧ w''.cell? ⟨b1, o1 + j * 8 + 6, none⟩ = some (.bool x6) ∧ w''.cell? ⟨b1, o1 + j * 8 + 7, none⟩ = some (.slice pk1 ks.length ck1) ∧ w''.cell? ⟨b2, o2 + j * 8, none⟩ = some (.int .i64 x0) ∧ w''.cell? ⟨b2, o2 + j * 8 + 1, none⟩ = some (.int .i64 x1) ∧ w''.cell? ⟨b2, o2 + j * 8 + 2, none⟩ = some (.string x2) ∧ w''.cell? ⟨b2, o2 + j * 8 + 3, none⟩ = some (.string x3) ∧ w''.cell? ⟨b2, o2 + j * 8 + 4, none⟩ = some (.int .i64 x4) ∧ w''.cell? ⟨b2, o2 + j * 8 + 5, none⟩ = some (.int .i64 x5) ∧ w''.cell? ⟨b2, o2 + j * 8 + 6, none⟩ = some (.bool x6) ∧ w''.cell? ⟨b2, o2 + j * 8 + 7, none⟩ = some (.slice pk2 ks.length ck2))
          ((apply SS; repeat (first | exact Keeps.refl _ | apply keeps_drew | apply keeps_alloc')))
          (fail)
        · have hA : ∀ i x, [.int .i64 x0, .int .i64 x1, .string x2, .string x3, .int .i64 x4, .int .i64 x5, .bool x6, .slice pk1 ks.length ck1][i]? = some x → ((wr.alloc (.cells #[.int .i64 x0, .int .i64 x1, .string x2, .string x3, .int .i64 x4, .int .i64 x5, .bool x6, .slice pk1 ks.length ck1] 26)).alloc (.cells #[.int .i64 x0, .int .i64 x1, .string x2, .string x3, .int .i64 x4, .int .i64 x5, .bool x6, .slice pk2 ks.length ck2] 26)).drew.cell? ⟨wr.heap.size, i, none⟩ = some x := fun i x hx => keeps_drew (keeps_alloc _ _) _ _ (box_at8 wr _ _ _ _ _ _ _ _ 26 i x hx)
          have hB : ∀ i x, [.int .i64 x0, .int .i64 x1, .string x2, .string x3, .int .i64 x4, .int .i64 x5, .bool x6, .slice pk2 ks.length ck2][i]? = some x → ((wr.alloc (.cells #[.int .i64 x0, .int .i64 x1, .string x2, .string x3, .int .i64 x4, .int .i64 x5, .bool x6, .slice pk1 ks.length ck1] 26)).alloc (.cells #[.int .i64 x0, .int .i64 x1, .string x2, .string x3, .int .i64 x4, .int .i64 x5, .bool x6, .slice pk2 ks.length ck2] 26)).drew.cell? ⟨wr.heap.size + 1, i, none⟩ = some x := fun i x hx => by
            have h := box_at8 (wr.alloc (.cells #[.int .i64 x0, .int .i64 x1, .string x2, .string x3, .int .i64 x4, .int .i64 x5, .bool x6, .slice pk1 ks.length ck1] 26)) (.int .i64 x0) (.int .i64 x1) (.string x2) (.string x3) (.int .i64 x4) (.int .i64 x5) (.bool x6) (.slice pk2 ks.length ck2) 26 i x hx
            rw [show (wr.alloc (.cells #[.int .i64 x0, .int .i64 x1, .string x2, .string x3, .int .i64 x4, .int .i64 x5, .bool x6, .slice pk1 ks.length ck1] 26)).heap.size = wr.heap.size + 1 by simp] at h
            exact keeps_drew (Keeps.refl _) _ _ h
          have BQ : Below w.heap.size w ((wr.alloc (.cells #[.int .i64 x0, .int .i64 x1, .string x2, .string x3, .int .i64 x4, .int .i64 x5, .bool x6, .slice pk1 ks.length ck1] 26)).alloc (.cells #[.int .i64 x0, .int .i64 x1, .string x2, .string x3, .int .i64 x4, .int .i64 x5, .bool x6, .slice pk2 ks.length ck2] 26)).drew := ((hnx.alloc hbz _).alloc (by simp; omega) _).drew
          generalize ((wr.alloc (.cells #[.int .i64 x0, .int .i64 x1, .string x2, .string x3, .int .i64 x4, .int .i64 x5, .bool x6, .slice pk1 ks.length ck1] 26)).alloc (.cells #[.int .i64 x0, .int .i64 x1, .string x2, .string x3, .int .i64 x4, .int .i64 x5, .bool x6, .slice pk2 ks.length ck2] 26)).drew = W at hA hB BQ ⊢
          have q0 := hA 0 _ rfl
          have q1 := hA 1 _ rfl
          have q2 := hA 2 _ rfl
          have q3 := hA 3 _ rfl
          have q4 := hA 4 _ rfl
          have q5 := hA 5 _ rfl
          have q6 := hA 6 _ rfl
          have q7 := hA 7 _ rfl
          have r0 := hB 0 _ rfl
          have r1 := hB 1 _ rfl
          have r2 := hB 2 _ rfl
          have r3 := hB 3 _ rfl
          have r4 := hB 4 _ rfl
          have r5 := hB 5 _ rfl
          have r6 := hB 6 _ rfl
          have r7 := hB 7 _ rfl
          clear hA hB e0 e1 e2 e3 e4 e5 e6 e7 g0 g1 g2 g3 g4 g5 g6 g7 SS
          generalize wr.heap.size + 1 = Y at *
          generalize wr.heap.size = X at *
          have CC := CCc W BQ
          clear CCc hnx
          go_wp2_with (go_at_call 8; refine CC.mono ?_; clear CC; rintro e w5 ⟨rfl, hb5⟩)
          go_roundw
          case rel => exact ⟨j + 1, by omega, by go_num, BQ.trans (hb5.mono BQ.size)⟩
          case measure => simp [intOf]; omega
        · have hA : ∀ i x, [.int .i64 x0, .int .i64 x1, .string x2, .string x3, .int .i64 x4, .int .i64 x5, .bool x6, .slice pk2 ks.length ck2][i]? = some x → ((wr.alloc (.cells #[.int .i64 x0, .int .i64 x1, .string x2, .string x3, .int .i64 x4, .int .i64 x5, .bool x6, .slice pk2 ks.length ck2] 26)).alloc (.cells #[.int .i64 x0, .int .i64 x1, .string x2, .string x3, .int .i64 x4, .int .i64 x5, .bool x6, .slice pk1 ks.length ck1] 26)).drew.cell? ⟨wr.heap.size, i, none⟩ = some x := fun i x hx => keeps_drew (keeps_alloc _ _) _ _ (box_at8 wr _ _ _ _ _ _ _ _ 26 i x hx)
          have hB : ∀ i x, [.int .i64 x0, .int .i64 x1, .string x2, .string x3, .int .i64 x4, .int .i64 x5, .bool x6, .slice pk1 ks.length ck1][i]? = some x → ((wr.alloc (.cells #[.int .i64 x0, .int .i64 x1, .string x2, .string x3, .int .i64 x4, .int .i64 x5, .bool x6, .slice pk2 ks.length ck2] 26)).alloc (.cells #[.int .i64 x0, .int .i64 x1, .string x2, .string x3, .int .i64 x4, .int .i64 x5, .bool x6, .slice pk1 ks.length ck1] 26)).drew.cell? ⟨wr.heap.size + 1, i, none⟩ = some x := fun i x hx => by
            have h := box_at8 (wr.alloc (.cells #[.int .i64 x0, .int .i64 x1, .string x2, .string x3, .int .i64 x4, .int .i64 x5, .bool x6, .slice pk2 ks.length ck2] 26)) (.int .i64 x0) (.int .i64 x1) (.string x2) (.string x3) (.int .i64 x4) (.int .i64 x5) (.bool x6) (.slice pk1 ks.length ck1) 26 i x hx
            rw [show (wr.alloc (.cells #[.int .i64 x0, .int .i64 x1, .string x2, .string x3, .int .i64 x4, .int .i64 x5, .bool x6, .slice pk2 ks.length ck2] 26)).heap.size = wr.heap.size + 1 by simp] at h
            exact keeps_drew (Keeps.refl _) _ _ h
          have BQ : Below w.heap.size w ((wr.alloc (.cells #[.int .i64 x0, .int .i64 x1, .string x2, .string x3, .int .i64 x4, .int .i64 x5, .bool x6, .slice pk2 ks.length ck2] 26)).alloc (.cells #[.int .i64 x0, .int .i64 x1, .string x2, .string x3, .int .i64 x4, .int .i64 x5, .bool x6, .slice pk1 ks.length ck1] 26)).drew := ((hnx.alloc hbz _).alloc (by simp; omega) _).drew
          generalize ((wr.alloc (.cells #[.int .i64 x0, .int .i64 x1, .string x2, .string x3, .int .i64 x4, .int .i64 x5, .bool x6, .slice pk2 ks.length ck2] 26)).alloc (.cells #[.int .i64 x0, .int .i64 x1, .string x2, .string x3, .int .i64 x4, .int .i64 x5, .bool x6, .slice pk1 ks.length ck1] 26)).drew = W at hA hB BQ ⊢
          have r0 := hA 0 _ rfl
          have r1 := hA 1 _ rfl
          have r2 := hA 2 _ rfl
          have r3 := hA 3 _ rfl
          have r4 := hA 4 _ rfl
          have r5 := hA 5 _ rfl
          have r6 := hA 6 _ rfl
          have r7 := hA 7 _ rfl
          have q0 := hB 0 _ rfl
          have q1 := hB 1 _ rfl
          have q2 := hB 2 _ rfl
          have q3 := hB 3 _ rfl
          have q4 := hB 4 _ rfl
          have q5 := hB 5 _ rfl
          have q6 := hB 6 _ rfl
          have q7 := hB 7 _ rfl
          clear hA hB e0 e1 e2 e3 e4 e5 e6 e7 g0 g1 g2 g3 g4 g5 g6 g7 SS
          generalize wr.heap.size + 1 = X at *
          generalize wr.heap.size = Y at *
          have CC := CCc W BQ
          clear CCc hnx
          go_wp2_with (go_at_call 8; refine CC.mono ?_; clear CC; rintro e w5 ⟨rfl, hb5⟩)
          go_roundw
          case rel => exact ⟨j + 1, by omega, by go_num, BQ.trans (hb5.mono BQ.size)⟩
          case measure => simp [intOf]; omega
      · obtain rfl : j = l.length := by omega
        go_wp2_with fail
        go_ret
        exact ⟨rfl, hnx⟩
end Go.Proofs.Ytgpckmolcdafcae

/-
  THE WALK of tnlaw9's alive.
-/
namespace Go.Proofs.Ytgpckmolcdafcae
open Go.RowKit Go.Maps

/-- two items in a block by themselves -/
theorem rd_two {w : World} {P : Nat → Prop} {N : Nat} {y z : It} {ky kz : Value} (hP : P N) (hy : RdI w P ky y.kids) (hz : RdI w P kz z.kids) (h1 : ItAt w N 0 y ky) (h2 : ItAt w N 8 z kz) : RdI w P (.slice (some ⟨N, 0, none⟩) 2 2) [y, z] := by
  unfold RdI
  have e : ofIts [y, z] = [ofIt y, ofIt z] := rfl
  rw [e]
  refine .mk (some ⟨N, 0, none⟩) 2 [ofIt y, ofIt z] [ky, kz] rfl (Nat.le_refl _) (by decide) (fun j hj hj' => ?_) (fun j hj hj' => ?_)
  · have hj : j < 2 := hj
    rcases Nat.lt_or_ge j 1 with h | h
    · have : j = 0 := by omega
      subst this
      exact ⟨N, 0, rfl, hP, h1.any⟩
    · have : j = 1 := by omega
      subst this
      exact ⟨N, 0, rfl, hP, h2.any⟩
  · have hj : j < 2 := hj
    rcases Nat.lt_or_ge j 1 with h | h
    · have : j = 0 := by omega
      subst this
      show IzsAt w P ky (ofIt y).kids
      rw [ofIt_kids]
      exact hy
    · have : j = 1 := by omega
      subst this
      show IzsAt w P kz (ofIt z).kids
      rw [ofIt_kids]
      exact hz

theorem evs_len {a b : List It} (ha : Unlike a) (hb : Unlike b) : (evsM a b).length ≤ 2 * ((nodesL a).length + (nodesL b).length) := by
  unfold evsM
  simp only [List.length_append, List.length_map]
  have l1 := (max_len (badA b)).2 a
  have l2 := evsBring_len (plcL (-1) 0 b) (T1 a b)
  rw [plc_len] at l2
  have l3 := max_T2 ha hb
  have l4 : (toTell (T3 a b) b).length ≤ (nodesL b).length := by
    unfold toTell
    have := List.length_filter_le (fun y : It => decide (saysAt (T3 a b) y.node ≠ some y.says)) (itemL b)
    rw [nodesL_items, List.length_map]
    exact this
  omega
theorem of_len {a b : List It} (ha : Unlike a) (hb : Unlike b) : (ofM a b).length ≤ 2 * ((nodesL a).length + (nodesL b).length) + 1 := by
  have := evs_len ha hb
  unfold ofM
  split
  · split
    · simp
    · omega
  · omega
theorem of_items {a b : List It} (ha : Unlike a) (hb : Unlike b) (ba : ∀ k ∈ nodesL a, k < 9223372036854775808) (bb : ∀ k ∈ nodesL b, k < 9223372036854775808) : ∀ m ∈ ofM a b, (nodes1 m.item).length ≤ (nodesL b).length + 1 := by
  have hg := good_evs ha hb ba bb
  have h1 : ∀ m ∈ evsM a b, (nodes1 m.item).length ≤ (nodesL b).length + 1 := fun m hm => by
    obtain ⟨n, _, _, _, h4, _⟩ := hg m hm
    rw [nodes1_eq, h4]
    simp [nodesL]
  intro m hm
  unfold ofM at hm
  split at hm
  · split at hm
    · rw [List.mem_singleton] at hm
      subst hm
      rw [nodesL_len1]
      show (nodes1 _).length ≤ _
      exact Nat.le_succ _
    · exact h1 m hm
  · exact h1 m hm

/-- the two forests of alive -/
def itp (n : Nat) (r : Int) (nm : ByteArray) (ks : List It) : It := .mk n r nm ⟨#[]⟩ 0 0 false ks
def al9 : List It := [itp 0 2 ⟨#[]⟩ [itp 1 8 ⟨#[]⟩ []]]
def bl9 : List It := [itp 0 2 ⟨#[]⟩ [itp 2 8 ⟨#[]⟩ [], itp 1 8 ⟨#[120]⟩ []]]
theorem al9_un : Unlike al9 := by unfold Unlike; decide +kernel
theorem bl9_un : Unlike bl9 := by unfold Unlike; decide +kernel
theorem of9_len : (ofM al9 bl9).length = 2 := by decide +kernel
theorem al9_b : ∀ k ∈ nodesL al9, k < 9223372036854775808 := by decide +kernel
theorem bl9_b : ∀ k ∈ nodesL bl9, k < 9223372036854775808 := by decide +kernel

/-- what lies where alive begins -/
theorem alive_world (w : World) : ∃ W, ((((w.alloc (.cells #[.int .i64 1, .int .i64 8, .string ⟨#[]⟩, .string ⟨#[]⟩, .int .i64 0, .int .i64 0, .bool false, .slice none 0 0] 26)).alloc (.cells #[.int .i64 0, .int .i64 2, .string ⟨#[]⟩, .string ⟨#[]⟩, .int .i64 0, .int .i64 0, .bool false, .slice (some ⟨w.heap.size, 0, none⟩) 1 1] 26)).alloc (.cells #[.int .i64 2, .int .i64 8, .string ⟨#[]⟩, .string ⟨#[]⟩, .int .i64 0, .int .i64 0, .bool false, .slice none 0 0, .int .i64 1, .int .i64 8, .string ⟨#[120]⟩, .string ⟨#[]⟩, .int .i64 0, .int .i64 0, .bool false, .slice none 0 0] 26)).alloc (.cells #[.int .i64 0, .int .i64 2, .string ⟨#[]⟩, .string ⟨#[]⟩, .int .i64 0, .int .i64 0, .bool false, .slice (some ⟨w.heap.size + 1 + 1, 0, none⟩) 2 2] 26)) = W ∧
    RdI W (fun _ => True) (.slice (some ⟨w.heap.size + 1, 0, none⟩) 1 1) al9 ∧ RdI W (fun _ => True) (.slice (some ⟨w.heap.size + 1 + 1 + 1, 0, none⟩) 1 1) bl9 ∧ Below w.heap.size w W := by
  refine ⟨_, rfl, ?_⟩
  have B1 : Below w.heap.size w (w.alloc (.cells #[.int .i64 1, .int .i64 8, .string ⟨#[]⟩, .string ⟨#[]⟩, .int .i64 0, .int .i64 0, .bool false, .slice none 0 0] 26)) := (Below.refl _ _).alloc (Nat.le_refl _) _
  have z1 : (w.alloc (.cells #[.int .i64 1, .int .i64 8, .string ⟨#[]⟩, .string ⟨#[]⟩, .int .i64 0, .int .i64 0, .bool false, .slice none 0 0] 26)).heap.size = w.heap.size + 1 := by simp
  have X1 := box8_new w (.int .i64 1) (.int .i64 8) (.string ⟨#[]⟩) (.string ⟨#[]⟩) (.int .i64 0) (.int .i64 0) (.bool false) (.slice none 0 0) 26
  generalize w.alloc (.cells #[.int .i64 1, .int .i64 8, .string ⟨#[]⟩, .string ⟨#[]⟩, .int .i64 0, .int .i64 0, .bool false, .slice none 0 0] 26) = w1 at *
  have B2 : Below w1.heap.size w1 (w1.alloc (.cells #[.int .i64 0, .int .i64 2, .string ⟨#[]⟩, .string ⟨#[]⟩, .int .i64 0, .int .i64 0, .bool false, .slice (some ⟨w.heap.size, 0, none⟩) 1 1] 26)) := (Below.refl _ _).alloc (Nat.le_refl _) _
  have z2 : (w1.alloc (.cells #[.int .i64 0, .int .i64 2, .string ⟨#[]⟩, .string ⟨#[]⟩, .int .i64 0, .int .i64 0, .bool false, .slice (some ⟨w.heap.size, 0, none⟩) 1 1] 26)).heap.size = w1.heap.size + 1 := by simp
  have X2 := box8_new w1 (.int .i64 0) (.int .i64 2) (.string ⟨#[]⟩) (.string ⟨#[]⟩) (.int .i64 0) (.int .i64 0) (.bool false) (.slice (some ⟨w.heap.size, 0, none⟩) 1 1) 26
  generalize w1.alloc (.cells #[.int .i64 0, .int .i64 2, .string ⟨#[]⟩, .string ⟨#[]⟩, .int .i64 0, .int .i64 0, .bool false, .slice (some ⟨w.heap.size, 0, none⟩) 1 1] 26) = w2 at *
  have B3 : Below w2.heap.size w2 (w2.alloc (.cells #[.int .i64 2, .int .i64 8, .string ⟨#[]⟩, .string ⟨#[]⟩, .int .i64 0, .int .i64 0, .bool false, .slice none 0 0, .int .i64 1, .int .i64 8, .string ⟨#[120]⟩, .string ⟨#[]⟩, .int .i64 0, .int .i64 0, .bool false, .slice none 0 0] 26)) := (Below.refl _ _).alloc (Nat.le_refl _) _
  have z3 : (w2.alloc (.cells #[.int .i64 2, .int .i64 8, .string ⟨#[]⟩, .string ⟨#[]⟩, .int .i64 0, .int .i64 0, .bool false, .slice none 0 0, .int .i64 1, .int .i64 8, .string ⟨#[120]⟩, .string ⟨#[]⟩, .int .i64 0, .int .i64 0, .bool false, .slice none 0 0] 26)).heap.size = w2.heap.size + 1 := by simp
  have X3 : ItAt (w2.alloc (.cells #[.int .i64 2, .int .i64 8, .string ⟨#[]⟩, .string ⟨#[]⟩, .int .i64 0, .int .i64 0, .bool false, .slice none 0 0, .int .i64 1, .int .i64 8, .string ⟨#[120]⟩, .string ⟨#[]⟩, .int .i64 0, .int .i64 0, .bool false, .slice none 0 0] 26)) w2.heap.size 0 (itp 2 8 ⟨#[]⟩ []) (.slice none 0 0) := by
    refine ⟨?_, ?_, ?_, ?_, ?_, ?_, ?_, ?_⟩ <;> rw [World.cell?_alloc_new] <;> simp [itp, It.node, It.role, It.name, It.about, It.level, It.checked, It.off]
  have X4 : ItAt (w2.alloc (.cells #[.int .i64 2, .int .i64 8, .string ⟨#[]⟩, .string ⟨#[]⟩, .int .i64 0, .int .i64 0, .bool false, .slice none 0 0, .int .i64 1, .int .i64 8, .string ⟨#[120]⟩, .string ⟨#[]⟩, .int .i64 0, .int .i64 0, .bool false, .slice none 0 0] 26)) w2.heap.size 8 (itp 1 8 ⟨#[120]⟩ []) (.slice none 0 0) := by
    refine ⟨?_, ?_, ?_, ?_, ?_, ?_, ?_, ?_⟩ <;> rw [World.cell?_alloc_new] <;> simp [itp, It.node, It.role, It.name, It.about, It.level, It.checked, It.off]
  generalize w2.alloc (.cells #[.int .i64 2, .int .i64 8, .string ⟨#[]⟩, .string ⟨#[]⟩, .int .i64 0, .int .i64 0, .bool false, .slice none 0 0, .int .i64 1, .int .i64 8, .string ⟨#[120]⟩, .string ⟨#[]⟩, .int .i64 0, .int .i64 0, .bool false, .slice none 0 0] 26) = w3 at *
  have B4 : Below w3.heap.size w3 (w3.alloc (.cells #[.int .i64 0, .int .i64 2, .string ⟨#[]⟩, .string ⟨#[]⟩, .int .i64 0, .int .i64 0, .bool false, .slice (some ⟨w.heap.size + 1 + 1, 0, none⟩) 2 2] 26)) := (Below.refl _ _).alloc (Nat.le_refl _) _
  have X5 := box8_new w3 (.int .i64 0) (.int .i64 2) (.string ⟨#[]⟩) (.string ⟨#[]⟩) (.int .i64 0) (.int .i64 0) (.bool false) (.slice (some ⟨w.heap.size + 1 + 1, 0, none⟩) 2 2) 26
  generalize w3.alloc (.cells #[.int .i64 0, .int .i64 2, .string ⟨#[]⟩, .string ⟨#[]⟩, .int .i64 0, .int .i64 0, .bool false, .slice (some ⟨w.heap.size + 1 + 1, 0, none⟩) 2 2] 26) = w4 at *
  have B34 : Below w2.heap.size w2 w4 := B3.trans (B4.mono B3.size)
  have B24 : Below w1.heap.size w1 w4 := B2.trans (B34.mono B2.size)
  have k1 := X1.keeps (fun i v => keeps_below B24 (Nat.le_refl _) _ _)
  have k2 := X2.keeps (fun i v => keeps_below B34 (Nat.le_refl _) _ _)
  have k3 := X3.keeps (keeps_below B4 (Nat.le_refl _))
  have k4 := X4.keeps (keeps_below B4 (Nat.le_refl _))
  rw [z1] at k2
  rw [z2, z1] at k3 k4
  rw [z3, z2, z1] at X5
  have r1 : RdI w4 (fun _ => True) (.slice (some ⟨w.heap.size, 0, none⟩) 1 1) [itp 1 8 ⟨#[]⟩ []] := rd_one (kv := .slice none 0 0) trivial (RdI.nil _ _) ⟨k1.1, k1.2.1, k1.2.2.1, k1.2.2.2.1, k1.2.2.2.2.1, k1.2.2.2.2.2.1, k1.2.2.2.2.2.2.1, k1.2.2.2.2.2.2.2⟩
  have r3 : RdI w4 (fun _ => True) (.slice (some ⟨w.heap.size + 1 + 1, 0, none⟩) 2 2) [itp 2 8 ⟨#[]⟩ [], itp 1 8 ⟨#[120]⟩ []] := rd_two trivial (RdI.nil _ _) (RdI.nil _ _) k3 k4
  exact ⟨rd_one (y := itp 0 2 ⟨#[]⟩ [itp 1 8 ⟨#[]⟩ []]) trivial r1 ⟨k2.1, k2.2.1, k2.2.2.1, k2.2.2.2.1, k2.2.2.2.2.1, k2.2.2.2.2.2.1, k2.2.2.2.2.2.2.1, k2.2.2.2.2.2.2.2⟩, rd_one (y := itp 0 2 ⟨#[]⟩ [itp 2 8 ⟨#[]⟩ [], itp 1 8 ⟨#[120]⟩ []]) trivial r3 ⟨X5.1, X5.2.1, X5.2.2.1, X5.2.2.2.1, X5.2.2.2.2.1, X5.2.2.2.2.2.1, X5.2.2.2.2.2.2.1, X5.2.2.2.2.2.2.2⟩, B1.trans (B24.mono B1.size)⟩

set_option maxHeartbeats 1600000 in
set_option maxRecDepth 100000 in
theorem alive9_any (w : World) : Calls Try.prog 9 #[] w fun e w' => e = .returned (.bool true) ∧ Below w.heap.size w w' := by
  obtain ⟨W, hW, ra, rb, hB⟩ := alive_world w
  have CO := hOf_any ra rb al9_un bl9_un al9_b bl9_b (few_sum al9_un bl9_un (by decide +kernel))
  have CA : Hid (∀ W' ve, Below W.heap.size W W' → EvsAt W' (fun g => W.heap.size ≤ g) ve (ofM al9 bl9) → Calls Try.prog 6 #[.slice (some ⟨w.heap.size + 1, 0, none⟩) 1 1, ve] W' fun e w' => Applied (.ok bl9) e w' W'.heap.size ∧ Below W'.heap.size W' w') := fun W' ve h1 h2 => by
    have := happly_any (ra.under h1) al9_un al9_b (by decide +kernel) (h2.frame (Q := fun _ => True) (fun g _ _ => ⟨rfl, trivial⟩)) (by rw [of9_len]; decide) (fun m hm => Nat.le_trans (of_items al9_un bl9_un al9_b bl9_b m hm) (by decide +kernel))
    rw [run_of al9_un bl9_un] at this
    exact this
  have CS : Hid (∀ W' v, Below W.heap.size W W' → (∃ B, OwnT W' B v bl9) → Calls Try.prog 8 #[v, .slice (some ⟨w.heap.size + 1 + 1 + 1, 0, none⟩) 1 1] W' fun e w' => e = .returned (.bool true) ∧ Below W'.heap.size W' w') := fun W' v h1 h2 => by
    obtain ⟨B, h2⟩ := h2
    exact usame_true _ v _ (ofIts bl9) W' h2.row.whatever (rb.under h1) (Nat.le_refl _)
  have HB : Hid (Below w.heap.size w W) := hB
  have HW : Hid (_ = W) := hW
  have HL : Hid ((ofM al9 bl9).length = 2) := of9_len
  clear ra rb hB hW
  go_enter Try.func9, Try.ntmps9
  go_upto_region 3 with fail
  rw [HW.out]
  clear HW
  generalize ofM al9 bl9 = ms at *
  go_upto_region 4 with (go_at_call 10; refine CO.mono ?_; clear CO; rintro e w1 ⟨v1, rfl, t1, t2⟩; have T1 : Hid (EvsAt w1 (fun g => W.heap.size ≤ g) v1 ms) := t1; have T2 : Hid (Below W.heap.size W w1) := t2; have CA1 := CA.out w1 v1 t2 t1; obtain ⟨p1, c1, e1, _⟩ := t1; rw [HL.out] at e1; subst e1; clear t2)
  go_upto_region 5 with (go_at_call 6; refine CA1.mono ?_; clear CA1 CA; rintro e w2 ⟨⟨v2, rfl, t1⟩, t2⟩; have A1 : Hid (OwnT w2 w1.heap.size v2 bl9) := t1; have A2 : Hid (Below w1.heap.size w1 w2) := t2; obtain ⟨p2, c2, rfl⟩ := t1.shape; clear t1 t2)
  have B3 : Below w2.heap.size w2 (w2.alloc (.cells #[.int .i64 0, .int .i64 0] 31)) := (Below.refl _ _).alloc (Nat.le_refl _) _
  have q3 := box2 w2 (.int .i64 0) (.int .i64 0) 31
  have O3 := A1.out.below B3
  have B03 : Hid (Below W.heap.size W (w2.alloc (.cells #[.int .i64 0, .int .i64 0] 31))) := (T2.out.trans (A2.out.mono T2.out.size)).trans (B3.mono (by have := T2.out.size; have := A2.out.size; omega))
  have CS3 := CS.out _ _ B03.out ⟨_, O3⟩
  clear CS O3 B3
  generalize w2.alloc (.cells #[.int .i64 0, .int .i64 0] 31) = w3 at *
  obtain ⟨q30, q31⟩ := q3
  go_wp2_with (go_at_call 8; refine CS3.mono ?_; clear CS3; rintro e w4 ⟨rfl, hb4⟩)
  go_ret
  exact ⟨rfl, HB.out.trans ((B03.out.trans (hb4.mono B03.out.size)).mono HB.out.size)⟩
end Go.Proofs.Ytgpckmolcdafcae

/-
  THE WALK of DiffTurns.
-/
namespace Go.Proofs.Ytgpckmolcdafcae
open Go.RowKit Go.Maps

theorem bool_of (p : Prop) : ∃ r : Bool, r = true ↔ p := by
  by_cases h : p
  · exact ⟨true, by simp [h]⟩
  · exact ⟨false, by simp [h]⟩
theorem of_same {a : List It} (h : Unlike a) : ofM a a = [] := by
  cases a with
  | nil => rfl
  | cons x xs => exact of_self h (by simp)
theorem node_bound {l : List Iz} (hA : AlikeZ l) (hN : NodeOk l) : ∀ k ∈ nodesL (toIts l), k < 9223372036854775808 := fun k hk => by
  have := hN (k : Int) (by rw [hA.nodes]; exact List.mem_map.mpr ⟨k, hk, rfl⟩)
  omega
theorem node_len {l : List Iz} (hA : AlikeZ l) : (nodesL (toIts l)).length = (nodesZ l).length := by rw [hA.nodes, List.length_map]

set_option maxHeartbeats 3200000 in
set_option maxRecDepth 100000 in
theorem dturns_walk {w : World} {va vb : Value} {la lb : List Iz} (ha : IzsAt w (fun g => g < w.heap.size) va la) (na : NodeOk la) (hb : IzsAt w (fun g => g < w.heap.size) vb lb) (nb : NodeOk lb) (hz : (nodesZ la).length + (nodesZ lb).length ≤ 131072) :
    Calls Try.prog 4 #[va, vb] w fun e w' => e = .returned (.bool true) ∧ Below w.heap.size w w' := by
  obtain ⟨ra, hra⟩ : ∃ r : Bool, r = true ↔ AlikeZ la := bool_of _
  obtain ⟨rb, hrb⟩ : ∃ r : Bool, r = true ↔ AlikeZ lb := bool_of _
  have CA : Hid (∀ W, Below w.heap.size w W → Calls Try.prog 5 #[va] W fun e w' => e = .returned (.bool ra) ∧ Below W.heap.size W w') := fun W hW => ualike_any (ha.under hW) na (by omega) ra hra
  have CB : Hid (∀ W, Below w.heap.size w W → Calls Try.prog 5 #[vb] W fun e w' => e = .returned (.bool rb) ∧ Below W.heap.size W w') := fun W hW => ualike_any (hb.under hW) nb (by omega) rb hrb
  obtain ⟨pa, ca, hva⟩ := ha.shape
  obtain ⟨pb, cb, hvb⟩ := hb.shape
  cases ra with
  | false =>
    clear ha na hb nb hz hra hrb CB
    subst hva hvb
    generalize la.length = m1 at *
    generalize lb.length = m2 at *
    go_enter Try.func4, Try.ntmps4
    go_wp2_with (first
      | (go_at_call 9; refine (alive9_any w).mono ?_; rintro e w1 ⟨rfl, hb1⟩)
      | (go_at_call 5; refine (CA.out w1 hb1).mono ?_; rintro e w2 ⟨rfl, hb2⟩))
    go_ret
    exact ⟨rfl, hb1.trans (hb2.mono hb1.size)⟩
  | true =>
    cases rb with
    | false =>
      clear ha na hb nb hz hra hrb
      subst hva hvb
      generalize la.length = m1 at *
      generalize lb.length = m2 at *
      go_enter Try.func4, Try.ntmps4
      go_wp2_with (first
        | (go_at_call 9; refine (alive9_any w).mono ?_; rintro e w1 ⟨rfl, hb1⟩)
        | (go_at_call 5; refine (CA.out w1 hb1).mono ?_; clear CA; rintro e w2 ⟨rfl, hb2⟩; have HB2 : Below w.heap.size w w2 := hb1.trans (hb2.mono hb1.size))
        | (go_at_call 5; refine (CB.out w2 HB2).mono ?_; rintro e w3 ⟨rfl, hb3⟩))
      go_ret
      exact ⟨rfl, HB2.trans (hb3.mono HB2.size)⟩
    | true =>
      have aa := hra.mp rfl
      have ab := hrb.mp rfl
      have ua := aa.unlike
      have ub := ab.unlike
      have ba := node_bound aa na
      have bb := node_bound ab nb
      have za := node_len aa
      have zb := node_len ab
      have ra := aa.rd ha
      have rb := ab.rd hb
      have za2 : (nodesL (toIts la)).length + (nodesL (toIts lb)).length ≤ 131072 := by omega
      have D1 := fun W (hW : Below w.heap.size w W) => hOf_any ((ra.under hW).any (fun _ _ _ => trivial)) ((rb.under hW).any (fun _ _ _ => trivial)) ua ub ba bb (few_sum ua ub za2)
      have D2 : ∀ W, Below w.heap.size w W → Calls Try.prog 10 #[va, va] W fun e w' => ∃ p c, e = .returned (.slice p 0 c) ∧ Below W.heap.size W w' := fun W hW => by
        refine (hOf_any ((ra.under hW).any (fun _ _ _ => trivial)) ((ra.under hW).any (fun _ _ _ => trivial)) ua ua ba ba (few_evs ua ua (by omega) (by omega) (by rw [evs_self ua]; exact Nat.zero_le _))).mono ?_
        rintro e w' ⟨ve, rfl, h1, h2⟩
        rw [of_same ua] at h1
        obtain ⟨p, c, rfl, _⟩ := h1
        exact ⟨p, c, rfl, h2⟩
      have D3 : ∀ W ve, Below w.heap.size w W → (∃ B : Nat, EvsAt W (fun g => B ≤ g) ve (ofM (toIts la) (toIts lb))) → Calls Try.prog 6 #[va, ve] W fun e w' => Applied (.ok (toIts lb)) e w' W.heap.size ∧ Below W.heap.size W w' := fun W ve h1 h2 => by
        obtain ⟨B, h2⟩ := h2
        have h3 := of_len ua ub
        have := happly_any ((ra.under h1).any (fun _ _ _ => trivial)) ua ba (by omega) (h2.frame (Q := fun _ => True) (fun g _ _ => ⟨rfl, trivial⟩)) (by omega) (fun m hm => Nat.le_trans (of_items ua ub ba bb m hm) (by omega))
        rw [run_of ua ub] at this
        exact this
      have D4 : ∀ W v, Below w.heap.size w W → (∃ B, OwnT W B v (toIts lb)) → Calls Try.prog 8 #[v, vb] W fun e w' => e = .returned (.bool true) ∧ Below W.heap.size W w' := fun W v h1 h2 => by
        obtain ⟨B, h2⟩ := h2
        exact usame_true _ v vb (ofIts (toIts lb)) W h2.row.whatever (rb.under h1) (Nat.le_refl _)
      have C1 := (show Hid _ from D1)
      have C2 := (show Hid _ from D2)
      have C3 := (show Hid _ from D3)
      have C4 := (show Hid _ from D4)
      clear D1 D2 D3 D4 ha na hb nb hz hra hrb aa ab ua ub ba bb za zb ra rb za2
      generalize ofM (toIts la) (toIts lb) = ms at *
      generalize toIts lb = b at *
      generalize toIts la = a at *
      subst hva hvb
      generalize la.length = m1 at *
      generalize lb.length = m2 at *
      go_enter Try.func4, Try.ntmps4
      go_upto_region 6 with (first
        | (go_at_call 9; refine (alive9_any w).mono ?_; rintro e w1 ⟨rfl, hb1⟩)
        | (go_at_call 5; refine (CA.out w1 hb1).mono ?_; clear CA; rintro e w2 ⟨rfl, hb2⟩; have HB2 : Below w.heap.size w w2 := hb1.trans (hb2.mono hb1.size))
        | (go_at_call 5; refine (CB.out w2 HB2).mono ?_; clear CB; rintro e w3 ⟨rfl, hb3⟩; have HB3 : Below w.heap.size w w3 := HB2.trans (hb3.mono HB2.size))
        | (go_at_call 10; refine (C1.out w3 HB3).mono ?_; clear C1; rintro e w4 ⟨v4, rfl, t1, t2⟩; have HB4 : Below w.heap.size w w4 := HB3.trans (t2.mono HB3.size); have K3 := C3.out w4 v4 HB4 ⟨_, t1⟩; obtain ⟨p4, c4, e4, _⟩ := t1; subst e4; clear t2)
        | (go_at_call 6; refine K3.mono ?_; clear K3; rintro e w5 ⟨⟨v5, rfl, t1⟩, t2⟩; have HB5 : Hid (Below w.heap.size w w5) := HB4.trans (t2.mono HB4.size); have T5 : Hid (OwnT w5 w4.heap.size v5 b) := t1; obtain ⟨p5, c5, rfl⟩ := t1.shape; clear t1 t2 hb1 hb2 hb3 HB2 HB3 HB4))
      have B6 : Below w5.heap.size w5 (w5.alloc (.cells #[.int .i64 0, .int .i64 0] 31)) := (Below.refl _ _).alloc (Nat.le_refl _) _
      have q6 := box2 w5 (.int .i64 0) (.int .i64 0) 31
      have O6 : Hid (OwnT _ w4.heap.size (.slice p5 b.length c5) b) := T5.out.below B6
      have HB6 : Hid (Below w.heap.size w (w5.alloc (.cells #[.int .i64 0, .int .i64 0] 31))) := HB5.out.trans (B6.mono HB5.out.size)
      have K6 := C2.out _ HB6.out
      clear B6 T5 HB5 C2 C3
      generalize w5.alloc (.cells #[.int .i64 0, .int .i64 0] 31) = w6 at *
      obtain ⟨q60, q61⟩ := q6
      go_wp2_with (first
        | (go_at_call 10; refine K6.mono ?_; clear K6; rintro e w7 ⟨p7, c7, rfl, t2⟩; have HB7 : Hid (Below w.heap.size w w7) := HB6.out.trans (t2.mono HB6.out.size); have q7 := keeps_below t2 (Nat.le_refl _) _ _ q60; have K7 := C4.out w7 _ HB7.out ⟨_, O6.out.below t2⟩; clear t2)
        | (go_at_call 8; refine K7.mono ?_; clear K7; rintro e w8 ⟨rfl, t2⟩; have HB8 : Hid (Below w.heap.size w w8) := HB7.out.trans (t2.mono HB7.out.size); clear t2))
      go_ret
      exact ⟨rfl, HB8.out⟩
end Go.Proofs.Ytgpckmolcdafcae

/-
  ROWS of items that the call makes, whose items' kids lie wherever: append of one item.
-/
namespace Go.Proofs.Ytgpckmolcdafcae
open Go.RowKit

/-- a row of the call's own; what is in its items reads, and lies in another block -/
def OwnR (w : World) (B : Nat) (Q : Nat → Prop) (v : Value) (l : List It) : Prop :=
  ∃ kvs, kvs.length = l.length ∧ w.ownsRow B 26 8 v l.length (cellsT l kvs) ∧ ∀ j (h : j < l.length) (h' : j < kvs.length), RdI w (fun g => Q g ∧ some g ≠ v.ownBlock) kvs[j] l[j].kids
theorem OwnR.nil (w : World) (B : Nat) (Q : Nat → Prop) : OwnR w B Q (.slice none 0 0) [] := ⟨[], rfl, World.ownsRow_nil _ _ _ _, fun j h => by simp at h⟩
theorem OwnR.lt {w : World} {B : Nat} {Q : Nat → Prop} {v : Value} {l : List It} (h : OwnR w B Q v l) : ∀ g, v.ownBlock = some g → B ≤ g ∧ g < w.heap.size := by
  obtain ⟨kvs, _, h2, _⟩ := h
  exact h2.lt
theorem OwnR.shape {w : World} {B : Nat} {Q : Nat → Prop} {v : Value} {l : List It} (h : OwnR w B Q v l) : ∃ p c, v = .slice p l.length c := by
  obtain ⟨kvs, _, h2, _⟩ := h
  exact owns_shape h2
theorem owns_blk {w w' : World} {C e k n : Nat} {v : Value} {xs : List Value} (ho : w.ownsRow C e k v n xs) (hb : ∀ b, v.ownBlock = some b → w'.heap[b]? = w.heap[b]?) : w'.ownsRow C e k v n xs := by
  obtain ⟨hl, hz⟩ := ho
  refine ⟨hl, ?_⟩
  rcases hz with h5 | ⟨g, cap, cur, rfl, h3, h6, h7⟩
  · exact Or.inl h5
  · refine Or.inr ⟨g, cap, cur, rfl, h3, ?_, h7⟩
    rw [hb g rfl]
    exact h6
/-- another world, in which its blocks, and those of what is in it, are the same -/
theorem OwnR.frame {w w' : World} {B : Nat} {Q Q' : Nat → Prop} {v : Value} {l : List It} (h : OwnR w B Q v l) (hb : ∀ b, v.ownBlock = some b → w'.heap[b]? = w.heap[b]?) (hq : ∀ g, Q g → g < w.heap.size → w'.heap[g]? = w.heap[g]? ∧ Q' g) : OwnR w' B Q' v l := by
  obtain ⟨kvs, h1, h2, h3⟩ := h
  exact ⟨kvs, h1, owns_blk h2 hb, fun j hj hj' => (h3 j hj hj').frame (fun g hg hlt => ⟨(hq g hg.1 hlt).1, (hq g hg.1 hlt).2, hg.2⟩)⟩
theorem OwnR.below {w w' : World} {B : Nat} {Q : Nat → Prop} {v : Value} {l : List It} (h : OwnR w B Q v l) (hb : Below w.heap.size w w') : OwnR w' B Q v l :=
  h.frame (fun b e => hb.block b (h.lt b e).2) (fun g hg hlt => ⟨hb.block g hlt, hg⟩)
theorem OwnR.rd {w : World} {B : Nat} {Q : Nat → Prop} {v : Value} {l : List It} (h : OwnR w B Q v l) {P : Nat → Prop} (hq : ∀ g, Q g → g < w.heap.size → P g) (hp : ∀ b, B ≤ b → P b) : RdI w P v l := by
  have hlt := h.lt
  obtain ⟨kvs, h1, h2, h3⟩ := h
  exact rd_row h2 h1 (fun b e => hp b (hlt b e).1) (fun j hj hj' => (h3 j hj hj').any (fun g hg hl => hq g hg.1 hl))

end Go.Proofs.Ytgpckmolcdafcae

/-
  THE WALK of the reference's Tell.
-/
namespace Go.Proofs.Ytgpckmolcdafcae
open Go.RowKit

theorem Box8.put1 {N : Nat} {a0 a1 a2 a3 a4 a5 a6 a7 : Value} {w : World} (h : Box8 N a0 a1 a2 a3 a4 a5 a6 a7 w) (v : Value) : Box8 N a0 v a2 a3 a4 a5 a6 a7 (w.setCell ⟨N, 1, none⟩ v) := by
  obtain ⟨h0, h1, h2, h3, h4, h5, h6, h7⟩ := h
  refine ⟨?_, World.cell?_setCell_same _ _ _ h1, ?_, ?_, ?_, ?_, ?_, ?_⟩ <;> (rw [World.cell?_setCell_other _ _ _ _ (by intro e; cases e)]; assumption)
end Go.Proofs.Ytgpckmolcdafcae

/-
  PLAIN MATHEMATICS of events: how the reference cuts an item out, pastes it in, and tells what is under it, where nodes are unlike.
-/
namespace Go.Proofs.Ytgpckmolcdafcae

end Go.Proofs.Ytgpckmolcdafcae

/-
  THE WALKS of the reference's Has; of cut.
-/
namespace Go.Proofs.Ytgpckmolcdafcae
open Go.RowKit

end Go.Proofs.Ytgpckmolcdafcae
