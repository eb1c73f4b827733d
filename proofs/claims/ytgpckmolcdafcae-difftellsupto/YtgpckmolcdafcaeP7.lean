/-
  OWN WORK: Hea, Hmx, Hnl, Hrn, Hs3, Hap.
-/
import Derived.Test.YtgpckmolcdafcaeP6
import Derived.Test.YtgpckmolcdafcaeP5
/-
  THE WALKS of diff.each: all items are visited, each ahead of those in it. (Laid by mkhea.py.)
-/
namespace Go.Proofs.Ytgpckmolcdafcae
open Go.RowKit Go.Maps

theorem plcL_pre (p : Int) : ∀ (l : List It) (i k : Nat), plcL p i (l.take k) <+: plcL p i l
  | [], _, k => by rw [List.take_nil]; exact List.prefix_refl _
  | x :: l, i, 0 => by rw [List.take_zero]; exact List.nil_prefix
  | x :: l, i, k + 1 => by
    rw [List.take_succ_cons, plcL, plcL]
    exact (List.prefix_append_right_inj _).mpr (plcL_pre p l (i + 1) k)
theorem plc_mem : (∀ x : It, ∀ (p : Int) (i : Nat), ∀ e ∈ plc1 p i x, e.1 ∈ item1 x) ∧ ∀ l : List It, ∀ (p : Int) (i : Nat), ∀ e ∈ plcL p i l, e.1 ∈ itemL l := by
  refine It.ind (fun x h p i e he => ?_) (fun p i e he => by simp [plcL] at he) (fun x xs h1 h2 p i e he => ?_)
  · rw [plc1_eq] at he
    rcases List.mem_cons.mp he with rfl | he
    · exact mem_item1.mpr (Or.inl rfl)
    · exact mem_item1.mpr (Or.inr (h _ _ e he))
  · rw [plcL] at he
    rcases List.mem_append.mp he with he | he
    · exact mem_itemL.mpr ⟨x, by simp, h1 p i e he⟩
    · obtain ⟨y, hy, hz⟩ := mem_itemL.mp (h2 p (i + 1) e he)
      exact mem_itemL.mpr ⟨y, by simp [hy], hz⟩

/-- an item's value -/
def itA (y : It) (kv : Value) : Value := .agg #[.int .i64 (y.node : Int), .int .i64 y.role, .string y.name, .string y.about, .int .i64 y.level, .int .i64 y.checked, .bool y.off, kv]

/-- what is owed of the function that visits -/
def Visit3 (wK : World) (s0 : Sx) (S B8 : Nat) (L : List Plc) (R : List Plc → Sx → Prop) : Prop :=
  ∀ (w : World) (s : Sx) (D : List Plc) (y : It) (p : Int) (i : Nat) (pk : Option Addr) (n c : Nat), SdAt w s → Fz s0 s wK w → R D s → D ++ [(y, p, i)] <+: L →
    Calls Try.prog 36 #[itA y (.slice pk n c), .int .i64 p, .int .i64 (i : Int), .pointer (some ⟨S, 0, none⟩), .pointer (some ⟨B8, 0, none⟩)] w fun e w' => e = .returned (.tuple #[]) ∧ ∃ s', SdAt w' s' ∧ Fz s s' w w' ∧ R (D ++ [(y, p, i)]) s'

set_option maxHeartbeats 3200000 in
set_option maxRecDepth 100000 in
theorem heach13_any {wK : World} {s0 : Sx} {A0 A1 S B8 : Nat} (hc0 : wK.cell? ⟨A0, 0, none⟩ = some (.func (.func 36) #[] #[.pointer (some ⟨S, 0, none⟩), .pointer (some ⟨B8, 0, none⟩)]))
    (hc1 : wK.cell? ⟨A1, 0, none⟩ = some (.func (.func 49) #[] #[.pointer (some ⟨A0, 0, none⟩), .pointer (some ⟨A1, 0, none⟩)])) (n0 : ¬ s0.foot A0) (n1 : ¬ s0.foot A1)
    {L : List Plc} {R : List Plc → Sx → Prop} (hv : Visit3 wK s0 S B8 L R) (m : Nat) :
    ∀ (v : Value) (l : List It) (p : Int) (D : List Plc) (w : World) (s : Sx), RdI wK (fun g => ¬ s0.foot g) v l → SdAt w s → Fz s0 s wK w → R D s → D ++ plcL p 0 l <+: L → (nodesL l).length ≤ m →
      Calls Try.prog 49 #[v, .int .i64 p, .pointer (some ⟨A0, 0, none⟩), .pointer (some ⟨A1, 0, none⟩)] w fun e w' => e = .returned (.tuple #[]) ∧ ∃ s', SdAt w' s' ∧ Fz s s' w w' ∧ R (D ++ plcL p 0 l) s' := by
  have HV : Hid (Visit3 wK s0 S B8 L R) := hv
  have HC : Hid (∀ w s, Fz s0 s wK w → w.cell? ⟨A0, 0, none⟩ = some (.func (.func 36) #[] #[.pointer (some ⟨S, 0, none⟩), .pointer (some ⟨B8, 0, none⟩)]) ∧ w.cell? ⟨A1, 0, none⟩ = some (.func (.func 49) #[] #[.pointer (some ⟨A0, 0, none⟩), .pointer (some ⟨A1, 0, none⟩)])) := fun w s h => ⟨h.cell hc0 n0, h.cell hc1 n1⟩
  clear hv hc0 hc1 n0 n1
  induction m with
  | zero =>
    intro v l p D w s hr hd hf hR _ hm
    have hl : l = [] := by
      have := top_few l
      exact List.length_eq_zero_iff.mp (by omega)
    subst hl
    obtain ⟨pv, c, rfl⟩ := hr.shape
    have HR : Hid (R D s) := hR
    clear hr hR hf
    go_enter Try.func49, Try.ntmps49
    go_wp2_with fail
    refine wp_loop_rounds 1 ?_
    rw [rounds_succ]
    go_wp2_with fail
    go_end0
    exact ⟨rfl, s, hd, Fz.refl _ _, by simpa [plcL] using HR.out⟩
  | succ m ih =>
    intro v l p D w s hr hd hf hR hL hm
    obtain ⟨pv, c, rfl, y1, y2, hat⟩ := hr.at
    have T : Hid (∀ j (hj : j < l.length), ∃ b o kv, pv = some ⟨b, o, none⟩ ∧ ¬ s0.foot b ∧ ItAt wK b (o + j * 8) l[j] kv ∧ RdI wK (fun g => ¬ s0.foot g) kv l[j].kids) := hat
    have HL : Hid (D ++ plcL p 0 l <+: L) := hL
    have HF0 : Hid (Fz s0 s wK w) := hf
    have ZM : Hid (∀ j (hj : j < l.length), (nodesL l[j].kids).length ≤ m) := fun j hj => by have := nodesL_lt l j hj; omega
    have HD : Hid (SdAt w s) := hd
    have HR : Hid (R D s) := hR
    clear hr hat hm hL hf hd hR
    go_enter Try.func49, Try.ntmps49
    go_wp2_with fail
    go_loopw [10] (fun iv wr => ∃ (j : Nat) (sj : Sx), j ≤ l.length ∧ iv = .int .i64 j ∧ Hid (SdAt wr sj) ∧ Hid (Fz s sj w wr) ∧ Hid (R (D ++ plcL p 0 (l.take j)) sj)) (fun iv _ => l.length - (intOf iv).toNat)
    case atStart => exact ⟨0, s, Nat.zero_le _, rfl, HD, Fz.refl _ _, (by show R _ _; simpa [plcL] using HR.out)⟩
    case round =>
      obtain ⟨j, sj, hj, rfl, HDj, HFj, HRj⟩ := hrel
      by_cases hlt : j < l.length
      · obtain ⟨b, o, kv, rfl, hb, hc, hk⟩ := T.out j hlt
        have hfj : Fz s0 sj wK wr := HF0.out.trans HFj.out
        have c0 := hfj.cell hc.c0 hb
        have c1 := hfj.cell hc.c1 hb
        have c2 := hfj.cell hc.c2 hb
        have c3 := hfj.cell hc.c3 hb
        have c4 := hfj.cell hc.c4 hb
        have c5 := hfj.cell hc.c5 hb
        have c6 := hfj.cell hc.c6 hb
        have c7 := hfj.cell hc.c7 hb
        have hpre : D ++ plcL p 0 (l.take (j + 1)) <+: L := ((List.prefix_append_right_inj _).mpr (plcL_pre p l 0 (j + 1))).trans HL.out
        have e1 : D ++ plcL p 0 (l.take (j + 1)) = ((D ++ plcL p 0 (l.take j)) ++ [(l[j], p, j)]) ++ plcL (l[j].node : Int) 0 l[j].kids := by
          rw [plcL_take p l 0 j hlt, plc1_eq, Nat.zero_add]
          simp
        rw [e1] at hpre
        have HE : Hid (D ++ plcL p 0 (l.take (j + 1)) = ((D ++ plcL p 0 (l.take j)) ++ [(l[j], p, j)]) ++ plcL (l[j].node : Int) 0 l[j].kids) := e1
        have hpre1 : Hid ((D ++ plcL p 0 (l.take j)) ++ [(l[j], p, j)] <+: L) := (List.prefix_append _ _).trans hpre
        have hpre2 : Hid (((D ++ plcL p 0 (l.take j)) ++ [(l[j], p, j)]) ++ plcL (l[j].node : Int) 0 l[j].kids <+: L) := hpre
        have HK : Hid (RdI wK (fun g => ¬ s0.foot g) kv l[j].kids) := hk
        have HM : Hid ((nodesL l[j].kids).length ≤ m) := ZM.out j hlt
        have HFJ : Hid (Fz s0 sj wK wr) := hfj
        obtain ⟨pk, ck, rfl⟩ := hk.shape
        clear e1 hpre hc hk hfj hb
        generalize l[j] = y at *
        generalize hDj : D ++ plcL p 0 (l.take j) = Dj at *
        have HDJ : Hid (D ++ plcL p 0 (l.take j) = Dj) := hDj
        clear hDj
        have B1 : Below wr.heap.size wr (wr.alloc (.cells #[.int .i64 (y.node : Int), .int .i64 y.role, .string y.name, .string y.about, .int .i64 y.level, .int .i64 y.checked, .bool y.off, .slice pk y.kids.length ck] 26)) := (Below.refl _ _).alloc (Nat.le_refl _) _
        have BX := box8_new wr (.int .i64 (y.node : Int)) (.int .i64 y.role) (.string y.name) (.string y.about) (.int .i64 y.level) (.int .i64 y.checked) (.bool y.off) (.slice pk y.kids.length ck) 26
        have HD1 := HDj.out.below B1
        have HF1 := HFJ.out.trans (Fz.below B1)
        obtain ⟨q0, q1⟩ := HC.out _ _ HF1
        have VC : Calls Try.prog 36 #[.agg #[.int .i64 (y.node : Int), .int .i64 y.role, .string y.name, .string y.about, .int .i64 y.level, .int .i64 y.checked, .bool y.off, .slice pk y.kids.length ck], .int .i64 p, .int .i64 (j : Int), .pointer (some ⟨S, 0, none⟩), .pointer (some ⟨B8, 0, none⟩)] _ _ := HV.out _ sj Dj y p j pk y.kids.length ck HD1 HF1 HRj.out hpre1.out
        have NF : Hid (¬ sj.foot wr.heap.size) := fun hf => by have := HDj.out.lt _ hf; omega
        have NL : Hid (wr.heap.size < (wr.alloc (.cells #[.int .i64 (y.node : Int), .int .i64 y.role, .string y.name, .string y.about, .int .i64 y.level, .int .i64 y.checked, .bool y.off, .slice pk y.kids.length ck] 26)).heap.size) := by show _ < _; simp
        have HFW : Hid (Fz s sj w (wr.alloc (.cells #[.int .i64 (y.node : Int), .int .i64 y.role, .string y.name, .string y.about, .int .i64 y.level, .int .i64 y.checked, .bool y.off, .slice pk y.kids.length ck] 26))) := HFj.out.trans (Fz.below B1)
        have HFK : Hid (Fz s0 sj wK (wr.alloc (.cells #[.int .i64 (y.node : Int), .int .i64 y.role, .string y.name, .string y.about, .int .i64 y.level, .int .i64 y.checked, .bool y.off, .slice pk y.kids.length ck] 26))) := HF1
        clear B1 HD1 HF1
        go_upto_region 3 with fail
        generalize wr.alloc (.cells #[.int .i64 (y.node : Int), .int .i64 y.role, .string y.name, .string y.about, .int .i64 y.level, .int .i64 y.checked, .bool y.off, .slice pk y.kids.length ck] 26) = W at *
        obtain ⟨b0, b1, b2, b3, b4, b5, b6, b7⟩ := BX
        go_wp2_with (first
          | (go_at_call 36; refine VC.mono ?_; clear VC; rintro e w5 ⟨rfl, s5, t1, t2, t3⟩; have d0 := t2.cell b0 NF.out; have d7 := t2.cell b7 NF.out; have HFW5 : Hid (Fz s s5 w w5) := HFW.out.trans t2; have HFK5 : Hid (Fz s0 s5 wK w5) := HFK.out.trans t2; have IC := ih (.slice pk y.kids.length ck) y.kids (y.node : Int) (Dj ++ [(y, p, j)]) w5 s5 HK.out t1 HFK5.out t3 hpre2.out HM.out; obtain ⟨r0, r1⟩ := HC.out _ _ HFK5.out; clear t1 t2 t3)
          | (go_at_call 49; refine IC.mono ?_; clear IC; rintro e w6 ⟨rfl, s6, t1, t2, t3⟩; have R6 : Hid (∃ s6, SdAt w6 s6 ∧ Fz s s6 w w6 ∧ R ((Dj ++ [(y, p, j)]) ++ plcL (y.node : Int) 0 y.kids) s6) := ⟨s6, t1, HFW5.out.trans t2, t3⟩; clear t1 t2 t3))
        go_roundw
        case rel =>
          obtain ⟨s6, t1, t2, t3⟩ := R6.out
          exact ⟨j + 1, s6, by omega, by go_num, t1, t2, (by show R _ _; rw [HE.out]; exact t3)⟩
        case measure => simp [intOf]; omega
      · obtain rfl : j = l.length := by omega
        rw [List.take_length] at HRj
        go_wp2_with fail
        go_end0
        exact ⟨rfl, sj, HDj.out, HFj.out, HRj.out⟩

set_option maxHeartbeats 3200000 in
set_option maxRecDepth 100000 in
theorem heach3_any {wK : World} {s0 : Sx} {S B8 : Nat} {v : Value} {l : List It} (hr : RdI wK (fun g => ¬ s0.foot g) v l) {s : Sx} {w : World} (hd : SdAt w s) (hf : Fz s0 s wK w)
    {R : List Plc → Sx → Prop} (hv : Visit3 wK s0 S B8 (plcL (-1) 0 l) R) (hR : R [] s) :
    Calls Try.prog 35 #[v, .func (.func 36) #[] #[.pointer (some ⟨S, 0, none⟩), .pointer (some ⟨B8, 0, none⟩)]] w fun e w' => e = .returned (.tuple #[]) ∧ ∃ s', SdAt w' s' ∧ Fz s s' w w' ∧ R (plcL (-1) 0 l) s' := by
  have hst : ∀ (W : World) (a : Addr) (fn : Fn) (x y : Array Value), Sem.run Try.prog (store a (.func fn x y)) W = stored Try.prog W a (.func fn x y) .plain := fun W a fn x y => run_store Try.prog W a (.func fn x y) .plain rfl
  have hmf : ∀ (fn : Fn) (first cap : Array Value) (w : World), (Instr.makeFunc fn first cap).run Try.prog w = .ok (.func fn first cap) w := fun _ _ _ _ => rfl
  have C : Hid (∀ t1 t2, Calls Try.prog 49 #[v, .int .i64 (-1), .pointer (some ⟨w.heap.size, 0, none⟩), .pointer (some ⟨w.heap.size + 1, 0, none⟩)] ((w.alloc (.cells #[.func (.func 36) #[] #[.pointer (some ⟨S, 0, none⟩), .pointer (some ⟨B8, 0, none⟩)]] t1)).alloc (.cells #[.func (.func 49) #[] #[.pointer (some ⟨w.heap.size, 0, none⟩), .pointer (some ⟨w.heap.size + 1, 0, none⟩)]] t2)) fun e w' => e = .returned (.tuple #[]) ∧ ∃ s', SdAt w' s' ∧ Fz s s' w w' ∧ R (plcL (-1) 0 l) s') := fun t1 t2 => by
    have B1 : Below w.heap.size w (w.alloc (.cells #[.func (.func 36) #[] #[.pointer (some ⟨S, 0, none⟩), .pointer (some ⟨B8, 0, none⟩)]] t1)) := (Below.refl _ _).alloc (Nat.le_refl _) _
    have z1 : (w.alloc (.cells #[.func (.func 36) #[] #[.pointer (some ⟨S, 0, none⟩), .pointer (some ⟨B8, 0, none⟩)]] t1)).heap.size = w.heap.size + 1 := by simp
    have q1 : (w.alloc (.cells #[.func (.func 36) #[] #[.pointer (some ⟨S, 0, none⟩), .pointer (some ⟨B8, 0, none⟩)]] t1)).cell? ⟨w.heap.size, 0, none⟩ = some (.func (.func 36) #[] #[.pointer (some ⟨S, 0, none⟩), .pointer (some ⟨B8, 0, none⟩)]) := cell_box _ _
    generalize w.alloc (.cells #[.func (.func 36) #[] #[.pointer (some ⟨S, 0, none⟩), .pointer (some ⟨B8, 0, none⟩)]] t1) = W1 at *
    have B2 : Below W1.heap.size W1 (W1.alloc (.cells #[.func (.func 49) #[] #[.pointer (some ⟨w.heap.size, 0, none⟩), .pointer (some ⟨w.heap.size + 1, 0, none⟩)]] t2)) := (Below.refl _ _).alloc (Nat.le_refl _) _
    have q2 : (W1.alloc (.cells #[.func (.func 49) #[] #[.pointer (some ⟨w.heap.size, 0, none⟩), .pointer (some ⟨w.heap.size + 1, 0, none⟩)]] t2)).cell? ⟨W1.heap.size, 0, none⟩ = some (.func (.func 49) #[] #[.pointer (some ⟨w.heap.size, 0, none⟩), .pointer (some ⟨w.heap.size + 1, 0, none⟩)]) := cell_box _ _
    generalize W1.alloc (.cells #[.func (.func 49) #[] #[.pointer (some ⟨w.heap.size, 0, none⟩), .pointer (some ⟨w.heap.size + 1, 0, none⟩)]] t2) = W2 at *
    have B : Below w.heap.size w W2 := B1.trans (B2.mono B1.size)
    rw [z1] at q2
    have q1' := keeps_below B2 (Nat.le_refl _) _ _ q1
    have hF := hf.trans (Fz.below B)
    have hd2 := hd.below B
    refine (heach13_any (wK := W2) (s0 := s) (S := S) (B8 := B8) (L := plcL (-1) 0 l) (R := R) q1' q2 (fun h => by have := hd.lt _ h; omega) (fun h => by have := hd.lt _ h; omega) (fun w1 s1 D y p i pk n c h1 h2 h3 h4 => hv w1 s1 D y p i pk n c h1 (hF.trans h2) h3 h4) _ v l (-1) [] W2 s ((hf.rd hr).under B) hd2 (Fz.refl _ _) hR (List.prefix_refl _) (Nat.le_refl _)).mono ?_
    rintro e w' ⟨rfl, s', t1, t2, t3⟩
    exact ⟨rfl, s', t1, (Fz.below B).trans t2, t3⟩
  obtain ⟨pv, c, rfl⟩ := hr.shape
  clear hr hd hf hv hR
  go_enter Try.func35, Try.ntmps35
  go_wp2_with (go_at_call 49; refine (C.out _ _).mono ?_; clear C; rintro e w6 ⟨rfl, R6⟩)
  go_end0
  exact ⟨rfl, R6⟩

/-- what is owed of the function that visits -/
def Visit4 (wK : World) (s0 : Sx) (S B8 : Nat) (L : List Plc) (R : List Plc → Sx → Prop) : Prop :=
  ∀ (w : World) (s : Sx) (D : List Plc) (y : It) (p : Int) (i : Nat) (pk : Option Addr) (n c : Nat), SdAt w s → Fz s0 s wK w → R D s → D ++ [(y, p, i)] <+: L →
    Calls Try.prog 38 #[itA y (.slice pk n c), .int .i64 p, .int .i64 (i : Int), .pointer (some ⟨S, 0, none⟩), .pointer (some ⟨B8, 0, none⟩)] w fun e w' => e = .returned (.tuple #[]) ∧ ∃ s', SdAt w' s' ∧ Fz s s' w w' ∧ R (D ++ [(y, p, i)]) s'

set_option maxHeartbeats 3200000 in
set_option maxRecDepth 100000 in
theorem heach14_any {wK : World} {s0 : Sx} {A0 A1 S B8 : Nat} (hc0 : wK.cell? ⟨A0, 0, none⟩ = some (.func (.func 38) #[] #[.pointer (some ⟨S, 0, none⟩), .pointer (some ⟨B8, 0, none⟩)]))
    (hc1 : wK.cell? ⟨A1, 0, none⟩ = some (.func (.func 49) #[] #[.pointer (some ⟨A0, 0, none⟩), .pointer (some ⟨A1, 0, none⟩)])) (n0 : ¬ s0.foot A0) (n1 : ¬ s0.foot A1)
    {L : List Plc} {R : List Plc → Sx → Prop} (hv : Visit4 wK s0 S B8 L R) (m : Nat) :
    ∀ (v : Value) (l : List It) (p : Int) (D : List Plc) (w : World) (s : Sx), RdI wK (fun g => ¬ s0.foot g) v l → SdAt w s → Fz s0 s wK w → R D s → D ++ plcL p 0 l <+: L → (nodesL l).length ≤ m →
      Calls Try.prog 49 #[v, .int .i64 p, .pointer (some ⟨A0, 0, none⟩), .pointer (some ⟨A1, 0, none⟩)] w fun e w' => e = .returned (.tuple #[]) ∧ ∃ s', SdAt w' s' ∧ Fz s s' w w' ∧ R (D ++ plcL p 0 l) s' := by
  have HV : Hid (Visit4 wK s0 S B8 L R) := hv
  have HC : Hid (∀ w s, Fz s0 s wK w → w.cell? ⟨A0, 0, none⟩ = some (.func (.func 38) #[] #[.pointer (some ⟨S, 0, none⟩), .pointer (some ⟨B8, 0, none⟩)]) ∧ w.cell? ⟨A1, 0, none⟩ = some (.func (.func 49) #[] #[.pointer (some ⟨A0, 0, none⟩), .pointer (some ⟨A1, 0, none⟩)])) := fun w s h => ⟨h.cell hc0 n0, h.cell hc1 n1⟩
  clear hv hc0 hc1 n0 n1
  induction m with
  | zero =>
    intro v l p D w s hr hd hf hR _ hm
    have hl : l = [] := by
      have := top_few l
      exact List.length_eq_zero_iff.mp (by omega)
    subst hl
    obtain ⟨pv, c, rfl⟩ := hr.shape
    have HR : Hid (R D s) := hR
    clear hr hR hf
    go_enter Try.func49, Try.ntmps49
    go_wp2_with fail
    refine wp_loop_rounds 1 ?_
    rw [rounds_succ]
    go_wp2_with fail
    go_end0
    exact ⟨rfl, s, hd, Fz.refl _ _, by simpa [plcL] using HR.out⟩
  | succ m ih =>
    intro v l p D w s hr hd hf hR hL hm
    obtain ⟨pv, c, rfl, y1, y2, hat⟩ := hr.at
    have T : Hid (∀ j (hj : j < l.length), ∃ b o kv, pv = some ⟨b, o, none⟩ ∧ ¬ s0.foot b ∧ ItAt wK b (o + j * 8) l[j] kv ∧ RdI wK (fun g => ¬ s0.foot g) kv l[j].kids) := hat
    have HL : Hid (D ++ plcL p 0 l <+: L) := hL
    have HF0 : Hid (Fz s0 s wK w) := hf
    have ZM : Hid (∀ j (hj : j < l.length), (nodesL l[j].kids).length ≤ m) := fun j hj => by have := nodesL_lt l j hj; omega
    have HD : Hid (SdAt w s) := hd
    have HR : Hid (R D s) := hR
    clear hr hat hm hL hf hd hR
    go_enter Try.func49, Try.ntmps49
    go_wp2_with fail
    go_loopw [10] (fun iv wr => ∃ (j : Nat) (sj : Sx), j ≤ l.length ∧ iv = .int .i64 j ∧ Hid (SdAt wr sj) ∧ Hid (Fz s sj w wr) ∧ Hid (R (D ++ plcL p 0 (l.take j)) sj)) (fun iv _ => l.length - (intOf iv).toNat)
    case atStart => exact ⟨0, s, Nat.zero_le _, rfl, HD, Fz.refl _ _, (by show R _ _; simpa [plcL] using HR.out)⟩
    case round =>
      obtain ⟨j, sj, hj, rfl, HDj, HFj, HRj⟩ := hrel
      by_cases hlt : j < l.length
      · obtain ⟨b, o, kv, rfl, hb, hc, hk⟩ := T.out j hlt
        have hfj : Fz s0 sj wK wr := HF0.out.trans HFj.out
        have c0 := hfj.cell hc.c0 hb
        have c1 := hfj.cell hc.c1 hb
        have c2 := hfj.cell hc.c2 hb
        have c3 := hfj.cell hc.c3 hb
        have c4 := hfj.cell hc.c4 hb
        have c5 := hfj.cell hc.c5 hb
        have c6 := hfj.cell hc.c6 hb
        have c7 := hfj.cell hc.c7 hb
        have hpre : D ++ plcL p 0 (l.take (j + 1)) <+: L := ((List.prefix_append_right_inj _).mpr (plcL_pre p l 0 (j + 1))).trans HL.out
        have e1 : D ++ plcL p 0 (l.take (j + 1)) = ((D ++ plcL p 0 (l.take j)) ++ [(l[j], p, j)]) ++ plcL (l[j].node : Int) 0 l[j].kids := by
          rw [plcL_take p l 0 j hlt, plc1_eq, Nat.zero_add]
          simp
        rw [e1] at hpre
        have HE : Hid (D ++ plcL p 0 (l.take (j + 1)) = ((D ++ plcL p 0 (l.take j)) ++ [(l[j], p, j)]) ++ plcL (l[j].node : Int) 0 l[j].kids) := e1
        have hpre1 : Hid ((D ++ plcL p 0 (l.take j)) ++ [(l[j], p, j)] <+: L) := (List.prefix_append _ _).trans hpre
        have hpre2 : Hid (((D ++ plcL p 0 (l.take j)) ++ [(l[j], p, j)]) ++ plcL (l[j].node : Int) 0 l[j].kids <+: L) := hpre
        have HK : Hid (RdI wK (fun g => ¬ s0.foot g) kv l[j].kids) := hk
        have HM : Hid ((nodesL l[j].kids).length ≤ m) := ZM.out j hlt
        have HFJ : Hid (Fz s0 sj wK wr) := hfj
        obtain ⟨pk, ck, rfl⟩ := hk.shape
        clear e1 hpre hc hk hfj hb
        generalize l[j] = y at *
        generalize hDj : D ++ plcL p 0 (l.take j) = Dj at *
        have HDJ : Hid (D ++ plcL p 0 (l.take j) = Dj) := hDj
        clear hDj
        have B1 : Below wr.heap.size wr (wr.alloc (.cells #[.int .i64 (y.node : Int), .int .i64 y.role, .string y.name, .string y.about, .int .i64 y.level, .int .i64 y.checked, .bool y.off, .slice pk y.kids.length ck] 26)) := (Below.refl _ _).alloc (Nat.le_refl _) _
        have BX := box8_new wr (.int .i64 (y.node : Int)) (.int .i64 y.role) (.string y.name) (.string y.about) (.int .i64 y.level) (.int .i64 y.checked) (.bool y.off) (.slice pk y.kids.length ck) 26
        have HD1 := HDj.out.below B1
        have HF1 := HFJ.out.trans (Fz.below B1)
        obtain ⟨q0, q1⟩ := HC.out _ _ HF1
        have VC : Calls Try.prog 38 #[.agg #[.int .i64 (y.node : Int), .int .i64 y.role, .string y.name, .string y.about, .int .i64 y.level, .int .i64 y.checked, .bool y.off, .slice pk y.kids.length ck], .int .i64 p, .int .i64 (j : Int), .pointer (some ⟨S, 0, none⟩), .pointer (some ⟨B8, 0, none⟩)] _ _ := HV.out _ sj Dj y p j pk y.kids.length ck HD1 HF1 HRj.out hpre1.out
        have NF : Hid (¬ sj.foot wr.heap.size) := fun hf => by have := HDj.out.lt _ hf; omega
        have NL : Hid (wr.heap.size < (wr.alloc (.cells #[.int .i64 (y.node : Int), .int .i64 y.role, .string y.name, .string y.about, .int .i64 y.level, .int .i64 y.checked, .bool y.off, .slice pk y.kids.length ck] 26)).heap.size) := by show _ < _; simp
        have HFW : Hid (Fz s sj w (wr.alloc (.cells #[.int .i64 (y.node : Int), .int .i64 y.role, .string y.name, .string y.about, .int .i64 y.level, .int .i64 y.checked, .bool y.off, .slice pk y.kids.length ck] 26))) := HFj.out.trans (Fz.below B1)
        have HFK : Hid (Fz s0 sj wK (wr.alloc (.cells #[.int .i64 (y.node : Int), .int .i64 y.role, .string y.name, .string y.about, .int .i64 y.level, .int .i64 y.checked, .bool y.off, .slice pk y.kids.length ck] 26))) := HF1
        clear B1 HD1 HF1
        go_upto_region 3 with fail
        generalize wr.alloc (.cells #[.int .i64 (y.node : Int), .int .i64 y.role, .string y.name, .string y.about, .int .i64 y.level, .int .i64 y.checked, .bool y.off, .slice pk y.kids.length ck] 26) = W at *
        obtain ⟨b0, b1, b2, b3, b4, b5, b6, b7⟩ := BX
        go_wp2_with (first
          | (go_at_call 38; refine VC.mono ?_; clear VC; rintro e w5 ⟨rfl, s5, t1, t2, t3⟩; have d0 := t2.cell b0 NF.out; have d7 := t2.cell b7 NF.out; have HFW5 : Hid (Fz s s5 w w5) := HFW.out.trans t2; have HFK5 : Hid (Fz s0 s5 wK w5) := HFK.out.trans t2; have IC := ih (.slice pk y.kids.length ck) y.kids (y.node : Int) (Dj ++ [(y, p, j)]) w5 s5 HK.out t1 HFK5.out t3 hpre2.out HM.out; obtain ⟨r0, r1⟩ := HC.out _ _ HFK5.out; clear t1 t2 t3)
          | (go_at_call 49; refine IC.mono ?_; clear IC; rintro e w6 ⟨rfl, s6, t1, t2, t3⟩; have R6 : Hid (∃ s6, SdAt w6 s6 ∧ Fz s s6 w w6 ∧ R ((Dj ++ [(y, p, j)]) ++ plcL (y.node : Int) 0 y.kids) s6) := ⟨s6, t1, HFW5.out.trans t2, t3⟩; clear t1 t2 t3))
        go_roundw
        case rel =>
          obtain ⟨s6, t1, t2, t3⟩ := R6.out
          exact ⟨j + 1, s6, by omega, by go_num, t1, t2, (by show R _ _; rw [HE.out]; exact t3)⟩
        case measure => simp [intOf]; omega
      · obtain rfl : j = l.length := by omega
        rw [List.take_length] at HRj
        go_wp2_with fail
        go_end0
        exact ⟨rfl, sj, HDj.out, HFj.out, HRj.out⟩

set_option maxHeartbeats 3200000 in
set_option maxRecDepth 100000 in
theorem heach4_any {wK : World} {s0 : Sx} {S B8 : Nat} {v : Value} {l : List It} (hr : RdI wK (fun g => ¬ s0.foot g) v l) {s : Sx} {w : World} (hd : SdAt w s) (hf : Fz s0 s wK w)
    {R : List Plc → Sx → Prop} (hv : Visit4 wK s0 S B8 (plcL (-1) 0 l) R) (hR : R [] s) :
    Calls Try.prog 35 #[v, .func (.func 38) #[] #[.pointer (some ⟨S, 0, none⟩), .pointer (some ⟨B8, 0, none⟩)]] w fun e w' => e = .returned (.tuple #[]) ∧ ∃ s', SdAt w' s' ∧ Fz s s' w w' ∧ R (plcL (-1) 0 l) s' := by
  have hst : ∀ (W : World) (a : Addr) (fn : Fn) (x y : Array Value), Sem.run Try.prog (store a (.func fn x y)) W = stored Try.prog W a (.func fn x y) .plain := fun W a fn x y => run_store Try.prog W a (.func fn x y) .plain rfl
  have hmf : ∀ (fn : Fn) (first cap : Array Value) (w : World), (Instr.makeFunc fn first cap).run Try.prog w = .ok (.func fn first cap) w := fun _ _ _ _ => rfl
  have C : Hid (∀ t1 t2, Calls Try.prog 49 #[v, .int .i64 (-1), .pointer (some ⟨w.heap.size, 0, none⟩), .pointer (some ⟨w.heap.size + 1, 0, none⟩)] ((w.alloc (.cells #[.func (.func 38) #[] #[.pointer (some ⟨S, 0, none⟩), .pointer (some ⟨B8, 0, none⟩)]] t1)).alloc (.cells #[.func (.func 49) #[] #[.pointer (some ⟨w.heap.size, 0, none⟩), .pointer (some ⟨w.heap.size + 1, 0, none⟩)]] t2)) fun e w' => e = .returned (.tuple #[]) ∧ ∃ s', SdAt w' s' ∧ Fz s s' w w' ∧ R (plcL (-1) 0 l) s') := fun t1 t2 => by
    have B1 : Below w.heap.size w (w.alloc (.cells #[.func (.func 38) #[] #[.pointer (some ⟨S, 0, none⟩), .pointer (some ⟨B8, 0, none⟩)]] t1)) := (Below.refl _ _).alloc (Nat.le_refl _) _
    have z1 : (w.alloc (.cells #[.func (.func 38) #[] #[.pointer (some ⟨S, 0, none⟩), .pointer (some ⟨B8, 0, none⟩)]] t1)).heap.size = w.heap.size + 1 := by simp
    have q1 : (w.alloc (.cells #[.func (.func 38) #[] #[.pointer (some ⟨S, 0, none⟩), .pointer (some ⟨B8, 0, none⟩)]] t1)).cell? ⟨w.heap.size, 0, none⟩ = some (.func (.func 38) #[] #[.pointer (some ⟨S, 0, none⟩), .pointer (some ⟨B8, 0, none⟩)]) := cell_box _ _
    generalize w.alloc (.cells #[.func (.func 38) #[] #[.pointer (some ⟨S, 0, none⟩), .pointer (some ⟨B8, 0, none⟩)]] t1) = W1 at *
    have B2 : Below W1.heap.size W1 (W1.alloc (.cells #[.func (.func 49) #[] #[.pointer (some ⟨w.heap.size, 0, none⟩), .pointer (some ⟨w.heap.size + 1, 0, none⟩)]] t2)) := (Below.refl _ _).alloc (Nat.le_refl _) _
    have q2 : (W1.alloc (.cells #[.func (.func 49) #[] #[.pointer (some ⟨w.heap.size, 0, none⟩), .pointer (some ⟨w.heap.size + 1, 0, none⟩)]] t2)).cell? ⟨W1.heap.size, 0, none⟩ = some (.func (.func 49) #[] #[.pointer (some ⟨w.heap.size, 0, none⟩), .pointer (some ⟨w.heap.size + 1, 0, none⟩)]) := cell_box _ _
    generalize W1.alloc (.cells #[.func (.func 49) #[] #[.pointer (some ⟨w.heap.size, 0, none⟩), .pointer (some ⟨w.heap.size + 1, 0, none⟩)]] t2) = W2 at *
    have B : Below w.heap.size w W2 := B1.trans (B2.mono B1.size)
    rw [z1] at q2
    have q1' := keeps_below B2 (Nat.le_refl _) _ _ q1
    have hF := hf.trans (Fz.below B)
    have hd2 := hd.below B
    refine (heach14_any (wK := W2) (s0 := s) (S := S) (B8 := B8) (L := plcL (-1) 0 l) (R := R) q1' q2 (fun h => by have := hd.lt _ h; omega) (fun h => by have := hd.lt _ h; omega) (fun w1 s1 D y p i pk n c h1 h2 h3 h4 => hv w1 s1 D y p i pk n c h1 (hF.trans h2) h3 h4) _ v l (-1) [] W2 s ((hf.rd hr).under B) hd2 (Fz.refl _ _) hR (List.prefix_refl _) (Nat.le_refl _)).mono ?_
    rintro e w' ⟨rfl, s', t1, t2, t3⟩
    exact ⟨rfl, s', t1, (Fz.below B).trans t2, t3⟩
  obtain ⟨pv, c, rfl⟩ := hr.shape
  clear hr hd hf hv hR
  go_enter Try.func35, Try.ntmps35
  go_wp2_with (go_at_call 49; refine (C.out _ _).mono ?_; clear C; rintro e w6 ⟨rfl, R6⟩)
  go_end0
  exact ⟨rfl, R6⟩
end Go.Proofs.Ytgpckmolcdafcae

/-
  PLAIN MATHEMATICS of diff.steps: step by step the events of two forests come out.
-/
namespace Go.Proofs.Ytgpckmolcdafcae

theorem okBr_at : ∀ (D : List Plc) (T : List It) (e : Plc) (r : List Plc), OkBr T (D ++ e :: r) → ∃ E, Done (bringAll T D) E ∧ Next E e.1 e.2.1 e.2.2
  | [], _, _, _, h => h.1
  | d :: D, T, e, r, h => okBr_at D (bring T d.1 d.2.1 d.2.2) e r h.2
theorem evsBring_app : ∀ (D : List Plc) (T : List It) (E : List Plc), evsBring T (D ++ E) = evsBring T D ++ evsBring (bringAll T D) E
  | [], _, _ => rfl
  | d :: D, T, E => by
    rw [List.cons_append, evsBring, evsBring, evsBring_app D _ E, List.append_assoc]
    rfl
theorem evsBring_one (T : List It) (e : Plc) : evsBring T [e] = evBring T e.1 e.2.1 e.2.2 := by rw [evsBring, evsBring, List.append_nil]
theorem evBring_len (T : List It) (y : It) (p : Int) (i : Nat) : (evBring T y p i).length ≤ 1 := by
  unfold evBring
  split
  · simp
  · split <;> simp
theorem evsBring_len : ∀ (D : List Plc) (T : List It), (evsBring T D).length ≤ D.length
  | [], _ => Nat.le_refl _
  | d :: D, T => by
    rw [evsBring, List.length_append, List.length_cons]
    have := evBring_len T d.1 d.2.1 d.2.2
    have := evsBring_len D (bring T d.1 d.2.1 d.2.2)
    omega
theorem nodup_sub : ∀ (l m : List Nat), l.Nodup → (∀ x ∈ l, x ∈ m) → l.length ≤ m.length
  | [], _, _, _ => Nat.zero_le _
  | x :: l, m, hn, hs => by
    rw [List.nodup_cons] at hn
    have hx := hs x (by simp)
    have ih := nodup_sub l (m.erase x) hn.2 (fun y hy => (List.mem_erase_of_ne (fun e => hn.1 (by rw [← e]; exact hy))).mpr (hs y (by simp [hy])))
    rw [List.length_erase_of_mem hx] at ih
    have : 0 < m.length := List.length_pos_of_mem hx
    rw [List.length_cons]
    omega
theorem bring_sub {T : List It} {y : It} {p : Int} {i k : Nat} (h : k ∈ nodesL (bring T y p i)) (hok : ∀ j, runM j T (evBring T y p i) = .ok (bring T y p i)) : k ∈ nodesL T ∨ k = y.node := by
  rcases find_item (T := T) (n := y.node) with ⟨x, hf, hx, e⟩ | ⟨hf, hno⟩
  · by_cases hat : (kidsAt T p)[i]? = some y.node
    · left
      unfold bring at h
      rw [hf] at h
      simp only at h
      rw [if_pos hat] at h
      exact h
    · have hr := hok 0
      unfold evBring at hr
      rw [hf] at hr
      simp only at hr
      rw [if_neg hat] at hr
      rcases apply_sub (run_one hr) h with h1 | ⟨h1, _⟩
      · exact Or.inl h1
      · rcases h1 with h1 | h1 <;> cases h1
  · unfold bring at h
    rw [hf] at h
    rcases insP_sub h with h | h
    · exact Or.inl h
    · right
      rw [nodes1_eq, with_node, with_kids] at h
      simpa [nodesL] using h
theorem bringAll_sub : ∀ (D : List Plc) (T : List It) (k : Nat), OkBr T D → k ∈ nodesL (bringAll T D) → k ∈ nodesL T ∨ ∃ e ∈ D, k = e.1.node
  | [], _, _, _, h => Or.inl h
  | d :: D, T, k, hok, h => by
    obtain ⟨⟨E, h1, h2⟩, h3⟩ := hok
    rcases bringAll_sub D _ k h3 h with h4 | ⟨e, he, h4⟩
    · rcases bring_sub h4 (fun j => run_bring1 h1 h2 j) with h5 | h5
      · exact Or.inl h5
      · exact Or.inr ⟨d, by simp, h5⟩
    · exact Or.inr ⟨e, by simp [he], h4⟩
theorem T2_len {a b : List It} (ha : Unlike a) (hb : Unlike b) : (nodesL (T2 a b)).length ≤ (nodesL a).length + (nodesL b).length := by
  have u1 : Unlike (T1 a b) := cut_unlike _ ha
  have hD : Done (T2 a b) (plcL (-1) 0 b) := brought u1 hb
  have := nodup_sub (nodesL (T2 a b)) (nodesL a ++ nodesL b) hD.un (fun k hk => by
    rcases bringAll_sub _ _ k (bring_ok u1 hb) hk with h | ⟨e, he, rfl⟩
    · exact List.mem_append.mpr (Or.inl (((cut_sub (badA b)).2 a).subset h))
    · exact List.mem_append.mpr (Or.inr (node_inL (plc_mem.2 b (-1) 0 e he))))
  rw [List.length_append] at this
  exact this
theorem max_same {bad bad' : It → Bool} : (∀ x, (∀ z ∈ item1 x, bad z = bad' z) → max1 bad x = max1 bad' x ∧ cut1 bad x = cut1 bad' x) ∧ ∀ l, (∀ z ∈ itemL l, bad z = bad' z) → maxL bad l = maxL bad' l ∧ cutL bad l = cutL bad' l := by
  refine It.ind (fun x h hx => ?_) (fun _ => ⟨rfl, rfl⟩) (fun x xs h1 h2 hx => ?_)
  · obtain ⟨g1, g2⟩ := h (fun z hz => hx z (mem_item1.mpr (Or.inr hz)))
    rw [max1_eq, max1_eq, cut1_eq, cut1_eq, hx x (mem_item1.mpr (Or.inl rfl)), g1, g2]
    exact ⟨rfl, rfl⟩
  · obtain ⟨g1, g2⟩ := h1 (fun z hz => hx z (mem_itemL.mpr ⟨x, by simp, hz⟩))
    obtain ⟨g3, g4⟩ := h2 (fun z hz => by
      obtain ⟨y, hy, hz⟩ := mem_itemL.mp hz
      exact hx z (mem_itemL.mpr ⟨y, by simp [hy], hz⟩))
    rw [maxL, maxL, cutL, cutL, g1, g2, g3, g4, hx x (mem_itemL.mpr ⟨x, by simp, mem_item1.mpr (Or.inl rfl)⟩)]
    exact ⟨rfl, rfl⟩
/-- where all is brought nothing that is wanted is in what is not -/
theorem none_in {T b : List It} (h : Done T (plcL (-1) 0 b)) : (∀ z : It, z ∈ itemL T → keepB b z.node = false → ∀ k ∈ nodes1 z, keepB b k = false) ∧ ∀ l : List It, (∀ y ∈ l, y ∈ itemL T ∧ keepB b y.node = false) → ∀ k ∈ nodesL l, keepB b k = false := by
  refine It.ind (fun z ih hz hk k hm => ?_) (fun _ k hk => by simp [nodesL] at hk) (fun y ys h1 h2 hall k hk => ?_)
  · rw [nodes1_eq] at hm
    rcases List.mem_cons.mp hm with rfl | hm
    · exact hk
    · refine ih (fun y hy => ?_) k hm
      have hyT : y ∈ itemL T := item_kids.2 T z hz y (mem_itemL.mpr ⟨y, hy, mem_item1.mpr (Or.inl rfl)⟩)
      refine ⟨hyT, ?_⟩
      cases hkb : keepB b y.node with
      | false => rfl
      | true =>
        have hyb := keep_in.mp hkb
        obtain ⟨v, hv, ev⟩ := in_node hyb
        obtain ⟨e, he, ee⟩ := plc_each b hv
        have hat := h.at_ e he
        rw [ee, ev] at hat
        have hin1 : y.node ∈ kidsAt T e.2.1 := List.mem_of_getElem? hat
        have hin2 : y.node ∈ kidsAt T (z.node : Int) := by rw [kids_item h.un hz]; exact List.mem_map.mpr ⟨y, hy, rfl⟩
        have hpl := h.place (h.anc e he)
        have e3 := kids_one h.un hpl (Or.inr ⟨z, hz, rfl⟩) hin1 hin2
        rcases plc_par.2 b (-1) 0 e he with e4 | ⟨k', hk', e4⟩
        · omega
        · have : z.node = k' := by omega
          have h5 : keepB b z.node = true := keep_in.mpr (this ▸ hk')
          rw [hk] at h5
          cases h5
  · rw [nodesL] at hk
    rcases List.mem_append.mp hk with hk | hk
    · obtain ⟨g1, g2⟩ := hall y (by simp)
      exact h1 g1 g2 k hk
    · exact h2 (fun y' hy' => hall y' (by simp [hy'])) k hk
theorem bad_T2 {a b : List It} (ha : Unlike a) (hb : Unlike b) : maxL (badA b) (T2 a b) = maxL (badB b) (T2 a b) ∧ cutL (badA b) (T2 a b) = cutL (badB b) (T2 a b) := by
  have u1 : Unlike (T1 a b) := cut_unlike _ ha
  have hD : Done (T2 a b) (plcL (-1) 0 b) := brought u1 hb
  refine max_same.2 _ (fun z hz => ?_)
  unfold badA badB
  cases hk : keepB b z.node with
  | true =>
    rw [nodes1_eq, List.any_cons, hk]
    rfl
  | false =>
    have h1 := (none_in hD).1 z hz hk
    rw [List.any_eq_false.mpr (fun k hk2 => by rw [h1 k hk2]; simp)]
theorem max_sub (bad : It → Bool) : (∀ x, (max1 bad x).Sublist (nodes1 x)) ∧ ∀ l, (maxL bad l).Sublist (nodesL l) := by
  refine It.ind (fun x h => ?_) (List.Sublist.refl _) (fun x xs h1 h2 => ?_)
  · rw [max1_eq, nodes1_eq]
    split
    · exact (List.nil_sublist _).cons_cons x.node
    · exact h.cons _
  · rw [maxL, nodesL]
    exact h1.append h2
theorem max_bad (bad : It → Bool) : (∀ x, ∀ n ∈ max1 bad x, ∃ z ∈ item1 x, z.node = n ∧ bad z = true) ∧ ∀ l, ∀ n ∈ maxL bad l, ∃ z ∈ itemL l, z.node = n ∧ bad z = true := by
  refine It.ind (fun x h n hn => ?_) (fun n hn => by simp [maxL] at hn) (fun x xs h1 h2 n hn => ?_)
  · rw [max1_eq] at hn
    split at hn
    · rename_i hb
      rw [List.mem_singleton] at hn
      exact ⟨x, mem_item1.mpr (Or.inl rfl), hn.symm, hb⟩
    · obtain ⟨z, hz, e, hb⟩ := h n hn
      exact ⟨z, mem_item1.mpr (Or.inr hz), e, hb⟩
  · rw [maxL] at hn
    rcases List.mem_append.mp hn with hn | hn
    · obtain ⟨z, hz, e, hb⟩ := h1 n hn
      exact ⟨z, mem_itemL.mpr ⟨x, by simp, hz⟩, e, hb⟩
    · obtain ⟨z, hz, e, hb⟩ := h2 n hn
      obtain ⟨y, hy, hz⟩ := mem_itemL.mp hz
      exact ⟨z, mem_itemL.mpr ⟨y, by simp [hy], hz⟩, e, hb⟩
theorem max_T2 {a b : List It} (ha : Unlike a) (hb : Unlike b) : (maxL (badB b) (T2 a b)).length ≤ (nodesL a).length := by
  have u1 : Unlike (T1 a b) := cut_unlike _ ha
  have hD : Done (T2 a b) (plcL (-1) 0 b) := brought u1 hb
  refine nodup_sub _ _ (((max_sub (badB b)).2 _).nodup hD.un) (fun n hn => ?_)
  obtain ⟨z, hz, e, hbad⟩ := (max_bad (badB b)).2 _ n hn
  rcases bringAll_sub _ _ n (bring_ok u1 hb) (by rw [← e]; exact node_inL hz) with h | ⟨d, hd, e2⟩
  · exact ((cut_sub (badA b)).2 a).subset h
  · exfalso
    have h1 : keepB b z.node = true := keep_in.mpr (by rw [e, e2]; exact node_inL (plc_mem.2 b (-1) 0 d hd))
    unfold badB at hbad
    rw [h1] at hbad
    cases hbad
theorem tellAll_nodes : ∀ (ys T : List It), nodesL (tellAll T ys) = nodesL T
  | [], _ => rfl
  | _ :: ys, T => (tellAll_nodes ys _).trans (tel_nodes (with_node _ _) T)
theorem tellAll_app (T : List It) (a b : List It) : tellAll T (a ++ b) = tellAll (tellAll T a) b := by unfold tellAll; rw [List.foldl_append]
theorem says_tel {n : Nat} {y : It} (hy : y.node = n) (T : List It) {k : Nat} (hk : k ≠ n) : saysAt (telL n y T) k = saysAt T k := by
  unfold saysAt
  rw [(tel_items n y).2, List.find?_map]
  have : (fun x : It => decide (x.node = k)) ∘ tel1 n y = fun x => decide (x.node = k) := by
    funext x
    show decide ((tel1 n y x).node = k) = _
    rw [tel1_node hy]
  rw [this]
  cases hf : (itemL T).find? (fun x => decide (x.node = k)) with
  | none => rfl
  | some x =>
    have hx : x.node = k := by simpa using List.find?_some hf
    simp only [Option.map_some]
    congr 1
    cases x with
    | mk k0 r a b l c o ks =>
      have : k0 ≠ n := fun e => hk (by rw [← hx]; exact e)
      rw [tel1, if_neg this]
      rfl
theorem says_tellAll : ∀ (ys T : List It) (k : Nat), (∀ y ∈ ys, y.node ≠ k) → saysAt (tellAll T ys) k = saysAt T k
  | [], _, _, _ => rfl
  | y :: ys, T, k, h => by
    show saysAt (tellAll (telL y.node (y.with []) T) ys) k = _
    rw [says_tellAll ys _ k (fun z hz => h z (by simp [hz])), says_tel (with_node _ _) T (fun e => h y (by simp) e.symm)]
theorem T3_nodes {a b : List It} (ha : Unlike a) (hb : Unlike b) : nodesL (T3 a b) = nodesL b := by
  have u1 : Unlike (T1 a b) := cut_unlike _ ha
  have hD : Done (T2 a b) (plcL (-1) 0 b) := brought u1 hb
  have u3 : Unlike (cutL (badB b) (T2 a b)) := cut_unlike _ hD.un
  have hsub : ∀ y ∈ toTell (T3 a b) b, y ∈ itemL b := fun y hy => (List.mem_filter.mp hy).1
  have hnd : ((toTell (T3 a b) b).map It.node).Nodup := by
    have h1 := hb
    unfold Unlike at h1
    rw [nodesL_items] at h1
    exact (List.Sublist.map It.node (List.filter_sublist (l := itemL b))).nodup h1
  have hall : ∀ y ∈ itemL b, y ∉ toTell (T3 a b) b → ∀ x ∈ itemL (cutL (fun x => !keepB b x.node) (T2 a b)), x.node = y.node → x.says = y.says := fun y hy hno x hx e => by
    have h1 : saysAt (T3 a b) y.node = some y.says := by
      apply Classical.byContradiction
      intro hne
      exact hno (List.mem_filter.mpr ⟨hy, by simpa using hne⟩)
    have h2 : saysAt (T3 a b) x.node = some x.says := says_at u3 hx
    rw [e, h1] at h2
    exact (Option.some.inj h2).symm
  have e9 := turned hb hD hnd hsub hall
  have h2 : nodesL (tellAll (T3 a b) (toTell (T3 a b) b)) = nodesL b := congrArg nodesL e9
  rw [tellAll_nodes] at h2
  exact h2
/-- the items of those that were visited, that are told otherwise -/
def ttD (T : List It) (D : List Plc) : List It := (D.map (·.1)).filter (fun y => decide (saysAt T y.node ≠ some y.says))
theorem ttD_all (T b : List It) : ttD T (plcL (-1) 0 b) = toTell T b := by
  unfold ttD toTell
  rw [plc_items.2]
theorem ttD_next {T b : List It} (hb : Unlike b) {D : List Plc} {y : It} {p : Int} {i : Nat} (hp : D ++ [(y, p, i)] <+: plcL (-1) 0 b) :
    tellT (tellAll T (ttD T D)) y = tellAll T (ttD T (D ++ [(y, p, i)])) ∧ tellEv (tellAll T (ttD T D)) y = (if saysAt T y.node ≠ some y.says then [evTell y] else []) := by
  obtain ⟨r, hr⟩ := hp
  have hn : ((plcL (-1) 0 b).map (·.1.node)).Nodup := by
    have h1 := hb
    unfold Unlike at h1
    rw [nodesL_items, ← plc_items.2 b (-1) 0, List.map_map] at h1
    exact h1
  have hne : ∀ z ∈ ttD T D, z.node ≠ y.node := fun z hz e => by
    have hz2 := (List.mem_filter.mp hz).1
    obtain ⟨d, hd, ed⟩ := List.mem_map.mp hz2
    rw [← hr, List.map_append, List.map_append, List.nodup_append, List.nodup_append] at hn
    exact hn.1.2.2 d.1.node (List.mem_map.mpr ⟨d, hd, rfl⟩) y.node (by simp) (by rw [ed, e])
  have hs := says_tellAll (ttD T D) T y.node hne
  have e1 : ttD T (D ++ [(y, p, i)]) = ttD T D ++ (if saysAt T y.node ≠ some y.says then [y] else []) := by
    unfold ttD
    rw [List.map_append, List.filter_append]
    congr 1
    by_cases h : saysAt T y.node ≠ some y.says
    · rw [if_pos h]; simp [h]
    · rw [if_neg h]; simp at h; simp [h]
  unfold tellT tellEv
  rw [hs, e1]
  refine ⟨?_, rfl⟩
  by_cases h : saysAt T y.node ≠ some y.says
  · rw [if_pos h, if_pos h, tellAll_app]
    rfl
  · rw [if_neg h, if_neg h, List.append_nil]
theorem ttD_evs {T : List It} {D : List Plc} {y : It} {p : Int} {i : Nat} : (ttD T (D ++ [(y, p, i)])).map evTell = (ttD T D).map evTell ++ (if saysAt T y.node ≠ some y.says then [evTell y] else []) := by
  unfold ttD
  rw [List.map_append, List.filter_append, List.map_append]
  congr 1
  by_cases h : saysAt T y.node ≠ some y.says
  · rw [if_pos h]; simp [h]
  · rw [if_neg h]; simp at h; simp [h]
theorem ttD_len (T : List It) (D : List Plc) : (ttD T D).length ≤ D.length := by
  unfold ttD
  have := List.length_filter_le (fun y : It => decide (saysAt T y.node ≠ some y.says)) (D.map (·.1))
  simpa using this
theorem plc_len (b : List It) : (plcL (-1) 0 b).length = (nodesL b).length := by
  rw [nodesL_items, List.length_map, ← plc_items.2 b (-1) 0, List.length_map]
/-- not too many: what the walk of steps asks -/
structure Few (a b : List It) : Prop where
  la : (nodesL a).length ≤ 131072
  lb : (nodesL b).length ≤ 131072
  two : (maxL (badA b) a).length + (evsBring (T1 a b) (plcL (-1) 0 b)).length + (nodesL (T2 a b)).length ≤ 289000
  all : (maxL (badA b) a).length + (evsBring (T1 a b) (plcL (-1) 0 b)).length + (maxL (badA b) (T2 a b)).length + (nodesL b).length ≤ 289000
theorem few_sum {a b : List It} (ha : Unlike a) (hb : Unlike b) (h : (nodesL a).length + (nodesL b).length ≤ 131072) : Few a b := by
  have l1 := (max_len (badA b)).2 a
  have l2 := evsBring_len (plcL (-1) 0 b) (T1 a b)
  rw [plc_len] at l2
  have l3 := T2_len ha hb
  have l4 := max_T2 ha hb
  rw [← (bad_T2 ha hb).1] at l4
  exact ⟨by omega, by omega, by omega, by omega⟩
theorem few_evs {a b : List It} (ha : Unlike a) (hb : Unlike b) (h1 : (nodesL a).length ≤ 131072) (h2 : (nodesL b).length ≤ 131072) (h : (evsM a b).length ≤ 20) : Few a b := by
  have l3 := T2_len ha hb
  unfold evsM at h
  simp only [List.length_append, List.length_map] at h
  rw [← (bad_T2 ha hb).1] at h
  exact ⟨h1, h2, by omega, by omega⟩
end Go.Proofs.Ytgpckmolcdafcae

/-
  THE WALK of diff's needless.
-/
namespace Go.Proofs.Ytgpckmolcdafcae
open Go.RowKit Go.Maps

theorem top_kids {T : List It} : kidsAt T (-1) = topN T := rfl

theorem need_world {w : World} {x : Ax} (h : StAt w x) {G M c : Nat} {L : List Nat} (hG : w.cell? ⟨G, 0, none⟩ = some (.map (some M))) (hM : KeepAt w M c L) :
    ∃ W, ((((w.alloc (.cells #[.pointer (some ⟨x.S, 0, none⟩)] 61)).alloc (.cells #[.func (.func 33) #[] #[.pointer (some ⟨G, 0, none⟩)]] 74)).alloc (.cells #[.slice none 0 0] 39)).alloc (.cells #[.func (.func 56) #[] #[.pointer (some ⟨w.heap.size + 1 + 1, 0, none⟩), .pointer (some ⟨w.heap.size, 0, none⟩), .pointer (some ⟨w.heap.size + 1, 0, none⟩), .pointer (some ⟨w.heap.size + 1 + 1 + 1, 0, none⟩)]] 74)) = W ∧ LookCx W x (w.heap.size + 1 + 1) w.heap.size (w.heap.size + 1) (w.heap.size + 1 + 1 + 1) G M c L ∧ Acc W (w.heap.size + 1 + 1) (w.heap.size + 1 + 1 + 1 + 1) [] (.slice none 0 0) ∧ W.heap.size = w.heap.size + 1 + 1 + 1 + 1 ∧ Below w.heap.size w W := by
  have lG : G < w.heap.size := lt_of_cell hG
  have lM := hM.lt
  have lx := h.lt
  have B1 : Below w.heap.size w (w.alloc (.cells #[.pointer (some ⟨x.S, 0, none⟩)] 61)) := (Below.refl _ _).alloc (Nat.le_refl _) _
  have z1 : (w.alloc (.cells #[.pointer (some ⟨x.S, 0, none⟩)] 61)).heap.size = w.heap.size + 1 := by simp
  have q1 : (w.alloc (.cells #[.pointer (some ⟨x.S, 0, none⟩)] 61)).cell? ⟨w.heap.size, 0, none⟩ = some (.pointer (some ⟨x.S, 0, none⟩)) := cell_box _ _
  generalize w.alloc (.cells #[.pointer (some ⟨x.S, 0, none⟩)] 61) = w1 at *
  have B2 : Below w1.heap.size w1 (w1.alloc (.cells #[.func (.func 33) #[] #[.pointer (some ⟨G, 0, none⟩)]] 74)) := (Below.refl _ _).alloc (Nat.le_refl _) _
  have z2 : (w1.alloc (.cells #[.func (.func 33) #[] #[.pointer (some ⟨G, 0, none⟩)]] 74)).heap.size = w1.heap.size + 1 := by simp
  have q2 : (w1.alloc (.cells #[.func (.func 33) #[] #[.pointer (some ⟨G, 0, none⟩)]] 74)).cell? ⟨w1.heap.size, 0, none⟩ = some (.func (.func 33) #[] #[.pointer (some ⟨G, 0, none⟩)]) := cell_box _ _
  generalize w1.alloc (.cells #[.func (.func 33) #[] #[.pointer (some ⟨G, 0, none⟩)]] 74) = w2 at *
  have B3 : Below w2.heap.size w2 (w2.alloc (.cells #[.slice none 0 0] 39)) := (Below.refl _ _).alloc (Nat.le_refl _) _
  have z3 : (w2.alloc (.cells #[.slice none 0 0] 39)).heap.size = w2.heap.size + 1 := by simp
  have q3 : (w2.alloc (.cells #[.slice none 0 0] 39)).cell? ⟨w2.heap.size, 0, none⟩ = some (.slice none 0 0) := cell_box _ _
  have f3 : (w2.alloc (.cells #[.slice none 0 0] 39)).frozen? ⟨w2.heap.size, 0, none⟩ = false := World.frozen?_alloc_new _ _ _ _
  generalize w2.alloc (.cells #[.slice none 0 0] 39) = w3 at *
  have q4 : (w3.alloc (.cells #[.func (.func 56) #[] #[.pointer (some ⟨w.heap.size + 1 + 1, 0, none⟩), .pointer (some ⟨w.heap.size, 0, none⟩), .pointer (some ⟨w.heap.size + 1, 0, none⟩), .pointer (some ⟨w.heap.size + 1 + 1 + 1, 0, none⟩)]] 74)).cell? ⟨w3.heap.size, 0, none⟩ = some (.func (.func 56) #[] #[.pointer (some ⟨w.heap.size + 1 + 1, 0, none⟩), .pointer (some ⟨w.heap.size, 0, none⟩), .pointer (some ⟨w.heap.size + 1, 0, none⟩), .pointer (some ⟨w.heap.size + 1 + 1 + 1, 0, none⟩)]) := cell_box _ _
  have B4 : Below w3.heap.size w3 (w3.alloc (.cells #[.func (.func 56) #[] #[.pointer (some ⟨w.heap.size + 1 + 1, 0, none⟩), .pointer (some ⟨w.heap.size, 0, none⟩), .pointer (some ⟨w.heap.size + 1, 0, none⟩), .pointer (some ⟨w.heap.size + 1 + 1 + 1, 0, none⟩)]] 74)) := (Below.refl _ _).alloc (Nat.le_refl _) _
  have z4 : (w3.alloc (.cells #[.func (.func 56) #[] #[.pointer (some ⟨w.heap.size + 1 + 1, 0, none⟩), .pointer (some ⟨w.heap.size, 0, none⟩), .pointer (some ⟨w.heap.size + 1, 0, none⟩), .pointer (some ⟨w.heap.size + 1 + 1 + 1, 0, none⟩)]] 74)).heap.size = w3.heap.size + 1 := by simp
  refine ⟨_, rfl, ?_⟩
  generalize w3.alloc (.cells #[.func (.func 56) #[] #[.pointer (some ⟨w.heap.size + 1 + 1, 0, none⟩), .pointer (some ⟨w.heap.size, 0, none⟩), .pointer (some ⟨w.heap.size + 1, 0, none⟩), .pointer (some ⟨w.heap.size + 1 + 1 + 1, 0, none⟩)]] 74) = w4 at *
  have B34 : Below w2.heap.size w2 w4 := B3.trans (B4.mono B3.size)
  have B24 : Below w1.heap.size w1 w4 := B2.trans (B34.mono B2.size)
  have B14 : Below w.heap.size w w4 := B1.trans (B24.mono B1.size)
  have q1' := keeps_below B24 (Nat.le_refl _) _ _ q1
  have q2' := keeps_below B34 (Nat.le_refl _) _ _ q2
  have q3' := keeps_below B4 (Nat.le_refl _) _ _ q3
  have f3' := (B4.frozen (p := ⟨w2.heap.size, 0, none⟩) (by simp only; omega)).trans f3
  rw [z1] at q2'
  rw [z2, z1] at q3' f3'
  rw [z3, z2, z1] at q4
  rw [z3, z2, z1] at z4
  refine ⟨⟨h.below B14, q1', q2', q4, keeps_below B14 (Nat.le_refl _) _ _ hG, hM.below B14, fun hf => ?_, ?_, ?_, ?_, ?_, ?_⟩, ⟨q3', f3', OwnI.nil _ _⟩, z4, B14⟩
  · have := lx _ hf; omega
  all_goals omega

set_option maxHeartbeats 3200000 in
set_option maxRecDepth 100000 in
theorem hneedless_any {w : World} {x : Ax} {T : List It} (h : StAt w x) (hT : Rp x.ar x.nm T) (hb : ∀ n ∈ nodesL T, n < 9223372036854775808) (hz : (nodesL T).length ≤ 800000) {G M c : Nat} {L : List Nat} (hG : w.cell? ⟨G, 0, none⟩ = some (.map (some M))) (hM : KeepAt w M c L) :
    Calls Try.prog 48 #[.pointer (some ⟨x.S, 0, none⟩), .func (.func 33) #[] #[.pointer (some ⟨G, 0, none⟩)]] w fun e w' => ∃ v, e = .returned v ∧ OwnI w' w.heap.size v (maxL (badL L) T) ∧ Below w.heap.size w w' := by
  have hst : ∀ (W : World) (a : Addr) (fn : Fn) (x y : Array Value), Sem.run Try.prog (store a (.func fn x y)) W = stored Try.prog W a (.func fn x y) .plain := fun W a fn x y => run_store Try.prog W a (.func fn x y) .plain rfl
  have hmf : ∀ (fn : Fn) (first cap : Array Value) (w : World), (Instr.makeFunc fn first cap).run Try.prog w = .ok (.func fn first cap) w := fun _ _ _ _ => rfl
  obtain ⟨W, hW, hcx, hacc, hz4, hB⟩ := need_world h hG hM
  have HW : Hid (_ = W) := hW
  obtain ⟨p, c2, LI⟩ := hcx.st.spot hT.root
  have hlen : ((kidsAt T (-1)).map (ixOf x.nm)).length = T.length := by rw [top_kids]; simp [topN]
  have HKV : Hid (x.kvs[0]? = some (.slice p ((kidsAt T (-1)).map (ixOf x.nm)).length c2)) := LI.kv
  have HSP : Hid (x.ar[0]? = some ⟨item0, -1, (kidsAt T (-1)).map (ixOf x.nm)⟩) := hT.root
  have s0 := hcx.st.s0
  have cS := hcx.cS
  have hcap := hcx.st.cap.1
  have hcap2 := hcx.st.cap.2
  have hlt := LI.lt
  have c9 := LI.at_.c9
  rw [hlen] at c9
  have hkc : T.length ≤ c2 := by have := LI.le; simp only [hlen] at this; exact this
  have hkm : c2 ≤ 9223372036854775807 := LI.max
  have hSub : ∀ y ∈ T, Subs x.ar (ixOf x.nm) y := fun y hy => hT.sub (mem_itemL.mpr ⟨y, hy, mem_item1.mpr (Or.inl rfl)⟩)
  have TT : Hid (∀ wr, But W.heap.size (w.heap.size + 1 + 1) W wr → wr.cell? ⟨w.heap.size + 1 + 1 + 1, 0, none⟩ = some (.func (.func 56) #[] #[.pointer (some ⟨w.heap.size + 1 + 1, 0, none⟩), .pointer (some ⟨w.heap.size, 0, none⟩), .pointer (some ⟨w.heap.size + 1, 0, none⟩), .pointer (some ⟨w.heap.size + 1 + 1 + 1, 0, none⟩)]) ∧ ∀ j (hj : j < T.length), ∃ b o, p = some ⟨b, o, none⟩ ∧ wr.cell? ⟨b, o + j, none⟩ = some (.int .i64 (ixOf x.nm (T[j]).node : Nat))) := by
    intro wr hg
    have hx := hcx.but hg (Nat.le_refl _)
    have L2 := hx.st.again (s := ⟨item0, -1, (kidsAt T (-1)).map (ixOf x.nm)⟩) HSP.out HKV.out
    refine ⟨hx.cL, fun j hj => ?_⟩
    obtain ⟨b, o, e1, e2⟩ := L2.ints j (by simp only [hlen]; exact hj)
    refine ⟨b, o, e1, ?_⟩
    rw [e2]
    simp [top_kids, topN]
  have LK : Hid (∀ j (hj : j < T.length) acc va wr, But W.heap.size (w.heap.size + 1 + 1) W wr → Acc wr (w.heap.size + 1 + 1) W.heap.size acc va → (acc ++ nodes1 T[j]).length ≤ 900000 → Calls Try.prog 56 #[.int .i64 (ixOf x.nm T[j].node : Nat), .pointer (some ⟨w.heap.size + 1 + 1, 0, none⟩), .pointer (some ⟨w.heap.size, 0, none⟩), .pointer (some ⟨w.heap.size + 1, 0, none⟩), .pointer (some ⟨w.heap.size + 1 + 1 + 1, 0, none⟩)] wr fun e w' =>
        e = .returned (.bool (!badL L T[j])) ∧ But W.heap.size (w.heap.size + 1 + 1) W w' ∧ ∃ va', Acc w' (w.heap.size + 1 + 1) W.heap.size (acc ++ max1 (badL L) T[j]) va') := fun j hj acc va wr h1 h2 h3 =>
    hlook_any rfl (by omega) hcx (ixOf x.nm) _ T[j] acc va wr (hSub _ (List.getElem_mem hj)) (Nat.le_refl _) (fun n hn => hb n (mem_nodes1L (List.getElem_mem hj) hn)) h1 h2 h3
  have HACC : Hid (Acc W (w.heap.size + 1 + 1) W.heap.size [] (.slice none 0 0)) := by show Acc _ _ _ _ _; rw [hz4]; exact hacc
  have HB : Hid (Below w.heap.size w W) := hB
  have HZ4 : Hid (W.heap.size = w.heap.size + 1 + 1 + 1 + 1) := hz4
  have HZ : Hid ((nodesL T).length ≤ 800000) := hz
  clear h hT hb hz hG hM hW hcx hacc hz4 hB LI hlen HKV HSP hSub
  go_enter Try.func48, Try.ntmps48
  go_upto_region 4 with fail
  rw [HW.out]
  clear HW
  go_wp2_with fail
  generalize hA : w.heap.size + 1 + 1 = A at *
  go_loopw [18] (fun iv wr => ∃ (j : Nat) (va : Value), j ≤ T.length ∧ iv = .int .i64 j ∧ Hid (But W.heap.size A W wr) ∧ Hid (Acc wr A W.heap.size (maxL (badL L) (T.take j)) va)) (fun iv _ => T.length - (intOf iv).toNat)
  case atStart => exact ⟨0, _, Nat.zero_le _, rfl, But.refl _ _ _, (by show Acc _ _ _ _ _; simpa [maxL] using HACC.out)⟩
  case round =>
    obtain ⟨j, va, hj, rfl, HBr, HAr⟩ := hrel
    by_cases hlt2 : j < T.length
    · obtain ⟨cL, hT⟩ := TT.out wr HBr.out
      obtain ⟨b, o, rfl, cj⟩ := hT j hlt2
      have IC := LK.out j hlt2 _ va wr HBr.out HAr.out (by
        have h1 := (max_len (badL L)).2 (T.take j)
        have h2 : (nodesL (T.take (j + 1))).length ≤ (nodesL T).length := nodesL_take_le _ _
        rw [List.take_succ_eq_append_getElem hlt2, nodesL_app, List.length_append, nodesL_len1] at h2
        have h3 := HZ.out
        rw [List.length_append]
        omega)
      have E2 : Hid (maxL (badL L) (T.take (j + 1)) = maxL (badL L) (T.take j) ++ max1 (badL L) T[j]) := max_take _ _ _ hlt2
      clear hT c9 s0 cS
      generalize max1 (badL L) T[j] = mk at *
      generalize badL L T[j] = bk at *
      generalize ixOf x.nm (T[j]).node = kk at *
      go_wp2_with (go_at_call 56; refine IC.mono ?_; clear IC; rintro e w6 ⟨rfl, t1, va6, t2⟩; have HB6 : Hid (But W.heap.size A W w6) := t1; have HA6 : Hid (Acc w6 A W.heap.size (maxL (badL L) (T.take j) ++ mk) va6) := t2; clear t1 t2)
      go_roundw
      case rel => exact ⟨j + 1, va6, by omega, by go_num, HB6, (by show Acc _ _ _ _ _; rw [E2.out]; exact HA6.out)⟩
      case measure => simp [intOf]; omega
    · obtain rfl : j = T.length := by omega
      rw [List.take_length] at HAr
      have hA2 := HAr.out.a
      go_wp2_with fail
      go_ret
      refine ⟨_, rfl, ?_, ?_⟩
      · obtain ⟨q1, q2⟩ := HAr.out.own
        refine ⟨q1, ?_⟩
        rcases q2 with q2 | ⟨g, cap, cur, e, q3, q4⟩
        · exact Or.inl q2
        · exact Or.inr ⟨g, cap, cur, e, by have := HZ4.out; omega, q4⟩
      · have := HZ4.out
        exact HB.out.trans (HBr.out.below (by omega) (by omega))
end Go.Proofs.Ytgpckmolcdafcae

/-
  THE WALK of diff.removeNeedless.
-/
namespace Go.Proofs.Ytgpckmolcdafcae
open Go.RowKit Go.Maps

theorem okRm_at : ∀ (ns : List Nat) (T : List It) (j : Nat) (h : j < ns.length), OkRm T ns → ns[j] ∈ nodesL (rmAll T (ns.take j))
  | [], _, _, h, _ => by simp at h
  | n :: ns, T, 0, _, h => h.1
  | n :: ns, T, j + 1, hj, h => by
    rw [List.take_succ_cons, List.getElem_cons_succ]
    exact okRm_at ns (rmL n T) j (by simpa using hj) h.2
theorem rmAll_next (T : List It) (ns : List Nat) (j : Nat) (h : j < ns.length) : rmL ns[j] (rmAll T (ns.take j)) = rmAll T (ns.take (j + 1)) := by
  rw [List.take_succ_eq_append_getElem h, rmAll_app]
  rfl

set_option maxHeartbeats 3200000 in
set_option maxRecDepth 100000 in
theorem hrmneed_any {w : World} {s : Sx} (h : SdAt w s) (hms : s.ms.length + (nodesL s.T).length ≤ 289000) {G M c : Nat} {L : List Nat} (hG : w.cell? ⟨G, 0, none⟩ = some (.map (some M))) (hM : KeepAt w M c L) :
    Calls Try.prog 34 #[.pointer (some ⟨s.x.S, 0, none⟩), .func (.func 33) #[] #[.pointer (some ⟨G, 0, none⟩)], tellF s] w fun e w' => e = .returned (.tuple #[]) ∧ ∃ s', SdAt w' s' ∧ Fz s s' w w' ∧ s'.T = cutL (badL L) s.T ∧ s'.ms = s.ms ++ (maxL (badL L) s.T).map evRm := by
  have C := hneedless_any h.st h.rp h.nb (by omega) hG hM
  obtain ⟨r1, r2⟩ := (rm_max (badL L)).2 s.T h.rp.un
  have hlen := (max_len (badL L)).2 s.T
  have hlt : ∀ n ∈ maxL (badL L) s.T, n < 9223372036854775808 := fun n hn => h.nb n ((max_in (badL L)).2 _ n hn)
  rw [← r1]
  unfold tellF
  have HS : Hid (SdAt w s) := h
  have HLT : Hid (∀ k, s.foot k → k < w.heap.size) := h.lt
  have HOK : Hid (OkRm s.T (maxL (badL L) s.T)) := r2
  have HN : Hid (∀ n ∈ maxL (badL L) s.T, n < 9223372036854775808) := hlt
  have HM : Hid (s.ms.length + (maxL (badL L) s.T).length ≤ 289000) := by show _ ≤ _; omega
  clear hM hG h hms r1 r2 hlen hlt
  generalize maxL (badL L) s.T = ns at *
  go_enter Try.func34, Try.ntmps34
  go_wp2_with (go_at_call 48; refine C.mono ?_; clear C; rintro e w1 ⟨v1, rfl, ho1, hb1⟩; obtain ⟨q1, c1, e1, i1, i2, i3⟩ := (ints_of_owns ho1).at; subst e1)
  have T1 : Hid (∀ j (hj : j < ns.length), ∃ b o, q1 = some ⟨b, o, none⟩ ∧ w1.cell? ⟨b, o + j, none⟩ = some (.int .i64 (ns[j] : Int)) ∧ ¬ s.foot b) := fun j hj => by
    obtain ⟨b, o, e1, e2⟩ := i3.2 j hj
    refine ⟨b, o, e1, e2, fun hf => ?_⟩
    have hL := ho1.lt b (by rw [e1]; rfl)
    have := HLT.out b hf
    omega
  have HS1 : Hid (SdAt w1 s) := HS.out.below hb1
  have HB1 : Hid (Below w.heap.size w w1) := hb1
  clear i3 ho1 hb1
  go_loopw [12] (fun iv wr => ∃ (j : Nat) (sj : Sx), j ≤ ns.length ∧ iv = .int .i64 j ∧ Hid (SdAt wr sj) ∧ Hid (Fz s sj w1 wr) ∧ Hid (sj.T = rmAll s.T (ns.take j)) ∧ Hid (sj.ms = s.ms ++ (ns.take j).map evRm)) (fun iv _ => ns.length - (intOf iv).toNat)
  case atStart => exact ⟨0, s, Nat.zero_le _, rfl, HS1, Fz.refl _ _, rfl, (by show _ = _; simp)⟩
  case round =>
    obtain ⟨j, sj, hj, rfl, HSj, HFj, HTj, HMj⟩ := hrel
    by_cases hlt : j < ns.length
    · obtain ⟨b, o, rfl, cj0, hnb⟩ := T1.out j hlt
      have cj := HFj.out.cell cj0 hnb
      have hnn := HN.out _ (List.getElem_mem hlt)
      have hin : ns[j] ∈ nodesL sj.T := by rw [HTj.out]; exact okRm_at ns s.T j hlt HOK.out
      have TL : Calls Try.prog 32 #[.agg #[.int .i64 1, .int .i64 (ns[j] : Int), .int .i64 0, .int .i64 0, .int .i64 0, .int .i64 0, .string ⟨#[]⟩, .string ⟨#[]⟩, .int .i64 0, .int .i64 0, .bool false, .slice none 0 0], .pointer (some ⟨sj.x.S, 0, none⟩), .pointer (some ⟨sj.E, 0, none⟩)] wr fun e w' => e = .returned (.tuple #[]) ∧ ∃ s', SdAt w' s' ∧ Fz sj s' wr w' ∧ s'.T = rmL ns[j] sj.T ∧ s'.ms = sj.ms ++ [evRm ns[j]] :=
        htell_any HSj.out (by have := HM.out; rw [HMj.out, List.length_append, List.length_map, List.length_take]; omega) (m := evRm ns[j]) (T2 := rmL ns[j] sj.T) (n := ns[j]) rfl hnn (by show (0 : Int) < _; omega) rfl (by show (0 : Nat) < _; omega) (by show (1 : Int) ≠ 5; decide) (apply_rm hin)
      rw [HFj.out.S, HFj.out.E] at TL
      have E1 : Hid (rmL ns[j] sj.T = rmAll s.T (ns.take (j + 1))) := by show _ = _; rw [HTj.out, rmAll_next _ _ _ hlt]
      have E2 : Hid (sj.ms ++ [evRm ns[j]] = s.ms ++ (ns.take (j + 1)).map evRm) := by show _ = _; rw [HMj.out, List.take_succ_eq_append_getElem hlt, List.map_append, List.append_assoc]; rfl
      clear cj0 hnb hnn hin
      generalize ns[j] = n at *
      go_wp2_with (go_at_call 32; refine TL.mono ?_; clear TL; rintro e w7 ⟨rfl, s7, t1, t2, t3, t4⟩; have R1 : Hid (SdAt w7 s7) := t1; have R2 : Hid (Fz s s7 w1 w7) := HFj.out.trans t2; have R3 : Hid (s7.T = rmAll s.T (ns.take (j + 1))) := t3.trans E1.out; have R4 : Hid (s7.ms = s.ms ++ (ns.take (j + 1)).map evRm) := t4.trans E2.out; clear t1 t2 t3 t4)
      go_roundw
      case rel => exact ⟨j + 1, s7, by omega, by go_num, R1, R2, R3, R4⟩
      case measure => simp [intOf]; omega
    · obtain rfl : j = ns.length := by omega
      rw [List.take_length] at HTj HMj
      go_wp2_with fail
      go_end0
      exact ⟨rfl, sj, HSj.out, (Fz.below HB1.out).trans HFj.out, HTj.out, HMj.out⟩
end Go.Proofs.Ytgpckmolcdafcae

/-
  THE WALKS of the functions in diff.steps that visit items.
-/
namespace Go.Proofs.Ytgpckmolcdafcae
open Go.RowKit Go.Maps

set_option maxHeartbeats 3200000 in
set_option maxRecDepth 100000 in
theorem hsteps3_any {w : World} {s : Sx} (h : SdAt w s) {B8 : Nat} (c8 : w.cell? ⟨B8, 0, none⟩ = some (tellF s)) (hms : s.ms.length ≤ 289000) {y : It} {p : Int} {i : Nat} (hp : Place s.T p) (hpl : p < 9223372036854775808) (hyn : y.node < 9223372036854775808) (hok : runM 0 s.T (evBring s.T y p i) = .ok (bring s.T y p i)) (pk : Option Addr) (n c : Nat) :
    Calls Try.prog 36 #[itA y (.slice pk n c), .int .i64 p, .int .i64 (i : Int), .pointer (some ⟨s.x.S, 0, none⟩), .pointer (some ⟨B8, 0, none⟩)] w fun e w' => e = .returned (.tuple #[]) ∧ ∃ s', SdAt w' s' ∧ Fz s s' w w' ∧ s'.T = bring s.T y p i ∧ s'.ms = s.ms ++ evBring s.T y p i := by
  unfold itA
  have B1 : Below w.heap.size w (w.alloc (.cells #[.int .i64 (y.node : Int), .int .i64 y.role, .string y.name, .string y.about, .int .i64 y.level, .int .i64 y.checked, .bool y.off, .slice pk n c] 26)) := (Below.refl _ _).alloc (Nat.le_refl _) _
  have BX := box8_new w (.int .i64 (y.node : Int)) (.int .i64 y.role) (.string y.name) (.string y.about) (.int .i64 y.level) (.int .i64 y.checked) (.bool y.off) (.slice pk n c) 26
  have C := hbring_any (h.below B1) hms hp hpl hyn hok pk n c
  have HF : Hid (Fz s s w _) := Fz.below B1
  have k8 := keeps_below B1 (Nat.le_refl _) _ _ c8
  unfold tellF at C k8
  clear h c8 hok hp hpl hyn B1
  generalize bring s.T y p i = T2 at *
  generalize evBring s.T y p i = m2 at *
  obtain ⟨b0, b1, b2, b3, b4, b5, b6, b7⟩ := BX
  go_enter Try.func36, Try.ntmps36
  go_upto_region 1 with fail
  generalize w.alloc (.cells #[.int .i64 (y.node : Int), .int .i64 y.role, .string y.name, .string y.about, .int .i64 y.level, .int .i64 y.checked, .bool y.off, .slice pk n c] 26) = W at *
  go_wp2_with (go_at_call 37; refine C.mono ?_; clear C; rintro e w7 ⟨rfl, s7, t1, t2, t3, t4⟩; have R7 : Hid (∃ s', SdAt w7 s' ∧ Fz s s' w w7 ∧ s'.T = T2 ∧ s'.ms = s.ms ++ m2) := ⟨s7, t1, HF.out.trans t2, t3, t4⟩; clear t1 t2 t3 t4)
  go_end0
  exact ⟨rfl, R7.out⟩

set_option maxHeartbeats 3200000 in
set_option maxRecDepth 100000 in
theorem hsteps4_any {w : World} {s : Sx} (h : SdAt w s) {B8 : Nat} (c8 : w.cell? ⟨B8, 0, none⟩ = some (tellF s)) (hms : s.ms.length ≤ 289000) {y : It} (hyn : y.node < 9223372036854775808) (hin : y.node ∈ nodesL s.T) (p i : Int) (pk : Option Addr) (n c : Nat) :
    Calls Try.prog 38 #[itA y (.slice pk n c), .int .i64 p, .int .i64 i, .pointer (some ⟨s.x.S, 0, none⟩), .pointer (some ⟨B8, 0, none⟩)] w fun e w' => e = .returned (.tuple #[]) ∧ ∃ s', SdAt w' s' ∧ Fz s s' w w' ∧ s'.T = tellT s.T y ∧ s'.ms = s.ms ++ tellEv s.T y := by
  unfold itA
  have B1 : Below w.heap.size w (w.alloc (.cells #[.int .i64 (y.node : Int), .int .i64 y.role, .string y.name, .string y.about, .int .i64 y.level, .int .i64 y.checked, .bool y.off, .slice pk n c] 26)) := (Below.refl _ _).alloc (Nat.le_refl _) _
  have BX := box8_new w (.int .i64 (y.node : Int)) (.int .i64 y.role) (.string y.name) (.string y.about) (.int .i64 y.level) (.int .i64 y.checked) (.bool y.off) (.slice pk n c) 26
  have C := hcorrect_any (h.below B1) hms hyn hin pk n c
  have HF : Hid (Fz s s w _) := Fz.below B1
  have k8 := keeps_below B1 (Nat.le_refl _) _ _ c8
  unfold tellF at C k8
  clear h c8 hyn hin B1
  generalize tellT s.T y = T2 at *
  generalize tellEv s.T y = m2 at *
  obtain ⟨b0, b1, b2, b3, b4, b5, b6, b7⟩ := BX
  go_enter Try.func38, Try.ntmps38
  go_upto_region 1 with fail
  generalize w.alloc (.cells #[.int .i64 (y.node : Int), .int .i64 y.role, .string y.name, .string y.about, .int .i64 y.level, .int .i64 y.checked, .bool y.off, .slice pk n c] 26) = W at *
  go_wp2_with (go_at_call 39; refine C.mono ?_; clear C; rintro e w7 ⟨rfl, s7, t1, t2, t3, t4⟩; have R7 : Hid (∃ s', SdAt w7 s' ∧ Fz s s' w w7 ∧ s'.T = T2 ∧ s'.ms = s.ms ++ m2) := ⟨s7, t1, HF.out.trans t2, t3, t4⟩; clear t1 t2 t3 t4)
  go_end0
  exact ⟨rfl, R7.out⟩

/-- the first visit brings -/
theorem visit3 {wK : World} {s0 : Sx} {B8 : Nat} (c8 : wK.cell? ⟨B8, 0, none⟩ = some (tellF s0)) (n8 : ¬ s0.foot B8) {T b : List It} (hok : OkBr T (plcL (-1) 0 b)) (bb : ∀ k ∈ nodesL b, k < 9223372036854775808) (m0 : List EvM) (hz : m0.length + (nodesL b).length ≤ 289000) :
    Visit3 wK s0 s0.x.S B8 (plcL (-1) 0 b) (fun D s => s.T = bringAll T D ∧ s.ms = m0 ++ evsBring T D) := by
  intro w s D y p i pk n c hs hf hR hpre
  obtain ⟨r, hr⟩ := hpre
  rw [List.append_assoc, List.singleton_append] at hr
  rw [← hr] at hok
  obtain ⟨E, h1, h2⟩ := okBr_at D T (y, p, i) r hok
  have hmem : (y, p, i) ∈ plcL (-1) 0 b := by rw [← hr]; simp
  have hyb : y.node < 9223372036854775808 := bb _ (node_inL (plc_mem.2 b (-1) 0 _ hmem))
  have hpb : p < 9223372036854775808 := by
    rcases plc_par.2 b (-1) 0 _ hmem with e | ⟨k, hk, e⟩
    · have e : p = -1 := e
      omega
    · have e : p = (k : Int) := e
      have := bb k hk
      omega
  have c8' : w.cell? ⟨B8, 0, none⟩ = some (tellF s) := by
    have h3 := hf.cell c8 n8
    unfold tellF at h3 ⊢
    rw [hf.S, hf.E]
    exact h3
  have hl : s.ms.length ≤ 289000 := by
    have e := plc_len b
    rw [← hr, List.length_append, List.length_cons] at e
    have := evsBring_len D T
    rw [hR.2, List.length_append]
    omega
  have hrun := run_bring1 h1 h2 0
  rw [← hR.1] at hrun h1
  have := hsteps3_any hs c8' hl (h1.place h2.anc) hpb hyb hrun pk n c
  rw [hf.S] at this
  refine this.mono ?_
  rintro e w' ⟨rfl, s', t1, t2, t3, t4⟩
  refine ⟨rfl, s', t1, t2, ?_, ?_⟩
  · rw [t3, bringAll_app, hR.1]
    rfl
  · rw [t4, evsBring_app, evsBring_one, hR.2, hR.1, List.append_assoc]
/-- the second one tells otherwise -/
theorem visit4 {wK : World} {s0 : Sx} {B8 : Nat} (c8 : wK.cell? ⟨B8, 0, none⟩ = some (tellF s0)) (n8 : ¬ s0.foot B8) {T b : List It} (ub : Unlike b) (hT : nodesL T = nodesL b) (bb : ∀ k ∈ nodesL b, k < 9223372036854775808) (m0 : List EvM) (hz : m0.length + (nodesL b).length ≤ 289000) :
    Visit4 wK s0 s0.x.S B8 (plcL (-1) 0 b) (fun D s => s.T = tellAll T (ttD T D) ∧ s.ms = m0 ++ (ttD T D).map evTell) := by
  intro w s D y p i pk n c hs hf hR hpre
  obtain ⟨e1, e2⟩ := ttD_next (T := T) ub hpre
  have e3 := ttD_evs (T := T) (D := D) (y := y) (p := p) (i := i)
  obtain ⟨r, hr⟩ := hpre
  have hmem : (y, p, i) ∈ plcL (-1) 0 b := by rw [← hr]; simp
  have hyin := node_inL (plc_mem.2 b (-1) 0 _ hmem)
  have hyb : y.node < 9223372036854775808 := bb _ hyin
  have c8' : w.cell? ⟨B8, 0, none⟩ = some (tellF s) := by
    have h3 := hf.cell c8 n8
    unfold tellF at h3 ⊢
    rw [hf.S, hf.E]
    exact h3
  have hl : s.ms.length ≤ 289000 := by
    have e := plc_len b
    rw [← hr, List.length_append, List.length_append] at e
    have := ttD_len T D
    rw [hR.2, List.length_append, List.length_map]
    omega
  have := hsteps4_any hs c8' hl hyb (by rw [hR.1, tellAll_nodes, hT]; exact hyin) p (i : Int) pk n c
  rw [hf.S] at this
  refine this.mono ?_
  rintro e w' ⟨rfl, s', t1, t2, t3, t4⟩
  refine ⟨rfl, s', t1, t2, ?_, ?_⟩
  · rw [t3, hR.1, e1]
  · rw [t4, hR.1, e2, hR.2, e3, List.append_assoc]
end Go.Proofs.Ytgpckmolcdafcae

/-
  THE WALK of diff.Apply.
-/
namespace Go.Proofs.Ytgpckmolcdafcae
open Go.RowKit Go.Maps

theorem apply_err {T : List It} {m : EvM} {c : Int} (h : applyM T m = .error c) : c = 1 ∨ c = 3 ∨ c = 6 ∨ c = 7 ∨ c = 8 ∨ c = 9 := by
  obtain ⟨kind, node, tgt, at_, y⟩ := m
  by_cases k5 : kind = 5
  · subst k5; rw [app5] at h; cases h
  by_cases k2 : kind = 2
  · subst k2
    rw [app2] at h
    split at h; · cases h; simp
    split at h; · cases h; simp
    split at h; · cases h; simp
    split at h; · cases h; simp
    cases h
  by_cases k3 : kind = 3
  · subst k3
    rw [app3] at h
    cases hf : findI T node with
    | none => rw [hf] at h; cases h; simp
    | some x =>
      rw [hf] at h
      simp only at h
      split at h; · cases h; simp
      split at h; · cases h; simp
      split at h; · cases h; simp
      cases h
  by_cases k1 : kind = 1
  · subst k1
    rw [app1] at h
    split at h
    · cases h
    · cases h; simp
  by_cases k4 : kind = 4
  · subst k4
    rw [app4] at h
    split at h; · cases h; simp
    split at h; · cases h; simp
    cases h
  · unfold applyM at h
    rw [if_neg k5, if_neg k2, if_neg k3, if_neg k1, if_neg k4] at h
    cases h; simp
theorem EvOk.frame {w w' : World} {P Q : Nat → Prop} {m : EvM} {n : Nat} {z : Int} {kv : Value} (h : EvOk w P m n z kv) (hf : ∀ g, P g → g < w.heap.size → w'.heap[g]? = w.heap[g]? ∧ Q g) : EvOk w' Q m n z kv :=
  ⟨h.node, h.nlt, h.tlt, h.z52, h.z4, h.shape, fun e => ⟨(h.a5 e).1.frame hf, (h.a5 e).2⟩, h.few, h.i2⟩

/-- an event of a row, as it reads -/
structure EvAt (w : World) (P : Nat → Prop) (b o : Nat) (m : EvM) (n : Nat) (z : Int) (kv : Value) : Prop where
  ok : EvOk w P m n z kv
  c0 : w.cell? ⟨b, o, none⟩ = some (.int .i64 m.kind)
  c1 : w.cell? ⟨b, o + 1, none⟩ = some (.int .i64 (n : Int))
  c2 : w.cell? ⟨b, o + 2, none⟩ = some (.int .i64 m.tgt)
  c3 : w.cell? ⟨b, o + 3, none⟩ = some (.int .i64 m.at_)
  c4 : w.cell? ⟨b, o + 4, none⟩ = some (.int .i64 z)
  c5 : w.cell? ⟨b, o + 5, none⟩ = some (.int .i64 m.item.role)
  c6 : w.cell? ⟨b, o + 6, none⟩ = some (.string m.item.name)
  c7 : w.cell? ⟨b, o + 7, none⟩ = some (.string m.item.about)
  c8 : w.cell? ⟨b, o + 8, none⟩ = some (.int .i64 m.item.level)
  c9 : w.cell? ⟨b, o + 9, none⟩ = some (.int .i64 m.item.checked)
  c10 : w.cell? ⟨b, o + 10, none⟩ = some (.bool m.item.off)
  c11 : w.cell? ⟨b, o + 11, none⟩ = some kv
theorem EvAt.frame {w w' : World} {P Q : Nat → Prop} {b o : Nat} {m : EvM} {n : Nat} {z : Int} {kv : Value} (h : EvAt w P b o m n z kv) (hb : P b) (hf : ∀ g, P g → g < w.heap.size → w'.heap[g]? = w.heap[g]? ∧ Q g) : EvAt w' Q b o m n z kv := by
  have e := (hf b hb (lt_of_cell h.c0)).1
  exact ⟨h.ok.frame hf, by rw [← h.c0]; exact World.cell?_of_block e, by rw [← h.c1]; exact World.cell?_of_block e, by rw [← h.c2]; exact World.cell?_of_block e, by rw [← h.c3]; exact World.cell?_of_block e, by rw [← h.c4]; exact World.cell?_of_block e, by rw [← h.c5]; exact World.cell?_of_block e, by rw [← h.c6]; exact World.cell?_of_block e, by rw [← h.c7]; exact World.cell?_of_block e, by rw [← h.c8]; exact World.cell?_of_block e, by rw [← h.c9]; exact World.cell?_of_block e, by rw [← h.c10]; exact World.cell?_of_block e, by rw [← h.c11]; exact World.cell?_of_block e⟩
/-- a slice of events, as it reads -/
def EvsAt (w : World) (P : Nat → Prop) (v : Value) (ms : List EvM) : Prop := ∃ p c, v = .slice p ms.length c ∧ ms.length ≤ c ∧ c ≤ 9223372036854775807 ∧
  ∀ j (hj : j < ms.length), ∃ b o n z kv, p = some ⟨b, o, none⟩ ∧ P b ∧ EvAt w P b (o + j * 12) ms[j] n z kv
theorem EvsAt.frame {w w' : World} {P Q : Nat → Prop} {v : Value} {ms : List EvM} (h : EvsAt w P v ms) (hf : ∀ g, P g → g < w.heap.size → w'.heap[g]? = w.heap[g]? ∧ Q g) : EvsAt w' Q v ms := by
  obtain ⟨p, c, h1, h2, h3, h4⟩ := h
  refine ⟨p, c, h1, h2, h3, fun j hj => ?_⟩
  obtain ⟨b, o, n, z, kv, e, hb, hA⟩ := h4 j hj
  exact ⟨b, o, n, z, kv, e, (hf b hb (lt_of_cell hA.c0)).2, hA.frame hb hf⟩

theorem run_here {T0 T : List It} {ms : List EvM} {j : Nat} (hj : j < ms.length) (h : runM 0 T0 (ms.take j) = .ok T) : runM 0 T0 ms = (match applyM T ms[j] with | .ok T2 => runM (j + 1) T2 (ms.drop (j + 1)) | .error w => .error (w, j)) := by
  have e := runM_app (ms.take j) (ms.drop j) 0 T0 T h
  rw [List.take_append_drop, List.length_take, Nat.min_eq_left (Nat.le_of_lt hj), Nat.zero_add, List.drop_eq_getElem_cons hj, runM] at e
  exact e
theorem run_next {T0 T T2 : List It} {ms : List EvM} {j : Nat} (hj : j < ms.length) (h : runM 0 T0 (ms.take j) = .ok T) (h2 : applyM T ms[j] = .ok T2) : runM 0 T0 (ms.take (j + 1)) = .ok T2 := by
  rw [List.take_succ_eq_append_getElem hj, runM_app _ _ _ _ _ h, runM, h2]
  rfl

theorem StAt.boxed {w : World} {x : Ax} (h : StAt w x) (t : Nat) : StAt (w.alloc (.cells #[.slice (some ⟨x.g, 0, none⟩) x.ar.length x.cap, .map (some x.M)] t)) { x with S := w.heap.size } := by
  have B : Below w.heap.size w (w.alloc (.cells #[.slice (some ⟨x.g, 0, none⟩) x.ar.length x.cap, .map (some x.M)] t)) := (Below.refl _ _).alloc (Nat.le_refl _) _
  have hb : (w.alloc (.cells #[.slice (some ⟨x.g, 0, none⟩) x.ar.length x.cap, .map (some x.M)] t)).heap[w.heap.size]? = some (.cells #[.slice (some ⟨x.g, 0, none⟩) x.ar.length x.cap, .map (some x.M)] t) := heap_alloc_new _ _
  have B2 := h.below B
  generalize w.alloc (.cells #[.slice (some ⟨x.g, 0, none⟩) x.ar.length x.cap, .map (some x.M)] t) = W at *
  exact B2.box (by simp [World.cell?, hb]) (by simp [World.cell?, hb]) (by simp [World.frozen?, hb]) (by simp [World.frozen?, hb]) (fun hf => by have := h.lt _ hf; omega)

theorem kids_none {T T2 : List It} {m : EvM} (h : applyM T m = .ok T2) (h2 : m.kind = 2) : m.item.kids = [] := by
  obtain ⟨kind, node, tgt, at_, y⟩ := m
  simp only at h2
  subst h2
  rw [app2] at h
  split at h; · cases h
  split at h; · cases h
  split at h; · cases h
  rename_i h3
  simpa using h3
/-- what Apply answers -/
def Applied (r : Except (Int × Nat) (List It)) (e : Ending) (w' : World) (N : Nat) : Prop := match r with
  | .ok T => ∃ v, e = .returned (.tuple #[v, .agg #[.int .i64 0, .int .i64 0]]) ∧ OwnT w' N v T
  | .error (c, k) => e = .returned (.tuple #[.slice none 0 0, .agg #[.int .i64 c, .int .i64 (k : Int)]])

set_option maxHeartbeats 3200000 in
set_option maxRecDepth 100000 in
theorem happly_any {w : World} {v ve : Value} {l : List It} {ms : List EvM} (hr : RdI w (fun _ => True) v l) (hU : Unlike l) (hb : ∀ k ∈ nodesL l, k < 9223372036854775808) (hz : (nodesL l).length ≤ 200000) (he : EvsAt w (fun _ => True) ve ms) (hms : ms.length ≤ 290000) (hfe : ∀ m ∈ ms, (nodes1 m.item).length ≤ 200000) :
    Calls Try.prog 6 #[v, ve] w fun e w' => Applied (runM 0 l ms) e w' w.heap.size ∧ Below w.heap.size w w' := by
  obtain ⟨pe, ce, rfl, y1, y2, hat⟩ := he
  obtain ⟨pv, c, rfl⟩ := hr.shape
  have HAT : Hid (∀ j (hj : j < ms.length), ∃ b o n z kv, pe = some ⟨b, o, none⟩ ∧ True ∧ EvAt w (fun _ => True) b (o + j * 12) ms[j] n z kv) := hat
  have HR : Hid (RdI w (fun _ => True) (.slice pv l.length c) l) := hr
  have HMS : Hid (ms.length ≤ 290000) := hms
  clear hr hat
  have B0 : Below w.heap.size w (w.alloc (.cells #[.int .i64 0, .int .i64 0] 31)) := (Below.refl _ _).alloc (Nat.le_refl _) _
  have R0 : (w.alloc (.cells #[.int .i64 0, .int .i64 0] 31)).heap[w.heap.size]? = some (.cells #[.int .i64 0, .int .i64 0] 31) := heap_alloc_new _ _
  have z0 : Hid (w.heap.size < (w.alloc (.cells #[.int .i64 0, .int .i64 0] 31)).heap.size) := by show _ < _; simp
  go_enter Try.func6, Try.ntmps6
  go_upto_region 1 with fail
  generalize w.alloc (.cells #[.int .i64 0, .int .i64 0] 31) = W at *
  have C := hstanding_any (HR.out.under B0) hU hb (by omega)
  have HB0 : Hid (Below w.heap.size w W) := B0
  have HR0 : Hid (W.heap[w.heap.size]? = some (.cells #[.int .i64 0, .int .i64 0] 31)) := R0
  clear B0 R0
  go_wp2_with (go_at_call 12; refine C.mono ?_; clear C; rintro e w5 ⟨x5, rfl, g1, g2, g3, g4, g5⟩; have G1 : Hid (StAt w5 x5) := g1; have G2 : Hid (Rp x5.ar x5.nm l) := g2; have G3 : Hid (x5.ar.length = (nodesL l).length + 1) := g3; have G4 : Hid (∀ k, x5.foot k → W.heap.size ≤ k) := g4; have G5 : Hid (Below W.heap.size W w5) := g5; clear g1 g2 g3 g4 g5)
  have X0 : Hid (StAt (w5.alloc (.cells #[.slice (some ⟨x5.g, 0, none⟩) x5.ar.length x5.cap, .map (some x5.M)] 44)) { x5 with S := w5.heap.size }) := G1.out.boxed _
  have B1 : Hid (Below w.heap.size w (w5.alloc (.cells #[.slice (some ⟨x5.g, 0, none⟩) x5.ar.length x5.cap, .map (some x5.M)] 44))) := (HB0.out.trans (G5.out.mono HB0.out.size)).alloc (Nat.le_trans HB0.out.size G5.out.size) _
  have RB : Hid ((w5.alloc (.cells #[.slice (some ⟨x5.g, 0, none⟩) x5.ar.length x5.cap, .map (some x5.M)] 44)).heap[w.heap.size]? = some (.cells #[.int .i64 0, .int .i64 0] 31)) := by
    have h1 := G5.out.block w.heap.size z0.out
    show _ = _
    rw [heap_alloc_old _ _ (Nat.lt_of_lt_of_le z0.out G5.out.size), h1]
    exact HR0.out
  have FT : Hid (∀ k, ({ x5 with S := w5.heap.size } : Ax).foot k → w.heap.size < k) := fun k hk => by
    have h0 := z0.out
    have h5 := G5.out.size
    rcases hk with e | e | e | e
    · simp only at e; omega
    · have := G4.out k (Or.inr (Or.inl e)); omega
    · have := G4.out k (Or.inr (Or.inr (Or.inl e))); omega
    · have := G4.out k (Or.inr (Or.inr (Or.inr e))); omega
  have P0 : Hid (Rp ({ x5 with S := w5.heap.size } : Ax).ar ({ x5 with S := w5.heap.size } : Ax).nm l) := G2.out
  have L0 : Hid (({ x5 with S := w5.heap.size } : Ax).ar.length ≤ 200001) := by
    have := G3.out
    show x5.ar.length ≤ _
    omega
  have eS : Hid (({ x5 with S := w5.heap.size } : Ax).S = w5.heap.size) := rfl
  generalize ({ x5 with S := w5.heap.size } : Ax) = xs at *
  generalize hW6 : w5.alloc (.cells #[.slice (some ⟨x5.g, 0, none⟩) x5.ar.length x5.cap, .map (some x5.M)] 44) = W6 at *
  clear hW6
  generalize w5.heap.size = S at *
  clear G1 G2 G3 G4 G5 HR0 HB0
  go_loopw [14] (fun iv wr => ∃ (j : Nat) (x : Ax) (T : List It), j ≤ ms.length ∧ iv = .int .i64 j ∧ Hid (StAt wr x) ∧ Hid (Rp x.ar x.nm T) ∧ Hid (runM 0 l (ms.take j) = .ok T) ∧ Hid (x.S = S) ∧ Hid (x.ar.length ≤ 200001 + j) ∧ Hid (∀ k ∈ nodesL T, k < 9223372036854775808) ∧ Hid (∀ k, x.foot k → w.heap.size < k) ∧ Hid (Below w.heap.size w wr) ∧ Hid (wr.heap[w.heap.size]? = some (.cells #[.int .i64 0, .int .i64 0] 31))) (fun iv _ => ms.length - (intOf iv).toNat)
  case atStart => exact ⟨0, xs, l, Nat.zero_le _, rfl, X0, P0, rfl, eS, L0, hb, FT, B1, RB⟩
  case round =>
    obtain ⟨j, x, T, hj, rfl, HX, HT, HRN, HS, HL, HN, HF, HB, HRB⟩ := hrel
    by_cases hlt : j < ms.length
    · obtain ⟨b, o, n, z, kv, rfl, _, EA⟩ := HAT.out j hlt
      have hbw : ∀ g, True → g < w.heap.size → wr.heap[g]? = w.heap[g]? ∧ ¬ x.foot g := fun g _ hg => ⟨HB.out.block g hg, fun hf => by have := HF.out g hf; omega⟩
      have EA2 := EA.frame trivial hbw
      obtain ⟨ok, c0, c1, c2, c3, c4, c5, c6, c7, c8, c9, c10, c11⟩ := EA2
      clear EA
      have HM : Hid (∀ T2, applyM T ms[j] = .ok T2 → runM 0 l (ms.take (j + 1)) = .ok T2) := fun T2 h2 => run_next hlt HRN.out h2
      have HME : Hid (∀ c, applyM T ms[j] = .error c → runM 0 l ms = .error (c, j)) := fun c h2 => by rw [run_here hlt HRN.out, h2]
      have HER : Hid (∀ c, applyM T ms[j] = .error c → (c != 0) = true) := fun c h2 => by
        rcases apply_err h2 with rfl | rfl | rfl | rfl | rfl | rfl <;> rfl
      have HMF : Hid ((nodes1 ms[j].item).length ≤ 200000) := hfe _ (List.getElem_mem hlt)
      have HIN : Hid (∀ T2, applyM T ms[j] = .ok T2 → ∀ k ∈ nodesL T2, k < 9223372036854775808) := fun T2 h2 k hk => by
        rcases apply_sub h2 hk with h3 | ⟨h3, h4⟩
        · exact HN.out k h3
        · rcases h3 with h3 | h3
          · have hkk := kids_none h2 h3
            rw [nodes1_eq, hkk] at h4
            rw [show k = ms[j].item.node from by simpa [nodesL] using h4]
            exact ok.i2 h3
          · exact (ok.a5 h3).2.2 k (by simpa [nodesL] using h4)
      generalize ms[j] = m at *
      obtain ⟨pk, ck, ekv⟩ := ok.shape
      subst ekv
      have hst := HX.out
      have hnz : (nodesL T).length ≤ 500000 := by have := HT.out.few; have := HL.out; omega
      have haz : x.ar.length ≤ 500000 := by have := HL.out; omega
      have B2 : Below wr.heap.size wr (wr.alloc (.cells #[.int .i64 m.kind, .int .i64 (n : Int), .int .i64 m.tgt, .int .i64 m.at_, .int .i64 z, .int .i64 m.item.role, .string m.item.name, .string m.item.about, .int .i64 m.item.level, .int .i64 m.item.checked, .bool m.item.off, .slice pk m.item.kids.length ck] 28)) := (Below.refl _ _).alloc (Nat.le_refl _) _
      have BX := box12_new wr (.int .i64 m.kind) (.int .i64 (n : Int)) (.int .i64 m.tgt) (.int .i64 m.at_) (.int .i64 z) (.int .i64 m.item.role) (.string m.item.name) (.string m.item.about) (.int .i64 m.item.level) (.int .i64 m.item.checked) (.bool m.item.off) (.slice pk m.item.kids.length ck) 28
      have TK : Calls Try.prog 13 #[.pointer (some ⟨x.S, 0, none⟩), .agg #[.int .i64 m.kind, .int .i64 m.node, .int .i64 m.tgt, .int .i64 m.at_, .int .i64 z, .int .i64 m.item.role, .string m.item.name, .string m.item.about, .int .i64 m.item.level, .int .i64 m.item.checked, .bool m.item.off, .slice pk m.item.kids.length ck]] _ _ := htake_any (hst.below B2) HT.out HN.out hnz haz m n z (.slice pk m.item.kids.length ck) (ok.frame (fun g hg hlt => ⟨B2.block g hlt, hg⟩))
      rw [ok.node] at TK
      have HB2 : Hid (Below wr.heap.size wr _) := B2
      have HX2 : Hid (StAt _ x) := hst.below B2
      obtain ⟨d0, d1, d2, d3, d4, d5, d6, d7, d8, d9, d10, d11⟩ := BX
      have hS := HS.out
      rw [hS] at TK
      generalize hW7 : wr.alloc (.cells #[.int .i64 m.kind, .int .i64 (n : Int), .int .i64 m.tgt, .int .i64 m.at_, .int .i64 z, .int .i64 m.item.role, .string m.item.name, .string m.item.about, .int .i64 m.item.level, .int .i64 m.item.checked, .bool m.item.off, .slice pk m.item.kids.length ck] 28) = W7 at *
      have HW7 : Hid (wr.alloc (.cells #[.int .i64 m.kind, .int .i64 (n : Int), .int .i64 m.tgt, .int .i64 m.at_, .int .i64 z, .int .i64 m.item.role, .string m.item.name, .string m.item.about, .int .i64 m.item.level, .int .i64 m.item.checked, .bool m.item.off, .slice pk m.item.kids.length ck] 28) = W7) := hW7
      clear hW7 hS B2 hst hnz haz ok
      generalize hr : applyM T m = r at *
      clear hr
      go_upto_region 5 with fail
      rw [HW7.out]
      have R7 : W7.heap[w.heap.size]? = some (.cells #[.int .i64 0, .int .i64 0] 31) := (HB2.out.block _ (Array.getElem?_eq_some_iff.1 HRB.out).1).trans HRB.out
      have ZR : Hid (w.heap.size < wr.heap.size) := (Array.getElem?_eq_some_iff.1 HRB.out).1
      have R8 : Hid (∀ x' w', Fw x x' W7 w' → w'.heap[w.heap.size]? = some (.cells #[.int .i64 0, .int .i64 0] 31)) := fun x' w' hf => (hf.block _ (Array.getElem?_eq_some_iff.1 R7).1 (fun h1 => by have := HF.out _ h1; omega)).trans R7
      have RC : Hid (∀ w' : World, w'.heap[w.heap.size]? = some (.cells #[.int .i64 0, .int .i64 0] 31) → w'.cell? ⟨w.heap.size, 0, none⟩ = some (.int .i64 0) ∧ w'.cell? ⟨w.heap.size, 1, none⟩ = some (.int .i64 0) ∧ w'.frozen? ⟨w.heap.size, 0, none⟩ = false ∧ w'.frozen? ⟨w.heap.size, 1, none⟩ = false) := fun w' h => ⟨by simp [World.cell?, h], by simp [World.cell?, h], by simp [World.frozen?, h], by simp [World.frozen?, h]⟩
      clear c0 c1 c2 c3 c4 c5 c6 c7 c8 c9 c10 c11 R7
      cases r with
      | error e5 =>
        have hc : Hid (runM 0 l ms = .error (e5, j)) := HME.out e5 rfl
        have hne := HER.out e5 rfl
        clear HM HME HIN HER
        go_wp2_with (go_at_call 13; refine TK.mono ?_; clear TK; rintro e w6 ⟨x6, r1, r2, r3, r4⟩; obtain ⟨rfl, rfl⟩ := r4; have R6 := R8.out _ _ r2; obtain ⟨q0, q1, q2, q3⟩ := RC.out _ R6; have HB6 : Hid (Below w.heap.size w w6) := (HB.out.trans (HB2.out.mono HB.out.size)).trans (r2.to_below (by have := HB2.out.size; have := ZR.out; omega) (fun k hk => Nat.le_of_lt (HF.out k hk))); clear r1 r2 r3 R6)
        refine bodyPost_ret (v := .tuple #[.slice none 0 0, .agg #[.int .i64 e5, .int .i64 (j : Int)]]) (by simp [results, Try.results6, go_sem, q0, q1]) rfl ⟨?_, ?_⟩
        · rw [hc.out]
          exact rfl
        · exact (HB6.out.setCell (p := ⟨w.heap.size, 0, none⟩) (Nat.le_refl _) _).setCell (p := ⟨w.heap.size, 1, none⟩) (Nat.le_refl _) _
      | ok T2 =>
        have hM := HM.out T2 rfl
        have hIN : Hid (∀ (k : Nat), k ∈ nodesL T2 → k < 9223372036854775808) := HIN.out T2 rfl
        have HRN2 : Hid (runM 0 l (ms.take (j + 1)) = .ok T2) := hM
        clear HM HME HIN HER hM
        go_wp2_with (go_at_call 13; refine TK.mono ?_; clear TK; rintro e w6 ⟨x6, r1, r2, r3, r4⟩; obtain ⟨rfl, r5⟩ := r4; have R6 : Hid (w6.heap[w.heap.size]? = some (.cells #[.int .i64 0, .int .i64 0] 31)) := R8.out _ _ r2; have HB6 : Hid (Below w.heap.size w w6) := (HB.out.trans (HB2.out.mono HB.out.size)).trans (r2.to_below (by have := HB2.out.size; have := ZR.out; omega) (fun k hk => Nat.le_of_lt (HF.out k hk))); have HX6 : Hid (StAt w6 x6) := r1; have HT6 : Hid (Rp x6.ar x6.nm T2) := r5; have HL6 : Hid (x6.ar.length ≤ 200001 + (j + 1)) := (by have := HL.out; have := HMF.out; show _ ≤ _; omega); have HF6 : Hid (∀ k, x6.foot k → w.heap.size < k) := (fun k hk => by rcases r2.foot k hk with e1 | e1; exact HF.out k e1; have := HB2.out.size; have := ZR.out; omega); have HS6 : Hid (x6.S = S) := r2.S.trans HS.out; clear r1 r2 r3 r5)
        go_roundw
        case rel => exact ⟨j + 1, x6, T2, by omega, by go_num, HX6, HT6, HRN2, HS6, HL6, hIN, HF6, HB6, R6⟩
        case measure => simp [intOf]; omega
    · obtain rfl : j = ms.length := by omega
      have hT := HT.out
      have C := hitems_any (ixOf x.nm) (nodesL T).length T 0 _ wr HX.out hT.root rfl (fun y hy => hT.sub (mem_itemL.mpr ⟨y, hy, mem_item1.mpr (Or.inl rfl)⟩)) (Nat.le_refl _) (by have := hT.few; have := HL.out; have := HMS.out; omega)
      rw [HS.out] at C
      have R7 := HRB.out
      have RC : Hid (∀ w' : World, w'.heap[w.heap.size]? = some (.cells #[.int .i64 0, .int .i64 0] 31) → w'.cell? ⟨w.heap.size, 0, none⟩ = some (.int .i64 0) ∧ w'.cell? ⟨w.heap.size, 1, none⟩ = some (.int .i64 0) ∧ w'.frozen? ⟨w.heap.size, 0, none⟩ = false ∧ w'.frozen? ⟨w.heap.size, 1, none⟩ = false) := fun w' h => ⟨by simp [World.cell?, h], by simp [World.cell?, h], by simp [World.frozen?, h], by simp [World.frozen?, h]⟩
      have ZR : Hid (w.heap.size < wr.heap.size) := (Array.getElem?_eq_some_iff.1 R7).1
      have hrun : Hid (runM 0 l ms = .ok T) := by have := HRN.out; rw [List.take_length] at this; exact this
      clear hT R7
      go_wp2_with (go_at_call 14; refine C.mono ?_; clear C; rintro e w6 ⟨v6, rfl, o6, b6⟩; obtain ⟨p6, c6, rfl⟩ := o6.shape; have R6 := (b6.block _ ZR.out).trans HRB.out; obtain ⟨q0, q1, q2, q3⟩ := RC.out _ R6; have HB6 : Hid (Below w.heap.size w w6) := HB.out.trans (b6.mono HB.out.size); have O6 : Hid (OwnT w6 wr.heap.size (.slice p6 T.length c6) T) := o6; clear o6 b6 R6)
      refine bodyPost_ret (v := .tuple #[.slice p6 T.length c6, .agg #[.int .i64 0, .int .i64 0]]) (by simp [results, Try.results6, go_sem, q0, q1]) rfl ⟨?_, ?_⟩
      · rw [hrun.out]
        refine ⟨_, rfl, ?_⟩
        have hS : ∀ z ∈ [w.heap.size], z < wr.heap.size := fun z hz => by rw [List.mem_singleton] at hz; rw [hz]; exact ZR.out
        have o1 := O6.out.bt (S := [w.heap.size]) (Bt.grow1 (grow_set (grown_refl w6 _) 0 (.int .i64 0)) (List.mem_singleton.mpr rfl)) hS
        exact (o1.bt (S := [w.heap.size]) (Bt.grow1 (grow_set (grown_refl _ _) 1 (.int .i64 0)) (List.mem_singleton.mpr rfl)) hS).mono (Nat.le_of_lt ZR.out)
      · exact (HB6.out.setCell (p := ⟨w.heap.size, 0, none⟩) (Nat.le_refl _) _).setCell (p := ⟨w.heap.size, 1, none⟩) (Nat.le_refl _) _
end Go.Proofs.Ytgpckmolcdafcae
