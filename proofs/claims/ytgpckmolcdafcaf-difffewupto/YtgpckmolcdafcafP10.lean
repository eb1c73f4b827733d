/-
  OWN WORK: Hdf.
-/
import Derived.Test.YtgpckmolcdafcafP8
import Derived.Test.YtgpckmolcdafcafP9
/-
  THE WALK of DiffFew.
-/
namespace Go.Proofs.Ytgpckmolcdafcaf
open Go.RowKit Go.Maps

/-- an item whose name goes on, without kids -/
def longer (X : It) (s : ByteArray) : It := .mk X.node X.role (X.name ++ s) X.about X.level X.checked X.off []
theorem name_bulk : (∀ x : It, ∀ X ∈ item1 x, X.name.size ≤ bulk1 (ofIt x)) ∧ ∀ l : List It, ∀ X ∈ itemL l, X.name.size ≤ bulkZ (ofIts l) := by
  refine It.ind (fun x h X hX => ?_) (fun X hX => by simp [itemL] at hX) (fun x xs h1 h2 X hX => ?_)
  · rw [bulk1_eq, ofIt_kids]
    rcases mem_item1.mp hX with rfl | hX
    · have : (ofIt X).name = X.name := by cases X with | mk => rw [ofIt]; rfl
      rw [this]
      omega
    · have := h X hX
      omega
  · rw [ofIts, bulkZ]
    obtain ⟨y, hy, hX2⟩ := mem_itemL.mp hX
    rcases List.mem_cons.mp hy with rfl | hy
    · have := h1 X hX2
      omega
    · have := h2 X (mem_itemL.mpr ⟨y, hy, hX2⟩)
      omega
theorem app_same (a s : ByteArray) : a = a ++ s ↔ s.toList.isEmpty = true := by
  rw [ByteArray.toList_eq, List.isEmpty_iff]
  constructor
  · intro h
    have h2 := congrArg (fun b : ByteArray => b.data.toList.length) h
    simp at h2
    apply List.length_eq_zero_iff.mp
    simpa using h2
  · intro h
    apply ByteArray.ext
    apply Array.ext'
    simp [h]
theorem longer_says (X : It) (s : ByteArray) : X.says = (longer X s).says ↔ s.toList.isEmpty = true := by
  rw [← app_same X.name s]
  unfold It.says longer
  constructor
  · intro h
    simp only [Prod.mk.injEq] at h
    exact h.2.1
  · intro h
    simp only [Prod.mk.injEq]
    exact ⟨rfl, h, rfl, rfl, rfl, rfl⟩

set_option maxHeartbeats 6400000 in
set_option maxRecDepth 100000 in
theorem dfew_walk {w : World} {va : Value} {la : List Iz} (ha : IzsAt w (fun g => g < w.heap.size) va la) (na : NodeOk la) (k : Int) (hk : -9223372036854775808 ≤ k ∧ k ≤ 9223372036854775807) (s : ByteArray) (hb : bulkZ la + s.size ≤ 1048576) :
    Calls Try.prog 3 #[va, .int .i64 k, .string s] w fun e w' => e = .returned (.bool true) ∧ Below w.heap.size w w' := by
  have hz : (nodesZ la).length ≤ 131072 := by have := nodesZ_few.2 la; omega
  obtain ⟨ra, hra⟩ : ∃ r : Bool, r = true ↔ AlikeZ la := bool_of _
  have CA : Hid (∀ W, Below w.heap.size w W → Calls Try.prog 5 #[va] W fun e w' => e = .returned (.bool ra) ∧ Below W.heap.size W w') := fun W hW => ualike_any (ha.under hW) na (by omega) ra hra
  obtain ⟨pa, ca, hva⟩ := ha.shape
  cases ra with
  | false =>
    clear ha na hz hra hb
    subst hva
    generalize la.length = m1 at *
    go_enter Try.func3, Try.ntmps3
    go_wp2_with (first
      | (go_at_call 4; refine (alive9_any w).mono ?_; rintro e w1 ⟨rfl, hb1⟩)
      | (go_at_call 5; refine (CA.out w1 hb1).mono ?_; rintro e w2 ⟨rfl, hb2⟩))
    go_ret
    exact ⟨rfl, hb1.trans (hb2.mono hb1.size)⟩
  | true =>
    have aa := hra.mp rfl
    have ua := aa.unlike
    have ba := node_bound aa na
    have za := node_len aa
    have ra := aa.rd ha
    have hlen : (toIts la).length = la.length := by
      have := ofIts_len (toIts la)
      rw [of_to.2 la aa.1] at this
      exact this.symm
    have hbk : bulkZ (ofIts (toIts la)) = bulkZ la := by rw [of_to.2 la aa.1]
    generalize toIts la = a at *
    have CH : Hid (∀ W, Below w.heap.size w W → Calls Try.prog 6 #[va, .int .i64 k] W fun e w' => e = .returned (.bool (hasI a k)) ∧ Below W.heap.size W w') := fun W hW => uhas_any (ra.under hW) (by omega) k
    by_cases hbad : hasI a k = false ∨ a.length ≠ 1
    · clear ha na hz hra hb hbk
      subst hva
      rw [hlen] at hbad
      generalize la.length = m1 at *
      cases hh : hasI a k with
      | false =>
        rw [hh] at CH
        clear hbad hh
        go_enter Try.func3, Try.ntmps3
        go_wp2_with (first
          | (go_at_call 4; refine (alive9_any w).mono ?_; rintro e w1 ⟨rfl, hb1⟩)
          | (go_at_call 5; refine (CA.out w1 hb1).mono ?_; rintro e w2 ⟨rfl, hb2⟩; have HB2 : Below w.heap.size w w2 := hb1.trans (hb2.mono hb1.size))
          | (go_at_call 6; refine (CH.out w2 HB2).mono ?_; rintro e w3 ⟨rfl, hb3⟩))
        go_ret
        exact ⟨rfl, HB2.trans (hb3.mono HB2.size)⟩
      | true =>
        have hm : m1 ≠ 1 := by
          rcases hbad with h | h
          · rw [hh] at h; cases h
          · exact h
        have hm1 : ((m1 : Int) != 1) = true := by
          rw [bne_iff_ne]
          omega
        rw [hh] at CH
        clear hbad hh hm
        go_enter Try.func3, Try.ntmps3
        go_wp2_with (first
          | (go_at_call 4; refine (alive9_any w).mono ?_; rintro e w1 ⟨rfl, hb1⟩)
          | (go_at_call 5; refine (CA.out w1 hb1).mono ?_; rintro e w2 ⟨rfl, hb2⟩; have HB2 : Below w.heap.size w w2 := hb1.trans (hb2.mono hb1.size))
          | (go_at_call 6; refine (CH.out w2 HB2).mono ?_; rintro e w3 ⟨rfl, hb3⟩))
        go_ret
        exact ⟨rfl, HB2.trans (hb3.mono HB2.size)⟩
    · have hh : hasI a k = true := by cases h : hasI a k with | true => rfl | false => exact absurd (Or.inl h) hbad
      have hl1 : a.length = 1 := Classical.byContradiction fun h => hbad (Or.inr h)
      obtain ⟨n, rfl⟩ : ∃ n : Nat, k = (n : Int) := by
        unfold hasI at hh
        rw [Bool.and_eq_true, decide_eq_true_eq] at hh
        exact ⟨k.toNat, by omega⟩
      have hin : n ∈ nodesL a := by rw [hasI_nat] at hh; simpa using hh
      obtain ⟨X, hX, eX⟩ := in_node hin
      have CC : Hid (∀ W, Below w.heap.size w W → Calls Try.prog 7 #[va, .int .i64 (n : Int)] W fun e w' => ∃ v' kx, e = .returned (.tuple #[v', .agg #[.int .i64 (X.node : Int), .int .i64 X.role, .string X.name, .string X.about, .int .i64 X.level, .int .i64 X.checked, .bool X.off, kx]]) ∧ RdI w' (fun _ => True) v' (rmL n a) ∧ (∃ p c, kx = .slice p X.kids.length c) ∧ Below W.heap.size W w') := fun W hW => by
        refine (uCut_any n (ra.under hW) ua (by omega)).mono ?_
        rintro e w' ⟨v', X', kx, rfl, t1, t2, t3, t4, t5⟩
        obtain ⟨q1, q2⟩ := t3 hin
        have : X' = X := unlike_one ua q1 hX (by rw [q2, eX])
        subst this
        obtain ⟨p, c, e⟩ := t2.shape
        exact ⟨v', kx, rfl, t1.any (fun _ _ _ => trivial), ⟨p, c, e⟩, t5⟩
      have CT : Hid (∀ W, Below w.heap.size w W → Calls Try.prog 9 #[va, .int .i64 (n : Int), .agg #[.int .i64 (X.node : Int), .int .i64 X.role, .string (X.name ++ s), .string X.about, .int .i64 X.level, .int .i64 X.checked, .bool X.off, .slice none 0 0]] W fun e w' => ∃ v', e = .returned v' ∧ RdI w' (fun _ => True) v' (telL n (longer X s) a) ∧ Below W.heap.size W w') := fun W hW => by
        refine (utell_any n (longer X s) none 0 0 (nodesL a).length _ va a W (ra.under hW) (Nat.le_refl _) (by omega)).mono ?_
        rintro e w' ⟨v', rfl, t1, t2⟩
        exact ⟨v', rfl, t1.any (fun _ _ _ => trivial), t2⟩
      rw [hh] at CH
      have hsz : X.name.size + s.size ≤ 9223372036854775807 := by have := name_bulk.2 a X hX; omega
      have hla : la.length = 1 := by rw [← hlen, hl1]
      have hyn : (longer X s).node = n := eX
      have hmem : ∀ v : Nat, v ∈ nodesL (rmL n a) → v ∈ nodesL a := fun v hv => ((rm_sub n).2 a).subset hv
      have hut : Unlike (telL n (longer X s) a) := by unfold Unlike; rw [tel_nodes hyn]; exact ua
      have hur : Unlike (rmL n a) := ((rm_sub n).2 a).nodup ua
      have hlr : (nodesL (rmL n a)).length ≤ (nodesL a).length := ((rm_sub n).2 a).length_le
      have et := evs_tell hyn ua hX eX
      have ot := of_tell hyn ua hX eX
      have CO1 : Hid (∀ W vt, Below w.heap.size w W → RdI W (fun _ => True) vt (telL n (longer X s) a) → Calls Try.prog 8 #[va, vt] W fun e w' => ∃ ve, e = .returned ve ∧ EvsAt w' (fun g => W.heap.size ≤ g) ve (if s.toList.isEmpty = true then [] else [evTell (tel1 n (longer X s) X)]) ∧ Below W.heap.size W w') := fun W vt hW ht => by
        have := hOf_any ((ra.under hW).any (fun _ _ _ => trivial)) ht ua hut ba (by rw [tel_nodes hyn]; exact ba) (few_evs ua hut (by omega) (by rw [tel_nodes hyn]; omega) (by rw [et]; split <;> simp))
        rw [ot] at this
        simp only [longer_says] at this
        exact this
      have CO2 : Hid (∀ W vt, Below w.heap.size w W → RdI W (fun _ => True) vt (rmL n a) → Calls Try.prog 8 #[va, vt] W fun e w' => ∃ ve, e = .returned ve ∧ EvsAt w' (fun g => W.heap.size ≤ g) ve [evRm n] ∧ Below W.heap.size W w') := fun W vt hW ht => by
        have := hOf_any ((ra.under hW).any (fun _ _ _ => trivial)) ht ua hur ba (fun v hv => ba v (hmem v hv)) (few_evs ua hur (by omega) (by omega) (by rw [evs_rm ua hin]; simp))
        rw [of_rm ua hin] at this
        exact this
      obtain ⟨p', c', e', h1', h2', hat⟩ := ra.at
      obtain ⟨b0, o0, kv0, ep, hbb, hA, hkk⟩ := hat 0 (by omega)
      have hA0 := hA.c0
      have EKK : Hid ((evTell (tel1 n (longer X s) X)).kind = 4 ∧ (evTell (tel1 n (longer X s) X)).node = (n : Int)) := by
        refine ⟨rfl, ?_⟩
        show ((tel1 n (longer X s) X).node : Int) = _
        rw [tel1_node hyn, eX]
      rw [hva, hla, hl1] at e'
      subst hva
      rw [hla] at CA CH CC CT CO1 CO2 ⊢
      injection e' with e1 e2 e3
      rw [ep] at e1
      subst e1
      have hca1 : 1 ≤ ca := by omega
      have hca2 : ca ≤ 9223372036854775807 := by omega
      generalize a[0].node = r0 at *
      have HA0 : Hid (w.cell? ⟨b0, o0 + 0 * 8, none⟩ = some (.int .i64 (r0 : Int))) := hA0
      clear hbb hkk hb hbk ha na hz hra ra ba ua aa za hlen hbad hh hl1 hin hX eX hla hyn hmem hut hur hlr et ot hat hA hA0 h1' h2' e2 e3 ep
      have one_ev : ∀ (W : World) (B : Nat) (ve : Value) (m : EvM), m.node = (n : Int) → EvsAt W (fun g => B ≤ g) ve [m] → ∃ b o c, ve = .slice (some ⟨b, o, none⟩) 1 c ∧ 1 ≤ c ∧ c ≤ 9223372036854775807 ∧ W.cell? ⟨b, o, none⟩ = some (.int .i64 m.kind) ∧ W.cell? ⟨b, o + 1, none⟩ = some (.int .i64 (n : Int)) := fun W B ve m hm he => by
        obtain ⟨p, c, rfl, g1, g2, g3⟩ := he
        obtain ⟨b, o, n', z, kv, rfl, _, EA⟩ := g3 0 (by simp)
        have d0 := EA.c0
        have d1 := EA.c1
        have hn := EA.ok.node
        simp only [List.getElem_cons_zero, Nat.zero_mul, Nat.add_zero] at d0 d1 hn
        rw [hm] at hn
        rw [← hn] at d1
        exact ⟨b, o, c, rfl, g1, g2, d0, d1⟩
      have CO2' : Hid (∀ W vt, Below w.heap.size w W → RdI W (fun _ => True) vt (rmL n a) → Calls Try.prog 8 #[.slice (some ⟨b0, o0, none⟩) 1 ca, vt] W fun e w' => ∃ b o c, e = .returned (.slice (some ⟨b, o, none⟩) 1 c) ∧ 1 ≤ c ∧ c ≤ 9223372036854775807 ∧ w'.cell? ⟨b, o, none⟩ = some (.int .i64 1) ∧ w'.cell? ⟨b, o + 1, none⟩ = some (.int .i64 (n : Int)) ∧ Below W.heap.size W w') := fun W vt h1 h2 => by
        refine (CO2.out W vt h1 h2).mono ?_
        rintro e w' ⟨ve, rfl, t1, t2⟩
        obtain ⟨b, o, c, rfl, g1, g2, g3, g4⟩ := one_ev _ _ _ _ rfl t1
        exact ⟨b, o, c, rfl, g1, g2, g3, g4, t2⟩
      have CO1E : s.toList.isEmpty = true → Hid (∀ W vt, Below w.heap.size w W → RdI W (fun _ => True) vt (telL n (longer X s) a) → Calls Try.prog 8 #[.slice (some ⟨b0, o0, none⟩) 1 ca, vt] W fun e w' => ∃ p c, e = .returned (.slice p 0 c) ∧ Below W.heap.size W w') := fun he W vt h1 h2 => by
        refine (CO1.out W vt h1 h2).mono ?_
        rintro e w' ⟨ve, rfl, t1, t2⟩
        rw [if_pos he] at t1
        obtain ⟨p, c, rfl, _⟩ := t1
        exact ⟨p, c, rfl, t2⟩
      have CO1N : s.toList.isEmpty = false → Hid (∀ W vt, Below w.heap.size w W → RdI W (fun _ => True) vt (telL n (longer X s) a) → Calls Try.prog 8 #[.slice (some ⟨b0, o0, none⟩) 1 ca, vt] W fun e w' => ∃ b o c, e = .returned (.slice (some ⟨b, o, none⟩) 1 c) ∧ 1 ≤ c ∧ c ≤ 9223372036854775807 ∧ w'.cell? ⟨b, o, none⟩ = some (.int .i64 4) ∧ w'.cell? ⟨b, o + 1, none⟩ = some (.int .i64 (n : Int)) ∧ Below W.heap.size W w') := fun he W vt h1 h2 => by
        refine (CO1.out W vt h1 h2).mono ?_
        rintro e w' ⟨ve, rfl, t1, t2⟩
        rw [if_neg (by rw [he]; simp)] at t1
        obtain ⟨b, o, c, rfl, g1, g2, g3, g4⟩ := one_ev _ _ _ _ EKK.out.2 t1
        rw [EKK.out.1] at g3
        exact ⟨b, o, c, rfl, g1, g2, g3, g4, t2⟩
      clear one_ev CO1 CO2 EKK
      have CO2 := CO2'
      clear CO2'
      generalize telL n (longer X s) a = aT at *
      generalize rmL n a = aR at *
      have hk2 := hk.2
      cases he : s.toList.isEmpty with
      | true =>
        have CO1 := CO1E he
        clear CO1E CO1N
        by_cases hr : r0 = n
        · subst hr
          go_enter Try.func3, Try.ntmps3
          go_upto_region 9 with (first
            | (go_at_call 4; refine (alive9_any w).mono ?_; rintro e w1 ⟨rfl, hb1⟩)
            | (go_at_call 5; refine (CA.out w1 hb1).mono ?_; clear CA; rintro e w2 ⟨rfl, hb2⟩; have HB2 : Below w.heap.size w w2 := hb1.trans (hb2.mono hb1.size))
            | (go_at_call 6; refine (CH.out w2 HB2).mono ?_; clear CH; rintro e w3 ⟨rfl, hb3⟩; have HB3 : Below w.heap.size w w3 := HB2.trans (hb3.mono HB2.size))
            | (go_at_call 7; refine (CC.out w3 HB3).mono ?_; rintro e w4 ⟨v4, kx4, rfl, t1, ⟨p4, c4, rfl⟩, t3⟩; have HB4 : Hid (Below w.heap.size w w4) := HB3.trans (t3.mono HB3.size); obtain ⟨q4, d4, rfl⟩ := t1.shape; clear t1 t3 hb1 hb2 hb3 HB2 HB3))
          have HB5 : Hid (Below w.heap.size w ((w4.alloc (.cells #[.int .i64 (X.node : Int), .int .i64 X.role, .string X.name, .string X.about, .int .i64 X.level, .int .i64 X.checked, .bool X.off, .slice p4 X.kids.length c4] 27)).alloc (.cells #[.int .i64 (X.node : Int), .int .i64 X.role, .string (X.name ++ s), .string X.about, .int .i64 X.level, .int .i64 X.checked, .bool X.off, .slice none 0 0] 27))) := (HB4.out.alloc HB4.out.size _).alloc (by have := HB4.out.size; simp; omega) _
          have BX5 := box8_new (w4.alloc (.cells #[.int .i64 (X.node : Int), .int .i64 X.role, .string X.name, .string X.about, .int .i64 X.level, .int .i64 X.checked, .bool X.off, .slice p4 X.kids.length c4] 27)) (.int .i64 (X.node : Int)) (.int .i64 X.role) (.string (X.name ++ s)) (.string X.about) (.int .i64 X.level) (.int .i64 X.checked) (.bool X.off) (.slice none 0 0) 27
          rw [show (w4.alloc (.cells #[.int .i64 (X.node : Int), .int .i64 X.role, .string X.name, .string X.about, .int .i64 X.level, .int .i64 X.checked, .bool X.off, .slice p4 X.kids.length c4] 27)).heap.size = w4.heap.size + 1 by simp] at BX5
          generalize (w4.alloc (.cells #[.int .i64 (X.node : Int), .int .i64 X.role, .string X.name, .string X.about, .int .i64 X.level, .int .i64 X.checked, .bool X.off, .slice p4 X.kids.length c4] 27)).alloc (.cells #[.int .i64 (X.node : Int), .int .i64 X.role, .string (X.name ++ s), .string X.about, .int .i64 X.level, .int .i64 X.checked, .bool X.off, .slice none 0 0] 27) = w5 at *
          obtain ⟨x0, x1, x2, x3, x4, x5, x6, x7⟩ := BX5
          go_upto_region 10 with (first
            | (go_at_call 9; refine (CT.out w5 HB5.out).mono ?_; clear CT; rintro e w6 ⟨v6, rfl, t1, t2⟩; have HB6 : Hid (Below w.heap.size w w6) := HB5.out.trans (t2.mono HB5.out.size); have CO6 := CO1.out w6 v6 HB6.out t1; obtain ⟨q6, d6, rfl⟩ := t1.shape; clear t1 t2)
            | (go_at_call 8; refine CO6.mono ?_; clear CO6 CO1; rintro e w7 ⟨p7, c7, rfl, t2⟩; have HB7 : Hid (Below w.heap.size w w7) := HB6.out.trans (t2.mono HB6.out.size); clear t2))
          have HA7 := keeps_below HB7.out (Nat.le_refl _) _ _ HA0.out
          rw [Nat.zero_mul, Nat.add_zero] at HA7
          go_wp2_with fail
          go_ret
          exact ⟨rfl, HB7.out⟩
        · have hre : ((r0 : Int) == (n : Int)) = false := by rw [beq_eq_false_iff_ne]; omega
          clear hr
          go_enter Try.func3, Try.ntmps3
          go_upto_region 9 with (first
            | (go_at_call 4; refine (alive9_any w).mono ?_; rintro e w1 ⟨rfl, hb1⟩)
            | (go_at_call 5; refine (CA.out w1 hb1).mono ?_; clear CA; rintro e w2 ⟨rfl, hb2⟩; have HB2 : Below w.heap.size w w2 := hb1.trans (hb2.mono hb1.size))
            | (go_at_call 6; refine (CH.out w2 HB2).mono ?_; clear CH; rintro e w3 ⟨rfl, hb3⟩; have HB3 : Below w.heap.size w w3 := HB2.trans (hb3.mono HB2.size))
            | (go_at_call 7; refine (CC.out w3 HB3).mono ?_; rintro e w4 ⟨v4, kx4, rfl, t1, ⟨p4, c4, rfl⟩, t3⟩; have HB4 : Hid (Below w.heap.size w w4) := HB3.trans (t3.mono HB3.size); obtain ⟨q4, d4, rfl⟩ := t1.shape; clear t1 t3 hb1 hb2 hb3 HB2 HB3))
          have HB5 : Hid (Below w.heap.size w ((w4.alloc (.cells #[.int .i64 (X.node : Int), .int .i64 X.role, .string X.name, .string X.about, .int .i64 X.level, .int .i64 X.checked, .bool X.off, .slice p4 X.kids.length c4] 27)).alloc (.cells #[.int .i64 (X.node : Int), .int .i64 X.role, .string (X.name ++ s), .string X.about, .int .i64 X.level, .int .i64 X.checked, .bool X.off, .slice none 0 0] 27))) := (HB4.out.alloc HB4.out.size _).alloc (by have := HB4.out.size; simp; omega) _
          have BX5 := box8_new (w4.alloc (.cells #[.int .i64 (X.node : Int), .int .i64 X.role, .string X.name, .string X.about, .int .i64 X.level, .int .i64 X.checked, .bool X.off, .slice p4 X.kids.length c4] 27)) (.int .i64 (X.node : Int)) (.int .i64 X.role) (.string (X.name ++ s)) (.string X.about) (.int .i64 X.level) (.int .i64 X.checked) (.bool X.off) (.slice none 0 0) 27
          rw [show (w4.alloc (.cells #[.int .i64 (X.node : Int), .int .i64 X.role, .string X.name, .string X.about, .int .i64 X.level, .int .i64 X.checked, .bool X.off, .slice p4 X.kids.length c4] 27)).heap.size = w4.heap.size + 1 by simp] at BX5
          generalize (w4.alloc (.cells #[.int .i64 (X.node : Int), .int .i64 X.role, .string X.name, .string X.about, .int .i64 X.level, .int .i64 X.checked, .bool X.off, .slice p4 X.kids.length c4] 27)).alloc (.cells #[.int .i64 (X.node : Int), .int .i64 X.role, .string (X.name ++ s), .string X.about, .int .i64 X.level, .int .i64 X.checked, .bool X.off, .slice none 0 0] 27) = w5 at *
          obtain ⟨x0, x1, x2, x3, x4, x5, x6, x7⟩ := BX5
          go_upto_region 10 with (first
            | (go_at_call 9; refine (CT.out w5 HB5.out).mono ?_; clear CT; rintro e w6 ⟨v6, rfl, t1, t2⟩; have HB6 : Hid (Below w.heap.size w w6) := HB5.out.trans (t2.mono HB5.out.size); have CO6 := CO1.out w6 v6 HB6.out t1; obtain ⟨q6, d6, rfl⟩ := t1.shape; clear t1 t2)
            | (go_at_call 8; refine CO6.mono ?_; clear CO6 CO1; rintro e w7 ⟨p7, c7, rfl, t2⟩; have HB7 : Hid (Below w.heap.size w w7) := HB6.out.trans (t2.mono HB6.out.size); clear t2))
          have HA7 := keeps_below HB7.out (Nat.le_refl _) _ _ HA0.out
          rw [Nat.zero_mul, Nat.add_zero] at HA7
          go_upto_region 15 with (go_at_call 7; refine (CC.out w7 HB7.out).mono ?_; rintro e w8 ⟨v8, kx8, rfl, t1, ⟨p8, c8, rfl⟩, t3⟩; have HB8 : Hid (Below w.heap.size w w8) := HB7.out.trans (t3.mono HB7.out.size); have R8 : Hid (RdI w8 (fun _ => True) v8 aR) := t1; obtain ⟨q8, d8, rfl⟩ := t1.shape; clear t1 t3)
          have B9 : Below w8.heap.size w8 (w8.alloc (.cells #[.int .i64 (X.node : Int), .int .i64 X.role, .string X.name, .string X.about, .int .i64 X.level, .int .i64 X.checked, .bool X.off, .slice p8 X.kids.length c8] 27)) := (Below.refl _ _).alloc (Nat.le_refl _) _
          have R9 := R8.out.under B9
          have HB9 : Hid (Below w.heap.size w (w8.alloc (.cells #[.int .i64 (X.node : Int), .int .i64 X.role, .string X.name, .string X.about, .int .i64 X.level, .int .i64 X.checked, .bool X.off, .slice p8 X.kids.length c8] 27))) := HB8.out.trans (B9.mono HB8.out.size)
          have CO9 := CO2.out _ _ HB9.out R9
          clear R9 B9
          generalize w8.alloc (.cells #[.int .i64 (X.node : Int), .int .i64 X.role, .string X.name, .string X.about, .int .i64 X.level, .int .i64 X.checked, .bool X.off, .slice p8 X.kids.length c8] 27) = w9 at *
          go_wp2_with (go_at_call 8; refine CO9.mono ?_; clear CO9 CO2; rintro e w10 ⟨b10, o10, c10, rfl, k1, k2, k3, k4, t2⟩; have HB10 : Hid (Below w.heap.size w w10) := HB9.out.trans (t2.mono HB9.out.size); clear t2)
          go_ret
          exact ⟨rfl, HB10.out⟩
      | false =>
        have CO1 := CO1N he
        clear CO1E CO1N
        by_cases hr : r0 = n
        · subst hr
          go_enter Try.func3, Try.ntmps3
          go_upto_region 9 with (first
            | (go_at_call 4; refine (alive9_any w).mono ?_; rintro e w1 ⟨rfl, hb1⟩)
            | (go_at_call 5; refine (CA.out w1 hb1).mono ?_; clear CA; rintro e w2 ⟨rfl, hb2⟩; have HB2 : Below w.heap.size w w2 := hb1.trans (hb2.mono hb1.size))
            | (go_at_call 6; refine (CH.out w2 HB2).mono ?_; clear CH; rintro e w3 ⟨rfl, hb3⟩; have HB3 : Below w.heap.size w w3 := HB2.trans (hb3.mono HB2.size))
            | (go_at_call 7; refine (CC.out w3 HB3).mono ?_; rintro e w4 ⟨v4, kx4, rfl, t1, ⟨p4, c4, rfl⟩, t3⟩; have HB4 : Hid (Below w.heap.size w w4) := HB3.trans (t3.mono HB3.size); obtain ⟨q4, d4, rfl⟩ := t1.shape; clear t1 t3 hb1 hb2 hb3 HB2 HB3))
          have HB5 : Hid (Below w.heap.size w ((w4.alloc (.cells #[.int .i64 (X.node : Int), .int .i64 X.role, .string X.name, .string X.about, .int .i64 X.level, .int .i64 X.checked, .bool X.off, .slice p4 X.kids.length c4] 27)).alloc (.cells #[.int .i64 (X.node : Int), .int .i64 X.role, .string (X.name ++ s), .string X.about, .int .i64 X.level, .int .i64 X.checked, .bool X.off, .slice none 0 0] 27))) := (HB4.out.alloc HB4.out.size _).alloc (by have := HB4.out.size; simp; omega) _
          have BX5 := box8_new (w4.alloc (.cells #[.int .i64 (X.node : Int), .int .i64 X.role, .string X.name, .string X.about, .int .i64 X.level, .int .i64 X.checked, .bool X.off, .slice p4 X.kids.length c4] 27)) (.int .i64 (X.node : Int)) (.int .i64 X.role) (.string (X.name ++ s)) (.string X.about) (.int .i64 X.level) (.int .i64 X.checked) (.bool X.off) (.slice none 0 0) 27
          rw [show (w4.alloc (.cells #[.int .i64 (X.node : Int), .int .i64 X.role, .string X.name, .string X.about, .int .i64 X.level, .int .i64 X.checked, .bool X.off, .slice p4 X.kids.length c4] 27)).heap.size = w4.heap.size + 1 by simp] at BX5
          generalize (w4.alloc (.cells #[.int .i64 (X.node : Int), .int .i64 X.role, .string X.name, .string X.about, .int .i64 X.level, .int .i64 X.checked, .bool X.off, .slice p4 X.kids.length c4] 27)).alloc (.cells #[.int .i64 (X.node : Int), .int .i64 X.role, .string (X.name ++ s), .string X.about, .int .i64 X.level, .int .i64 X.checked, .bool X.off, .slice none 0 0] 27) = w5 at *
          obtain ⟨x0, x1, x2, x3, x4, x5, x6, x7⟩ := BX5
          go_upto_region 10 with (first
            | (go_at_call 9; refine (CT.out w5 HB5.out).mono ?_; clear CT; rintro e w6 ⟨v6, rfl, t1, t2⟩; have HB6 : Hid (Below w.heap.size w w6) := HB5.out.trans (t2.mono HB5.out.size); have CO6 := CO1.out w6 v6 HB6.out t1; obtain ⟨q6, d6, rfl⟩ := t1.shape; clear t1 t2)
            | (go_at_call 8; refine CO6.mono ?_; clear CO6 CO1; rintro e w7 ⟨b7, o7, c7, rfl, s1, s2, s3, s4, t2⟩; have HB7 : Hid (Below w.heap.size w w7) := HB6.out.trans (t2.mono HB6.out.size); clear t2))
          have HA7 := keeps_below HB7.out (Nat.le_refl _) _ _ HA0.out
          rw [Nat.zero_mul, Nat.add_zero] at HA7
          go_wp2_with fail
          go_ret
          exact ⟨rfl, HB7.out⟩
        · have hre : ((r0 : Int) == (n : Int)) = false := by rw [beq_eq_false_iff_ne]; omega
          clear hr
          go_enter Try.func3, Try.ntmps3
          go_upto_region 9 with (first
            | (go_at_call 4; refine (alive9_any w).mono ?_; rintro e w1 ⟨rfl, hb1⟩)
            | (go_at_call 5; refine (CA.out w1 hb1).mono ?_; clear CA; rintro e w2 ⟨rfl, hb2⟩; have HB2 : Below w.heap.size w w2 := hb1.trans (hb2.mono hb1.size))
            | (go_at_call 6; refine (CH.out w2 HB2).mono ?_; clear CH; rintro e w3 ⟨rfl, hb3⟩; have HB3 : Below w.heap.size w w3 := HB2.trans (hb3.mono HB2.size))
            | (go_at_call 7; refine (CC.out w3 HB3).mono ?_; rintro e w4 ⟨v4, kx4, rfl, t1, ⟨p4, c4, rfl⟩, t3⟩; have HB4 : Hid (Below w.heap.size w w4) := HB3.trans (t3.mono HB3.size); obtain ⟨q4, d4, rfl⟩ := t1.shape; clear t1 t3 hb1 hb2 hb3 HB2 HB3))
          have HB5 : Hid (Below w.heap.size w ((w4.alloc (.cells #[.int .i64 (X.node : Int), .int .i64 X.role, .string X.name, .string X.about, .int .i64 X.level, .int .i64 X.checked, .bool X.off, .slice p4 X.kids.length c4] 27)).alloc (.cells #[.int .i64 (X.node : Int), .int .i64 X.role, .string (X.name ++ s), .string X.about, .int .i64 X.level, .int .i64 X.checked, .bool X.off, .slice none 0 0] 27))) := (HB4.out.alloc HB4.out.size _).alloc (by have := HB4.out.size; simp; omega) _
          have BX5 := box8_new (w4.alloc (.cells #[.int .i64 (X.node : Int), .int .i64 X.role, .string X.name, .string X.about, .int .i64 X.level, .int .i64 X.checked, .bool X.off, .slice p4 X.kids.length c4] 27)) (.int .i64 (X.node : Int)) (.int .i64 X.role) (.string (X.name ++ s)) (.string X.about) (.int .i64 X.level) (.int .i64 X.checked) (.bool X.off) (.slice none 0 0) 27
          rw [show (w4.alloc (.cells #[.int .i64 (X.node : Int), .int .i64 X.role, .string X.name, .string X.about, .int .i64 X.level, .int .i64 X.checked, .bool X.off, .slice p4 X.kids.length c4] 27)).heap.size = w4.heap.size + 1 by simp] at BX5
          generalize (w4.alloc (.cells #[.int .i64 (X.node : Int), .int .i64 X.role, .string X.name, .string X.about, .int .i64 X.level, .int .i64 X.checked, .bool X.off, .slice p4 X.kids.length c4] 27)).alloc (.cells #[.int .i64 (X.node : Int), .int .i64 X.role, .string (X.name ++ s), .string X.about, .int .i64 X.level, .int .i64 X.checked, .bool X.off, .slice none 0 0] 27) = w5 at *
          obtain ⟨x0, x1, x2, x3, x4, x5, x6, x7⟩ := BX5
          go_upto_region 10 with (first
            | (go_at_call 9; refine (CT.out w5 HB5.out).mono ?_; clear CT; rintro e w6 ⟨v6, rfl, t1, t2⟩; have HB6 : Hid (Below w.heap.size w w6) := HB5.out.trans (t2.mono HB5.out.size); have CO6 := CO1.out w6 v6 HB6.out t1; obtain ⟨q6, d6, rfl⟩ := t1.shape; clear t1 t2)
            | (go_at_call 8; refine CO6.mono ?_; clear CO6 CO1; rintro e w7 ⟨b7, o7, c7, rfl, s1, s2, s3, s4, t2⟩; have HB7 : Hid (Below w.heap.size w w7) := HB6.out.trans (t2.mono HB6.out.size); clear t2))
          have HA7 := keeps_below HB7.out (Nat.le_refl _) _ _ HA0.out
          rw [Nat.zero_mul, Nat.add_zero] at HA7
          go_upto_region 15 with (go_at_call 7; refine (CC.out w7 HB7.out).mono ?_; rintro e w8 ⟨v8, kx8, rfl, t1, ⟨p8, c8, rfl⟩, t3⟩; have HB8 : Hid (Below w.heap.size w w8) := HB7.out.trans (t3.mono HB7.out.size); have R8 : Hid (RdI w8 (fun _ => True) v8 aR) := t1; obtain ⟨q8, d8, rfl⟩ := t1.shape; clear t1 t3)
          have B9 : Below w8.heap.size w8 (w8.alloc (.cells #[.int .i64 (X.node : Int), .int .i64 X.role, .string X.name, .string X.about, .int .i64 X.level, .int .i64 X.checked, .bool X.off, .slice p8 X.kids.length c8] 27)) := (Below.refl _ _).alloc (Nat.le_refl _) _
          have R9 := R8.out.under B9
          have HB9 : Hid (Below w.heap.size w (w8.alloc (.cells #[.int .i64 (X.node : Int), .int .i64 X.role, .string X.name, .string X.about, .int .i64 X.level, .int .i64 X.checked, .bool X.off, .slice p8 X.kids.length c8] 27))) := HB8.out.trans (B9.mono HB8.out.size)
          have CO9 := CO2.out _ _ HB9.out R9
          clear R9 B9
          generalize w8.alloc (.cells #[.int .i64 (X.node : Int), .int .i64 X.role, .string X.name, .string X.about, .int .i64 X.level, .int .i64 X.checked, .bool X.off, .slice p8 X.kids.length c8] 27) = w9 at *
          go_wp2_with (go_at_call 8; refine CO9.mono ?_; clear CO9 CO2; rintro e w10 ⟨b10, o10, c10, rfl, k1, k2, k3, k4, t2⟩; have HB10 : Hid (Below w.heap.size w w10) := HB9.out.trans (t2.mono HB9.out.size); clear t2)
          go_ret
          exact ⟨rfl, HB10.out⟩
end Go.Proofs.Ytgpckmolcdafcaf
