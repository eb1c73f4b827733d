/-
  OWN WORK: Nnm, Nli, Nlb, Nel.
-/
import Derived.Test.YtcinjbolflhjmadGreatDoorP12
import Derived.Deep.CutRange
/-
  THE WALK of naming's names.
-/
namespace Go.Proofs.YtcinjbolflhjmadGreatDoor
open Go.RowKit Go.Maps

/-- one more -/
def stepE (nm : St → Nat → ByteArray × St) (s : List ByteArray × St) (k : Int) : List ByteArray × St :=
  if 0 ≤ k ∧ s.2.had.contains k.toNat = false then (s.1 ++ [(nm s.2 k.toNat).1], (nm s.2 k.toNat).2) else s
theorem each_fold (nm : St → Nat → ByteArray × St) : ∀ (ks : List Int) (s : List ByteArray × St), eachF nm ks s = ks.foldl (stepE nm) s
  | [], _ => rfl
  | k :: ks, s => by
    rw [eachF, each_fold nm ks, List.foldl_cons]
    rfl
theorem each_take (nm : St → Nat → ByteArray × St) (ks : List Int) (s : List ByteArray × St) (j : Nat) (h : j < ks.length) : eachF nm (ks.take (j + 1)) s = stepE nm (eachF nm (ks.take j) s) ks[j] := by
  rw [each_fold, each_fold, List.take_succ_eq_append_getElem h, List.foldl_append]
  rfl

/-- what name answers, with as much fuel as that -/
def NameC (b o c : Nat) (rs : List Raw) (d : Tn.Dc) (p : Option Addr) (cc : Nat) (cl : List Cl) (A L f : Nat) : Prop :=
  ∀ (W : World) (st : St) (n : Nat) (fo : Bool), Nx W b o c rs d (.slice p cl.length cc) cl → PreAt W A st.had n → SetAt W L st.lst → OkS d st → 61 ≤ f + st.had.length → Tn.lvD d n = true → n ∉ st.had →
    Calls Tryz.prog 31 #[.agg #[.slice (some ⟨b, o, none⟩) rs.length c, .slice p cl.length cc, .map (some A), .map (some L)], .int .i64 (n : Int), .bool fo] W fun e w' =>
      e = .returned (.string (nameF f d cl st n fo).1) ∧ SetAt w' A (nameF f d cl st n fo).2.had ∧ SetAt w' L (nameF f d cl st n fo).2.lst ∧ Bt [A, L] W w'

set_option maxHeartbeats 6400000 in
set_option maxRecDepth 100000 in
theorem nnames_of {b o c : Nat} {rs : List Raw} {d : Tn.Dc} {p : Option Addr} {cc : Nat} {cl : List Cl} {A L f : Nat} (H : NameC b o c rs d p cc cl A L f) {W : World} {vk : Value} {ks : List Int} {st : St} (hx : Nx W b o c rs d (.slice p cl.length cc) cl) (hS : SetAt W A st.had) (hL : SetAt W L st.lst) (ho : OkS d st) (hf : 61 ≤ f + st.had.length)
    (hk : ZsAt W vk ks) (hks : ∀ k ∈ ks, -1 ≤ k ∧ ∀ j : Nat, k = (j : Int) → Tn.lvD d j = true) (hlen : ks.length ≤ 1073741824) :
    Calls Tryz.prog 83 #[.agg #[.slice (some ⟨b, o, none⟩) rs.length c, .slice p cl.length cc, .map (some A), .map (some L)], vk] W fun e w' =>
      e = .returned (.string (joinF (eachF (fun t k => nameF f d cl t k true) ks ([], st))).1) ∧ SetAt w' A (joinF (eachF (fun t k => nameF f d cl t k true) ks ([], st))).2.had ∧ SetAt w' L (joinF (eachF (fun t k => nameF f d cl t k true) ks ([], st))).2.lst ∧ Bt [A, L] W w' := by
  have hF := hx.cx.fine
  have hdl := hF.good.len.2
  have hAl := hS.lt
  have hLl := hL.lt
  have ER : Hid (∀ j, EachR d ([], st) (eachF (fun t k => nameF f d cl t k true) (ks.take j) ([], st))) := fun j => each_went ((name_ok hF hx.cx.vn hx.vt hx.forest f).one true) (ks.take j) ([], st) (fun k hk' i e => (hks k (List.mem_of_mem_take hk')).2 i e) ho (by show 61 - f ≤ st.had.length; omega)
  have E0 : Hid (eachF (fun t k => nameF f d cl t k true) (ks.take 0) ([], st) = ([], st)) := rfl
  have EZ : Hid (eachF (fun t k => nameF f d cl t k true) ks ([], st) = eachF (fun t k => nameF f d cl t k true) (ks.take ks.length) ([], st)) := by show _ = _; rw [List.take_length]
  have EJ : Hid (∀ j (h : j < ks.length), eachF (fun t k => nameF f d cl t k true) (ks.take (j + 1)) ([], st) = stepE (fun t k => nameF f d cl t k true) (eachF (fun t k => nameF f d cl t k true) (ks.take j) ([], st)) ks[j]) := fun j h => each_take _ ks _ j h
  have KS : Hid (∀ k ∈ ks, -1 ≤ k ∧ ∀ j : Nat, k = (j : Int) → Tn.lvD d j = true) := hks
  have NX : Hid (Nx W b o c rs d (.slice p cl.length cc) cl) := hx
  have S0 : Hid (SetAt W A st.had) := hS
  have L0 : Hid (SetAt W L st.lst) := hL
  obtain ⟨pk, ck, rfl, kc1, kc2, hat⟩ := hk.at
  have HAT : Hid (∀ j (hj : j < ks.length), ∃ b o, pk = some ⟨b, o, none⟩ ∧ W.cell? ⟨b, o + j, none⟩ = some (.int .i64 ks[j])) := hat
  have FU : Hid (61 ≤ f + st.had.length) := hf
  generalize hE : (fun j => eachF (fun t k => nameF f d cl t k true) (ks.take j) ([], st)) = E
  have eE : ∀ j, eachF (fun t k => nameF f d cl t k true) (ks.take j) ([], st) = E j := fun j => by rw [← hE]
  simp only [eE] at ER E0 EZ EJ
  rw [EZ.out]
  clear eE hE hat hk hS hL hx hks ho EZ
  have B2 : Below W.heap.size W (W.alloc (.cells #[.slice (some ⟨b, o, none⟩) rs.length c, .slice p cl.length cc, .map (some A), .map (some L)] 66)) := (Below.refl W.heap.size W).alloc (Nat.le_refl _) _
  have z2 : (W.alloc (.cells #[.slice (some ⟨b, o, none⟩) rs.length c, .slice p cl.length cc, .map (some A), .map (some L)] 66)).heap.size = W.heap.size + 1 := by simp
  have C0 := box4' W (.slice (some ⟨b, o, none⟩) rs.length c) (.slice p cl.length cc) (.map (some A)) (.map (some L)) 66
  go_enter Tryz.func83, Tryz.ntmps83
  go_upto_region 3 with fail
  generalize W.alloc (.cells #[.slice (some ⟨b, o, none⟩) rs.length c, .slice p cl.length cc, .map (some A), .map (some L)] 66) = w2 at *
  obtain ⟨q0, q1, q2, q3⟩ := C0
  have N2 : Hid (Nx w2 b o c rs d (.slice p cl.length cc) cl) := NX.out.below B2
  have S2 : SetAt w2 A st.had := S0.out.below B2
  have L2 : SetAt w2 L st.lst := L0.out.below B2
  have M2 : Hid (AreMaps [A, L] w2) := maps2 S2 L2
  go_loopw [5, 10] (fun nv iv wr => ∃ (j : Nat) (nw : Value), j ≤ ks.length ∧ iv = .int .i64 j ∧ nv = nw ∧ OwnS wr (W.heap.size + 1) nw (E j).1 ∧ SetAt wr A (E j).2.had ∧ Hid (SetAt wr L (E j).2.lst) ∧ Bt [A, L] w2 wr)
    (fun _ iv _ => ks.length - (intOf iv).toNat)
  case atStart => exact ⟨0, _, Nat.zero_le _, rfl, rfl, by rw [E0.out]; exact OwnS.nil _ _, by rw [E0.out]; exact S2, by show SetAt _ _ _; rw [E0.out]; exact L2, Bt.refl _ _⟩
  case round =>
    obtain ⟨j, nv, hj, rfl, rfl, hown, hSr, hLr, hbt⟩ := hrel
    have zr := hbt.size
    have KR : Keeps w2 wr := hbt.keeps M2.out
    have a0 := KR _ _ q0
    have a1 := KR _ _ q1
    have a2 := KR _ _ q2
    have a3 := KR _ _ q3
    have NR : Hid (Nx wr b o c rs d (.slice p cl.length cc) cl) := N2.out.keeps KR zr
    have ERj := ER.out j
    have hfew := ERj.went.ok.few hF
    have hll := ERj.len
    have hsm := ERj.sum
    have hwl := ERj.went.len
    simp only [List.length_nil, sumS] at hll hsm
    by_cases hlt : j < ks.length
    · obtain ⟨bk, ok, rfl, hcell⟩ := HAT.out j hlt
      have hc : wr.cell? ⟨bk, ok + j, none⟩ = some (.int .i64 ks[j]) := KR _ _ (keeps_below B2 (Nat.le_refl _) _ _ hcell)
      have hkj := KS.out ks[j] (List.getElem_mem _)
      have EJj := EJ.out j hlt
      have EM : Hid (E (j + 1) = stepE (fun t k => nameF f d cl t k true) (E j) ks[j]) := EJj
      clear EJj hcell
      generalize ks[j] = k at *
      by_cases hit : 0 ≤ k ∧ (E j).2.had.contains k.toNat = false
      · obtain ⟨m, rfl⟩ : ∃ m : Nat, k = (m : Int) := ⟨k.toNat, by omega⟩
        have hml := hkj.2 m rfl
        have hmn := Tn.lv_lt hml
        have hnot : m ∉ (E j).2.had := by simpa using hit.2
        have EH : Hid (E (j + 1) = ((E j).1 ++ [(nameF f d cl (E j).2 m true).1], (nameF f d cl (E j).2 m true).2)) := by
          show _ = _
          rw [EM.out]
          unfold stepE
          rw [if_pos hit, Int.toNat_natCast]
        have MA := nmay_any NR.out.cx.doc hSr (L := some L) p cl.length cc (m : Int) (by omega) (by omega)
        have eM : (!decide (0 ≤ (m : Int) ∧ (m : Int).toNat ∈ (E j).2.had) && Tn.isN d (m : Int) false) = true := by
          rw [Tn.isN_iff, hml]
          simpa using hnot
        rw [eM] at MA
        have NC : Hid (∀ w3, Below wr.heap.size wr w3 → Calls Tryz.prog 31 #[.agg #[.slice (some ⟨b, o, none⟩) rs.length c, .slice p cl.length cc, .map (some A), .map (some L)], .int .i64 (m : Int), .bool true] w3 fun e w' =>
            e = .returned (.string (nameF f d cl (E j).2 m true).1) ∧ SetAt w' A (nameF f d cl (E j).2 m true).2.had ∧ SetAt w' L (nameF f d cl (E j).2 m true).2.lst ∧ Bt [A, L] w3 w') := fun w3 hb3 => H w3 (E j).2 m true (NR.out.below hb3) ((hSr.below hb3).pre m) (hLr.out.below hb3) ERj.went.ok (by have := FU.out; have : st.had.length ≤ (E j).2.had.length := hwl; omega) hml hnot
        have HS : Hid (SetAt wr A (E j).2.had) := hSr
        have HB : Hid (Bt [A, L] w2 wr) := hbt
        have HO : Hid (OwnS wr (W.heap.size + 1) _ (E j).1) := hown
        have hl9 : (E j).1.length ≤ 1000000000 := by omega
        clear EM hit hkj hml hnot eM hSr ERj hbt
        generalize (nameF f d cl (E j).2 m true).2 = s9 at *
        generalize (nameF f d cl (E j).2 m true).1 = t9 at *
        generalize hEj : (E j).1 = ej at *
        clear hEj
        go_wp2_with (first
          | (go_at_call 87; refine MA.mono ?_; rintro e w3 ⟨rfl, hb3⟩; have K3 := keeps_below hb3 (Nat.le_refl _); have b0 := K3 _ _ a0; have b1 := K3 _ _ a1; have b2 := K3 _ _ a2; have b3 := K3 _ _ a3; have NC3 := NC.out w3 hb3)
          | (go_at_call 31; refine NC3.mono ?_; rintro e w4 ⟨rfl, hS4, hL4, hb4⟩; have O4 : OwnS w4 (W.heap.size + 1) _ ej := hb4.owns (owns_below HO.out hb3) (by simp; omega); have z4 : W.heap.size + 1 ≤ w4.heap.size := by (have := hb4.size; have := hb3.size; omega))
          | (at_builtin; refine append_str rfl _ _ rfl t9 rfl rfl O4 z4 hl9 ?_; intro v5 w5 O5 hb5))
        go_roundw
        case rel =>
          refine ⟨j + 1, _, by omega, by go_num, rfl, by rw [EH.out]; exact O5, ?_, ?_, ?_⟩
          · rw [EH.out]
            exact hS4.same (hb5.block A (by omega))
          · show SetAt _ _ _
            rw [EH.out]
            exact hL4.same (hb5.block L (by omega))
          · exact ((HB.out.trans ((Bt.below hb3).trans hb4)).high hb5 (by omega))
        case measure => simp [intOf]; omega
      · have MA := nmay_any NR.out.cx.doc hSr (L := some L) p cl.length cc k (by omega) (by
          by_cases h0 : 0 ≤ k
          · obtain ⟨m, rfl⟩ : ∃ m : Nat, k = (m : Int) := ⟨k.toNat, by omega⟩
            have := Tn.lv_lt (hkj.2 m rfl)
            omega
          · omega)
        have eM : (!decide (0 ≤ k ∧ k.toNat ∈ (E j).2.had) && Tn.isN d k false) = false := by
          by_cases h0 : 0 ≤ k
          · have : k.toNat ∈ (E j).2.had := by
              apply Classical.byContradiction
              intro hn
              exact hit ⟨h0, by simpa using hn⟩
            simp [h0, this]
          · have : Tn.isN d k false = false := by unfold Tn.isN; simp [h0]
            rw [this]
            simp
        rw [eM] at MA
        have EH : Hid (E (j + 1) = E j) := by
          show _ = _
          rw [EM.out]
          unfold stepE
          rw [if_neg hit]
        have HS : Hid (SetAt wr A (E j).2.had) := hSr
        have HB : Hid (Bt [A, L] w2 wr) := hbt
        have HO : Hid (OwnS wr (W.heap.size + 1) _ (E j).1) := hown
        clear EM hit hkj eM hSr ERj hbt hown
        go_wp2_with (go_at_call 87; refine MA.mono ?_; rintro e w3 ⟨rfl, hb3⟩)
        go_roundw
        case rel => exact ⟨j + 1, _, by omega, by go_num, rfl, by rw [EH.out]; exact owns_below HO.out hb3, by rw [EH.out]; exact HS.out.below hb3, by show SetAt _ _ _; rw [EH.out]; exact hLr.out.below hb3, HB.out.trans (Bt.below hb3)⟩
        case measure => simp [intOf]; omega
    · obtain rfl : j = ks.length := by omega
      have hjs := joined_sum (E ks.length).1
      have hb9 : (Tx.joined (txs (E ks.length).1)).length ≤ 1073741824 := by
        have h1 : VL * ((E ks.length).2.had.length - st.had.length) ≤ VL * 60 := Nat.mul_le_mul_left _ (by omega)
        unfold VL at *
        omega
      have GJ := gjoin_owns hown (by omega) hb9
      have SQ : ∀ w3, Calls Tryz.prog 52 #[.string (joinB (E ks.length).1)] w3 fun e w' => e = .returned (.string (Wd.sqz (joinB (E ks.length).1))) ∧ Below w3.heap.size w3 w' := fun w3 => Wd.squeeze_big _ w3 (by have := joinB_size (E ks.length).1; have h1 : VL * ((E ks.length).2.had.length - st.had.length) ≤ VL * 60 := Nat.mul_le_mul_left _ (by omega); unfold VL at *; omega)
      have ER9 : Hid ((joinF (E ks.length)).1 = Wd.sqz (joinB (E ks.length).1)) := rfl
      have HS : Hid (SetAt wr A (joinF (E ks.length)).2.had) := hSr
      have HB : Hid (Bt [A, L] W wr) := (Bt.below B2).trans hbt
      have HLL : Hid (SetAt wr L (joinF (E ks.length)).2.lst) := hLr.out
      clear hjs hb9 hSr ERj hbt hll hsm
      generalize joinB (E ks.length).1 = jb at *
      go_wp2_with (first
        | (go_at_call 80; refine GJ.mono ?_; rintro e w3 ⟨rfl, hb3⟩)
        | (go_at_call 52; refine (SQ _).mono ?_; rintro e w4 ⟨rfl, hb4⟩))
      go_ret
      exact ⟨congrArg (fun s => Ending.returned (.string s)) ER9.out.symm, (HS.out.below hb3).below hb4, (HLL.out.below hb3).below hb4, HB.out.trans ((Bt.below hb3).trans (Bt.below hb4))⟩
end Go.Proofs.YtcinjbolflhjmadGreatDoor

/-
  THE WALK of naming's listedNames.
-/
namespace Go.Proofs.YtcinjbolflhjmadGreatDoor
open Go.RowKit Go.Maps

theorem toks_cells {w : World} {B : Nat} {v : Value} {ts : List (List UInt8)} (h : w.ownsRow B 9 1 v ts.length (ts.map Wd.tv)) : ∃ p c, v = .slice p ts.length c ∧ ts.length ≤ c ∧ c ≤ 9223372036854775807 ∧ ∀ j (_ : j < ts.length), ∃ b o, p = some ⟨b, o, none⟩ ∧ w.cell? ⟨b, o + j, none⟩ = some (.string (Tx.bs ts[j])) := by
  obtain ⟨p, c, e, h1, h2, h3, h4⟩ := cells_of_owns h
  refine ⟨p, c, e, h1, by unfold maxLen at h2; omega, fun j hj => ?_⟩
  obtain ⟨b, o, e1, e2⟩ := h4 j (Wd.tv ts[j]) (by simp [hj])
  exact ⟨b, o, e1, e2⟩
theorem wtoks_at (s : ByteArray) (W : World) (hs : s.size ≤ 4194304) : Calls Tryz.prog 81 #[.string s] W fun e w' => ∃ p c, e = .returned (.slice p (Wd.toksOf s).length c) ∧ Hid ((Wd.toksOf s).length ≤ c ∧ c ≤ 9223372036854775807 ∧ ∀ j (_ : j < (Wd.toksOf s).length), ∃ b o, p = some ⟨b, o, none⟩ ∧ w'.cell? ⟨b, o + j, none⟩ = some (.string (Tx.bs (Wd.toksOf s)[j]))) ∧ Below W.heap.size W w' :=
  (Wd.tokens_own s W hs).mono (by
    rintro e w' ⟨v, rfl, h2, h3, _⟩
    obtain ⟨p, c, rfl, h⟩ := toks_cells h2
    exact ⟨p, c, rfl, h, h3⟩)
theorem rtoks_at (s : ByteArray) (W : World) (hs : s.size ≤ 4194304) : Calls Tryz.prog 21 #[.string s] W fun e w' => ∃ p c, e = .returned (.slice p (Wd.toksOf s).length c) ∧ Hid ((Wd.toksOf s).length ≤ c ∧ c ≤ 9223372036854775807 ∧ ∀ j (_ : j < (Wd.toksOf s).length), ∃ b o, p = some ⟨b, o, none⟩ ∧ w'.cell? ⟨b, o + j, none⟩ = some (.string (Tx.bs (Wd.toksOf s)[j]))) ∧ Below W.heap.size W w' :=
  (Wd.rtokens_own s W hs).mono (by
    rintro e w' ⟨v, rfl, h2, h3, _⟩
    obtain ⟨p, c, rfl, h⟩ := toks_cells h2
    exact ⟨p, c, rfl, h, h3⟩)

theorem find_range {d : Tn.Dc} (h : Fine d) (n : Int) (id : ByteArray) : -1 ≤ findD d n id ∧ ∀ j : Nat, findD d n id = (j : Int) → Tn.lvD d j = true := by
  refine ⟨?_, fun j e => find_lv h e⟩
  rcases find_neg (d := d) (n := n) (id := id) with e | ⟨k, e⟩ <;> omega

set_option maxHeartbeats 6400000 in
set_option maxRecDepth 100000 in
theorem nlisted_of {b o c : Nat} {rs : List Raw} {d : Tn.Dc} {p : Option Addr} {cc : Nat} {cl : List Cl} {A L f : Nat} (H : NameC b o c rs d p cc cl A L f) (hne : A ≠ L) {W : World} {st : St} (hx : Nx W b o c rs d (.slice p cl.length cc) cl) (hS : SetAt W A st.had) (hL : SetAt W L st.lst) (ho : OkS d st) (hf : 61 ≤ f + st.had.length) (n : Int) (name : ByteArray) :
    Calls Tryz.prog 54 #[.agg #[.slice (some ⟨b, o, none⟩) rs.length c, .slice p cl.length cc, .map (some A), .map (some L)], .int .i64 n, .string name] W fun e w' =>
      e = .returned (.string (listD (nameF f d cl) d cl n name st).1) ∧ SetAt w' A (listD (nameF f d cl) d cl n name st).2.had ∧ SetAt w' L (listD (nameF f d cl) d cl n name st).2.lst ∧ Bt [A, L] W w' := by
  have hF := hx.cx.fine
  have hdl := hF.good.len.2
  have hAl := hS.lt
  have hLl := hL.lt
  have hz := val_size hx.cx.vn n name
  have htl := Wd.toksOf_len (valN d n name)
  have OK : Hid (Okd d) := hF.okd
  have ER : Hid (∀ j, EachR d ([], st) (eachF (tagN (nameF f d cl) d cl) ((refsD d n name).take j) ([], st))) := fun j => each_went ((name_ok hF hx.cx.vn hx.vt hx.forest f).tag hF hx.forest) ((refsD d n name).take j) ([], st) (fun k hk' i e => refs_lv hF n name k (List.mem_of_mem_take hk') i e) ho (by show 61 - f ≤ st.had.length; omega)
  have E0 : Hid (eachF (tagN (nameF f d cl) d cl) ((refsD d n name).take 0) ([], st) = ([], st)) := rfl
  have hlr : (refsD d n name).length = (Wd.toksOf (valN d n name)).length := by unfold refsD; rw [List.length_map]
  have EZ : Hid (listD (nameF f d cl) d cl n name st = joinF (eachF (tagN (nameF f d cl) d cl) ((refsD d n name).take (Wd.toksOf (valN d n name)).length) ([], st))) := by show _ = _; rw [← hlr, List.take_length]; rfl
  have EJ : Hid (∀ j (h : j < (Wd.toksOf (valN d n name)).length), eachF (tagN (nameF f d cl) d cl) ((refsD d n name).take (j + 1)) ([], st) = stepE (tagN (nameF f d cl) d cl) (eachF (tagN (nameF f d cl) d cl) ((refsD d n name).take j) ([], st)) (findD d n (Tx.bs (Wd.toksOf (valN d n name))[j]))) := fun j h => by
    have h1 := each_take (tagN (nameF f d cl) d cl) (refsD d n name) ([], st) j (by rw [hlr]; exact h)
    have h2 : (refsD d n name)[j]'(by rw [hlr]; exact h) = findD d n (Tx.bs (Wd.toksOf (valN d n name))[j]) := by unfold refsD; rw [List.getElem_map]
    rw [h2] at h1
    exact h1
  have B1 : Below W.heap.size W (W.alloc (.cells #[.slice (some ⟨b, o, none⟩) rs.length c, .slice p cl.length cc, .map (some A), .map (some L)] 66)) := (Below.refl W.heap.size W).alloc (Nat.le_refl _) _
  have C0 := box4' W (.slice (some ⟨b, o, none⟩) rs.length c) (.slice p cl.length cc) (.map (some A)) (.map (some L)) 66
  have hA := dattr_all (hx.below B1).cx.doc OK.out n name
  have hT : ∀ w2, Calls Tryz.prog 81 #[.string (valN d n name)] w2 fun e w' => ∃ p c, e = .returned (.slice p (Wd.toksOf (valN d n name)).length c) ∧ Hid ((Wd.toksOf (valN d n name)).length ≤ c ∧ c ≤ 9223372036854775807 ∧ ∀ j (_ : j < (Wd.toksOf (valN d n name)).length), ∃ b o, p = some ⟨b, o, none⟩ ∧ w'.cell? ⟨b, o + j, none⟩ = some (.string (Tx.bs (Wd.toksOf (valN d n name))[j]))) ∧ Below w2.heap.size w2 w' := fun w2 => wtoks_at _ w2 hz
  have NX : Hid (Nx W b o c rs d (.slice p cl.length cc) cl) := hx
  have S0 : Hid (SetAt W A st.had) := hS
  have L0 : Hid (SetAt W L st.lst) := hL
  have FU : Hid (61 ≤ f + st.had.length) := hf
  have HF : Hid (Fine d) := hF
  have HFO : Hid (Forest d cl) := hx.forest
  have HNE : Hid (A ≠ L) := hne
  rw [EZ.out]
  generalize hE : (fun j => eachF (tagN (nameF f d cl) d cl) ((refsD d n name).take j) ([], st)) = E
  have eE : ∀ j, eachF (tagN (nameF f d cl) d cl) ((refsD d n name).take j) ([], st) = E j := fun j => by rw [← hE]
  simp only [eE] at ER E0 EZ EJ
  rw [eE]
  have HJF : Hid (∀ s : List ByteArray × St, joinF s = (Wd.sqz (joinB s.1), s.2)) := fun _ => rfl
  generalize Wd.toksOf (valN d n name) = ts at *
  generalize valN d n name = vs at *
  generalize (attrN d n name).isSome = vb at *
  clear hx hS hL ho hf hF eE hE EZ hlr hne
  have z1 : (W.alloc (.cells #[.slice (some ⟨b, o, none⟩) rs.length c, .slice p cl.length cc, .map (some A), .map (some L)] 66)).heap.size = W.heap.size + 1 := by simp
  go_enter Tryz.func54, Tryz.ntmps54
  go_upto_region 1 with fail
  generalize W.alloc (.cells #[.slice (some ⟨b, o, none⟩) rs.length c, .slice p cl.length cc, .map (some A), .map (some L)] 66) = w1 at *
  obtain ⟨q0, q1, q2, q3⟩ := C0
  go_upto_region 4 with (first
    | (go_at_call 85; refine hA.mono ?_; rintro e w2 ⟨rfl, hb2⟩)
    | (go_at_call 81; refine (hT _).mono ?_; rintro e w3 ⟨pt, ct, rfl, HT, hb3⟩))
  have B3 : Below W.heap.size W w3 := B1.trans ((hb2.mono B1.size).trans (hb3.mono (Nat.le_trans B1.size hb2.size)))
  have K3 : Keeps w1 w3 := (keeps_below hb2 (Nat.le_refl _)).trans (keeps_below hb3 (Nat.le_refl _))
  have r0 := K3 _ _ q0
  have r1 := K3 _ _ q1
  have r2 := K3 _ _ q2
  have r3 := K3 _ _ q3
  have z3 : W.heap.size + 1 ≤ w3.heap.size := by have := hb2.size; have := hb3.size; omega
  have N3 : Hid (Nx w3 b o c rs d (.slice p cl.length cc) cl) := NX.out.below B3
  have S3 : Hid (SetAt w3 A st.had) := S0.out.below B3
  have L3 : Hid (SetAt w3 L st.lst) := L0.out.below B3
  have M3 : Hid (AreMaps [A, L] w3) := maps2 S3.out L3.out
  clear hT hA q0 q1 q2 q3 K3 hb2 hb3 B1 NX S0 L0
  go_loopw [9, 24] (fun nv iv wr => ∃ (j : Nat) (nw : Value), j ≤ ts.length ∧ iv = .int .i64 j ∧ nv = nw ∧ OwnS wr w3.heap.size nw (E j).1 ∧ SetAt wr A (E j).2.had ∧ Hid (SetAt wr L (E j).2.lst) ∧ Bt [A, L] w3 wr)
    (fun _ iv _ => ts.length - (intOf iv).toNat)
  case atStart => exact ⟨0, _, Nat.zero_le _, rfl, rfl, by rw [E0.out]; exact OwnS.nil _ _, by rw [E0.out]; exact S3.out, by show SetAt _ _ _; rw [E0.out]; exact L3.out, Bt.refl _ _⟩
  case round =>
    obtain ⟨j, nw, hj, rfl, rfl, hown, hSr, hLr, hbt⟩ := hrel
    have KR := hbt.keeps M3.out
    have a0 := KR _ _ r0
    have a1 := KR _ _ r1
    have a2 := KR _ _ r2
    have a3 := KR _ _ r3
    have zr := hbt.size
    have NR : Hid (Nx wr b o c rs d (.slice p cl.length cc) cl) := N3.out.keeps KR zr
    have ERj := ER.out j
    have hfew := ERj.went.ok.few HF.out
    have hll := ERj.len
    have hsm := ERj.sum
    have hwl := ERj.went.len
    simp only [List.length_nil, sumS] at hll hsm
    by_cases hlt : j < ts.length
    · obtain ⟨g1, g2, HC⟩ := HT.out
      obtain ⟨bk, ok, rfl, hcell⟩ := HC j hlt
      have hc : wr.cell? ⟨bk, ok + j, none⟩ = some (.string (Tx.bs ts[j])) := KR _ _ hcell
      have hFi : Calls Tryz.prog 86 #[.slice (some ⟨b, o, none⟩) rs.length c, .int .i64 n, .string (Tx.bs ts[j])] wr fun e w' => e = .returned (.int .i64 (findD d n (Tx.bs ts[j]))) ∧ Below wr.heap.size wr w' := dfind_any NR.out.cx.doc OK.out.tame OK.out.small OK.out.root OK.out.rise OK.out.few n _
      have hkj := find_range HF.out n (Tx.bs ts[j])
      have EM : Hid (E (j + 1) = stepE (tagN (nameF f d cl) d cl) (E j) (findD d n (Tx.bs ts[j]))) := EJ.out j hlt
      clear HC hcell
      generalize findD d n (Tx.bs ts[j]) = k at *
      generalize Tx.bs ts[j] = id at *
      have HB : Hid (Bt [A, L] w3 wr) := hbt
      have HO : Hid (OwnS wr w3.heap.size _ (E j).1) := hown
      have HS : Hid (SetAt wr A (E j).2.had) := hSr
      have KK : Hid (∀ w4, Below wr.heap.size wr w4 → w4.cell? ⟨W.heap.size, 0, none⟩ = some (.slice (some ⟨b, o, none⟩) rs.length c) ∧ w4.cell? ⟨W.heap.size, 1, none⟩ = some (.slice p cl.length cc) ∧ w4.cell? ⟨W.heap.size, 2, none⟩ = some (.map (some A)) ∧ w4.cell? ⟨W.heap.size, 3, none⟩ = some (.map (some L))) := fun w4 hb => ⟨keeps_below hb (Nat.le_refl _) _ _ a0, keeps_below hb (Nat.le_refl _) _ _ a1, keeps_below hb (Nat.le_refl _) _ _ a2, keeps_below hb (Nat.le_refl _) _ _ a3⟩
      by_cases hit : 0 ≤ k ∧ (E j).2.had.contains k.toNat = false
      · obtain ⟨m, rfl⟩ : ∃ m : Nat, k = (m : Int) := ⟨k.toNat, by omega⟩
        have hml := hkj.2 m rfl
        have hmn := Tn.lv_lt hml
        have hnot : m ∉ (E j).2.had := by simpa using hit.2
        have HMK := mark_ok HF.out HFO.out 64 m (E j).2.lst ERj.went.ok.okl hml
        have OKM : OkS d (markS d cl m (E j).2) := ⟨ERj.went.ok.nodup, ERj.went.ok.live, HMK.ok.nodup, HMK.ok.live⟩
        have EH : Hid (E (j + 1) = ((E j).1 ++ [(nameF f d cl (markS d cl m (E j).2) m true).1], (nameF f d cl (markS d cl m (E j).2) m true).2)) := by
          show _ = _
          rw [EM.out]
          unfold stepE
          rw [if_pos hit, Int.toNat_natCast]
          rfl
        have eM : (!decide (0 ≤ (m : Int) ∧ (m : Int).toNat ∈ (E j).2.had) && Tn.isN d (m : Int) false) = true := by
          rw [Tn.isN_iff, hml]
          simpa using hnot
        have MA : Hid (∀ w4, Below wr.heap.size wr w4 → Calls Tryz.prog 87 #[.agg #[.slice (some ⟨b, o, none⟩) rs.length c, .slice p cl.length cc, .map (some A), .map (some L)], .int .i64 (m : Int)] w4 fun e w' => e = .returned (.bool true) ∧ Below w4.heap.size w4 w') := fun w4 hb => by
          have := nmay_any (NR.out.below hb).cx.doc (hSr.below hb) (L := some L) p cl.length cc (m : Int) (by omega) (by omega)
          rw [eM] at this
          exact this
        have ML : Hid (∀ w5, Below wr.heap.size wr w5 → Calls Tryz.prog 88 #[.agg #[.slice (some ⟨b, o, none⟩) rs.length c, .slice p cl.length cc, .map (some A), .map (some L)], .int .i64 (m : Int)] w5 fun e w' => e = .returned (.tuple #[]) ∧ SetAt w' L (markS d cl m (E j).2).lst ∧ Bt [L] w5 w') := fun w5 hb => nlist_all 64 w5 (some A) (E j).2.lst m (NR.out.below hb) (hLr.out.below hb) ERj.went.ok.okl (by omega) hml
        have LM : Hid (∀ w5, Below wr.heap.size wr w5 → AreMaps [L] w5) := fun w5 hb => (hLr.out.below hb).maps
        have NC : Hid (∀ w5 w6, Below wr.heap.size wr w5 → Bt [L] w5 w6 → SetAt w6 L (markS d cl m (E j).2).lst → Calls Tryz.prog 31 #[.agg #[.slice (some ⟨b, o, none⟩) rs.length c, .slice p cl.length cc, .map (some A), .map (some L)], .int .i64 (m : Int), .bool true] w6 fun e w' =>
            e = .returned (.string (nameF f d cl (markS d cl m (E j).2) m true).1) ∧ SetAt w' A (nameF f d cl (markS d cl m (E j).2) m true).2.had ∧ SetAt w' L (nameF f d cl (markS d cl m (E j).2) m true).2.lst ∧ Bt [A, L] w6 w') := fun w5 w6 hb h1 h2 => H w6 (markS d cl m (E j).2) m true ((NR.out.below hb).bt h1 (LM.out w5 hb)) (SetAt.pre (S := (markS d cl m (E j).2).had) ((hSr.below hb).bt h1 (by simpa using HNE.out)) m) h2 OKM (by have := FU.out; have h9 : st.had.length ≤ (E j).2.had.length := hwl; show 61 ≤ f + (E j).2.had.length; omega) hml hnot
        have hl9 : (E j).1.length ≤ 1000000000 := by omega
        clear EM hit hkj hml hnot eM hSr hLr ERj hbt hown HMK OKM
        generalize (nameF f d cl (markS d cl m (E j).2) m true).2 = s9 at *
        generalize (nameF f d cl (markS d cl m (E j).2) m true).1 = t9 at *
        generalize (markS d cl m (E j).2).lst = l9 at *
        generalize hEj : (E j).1 = ej at *
        clear hEj a0 a1 a2 a3
        have A0 := KK.out wr (Below.refl _ _)
        obtain ⟨a0, a1, a2, a3⟩ := A0
        go_wp2_with (first
          | (go_at_call 86; refine hFi.mono ?_; rintro e w4 ⟨rfl, hb4⟩; have A4 := KK.out w4 hb4; obtain ⟨b0, b1, b2, b3⟩ := A4; have MA4 := MA.out w4 hb4)
          | (go_at_call 87; refine MA4.mono ?_; rintro e w5 ⟨rfl, hb5⟩; have B5 : Below wr.heap.size wr w5 := hb4.trans (hb5.mono hb4.size); have A5 := KK.out w5 B5; obtain ⟨c0, c1, c2, c3⟩ := A5; have ML5 := ML.out w5 B5; have K5 : Hid (AreMaps [L] w5) := LM.out w5 B5)
          | (go_at_call 88; refine ML5.mono ?_; rintro e w6 ⟨rfl, hL6, hb6⟩; have K6 := hb6.keeps K5.out; have d0 := K6 _ _ c0; have d1 := K6 _ _ c1; have d2 := K6 _ _ c2; have d3 := K6 _ _ c3; have NC6 := NC.out w5 w6 B5 hb6 hL6)
          | (go_at_call 31; refine NC6.mono ?_; rintro e w7 ⟨rfl, hS7, hL7, hb7⟩; have O7 : OwnS w7 w3.heap.size _ ej := hb7.owns (hb6.owns (owns_below HO.out B5) (by simp; omega)) (by simp; omega); have z7 : w3.heap.size ≤ w7.heap.size := by (have := hb7.size; have := hb6.size; have := B5.size; omega))
          | (at_builtin; refine append_str rfl _ _ rfl t9 rfl rfl O7 z7 hl9 ?_; intro v8 w8 O8 hb8))
        go_roundw
        case rel =>
          refine ⟨j + 1, _, by omega, by go_num, rfl, by rw [EH.out]; exact O8, ?_, ?_, ?_⟩
          · rw [EH.out]
            exact hS7.same (hb8.block A (by omega))
          · show SetAt _ _ _
            rw [EH.out]
            exact hL7.same (hb8.block L (by omega))
          · exact ((HB.out.trans ((Bt.below B5).trans ((hb6.wide (by simp)).trans hb7))).high hb8 (by omega))
        case measure => simp [intOf]; omega
      · have eM : (!decide (0 ≤ k ∧ k.toNat ∈ (E j).2.had) && Tn.isN d k false) = false := by
          by_cases h0 : 0 ≤ k
          · have : k.toNat ∈ (E j).2.had := by
              apply Classical.byContradiction
              intro hn
              exact hit ⟨h0, by simpa using hn⟩
            simp [h0, this]
          · have : Tn.isN d k false = false := by unfold Tn.isN; simp [h0]
            rw [this]
            simp
        have MA : Hid (∀ w4, Below wr.heap.size wr w4 → Calls Tryz.prog 87 #[.agg #[.slice (some ⟨b, o, none⟩) rs.length c, .slice p cl.length cc, .map (some A), .map (some L)], .int .i64 k] w4 fun e w' => e = .returned (.bool false) ∧ Below w4.heap.size w4 w') := fun w4 hb => by
          have := nmay_any (NR.out.below hb).cx.doc (hSr.below hb) (L := some L) p cl.length cc k (by omega) (by
            by_cases h0 : 0 ≤ k
            · obtain ⟨m, rfl⟩ : ∃ m : Nat, k = (m : Int) := ⟨k.toNat, by omega⟩
              have := Tn.lv_lt (hkj.2 m rfl)
              omega
            · omega)
          rw [eM] at this
          exact this
        have EH : Hid (E (j + 1) = E j) := by
          show _ = _
          rw [EM.out]
          unfold stepE
          rw [if_neg hit]
        have HLr : Hid (SetAt wr L (E j).2.lst) := hLr.out
        clear EM hit hkj eM hSr ERj hbt hown hLr
        go_wp2_with (first
          | (go_at_call 86; refine hFi.mono ?_; rintro e w4 ⟨rfl, hb4⟩; have A4 := KK.out w4 hb4; obtain ⟨b0, b1, b2, b3⟩ := A4; have MA4 := MA.out w4 hb4)
          | (go_at_call 87; refine MA4.mono ?_; rintro e w5 ⟨rfl, hb5⟩; have B5 : Below wr.heap.size wr w5 := hb4.trans (hb5.mono hb4.size)))
        go_roundw
        case rel => exact ⟨j + 1, _, by omega, by go_num, rfl, by rw [EH.out]; exact owns_below HO.out B5, by rw [EH.out]; exact HS.out.below B5, by show SetAt _ _ _; rw [EH.out]; exact HLr.out.below B5, HB.out.trans (Bt.below B5)⟩
        case measure => simp [intOf]; omega
    · obtain rfl : j = ts.length := by omega
      have hjs := joined_sum (E ts.length).1
      have hb9 : (Tx.joined (txs (E ts.length).1)).length ≤ 1073741824 := by
        have h1 : VL * ((E ts.length).2.had.length - st.had.length) ≤ VL * 60 := Nat.mul_le_mul_left _ (by omega)
        unfold VL at *
        omega
      have GJ := gjoin_owns hown (by omega) hb9
      have SQ : ∀ w3, Calls Tryz.prog 52 #[.string (joinB (E ts.length).1)] w3 fun e w' => e = .returned (.string (Wd.sqz (joinB (E ts.length).1))) ∧ Below w3.heap.size w3 w' := fun w3 => Wd.squeeze_big _ w3 (by have := joinB_size (E ts.length).1; have h1 : VL * ((E ts.length).2.had.length - st.had.length) ≤ VL * 60 := Nat.mul_le_mul_left _ (by omega); unfold VL at *; omega)
      have ER9 : Hid ((joinF (E ts.length)).1 = Wd.sqz (joinB (E ts.length).1)) := rfl
      have HS : Hid (SetAt wr A (joinF (E ts.length)).2.had) := hSr
      have HLL : Hid (SetAt wr L (joinF (E ts.length)).2.lst) := hLr.out
      have HB : Hid (Bt [A, L] W wr) := (Bt.below B3).trans hbt
      clear hjs hb9 hSr hLr ERj hbt hll hsm
      generalize joinB (E ts.length).1 = jb at *
      go_wp2_with (first
        | (go_at_call 80; refine GJ.mono ?_; rintro e w6 ⟨rfl, hb6⟩)
        | (go_at_call 52; refine (SQ _).mono ?_; rintro e w7 ⟨rfl, hb7⟩))
      go_ret
      exact ⟨congrArg (fun s => Ending.returned (.string s)) ER9.out.symm, (HS.out.below hb6).below hb7, (HLL.out.below hb6).below hb7, HB.out.trans ((Bt.below hb6).trans (Bt.below hb7))⟩
end Go.Proofs.YtcinjbolflhjmadGreatDoor

/-
  THE WALKS of naming's labelName: the function within it, the search with it, and itself.
-/
namespace Go.Proofs.YtcinjbolflhjmadGreatDoor
open Go.RowKit Go.Maps

theorem tag_cell {w : World} {b o c : Nat} {rs : List Raw} {d : Tn.Dc} (hd : DocAt w b o c rs d) {k : Nat} (hk : Tn.lvD d k = true) : w.cell? ⟨b, o + k * 9 + 1, none⟩ = some (.string (Tn.nd d k).tag) ∧ w.cell? ⟨b, o + k * 9 + 2, none⟩ = some (.string (Tn.nd d k).text) ∧ k < rs.length := by
  have h1 : k < d.length := Tn.lv_lt hk
  have h2 : k < rs.length := by rw [hd.len]; exact h1
  have hn := hd.nds k h2 h1
  have e : Tn.nd d k = d[k] := by unfold Tn.nd; simp [h1]
  refine ⟨?_, ?_, h2⟩
  · rw [hd.row.c1 k h2, e, hn.tag]
  · rw [hd.row.c2 k h2, e, hn.text]

/-- the label that is asked for -/
def labQ (d : Tn.Dc) (id : ByteArray) (sc : Int) (had : List Nat) (k : Nat) : Bool := isA (Tn.nd d k).tag [108, 97, 98, 101, 108] && ((valN d (k : Int) ⟨#[102, 111, 114]⟩).toList == id.toList) && (scopeD d (k : Int) == sc) && !had.contains k

set_option maxHeartbeats 3200000 in
theorem nlab1_any {w : World} {b o c Q I C A L : Nat} {rs : List Raw} {d : Tn.Dc} {p : Option Addr} {n1 c1 : Nat} {id : ByteArray} {sc : Int} {had : List Nat} (hx : Cx w b o c rs d) (hS : SetAt w A had) (hQ0 : w.cell? ⟨Q, 0, none⟩ = some (.slice (some ⟨b, o, none⟩) rs.length c)) (hQ1 : w.cell? ⟨Q, 1, none⟩ = some (.slice p n1 c1)) (hQ2 : w.cell? ⟨Q, 2, none⟩ = some (.map (some A))) (hQ3 : w.cell? ⟨Q, 3, none⟩ = some (.map (some L))) (hI : w.cell? ⟨I, 0, none⟩ = some (.string id)) (hC : w.cell? ⟨C, 0, none⟩ = some (.int .i64 sc)) (k : Nat) (hk : Tn.lvD d k = true) :
    Calls Tryz.prog 111 #[.int .i64 (k : Int), .pointer (some ⟨Q, 0, none⟩), .pointer (some ⟨I, 0, none⟩), .pointer (some ⟨C, 0, none⟩)] w fun e w' => e = .returned (.bool (labQ d id sc had k)) ∧ Below w.heap.size w w' := by
  have hA := dattr_all hx.doc hx.fine.okd (k : Int) ⟨#[102, 111, 114]⟩
  obtain ⟨ht, _, hkl⟩ := tag_cell hx.doc hk
  have hkn := Tn.lv_lt hk
  have hdl := hx.fine.good.len.2
  have HD : Hid (labQ d id sc had k = (isA (Tn.nd d k).tag [108, 97, 98, 101, 108] && ((valN d (k : Int) ⟨#[102, 111, 114]⟩).toList == id.toList) && (scopeD d (k : Int) == sc) && !had.contains k)) := rfl
  have hSc : Hid (∀ W, Below w.heap.size w W → Calls Tryz.prog 109 #[.slice (some ⟨b, o, none⟩) rs.length c, .int .i64 (k : Int)] W fun e w' => e = .returned (.int .i64 (scopeD d (k : Int))) ∧ Below W.heap.size W w') := fun W hb => dscope_any (hx.below hb).doc hx.fine.okd.tame k
  have hMA : Hid (∀ W, Below w.heap.size w W → Calls Tryz.prog 87 #[.agg #[.slice (some ⟨b, o, none⟩) rs.length c, .slice p n1 c1, .map (some A), .map (some L)], .int .i64 (k : Int)] W fun e w' => e = .returned (.bool (!had.contains k)) ∧ Below W.heap.size W w') := fun W hb => (nmay_any (hx.below hb).doc (hS.below hb) p n1 c1 (k : Int) (by omega) (by omega)).mono (by
    rintro e w' ⟨rfl, h⟩
    refine ⟨?_, h⟩
    rw [Tn.isN_iff, hk]
    congr 2
    rw [Bool.eq_iff_iff]
    simp)
  have KL : rs.length ≤ 1000 := by rw [hx.doc.len]; omega
  clear hS hk hx
  generalize labQ d id sc had k = res at *
  generalize scopeD d (k : Int) = sk at *
  generalize (attrN d (k : Int) ⟨#[102, 111, 114]⟩).isSome = vb at *
  generalize valN d (k : Int) ⟨#[102, 111, 114]⟩ = vv at *
  generalize (!had.contains k) = hb at *
  generalize (Tn.nd d k).tag = tg at *
  cases hq : isA tg [108, 97, 98, 101, 108] with
  | false =>
    have E : Hid (res = false) := by show _ = _; rw [HD.out, hq]; rfl
    have hq' : (tg.toList == [108, 97, 98, 101, 108]) = false := hq
    clear hq HD
    go_enter Tryz.func111, Tryz.ntmps111
    go_wp2_with (go_at_call 85; refine hA.mono ?_; rintro e w9 ⟨rfl, hb9⟩)
    have J9 := keeps_below hb9 (Nat.le_refl _)
    have d0 := J9 _ _ hQ0
    have d1 := J9 _ _ hQ1
    have d2 := J9 _ _ hQ2
    have d3 := J9 _ _ hQ3
    have i9 := J9 _ _ hI
    have c9 := J9 _ _ hC
    have t9 := J9 _ _ ht
    go_quiet (fail)
    go_wp2_with fail
    go_ret
    exact ⟨by rw [E.out]; rfl, hb9.trans ⟨rfl, rfl, rfl, Nat.le_refl _, fun _ _ => rfl⟩⟩
  | true =>
    have hq' : (tg.toList == [108, 97, 98, 101, 108]) = true := hq
    rw [hq] at HD
    clear hq
    cases hv : (vv.toList == id.toList) with
    | false =>
      have E : Hid (res = false) := by show _ = _; rw [HD.out, hv]; rfl
      clear HD
      go_enter Tryz.func111, Tryz.ntmps111
      go_wp2_with (go_at_call 85; refine hA.mono ?_; rintro e w9 ⟨rfl, hb9⟩)
      have J9 := keeps_below hb9 (Nat.le_refl _)
      have d0 := J9 _ _ hQ0
      have d1 := J9 _ _ hQ1
      have d2 := J9 _ _ hQ2
      have d3 := J9 _ _ hQ3
      have i9 := J9 _ _ hI
      have c9 := J9 _ _ hC
      have t9 := J9 _ _ ht
      go_quiet (fail)
      go_wp2_with fail
      go_ret
      exact ⟨by rw [E.out]; rfl, hb9.trans ⟨rfl, rfl, rfl, Nat.le_refl _, fun _ _ => rfl⟩⟩
    | true =>
      rw [hv] at HD
      by_cases hs : sk = sc
      · subst hs
        have E : Hid (res = hb) := by show _ = _; rw [HD.out]; simp
        have hs1 : (sk == sk) = true := by simp
        have hs2 : decide (sk = sk) = true := by simp
        clear HD
        go_enter Tryz.func111, Tryz.ntmps111
        go_wp2_with (go_at_call 85; refine hA.mono ?_; rintro e w9 ⟨rfl, hb9⟩)
        have J9 := keeps_below hb9 (Nat.le_refl _)
        have d0 := J9 _ _ hQ0
        have d1 := J9 _ _ hQ1
        have d2 := J9 _ _ hQ2
        have d3 := J9 _ _ hQ3
        have i9 := J9 _ _ hI
        have c9 := J9 _ _ hC
        have t9 := J9 _ _ ht
        have SS : ∀ w'', Keeps w9 w'' → (fun w'' : World => w''.cell? ⟨Q, 0, none⟩ = some (.slice (some ⟨b, o, none⟩) rs.length c) ∧ w''.cell? ⟨Q, 1, none⟩ = some (.slice p n1 c1) ∧ w''.cell? ⟨Q, 2, none⟩ = some (.map (some A)) ∧ w''.cell? ⟨Q, 3, none⟩ = some (.map (some L)) ∧ w''.cell? ⟨I, 0, none⟩ = some (.string id) ∧ w''.cell? ⟨C, 0, none⟩ = some (.int .i64 sk) ∧ w''.cell? ⟨b, o + k * 9 + 1, none⟩ = some (.string tg)) w'' := fun w'' hk => ⟨hk _ _ d0, hk _ _ d1, hk _ _ d2, hk _ _ d3, hk _ _ i9, hk _ _ c9, hk _ _ t9⟩
        go_region_held3 (fun w'' : World => w''.cell? ⟨Q, 0, none⟩ = some (.slice (some ⟨b, o, none⟩) rs.length c) ∧ w''.cell? ⟨Q, 1, none⟩ = some (.slice p n1 c1) ∧ w''.cell? ⟨Q, 2, none⟩ = some (.map (some A)) ∧ w''.cell? ⟨Q, 3, none⟩ = some (.map (some L)) ∧ w''.cell? ⟨I, 0, none⟩ = some (.string id) ∧ w''.cell? ⟨C, 0, none⟩ = some (.int .i64 sk) ∧ w''.cell? ⟨b, o + k * 9 + 1, none⟩ = some (.string tg))
          ((apply SS; first | exact Keeps.refl _ | assumption | exact keeps_drew (Keeps.refl _)))
          (first
            | (go_at_call 109; refine (hSc.out _ (hb9.trans (Below.refl _ w9).drew)).mono ?_; rintro e wa ⟨rfl, hba⟩; have Ja : Keeps w9 wa := (keeps_drew (Keeps.refl w9)).trans (keeps_below hba (Nat.le_refl _)); have Ba : Below w.heap.size w wa := hb9.trans ((Below.refl _ w9).drew.trans (hba.mono hb9.size)))
            | (go_at_call 87; refine (hMA.out _ Ba).mono ?_; rintro e wb ⟨rfl, hbb⟩; have Jb : Keeps w9 wb := Ja.trans (keeps_below hbb (Nat.le_refl _))))
        all_goals
          go_wp2_with fail
          go_ret
          exact ⟨by rw [E.out]; rfl, Ba.trans (hbb.mono Ba.size)⟩
      · have E : Hid (res = false) := by show _ = _; rw [HD.out]; simp [hs]
        have hs1 : (sk == sc) = false := by simp [hs]
        have hs2 : decide (sk = sc) = false := by simp [hs]
        clear HD
        go_enter Tryz.func111, Tryz.ntmps111
        go_wp2_with (go_at_call 85; refine hA.mono ?_; rintro e w9 ⟨rfl, hb9⟩)
        have J9 := keeps_below hb9 (Nat.le_refl _)
        have d0 := J9 _ _ hQ0
        have d1 := J9 _ _ hQ1
        have d2 := J9 _ _ hQ2
        have d3 := J9 _ _ hQ3
        have i9 := J9 _ _ hI
        have c9 := J9 _ _ hC
        have t9 := J9 _ _ ht
        first
          | (go_region_with (first
              | (go_at_call 109; refine (hSc.out _ ?_).mono ?_; exact hb9.trans (Below.refl _ w9).drew; rintro e wa ⟨rfl, hba⟩; have Ja : Keeps w9 wa := (keeps_drew (Keeps.refl w9)).trans (keeps_below hba (Nat.le_refl _)); have Ba : Below w.heap.size w wa := hb9.trans ((Below.refl _ w9).drew.trans (hba.mono hb9.size)); have ca := Ja _ _ c9; have x0 := Ja _ _ d0; have x1 := Ja _ _ d1; have x2 := Ja _ _ d2; have x3 := Ja _ _ d3)))
          | fail
        all_goals
          go_wp2_with fail
          go_ret
          exact ⟨by rw [E.out]; rfl, Ba⟩

set_option maxHeartbeats 1600000 in
/-- the search with it, where it is asked of nodes alone -/
theorem nlabIdx_any {w : World} {b o c Q I C A L : Nat} {rs : List Raw} {d : Tn.Dc} {p : Option Addr} {n1 c1 : Nat} {id : ByteArray} {sc : Int} {had : List Nat} (hx : Cx w b o c rs d) (hS : SetAt w A had) (hQ0 : w.cell? ⟨Q, 0, none⟩ = some (.slice (some ⟨b, o, none⟩) rs.length c)) (hQ1 : w.cell? ⟨Q, 1, none⟩ = some (.slice p n1 c1)) (hQ2 : w.cell? ⟨Q, 2, none⟩ = some (.map (some A))) (hQ3 : w.cell? ⟨Q, 3, none⟩ = some (.map (some L))) (hI : w.cell? ⟨I, 0, none⟩ = some (.string id)) (hC : w.cell? ⟨C, 0, none⟩ = some (.int .i64 sc))
    {vl : Value} {l : List Nat} (hl : IntsAt w vl l) (hlv : ∀ x ∈ l, Tn.lvD d x = true) :
    Calls Tryz.prog 104 #[vl, .func (.func 111) #[] #[.pointer (some ⟨Q, 0, none⟩), .pointer (some ⟨I, 0, none⟩), .pointer (some ⟨C, 0, none⟩)]] w fun e w' => e = .returned (.int .i64 (idxI (labQ d id sc had) l)) ∧ Below w.heap.size w w' := by
  have eg : ∀ args w, (callFunc 111 args).run Tryz.prog w = .ok (.enter 111 args) w := enters_of Tryz.func111 (by kernel_rfl) rfl
  obtain ⟨q, cc, rfl, h1, h2, _, hat⟩ := hl.at
  have T : Hid (∀ j (hj : j < l.length), ∃ b o, q = some ⟨b, o, none⟩ ∧ w.cell? ⟨b, o + j, none⟩ = some (.int .i64 (l[j] : Int))) := hat
  have HA : Hid (∀ W, Below w.heap.size w W → ∀ k ∈ l, Calls Tryz.prog 111 #[.int .i64 (k : Int), .pointer (some ⟨Q, 0, none⟩), .pointer (some ⟨I, 0, none⟩), .pointer (some ⟨C, 0, none⟩)] W fun e w' => e = .returned (.bool (labQ d id sc had k)) ∧ Below W.heap.size W w') := fun W hb k hk => by
    have J := keeps_below hb (Nat.le_refl _)
    exact nlab1_any (hx.below hb) (hS.below hb) (J _ _ hQ0) (J _ _ hQ1) (J _ _ hQ2) (J _ _ hQ3) (J _ _ hI) (J _ _ hC) k (hlv k hk)
  clear hat hl hx hS hQ0 hQ1 hQ2 hQ3 hI hC hlv
  generalize labQ d id sc had = p at *
  go_enter Tryz.func104, Tryz.ntmps104
  go_wp2_with fail
  go_loopw [8] (fun i wr => ∃ j : Nat, j ≤ l.length ∧ i = .int .i64 j ∧ Hid (∀ k ∈ l.take j, p k = false) ∧ Below w.heap.size w wr) (fun i _ => l.length - (intOf i).toNat)
  case atStart => exact ⟨0, Nat.zero_le _, rfl, fun k hk => by simp at hk, Below.refl _ _⟩
  case round =>
    obtain ⟨j, hj, rfl, NO, hnx⟩ := hrel
    by_cases hlt : j < l.length
    · obtain ⟨e1, o1, rfl, k1⟩ := T.out j hlt
      have y1 := keeps_below hnx (Nat.le_refl _) _ _ k1
      clear k1
      have hF := HA.out wr hnx l[j] (List.getElem_mem hlt)
      cases hh : p l[j] with
      | true =>
        have E : Hid (idxI p l = (j : Int)) := idxI_some hlt hh NO.out
        rw [hh] at hF
        clear hh
        generalize l[j] = x at *
        go_wp2_with (go_at_call 111; refine hF.mono ?_; rintro e w9 ⟨rfl, hb9⟩)
        go_ret
        exact ⟨by rw [E.out]; rfl, hnx.trans (hb9.mono hnx.size)⟩
      | false =>
        have N2 : Hid (∀ k ∈ l.take (j + 1), p k = false) := by
          intro k hk
          rw [List.take_succ_eq_append_getElem hlt, List.mem_append, List.mem_singleton] at hk
          rcases hk with hk | rfl
          · exact NO.out k hk
          · exact hh
        rw [hh] at hF
        clear hh
        generalize l[j] = x at *
        go_wp2_with (go_at_call 111; refine hF.mono ?_; rintro e w9 ⟨rfl, hb9⟩)
        go_roundw
        case rel => exact ⟨j + 1, by omega, by go_num, N2, hnx.trans (hb9.mono hnx.size)⟩
        case measure => simp [intOf]; omega
    · obtain rfl : j = l.length := by omega
      have E : Hid (idxI p l = -1) := idxI_none (fun k hk => NO.out k (by rw [List.take_length]; exact hk))
      go_wp2_with fail
      go_ret
      exact ⟨by rw [E.out]; rfl, hnx⟩

theorem find_ne {d : Tn.Dc} {n : Nat} {id : ByteArray} (h : findD d (n : Int) id = (n : Int)) : full id = true := by
  unfold findD at h
  split at h
  · omega
  · rename_i q
    unfold full
    cases he : id.toList.isEmpty with
    | true => exact absurd (Or.inl he) q
    | false => rfl
/-- the label's test, as it is asked -/
theorem labelP_eq (d : Tn.Dc) (n : Int) (had : List Nat) : labelP d n had = labQ d (valN d n ⟨#[105, 100]⟩) (scopeD d n) had := rfl
/-- the name of the label that is for it -/
def labR (nm : Nmr) (d : Tn.Dc) (n : Nat) (st : St) : ByteArray × St := match labelFor d (n : Int) st.had with | some k => nm st k true | none => (emB, st)

set_option maxHeartbeats 6400000 in
set_option maxRecDepth 100000 in
theorem nlabel_of {b o c : Nat} {rs : List Raw} {d : Tn.Dc} {p : Option Addr} {cc : Nat} {cl : List Cl} {A L f : Nat} (H : NameC b o c rs d p cc cl A L f) {W : World} {st : St} (hx : Nx W b o c rs d (.slice p cl.length cc) cl) (hS : SetAt W A st.had) (hL : SetAt W L st.lst) (ho : OkS d st) (hf : 61 ≤ f + st.had.length) (n : Nat) (hi : isA (Tn.nd d n).tag [105, 110, 112, 117, 116] = true) :
    Calls Tryz.prog 82 #[.agg #[.slice (some ⟨b, o, none⟩) rs.length c, .slice p cl.length cc, .map (some A), .map (some L)], .int .i64 (n : Int)] W fun e w' =>
      e = .returned (.string (labR (nameF f d cl) d n st).1) ∧ SetAt w' A (labR (nameF f d cl) d n st).2.had ∧ SetAt w' L (labR (nameF f d cl) d n st).2.lst ∧ Bt [A, L] W w' := by
  have hF := hx.cx.fine
  have B1 : Below W.heap.size W (W.alloc (.cells #[.slice (some ⟨b, o, none⟩) rs.length c, .slice p cl.length cc, .map (some A), .map (some L)] 66)) := (Below.refl W.heap.size W).alloc (Nat.le_refl _) _
  have z1 : (W.alloc (.cells #[.slice (some ⟨b, o, none⟩) rs.length c, .slice p cl.length cc, .map (some A), .map (some L)] 66)).heap.size = W.heap.size + 1 := by simp
  have C0 := box4' W (.slice (some ⟨b, o, none⟩) rs.length c) (.slice p cl.length cc) (.map (some A)) (.map (some L)) 66
  have hId := dattr_all (hx.below B1).cx.doc hF.okd (n : Int) ⟨#[105, 100]⟩
  have HF : Hid (Fine d) := hF
  have OK : Hid (Okd d) := hF.okd
  have NX : Hid (Nx W b o c rs d (.slice p cl.length cc) cl) := hx
  have S0 : Hid (SetAt W A st.had) := hS
  have L0 : Hid (SetAt W L st.lst) := hL
  have hFi : Hid (∀ w2, Below W.heap.size W w2 → Calls Tryz.prog 86 #[.slice (some ⟨b, o, none⟩) rs.length c, .int .i64 (n : Int), .string (valN d (n : Int) ⟨#[105, 100]⟩)] w2 fun e w' => e = .returned (.int .i64 (findD d (n : Int) (valN d (n : Int) ⟨#[105, 100]⟩))) ∧ Below w2.heap.size w2 w') := fun w2 hb => dfind_any (NX.out.below hb).cx.doc OK.out.tame OK.out.small OK.out.root OK.out.rise OK.out.few (n : Int) _
  by_cases hfd : findD d (n : Int) (valN d (n : Int) ⟨#[105, 100]⟩) = (n : Int)
  · have hfu := find_ne hfd
    have EL : Hid (labelFor d (n : Int) st.had = (Tn.all Tn.fuel d 0).find? (labQ d (valN d (n : Int) ⟨#[105, 100]⟩) (scopeD d (n : Int)) st.had)) := by
      show _ = _
      unfold labelFor
      rw [if_pos (by rw [Int.toNat_natCast]; simp [hi, hfu, hfd])]
      rfl
    have HLV : Hid (∀ x ∈ Tn.all Tn.fuel d 0, Tn.lvD d x = true) := fun x hx => all_lv HF.out hx
    have HNH : Hid (∀ k, labelFor d (n : Int) st.had = some k → Tn.lvD d k = true ∧ k ∉ st.had) := fun k hk => label_lv HF.out hk
    have RE : Hid (labR (nameF f d cl) d n st = match labelFor d (n : Int) st.had with | some k => nameF f d cl st k true | none => (emB, st)) := rfl
    have NC : Hid (∀ w4 k, Below W.heap.size W w4 → Tn.lvD d k = true → k ∉ st.had → Calls Tryz.prog 31 #[.agg #[.slice (some ⟨b, o, none⟩) rs.length c, .slice p cl.length cc, .map (some A), .map (some L)], .int .i64 (k : Int), .bool true] w4 fun e w' =>
        e = .returned (.string (nameF f d cl st k true).1) ∧ SetAt w' A (nameF f d cl st k true).2.had ∧ SetAt w' L (nameF f d cl st k true).2.lst ∧ Bt [A, L] w4 w') := fun w4 k hb hl hk => H w4 st k true (NX.out.below hb) ((S0.out.below hb).pre k) (L0.out.below hb) ho hf hl hk
    rw [hfd] at hFi
    clear hfd hfu hx hS hL ho hf hF hi H
    generalize labR (nameF f d cl) d n st = RR at *
    generalize (attrN d (n : Int) ⟨#[105, 100]⟩).isSome = vb at *
    generalize valN d (n : Int) ⟨#[105, 100]⟩ = id at *
    go_enter Tryz.func82, Tryz.ntmps82
    obtain ⟨q0, q1, q2, q3⟩ := C0
    go_upto_region 4 with (first
      | (go_at_call 85; refine hId.mono ?_; rintro e w2 ⟨rfl, hb2⟩; have B2 := B1.trans (hb2.mono B1.size); have K2 : Keeps _ (w2.alloc (.cells #[.string id] 9)) := (keeps_below hb2 (Nat.le_refl _)).trans (keeps_alloc _ _); have b0 := K2 _ _ q0; have b1 := K2 _ _ q1; have b2 := K2 _ _ q2; have b3 := K2 _ _ q3; have bi : (w2.alloc (.cells #[.string id] 9)).cell? ⟨w2.heap.size, 0, none⟩ = some (.string id) := cell_box _ _; have BB : Below W.heap.size W (w2.alloc (.cells #[.string id] 9)) := B2.alloc B2.size _; have F2 := hFi.out _ BB)
      | (go_at_call 86; refine F2.mono ?_; rintro e w3 ⟨rfl, hb3⟩))
    have B3 : Below W.heap.size W w3 := BB.trans (hb3.mono BB.size)
    have K3 := keeps_below hb3 (Nat.le_refl _)
    have d0 := K3 _ _ b0
    have d1 := K3 _ _ b1
    have d2 := K3 _ _ b2
    have d3 := K3 _ _ b3
    have di := K3 _ _ bi
    have N3 : Hid (Nx w3 b o c rs d (.slice p cl.length cc) cl) := NX.out.below B3
    clear F2 BB bi b0 b1 b2 b3 K2 hb2 hId hFi q0 q1 q2 q3 K3 hb3 B2
    generalize hI9 : w2.heap.size = I at *
    clear hI9
    have z3 := B3.size
    go_cut [7, 8] from 24 to 30 (fun pv av wx => ∃ C : Nat, pv = .pointer (some ⟨C, 0, none⟩) ∧ (∃ v, av = v ∧ IntsAt wx v (Tn.all Tn.fuel d 0)) ∧ wx.cell? ⟨C, 0, none⟩ = some (.int .i64 (scopeD d (n : Int))) ∧ Below w3.heap.size w3 wx)
    case first =>
      have SS : ∀ w'', Keeps w3 w'' → (fun w'' => w''.cell? ⟨W.heap.size, 0, none⟩ = some (.slice (some ⟨b, o, none⟩) rs.length c)) w'' := fun w'' hk => hk _ _ d0
      have D3 : Hid (DocAt w3 b o c rs d) := N3.out.cx.doc
      have hls := OK.out.small
      have hrt := OK.out.root
      have htm := OK.out.tame
      go_region_held3 (fun w'' => w''.cell? ⟨W.heap.size, 0, none⟩ = some (.slice (some ⟨b, o, none⟩) rs.length c))
        ((apply SS; repeat (first | assumption | exact Keeps.refl _ | apply keeps_drew | apply keeps_alloc' | (refine keeps_set ?_ _ _ (by first | exact Nat.le_refl _ | omega | (simp at *; omega))))))
        (first
          | (go_at_call 109; refine (dscope_any (D3.out.keeps (by (repeat (first | assumption | exact Keeps.refl _ | apply keeps_drew | apply keeps_alloc' | (refine keeps_set ?_ _ _ (by first | exact Nat.le_refl _ | omega | (simp at *; omega))))))) htm (n : Int)).mono ?_; rintro e wa ⟨rfl, hba⟩; have Ja : Keeps w3 wa := Keeps.trans (by (repeat (first | assumption | exact Keeps.refl _ | apply keeps_drew | apply keeps_alloc' | (refine keeps_set ?_ _ _ (by first | exact Nat.le_refl _ | omega | (simp at *; omega)))))) (keeps_below hba (Nat.le_refl _)); have za := hba.size; try (have hxa := bx_newd hba; obtain ⟨xa, fa⟩ := hxa))
          | (go_at_call 110; refine (dall_any (n := 0) (D3.out.keeps (by (repeat (first | assumption | exact Keeps.refl _ | apply keeps_drew | apply keeps_alloc' | (refine keeps_set ?_ _ _ (by first | exact Nat.le_refl _ | omega | (simp at *; omega))))))) htm hls hrt).mono ?_; rintro e wb ⟨v, rfl, hov, hbb⟩; have Jb : Keeps w3 wb := Keeps.trans (by (repeat (first | assumption | exact Keeps.refl _ | apply keeps_drew | apply keeps_alloc' | (refine keeps_set ?_ _ _ (by first | exact Nat.le_refl _ | omega | (simp at *; omega)))))) (keeps_below hbb (Nat.le_refl _)); have zb := hbb.size; first | (have hxb := bx_new hbb; obtain ⟨xb, fb⟩ := hxb) | (have hxb := bx_old hbb xa fa; obtain ⟨xb, fb⟩ := hxb) | (have hxb := bx_set hbb; obtain ⟨xb, fb⟩ := hxb) | (have nobox := trivial)))
      · go_wp2_with fail
        go_meet
        exact ⟨_, rfl, ⟨v, rfl, ints_of_owns (hov.alloc _)⟩, cell_box _ _, ((((Below.refl _ w3).drew : Below w3.heap.size w3 w3.drew).trans (hba.mono (Nat.le_refl _))).trans (hbb.mono za)).alloc (Nat.le_trans za zb) _⟩
      · go_wp2_with fail
        go_meet
        exact ⟨_, rfl, ⟨v, rfl, ints_of_owns (hov.set (by simp) _)⟩, World.cell?_setCell_same _ _ _ xb, (((((Below.refl _ w3).drew : Below w3.heap.size w3 w3.drew).trans (hba.mono (Nat.le_refl _))).alloc za _).trans (hbb.mono (Nat.le_trans za (by simp)))).setCell (p := ⟨wa.heap.size, 0, none⟩) za _⟩
      · go_wp2_with fail
        go_meet
        exact ⟨_, rfl, ⟨v, rfl, ints_of_owns (hov.set (by simp at za; omega) _)⟩, World.cell?_setCell_same _ _ _ xb, ((((Below.refl _ w3).alloc (Nat.le_refl _) _).drew.trans (hba.mono (by simp))).trans (hbb.mono (by simp at za; omega))).setCell (p := ⟨w3.heap.size, 0, none⟩) (Nat.le_refl _) _⟩
    case rest =>
      obtain ⟨C, rfl, ⟨v, rfl, hI⟩, xC, hbc⟩ := hcut
      have Kc := keeps_below hbc (Nat.le_refl _)
      have e0 := Kc _ _ d0
      have e1 := Kc _ _ d1
      have e2 := Kc _ _ d2
      have e3 := Kc _ _ d3
      have Bc : Below W.heap.size W wc := B3.trans (hbc.mono B3.size)
      have IX := nlabIdx_any (N3.out.below hbc).cx (S0.out.below Bc) e0 e1 e2 e3 (Kc _ _ di) xC hI HLV.out
      obtain ⟨pa, ca, rfl, y1, y2, _, hat⟩ := hI.at
      have SB : Hid (SetAt wc A st.had ∧ SetAt wc L st.lst) := ⟨S0.out.below Bc, L0.out.below Bc⟩
      rcases idx_cases (labQ d id (scopeD d (n : Int)) st.had) (Tn.all Tn.fuel d 0) with ⟨x1, x2⟩ | ⟨j, hj, x1, x2⟩
      · have E : Hid (RR = (emB, st)) := by show _ = _; rw [RE.out, EL.out, x2]
        rw [x1] at IX
        clear x1 x2 hat RE EL NC HNH xC di d0 d1 d2 d3 Kc HLV
        generalize scopeD d (n : Int) = sc at *
        generalize labQ d id sc st.had = lq at *
        generalize Tn.all Tn.fuel d 0 = l at *
        go_wp2_with (go_at_call 104; refine IX.mono ?_; rintro e w6 ⟨rfl, hb6⟩)
        go_ret
        rw [E.out]
        exact ⟨rfl, SB.out.1.below hb6, SB.out.2.below hb6, Bt.below (Bc.trans (hb6.mono Bc.size))⟩
      · have E : Hid (RR = nameF f d cl st (Tn.all Tn.fuel d 0)[j] true) := by show _ = _; rw [RE.out, EL.out, x2]
        have hk := HNH.out _ (EL.out.trans x2)
        have NC2 : Hid (∀ w4, Below W.heap.size W w4 → Calls Tryz.prog 31 #[.agg #[.slice (some ⟨b, o, none⟩) rs.length c, .slice p cl.length cc, .map (some A), .map (some L)], .int .i64 ((Tn.all Tn.fuel d 0)[j] : Int), .bool true] w4 fun e w' =>
            e = .returned (.string (nameF f d cl st (Tn.all Tn.fuel d 0)[j] true).1) ∧ SetAt w' A (nameF f d cl st (Tn.all Tn.fuel d 0)[j] true).2.had ∧ SetAt w' L (nameF f d cl st (Tn.all Tn.fuel d 0)[j] true).2.lst ∧ Bt [A, L] w4 w') := fun w4 hb => NC.out w4 _ hb hk.1 hk.2
        obtain ⟨b1, o1, rfl, k0⟩ := hat j hj
        rw [x1] at IX
        clear x1 x2 hat RE EL NC HNH xC di d0 d1 d2 d3 Kc HLV hk
        generalize scopeD d (n : Int) = sc at *
        generalize labQ d id sc st.had = lq at *
        generalize (Tn.all Tn.fuel d 0)[j] = x at *
        generalize Tn.all Tn.fuel d 0 = l at *
        generalize nameF f d cl st x true = R9 at *
        go_upto_region 8 with (go_at_call 104; refine IX.mono ?_; rintro e w6 ⟨rfl, hb6⟩)
        have K6 := keeps_below hb6 (Nat.le_refl _)
        have f0 := K6 _ _ e0
        have f1 := K6 _ _ e1
        have f2 := K6 _ _ e2
        have f3 := K6 _ _ e3
        have fk := K6 _ _ k0
        have B6 : Below W.heap.size W w6 := Bc.trans (hb6.mono Bc.size)
        clear IX K6 e0 e1 e2 e3 k0
        go_region_with (first
          | (go_at_call 31; refine (NC2.out _ (B6.trans ((Below.refl _ w6).drew.mono B6.size))).mono ?_; rintro e w7 ⟨rfl, h7, h8, h9⟩))
        all_goals
          go_wp2_with fail
          go_ret
          rw [E.out]
          exact ⟨rfl, h7, h8, (Bt.below (B6.trans ((Below.refl _ w6).drew.mono B6.size))).trans h9⟩
  · have RE : Hid (labR (nameF f d cl) d n st = (emB, st)) := by
      show _ = _
      unfold labR labelFor
      rw [if_neg (by rw [Int.toNat_natCast]; simp [hfd])]
    rw [RE.out]
    have hq : (findD d (n : Int) (valN d (n : Int) ⟨#[105, 100]⟩) == (n : Int)) = false := by simpa using hfd
    have hq2 : (findD d (n : Int) (valN d (n : Int) ⟨#[105, 100]⟩) != (n : Int)) = true := by simpa using hfd
    clear hx hS hL ho hf hF hi H RE hfd
    generalize findD d (n : Int) (valN d (n : Int) ⟨#[105, 100]⟩) = fd at *
    generalize (attrN d (n : Int) ⟨#[105, 100]⟩).isSome = vb at *
    generalize valN d (n : Int) ⟨#[105, 100]⟩ = id at *
    obtain ⟨q0, q1, q2, q3⟩ := C0
    go_enter Tryz.func82, Tryz.ntmps82
    go_wp2_with (first
      | (go_at_call 85; refine hId.mono ?_; rintro e w2 ⟨rfl, hb2⟩; have B2 := B1.trans (hb2.mono B1.size); have K2 : Keeps _ (w2.alloc (.cells #[.string id] 9)) := (keeps_below hb2 (Nat.le_refl _)).trans (keeps_alloc _ _); have b0 := K2 _ _ q0; have bi : (w2.alloc (.cells #[.string id] 9)).cell? ⟨w2.heap.size, 0, none⟩ = some (.string id) := cell_box _ _; have BB : Below W.heap.size W (w2.alloc (.cells #[.string id] 9)) := B2.alloc B2.size _; have F2 := hFi.out _ BB)
      | (go_at_call 86; refine F2.mono ?_; rintro e w3 ⟨rfl, hb3⟩))
    go_ret
    have B3 : Below W.heap.size W w3 := BB.trans (hb3.mono BB.size)
    exact ⟨rfl, S0.out.below B3, L0.out.below B3, Bt.below B3⟩
end Go.Proofs.YtcinjbolflhjmadGreatDoor

/-
  THE WALK of naming's elementName.
-/
namespace Go.Proofs.YtcinjbolflhjmadGreatDoor
open Go.RowKit Go.Maps

/-! ### the name, step by step -/
def n2D (a lab : ByteArray) : ByteArray := if full a = true then a else lab
def n3D (a alt : ByteArray) (img : Bool) : ByteArray := if full a = false ∧ img = true then alt else a
def s4D (nm : Nmr) (d : Tn.Dc) (n : Nat) (a : ByteArray) (s : St) : ByteArray × St := if full a = false ∧ isA (Tn.nd d n).tag [105, 110, 112, 117, 116] = true then labR nm d n s else (a, s)
def s5D (nm : Nmr) (d : Tn.Dc) (c : List Cl) (n : Nat) (fo : Bool) (b : ByteArray × St) : ByteArray × St := if full b.1 = false ∧ (fo || contentI (roleD d (n : Int))) = true then joinF (eachF (fun s k => nm s k true) ((insideD d c (n : Int)).map Int.ofNat) ([], b.2)) else b
def s6D (a ti : ByteArray) : ByteArray := if full a = true then a else ti

theorem img_input {t : ByteArray} (h : isA t [105, 109, 103] = true) : isA t [105, 110, 112, 117, 116] = false := by
  unfold isA at *
  rw [beq_iff_eq] at h
  rw [h]
  decide

theorem tail_steps (nm : Nmr) (d : Tn.Dc) (c : List Cl) (n : Nat) (fo : Bool) (a : ByteArray × St) :
    tailA nm d c n fo a = if full (n2D a.1 (saidN d (n : Int) ⟨#[97, 114, 105, 97, 45, 108, 97, 98, 101, 108]⟩)) = false ∧ fo = true ∧ roleD d (n : Int) = 12 then (saidN d (n : Int) ⟨#[118, 97, 108, 117, 101]⟩, a.2)
      else (s6D (s5D nm d c n fo (s4D nm d n (n3D (n2D a.1 (saidN d (n : Int) ⟨#[97, 114, 105, 97, 45, 108, 97, 98, 101, 108]⟩)) (saidN d (n : Int) ⟨#[97, 108, 116]⟩) (isA (Tn.nd d n).tag [105, 109, 103])) a.2)).1 (saidN d (n : Int) ⟨#[116, 105, 116, 108, 101]⟩),
        (s5D nm d c n fo (s4D nm d n (n3D (n2D a.1 (saidN d (n : Int) ⟨#[97, 114, 105, 97, 45, 108, 97, 98, 101, 108]⟩)) (saidN d (n : Int) ⟨#[97, 108, 116]⟩) (isA (Tn.nd d n).tag [105, 109, 103])) a.2)).2) := by
  unfold tailA
  generalize saidN d (n : Int) ⟨#[97, 114, 105, 97, 45, 108, 97, 98, 101, 108]⟩ = lab
  have tailF : ∀ s : ByteArray × St, full s.1 = true → s6D (s5D nm d c n fo s).1 (saidN d (n : Int) ⟨#[116, 105, 116, 108, 101]⟩) = s.1 ∧ (s5D nm d c n fo s).2 = s.2 := fun s h => by
    unfold s5D
    rw [if_neg (by simp [h])]
    exact ⟨by unfold s6D; rw [if_pos h], rfl⟩
  have s4F : ∀ (x : ByteArray) (s : St), full x = true → s4D nm d n x s = (x, s) := fun x s h => by
    unfold s4D
    rw [if_neg (by simp [h])]
  have n3F : ∀ (x : ByteArray), full x = true → n3D x (saidN d (n : Int) ⟨#[97, 108, 116]⟩) (isA (Tn.nd d n).tag [105, 109, 103]) = x := fun x h => by
    unfold n3D
    rw [if_neg (by simp [h])]
  have tailN : ∀ s : ByteArray × St, full s.1 = false → tailC d n (stepC nm d c n fo s.2) = (s6D (s5D nm d c n fo s).1 (saidN d (n : Int) ⟨#[116, 105, 116, 108, 101]⟩), (s5D nm d c n fo s).2) := fun s h => by
    by_cases q : (fo || contentI (roleD d (n : Int))) = true
    · have e1 : s5D nm d c n fo s = joinF (eachF (fun s k => nm s k true) ((insideD d c (n : Int)).map Int.ofNat) ([], s.2)) := by unfold s5D; rw [if_pos ⟨h, q⟩]
      have e2 : stepC nm d c n fo s.2 = joinF (eachF (fun s k => nm s k true) ((insideD d c (n : Int)).map Int.ofNat) ([], s.2)) := by unfold stepC; rw [if_pos q]
      rw [e1, e2]
      unfold tailC s6D
      split <;> rfl
    · have e1 : s5D nm d c n fo s = s := by unfold s5D; rw [if_neg (fun e => q e.2)]
      have e2 : stepC nm d c n fo s.2 = (emB, s.2) := by unfold stepC; rw [if_neg q]
      rw [e1, e2]
      unfold tailC s6D
      rw [if_neg (by simp [em_full]), if_neg (by simp [h])]
  by_cases h1 : full a.1 = true
  · have e : n2D a.1 lab = a.1 := by unfold n2D; rw [if_pos h1]
    rw [if_pos h1, e, if_neg (by simp [h1]), n3F _ h1, s4F _ _ h1]
    obtain ⟨t1, t2⟩ := tailF (a.1, a.2) h1
    rw [t1, t2]
  · have e : n2D a.1 lab = lab := by unfold n2D; rw [if_neg h1]
    rw [if_neg h1, e]
    by_cases h2 : full lab = true
    · rw [if_pos h2, if_neg (by simp [h2]), n3F _ h2, s4F _ _ h2]
      obtain ⟨t1, t2⟩ := tailF (lab, a.2) h2
      rw [t1, t2]
    · have h2' : full lab = false := by simpa using h2
      rw [if_neg h2]
      by_cases h3 : roleD d (n : Int) = 12 ∧ fo = true
      · rw [if_pos h3, if_pos ⟨h2', h3.2, h3.1⟩]
      · rw [if_neg h3, if_neg (fun e => h3 ⟨e.2.2, e.2.1⟩)]
        unfold tailB stepB
        by_cases h4 : isA (Tn.nd d n).tag [105, 109, 103] = true
        · have e3 : n3D lab (saidN d (n : Int) ⟨#[97, 108, 116]⟩) (isA (Tn.nd d n).tag [105, 109, 103]) = saidN d (n : Int) ⟨#[97, 108, 116]⟩ := by unfold n3D; rw [if_pos ⟨h2', h4⟩]
          have e4 : s4D nm d n (saidN d (n : Int) ⟨#[97, 108, 116]⟩) a.2 = (saidN d (n : Int) ⟨#[97, 108, 116]⟩, a.2) := by unfold s4D; rw [if_neg (by simp [img_input h4])]
          rw [if_pos h4, e3, e4]
          by_cases h5 : full (saidN d (n : Int) ⟨#[97, 108, 116]⟩) = true
          · rw [if_pos h5]
            obtain ⟨t1, t2⟩ := tailF (saidN d (n : Int) ⟨#[97, 108, 116]⟩, a.2) h5
            rw [t1, t2]
          · rw [if_neg h5]
            exact tailN (saidN d (n : Int) ⟨#[97, 108, 116]⟩, a.2) (by simpa using h5)
        · have e3 : n3D lab (saidN d (n : Int) ⟨#[97, 108, 116]⟩) (isA (Tn.nd d n).tag [105, 109, 103]) = lab := by unfold n3D; rw [if_neg (fun e => h4 e.2)]
          rw [if_neg h4, e3]
          by_cases h5 : isA (Tn.nd d n).tag [105, 110, 112, 117, 116] = true
          · have e4 : s4D nm d n lab a.2 = labR nm d n a.2 := by unfold s4D; rw [if_pos ⟨h2', h5⟩]
            rw [e4]
            show (if full (labR nm d n a.2).1 = true then labR nm d n a.2 else tailC d n (stepC nm d c n fo (labR nm d n a.2).2)) = _
            by_cases h6 : full (labR nm d n a.2).1 = true
            · rw [if_pos h6]
              obtain ⟨t1, t2⟩ := tailF (labR nm d n a.2) h6
              rw [t1, t2]
            · rw [if_neg h6]
              exact tailN _ (by simpa using h6)
          · have e4 : s4D nm d n lab a.2 = (lab, a.2) := by unfold s4D; rw [if_neg (fun e => h5 e.2)]
            have e5 : labelFor d (n : Int) a.2.had = none := by
              unfold labelFor
              rw [if_neg (by rw [Int.toNat_natCast]; simp [h5])]
            rw [e4, e5]
            show (if full emB = true then (emB, a.2) else tailC d n (stepC nm d c n fo a.2)) = _
            rw [if_neg (by simp [em_full])]
            exact tailN (lab, a.2) h2'

theorem field_content (x0 x1 x2 x3 x4 x5 x6 : Value) (w : World) : (Instr.field 45 (.agg #[x0, x1, x2, x3, x4, x5, x6]) 1).run Tryz.prog w = .ok x1 w := by kernel_rfl
theorem lab_went {d : Tn.Dc} (hF : Fine d) {m : Nat} {nm : Nmr} (hN : Nok d m nm) (n : Nat) (x : ByteArray) {st : St} (ho : OkS d st) (hm : m ≤ st.had.length) : Went d st (s4D nm d n x st).2 := by
  unfold s4D
  split
  · unfold labR
    split
    · rename_i k hk
      have hl := label_lv hF hk
      exact (hN st k true ho hm hl.1 hl.2).went
    · exact Went.refl ho
  · exact Went.refl ho
/-- the sets are as told, and nothing else was written -/
def AtS (A L : Nat) (w1 w : World) (s : St) : Prop := SetAt w A s.had ∧ SetAt w L s.lst ∧ Bt [A, L] w1 w
theorem AtS.below {A L : Nat} {w1 w w' : World} {s : St} (h : AtS A L w1 w s) (hb : Below w.heap.size w w') : AtS A L w1 w' s := ⟨h.1.below hb, h.2.1.below hb, h.2.2.trans (Bt.below hb)⟩
theorem AtS.then {A L : Nat} {w1 w w' : World} {s t : St} (h : AtS A L w1 w s) (k : AtS A L w w' t) : AtS A L w1 w' t := ⟨k.1, k.2.1, h.2.2.trans k.2.2⟩
theorem full_no {s : ByteArray} (h : s.toList.isEmpty = true) : full s = false := by unfold full; rw [h]; rfl
theorem full_yes {s : ByteArray} (h : s.toList.isEmpty = false) : full s = true := by unfold full; rw [h]; rfl

set_option maxHeartbeats 12800000 in
set_option maxRecDepth 100000 in
theorem nelem_of {b o c : Nat} {rs : List Raw} {d : Tn.Dc} {p : Option Addr} {cc : Nat} {cl : List Cl} {A L f : Nat} (H : NameC b o c rs d p cc cl A L f) (hne : A ≠ L) {W : World} {st : St} (hx : Nx W b o c rs d (.slice p cl.length cc) cl) (hS : SetAt W A st.had) (hL : SetAt W L st.lst) (ho : OkS d st) (hf : 61 ≤ f + st.had.length) (n : Nat) (hn : Tn.lvD d n = true) (fo : Bool) :
    Calls Tryz.prog 53 #[.agg #[.slice (some ⟨b, o, none⟩) rs.length c, .slice p cl.length cc, .map (some A), .map (some L)], .int .i64 (n : Int), .bool fo] W fun e w' =>
      e = .returned (.string (tailA (nameF f d cl) d cl n fo (stepA (nameF f d cl) d cl n fo st)).1) ∧ SetAt w' A (tailA (nameF f d cl) d cl n fo (stepA (nameF f d cl) d cl n fo st)).2.had ∧ SetAt w' L (tailA (nameF f d cl) d cl n fo (stepA (nameF f d cl) d cl n fo st)).2.lst ∧ Bt [A, L] W w' := by
  have hF := hx.cx.fine
  have B1 : Below W.heap.size W (W.alloc (.cells #[.slice (some ⟨b, o, none⟩) rs.length c, .slice p cl.length cc, .map (some A), .map (some L)] 66)) := (Below.refl W.heap.size W).alloc (Nat.le_refl _) _
  have z1 : (W.alloc (.cells #[.slice (some ⟨b, o, none⟩) rs.length c, .slice p cl.length cc, .map (some A), .map (some L)] 66)).heap.size = W.heap.size + 1 := by simp
  have C0 := box4' W (.slice (some ⟨b, o, none⟩) rs.length c) (.slice p cl.length cc) (.map (some A)) (.map (some L)) 66
  have HF : Hid (Fine d) := hF
  have NOK : Hid (Nok d (61 - f) (nameF f d cl)) := name_ok hF hx.cx.vn hx.vt hx.forest f
  have HFO : Hid (Forest d cl) := hx.forest
  have VN : Hid (∀ j, Vn (Tn.nd d j)) := hx.cx.vn
  have hnn := Tn.lv_lt hn
  have hdl := hF.good.len.2
  have hrl : rs.length ≤ 1000 := by rw [hx.cx.doc.len]; omega
  have hnl : n < rs.length := by rw [hx.cx.doc.len]; exact hnn
  -- all that is there wherever the sets stand so
  have NX : Hid (∀ w, Bt [A, L] (W.alloc (.cells #[.slice (some ⟨b, o, none⟩) rs.length c, .slice p cl.length cc, .map (some A), .map (some L)] 66)) w → Nx w b o c rs d (.slice p cl.length cc) cl) := fun w hw => (hx.below B1).bt hw (maps2 (hS.below B1) (hL.below B1))
  have KX : Hid (∀ w, Bt [A, L] (W.alloc (.cells #[.slice (some ⟨b, o, none⟩) rs.length c, .slice p cl.length cc, .map (some A), .map (some L)] 66)) w → w.cell? ⟨W.heap.size, 0, none⟩ = some (.slice (some ⟨b, o, none⟩) rs.length c) ∧ w.cell? ⟨W.heap.size, 1, none⟩ = some (.slice p cl.length cc) ∧ w.cell? ⟨W.heap.size, 2, none⟩ = some (.map (some A)) ∧ w.cell? ⟨W.heap.size, 3, none⟩ = some (.map (some L)) ∧ w.cell? ⟨b, o + n * 9 + 1, none⟩ = some (.string (Tn.nd d n).tag)) := fun w hw => by
    have K := hw.keeps (maps2 (hS.below B1) (hL.below B1))
    exact ⟨K _ _ C0.1, K _ _ C0.2.1, K _ _ C0.2.2.1, K _ _ C0.2.2.2, K _ _ (tag_cell (hx.below B1).cx.doc hn).1⟩
  have A1 : Hid (AtS A L (W.alloc (.cells #[.slice (some ⟨b, o, none⟩) rs.length c, .slice p cl.length cc, .map (some A), .map (some L)] 66)) (W.alloc (.cells #[.slice (some ⟨b, o, none⟩) rs.length c, .slice p cl.length cc, .map (some A), .map (some L)] 66)) st) := ⟨hS.below B1, hL.below B1, Bt.refl _ _⟩
  have HB1 : Hid (Below W.heap.size W (W.alloc (.cells #[.slice (some ⟨b, o, none⟩) rs.length c, .slice p cl.length cc, .map (some A), .map (some L)] 66))) := B1
  have LST : Hid (∀ w, AtS A L (W.alloc (.cells #[.slice (some ⟨b, o, none⟩) rs.length c, .slice p cl.length cc, .map (some A), .map (some L)] 66)) w st → Calls Tryz.prog 54 #[.agg #[.slice (some ⟨b, o, none⟩) rs.length c, .slice p cl.length cc, .map (some A), .map (some L)], .int .i64 (n : Int), .string ⟨#[97, 114, 105, 97, 45, 108, 97, 98, 101, 108, 108, 101, 100, 98, 121]⟩] w fun e w' =>
      e = .returned (.string (listD (nameF f d cl) d cl (n : Int) ⟨#[97, 114, 105, 97, 45, 108, 97, 98, 101, 108, 108, 101, 100, 98, 121]⟩ st).1) ∧ AtS A L w w' (listD (nameF f d cl) d cl (n : Int) ⟨#[97, 114, 105, 97, 45, 108, 97, 98, 101, 108, 108, 101, 100, 98, 121]⟩ st).2) := fun w h => nlisted_of H hne (NX.out w h.2.2) h.1 h.2.1 ho hf (n : Int) _
  have LAB : Hid (∀ w s, AtS A L (W.alloc (.cells #[.slice (some ⟨b, o, none⟩) rs.length c, .slice p cl.length cc, .map (some A), .map (some L)] 66)) w s → OkS d s → 61 ≤ f + s.had.length → isA (Tn.nd d n).tag [105, 110, 112, 117, 116] = true → Calls Tryz.prog 82 #[.agg #[.slice (some ⟨b, o, none⟩) rs.length c, .slice p cl.length cc, .map (some A), .map (some L)], .int .i64 (n : Int)] w fun e w' =>
      e = .returned (.string (labR (nameF f d cl) d n s).1) ∧ AtS A L w w' (labR (nameF f d cl) d n s).2) := fun w s h h1 h2 h3 => nlabel_of H (NX.out w h.2.2) h.1 h.2.1 h1 h2 n h3
  have KID : Hid (∀ w, Nx w b o c rs d (.slice p cl.length cc) cl → Calls Tryz.prog 84 #[.slice (some ⟨b, o, none⟩) rs.length c, .slice p cl.length cc, .int .i64 (n : Int)] w fun e w' => ∃ v, e = .returned v ∧ OwnI w' w.heap.size v (insideD d cl (n : Int)) ∧ Below w.heap.size w w') := fun w h => vkids_any h.cx.doc h.cx.fine.okd h.cls (by have := forest_few HF.out HFO.out; omega) (n : Int)
  have NMS : Hid (∀ w s v, AtS A L (W.alloc (.cells #[.slice (some ⟨b, o, none⟩) rs.length c, .slice p cl.length cc, .map (some A), .map (some L)] 66)) w s → IntsAt w v (insideD d cl (n : Int)) → OkS d s → 61 ≤ f + s.had.length → Calls Tryz.prog 83 #[.agg #[.slice (some ⟨b, o, none⟩) rs.length c, .slice p cl.length cc, .map (some A), .map (some L)], v] w fun e w' =>
      e = .returned (.string (joinF (eachF (fun s k => nameF f d cl s k true) ((insideD d cl (n : Int)).map Int.ofNat) ([], s))).1) ∧ AtS A L w w' (joinF (eachF (fun s k => nameF f d cl s k true) ((insideD d cl (n : Int)).map Int.ofNat) ([], s))).2) := fun w s v h hv h1 h2 => by
    obtain ⟨pv, cv, rfl, y1, y2, _⟩ := hv.at
    exact nnames_of H (NX.out w h.2.2) h.1 h.2.1 h1 h2 (zs_of_ints hv) (fun k hk => ⟨by
      obtain ⟨x, _, e⟩ := List.mem_map.mp hk
      have e : (x : Int) = k := e
      omega, fun j e => ins_lv HF.out HFO.out n k hk j e⟩) (by
        have h9 := inside_cap HF.out HFO.out (n : Int)
        rw [List.length_map]
        omega)
  have SAI : Hid (∀ w name, Nx w b o c rs d (.slice p cl.length cc) cl → Calls Tryz.prog 55 #[.agg #[.slice (some ⟨b, o, none⟩) rs.length c, .slice p cl.length cc, .map (some A), .map (some L)], .int .i64 (n : Int), .string name] w fun e w' => e = .returned (.string (saidN d (n : Int) name)) ∧ Below w.heap.size w w') := fun w name h => nsaid_any h.cx (some A) (some L) p cl.length cc (n : Int) name
  have ROL : Hid (∀ w, Nx w b o c rs d (.slice p cl.length cc) cl → Calls Tryz.prog 30 #[.slice (some ⟨b, o, none⟩) rs.length c, .int .i64 (n : Int)] w fun e w' => e = .returned (.int .i64 (roleD d (n : Int))) ∧ Below w.heap.size w w') := fun w h => oof_any h.cx (n : Int)
  have KIN : Hid (∀ w (r : Int), Nx w b o c rs d (.slice p cl.length cc) cl → Calls Tryz.prog 29 #[.int .i64 r] w fun e w' => ∃ nm x1 x2 x3 x5 z, e = .returned (.agg #[.string nm, .bool (contentI r), .bool x1, .bool x2, .bool x3, .bool x5, .int .i64 z]) ∧ Below w.heap.size w w') := fun w r h => (Kn.of_any h.cx.tab r).mono (by
    rintro e w' ⟨rfl, h⟩
    exact ⟨_, _, _, _, _, _, rfl, h⟩)
  have W2 : Hid (Went d st (stepA (nameF f d cl) d cl n fo st).2) := (stepA_went HF.out HFO.out NOK.out n fo ho (by omega)).1
  have ST0 : Hid (OkS d st ∧ 61 ≤ f + st.had.length) := ⟨ho, hf⟩
  have FU : Hid (61 ≤ f + st.had.length) := hf
  have TS := tail_steps (nameF f d cl) d cl n fo (stepA (nameF f d cl) d cl n fo st)
  have EA : Hid (stepA (nameF f d cl) d cl n fo st = if fo = true then (emB, st) else listD (nameF f d cl) d cl (n : Int) ⟨#[97, 114, 105, 97, 45, 108, 97, 98, 101, 108, 108, 101, 100, 98, 121]⟩ st) := rfl
  have fields := field_content
  clear hx hS hL ho hf hne H B1 C0 hF
  have HTS : Hid (tailA (nameF f d cl) d cl n fo (stepA (nameF f d cl) d cl n fo st) = _) := TS
  clear TS
  generalize hRR : tailA (nameF f d cl) d cl n fo (stepA (nameF f d cl) d cl n fo st) = RR at *
  generalize stepA (nameF f d cl) d cl n fo st = s1 at *
  go_enter Tryz.func53, Tryz.ntmps53
  go_upto_region 1 with fail
  generalize W.alloc (.cells #[.slice (some ⟨b, o, none⟩) rs.length c, .slice p cl.length cc, .map (some A), .map (some L)] 66) = w1 at *
  have RO1 := ROL.out w1 (NX.out w1 (Bt.refl _ _))
  have K1 := KX.out w1 (Bt.refl _ _)
  obtain ⟨k0, k1, k2, k3, k4⟩ := K1
  generalize hro : roleD d (n : Int) = ro at *
  go_upto_if 14 with (go_at_call 30; refine RO1.mono ?_; rintro e w2 ⟨rfl, hb2⟩)
  have A2 : Hid (AtS A L w1 w2 st) := A1.out.below hb2
  clear RO1 hb2 A1 k0 k1 k2 k3 k4
  -- names that it lists
  go_cut [8] from 15 to 17 (fun v wc => v = .string s1.1 ∧ AtS A L w1 wc s1.2)
  case first =>
    have K2 := KX.out w2 A2.out.2.2
    obtain ⟨k0, k1, k2, k3, k4⟩ := K2
    cases fo with
    | true =>
      have e : s1 = (emB, st) := by rw [EA.out, if_pos rfl]
      go_wp2_with fail
      go_meet
      rw [e]
      exact ⟨rfl, A2.out⟩
    | false =>
      have e : s1 = listD (nameF f d cl) d cl (n : Int) ⟨#[97, 114, 105, 97, 45, 108, 97, 98, 101, 108, 108, 101, 100, 98, 121]⟩ st := by rw [EA.out, if_neg (by simp)]
      have LS := LST.out w2 A2.out
      rw [← e] at LS
      clear e
      go_wp2_with (go_at_call 54; refine LS.mono ?_; rintro e w3 ⟨rfl, h3⟩)
      go_meet
      exact ⟨rfl, A2.out.then h3⟩
  case rest =>
  obtain ⟨rfl, hA3⟩ := hcut
  have A3 : Hid (AtS A L w1 wc s1.2) := hA3
  clear hA3 A2 LST EA ST0
  generalize hq1 : saidN d (n : Int) ⟨#[97, 114, 105, 97, 45, 108, 97, 98, 101, 108]⟩ = lab at *
  -- or else its label
  go_upto_if 19 with fail
  go_cut [8] from 18 to 22 (fun v wd => v = .string (n2D s1.1 lab) ∧ AtS A L w1 wd s1.2)
  case first =>
    have K2 := KX.out wc A3.out.2.2
    obtain ⟨k0, k1, k2, k3, k4⟩ := K2
    have SA := SAI.out wc ⟨#[97, 114, 105, 97, 45, 108, 97, 98, 101, 108]⟩ (NX.out wc A3.out.2.2)
    rw [hq1] at SA
    cases hs : s1.1.toList.isEmpty with
    | true =>
      have e : n2D s1.1 lab = lab := by unfold n2D; rw [if_neg (by simp [full_no hs])]
      have E : Hid (n2D s1.1 lab = lab) := e
      clear e HTS
      go_wp2_with (go_at_call 55; refine SA.mono ?_; rintro e w3 ⟨rfl, hb3⟩)
      go_meet
      exact ⟨by rw [E.out], A3.out.below hb3⟩
    | false =>
      have e : n2D s1.1 lab = s1.1 := by unfold n2D; rw [if_pos (full_yes hs)]
      have E : Hid (n2D s1.1 lab = s1.1) := e
      clear e HTS
      go_wp2_with fail
      go_meet
      exact ⟨by rw [E.out], A3.out⟩
  case rest =>
  obtain ⟨rfl, hA4⟩ := hcut
  have A4 : Hid (AtS A L w1 wc s1.2) := hA4
  clear hA4 A3 hq1
  generalize n2D s1.1 lab = x2 at *
  generalize hq2 : saidN d (n : Int) ⟨#[118, 97, 108, 117, 101]⟩ = va at *
  -- a box's value, for another one's name
  go_upto_region 7 with fail
  go_cut [31] from 23 to 30 (fun tv wd => tv = .bool (!full x2 && fo && decide (ro = 12)) ∧ wd = wc)
  case first =>
    cases hs : x2.toList.isEmpty with
    | false =>
      have e := full_yes hs
      go_wp2_with fail
      go_meet
      exact ⟨by simp [e], rfl⟩
    | true =>
      have e := full_no hs
      cases fo with
      | false =>
        go_wp2_with fail
        go_meet
        exact ⟨by simp, rfl⟩
      | true =>
        by_cases h12 : ro = 12
        · subst h12
          go_wp2_with fail
          go_meet
          exact ⟨by simp [e], rfl⟩
        · have h14 : (ro == 12) = false := by simp [h12]
          go_wp2_with fail
          go_meet
          exact ⟨by simp [h12], rfl⟩
  case rest =>
  obtain ⟨rfl, rfl⟩ := hcut
  have K4 := KX.out wc A4.out.2.2
  obtain ⟨k0, k1, k2, k3, k4⟩ := K4
  cases hbx : (!full x2 && fo && decide (ro = 12)) with
  | true =>
    have hb9 : full x2 = false ∧ fo = true ∧ ro = 12 := by simpa [and_assoc] using hbx
    have SA := SAI.out wc ⟨#[118, 97, 108, 117, 101]⟩ (NX.out wc A4.out.2.2)
    rw [hq2] at SA
    have E : Hid (RR = (va, s1.2)) := by show _ = _; rw [HTS.out, if_pos hb9]
    clear HTS hb9
    go_wp2_with (go_at_call 55; refine SA.mono ?_; rintro e w3 ⟨rfl, hb3⟩)
    go_ret
    have A9 := A4.out.below hb3
    rw [E.out]
    exact ⟨rfl, A9.1, A9.2.1, (Bt.below HB1.out).trans A9.2.2⟩
  | false =>
  have hno : ¬ (full x2 = false ∧ fo = true ∧ ro = 12) := fun h => by
    rw [h.1, h.2.1, h.2.2] at hbx
    simp at hbx
  have HT2 : Hid (RR = (s6D (s5D (nameF f d cl) d cl n fo (s4D (nameF f d cl) d n (n3D x2 (saidN d (n : Int) ⟨#[97, 108, 116]⟩) (isA (Tn.nd d n).tag [105, 109, 103])) s1.2)).1 (saidN d (n : Int) ⟨#[116, 105, 116, 108, 101]⟩), (s5D (nameF f d cl) d cl n fo (s4D (nameF f d cl) d n (n3D x2 (saidN d (n : Int) ⟨#[97, 108, 116]⟩) (isA (Tn.nd d n).tag [105, 109, 103])) s1.2)).2)) := by show _ = _; rw [HTS.out, if_neg hno]
  clear hq2 HTS hno
  generalize hq3 : saidN d (n : Int) ⟨#[97, 108, 116]⟩ = alt at *
  -- of an img alt
  go_upto_region 9 with fail
  clear hbx
  go_cut [45] from 35 to 44 (fun tv wd => tv = .bool (!full x2 && isA (Tn.nd d n).tag [105, 109, 103]) ∧ wd = wc)
  case first =>
    cases hs : x2.toList.isEmpty with
    | false =>
      have e := full_yes hs
      clear HT2
      go_wp2_with fail
      go_meet
      exact ⟨by simp [e], rfl⟩
    | true =>
      have e := full_no hs
      obtain ⟨bi, hm⟩ : ∃ bi, isA (Tn.nd d n).tag [105, 109, 103] = bi := ⟨_, rfl⟩
      have hm' : ((Tn.nd d n).tag.toList == [105, 109, 103]) = bi := hm
      clear HT2
      have HM : Hid (isA (Tn.nd d n).tag [105, 109, 103] = bi) := hm
      clear hm
      cases bi <;> (go_wp2_with fail; go_meet; exact ⟨by rw [HM.out]; simp [e], rfl⟩)
  case rest =>
  obtain ⟨rfl, rfl⟩ := hcut
  go_upto_if 45 with fail
  go_cut [8] from 45 to 48 (fun v wd => v = .string (n3D x2 alt (isA (Tn.nd d n).tag [105, 109, 103])) ∧ AtS A L w1 wd s1.2)
  case first =>
    have SA := SAI.out wc ⟨#[97, 108, 116]⟩ (NX.out wc A4.out.2.2)
    rw [hq3] at SA
    cases hbx : (!full x2 && isA (Tn.nd d n).tag [105, 109, 103]) with
    | true =>
      have hb9 : full x2 = false ∧ isA (Tn.nd d n).tag [105, 109, 103] = true := by simpa using hbx
      have E : Hid (n3D x2 alt (isA (Tn.nd d n).tag [105, 109, 103]) = alt) := by show _ = _; unfold n3D; rw [if_pos hb9]
      clear hb9 HT2
      go_wp2_with (go_at_call 55; refine SA.mono ?_; rintro e w3 ⟨rfl, hb3⟩)
      go_meet
      exact ⟨by rw [E.out], A4.out.below hb3⟩
    | false =>
      have E : Hid (n3D x2 alt (isA (Tn.nd d n).tag [105, 109, 103]) = x2) := by show _ = _; unfold n3D; rw [if_neg (fun h => by rw [h.1, h.2] at hbx; simp at hbx)]
      clear HT2
      go_wp2_with fail
      go_meet
      exact ⟨by rw [E.out], A4.out⟩
  case rest =>
  obtain ⟨rfl, hA6⟩ := hcut
  have A6 : Hid (AtS A L w1 wc s1.2) := hA6
  clear hA6 A4 hq3 k0 k1 k2 k3 k4
  generalize n3D x2 alt (isA (Tn.nd d n).tag [105, 109, 103]) = x3 at *
  have Z1 : Hid (OkS d s1.2 ∧ 61 ≤ f + s1.2.had.length) := ⟨W2.out.ok, by have h1 := W2.out.len; exact Nat.le_trans FU.out (Nat.add_le_add_left h1 f)⟩
  have R4 : Hid (full x3 = false ∧ isA (Tn.nd d n).tag [105, 110, 112, 117, 116] = true → s4D (nameF f d cl) d n x3 s1.2 = labR (nameF f d cl) d n s1.2) := fun h => by unfold s4D; rw [if_pos h]
  have R4n : Hid (¬ (full x3 = false ∧ isA (Tn.nd d n).tag [105, 110, 112, 117, 116] = true) → s4D (nameF f d cl) d n x3 s1.2 = (x3, s1.2)) := fun h => by unfold s4D; rw [if_neg h]
  have W4 : Hid (Went d s1.2 (s4D (nameF f d cl) d n x3 s1.2).2) := lab_went HF.out NOK.out n x3 Z1.out.1 (by have := Z1.out.2; omega)
  generalize s4D (nameF f d cl) d n x3 s1.2 = s4 at *
  have K6 := KX.out wc A6.out.2.2
  obtain ⟨k0, k1, k2, k3, k4⟩ := K6
  -- of an input its label's name
  go_upto_region 11 with fail
  go_cut [59] from 49 to 58 (fun tv wd => tv = .bool (!full x3 && isA (Tn.nd d n).tag [105, 110, 112, 117, 116]) ∧ wd = wc)
  case first =>
    cases hs : x3.toList.isEmpty with
    | false =>
      have e := full_yes hs
      clear HT2 R4 R4n LAB
      go_wp2_with fail
      go_meet
      exact ⟨by simp [e], rfl⟩
    | true =>
      have e := full_no hs
      obtain ⟨bi, hm⟩ : ∃ bi, isA (Tn.nd d n).tag [105, 110, 112, 117, 116] = bi := ⟨_, rfl⟩
      have hm' : ((Tn.nd d n).tag.toList == [105, 110, 112, 117, 116]) = bi := hm
      clear HT2 R4 R4n LAB
      have HM : Hid (isA (Tn.nd d n).tag [105, 110, 112, 117, 116] = bi) := hm
      clear hm
      cases bi <;> (go_wp2_with fail; go_meet; exact ⟨by rw [HM.out]; simp [e], rfl⟩)
  case rest =>
  obtain ⟨rfl, rfl⟩ := hcut
  go_upto_if 59 with fail
  go_cut [8] from 59 to 62 (fun v wd => v = .string s4.1 ∧ AtS A L w1 wd s4.2)
  case first =>
    cases hbx : (!full x3 && isA (Tn.nd d n).tag [105, 110, 112, 117, 116]) with
    | true =>
      have hb9 : full x3 = false ∧ isA (Tn.nd d n).tag [105, 110, 112, 117, 116] = true := by simpa using hbx
      have e : s4 = labR (nameF f d cl) d n s1.2 := R4.out hb9
      have LB := LAB.out wc s1.2 A6.out Z1.out.1 Z1.out.2 hb9.2
      rw [← e] at LB
      clear e hb9 HT2 R4 R4n LAB
      go_wp2_with (go_at_call 82; refine LB.mono ?_; rintro e w3 ⟨rfl, h3⟩)
      go_meet
      exact ⟨rfl, A6.out.then h3⟩
    | false =>
      have E : Hid (s4 = (x3, s1.2)) := R4n.out (fun h => by rw [h.1, h.2] at hbx; simp at hbx)
      clear HT2 R4 R4n LAB
      go_wp2_with fail
      go_meet
      rw [E.out]
      exact ⟨rfl, A6.out⟩
  case rest =>
  obtain ⟨rfl, hA7⟩ := hcut
  have A7 : Hid (AtS A L w1 wc s4.2) := hA7
  have Z4 : Hid (OkS d s4.2 ∧ 61 ≤ f + s4.2.had.length) := ⟨W4.out.ok, Nat.le_trans Z1.out.2 (Nat.add_le_add_left W4.out.len f)⟩
  clear hA7 A6 R4 R4n LAB Z1 W2 k0 k1 k2 k3 k4
  have R5 : Hid (full s4.1 = false ∧ (fo || contentI ro) = true → s5D (nameF f d cl) d cl n fo s4 = joinF (eachF (fun s k => nameF f d cl s k true) ((insideD d cl (n : Int)).map Int.ofNat) ([], s4.2))) := fun h => by unfold s5D; rw [hro, if_pos h]
  have R5n : Hid (¬ (full s4.1 = false ∧ (fo || contentI ro) = true) → s5D (nameF f d cl) d cl n fo s4 = s4) := fun h => by unfold s5D; rw [hro, if_neg h]
  generalize s5D (nameF f d cl) d cl n fo s4 = s5 at *
  have KI := KIN.out wc ro (NX.out wc A7.out.2.2)
  clear KIN ROL hro
  -- the names of what is in it
  go_upto_region 13 with fail
  go_cut [72] from 63 to 71 (fun tv wd => tv = .bool (!full s4.1 && (fo || contentI ro)) ∧ AtS A L w1 wd s4.2)
  case first =>
    cases hs : s4.1.toList.isEmpty with
    | false =>
      have e := full_yes hs
      clear HT2 R5 R5n
      go_wp2_with fail
      go_meet
      exact ⟨by simp [e], A7.out⟩
    | true =>
      have e := full_no hs
      clear HT2 R5 R5n
      cases fo with
      | true =>
        go_wp2_with fail
        go_meet
        exact ⟨by simp [e], A7.out⟩
      | false =>
        go_wp2_with (go_at_call 29; refine KI.mono ?_; rintro e w3 ⟨nm, x1, x2, x3, x5, z, rfl, hb3⟩)
        go_meet
        exact ⟨by simp [e], A7.out.below hb3⟩
  case rest =>
  obtain ⟨rfl, hA8⟩ := hcut
  have A8 : Hid (AtS A L w1 wc s4.2) := hA8
  clear hA8 A7 KI
  have K8 := KX.out wc A8.out.2.2
  obtain ⟨k0, k1, k2, k3, k4⟩ := K8
  go_upto_if 72 with fail
  go_cut [8] from 72 to 80 (fun v wd => v = .string s5.1 ∧ AtS A L w1 wd s5.2)
  case first =>
    cases hbx : (!full s4.1 && (fo || contentI ro)) with
    | true =>
      have hb9 : full s4.1 = false ∧ (fo || contentI ro) = true := by simpa using hbx
      have E : Hid (s5 = joinF (eachF (fun s k => nameF f d cl s k true) ((insideD d cl (n : Int)).map Int.ofNat) ([], s4.2))) := R5.out hb9
      clear hb9 HT2 R5 R5n
      have SS : ∀ w'', Keeps wc w'' → (fun w'' : World => w''.cell? ⟨W.heap.size, 0, none⟩ = some (.slice (some ⟨b, o, none⟩) rs.length c) ∧ w''.cell? ⟨W.heap.size, 1, none⟩ = some (.slice p cl.length cc) ∧ w''.cell? ⟨W.heap.size, 2, none⟩ = some (.map (some A)) ∧ w''.cell? ⟨W.heap.size, 3, none⟩ = some (.map (some L))) w'' := fun w'' hk => ⟨hk _ _ k0, hk _ _ k1, hk _ _ k2, hk _ _ k3⟩
      have AD : Hid (∀ w, Below wc.heap.size wc w → AtS A L w1 w s4.2) := fun w hb => A8.out.below hb
      go_upto_region 14 with fail
      go_region_held3 (fun w'' : World => w''.cell? ⟨W.heap.size, 0, none⟩ = some (.slice (some ⟨b, o, none⟩) rs.length c) ∧ w''.cell? ⟨W.heap.size, 1, none⟩ = some (.slice p cl.length cc) ∧ w''.cell? ⟨W.heap.size, 2, none⟩ = some (.map (some A)) ∧ w''.cell? ⟨W.heap.size, 3, none⟩ = some (.map (some L)))
        ((apply SS; first | exact Keeps.refl _ | assumption | exact keeps_drew (Keeps.refl _)))
        (first
          | (go_at_call 84; refine (KID.out _ (NX.out _ (AD.out _ (Below.refl _ wc).drew).2.2)).mono ?_; rintro e wa ⟨va9, rfl, hoa, hba⟩; have Ba : Below wc.heap.size wc wa := (Below.refl _ wc).drew.trans (hba.mono (Nat.le_refl _)); have Ja : Keeps wc wa := keeps_below Ba (Nat.le_refl _); have NMa := NMS.out wa s4.2 va9 (AD.out wa Ba) (ints_of_owns hoa) Z4.out.1 Z4.out.2)
          | (go_at_call 83; refine NMa.mono ?_; rintro e wb ⟨rfl, hb9⟩; have Jb : Keeps wc wb := Ja.trans (hb9.2.2.keeps (maps2 (AD.out wa Ba).1 (AD.out wa Ba).2.1))))
      all_goals
        go_wp2_with fail
        go_meet
        rw [E.out]
        exact ⟨rfl, (AD.out wa Ba).then hb9⟩
    | false =>
      have E : Hid (s5 = s4) := R5n.out (fun h => by rw [h.1, h.2] at hbx; simp at hbx)
      clear HT2 R5 R5n
      go_wp2_with fail
      go_meet
      rw [E.out]
      exact ⟨rfl, A8.out⟩
  case rest =>
  obtain ⟨rfl, hA9⟩ := hcut
  have A9 : Hid (AtS A L w1 wc s5.2) := hA9
  clear hA9 A8 k0 k1 k2 k3 k4 R5 R5n
  generalize hq6 : saidN d (n : Int) ⟨#[116, 105, 116, 108, 101]⟩ = ti at *
  have K2 := KX.out wc A9.out.2.2
  obtain ⟨k0, k1, k2, k3, k4⟩ := K2
  have SA := SAI.out wc ⟨#[116, 105, 116, 108, 101]⟩ (NX.out wc A9.out.2.2)
  rw [hq6] at SA
  -- or else its title
  cases hs : s5.1.toList.isEmpty with
  | true =>
    have E : Hid (RR = (ti, s5.2)) := by show _ = _; rw [HT2.out]; unfold s6D; rw [if_neg (by simp [full_no hs])]
    clear HT2
    go_wp2_with (go_at_call 55; refine SA.mono ?_; rintro e w3 ⟨rfl, hb3⟩)
    go_ret
    have A10 := A9.out.below hb3
    rw [E.out]
    exact ⟨rfl, A10.1, A10.2.1, (Bt.below HB1.out).trans A10.2.2⟩
  | false =>
    have E : Hid (RR = (s5.1, s5.2)) := by show _ = _; rw [HT2.out]; unfold s6D; rw [if_pos (full_yes hs)]
    clear HT2
    go_wp2_with fail
    go_ret
    rw [E.out]
    exact ⟨rfl, A9.out.1, A9.out.2.1, (Bt.below HB1.out).trans A9.out.2.2⟩
end Go.Proofs.YtcinjbolflhjmadGreatDoor
