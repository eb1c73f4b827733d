/-
  OWN WORK: Nlb, Nel, Nme, Nab, Srt, Nsr, Nsu.
-/
import Derived.Test.YtbinbojicmhdlaeGreatDoorP12
import Derived.Deep.CutRange
import Derived.Shelf.SlIterI.Sorted
import Derived.Shelf.SortM.Plain
import Derived.Shelf.SortM.SortNone
import Derived.Test.YtbinbojicmhdlaeGreatDoorProg
import Derived.Test.YtbinbojicmhdlaeGreatDoorP0
import Derived.Maps.OwnSet
/-
  THE WALKS of naming's labelName: the function within it, the search with it, and itself.
-/
namespace Go.Proofs.YtbinbojicmhdlaeGreatDoor
open Go.RowKit Go.Maps

theorem tag_cell {w : World} {b o c : Nat} {rs : List Raw} {d : Tn.Dc} (hd : DocAt w b o c rs d) {k : Nat} (hk : Tn.lvD d k = true) : w.cell? ⟨b, o + k * 9 + 1, none⟩ = some (.string (Tn.nd d k).tag) ∧ w.cell? ⟨b, o + k * 9 + 2, none⟩ = some (.string (Tn.nd d k).text) ∧ k < rs.length := by
  have h1 : k < d.length := Tn.lv_lt hk
  have h2 : k < rs.length := by rw [hd.len]; exact h1
  have hn := hd.nds k h2 h1
  have e : Tn.nd d k = d[k] := by unfold Tn.nd; simp [h1]
  refine ⟨?_, ?_, h2⟩
  · rw [hd.row.c1 k h2, e, hn.tag]
  · rw [hd.row.c2 k h2, e, hn.text]

/-- the label that is asked for -/
def labQ (d : Tn.Dc) (id : ByteArray) (sc : Int) (had : List Nat) (k : Nat) : Bool := isA (Tn.nd d k).tag [108, 97, 98, 101, 108] && ((valN d (k : Int) ⟨#[102, 111, 114]⟩).toList == id.toList) && (scopeD d (k : Int) == sc) && !had.contains k

set_option maxHeartbeats 3200000 in
theorem nlab1_any {w : World} {b o c Q I C A L : Nat} {rs : List Raw} {d : Tn.Dc} {p : Option Addr} {n1 c1 : Nat} {id : ByteArray} {sc : Int} {had : List Nat} (hx : Cx w b o c rs d) (hS : SetAt w A had) (hQ0 : w.cell? ⟨Q, 0, none⟩ = some (.slice (some ⟨b, o, none⟩) rs.length c)) (hQ1 : w.cell? ⟨Q, 1, none⟩ = some (.slice p n1 c1)) (hQ2 : w.cell? ⟨Q, 2, none⟩ = some (.map (some A))) (hQ3 : w.cell? ⟨Q, 3, none⟩ = some (.map (some L))) (hI : w.cell? ⟨I, 0, none⟩ = some (.string id)) (hC : w.cell? ⟨C, 0, none⟩ = some (.int .i64 sc)) (k : Nat) (hk : Tn.lvD d k = true) :
    Calls Tryz.prog 165 #[.int .i64 (k : Int), .pointer (some ⟨Q, 0, none⟩), .pointer (some ⟨I, 0, none⟩), .pointer (some ⟨C, 0, none⟩)] w fun e w' => e = .returned (.bool (labQ d id sc had k)) ∧ Below w.heap.size w w' := by
  have hA := dattr_all hx.doc hx.fine.okd (k : Int) ⟨#[102, 111, 114]⟩
  obtain ⟨ht, _, hkl⟩ := tag_cell hx.doc hk
  have hkn := Tn.lv_lt hk
  have hdl := hx.fine.good.len.2
  have HD : Hid (labQ d id sc had k = (isA (Tn.nd d k).tag [108, 97, 98, 101, 108] && ((valN d (k : Int) ⟨#[102, 111, 114]⟩).toList == id.toList) && (scopeD d (k : Int) == sc) && !had.contains k)) := rfl
  have hSc : Hid (∀ W, Below w.heap.size w W → Calls Tryz.prog 103 #[.slice (some ⟨b, o, none⟩) rs.length c, .int .i64 (k : Int)] W fun e w' => e = .returned (.int .i64 (scopeD d (k : Int))) ∧ Below W.heap.size W w') := fun W hb => dscope_any (hx.below hb).doc hx.fine.okd.tame k
  have hMA : Hid (∀ W, Below w.heap.size w W → Calls Tryz.prog 145 #[.agg #[.slice (some ⟨b, o, none⟩) rs.length c, .slice p n1 c1, .map (some A), .map (some L)], .int .i64 (k : Int)] W fun e w' => e = .returned (.bool (!had.contains k)) ∧ Below W.heap.size W w') := fun W hb => (nmay_any (hx.below hb).doc (hS.below hb) p n1 c1 (k : Int) (by omega) (by omega)).mono (by
    rintro e w' ⟨rfl, h⟩
    refine ⟨?_, h⟩
    rw [Tn.isN_iff, hk]
    congr 2
    rw [Bool.eq_iff_iff]
    simp)
  have KL : rs.length ≤ 1000 := by rw [hx.doc.len]; omega
  clear hS hk hx
  generalize labQ d id sc had k = res at *
  generalize scopeD d (k : Int) = sk at *
  generalize (attrN d (k : Int) ⟨#[102, 111, 114]⟩).isSome = vb at *
  generalize valN d (k : Int) ⟨#[102, 111, 114]⟩ = vv at *
  generalize (!had.contains k) = hb at *
  generalize (Tn.nd d k).tag = tg at *
  cases hq : isA tg [108, 97, 98, 101, 108] with
  | false =>
    have E : Hid (res = false) := by show _ = _; rw [HD.out, hq]; rfl
    have hq' : (tg.toList == [108, 97, 98, 101, 108]) = false := hq
    clear hq HD
    go_enter Tryz.func165, Tryz.ntmps165
    go_wp2_with (go_at_call 48; refine hA.mono ?_; rintro e w9 ⟨rfl, hb9⟩)
    have J9 := keeps_below hb9 (Nat.le_refl _)
    have d0 := J9 _ _ hQ0
    have d1 := J9 _ _ hQ1
    have d2 := J9 _ _ hQ2
    have d3 := J9 _ _ hQ3
    have i9 := J9 _ _ hI
    have c9 := J9 _ _ hC
    have t9 := J9 _ _ ht
    go_quiet (fail)
    go_wp2_with fail
    go_ret
    exact ⟨by rw [E.out]; rfl, hb9.trans ⟨rfl, rfl, rfl, Nat.le_refl _, fun _ _ => rfl⟩⟩
  | true =>
    have hq' : (tg.toList == [108, 97, 98, 101, 108]) = true := hq
    rw [hq] at HD
    clear hq
    cases hv : (vv.toList == id.toList) with
    | false =>
      have E : Hid (res = false) := by show _ = _; rw [HD.out, hv]; rfl
      clear HD
      go_enter Tryz.func165, Tryz.ntmps165
      go_wp2_with (go_at_call 48; refine hA.mono ?_; rintro e w9 ⟨rfl, hb9⟩)
      have J9 := keeps_below hb9 (Nat.le_refl _)
      have d0 := J9 _ _ hQ0
      have d1 := J9 _ _ hQ1
      have d2 := J9 _ _ hQ2
      have d3 := J9 _ _ hQ3
      have i9 := J9 _ _ hI
      have c9 := J9 _ _ hC
      have t9 := J9 _ _ ht
      go_quiet (fail)
      go_wp2_with fail
      go_ret
      exact ⟨by rw [E.out]; rfl, hb9.trans ⟨rfl, rfl, rfl, Nat.le_refl _, fun _ _ => rfl⟩⟩
    | true =>
      rw [hv] at HD
      by_cases hs : sk = sc
      · subst hs
        have E : Hid (res = hb) := by show _ = _; rw [HD.out]; simp
        have hs1 : (sk == sk) = true := by simp
        have hs2 : decide (sk = sk) = true := by simp
        clear HD
        go_enter Tryz.func165, Tryz.ntmps165
        go_wp2_with (go_at_call 48; refine hA.mono ?_; rintro e w9 ⟨rfl, hb9⟩)
        have J9 := keeps_below hb9 (Nat.le_refl _)
        have d0 := J9 _ _ hQ0
        have d1 := J9 _ _ hQ1
        have d2 := J9 _ _ hQ2
        have d3 := J9 _ _ hQ3
        have i9 := J9 _ _ hI
        have c9 := J9 _ _ hC
        have t9 := J9 _ _ ht
        have SS : ∀ w'', Keeps w9 w'' → (fun w'' : World => w''.cell? ⟨Q, 0, none⟩ = some (.slice (some ⟨b, o, none⟩) rs.length c) ∧ w''.cell? ⟨Q, 1, none⟩ = some (.slice p n1 c1) ∧ w''.cell? ⟨Q, 2, none⟩ = some (.map (some A)) ∧ w''.cell? ⟨Q, 3, none⟩ = some (.map (some L)) ∧ w''.cell? ⟨I, 0, none⟩ = some (.string id) ∧ w''.cell? ⟨C, 0, none⟩ = some (.int .i64 sk) ∧ w''.cell? ⟨b, o + k * 9 + 1, none⟩ = some (.string tg)) w'' := fun w'' hk => ⟨hk _ _ d0, hk _ _ d1, hk _ _ d2, hk _ _ d3, hk _ _ i9, hk _ _ c9, hk _ _ t9⟩
        go_region_held3 (fun w'' : World => w''.cell? ⟨Q, 0, none⟩ = some (.slice (some ⟨b, o, none⟩) rs.length c) ∧ w''.cell? ⟨Q, 1, none⟩ = some (.slice p n1 c1) ∧ w''.cell? ⟨Q, 2, none⟩ = some (.map (some A)) ∧ w''.cell? ⟨Q, 3, none⟩ = some (.map (some L)) ∧ w''.cell? ⟨I, 0, none⟩ = some (.string id) ∧ w''.cell? ⟨C, 0, none⟩ = some (.int .i64 sk) ∧ w''.cell? ⟨b, o + k * 9 + 1, none⟩ = some (.string tg))
          ((apply SS; first | exact Keeps.refl _ | assumption | exact keeps_drew (Keeps.refl _)))
          (first
            | (go_at_call 103; refine (hSc.out _ (hb9.trans (Below.refl _ w9).drew)).mono ?_; rintro e wa ⟨rfl, hba⟩; have Ja : Keeps w9 wa := (keeps_drew (Keeps.refl w9)).trans (keeps_below hba (Nat.le_refl _)); have Ba : Below w.heap.size w wa := hb9.trans ((Below.refl _ w9).drew.trans (hba.mono hb9.size)))
            | (go_at_call 145; refine (hMA.out _ Ba).mono ?_; rintro e wb ⟨rfl, hbb⟩; have Jb : Keeps w9 wb := Ja.trans (keeps_below hbb (Nat.le_refl _))))
        all_goals
          go_wp2_with fail
          go_ret
          exact ⟨by rw [E.out]; rfl, Ba.trans (hbb.mono Ba.size)⟩
      · have E : Hid (res = false) := by show _ = _; rw [HD.out]; simp [hs]
        have hs1 : (sk == sc) = false := by simp [hs]
        have hs2 : decide (sk = sc) = false := by simp [hs]
        clear HD
        go_enter Tryz.func165, Tryz.ntmps165
        go_wp2_with (go_at_call 48; refine hA.mono ?_; rintro e w9 ⟨rfl, hb9⟩)
        have J9 := keeps_below hb9 (Nat.le_refl _)
        have d0 := J9 _ _ hQ0
        have d1 := J9 _ _ hQ1
        have d2 := J9 _ _ hQ2
        have d3 := J9 _ _ hQ3
        have i9 := J9 _ _ hI
        have c9 := J9 _ _ hC
        have t9 := J9 _ _ ht
        first
          | (go_region_with (first
              | (go_at_call 103; refine (hSc.out _ ?_).mono ?_; exact hb9.trans (Below.refl _ w9).drew; rintro e wa ⟨rfl, hba⟩; have Ja : Keeps w9 wa := (keeps_drew (Keeps.refl w9)).trans (keeps_below hba (Nat.le_refl _)); have Ba : Below w.heap.size w wa := hb9.trans ((Below.refl _ w9).drew.trans (hba.mono hb9.size)); have ca := Ja _ _ c9; have x0 := Ja _ _ d0; have x1 := Ja _ _ d1; have x2 := Ja _ _ d2; have x3 := Ja _ _ d3)))
          | fail
        all_goals
          go_wp2_with fail
          go_ret
          exact ⟨by rw [E.out]; rfl, Ba⟩

set_option maxHeartbeats 1600000 in
/-- the search with it, where it is asked of nodes alone -/
theorem nlabIdx_any {w : World} {b o c Q I C A L : Nat} {rs : List Raw} {d : Tn.Dc} {p : Option Addr} {n1 c1 : Nat} {id : ByteArray} {sc : Int} {had : List Nat} (hx : Cx w b o c rs d) (hS : SetAt w A had) (hQ0 : w.cell? ⟨Q, 0, none⟩ = some (.slice (some ⟨b, o, none⟩) rs.length c)) (hQ1 : w.cell? ⟨Q, 1, none⟩ = some (.slice p n1 c1)) (hQ2 : w.cell? ⟨Q, 2, none⟩ = some (.map (some A))) (hQ3 : w.cell? ⟨Q, 3, none⟩ = some (.map (some L))) (hI : w.cell? ⟨I, 0, none⟩ = some (.string id)) (hC : w.cell? ⟨C, 0, none⟩ = some (.int .i64 sc))
    {vl : Value} {l : List Nat} (hl : IntsAt w vl l) (hlv : ∀ x ∈ l, Tn.lvD d x = true) :
    Calls Tryz.prog 105 #[vl, .func (.func 165) #[] #[.pointer (some ⟨Q, 0, none⟩), .pointer (some ⟨I, 0, none⟩), .pointer (some ⟨C, 0, none⟩)]] w fun e w' => e = .returned (.int .i64 (idxI (labQ d id sc had) l)) ∧ Below w.heap.size w w' := by
  have eg : ∀ args w, (callFunc 165 args).run Tryz.prog w = .ok (.enter 165 args) w := enters_of Tryz.func165 (by kernel_rfl) rfl
  obtain ⟨q, cc, rfl, h1, h2, _, hat⟩ := hl.at
  have T : Hid (∀ j (hj : j < l.length), ∃ b o, q = some ⟨b, o, none⟩ ∧ w.cell? ⟨b, o + j, none⟩ = some (.int .i64 (l[j] : Int))) := hat
  have HA : Hid (∀ W, Below w.heap.size w W → ∀ k ∈ l, Calls Tryz.prog 165 #[.int .i64 (k : Int), .pointer (some ⟨Q, 0, none⟩), .pointer (some ⟨I, 0, none⟩), .pointer (some ⟨C, 0, none⟩)] W fun e w' => e = .returned (.bool (labQ d id sc had k)) ∧ Below W.heap.size W w') := fun W hb k hk => by
    have J := keeps_below hb (Nat.le_refl _)
    exact nlab1_any (hx.below hb) (hS.below hb) (J _ _ hQ0) (J _ _ hQ1) (J _ _ hQ2) (J _ _ hQ3) (J _ _ hI) (J _ _ hC) k (hlv k hk)
  clear hat hl hx hS hQ0 hQ1 hQ2 hQ3 hI hC hlv
  generalize labQ d id sc had = p at *
  go_enter Tryz.func105, Tryz.ntmps105
  go_wp2_with fail
  go_loopw [8] (fun i wr => ∃ j : Nat, j ≤ l.length ∧ i = .int .i64 j ∧ Hid (∀ k ∈ l.take j, p k = false) ∧ Below w.heap.size w wr) (fun i _ => l.length - (intOf i).toNat)
  case atStart => exact ⟨0, Nat.zero_le _, rfl, fun k hk => by simp at hk, Below.refl _ _⟩
  case round =>
    obtain ⟨j, hj, rfl, NO, hnx⟩ := hrel
    by_cases hlt : j < l.length
    · obtain ⟨e1, o1, rfl, k1⟩ := T.out j hlt
      have y1 := keeps_below hnx (Nat.le_refl _) _ _ k1
      clear k1
      have hF := HA.out wr hnx l[j] (List.getElem_mem hlt)
      cases hh : p l[j] with
      | true =>
        have E : Hid (idxI p l = (j : Int)) := idxI_some hlt hh NO.out
        rw [hh] at hF
        clear hh
        generalize l[j] = x at *
        go_wp2_with (go_at_call 165; refine hF.mono ?_; rintro e w9 ⟨rfl, hb9⟩)
        go_ret
        exact ⟨by rw [E.out]; rfl, hnx.trans (hb9.mono hnx.size)⟩
      | false =>
        have N2 : Hid (∀ k ∈ l.take (j + 1), p k = false) := by
          intro k hk
          rw [List.take_succ_eq_append_getElem hlt, List.mem_append, List.mem_singleton] at hk
          rcases hk with hk | rfl
          · exact NO.out k hk
          · exact hh
        rw [hh] at hF
        clear hh
        generalize l[j] = x at *
        go_wp2_with (go_at_call 165; refine hF.mono ?_; rintro e w9 ⟨rfl, hb9⟩)
        go_roundw
        case rel => exact ⟨j + 1, by omega, by go_num, N2, hnx.trans (hb9.mono hnx.size)⟩
        case measure => simp [intOf]; omega
    · obtain rfl : j = l.length := by omega
      have E : Hid (idxI p l = -1) := idxI_none (fun k hk => NO.out k (by rw [List.take_length]; exact hk))
      go_wp2_with fail
      go_ret
      exact ⟨by rw [E.out]; rfl, hnx⟩

theorem find_ne {d : Tn.Dc} {n : Nat} {id : ByteArray} (h : findD d (n : Int) id = (n : Int)) : full id = true := by
  unfold findD at h
  split at h
  · omega
  · rename_i q
    unfold full
    cases he : id.toList.isEmpty with
    | true => exact absurd (Or.inl he) q
    | false => rfl
/-- the name of the label that is for it -/
def labR (nm : Nmr) (d : Tn.Dc) (n : Nat) (st : St) : ByteArray × St := match labelFor d (n : Int) st.had with | some k => nm st k true | none => (emB, st)

set_option maxHeartbeats 6400000 in
set_option maxRecDepth 100000 in
theorem nlabel_of {b o c : Nat} {rs : List Raw} {d : Tn.Dc} {p : Option Addr} {cc : Nat} {cl : List Cl} {A L f : Nat} (H : NameC b o c rs d p cc cl A L f) {W : World} {st : St} (hx : Nx W b o c rs d (.slice p cl.length cc) cl) (hS : SetAt W A st.had) (hL : SetAt W L st.lst) (ho : OkS d st) (hf : 61 ≤ f + st.had.length) (n : Nat) (hi : isA (Tn.nd d n).tag [105, 110, 112, 117, 116] = true) :
    Calls Tryz.prog 143 #[.agg #[.slice (some ⟨b, o, none⟩) rs.length c, .slice p cl.length cc, .map (some A), .map (some L)], .int .i64 (n : Int)] W fun e w' =>
      e = .returned (.string (labR (nameF f d cl) d n st).1) ∧ SetAt w' A (labR (nameF f d cl) d n st).2.had ∧ SetAt w' L (labR (nameF f d cl) d n st).2.lst ∧ Bt [A, L] W w' := by
  have hF := hx.cx.fine
  have B1 : Below W.heap.size W (W.alloc (.cells #[.slice (some ⟨b, o, none⟩) rs.length c, .slice p cl.length cc, .map (some A), .map (some L)] 94)) := (Below.refl W.heap.size W).alloc (Nat.le_refl _) _
  have z1 : (W.alloc (.cells #[.slice (some ⟨b, o, none⟩) rs.length c, .slice p cl.length cc, .map (some A), .map (some L)] 94)).heap.size = W.heap.size + 1 := by simp
  have C0 := box4' W (.slice (some ⟨b, o, none⟩) rs.length c) (.slice p cl.length cc) (.map (some A)) (.map (some L)) 94
  have hId := dattr_all (hx.below B1).cx.doc hF.okd (n : Int) ⟨#[105, 100]⟩
  have HF : Hid (Fine d) := hF
  have OK : Hid (Okd d) := hF.okd
  have NX : Hid (Nx W b o c rs d (.slice p cl.length cc) cl) := hx
  have S0 : Hid (SetAt W A st.had) := hS
  have L0 : Hid (SetAt W L st.lst) := hL
  have hFi : Hid (∀ w2, Below W.heap.size W w2 → Calls Tryz.prog 67 #[.slice (some ⟨b, o, none⟩) rs.length c, .int .i64 (n : Int), .string (valN d (n : Int) ⟨#[105, 100]⟩)] w2 fun e w' => e = .returned (.int .i64 (findD d (n : Int) (valN d (n : Int) ⟨#[105, 100]⟩))) ∧ Below w2.heap.size w2 w') := fun w2 hb => dfind_any (NX.out.below hb).cx.doc OK.out.tame OK.out.small OK.out.root OK.out.rise OK.out.few (n : Int) _
  by_cases hfd : findD d (n : Int) (valN d (n : Int) ⟨#[105, 100]⟩) = (n : Int)
  · have hfu := find_ne hfd
    have EL : Hid (labelFor d (n : Int) st.had = (Tn.all Tn.fuel d 0).find? (labQ d (valN d (n : Int) ⟨#[105, 100]⟩) (scopeD d (n : Int)) st.had)) := by
      show _ = _
      unfold labelFor
      rw [if_pos (by rw [Int.toNat_natCast]; simp [hi, hfu, hfd])]
      rfl
    have HLV : Hid (∀ x ∈ Tn.all Tn.fuel d 0, Tn.lvD d x = true) := fun x hx => all_lv HF.out hx
    have HNH : Hid (∀ k, labelFor d (n : Int) st.had = some k → Tn.lvD d k = true ∧ k ∉ st.had) := fun k hk => label_lv HF.out hk
    have RE : Hid (labR (nameF f d cl) d n st = match labelFor d (n : Int) st.had with | some k => nameF f d cl st k true | none => (emB, st)) := rfl
    have NC : Hid (∀ w4 k, Below W.heap.size W w4 → Tn.lvD d k = true → k ∉ st.had → Calls Tryz.prog 71 #[.agg #[.slice (some ⟨b, o, none⟩) rs.length c, .slice p cl.length cc, .map (some A), .map (some L)], .int .i64 (k : Int), .bool true] w4 fun e w' =>
        e = .returned (.string (nameF f d cl st k true).1) ∧ SetAt w' A (nameF f d cl st k true).2.had ∧ SetAt w' L (nameF f d cl st k true).2.lst ∧ Bt [A, L] w4 w') := fun w4 k hb hl hk => H w4 st k true (NX.out.below hb) ((S0.out.below hb).pre k) (L0.out.below hb) ho hf hl hk
    rw [hfd] at hFi
    clear hfd hfu hx hS hL ho hf hF hi H
    generalize labR (nameF f d cl) d n st = RR at *
    generalize (attrN d (n : Int) ⟨#[105, 100]⟩).isSome = vb at *
    generalize valN d (n : Int) ⟨#[105, 100]⟩ = id at *
    go_enter Tryz.func143, Tryz.ntmps143
    obtain ⟨q0, q1, q2, q3⟩ := C0
    go_upto_region 4 with (first
      | (go_at_call 48; refine hId.mono ?_; rintro e w2 ⟨rfl, hb2⟩; have B2 := B1.trans (hb2.mono B1.size); have K2 : Keeps _ (w2.alloc (.cells #[.string id] 9)) := (keeps_below hb2 (Nat.le_refl _)).trans (keeps_alloc _ _); have b0 := K2 _ _ q0; have b1 := K2 _ _ q1; have b2 := K2 _ _ q2; have b3 := K2 _ _ q3; have bi : (w2.alloc (.cells #[.string id] 9)).cell? ⟨w2.heap.size, 0, none⟩ = some (.string id) := cell_box _ _; have BB : Below W.heap.size W (w2.alloc (.cells #[.string id] 9)) := B2.alloc B2.size _; have F2 := hFi.out _ BB)
      | (go_at_call 67; refine F2.mono ?_; rintro e w3 ⟨rfl, hb3⟩))
    have B3 : Below W.heap.size W w3 := BB.trans (hb3.mono BB.size)
    have K3 := keeps_below hb3 (Nat.le_refl _)
    have d0 := K3 _ _ b0
    have d1 := K3 _ _ b1
    have d2 := K3 _ _ b2
    have d3 := K3 _ _ b3
    have di := K3 _ _ bi
    have N3 : Hid (Nx w3 b o c rs d (.slice p cl.length cc) cl) := NX.out.below B3
    clear F2 BB bi b0 b1 b2 b3 K2 hb2 hId hFi q0 q1 q2 q3 K3 hb3 B2
    generalize hI9 : w2.heap.size = I at *
    clear hI9
    have z3 := B3.size
    go_cut [7, 8] from 24 to 30 (fun pv av wx => ∃ C : Nat, pv = .pointer (some ⟨C, 0, none⟩) ∧ (∃ v, av = v ∧ IntsAt wx v (Tn.all Tn.fuel d 0)) ∧ wx.cell? ⟨C, 0, none⟩ = some (.int .i64 (scopeD d (n : Int))) ∧ Below w3.heap.size w3 wx)
    case first =>
      have SS : ∀ w'', Keeps w3 w'' → (fun w'' => w''.cell? ⟨W.heap.size, 0, none⟩ = some (.slice (some ⟨b, o, none⟩) rs.length c)) w'' := fun w'' hk => hk _ _ d0
      have D3 : Hid (DocAt w3 b o c rs d) := N3.out.cx.doc
      have hls := OK.out.small
      have hrt := OK.out.root
      have htm := OK.out.tame
      go_region_held3 (fun w'' => w''.cell? ⟨W.heap.size, 0, none⟩ = some (.slice (some ⟨b, o, none⟩) rs.length c))
        ((apply SS; repeat (first | assumption | exact Keeps.refl _ | apply keeps_drew | apply keeps_alloc' | (refine keeps_set ?_ _ _ (by first | exact Nat.le_refl _ | omega | (simp at *; omega))))))
        (first
          | (go_at_call 103; refine (dscope_any (D3.out.keeps (by (repeat (first | assumption | exact Keeps.refl _ | apply keeps_drew | apply keeps_alloc' | (refine keeps_set ?_ _ _ (by first | exact Nat.le_refl _ | omega | (simp at *; omega))))))) htm (n : Int)).mono ?_; rintro e wa ⟨rfl, hba⟩; have Ja : Keeps w3 wa := Keeps.trans (by (repeat (first | assumption | exact Keeps.refl _ | apply keeps_drew | apply keeps_alloc' | (refine keeps_set ?_ _ _ (by first | exact Nat.le_refl _ | omega | (simp at *; omega)))))) (keeps_below hba (Nat.le_refl _)); have za := hba.size; try (have hxa := bx_newd hba; obtain ⟨xa, fa⟩ := hxa))
          | (go_at_call 104; refine (dall_any (n := 0) (D3.out.keeps (by (repeat (first | assumption | exact Keeps.refl _ | apply keeps_drew | apply keeps_alloc' | (refine keeps_set ?_ _ _ (by first | exact Nat.le_refl _ | omega | (simp at *; omega))))))) htm hls hrt).mono ?_; rintro e wb ⟨v, rfl, hov, hbb⟩; have Jb : Keeps w3 wb := Keeps.trans (by (repeat (first | assumption | exact Keeps.refl _ | apply keeps_drew | apply keeps_alloc' | (refine keeps_set ?_ _ _ (by first | exact Nat.le_refl _ | omega | (simp at *; omega)))))) (keeps_below hbb (Nat.le_refl _)); have zb := hbb.size; first | (have hxb := bx_new hbb; obtain ⟨xb, fb⟩ := hxb) | (have hxb := bx_old hbb xa fa; obtain ⟨xb, fb⟩ := hxb) | (have hxb := bx_set hbb; obtain ⟨xb, fb⟩ := hxb) | (have nobox := trivial)))
      · go_wp2_with fail
        go_meet
        exact ⟨_, rfl, ⟨v, rfl, ints_of_owns (hov.alloc _)⟩, cell_box _ _, ((((Below.refl _ w3).drew : Below w3.heap.size w3 w3.drew).trans (hba.mono (Nat.le_refl _))).trans (hbb.mono za)).alloc (Nat.le_trans za zb) _⟩
      · go_wp2_with fail
        go_meet
        exact ⟨_, rfl, ⟨v, rfl, ints_of_owns (hov.set (by simp) _)⟩, World.cell?_setCell_same _ _ _ xb, (((((Below.refl _ w3).drew : Below w3.heap.size w3 w3.drew).trans (hba.mono (Nat.le_refl _))).alloc za _).trans (hbb.mono (Nat.le_trans za (by simp)))).setCell (p := ⟨wa.heap.size, 0, none⟩) za _⟩
      · go_wp2_with fail
        go_meet
        exact ⟨_, rfl, ⟨v, rfl, ints_of_owns (hov.set (by simp at za; omega) _)⟩, World.cell?_setCell_same _ _ _ xb, ((((Below.refl _ w3).alloc (Nat.le_refl _) _).drew.trans (hba.mono (by simp))).trans (hbb.mono (by simp at za; omega))).setCell (p := ⟨w3.heap.size, 0, none⟩) (Nat.le_refl _) _⟩
    case rest =>
      obtain ⟨C, rfl, ⟨v, rfl, hI⟩, xC, hbc⟩ := hcut
      have Kc := keeps_below hbc (Nat.le_refl _)
      have e0 := Kc _ _ d0
      have e1 := Kc _ _ d1
      have e2 := Kc _ _ d2
      have e3 := Kc _ _ d3
      have Bc : Below W.heap.size W wc := B3.trans (hbc.mono B3.size)
      have IX := nlabIdx_any (N3.out.below hbc).cx (S0.out.below Bc) e0 e1 e2 e3 (Kc _ _ di) xC hI HLV.out
      obtain ⟨pa, ca, rfl, y1, y2, _, hat⟩ := hI.at
      have SB : Hid (SetAt wc A st.had ∧ SetAt wc L st.lst) := ⟨S0.out.below Bc, L0.out.below Bc⟩
      rcases idx_cases (labQ d id (scopeD d (n : Int)) st.had) (Tn.all Tn.fuel d 0) with ⟨x1, x2⟩ | ⟨j, hj, x1, x2⟩
      · have E : Hid (RR = (emB, st)) := by show _ = _; rw [RE.out, EL.out, x2]
        rw [x1] at IX
        clear x1 x2 hat RE EL NC HNH xC di d0 d1 d2 d3 Kc HLV
        generalize scopeD d (n : Int) = sc at *
        generalize labQ d id sc st.had = lq at *
        generalize Tn.all Tn.fuel d 0 = l at *
        go_wp2_with (go_at_call 105; refine IX.mono ?_; rintro e w6 ⟨rfl, hb6⟩)
        go_ret
        rw [E.out]
        exact ⟨rfl, SB.out.1.below hb6, SB.out.2.below hb6, Bt.below (Bc.trans (hb6.mono Bc.size))⟩
      · have E : Hid (RR = nameF f d cl st (Tn.all Tn.fuel d 0)[j] true) := by show _ = _; rw [RE.out, EL.out, x2]
        have hk := HNH.out _ (EL.out.trans x2)
        have NC2 : Hid (∀ w4, Below W.heap.size W w4 → Calls Tryz.prog 71 #[.agg #[.slice (some ⟨b, o, none⟩) rs.length c, .slice p cl.length cc, .map (some A), .map (some L)], .int .i64 ((Tn.all Tn.fuel d 0)[j] : Int), .bool true] w4 fun e w' =>
            e = .returned (.string (nameF f d cl st (Tn.all Tn.fuel d 0)[j] true).1) ∧ SetAt w' A (nameF f d cl st (Tn.all Tn.fuel d 0)[j] true).2.had ∧ SetAt w' L (nameF f d cl st (Tn.all Tn.fuel d 0)[j] true).2.lst ∧ Bt [A, L] w4 w') := fun w4 hb => NC.out w4 _ hb hk.1 hk.2
        obtain ⟨b1, o1, rfl, k0⟩ := hat j hj
        rw [x1] at IX
        clear x1 x2 hat RE EL NC HNH xC di d0 d1 d2 d3 Kc HLV hk
        generalize scopeD d (n : Int) = sc at *
        generalize labQ d id sc st.had = lq at *
        generalize (Tn.all Tn.fuel d 0)[j] = x at *
        generalize Tn.all Tn.fuel d 0 = l at *
        generalize nameF f d cl st x true = R9 at *
        go_upto_region 8 with (go_at_call 105; refine IX.mono ?_; rintro e w6 ⟨rfl, hb6⟩)
        have K6 := keeps_below hb6 (Nat.le_refl _)
        have f0 := K6 _ _ e0
        have f1 := K6 _ _ e1
        have f2 := K6 _ _ e2
        have f3 := K6 _ _ e3
        have fk := K6 _ _ k0
        have B6 : Below W.heap.size W w6 := Bc.trans (hb6.mono Bc.size)
        clear IX K6 e0 e1 e2 e3 k0
        go_region_with (first
          | (go_at_call 71; refine (NC2.out _ (B6.trans ((Below.refl _ w6).drew.mono B6.size))).mono ?_; rintro e w7 ⟨rfl, h7, h8, h9⟩))
        all_goals
          go_wp2_with fail
          go_ret
          rw [E.out]
          exact ⟨rfl, h7, h8, (Bt.below (B6.trans ((Below.refl _ w6).drew.mono B6.size))).trans h9⟩
  · have RE : Hid (labR (nameF f d cl) d n st = (emB, st)) := by
      show _ = _
      unfold labR labelFor
      rw [if_neg (by rw [Int.toNat_natCast]; simp [hfd])]
    rw [RE.out]
    have hq : (findD d (n : Int) (valN d (n : Int) ⟨#[105, 100]⟩) == (n : Int)) = false := by simpa using hfd
    have hq2 : (findD d (n : Int) (valN d (n : Int) ⟨#[105, 100]⟩) != (n : Int)) = true := by simpa using hfd
    clear hx hS hL ho hf hF hi H RE hfd
    generalize findD d (n : Int) (valN d (n : Int) ⟨#[105, 100]⟩) = fd at *
    generalize (attrN d (n : Int) ⟨#[105, 100]⟩).isSome = vb at *
    generalize valN d (n : Int) ⟨#[105, 100]⟩ = id at *
    obtain ⟨q0, q1, q2, q3⟩ := C0
    go_enter Tryz.func143, Tryz.ntmps143
    go_wp2_with (first
      | (go_at_call 48; refine hId.mono ?_; rintro e w2 ⟨rfl, hb2⟩; have B2 := B1.trans (hb2.mono B1.size); have K2 : Keeps _ (w2.alloc (.cells #[.string id] 9)) := (keeps_below hb2 (Nat.le_refl _)).trans (keeps_alloc _ _); have b0 := K2 _ _ q0; have bi : (w2.alloc (.cells #[.string id] 9)).cell? ⟨w2.heap.size, 0, none⟩ = some (.string id) := cell_box _ _; have BB : Below W.heap.size W (w2.alloc (.cells #[.string id] 9)) := B2.alloc B2.size _; have F2 := hFi.out _ BB)
      | (go_at_call 67; refine F2.mono ?_; rintro e w3 ⟨rfl, hb3⟩))
    go_ret
    have B3 : Below W.heap.size W w3 := BB.trans (hb3.mono BB.size)
    exact ⟨rfl, S0.out.below B3, L0.out.below B3, Bt.below B3⟩
end Go.Proofs.YtbinbojicmhdlaeGreatDoor

/-
  THE WALK of naming's elementName.
-/
namespace Go.Proofs.YtbinbojicmhdlaeGreatDoor
open Go.RowKit Go.Maps

/-! ### the name, step by step -/
def n2D (a lab : ByteArray) : ByteArray := if full a = true then a else lab
def n3D (a alt : ByteArray) (img : Bool) : ByteArray := if full a = false ∧ img = true then alt else a
def s4D (nm : Nmr) (d : Tn.Dc) (n : Nat) (a : ByteArray) (s : St) : ByteArray × St := if full a = false ∧ isA (Tn.nd d n).tag [105, 110, 112, 117, 116] = true then labR nm d n s else (a, s)
def s5D (nm : Nmr) (d : Tn.Dc) (c : List Cl) (n : Nat) (fo : Bool) (b : ByteArray × St) : ByteArray × St := if full b.1 = false ∧ (fo || contentI (roleD d (n : Int))) = true then joinF (eachF (fun s k => nm s k true) ((insideD d c (n : Int)).map Int.ofNat) ([], b.2)) else b
def s6D (a ti : ByteArray) : ByteArray := if full a = true then a else ti

theorem img_input {t : ByteArray} (h : isA t [105, 109, 103] = true) : isA t [105, 110, 112, 117, 116] = false := by
  unfold isA at *
  rw [beq_iff_eq] at h
  rw [h]
  decide

theorem tail_steps (nm : Nmr) (d : Tn.Dc) (c : List Cl) (n : Nat) (fo : Bool) (a : ByteArray × St) :
    tailA nm d c n fo a = if full (n2D a.1 (saidN d (n : Int) ⟨#[97, 114, 105, 97, 45, 108, 97, 98, 101, 108]⟩)) = false ∧ fo = true ∧ roleD d (n : Int) = 12 then (saidN d (n : Int) ⟨#[118, 97, 108, 117, 101]⟩, a.2)
      else (s6D (s5D nm d c n fo (s4D nm d n (n3D (n2D a.1 (saidN d (n : Int) ⟨#[97, 114, 105, 97, 45, 108, 97, 98, 101, 108]⟩)) (saidN d (n : Int) ⟨#[97, 108, 116]⟩) (isA (Tn.nd d n).tag [105, 109, 103])) a.2)).1 (saidN d (n : Int) ⟨#[116, 105, 116, 108, 101]⟩),
        (s5D nm d c n fo (s4D nm d n (n3D (n2D a.1 (saidN d (n : Int) ⟨#[97, 114, 105, 97, 45, 108, 97, 98, 101, 108]⟩)) (saidN d (n : Int) ⟨#[97, 108, 116]⟩) (isA (Tn.nd d n).tag [105, 109, 103])) a.2)).2) := by
  unfold tailA
  generalize saidN d (n : Int) ⟨#[97, 114, 105, 97, 45, 108, 97, 98, 101, 108]⟩ = lab
  have tailF : ∀ s : ByteArray × St, full s.1 = true → s6D (s5D nm d c n fo s).1 (saidN d (n : Int) ⟨#[116, 105, 116, 108, 101]⟩) = s.1 ∧ (s5D nm d c n fo s).2 = s.2 := fun s h => by
    unfold s5D
    rw [if_neg (by simp [h])]
    exact ⟨by unfold s6D; rw [if_pos h], rfl⟩
  have s4F : ∀ (x : ByteArray) (s : St), full x = true → s4D nm d n x s = (x, s) := fun x s h => by
    unfold s4D
    rw [if_neg (by simp [h])]
  have n3F : ∀ (x : ByteArray), full x = true → n3D x (saidN d (n : Int) ⟨#[97, 108, 116]⟩) (isA (Tn.nd d n).tag [105, 109, 103]) = x := fun x h => by
    unfold n3D
    rw [if_neg (by simp [h])]
  have tailN : ∀ s : ByteArray × St, full s.1 = false → tailC d n (stepC nm d c n fo s.2) = (s6D (s5D nm d c n fo s).1 (saidN d (n : Int) ⟨#[116, 105, 116, 108, 101]⟩), (s5D nm d c n fo s).2) := fun s h => by
    by_cases q : (fo || contentI (roleD d (n : Int))) = true
    · have e1 : s5D nm d c n fo s = joinF (eachF (fun s k => nm s k true) ((insideD d c (n : Int)).map Int.ofNat) ([], s.2)) := by unfold s5D; rw [if_pos ⟨h, q⟩]
      have e2 : stepC nm d c n fo s.2 = joinF (eachF (fun s k => nm s k true) ((insideD d c (n : Int)).map Int.ofNat) ([], s.2)) := by unfold stepC; rw [if_pos q]
      rw [e1, e2]
      unfold tailC s6D
      split <;> rfl
    · have e1 : s5D nm d c n fo s = s := by unfold s5D; rw [if_neg (fun e => q e.2)]
      have e2 : stepC nm d c n fo s.2 = (emB, s.2) := by unfold stepC; rw [if_neg q]
      rw [e1, e2]
      unfold tailC s6D
      rw [if_neg (by simp [em_full]), if_neg (by simp [h])]
  by_cases h1 : full a.1 = true
  · have e : n2D a.1 lab = a.1 := by unfold n2D; rw [if_pos h1]
    rw [if_pos h1, e, if_neg (by simp [h1]), n3F _ h1, s4F _ _ h1]
    obtain ⟨t1, t2⟩ := tailF (a.1, a.2) h1
    rw [t1, t2]
  · have e : n2D a.1 lab = lab := by unfold n2D; rw [if_neg h1]
    rw [if_neg h1, e]
    by_cases h2 : full lab = true
    · rw [if_pos h2, if_neg (by simp [h2]), n3F _ h2, s4F _ _ h2]
      obtain ⟨t1, t2⟩ := tailF (lab, a.2) h2
      rw [t1, t2]
    · have h2' : full lab = false := by simpa using h2
      rw [if_neg h2]
      by_cases h3 : roleD d (n : Int) = 12 ∧ fo = true
      · rw [if_pos h3, if_pos ⟨h2', h3.2, h3.1⟩]
      · rw [if_neg h3, if_neg (fun e => h3 ⟨e.2.2, e.2.1⟩)]
        unfold tailB stepB
        by_cases h4 : isA (Tn.nd d n).tag [105, 109, 103] = true
        · have e3 : n3D lab (saidN d (n : Int) ⟨#[97, 108, 116]⟩) (isA (Tn.nd d n).tag [105, 109, 103]) = saidN d (n : Int) ⟨#[97, 108, 116]⟩ := by unfold n3D; rw [if_pos ⟨h2', h4⟩]
          have e4 : s4D nm d n (saidN d (n : Int) ⟨#[97, 108, 116]⟩) a.2 = (saidN d (n : Int) ⟨#[97, 108, 116]⟩, a.2) := by unfold s4D; rw [if_neg (by simp [img_input h4])]
          rw [if_pos h4, e3, e4]
          by_cases h5 : full (saidN d (n : Int) ⟨#[97, 108, 116]⟩) = true
          · rw [if_pos h5]
            obtain ⟨t1, t2⟩ := tailF (saidN d (n : Int) ⟨#[97, 108, 116]⟩, a.2) h5
            rw [t1, t2]
          · rw [if_neg h5]
            exact tailN (saidN d (n : Int) ⟨#[97, 108, 116]⟩, a.2) (by simpa using h5)
        · have e3 : n3D lab (saidN d (n : Int) ⟨#[97, 108, 116]⟩) (isA (Tn.nd d n).tag [105, 109, 103]) = lab := by unfold n3D; rw [if_neg (fun e => h4 e.2)]
          rw [if_neg h4, e3]
          by_cases h5 : isA (Tn.nd d n).tag [105, 110, 112, 117, 116] = true
          · have e4 : s4D nm d n lab a.2 = labR nm d n a.2 := by unfold s4D; rw [if_pos ⟨h2', h5⟩]
            rw [e4]
            show (if full (labR nm d n a.2).1 = true then labR nm d n a.2 else tailC d n (stepC nm d c n fo (labR nm d n a.2).2)) = _
            by_cases h6 : full (labR nm d n a.2).1 = true
            · rw [if_pos h6]
              obtain ⟨t1, t2⟩ := tailF (labR nm d n a.2) h6
              rw [t1, t2]
            · rw [if_neg h6]
              exact tailN _ (by simpa using h6)
          · have e4 : s4D nm d n lab a.2 = (lab, a.2) := by unfold s4D; rw [if_neg (fun e => h5 e.2)]
            have e5 : labelFor d (n : Int) a.2.had = none := by
              unfold labelFor
              rw [if_neg (by rw [Int.toNat_natCast]; simp [h5])]
            rw [e4, e5]
            show (if full emB = true then (emB, a.2) else tailC d n (stepC nm d c n fo a.2)) = _
            rw [if_neg (by simp [em_full])]
            exact tailN (lab, a.2) h2'

theorem field_content (x0 x1 x2 x3 x4 x5 x6 : Value) (w : World) : (Instr.field 49 (.agg #[x0, x1, x2, x3, x4, x5, x6]) 1).run Tryz.prog w = .ok x1 w := by kernel_rfl
theorem lab_went {d : Tn.Dc} (hF : Fine d) {m : Nat} {nm : Nmr} (hN : Nok d m nm) (n : Nat) (x : ByteArray) {st : St} (ho : OkS d st) (hm : m ≤ st.had.length) : Went d st (s4D nm d n x st).2 := by
  unfold s4D
  split
  · unfold labR
    split
    · rename_i k hk
      have hl := label_lv hF hk
      exact (hN st k true ho hm hl.1 hl.2).went
    · exact Went.refl ho
  · exact Went.refl ho
/-- the sets are as told, and nothing else was written -/
def AtS (A L : Nat) (w1 w : World) (s : St) : Prop := SetAt w A s.had ∧ SetAt w L s.lst ∧ Bt [A, L] w1 w
theorem AtS.below {A L : Nat} {w1 w w' : World} {s : St} (h : AtS A L w1 w s) (hb : Below w.heap.size w w') : AtS A L w1 w' s := ⟨h.1.below hb, h.2.1.below hb, h.2.2.trans (Bt.below hb)⟩
theorem AtS.then {A L : Nat} {w1 w w' : World} {s t : St} (h : AtS A L w1 w s) (k : AtS A L w w' t) : AtS A L w1 w' t := ⟨k.1, k.2.1, h.2.2.trans k.2.2⟩
theorem full_no {s : ByteArray} (h : s.toList.isEmpty = true) : full s = false := by unfold full; rw [h]; rfl
theorem full_yes {s : ByteArray} (h : s.toList.isEmpty = false) : full s = true := by unfold full; rw [h]; rfl

set_option maxHeartbeats 12800000 in
set_option maxRecDepth 100000 in
theorem nelem_of {b o c : Nat} {rs : List Raw} {d : Tn.Dc} {p : Option Addr} {cc : Nat} {cl : List Cl} {A L f : Nat} (H : NameC b o c rs d p cc cl A L f) (hne : A ≠ L) {W : World} {st : St} (hx : Nx W b o c rs d (.slice p cl.length cc) cl) (hS : SetAt W A st.had) (hL : SetAt W L st.lst) (ho : OkS d st) (hf : 61 ≤ f + st.had.length) (n : Nat) (hn : Tn.lvD d n = true) (fo : Bool) :
    Calls Tryz.prog 113 #[.agg #[.slice (some ⟨b, o, none⟩) rs.length c, .slice p cl.length cc, .map (some A), .map (some L)], .int .i64 (n : Int), .bool fo] W fun e w' =>
      e = .returned (.string (tailA (nameF f d cl) d cl n fo (stepA (nameF f d cl) d cl n fo st)).1) ∧ SetAt w' A (tailA (nameF f d cl) d cl n fo (stepA (nameF f d cl) d cl n fo st)).2.had ∧ SetAt w' L (tailA (nameF f d cl) d cl n fo (stepA (nameF f d cl) d cl n fo st)).2.lst ∧ Bt [A, L] W w' := by
  have hF := hx.cx.fine
  have B1 : Below W.heap.size W (W.alloc (.cells #[.slice (some ⟨b, o, none⟩) rs.length c, .slice p cl.length cc, .map (some A), .map (some L)] 94)) := (Below.refl W.heap.size W).alloc (Nat.le_refl _) _
  have z1 : (W.alloc (.cells #[.slice (some ⟨b, o, none⟩) rs.length c, .slice p cl.length cc, .map (some A), .map (some L)] 94)).heap.size = W.heap.size + 1 := by simp
  have C0 := box4' W (.slice (some ⟨b, o, none⟩) rs.length c) (.slice p cl.length cc) (.map (some A)) (.map (some L)) 94
  have HF : Hid (Fine d) := hF
  have NOK : Hid (Nok d (61 - f) (nameF f d cl)) := name_ok hF hx.cx.vn hx.vt hx.forest f
  have HFO : Hid (Forest d cl) := hx.forest
  have VN : Hid (∀ j, Vn (Tn.nd d j)) := hx.cx.vn
  have hnn := Tn.lv_lt hn
  have hdl := hF.good.len.2
  have hrl : rs.length ≤ 1000 := by rw [hx.cx.doc.len]; omega
  have hnl : n < rs.length := by rw [hx.cx.doc.len]; exact hnn
  -- all that is there wherever the sets stand so
  have NX : Hid (∀ w, Bt [A, L] (W.alloc (.cells #[.slice (some ⟨b, o, none⟩) rs.length c, .slice p cl.length cc, .map (some A), .map (some L)] 94)) w → Nx w b o c rs d (.slice p cl.length cc) cl) := fun w hw => (hx.below B1).bt hw (maps2 (hS.below B1) (hL.below B1))
  have KX : Hid (∀ w, Bt [A, L] (W.alloc (.cells #[.slice (some ⟨b, o, none⟩) rs.length c, .slice p cl.length cc, .map (some A), .map (some L)] 94)) w → w.cell? ⟨W.heap.size, 0, none⟩ = some (.slice (some ⟨b, o, none⟩) rs.length c) ∧ w.cell? ⟨W.heap.size, 1, none⟩ = some (.slice p cl.length cc) ∧ w.cell? ⟨W.heap.size, 2, none⟩ = some (.map (some A)) ∧ w.cell? ⟨W.heap.size, 3, none⟩ = some (.map (some L)) ∧ w.cell? ⟨b, o + n * 9 + 1, none⟩ = some (.string (Tn.nd d n).tag)) := fun w hw => by
    have K := hw.keeps (maps2 (hS.below B1) (hL.below B1))
    exact ⟨K _ _ C0.1, K _ _ C0.2.1, K _ _ C0.2.2.1, K _ _ C0.2.2.2, K _ _ (tag_cell (hx.below B1).cx.doc hn).1⟩
  have A1 : Hid (AtS A L (W.alloc (.cells #[.slice (some ⟨b, o, none⟩) rs.length c, .slice p cl.length cc, .map (some A), .map (some L)] 94)) (W.alloc (.cells #[.slice (some ⟨b, o, none⟩) rs.length c, .slice p cl.length cc, .map (some A), .map (some L)] 94)) st) := ⟨hS.below B1, hL.below B1, Bt.refl _ _⟩
  have HB1 : Hid (Below W.heap.size W (W.alloc (.cells #[.slice (some ⟨b, o, none⟩) rs.length c, .slice p cl.length cc, .map (some A), .map (some L)] 94))) := B1
  have LST : Hid (∀ w, AtS A L (W.alloc (.cells #[.slice (some ⟨b, o, none⟩) rs.length c, .slice p cl.length cc, .map (some A), .map (some L)] 94)) w st → Calls Tryz.prog 114 #[.agg #[.slice (some ⟨b, o, none⟩) rs.length c, .slice p cl.length cc, .map (some A), .map (some L)], .int .i64 (n : Int), .string ⟨#[97, 114, 105, 97, 45, 108, 97, 98, 101, 108, 108, 101, 100, 98, 121]⟩] w fun e w' =>
      e = .returned (.string (listD (nameF f d cl) d cl (n : Int) ⟨#[97, 114, 105, 97, 45, 108, 97, 98, 101, 108, 108, 101, 100, 98, 121]⟩ st).1) ∧ AtS A L w w' (listD (nameF f d cl) d cl (n : Int) ⟨#[97, 114, 105, 97, 45, 108, 97, 98, 101, 108, 108, 101, 100, 98, 121]⟩ st).2) := fun w h => nlisted_of H hne (NX.out w h.2.2) h.1 h.2.1 ho hf (n : Int) _
  have LAB : Hid (∀ w s, AtS A L (W.alloc (.cells #[.slice (some ⟨b, o, none⟩) rs.length c, .slice p cl.length cc, .map (some A), .map (some L)] 94)) w s → OkS d s → 61 ≤ f + s.had.length → isA (Tn.nd d n).tag [105, 110, 112, 117, 116] = true → Calls Tryz.prog 143 #[.agg #[.slice (some ⟨b, o, none⟩) rs.length c, .slice p cl.length cc, .map (some A), .map (some L)], .int .i64 (n : Int)] w fun e w' =>
      e = .returned (.string (labR (nameF f d cl) d n s).1) ∧ AtS A L w w' (labR (nameF f d cl) d n s).2) := fun w s h h1 h2 h3 => nlabel_of H (NX.out w h.2.2) h.1 h.2.1 h1 h2 n h3
  have KID : Hid (∀ w, Nx w b o c rs d (.slice p cl.length cc) cl → Calls Tryz.prog 140 #[.slice (some ⟨b, o, none⟩) rs.length c, .slice p cl.length cc, .int .i64 (n : Int)] w fun e w' => ∃ v, e = .returned v ∧ OwnI w' w.heap.size v (insideD d cl (n : Int)) ∧ Below w.heap.size w w') := fun w h => vkids_any h.cx.doc h.cx.fine.okd h.cls (by have := forest_few HF.out HFO.out; omega) (n : Int)
  have NMS : Hid (∀ w s v, AtS A L (W.alloc (.cells #[.slice (some ⟨b, o, none⟩) rs.length c, .slice p cl.length cc, .map (some A), .map (some L)] 94)) w s → IntsAt w v (insideD d cl (n : Int)) → OkS d s → 61 ≤ f + s.had.length → Calls Tryz.prog 144 #[.agg #[.slice (some ⟨b, o, none⟩) rs.length c, .slice p cl.length cc, .map (some A), .map (some L)], v] w fun e w' =>
      e = .returned (.string (joinF (eachF (fun s k => nameF f d cl s k true) ((insideD d cl (n : Int)).map Int.ofNat) ([], s))).1) ∧ AtS A L w w' (joinF (eachF (fun s k => nameF f d cl s k true) ((insideD d cl (n : Int)).map Int.ofNat) ([], s))).2) := fun w s v h hv h1 h2 => by
    obtain ⟨pv, cv, rfl, y1, y2, _⟩ := hv.at
    exact nnames_of H (NX.out w h.2.2) h.1 h.2.1 h1 h2 (zs_of_ints hv) (fun k hk => ⟨by
      obtain ⟨x, _, e⟩ := List.mem_map.mp hk
      have e : (x : Int) = k := e
      omega, fun j e => ins_lv HF.out HFO.out n k hk j e⟩) (by
        have h9 := inside_cap HF.out HFO.out (n : Int)
        rw [List.length_map]
        omega)
  have SAI : Hid (∀ w name, Nx w b o c rs d (.slice p cl.length cc) cl → Calls Tryz.prog 115 #[.agg #[.slice (some ⟨b, o, none⟩) rs.length c, .slice p cl.length cc, .map (some A), .map (some L)], .int .i64 (n : Int), .string name] w fun e w' => e = .returned (.string (saidN d (n : Int) name)) ∧ Below w.heap.size w w') := fun w name h => nsaid_any h.cx (some A) (some L) p cl.length cc (n : Int) name
  have ROL : Hid (∀ w, Nx w b o c rs d (.slice p cl.length cc) cl → Calls Tryz.prog 40 #[.slice (some ⟨b, o, none⟩) rs.length c, .int .i64 (n : Int)] w fun e w' => e = .returned (.int .i64 (roleD d (n : Int))) ∧ Below w.heap.size w w') := fun w h => oof_any h.cx (n : Int)
  have KIN : Hid (∀ w (r : Int), Nx w b o c rs d (.slice p cl.length cc) cl → Calls Tryz.prog 41 #[.int .i64 r] w fun e w' => ∃ nm x1 x2 x3 x5 z, e = .returned (.agg #[.string nm, .bool (contentI r), .bool x1, .bool x2, .bool x3, .bool x5, .int .i64 z]) ∧ Below w.heap.size w w') := fun w r h => (Kn.of_any h.cx.tab r).mono (by
    rintro e w' ⟨rfl, h⟩
    exact ⟨_, _, _, _, _, _, rfl, h⟩)
  have W2 : Hid (Went d st (stepA (nameF f d cl) d cl n fo st).2) := (stepA_went HF.out HFO.out NOK.out n fo ho (by omega)).1
  have ST0 : Hid (OkS d st ∧ 61 ≤ f + st.had.length) := ⟨ho, hf⟩
  have FU : Hid (61 ≤ f + st.had.length) := hf
  have TS := tail_steps (nameF f d cl) d cl n fo (stepA (nameF f d cl) d cl n fo st)
  have EA : Hid (stepA (nameF f d cl) d cl n fo st = if fo = true then (emB, st) else listD (nameF f d cl) d cl (n : Int) ⟨#[97, 114, 105, 97, 45, 108, 97, 98, 101, 108, 108, 101, 100, 98, 121]⟩ st) := rfl
  have fields := field_content
  clear hx hS hL ho hf hne H B1 C0 hF
  have HTS : Hid (tailA (nameF f d cl) d cl n fo (stepA (nameF f d cl) d cl n fo st) = _) := TS
  clear TS
  generalize hRR : tailA (nameF f d cl) d cl n fo (stepA (nameF f d cl) d cl n fo st) = RR at *
  generalize stepA (nameF f d cl) d cl n fo st = s1 at *
  go_enter Tryz.func113, Tryz.ntmps113
  go_upto_region 1 with fail
  generalize W.alloc (.cells #[.slice (some ⟨b, o, none⟩) rs.length c, .slice p cl.length cc, .map (some A), .map (some L)] 94) = w1 at *
  have RO1 := ROL.out w1 (NX.out w1 (Bt.refl _ _))
  have K1 := KX.out w1 (Bt.refl _ _)
  obtain ⟨k0, k1, k2, k3, k4⟩ := K1
  generalize hro : roleD d (n : Int) = ro at *
  go_upto_if 14 with (go_at_call 40; refine RO1.mono ?_; rintro e w2 ⟨rfl, hb2⟩)
  have A2 : Hid (AtS A L w1 w2 st) := A1.out.below hb2
  clear RO1 hb2 A1 k0 k1 k2 k3 k4
  -- names that it lists
  go_cut [8] from 15 to 17 (fun v wc => v = .string s1.1 ∧ AtS A L w1 wc s1.2)
  case first =>
    have K2 := KX.out w2 A2.out.2.2
    obtain ⟨k0, k1, k2, k3, k4⟩ := K2
    cases fo with
    | true =>
      have e : s1 = (emB, st) := by rw [EA.out, if_pos rfl]
      go_wp2_with fail
      go_meet
      rw [e]
      exact ⟨rfl, A2.out⟩
    | false =>
      have e : s1 = listD (nameF f d cl) d cl (n : Int) ⟨#[97, 114, 105, 97, 45, 108, 97, 98, 101, 108, 108, 101, 100, 98, 121]⟩ st := by rw [EA.out, if_neg (by simp)]
      have LS := LST.out w2 A2.out
      rw [← e] at LS
      clear e
      go_wp2_with (go_at_call 114; refine LS.mono ?_; rintro e w3 ⟨rfl, h3⟩)
      go_meet
      exact ⟨rfl, A2.out.then h3⟩
  case rest =>
  obtain ⟨rfl, hA3⟩ := hcut
  have A3 : Hid (AtS A L w1 wc s1.2) := hA3
  clear hA3 A2 LST EA ST0
  generalize hq1 : saidN d (n : Int) ⟨#[97, 114, 105, 97, 45, 108, 97, 98, 101, 108]⟩ = lab at *
  -- or else its label
  go_upto_if 19 with fail
  go_cut [8] from 18 to 22 (fun v wd => v = .string (n2D s1.1 lab) ∧ AtS A L w1 wd s1.2)
  case first =>
    have K2 := KX.out wc A3.out.2.2
    obtain ⟨k0, k1, k2, k3, k4⟩ := K2
    have SA := SAI.out wc ⟨#[97, 114, 105, 97, 45, 108, 97, 98, 101, 108]⟩ (NX.out wc A3.out.2.2)
    rw [hq1] at SA
    cases hs : s1.1.toList.isEmpty with
    | true =>
      have e : n2D s1.1 lab = lab := by unfold n2D; rw [if_neg (by simp [full_no hs])]
      have E : Hid (n2D s1.1 lab = lab) := e
      clear e HTS
      go_wp2_with (go_at_call 115; refine SA.mono ?_; rintro e w3 ⟨rfl, hb3⟩)
      go_meet
      exact ⟨by rw [E.out], A3.out.below hb3⟩
    | false =>
      have e : n2D s1.1 lab = s1.1 := by unfold n2D; rw [if_pos (full_yes hs)]
      have E : Hid (n2D s1.1 lab = s1.1) := e
      clear e HTS
      go_wp2_with fail
      go_meet
      exact ⟨by rw [E.out], A3.out⟩
  case rest =>
  obtain ⟨rfl, hA4⟩ := hcut
  have A4 : Hid (AtS A L w1 wc s1.2) := hA4
  clear hA4 A3 hq1
  generalize n2D s1.1 lab = x2 at *
  generalize hq2 : saidN d (n : Int) ⟨#[118, 97, 108, 117, 101]⟩ = va at *
  -- a box's value, for another one's name
  go_upto_region 7 with fail
  go_cut [31] from 23 to 30 (fun tv wd => tv = .bool (!full x2 && fo && decide (ro = 12)) ∧ wd = wc)
  case first =>
    cases hs : x2.toList.isEmpty with
    | false =>
      have e := full_yes hs
      go_wp2_with fail
      go_meet
      exact ⟨by simp [e], rfl⟩
    | true =>
      have e := full_no hs
      cases fo with
      | false =>
        go_wp2_with fail
        go_meet
        exact ⟨by simp, rfl⟩
      | true =>
        by_cases h12 : ro = 12
        · subst h12
          go_wp2_with fail
          go_meet
          exact ⟨by simp [e], rfl⟩
        · have h14 : (ro == 12) = false := by simp [h12]
          go_wp2_with fail
          go_meet
          exact ⟨by simp [h12], rfl⟩
  case rest =>
  obtain ⟨rfl, rfl⟩ := hcut
  have K4 := KX.out wc A4.out.2.2
  obtain ⟨k0, k1, k2, k3, k4⟩ := K4
  cases hbx : (!full x2 && fo && decide (ro = 12)) with
  | true =>
    have hb9 : full x2 = false ∧ fo = true ∧ ro = 12 := by simpa [and_assoc] using hbx
    have SA := SAI.out wc ⟨#[118, 97, 108, 117, 101]⟩ (NX.out wc A4.out.2.2)
    rw [hq2] at SA
    have E : Hid (RR = (va, s1.2)) := by show _ = _; rw [HTS.out, if_pos hb9]
    clear HTS hb9
    go_wp2_with (go_at_call 115; refine SA.mono ?_; rintro e w3 ⟨rfl, hb3⟩)
    go_ret
    have A9 := A4.out.below hb3
    rw [E.out]
    exact ⟨rfl, A9.1, A9.2.1, (Bt.below HB1.out).trans A9.2.2⟩
  | false =>
  have hno : ¬ (full x2 = false ∧ fo = true ∧ ro = 12) := fun h => by
    rw [h.1, h.2.1, h.2.2] at hbx
    simp at hbx
  have HT2 : Hid (RR = (s6D (s5D (nameF f d cl) d cl n fo (s4D (nameF f d cl) d n (n3D x2 (saidN d (n : Int) ⟨#[97, 108, 116]⟩) (isA (Tn.nd d n).tag [105, 109, 103])) s1.2)).1 (saidN d (n : Int) ⟨#[116, 105, 116, 108, 101]⟩), (s5D (nameF f d cl) d cl n fo (s4D (nameF f d cl) d n (n3D x2 (saidN d (n : Int) ⟨#[97, 108, 116]⟩) (isA (Tn.nd d n).tag [105, 109, 103])) s1.2)).2)) := by show _ = _; rw [HTS.out, if_neg hno]
  clear hq2 HTS hno
  generalize hq3 : saidN d (n : Int) ⟨#[97, 108, 116]⟩ = alt at *
  -- of an img alt
  go_upto_region 9 with fail
  clear hbx
  go_cut [45] from 35 to 44 (fun tv wd => tv = .bool (!full x2 && isA (Tn.nd d n).tag [105, 109, 103]) ∧ wd = wc)
  case first =>
    cases hs : x2.toList.isEmpty with
    | false =>
      have e := full_yes hs
      clear HT2
      go_wp2_with fail
      go_meet
      exact ⟨by simp [e], rfl⟩
    | true =>
      have e := full_no hs
      obtain ⟨bi, hm⟩ : ∃ bi, isA (Tn.nd d n).tag [105, 109, 103] = bi := ⟨_, rfl⟩
      have hm' : ((Tn.nd d n).tag.toList == [105, 109, 103]) = bi := hm
      clear HT2
      have HM : Hid (isA (Tn.nd d n).tag [105, 109, 103] = bi) := hm
      clear hm
      cases bi <;> (go_wp2_with fail; go_meet; exact ⟨by rw [HM.out]; simp [e], rfl⟩)
  case rest =>
  obtain ⟨rfl, rfl⟩ := hcut
  go_upto_if 45 with fail
  go_cut [8] from 45 to 48 (fun v wd => v = .string (n3D x2 alt (isA (Tn.nd d n).tag [105, 109, 103])) ∧ AtS A L w1 wd s1.2)
  case first =>
    have SA := SAI.out wc ⟨#[97, 108, 116]⟩ (NX.out wc A4.out.2.2)
    rw [hq3] at SA
    cases hbx : (!full x2 && isA (Tn.nd d n).tag [105, 109, 103]) with
    | true =>
      have hb9 : full x2 = false ∧ isA (Tn.nd d n).tag [105, 109, 103] = true := by simpa using hbx
      have E : Hid (n3D x2 alt (isA (Tn.nd d n).tag [105, 109, 103]) = alt) := by show _ = _; unfold n3D; rw [if_pos hb9]
      clear hb9 HT2
      go_wp2_with (go_at_call 115; refine SA.mono ?_; rintro e w3 ⟨rfl, hb3⟩)
      go_meet
      exact ⟨by rw [E.out], A4.out.below hb3⟩
    | false =>
      have E : Hid (n3D x2 alt (isA (Tn.nd d n).tag [105, 109, 103]) = x2) := by show _ = _; unfold n3D; rw [if_neg (fun h => by rw [h.1, h.2] at hbx; simp at hbx)]
      clear HT2
      go_wp2_with fail
      go_meet
      exact ⟨by rw [E.out], A4.out⟩
  case rest =>
  obtain ⟨rfl, hA6⟩ := hcut
  have A6 : Hid (AtS A L w1 wc s1.2) := hA6
  clear hA6 A4 hq3 k0 k1 k2 k3 k4
  generalize n3D x2 alt (isA (Tn.nd d n).tag [105, 109, 103]) = x3 at *
  have Z1 : Hid (OkS d s1.2 ∧ 61 ≤ f + s1.2.had.length) := ⟨W2.out.ok, by have h1 := W2.out.len; exact Nat.le_trans FU.out (Nat.add_le_add_left h1 f)⟩
  have R4 : Hid (full x3 = false ∧ isA (Tn.nd d n).tag [105, 110, 112, 117, 116] = true → s4D (nameF f d cl) d n x3 s1.2 = labR (nameF f d cl) d n s1.2) := fun h => by unfold s4D; rw [if_pos h]
  have R4n : Hid (¬ (full x3 = false ∧ isA (Tn.nd d n).tag [105, 110, 112, 117, 116] = true) → s4D (nameF f d cl) d n x3 s1.2 = (x3, s1.2)) := fun h => by unfold s4D; rw [if_neg h]
  have W4 : Hid (Went d s1.2 (s4D (nameF f d cl) d n x3 s1.2).2) := lab_went HF.out NOK.out n x3 Z1.out.1 (by have := Z1.out.2; omega)
  generalize s4D (nameF f d cl) d n x3 s1.2 = s4 at *
  have K6 := KX.out wc A6.out.2.2
  obtain ⟨k0, k1, k2, k3, k4⟩ := K6
  -- of an input its label's name
  go_upto_region 11 with fail
  go_cut [59] from 49 to 58 (fun tv wd => tv = .bool (!full x3 && isA (Tn.nd d n).tag [105, 110, 112, 117, 116]) ∧ wd = wc)
  case first =>
    cases hs : x3.toList.isEmpty with
    | false =>
      have e := full_yes hs
      clear HT2 R4 R4n LAB
      go_wp2_with fail
      go_meet
      exact ⟨by simp [e], rfl⟩
    | true =>
      have e := full_no hs
      obtain ⟨bi, hm⟩ : ∃ bi, isA (Tn.nd d n).tag [105, 110, 112, 117, 116] = bi := ⟨_, rfl⟩
      have hm' : ((Tn.nd d n).tag.toList == [105, 110, 112, 117, 116]) = bi := hm
      clear HT2 R4 R4n LAB
      have HM : Hid (isA (Tn.nd d n).tag [105, 110, 112, 117, 116] = bi) := hm
      clear hm
      cases bi <;> (go_wp2_with fail; go_meet; exact ⟨by rw [HM.out]; simp [e], rfl⟩)
  case rest =>
  obtain ⟨rfl, rfl⟩ := hcut
  go_upto_if 59 with fail
  go_cut [8] from 59 to 62 (fun v wd => v = .string s4.1 ∧ AtS A L w1 wd s4.2)
  case first =>
    cases hbx : (!full x3 && isA (Tn.nd d n).tag [105, 110, 112, 117, 116]) with
    | true =>
      have hb9 : full x3 = false ∧ isA (Tn.nd d n).tag [105, 110, 112, 117, 116] = true := by simpa using hbx
      have e : s4 = labR (nameF f d cl) d n s1.2 := R4.out hb9
      have LB := LAB.out wc s1.2 A6.out Z1.out.1 Z1.out.2 hb9.2
      rw [← e] at LB
      clear e hb9 HT2 R4 R4n LAB
      go_wp2_with (go_at_call 143; refine LB.mono ?_; rintro e w3 ⟨rfl, h3⟩)
      go_meet
      exact ⟨rfl, A6.out.then h3⟩
    | false =>
      have E : Hid (s4 = (x3, s1.2)) := R4n.out (fun h => by rw [h.1, h.2] at hbx; simp at hbx)
      clear HT2 R4 R4n LAB
      go_wp2_with fail
      go_meet
      rw [E.out]
      exact ⟨rfl, A6.out⟩
  case rest =>
  obtain ⟨rfl, hA7⟩ := hcut
  have A7 : Hid (AtS A L w1 wc s4.2) := hA7
  have Z4 : Hid (OkS d s4.2 ∧ 61 ≤ f + s4.2.had.length) := ⟨W4.out.ok, Nat.le_trans Z1.out.2 (Nat.add_le_add_left W4.out.len f)⟩
  clear hA7 A6 R4 R4n LAB Z1 W2 k0 k1 k2 k3 k4
  have R5 : Hid (full s4.1 = false ∧ (fo || contentI ro) = true → s5D (nameF f d cl) d cl n fo s4 = joinF (eachF (fun s k => nameF f d cl s k true) ((insideD d cl (n : Int)).map Int.ofNat) ([], s4.2))) := fun h => by unfold s5D; rw [hro, if_pos h]
  have R5n : Hid (¬ (full s4.1 = false ∧ (fo || contentI ro) = true) → s5D (nameF f d cl) d cl n fo s4 = s4) := fun h => by unfold s5D; rw [hro, if_neg h]
  generalize s5D (nameF f d cl) d cl n fo s4 = s5 at *
  have KI := KIN.out wc ro (NX.out wc A7.out.2.2)
  clear KIN ROL hro
  -- the names of what is in it
  go_upto_region 13 with fail
  go_cut [72] from 63 to 71 (fun tv wd => tv = .bool (!full s4.1 && (fo || contentI ro)) ∧ AtS A L w1 wd s4.2)
  case first =>
    cases hs : s4.1.toList.isEmpty with
    | false =>
      have e := full_yes hs
      clear HT2 R5 R5n
      go_wp2_with fail
      go_meet
      exact ⟨by simp [e], A7.out⟩
    | true =>
      have e := full_no hs
      clear HT2 R5 R5n
      cases fo with
      | true =>
        go_wp2_with fail
        go_meet
        exact ⟨by simp [e], A7.out⟩
      | false =>
        go_wp2_with (go_at_call 41; refine KI.mono ?_; rintro e w3 ⟨nm, x1, x2, x3, x5, z, rfl, hb3⟩)
        go_meet
        exact ⟨by simp [e], A7.out.below hb3⟩
  case rest =>
  obtain ⟨rfl, hA8⟩ := hcut
  have A8 : Hid (AtS A L w1 wc s4.2) := hA8
  clear hA8 A7 KI
  have K8 := KX.out wc A8.out.2.2
  obtain ⟨k0, k1, k2, k3, k4⟩ := K8
  go_upto_if 72 with fail
  go_cut [8] from 72 to 80 (fun v wd => v = .string s5.1 ∧ AtS A L w1 wd s5.2)
  case first =>
    cases hbx : (!full s4.1 && (fo || contentI ro)) with
    | true =>
      have hb9 : full s4.1 = false ∧ (fo || contentI ro) = true := by simpa using hbx
      have E : Hid (s5 = joinF (eachF (fun s k => nameF f d cl s k true) ((insideD d cl (n : Int)).map Int.ofNat) ([], s4.2))) := R5.out hb9
      clear hb9 HT2 R5 R5n
      have SS : ∀ w'', Keeps wc w'' → (fun w'' : World => w''.cell? ⟨W.heap.size, 0, none⟩ = some (.slice (some ⟨b, o, none⟩) rs.length c) ∧ w''.cell? ⟨W.heap.size, 1, none⟩ = some (.slice p cl.length cc) ∧ w''.cell? ⟨W.heap.size, 2, none⟩ = some (.map (some A)) ∧ w''.cell? ⟨W.heap.size, 3, none⟩ = some (.map (some L))) w'' := fun w'' hk => ⟨hk _ _ k0, hk _ _ k1, hk _ _ k2, hk _ _ k3⟩
      have AD : Hid (∀ w, Below wc.heap.size wc w → AtS A L w1 w s4.2) := fun w hb => A8.out.below hb
      go_upto_region 14 with fail
      go_region_held3 (fun w'' : World => w''.cell? ⟨W.heap.size, 0, none⟩ = some (.slice (some ⟨b, o, none⟩) rs.length c) ∧ w''.cell? ⟨W.heap.size, 1, none⟩ = some (.slice p cl.length cc) ∧ w''.cell? ⟨W.heap.size, 2, none⟩ = some (.map (some A)) ∧ w''.cell? ⟨W.heap.size, 3, none⟩ = some (.map (some L)))
        ((apply SS; first | exact Keeps.refl _ | assumption | exact keeps_drew (Keeps.refl _)))
        (first
          | (go_at_call 140; refine (KID.out _ (NX.out _ (AD.out _ (Below.refl _ wc).drew).2.2)).mono ?_; rintro e wa ⟨va9, rfl, hoa, hba⟩; have Ba : Below wc.heap.size wc wa := (Below.refl _ wc).drew.trans (hba.mono (Nat.le_refl _)); have Ja : Keeps wc wa := keeps_below Ba (Nat.le_refl _); have NMa := NMS.out wa s4.2 va9 (AD.out wa Ba) (ints_of_owns hoa) Z4.out.1 Z4.out.2)
          | (go_at_call 144; refine NMa.mono ?_; rintro e wb ⟨rfl, hb9⟩; have Jb : Keeps wc wb := Ja.trans (hb9.2.2.keeps (maps2 (AD.out wa Ba).1 (AD.out wa Ba).2.1))))
      all_goals
        go_wp2_with fail
        go_meet
        rw [E.out]
        exact ⟨rfl, (AD.out wa Ba).then hb9⟩
    | false =>
      have E : Hid (s5 = s4) := R5n.out (fun h => by rw [h.1, h.2] at hbx; simp at hbx)
      clear HT2 R5 R5n
      go_wp2_with fail
      go_meet
      rw [E.out]
      exact ⟨rfl, A8.out⟩
  case rest =>
  obtain ⟨rfl, hA9⟩ := hcut
  have A9 : Hid (AtS A L w1 wc s5.2) := hA9
  clear hA9 A8 k0 k1 k2 k3 k4 R5 R5n
  generalize hq6 : saidN d (n : Int) ⟨#[116, 105, 116, 108, 101]⟩ = ti at *
  have K2 := KX.out wc A9.out.2.2
  obtain ⟨k0, k1, k2, k3, k4⟩ := K2
  have SA := SAI.out wc ⟨#[116, 105, 116, 108, 101]⟩ (NX.out wc A9.out.2.2)
  rw [hq6] at SA
  -- or else its title
  cases hs : s5.1.toList.isEmpty with
  | true =>
    have E : Hid (RR = (ti, s5.2)) := by show _ = _; rw [HT2.out]; unfold s6D; rw [if_neg (by simp [full_no hs])]
    clear HT2
    go_wp2_with (go_at_call 115; refine SA.mono ?_; rintro e w3 ⟨rfl, hb3⟩)
    go_ret
    have A10 := A9.out.below hb3
    rw [E.out]
    exact ⟨rfl, A10.1, A10.2.1, (Bt.below HB1.out).trans A10.2.2⟩
  | false =>
    have E : Hid (RR = (s5.1, s5.2)) := by show _ = _; rw [HT2.out]; unfold s6D; rw [if_pos (full_yes hs)]
    clear HT2
    go_wp2_with fail
    go_ret
    rw [E.out]
    exact ⟨rfl, A9.out.1, A9.out.2.1, (Bt.below HB1.out).trans A9.out.2.2⟩
end Go.Proofs.YtbinbojicmhdlaeGreatDoor

/-
  THE WALK of naming's name, and that it holds with as much fuel as there are nodes.
-/
namespace Go.Proofs.YtbinbojicmhdlaeGreatDoor
open Go.RowKit Go.Maps

set_option maxHeartbeats 6400000 in
set_option maxRecDepth 100000 in
theorem nname_step {b o c : Nat} {rs : List Raw} {d : Tn.Dc} {p : Option Addr} {cc : Nat} {cl : List Cl} {A L f : Nat} (H : NameC b o c rs d p cc cl A L f) (hne : A ≠ L) : NameC b o c rs d p cc cl A L (f + 1) := by
  intro W st n fo hx hS hL ho hf hn hnot
  have hF := hx.cx.fine
  have hdl := hF.good.len.2
  have hnn := Tn.lv_lt hn
  have hfw := ho.few hF
  have hrl : rs.length ≤ 1000 := by rw [hx.cx.doc.len]; omega
  have hnl : n < rs.length := by rw [hx.cx.doc.len]; exact hnn
  have B1 : Below W.heap.size W (W.alloc (.cells #[.slice (some ⟨b, o, none⟩) rs.length c, .slice p cl.length cc, .map (some A), .map (some L)] 94)) := (Below.refl W.heap.size W).alloc (Nat.le_refl _) _
  have C0 := box4' W (.slice (some ⟨b, o, none⟩) rs.length c) (.slice p cl.length cc) (.map (some A)) (.map (some L)) 94
  have P1 := hS.below B1
  have L1 := hL.below B1
  have N1 : Hid (Nx (W.alloc (.cells #[.slice (some ⟨b, o, none⟩) rs.length c, .slice p cl.length cc, .map (some A), .map (some L)] 94)) b o c rs d (.slice p cl.length cc) cl) := hx.below B1
  have M1 : Hid (AreMaps [A, L] (W.alloc (.cells #[.slice (some ⟨b, o, none⟩) rs.length c, .slice p cl.length cc, .map (some A), .map (some L)] 94))) := by
    intro x hx
    simp only [List.mem_cons, List.not_mem_nil, or_false] at hx
    rcases hx with rfl | rfl
    · exact P1.maps _ (by simp)
    · exact L1.maps _ (by simp)
  have HL1 : Hid (SetAt (W.alloc (.cells #[.slice (some ⟨b, o, none⟩) rs.length c, .slice p cl.length cc, .map (some A), .map (some L)] 94)) L st.lst) := L1
  have OK1 : Hid (OkS d (st1 d n st) ∧ 61 ≤ f + (st1 d n st).had.length) := ⟨ho.add hn hnot, by unfold st1; simp; omega⟩
  have VT : Hid (∀ j, Vt (Tn.nd d j)) := hx.vt
  have NM : Hid (nameF (f + 1) d cl st n fo = if (hidD d (n : Int) && !st.lst.contains n) = true then (emB, st1 d n st) else if Tn.has (Tn.nd d n).tag = false then (Wd.sqz (Tn.nd d n).text, st1 d n st) else tailA (nameF f d cl) d cl n fo (stepA (nameF f d cl) d cl n fo (st1 d n st))) := rfl
  have EL : Hid (∀ w, Nx w b o c rs d (.slice p cl.length cc) cl → SetAt w A (st1 d n st).had → SetAt w L (st1 d n st).lst → Calls Tryz.prog 113 #[.agg #[.slice (some ⟨b, o, none⟩) rs.length c, .slice p cl.length cc, .map (some A), .map (some L)], .int .i64 (n : Int), .bool fo] w fun e w' =>
      e = .returned (.string (tailA (nameF f d cl) d cl n fo (stepA (nameF f d cl) d cl n fo (st1 d n st))).1) ∧ SetAt w' A (tailA (nameF f d cl) d cl n fo (stepA (nameF f d cl) d cl n fo (st1 d n st))).2.had ∧ SetAt w' L (tailA (nameF f d cl) d cl n fo (stepA (nameF f d cl) d cl n fo (st1 d n st))).2.lst ∧ Bt [A, L] w w') := fun w h1 h2 h3 => nelem_of H hne h1 h2 h3 OK1.out.1 OK1.out.2 n hn fo
  have HB1 : Hid (Below W.heap.size W (W.alloc (.cells #[.slice (some ⟨b, o, none⟩) rs.length c, .slice p cl.length cc, .map (some A), .map (some L)] 94))) := B1
  have HNE : Hid (A ≠ L) := hne
  have HN : Hid (Tn.lvD d n = true) := hn
  obtain ⟨q0, q1, q2, q3⟩ := C0
  have hla : st.had.length ≤ 100000 := by omega
  have E1 : Hid ((st1 d n st).had = st.had ++ [n] ∧ (st1 d n st).lst = st.lst) := ⟨rfl, rfl⟩
  clear hx hS hL ho hf hn hnot hne H B1 L1
  generalize tailA (nameF f d cl) d cl n fo (stepA (nameF f d cl) d cl n fo (st1 d n st)) = TT at *
  generalize nameF (f + 1) d cl st n fo = RR at *
  go_enter Tryz.func71, Tryz.ntmps71
  go_upto_region 1 with fail
  generalize W.alloc (.cells #[.slice (some ⟨b, o, none⟩) rs.length c, .slice p cl.length cc, .map (some A), .map (some L)] 94) = w1 at *
  go_upto_region 3 with (at_mapUpdate; refine set_put rfl _ _ _ rfl A st.had n (by omega) hla rfl P1 rfl rfl ?_; intro w2 hS2 hg2; go_frame)
  have BT2 : Hid (Bt [A, L] w1 w2) := Bt.grow1 hg2 (by simp)
  have HS2 : Hid (SetAt w2 A (st1 d n st).had) := by show SetAt _ _ _; rw [E1.out.1]; exact hS2
  have HL2 : Hid (SetAt w2 L (st1 d n st).lst) := by show SetAt _ _ _; rw [E1.out.2]; exact HL1.out.bt (Bt.grow1 (S := [A]) hg2 (by simp)) (by have := HNE.out; simp; exact fun e => this e.symm)
  have K2 := BT2.out.keeps M1.out
  have N2 : Hid (Nx w2 b o c rs d (.slice p cl.length cc) cl) := N1.out.keeps K2 BT2.out.size
  have a0 := K2 _ _ q0
  have a1 := K2 _ _ q1
  have a2 := K2 _ _ q2
  have a3 := K2 _ _ q3
  have tc := tag_cell N2.out.cx.doc HN.out
  obtain ⟨tg0, tx0, _⟩ := tc
  have HH := nhas_any (S := st.lst) (by have := HL2.out; rw [E1.out.2] at this; exact this) (n : Int) (by omega) (by omega)
  have e0 : decide (0 ≤ (n : Int) ∧ (n : Int).toNat ∈ st.lst) = st.lst.contains n := by
    rw [Bool.eq_iff_iff]
    simp
  rw [e0] at HH
  have HI : Hid (∀ w, Below w2.heap.size w2 w → Calls Tryz.prog 107 #[.slice (some ⟨b, o, none⟩) rs.length c, .int .i64 (n : Int)] w fun e w' => e = .returned (.bool (hidD d (n : Int))) ∧ Below w.heap.size w w') := fun w hb => ohid_any (N2.out.cx.below hb) (n : Int)
  clear hS2 hg2 P1 K2 e0 N1 M1 HL1 q0 q1 q2 q3
  generalize hidD d (n : Int) = hd at *
  go_cut [15] from 16 to 26 (fun tv wc => tv = .bool (hd && !st.lst.contains n) ∧ Below w2.heap.size w2 wc)
  case first =>
    generalize st.lst.contains n = lc at *
    cases lc with
    | true =>
      go_wp2_with (go_at_call 112; refine HH.mono ?_; rintro e w3 ⟨rfl, hb3⟩)
      go_meet
      exact ⟨by simp, hb3⟩
    | false =>
      go_wp2_with (first
        | (go_at_call 112; refine HH.mono ?_; rintro e w3 ⟨rfl, hb3⟩; have J3 := keeps_below hb3 (Nat.le_refl _); have b0 := J3 _ _ a0; have HI3 := HI.out w3 hb3)
        | (go_at_call 107; refine HI3.mono ?_; rintro e w4 ⟨rfl, hb4⟩))
      go_meet
      exact ⟨by simp, hb3.trans (hb4.mono hb3.size)⟩
  case rest =>
    obtain ⟨rfl, hbc⟩ := hcut
    have AC : Hid (SetAt wc A (st1 d n st).had ∧ SetAt wc L (st1 d n st).lst ∧ Bt [A, L] W wc ∧ Nx wc b o c rs d (.slice p cl.length cc) cl) := ⟨HS2.out.below hbc, HL2.out.below hbc, (Bt.below HB1.out).trans (BT2.out.trans (Bt.below hbc)), N2.out.below hbc⟩
    have Kc := keeps_below hbc (Nat.le_refl _)
    have b0 := Kc _ _ a0
    have b1 := Kc _ _ a1
    have b2 := Kc _ _ a2
    have b3 := Kc _ _ a3
    have bt := Kc _ _ tg0
    have bx := Kc _ _ tx0
    clear HH HI Kc a0 a1 a2 a3 tg0 tx0 hbc
    cases hh : (hd && !st.lst.contains n) with
    | true =>
      have E : Hid (RR = (emB, st1 d n st)) := by show _ = _; rw [NM.out, if_pos hh]
      go_wp2_with fail
      go_ret
      rw [E.out]
      exact ⟨rfl, AC.out.1, AC.out.2.1, AC.out.2.2.1⟩
    | false =>
      have NM2 : Hid (RR = if Tn.has (Tn.nd d n).tag = false then (Wd.sqz (Tn.nd d n).text, st1 d n st) else TT) := by show _ = _; rw [NM.out, if_neg (by rw [hh]; simp)]
      have hi : Tn.isN d (n : Int) true = Tn.has (Tn.nd d n).tag := isN_el (by rw [Tn.isN_iff]; exact HN.out)
      have IS := dis_any AC.out.2.2.2.cx.doc (n : Int) true
      rw [hi] at IS
      clear NM hh hi
      cases ht : Tn.has (Tn.nd d n).tag with
      | false =>
        have E : Hid (RR = (Wd.sqz (Tn.nd d n).text, st1 d n st)) := by show _ = _; rw [NM2.out, if_pos ht]
        have SQ := Wd.squeeze_any (Tn.nd d n).text wc (VT.out n)
        rw [ht] at IS
        clear NM2 ht VT
        generalize Wd.sqz (Tn.nd d n).text = sq at *
        generalize (Tn.nd d n).text = tx at *
        generalize (Tn.nd d n).tag = tg at *
        go_wp2_with (first
          | (go_at_call 69; refine IS.mono ?_; rintro e w5 ⟨rfl, hww⟩; subst hww)
          | (go_at_call 82; refine SQ.mono ?_; rintro e w6 ⟨rfl, hb6⟩))
        go_ret
        rw [E.out]
        exact ⟨rfl, AC.out.1.below hb6, AC.out.2.1.below hb6, AC.out.2.2.1.trans (Bt.below hb6)⟩
      | true =>
        have E : Hid (RR = TT) := by show _ = _; rw [NM2.out, if_neg (by simp [ht])]
        have EE := EL.out wc AC.out.2.2.2 AC.out.1 AC.out.2.1
        rw [ht] at IS
        clear NM2 ht VT EL
        go_wp2_with (first
          | (go_at_call 69; refine IS.mono ?_; rintro e w5 ⟨rfl, hww⟩; subst hww)
          | (go_at_call 113; refine EE.mono ?_; rintro e w6 ⟨rfl, h1, h2, h3⟩))
        go_ret
        rw [E.out]
        exact ⟨rfl, h1, h2, AC.out.2.2.1.trans h3⟩

theorem nname_all {b o c : Nat} {rs : List Raw} {d : Tn.Dc} {p : Option Addr} {cc : Nat} {cl : List Cl} {A L : Nat} (hne : A ≠ L) : ∀ f, NameC b o c rs d p cc cl A L f
  | 0 => fun W st n fo hx hS hL ho hf hn hnot => absurd (ho.few hx.cx.fine) (by omega)
  | f + 1 => nname_step (nname_all hne f) hne
end Go.Proofs.YtbinbojicmhdlaeGreatDoor

/-
  THE WALK of naming's about.
-/
namespace Go.Proofs.YtbinbojicmhdlaeGreatDoor
open Go.RowKit Go.Maps

/-- what about answers of one that has that name -/
def abR (d : Tn.Dc) (cl : List Cl) (n : Nat) (nm : ByteArray) (x : List Nat) : ByteArray × St :=
  if full nm = true then aboutT d n nm (listD (nameF 64 d cl) d cl (n : Int) ⟨#[97, 114, 105, 97, 45, 100, 101, 115, 99, 114, 105, 98, 101, 100, 98, 121]⟩ ⟨[n], x, []⟩) else (emB, ⟨[n], x, []⟩)
theorem em_of {s : ByteArray} (h : full s = false) : s = emB := by
  unfold full at h
  have h2 : s.toList.isEmpty = true := by simpa using h
  have h3 : s.toList = [] := by simpa using h2
  have h4 : s.data = #[] := by
    have : s.data.toList = [] := by rw [← Wd.bs_toList s.data.toList]; exact h3
    simpa using this
  cases s
  simp only at h4
  subst h4
  rfl

set_option maxHeartbeats 3200000 in
set_option maxRecDepth 100000 in
theorem nabout_of {b o c : Nat} {rs : List Raw} {d : Tn.Dc} {p : Option Addr} {cc : Nat} {cl : List Cl} {A L : Nat} (hne : A ≠ L) {W : World} (hx : Nx W b o c rs d (.slice p cl.length cc) cl) (n : Nat) (hS : SetAt W A [n]) (hL : SetAt W L []) (hn : Tn.lvD d n = true) (nm : ByteArray) (x : List Nat) :
    Calls Tryz.prog 72 #[.agg #[.slice (some ⟨b, o, none⟩) rs.length c, .slice p cl.length cc, .map (some A), .map (some L)], .int .i64 (n : Int), .string nm] W fun e w' =>
      e = .returned (.string (abR d cl n nm x).1) ∧ SetAt w' A (abR d cl n nm x).2.had ∧ Bt [A, L] W w' := by
  have B1 : Below W.heap.size W (W.alloc (.cells #[.slice (some ⟨b, o, none⟩) rs.length c, .slice p cl.length cc, .map (some A), .map (some L)] 94)) := (Below.refl W.heap.size W).alloc (Nat.le_refl _) _
  have C0 := box4' W (.slice (some ⟨b, o, none⟩) rs.length c) (.slice p cl.length cc) (.map (some A)) (.map (some L)) 94
  have HS1 := hS.below B1
  have HL1 := hL.below B1
  have M1 : Hid (AreMaps [A, L] (W.alloc (.cells #[.slice (some ⟨b, o, none⟩) rs.length c, .slice p cl.length cc, .map (some A), .map (some L)] 94))) := maps2 HS1 HL1
  have ok0 : OkS d ⟨[n], x, []⟩ := ⟨by simp, by simpa using hn, by simp, by simp⟩
  have NX : Hid (∀ w, Bt [A, L] (W.alloc (.cells #[.slice (some ⟨b, o, none⟩) rs.length c, .slice p cl.length cc, .map (some A), .map (some L)] 94)) w → Nx w b o c rs d (.slice p cl.length cc) cl) := fun w hw => (hx.below B1).bt hw M1.out
  have LI : Calls Tryz.prog 114 #[.agg #[.slice (some ⟨b, o, none⟩) rs.length c, .slice p cl.length cc, .map (some A), .map (some L)], .int .i64 (n : Int), .string ⟨#[97, 114, 105, 97, 45, 100, 101, 115, 99, 114, 105, 98, 101, 100, 98, 121]⟩] (W.alloc (.cells #[.slice (some ⟨b, o, none⟩) rs.length c, .slice p cl.length cc, .map (some A), .map (some L)] 94)) fun e w' =>
      e = .returned (.string (listD (nameF 64 d cl) d cl (n : Int) ⟨#[97, 114, 105, 97, 45, 100, 101, 115, 99, 114, 105, 98, 101, 100, 98, 121]⟩ ⟨[n], x, []⟩).1) ∧ SetAt w' A (listD (nameF 64 d cl) d cl (n : Int) ⟨#[97, 114, 105, 97, 45, 100, 101, 115, 99, 114, 105, 98, 101, 100, 98, 121]⟩ ⟨[n], x, []⟩).2.had ∧ SetAt w' L (listD (nameF 64 d cl) d cl (n : Int) ⟨#[97, 114, 105, 97, 45, 100, 101, 115, 99, 114, 105, 98, 101, 100, 98, 121]⟩ ⟨[n], x, []⟩).2.lst ∧ Bt [A, L] (W.alloc (.cells #[.slice (some ⟨b, o, none⟩) rs.length c, .slice p cl.length cc, .map (some A), .map (some L)] 94)) w' :=
    nlisted_of (st := ⟨[n], x, []⟩) (nname_all hne 64) hne (hx.below B1) HS1 HL1 ok0 (by omega) (n : Int) _
  have SA : Hid (∀ w, Nx w b o c rs d (.slice p cl.length cc) cl → Calls Tryz.prog 115 #[.agg #[.slice (some ⟨b, o, none⟩) rs.length c, .slice p cl.length cc, .map (some A), .map (some L)], .int .i64 (n : Int), .string ⟨#[116, 105, 116, 108, 101]⟩] w fun e w' => e = .returned (.string (saidN d (n : Int) ⟨#[116, 105, 116, 108, 101]⟩)) ∧ Below w.heap.size w w') := fun w h => nsaid_any h.cx (some A) (some L) p cl.length cc (n : Int) _
  have HB1 : Hid (Below W.heap.size W (W.alloc (.cells #[.slice (some ⟨b, o, none⟩) rs.length c, .slice p cl.length cc, .map (some A), .map (some L)] 94))) := B1
  obtain ⟨q0, q1, q2, q3⟩ := C0
  have S0 : Hid (SetAt W A [n]) := hS
  have KM : Hid (∀ w, Bt [A, L] (W.alloc (.cells #[.slice (some ⟨b, o, none⟩) rs.length c, .slice p cl.length cc, .map (some A), .map (some L)] 94)) w → Keeps (W.alloc (.cells #[.slice (some ⟨b, o, none⟩) rs.length c, .slice p cl.length cc, .map (some A), .map (some L)] 94)) w) := fun w h => h.keeps M1.out
  cases hs : nm.toList.isEmpty with
  | true =>
    have E : Hid (abR d cl n nm x = (emB, ⟨[n], x, []⟩)) := by show _ = _; unfold abR; rw [if_neg (by simp [full_no hs])]
    rw [E.out]
    clear hS hL hx hn LI HS1 HL1 ok0 NX SA M1 KM
    go_enter Tryz.func72, Tryz.ntmps72
    go_wp2_with fail
    go_ret
    exact ⟨rfl, S0.out.below HB1.out, Bt.below HB1.out⟩
  | false =>
    have E : Hid (abR d cl n nm x = aboutT d n nm (listD (nameF 64 d cl) d cl (n : Int) ⟨#[97, 114, 105, 97, 45, 100, 101, 115, 99, 114, 105, 98, 101, 100, 98, 121]⟩ ⟨[n], x, []⟩)) := by show _ = _; unfold abR; rw [if_pos (full_yes hs)]
    rw [E.out]
    clear hS hL hx hn HS1 HL1 ok0 M1 S0 B1 E
    generalize listD (nameF 64 d cl) d cl (n : Int) ⟨#[97, 114, 105, 97, 45, 100, 101, 115, 99, 114, 105, 98, 101, 100, 98, 121]⟩ ⟨[n], x, []⟩ = t at *
    have TE : Hid (aboutT d n nm t = if (!full t.1 && !Tn.eqS (saidN d (n : Int) ⟨#[116, 105, 116, 108, 101]⟩) nm) = true then (saidN d (n : Int) ⟨#[116, 105, 116, 108, 101]⟩, t.2) else t) := rfl
    generalize aboutT d n nm t = R9 at *
    generalize saidN d (n : Int) ⟨#[116, 105, 116, 108, 101]⟩ = ti at *
    go_enter Tryz.func72, Tryz.ntmps72
    go_upto_region 1 with fail
    generalize W.alloc (.cells #[.slice (some ⟨b, o, none⟩) rs.length c, .slice p cl.length cc, .map (some A), .map (some L)] 94) = w1 at *
    cases ht : t.1.toList.isEmpty with
    | false =>
      have E : Hid (R9 = t) := by show _ = _; rw [TE.out, if_neg (by simp [full_yes ht])]
      clear TE
      go_wp2_with (go_at_call 114; refine LI.mono ?_; rintro e w2 ⟨rfl, h2, h2l, hb2⟩)
      go_ret
      rw [E.out]
      exact ⟨rfl, h2, (Bt.below HB1.out).trans hb2⟩
    | true =>
      cases he : (ti.toList == nm.toList) with
      | true =>
        have E : Hid (R9 = t) := by show _ = _; rw [TE.out, if_neg (by unfold Tn.eqS; simp only [he]; simp)]
        have hte : Hid (t.1 = emB) := em_of (full_no ht)
        clear TE
        have he2 : (ti.toList != nm.toList) = false := by simp [bne, he]
        go_wp2_with (first
          | (go_at_call 114; refine LI.mono ?_; rintro e w2 ⟨rfl, h2, h2l, hb2⟩; have N2 := NX.out w2 hb2; have K2 := KM.out w2 hb2; have b0 := K2 _ _ q0; have b1 := K2 _ _ q1; have b2 := K2 _ _ q2; have b3 := K2 _ _ q3; have SA2 := SA.out w2 N2; clear N2)
          | (go_at_call 115; refine SA2.mono ?_; rintro e w3 ⟨rfl, hb3⟩))
        go_ret
        rw [E.out]
        exact ⟨by rw [hte.out]; rfl, h2.below hb3, (Bt.below HB1.out).trans (hb2.trans (Bt.below hb3))⟩
      | false =>
        have E : Hid (R9 = (ti, t.2)) := by show _ = _; rw [TE.out, if_pos (by unfold Tn.eqS; simp only [he]; simp [full_no ht])]
        clear TE
        have he2 : (ti.toList != nm.toList) = true := by simp [bne, he]
        go_wp2_with (first
          | (go_at_call 114; refine LI.mono ?_; rintro e w2 ⟨rfl, h2, h2l, hb2⟩; have N2 := NX.out w2 hb2; have K2 := KM.out w2 hb2; have b0 := K2 _ _ q0; have b1 := K2 _ _ q1; have b2 := K2 _ _ q2; have b3 := K2 _ _ q3; have SA2 := SA.out w2 N2; clear N2)
          | (go_at_call 115; refine SA2.mono ?_; rintro e w3 ⟨rfl, hb3⟩))
        go_ret
        rw [E.out]
        exact ⟨rfl, h2.below hb3, (Bt.below HB1.out).trans (hb2.trans (Bt.below hb3))⟩
end Go.Proofs.YtbinbojicmhdlaeGreatDoor

/-
  THE LIBRARY's CONTRACTS of slices.Sorted and maps.Keys, laid at this program's own numbers (by program, out of the kit's shelf).
-/
namespace Go.Proofs
open Go.Shelf
def Tryz.keysA_ren : Go.Shelf.Ren := ⟨fun | 7 => 118 | 10 => 150 | n => n, fun | 23 => 92 | 26 => 3 | 3 => 124 | 28 => 129 | 0 => 0 | 27 => 128 | 33 => 86 | 4 => 4 | n => n, fun | n => n⟩
theorem Tryz.keysA : Go.Proofs.SlLaysZI.n7 Tryz.prog Tryz.keysA_ren := {
  mixed := by kernel_rfl
  f7 := ⟨Tryz.f118.name, by decide, Tryz.func118.trans (congrArg some (by kernel_rfl))⟩
  f10 := ⟨Tryz.f150.name, by decide, Tryz.func150.trans (congrArg some (by kernel_rfl))⟩
  t0 := Tryz.underlying0
  a0 := Tryz.isAgg0
  z0 := Tryz.sizeOf0
  v0 := Tryz.zeroValue0
  t4 := Tryz.underlying4
  a4 := Tryz.isAgg4
  z4 := Tryz.sizeOf4
  v4 := Tryz.zeroValue4
  t23 := Tryz.underlying92
  a23 := Tryz.isAgg92
  z23 := Tryz.sizeOf92
  v23 := Tryz.zeroValue92
  t26 := Tryz.underlying3
  a26 := Tryz.isAgg3
  z26 := Tryz.sizeOf3
  v26 := Tryz.zeroValue3
  t27 := Tryz.underlying128
  a27 := Tryz.isAgg128
  z27 := Tryz.sizeOf128
  v27 := Tryz.zeroValue128
  t28 := Tryz.underlying129
  a28 := Tryz.isAgg129
  z28 := Tryz.sizeOf129
  v28 := Tryz.zeroValue129
  t33 := Tryz.underlying86
  a33 := Tryz.isAgg86
  z33 := Tryz.sizeOf86
  v33 := Tryz.zeroValue86 }
def Tryz.sortedA_ren : Go.Shelf.Ren := ⟨fun | 6 => 117 | 8 => 148 | 9 => 149 | 11 => 168 | 13 => 170 | 12 => 169 | 23 => 184 | 24 => 185 | 14 => 175 | 15 => 176 | 16 => 177 | 17 => 178 | 18 => 179 | 19 => 180 | 20 => 181 | 21 => 182 | 22 => 183 | 25 => 188 | 26 => 189 | 27 => 190 | 28 => 191 | 29 => 192 | 30 => 193 | 31 => 194 | n => n, fun | 26 => 3 | 28 => 129 | 24 => 33 | 0 => 0 | 3 => 3 | 37 => 157 | 48 => 172 | 50 => 174 | 4 => 4 | 40 => 166 | 39 => 165 | 45 => 105 | 5 => 5 | 9 => 9 | 51 => 178 | 55 => 182 | 57 => 184 | 58 => 185 | 33 => 86 | n => n, fun | n => n⟩
theorem Tryz.sortedA : Go.Proofs.SlLaysZI.n6 Tryz.prog Tryz.sortedA_ren := {
  mixed := by kernel_rfl
  f6 := ⟨Tryz.f117.name, by decide, Tryz.func117.trans (congrArg some (by kernel_rfl))⟩
  f8 := ⟨Tryz.f148.name, by decide, Tryz.func148.trans (congrArg some (by kernel_rfl))⟩
  f11 := ⟨Tryz.f168.name, by decide, Tryz.func168.trans (congrArg some (by kernel_rfl))⟩
  t0 := Tryz.underlying0
  a0 := Tryz.isAgg0
  z0 := Tryz.sizeOf0
  v0 := Tryz.zeroValue0
  t24 := Tryz.underlying33
  a24 := Tryz.isAgg33
  z24 := Tryz.sizeOf33
  v24 := Tryz.zeroValue33
  t26 := Tryz.underlying3
  a26 := Tryz.isAgg3
  z26 := Tryz.sizeOf3
  v26 := Tryz.zeroValue3
  t28 := Tryz.underlying129
  a28 := Tryz.isAgg129
  z28 := Tryz.sizeOf129
  v28 := Tryz.zeroValue129
  i26 := by kernel_rfl }
def Tryz.sortA_ren : Go.Shelf.Ren := ⟨fun | 5 => 149 | 8 => 170 | 7 => 169 | 19 => 184 | 20 => 185 | 10 => 175 | 11 => 176 | 12 => 177 | 13 => 178 | 14 => 179 | 15 => 180 | 16 => 181 | 17 => 182 | 18 => 183 | 30 => 188 | 31 => 189 | 32 => 190 | 33 => 191 | 34 => 192 | 35 => 193 | 40 => 194 | n => n, fun | 23 => 33 | 25 => 3 | 3 => 3 | 32 => 157 | 22 => 33 | 0 => 0 | 44 => 172 | 46 => 174 | 4 => 4 | 36 => 166 | 35 => 165 | 41 => 105 | 5 => 5 | 9 => 9 | 53 => 178 | 57 => 182 | 63 => 184 | 64 => 185 | n => n, fun | n => n⟩
theorem Tryz.sortA : Go.Proofs.SlLaysM.n5 Tryz.prog Tryz.sortA_ren := {
  mixed := by kernel_rfl
  f5 := ⟨Tryz.f149.name, by decide, Tryz.func149.trans (congrArg some (by kernel_rfl))⟩
  f7 := ⟨Tryz.f169.name, by decide, Tryz.func169.trans (congrArg some (by kernel_rfl))⟩
  f8 := Tryz.func170.trans (congrArg some (by kernel_rfl))
  f10 := ⟨Tryz.f175.name, by decide, Tryz.func175.trans (congrArg some (by kernel_rfl))⟩
  f11 := ⟨Tryz.f176.name, by decide, Tryz.func176.trans (congrArg some (by kernel_rfl))⟩
  f12 := ⟨Tryz.f177.name, by decide, Tryz.func177.trans (congrArg some (by kernel_rfl))⟩
  f13 := ⟨Tryz.f178.name, by decide, Tryz.func178.trans (congrArg some (by kernel_rfl))⟩
  f14 := ⟨Tryz.f179.name, by decide, Tryz.func179.trans (congrArg some (by kernel_rfl))⟩
  f15 := ⟨Tryz.f180.name, by decide, Tryz.func180.trans (congrArg some (by kernel_rfl))⟩
  f16 := ⟨Tryz.f181.name, by decide, Tryz.func181.trans (congrArg some (by kernel_rfl))⟩
  f17 := ⟨Tryz.f182.name, by decide, Tryz.func182.trans (congrArg some (by kernel_rfl))⟩
  f18 := ⟨Tryz.f183.name, by decide, Tryz.func183.trans (congrArg some (by kernel_rfl))⟩
  f19 := Tryz.func184.trans (congrArg some (by kernel_rfl))
  f20 := Tryz.func185.trans (congrArg some (by kernel_rfl))
  f30 := ⟨Tryz.f188.name, by decide, Tryz.func188.trans (congrArg some (by kernel_rfl))⟩
  f31 := Tryz.func189.trans (congrArg some (by kernel_rfl))
  f32 := Tryz.func190.trans (congrArg some (by kernel_rfl))
  f33 := ⟨Tryz.f191.name, by decide, Tryz.func191.trans (congrArg some (by kernel_rfl))⟩
  f34 := ⟨Tryz.f192.name, by decide, Tryz.func192.trans (congrArg some (by kernel_rfl))⟩
  f35 := ⟨Tryz.f193.name, by decide, Tryz.func193.trans (congrArg some (by kernel_rfl))⟩
  f40 := ⟨Tryz.f194.name, by decide, Tryz.func194.trans (congrArg some (by kernel_rfl))⟩
  t0 := Tryz.underlying0
  a0 := Tryz.isAgg0
  z0 := Tryz.sizeOf0
  v0 := Tryz.zeroValue0
  t3 := Tryz.underlying3
  a3 := Tryz.isAgg3
  z3 := Tryz.sizeOf3
  v3 := Tryz.zeroValue3
  t4 := Tryz.underlying4
  a4 := Tryz.isAgg4
  z4 := Tryz.sizeOf4
  v4 := Tryz.zeroValue4
  t5 := Tryz.underlying5
  a5 := Tryz.isAgg5
  z5 := Tryz.sizeOf5
  v5 := Tryz.zeroValue5
  t9 := Tryz.underlying9
  a9 := Tryz.isAgg9
  z9 := Tryz.sizeOf9
  v9 := Tryz.zeroValue9
  t22 := Tryz.underlying33
  a22 := Tryz.isAgg33
  z22 := Tryz.sizeOf33
  v22 := Tryz.zeroValue33
  t23 := Tryz.underlying33
  a23 := Tryz.isAgg33
  z23 := Tryz.sizeOf33
  v23 := Tryz.zeroValue33
  t25 := Tryz.underlying3
  a25 := Tryz.isAgg3
  z25 := Tryz.sizeOf3
  v25 := Tryz.zeroValue3
  t32 := Tryz.underlying157
  a32 := Tryz.isAgg157
  z32 := Tryz.sizeOf157
  v32 := Tryz.zeroValue157
  t35 := Tryz.underlying165
  a35 := Tryz.isAgg165
  z35 := Tryz.sizeOf165
  v35 := Tryz.zeroValue165
  t36 := Tryz.underlying166
  a36 := Tryz.isAgg166
  z36 := Tryz.sizeOf166
  v36 := Tryz.zeroValue166
  t41 := Tryz.underlying105
  a41 := Tryz.isAgg105
  z41 := Tryz.sizeOf105
  v41 := Tryz.zeroValue105
  t44 := Tryz.underlying172
  a44 := Tryz.isAgg172
  z44 := Tryz.sizeOf172
  v44 := Tryz.zeroValue172
  t46 := Tryz.underlying174
  a46 := Tryz.isAgg174
  z46 := Tryz.sizeOf174
  v46 := Tryz.zeroValue174
  t53 := Tryz.underlying178
  a53 := Tryz.isAgg178
  z53 := Tryz.sizeOf178
  v53 := Tryz.zeroValue178
  t57 := Tryz.underlying182
  a57 := Tryz.isAgg182
  z57 := Tryz.sizeOf182
  v57 := Tryz.zeroValue182
  t63 := Tryz.underlying184
  a63 := Tryz.isAgg184
  z63 := Tryz.sizeOf184
  v63 := Tryz.zeroValue184
  t64 := Tryz.underlying185
  a64 := Tryz.isAgg185
  z64 := Tryz.sizeOf185
  v64 := Tryz.zeroValue185 }
end Go.Proofs

/-
  slices.Sorted(maps.Keys(m)) at this program: a new slice that holds the keys, rising.
-/
namespace Go.Proofs.YtbinbojicmhdlaeGreatDoor
open Go.RowKit Go.Maps Go.Sort Go.Shelf

theorem sortsA (m : Nat) : AnyZI.SortsIn Tryz.prog Tryz.sortedA_ren Fence.wide m :=
  ⟨fun blk off cap ss W hH hblk hsz => callsIn_wide.2 (AnyM.slices_Sort_int Tryz.sortA blk off cap ss W hH hblk hsz),
   fun p cap W => callsIn_wide.2 (AnyM.slices_Sort_int_none Tryz.sortA p cap W)⟩

theorem keys_calls (mb : Option Nat) (W : World) : Calls Tryz.prog 118 #[.map mb] W fun e w' => e = .returned (.func (.func 150) #[] #[.pointer (some ⟨W.heap.size, 0, none⟩)]) ∧ w' = W.alloc (.cells #[.map mb] 92) :=
  (callsIn_wide (n := 5)).1 (AnyZI.keys_in Tryz.keysA Fence.wide 5 trivial rfl mb W)

theorem sorted_calls {H : Type} (b nn : Nat) (D0 : DataW H) (R : Value → Option (DataW H × List MemPlace)) (w : World) (hown : w.ownsMap Tryz.prog 3 R b nn D0) (hmax : Maps.size D0 ≤ maxLen) (hbytes : Maps.size D0 * 8 ≤ 140737488355328) :
    Calls Tryz.prog 117 #[.func (.func 150) #[] #[.pointer (some ⟨w.heap.size, 0, none⟩)]] (w.alloc (.cells #[.map (some b)] 92)) fun e w' => ∃ (v : Value) (ss : List Int), e = .returned v ∧ ss.Perm (intKeys D0) ∧
      w'.ownsRow w.heap.size 3 1 v ss.length ((ss.mergeSort (fun x y => decide (x ≤ y))).map encZ) ∧ (v = .slice none 0 0 ↔ ss = []) ∧ Below w.heap.size w w' := by
  have hbl := hown.lt
  have hseq : SeqGives Fence.wide 2 Tryz.prog 150 #[.pointer (some ⟨w.heap.size, 0, none⟩)] encZ (fun ss => ss.Perm (intKeys D0)) (Maps.size D0) (w.alloc (.cells #[.map (some b)] 92)) :=
    AnyZI.keys_gives (ρ := Tryz.keysA_ren) { Tryz.keysA with } Fence.wide _ trivial rfl (by omega) w.heap.size b nn D0 _ (by simp) (by simp) (by
      obtain ⟨es, clock, hb, Ft, hs, hD⟩ := hown
      exact ⟨es, clock, (Below.heap_alloc _ _ b hbl).trans hb, Ft, hs, hD⟩)
  have cS := AnyZI.sorted_in Tryz.sortedA Fence.wide 5 trivial trivial trivial trivial rfl (by omega) (sortsA _) (enters_of Tryz.func149 (by kernel_rfl) rfl) 150 #[.pointer (some ⟨w.heap.size, 0, none⟩)] trivial (enters_of Tryz.func150 (by kernel_rfl) rfl) _ _ hmax hbytes _ hseq
  change CallsIn _ _ Tryz.prog 117 _ _ _ at cS
  refine ((callsIn_wide (n := 5)).1 cS).mono ?_
  rintro e w' ⟨v, ss, rfl, hS, hrow, hnil, hb⟩
  exact ⟨v, ss, rfl, hS, ownsRow_base_a hrow (by simp), hnil, ((Below.refl _ w).alloc (Nat.le_refl _) _).trans (hb.mono (by simp))⟩
end Go.Proofs.YtbinbojicmhdlaeGreatDoor

/-
  PLAIN MATHEMATICS: the keys of a set of nodes, sorted, are the nodes, rising.
-/
namespace Go.Proofs.YtbinbojicmhdlaeGreatDoor
open Go.RowKit Go.Maps Go.Sort

theorem keys_sorted {D : DataW Unit} {S : List Nat} {N : Nat} {ss : List Int} (hN : ∀ k ∈ S, k < N) (hp : ss.Perm (intKeys D)) (ht : Tidy D) (hk : ∀ kl, Maps.has D kl = true ↔ ∃ k ∈ S, kl = .int .i64 (k : Int)) (hl : ∀ es, D = .map es → ∀ p ∈ es, WideAt.IsKeyLit p.1) :
    ss.mergeSort (fun x y => decide (x ≤ y)) = ((List.range N).filter (fun k => S.contains k)).map Int.ofNat := by
  obtain ⟨es, rfl, hpw⟩ := ht
  have hes : ∀ p ∈ es, ∃ k ∈ S, p.1 = .int .i64 (k : Int) := fun p hp' => (hk p.1).mp (List.any_eq_true.2 ⟨p, hp', WideAt.sameKey_self (hl es rfl p hp')⟩)
  have hmem : ∀ x, x ∈ intKeys (DataW.map es) ↔ ∃ k ∈ S, x = (k : Int) := by
    intro x
    constructor
    · intro hx
      obtain ⟨p, hp', e⟩ := List.mem_map.1 hx
      obtain ⟨k, hkS, e2⟩ := hes p hp'
      rw [e2] at e
      exact ⟨k, hkS, e.symm⟩
    · rintro ⟨k, hkS, rfl⟩
      obtain ⟨p, hp', e⟩ := List.any_eq_true.1 ((hk (.int .i64 (k : Int))).mpr ⟨k, hkS, rfl⟩)
      exact List.mem_map.2 ⟨p, hp', by rw [WideAt.sameKey_eq e]; rfl⟩
  have hnd : (intKeys (DataW.map es)).Nodup := by
    unfold intKeys
    refine List.pairwise_map.2 (hpw.imp_of_mem fun {p q} hp' hq' hne e => hne ?_)
    obtain ⟨k, _, e1⟩ := hes p hp'
    obtain ⟨j, _, e2⟩ := hes q hq'
    rw [e1, e2] at e ⊢
    have : (k : Int) = (j : Int) := e
    rw [this]
  have hr : (((List.range N).filter (fun k => S.contains k)).map Int.ofNat).Pairwise (fun a b => a ≤ b) := by
    refine List.pairwise_map.2 ((List.pairwise_lt_range.sublist List.filter_sublist).imp ?_)
    intro a b h
    show (a : Int) ≤ (b : Int)
    omega
  have hr2 : (((List.range N).filter (fun k => S.contains k)).map Int.ofNat).Nodup := by
    refine List.pairwise_map.2 ((List.pairwise_lt_range.sublist List.filter_sublist).imp ?_)
    intro a b h e
    have : (a : Int) = (b : Int) := e
    omega
  have hpm : (ss.mergeSort (fun x y => decide (x ≤ y))).Perm (((List.range N).filter (fun k => S.contains k)).map Int.ofNat) := by
    refine (List.mergeSort_perm _ _).trans (hp.trans ((List.perm_ext_iff_of_nodup hnd hr2).2 fun x => ?_))
    rw [hmem]
    constructor
    · rintro ⟨k, hkS, rfl⟩
      exact List.mem_map.2 ⟨k, List.mem_filter.2 ⟨List.mem_range.2 (hN k hkS), by simpa using hkS⟩, rfl⟩
    · intro hx
      obtain ⟨k, hk2, rfl⟩ := List.mem_map.1 hx
      exact ⟨k, by simpa using (List.mem_filter.1 hk2).2, rfl⟩
  have hs := List.pairwise_mergeSort (le := fun x y : Int => decide (x ≤ y)) (fun a b c h1 h2 => by simp at h1 h2 ⊢; omega) (fun a b => by simp; omega) ss
  exact hpm.eq_of_pairwise (fun a b _ _ h1 h2 => by omega) (hs.imp (fun h => by simpa using h)) hr
end Go.Proofs.YtbinbojicmhdlaeGreatDoor
