/-
  OWN WORK: Nme, Nab, Srt, Nsr, Nsu, Nus, Nof, Vcl, Vck.
-/
import Derived.Test.YtcinjbolflhjmadGreatDoorP13
import Derived.Shelf.SlIterI.Sorted
import Derived.Shelf.SortM.Plain
import Derived.Shelf.SortM.SortNone
import Derived.Test.YtcinjbolflhjmadGreatDoorProg
import Derived.Test.YtcinjbolflhjmadGreatDoorP0
import Derived.Maps.OwnSet
import Derived.Test.YtcinjbolflhjmadGreatDoorP9
import Derived.Test.YtcinjbolflhjmadGreatDoorP10
import Derived.Test.YtcinjbolflhjmadGreatDoorP11
import Derived.Maps.RangeWalk
import Derived.Test.YtcinjbolflhjmadGreatDoorP12
import Derived.Test.YtcinjbolflhjmadGreatDoorP8
/-
  THE WALK of naming's name, and that it holds with as much fuel as there are nodes.
-/
namespace Go.Proofs.YtcinjbolflhjmadGreatDoor
open Go.RowKit Go.Maps

set_option maxHeartbeats 6400000 in
set_option maxRecDepth 100000 in
theorem nname_step {b o c : Nat} {rs : List Raw} {d : Tn.Dc} {p : Option Addr} {cc : Nat} {cl : List Cl} {A L f : Nat} (H : NameC b o c rs d p cc cl A L f) (hne : A ≠ L) : NameC b o c rs d p cc cl A L (f + 1) := by
  intro W st n fo hx hS hL ho hf hn hnot
  have hF := hx.cx.fine
  have hdl := hF.good.len.2
  have hnn := Tn.lv_lt hn
  have hfw := ho.few hF
  have hrl : rs.length ≤ 1000 := by rw [hx.cx.doc.len]; omega
  have hnl : n < rs.length := by rw [hx.cx.doc.len]; exact hnn
  have B1 : Below W.heap.size W (W.alloc (.cells #[.slice (some ⟨b, o, none⟩) rs.length c, .slice p cl.length cc, .map (some A), .map (some L)] 66)) := (Below.refl W.heap.size W).alloc (Nat.le_refl _) _
  have C0 := box4' W (.slice (some ⟨b, o, none⟩) rs.length c) (.slice p cl.length cc) (.map (some A)) (.map (some L)) 66
  have P1 := hS.below B1
  have L1 := hL.below B1
  have N1 : Hid (Nx (W.alloc (.cells #[.slice (some ⟨b, o, none⟩) rs.length c, .slice p cl.length cc, .map (some A), .map (some L)] 66)) b o c rs d (.slice p cl.length cc) cl) := hx.below B1
  have M1 : Hid (AreMaps [A, L] (W.alloc (.cells #[.slice (some ⟨b, o, none⟩) rs.length c, .slice p cl.length cc, .map (some A), .map (some L)] 66))) := by
    intro x hx
    simp only [List.mem_cons, List.not_mem_nil, or_false] at hx
    rcases hx with rfl | rfl
    · exact P1.maps _ (by simp)
    · exact L1.maps _ (by simp)
  have HL1 : Hid (SetAt (W.alloc (.cells #[.slice (some ⟨b, o, none⟩) rs.length c, .slice p cl.length cc, .map (some A), .map (some L)] 66)) L st.lst) := L1
  have OK1 : Hid (OkS d (st1 d n st) ∧ 61 ≤ f + (st1 d n st).had.length) := ⟨ho.add hn hnot, by unfold st1; simp; omega⟩
  have VT : Hid (∀ j, Vt (Tn.nd d j)) := hx.vt
  have NM : Hid (nameF (f + 1) d cl st n fo = if (hidD d (n : Int) && !st.lst.contains n) = true then (emB, st1 d n st) else if Tn.has (Tn.nd d n).tag = false then (Wd.sqz (Tn.nd d n).text, st1 d n st) else tailA (nameF f d cl) d cl n fo (stepA (nameF f d cl) d cl n fo (st1 d n st))) := rfl
  have EL : Hid (∀ w, Nx w b o c rs d (.slice p cl.length cc) cl → SetAt w A (st1 d n st).had → SetAt w L (st1 d n st).lst → Calls Tryz.prog 53 #[.agg #[.slice (some ⟨b, o, none⟩) rs.length c, .slice p cl.length cc, .map (some A), .map (some L)], .int .i64 (n : Int), .bool fo] w fun e w' =>
      e = .returned (.string (tailA (nameF f d cl) d cl n fo (stepA (nameF f d cl) d cl n fo (st1 d n st))).1) ∧ SetAt w' A (tailA (nameF f d cl) d cl n fo (stepA (nameF f d cl) d cl n fo (st1 d n st))).2.had ∧ SetAt w' L (tailA (nameF f d cl) d cl n fo (stepA (nameF f d cl) d cl n fo (st1 d n st))).2.lst ∧ Bt [A, L] w w') := fun w h1 h2 h3 => nelem_of H hne h1 h2 h3 OK1.out.1 OK1.out.2 n hn fo
  have HB1 : Hid (Below W.heap.size W (W.alloc (.cells #[.slice (some ⟨b, o, none⟩) rs.length c, .slice p cl.length cc, .map (some A), .map (some L)] 66))) := B1
  have HNE : Hid (A ≠ L) := hne
  have HN : Hid (Tn.lvD d n = true) := hn
  obtain ⟨q0, q1, q2, q3⟩ := C0
  have hla : st.had.length ≤ 100000 := by omega
  have E1 : Hid ((st1 d n st).had = st.had ++ [n] ∧ (st1 d n st).lst = st.lst) := ⟨rfl, rfl⟩
  clear hx hS hL ho hf hn hnot hne H B1 L1
  generalize tailA (nameF f d cl) d cl n fo (stepA (nameF f d cl) d cl n fo (st1 d n st)) = TT at *
  generalize nameF (f + 1) d cl st n fo = RR at *
  go_enter Tryz.func31, Tryz.ntmps31
  go_upto_region 1 with fail
  generalize W.alloc (.cells #[.slice (some ⟨b, o, none⟩) rs.length c, .slice p cl.length cc, .map (some A), .map (some L)] 66) = w1 at *
  go_upto_region 3 with (at_mapUpdate; refine set_put rfl _ _ _ rfl A st.had n (by omega) hla rfl P1 rfl rfl ?_; intro w2 hS2 hg2; go_frame)
  have BT2 : Hid (Bt [A, L] w1 w2) := Bt.grow1 hg2 (by simp)
  have HS2 : Hid (SetAt w2 A (st1 d n st).had) := by show SetAt _ _ _; rw [E1.out.1]; exact hS2
  have HL2 : Hid (SetAt w2 L (st1 d n st).lst) := by show SetAt _ _ _; rw [E1.out.2]; exact HL1.out.bt (Bt.grow1 (S := [A]) hg2 (by simp)) (by have := HNE.out; simp; exact fun e => this e.symm)
  have K2 := BT2.out.keeps M1.out
  have N2 : Hid (Nx w2 b o c rs d (.slice p cl.length cc) cl) := N1.out.keeps K2 BT2.out.size
  have a0 := K2 _ _ q0
  have a1 := K2 _ _ q1
  have a2 := K2 _ _ q2
  have a3 := K2 _ _ q3
  have tc := tag_cell N2.out.cx.doc HN.out
  obtain ⟨tg0, tx0, _⟩ := tc
  have HH := nhas_any (S := st.lst) (by have := HL2.out; rw [E1.out.2] at this; exact this) (n : Int) (by omega) (by omega)
  have e0 : decide (0 ≤ (n : Int) ∧ (n : Int).toNat ∈ st.lst) = st.lst.contains n := by
    rw [Bool.eq_iff_iff]
    simp
  rw [e0] at HH
  have HI : Hid (∀ w, Below w2.heap.size w2 w → Calls Tryz.prog 51 #[.slice (some ⟨b, o, none⟩) rs.length c, .int .i64 (n : Int)] w fun e w' => e = .returned (.bool (hidD d (n : Int))) ∧ Below w.heap.size w w') := fun w hb => ohid_any (N2.out.cx.below hb) (n : Int)
  clear hS2 hg2 P1 K2 e0 N1 M1 HL1 q0 q1 q2 q3
  generalize hidD d (n : Int) = hd at *
  go_cut [15] from 16 to 26 (fun tv wc => tv = .bool (hd && !st.lst.contains n) ∧ Below w2.heap.size w2 wc)
  case first =>
    generalize st.lst.contains n = lc at *
    cases lc with
    | true =>
      go_wp2_with (go_at_call 50; refine HH.mono ?_; rintro e w3 ⟨rfl, hb3⟩)
      go_meet
      exact ⟨by simp, hb3⟩
    | false =>
      go_wp2_with (first
        | (go_at_call 50; refine HH.mono ?_; rintro e w3 ⟨rfl, hb3⟩; have J3 := keeps_below hb3 (Nat.le_refl _); have b0 := J3 _ _ a0; have HI3 := HI.out w3 hb3)
        | (go_at_call 51; refine HI3.mono ?_; rintro e w4 ⟨rfl, hb4⟩))
      go_meet
      exact ⟨by simp, hb3.trans (hb4.mono hb3.size)⟩
  case rest =>
    obtain ⟨rfl, hbc⟩ := hcut
    have AC : Hid (SetAt wc A (st1 d n st).had ∧ SetAt wc L (st1 d n st).lst ∧ Bt [A, L] W wc ∧ Nx wc b o c rs d (.slice p cl.length cc) cl) := ⟨HS2.out.below hbc, HL2.out.below hbc, (Bt.below HB1.out).trans (BT2.out.trans (Bt.below hbc)), N2.out.below hbc⟩
    have Kc := keeps_below hbc (Nat.le_refl _)
    have b0 := Kc _ _ a0
    have b1 := Kc _ _ a1
    have b2 := Kc _ _ a2
    have b3 := Kc _ _ a3
    have bt := Kc _ _ tg0
    have bx := Kc _ _ tx0
    clear HH HI Kc a0 a1 a2 a3 tg0 tx0 hbc
    cases hh : (hd && !st.lst.contains n) with
    | true =>
      have E : Hid (RR = (emB, st1 d n st)) := by show _ = _; rw [NM.out, if_pos hh]
      go_wp2_with fail
      go_ret
      rw [E.out]
      exact ⟨rfl, AC.out.1, AC.out.2.1, AC.out.2.2.1⟩
    | false =>
      have NM2 : Hid (RR = if Tn.has (Tn.nd d n).tag = false then (Wd.sqz (Tn.nd d n).text, st1 d n st) else TT) := by show _ = _; rw [NM.out, if_neg (by rw [hh]; simp)]
      have hi : Tn.isN d (n : Int) true = Tn.has (Tn.nd d n).tag := isN_el (by rw [Tn.isN_iff]; exact HN.out)
      have IS := dis_any AC.out.2.2.2.cx.doc (n : Int) true
      rw [hi] at IS
      clear NM hh hi
      cases ht : Tn.has (Tn.nd d n).tag with
      | false =>
        have E : Hid (RR = (Wd.sqz (Tn.nd d n).text, st1 d n st)) := by show _ = _; rw [NM2.out, if_pos ht]
        have SQ := Wd.squeeze_any (Tn.nd d n).text wc (VT.out n)
        rw [ht] at IS
        clear NM2 ht VT
        generalize Wd.sqz (Tn.nd d n).text = sq at *
        generalize (Tn.nd d n).text = tx at *
        generalize (Tn.nd d n).tag = tg at *
        go_wp2_with (first
          | (go_at_call 27; refine IS.mono ?_; rintro e w5 ⟨rfl, hww⟩; subst hww)
          | (go_at_call 52; refine SQ.mono ?_; rintro e w6 ⟨rfl, hb6⟩))
        go_ret
        rw [E.out]
        exact ⟨rfl, AC.out.1.below hb6, AC.out.2.1.below hb6, AC.out.2.2.1.trans (Bt.below hb6)⟩
      | true =>
        have E : Hid (RR = TT) := by show _ = _; rw [NM2.out, if_neg (by simp [ht])]
        have EE := EL.out wc AC.out.2.2.2 AC.out.1 AC.out.2.1
        rw [ht] at IS
        clear NM2 ht VT EL
        go_wp2_with (first
          | (go_at_call 27; refine IS.mono ?_; rintro e w5 ⟨rfl, hww⟩; subst hww)
          | (go_at_call 53; refine EE.mono ?_; rintro e w6 ⟨rfl, h1, h2, h3⟩))
        go_ret
        rw [E.out]
        exact ⟨rfl, h1, h2, AC.out.2.2.1.trans h3⟩

theorem nname_all {b o c : Nat} {rs : List Raw} {d : Tn.Dc} {p : Option Addr} {cc : Nat} {cl : List Cl} {A L : Nat} (hne : A ≠ L) : ∀ f, NameC b o c rs d p cc cl A L f
  | 0 => fun W st n fo hx hS hL ho hf hn hnot => absurd (ho.few hx.cx.fine) (by omega)
  | f + 1 => nname_step (nname_all hne f) hne
end Go.Proofs.YtcinjbolflhjmadGreatDoor

/-
  THE WALK of naming's about.
-/
namespace Go.Proofs.YtcinjbolflhjmadGreatDoor
open Go.RowKit Go.Maps

/-- what about answers of one that has that name -/
def abR (d : Tn.Dc) (cl : List Cl) (n : Nat) (nm : ByteArray) (x : List Nat) : ByteArray × St :=
  if full nm = true then aboutT d n nm (listD (nameF 64 d cl) d cl (n : Int) ⟨#[97, 114, 105, 97, 45, 100, 101, 115, 99, 114, 105, 98, 101, 100, 98, 121]⟩ ⟨[n], x, []⟩) else (emB, ⟨[n], x, []⟩)
theorem em_of {s : ByteArray} (h : full s = false) : s = emB := by
  unfold full at h
  have h2 : s.toList.isEmpty = true := by simpa using h
  have h3 : s.toList = [] := by simpa using h2
  have h4 : s.data = #[] := by
    have : s.data.toList = [] := by rw [← Wd.bs_toList s.data.toList]; exact h3
    simpa using this
  cases s
  simp only at h4
  subst h4
  rfl

set_option maxHeartbeats 3200000 in
set_option maxRecDepth 100000 in
theorem nabout_of {b o c : Nat} {rs : List Raw} {d : Tn.Dc} {p : Option Addr} {cc : Nat} {cl : List Cl} {A L : Nat} (hne : A ≠ L) {W : World} (hx : Nx W b o c rs d (.slice p cl.length cc) cl) (n : Nat) (hS : SetAt W A [n]) (hL : SetAt W L []) (hn : Tn.lvD d n = true) (nm : ByteArray) (x : List Nat) :
    Calls Tryz.prog 32 #[.agg #[.slice (some ⟨b, o, none⟩) rs.length c, .slice p cl.length cc, .map (some A), .map (some L)], .int .i64 (n : Int), .string nm] W fun e w' =>
      e = .returned (.string (abR d cl n nm x).1) ∧ SetAt w' A (abR d cl n nm x).2.had ∧ Bt [A, L] W w' := by
  have B1 : Below W.heap.size W (W.alloc (.cells #[.slice (some ⟨b, o, none⟩) rs.length c, .slice p cl.length cc, .map (some A), .map (some L)] 66)) := (Below.refl W.heap.size W).alloc (Nat.le_refl _) _
  have C0 := box4' W (.slice (some ⟨b, o, none⟩) rs.length c) (.slice p cl.length cc) (.map (some A)) (.map (some L)) 66
  have HS1 := hS.below B1
  have HL1 := hL.below B1
  have M1 : Hid (AreMaps [A, L] (W.alloc (.cells #[.slice (some ⟨b, o, none⟩) rs.length c, .slice p cl.length cc, .map (some A), .map (some L)] 66))) := maps2 HS1 HL1
  have ok0 : OkS d ⟨[n], x, []⟩ := ⟨by simp, by simpa using hn, by simp, by simp⟩
  have NX : Hid (∀ w, Bt [A, L] (W.alloc (.cells #[.slice (some ⟨b, o, none⟩) rs.length c, .slice p cl.length cc, .map (some A), .map (some L)] 66)) w → Nx w b o c rs d (.slice p cl.length cc) cl) := fun w hw => (hx.below B1).bt hw M1.out
  have LI : Calls Tryz.prog 54 #[.agg #[.slice (some ⟨b, o, none⟩) rs.length c, .slice p cl.length cc, .map (some A), .map (some L)], .int .i64 (n : Int), .string ⟨#[97, 114, 105, 97, 45, 100, 101, 115, 99, 114, 105, 98, 101, 100, 98, 121]⟩] (W.alloc (.cells #[.slice (some ⟨b, o, none⟩) rs.length c, .slice p cl.length cc, .map (some A), .map (some L)] 66)) fun e w' =>
      e = .returned (.string (listD (nameF 64 d cl) d cl (n : Int) ⟨#[97, 114, 105, 97, 45, 100, 101, 115, 99, 114, 105, 98, 101, 100, 98, 121]⟩ ⟨[n], x, []⟩).1) ∧ SetAt w' A (listD (nameF 64 d cl) d cl (n : Int) ⟨#[97, 114, 105, 97, 45, 100, 101, 115, 99, 114, 105, 98, 101, 100, 98, 121]⟩ ⟨[n], x, []⟩).2.had ∧ SetAt w' L (listD (nameF 64 d cl) d cl (n : Int) ⟨#[97, 114, 105, 97, 45, 100, 101, 115, 99, 114, 105, 98, 101, 100, 98, 121]⟩ ⟨[n], x, []⟩).2.lst ∧ Bt [A, L] (W.alloc (.cells #[.slice (some ⟨b, o, none⟩) rs.length c, .slice p cl.length cc, .map (some A), .map (some L)] 66)) w' :=
    nlisted_of (st := ⟨[n], x, []⟩) (nname_all hne 64) hne (hx.below B1) HS1 HL1 ok0 (by omega) (n : Int) _
  have SA : Hid (∀ w, Nx w b o c rs d (.slice p cl.length cc) cl → Calls Tryz.prog 55 #[.agg #[.slice (some ⟨b, o, none⟩) rs.length c, .slice p cl.length cc, .map (some A), .map (some L)], .int .i64 (n : Int), .string ⟨#[116, 105, 116, 108, 101]⟩] w fun e w' => e = .returned (.string (saidN d (n : Int) ⟨#[116, 105, 116, 108, 101]⟩)) ∧ Below w.heap.size w w') := fun w h => nsaid_any h.cx (some A) (some L) p cl.length cc (n : Int) _
  have HB1 : Hid (Below W.heap.size W (W.alloc (.cells #[.slice (some ⟨b, o, none⟩) rs.length c, .slice p cl.length cc, .map (some A), .map (some L)] 66))) := B1
  obtain ⟨q0, q1, q2, q3⟩ := C0
  have S0 : Hid (SetAt W A [n]) := hS
  have KM : Hid (∀ w, Bt [A, L] (W.alloc (.cells #[.slice (some ⟨b, o, none⟩) rs.length c, .slice p cl.length cc, .map (some A), .map (some L)] 66)) w → Keeps (W.alloc (.cells #[.slice (some ⟨b, o, none⟩) rs.length c, .slice p cl.length cc, .map (some A), .map (some L)] 66)) w) := fun w h => h.keeps M1.out
  cases hs : nm.toList.isEmpty with
  | true =>
    have E : Hid (abR d cl n nm x = (emB, ⟨[n], x, []⟩)) := by show _ = _; unfold abR; rw [if_neg (by simp [full_no hs])]
    rw [E.out]
    clear hS hL hx hn LI HS1 HL1 ok0 NX SA M1 KM
    go_enter Tryz.func32, Tryz.ntmps32
    go_wp2_with fail
    go_ret
    exact ⟨rfl, S0.out.below HB1.out, Bt.below HB1.out⟩
  | false =>
    have E : Hid (abR d cl n nm x = aboutT d n nm (listD (nameF 64 d cl) d cl (n : Int) ⟨#[97, 114, 105, 97, 45, 100, 101, 115, 99, 114, 105, 98, 101, 100, 98, 121]⟩ ⟨[n], x, []⟩)) := by show _ = _; unfold abR; rw [if_pos (full_yes hs)]
    rw [E.out]
    clear hS hL hx hn HS1 HL1 ok0 M1 S0 B1 E
    generalize listD (nameF 64 d cl) d cl (n : Int) ⟨#[97, 114, 105, 97, 45, 100, 101, 115, 99, 114, 105, 98, 101, 100, 98, 121]⟩ ⟨[n], x, []⟩ = t at *
    have TE : Hid (aboutT d n nm t = if (!full t.1 && !Tn.eqS (saidN d (n : Int) ⟨#[116, 105, 116, 108, 101]⟩) nm) = true then (saidN d (n : Int) ⟨#[116, 105, 116, 108, 101]⟩, t.2) else t) := rfl
    generalize aboutT d n nm t = R9 at *
    generalize saidN d (n : Int) ⟨#[116, 105, 116, 108, 101]⟩ = ti at *
    go_enter Tryz.func32, Tryz.ntmps32
    go_upto_region 1 with fail
    generalize W.alloc (.cells #[.slice (some ⟨b, o, none⟩) rs.length c, .slice p cl.length cc, .map (some A), .map (some L)] 66) = w1 at *
    cases ht : t.1.toList.isEmpty with
    | false =>
      have E : Hid (R9 = t) := by show _ = _; rw [TE.out, if_neg (by simp [full_yes ht])]
      clear TE
      go_wp2_with (go_at_call 54; refine LI.mono ?_; rintro e w2 ⟨rfl, h2, h2l, hb2⟩)
      go_ret
      rw [E.out]
      exact ⟨rfl, h2, (Bt.below HB1.out).trans hb2⟩
    | true =>
      cases he : (ti.toList == nm.toList) with
      | true =>
        have E : Hid (R9 = t) := by show _ = _; rw [TE.out, if_neg (by unfold Tn.eqS; simp only [he]; simp)]
        have hte : Hid (t.1 = emB) := em_of (full_no ht)
        clear TE
        have he2 : (ti.toList != nm.toList) = false := by simp [bne, he]
        go_wp2_with (first
          | (go_at_call 54; refine LI.mono ?_; rintro e w2 ⟨rfl, h2, h2l, hb2⟩; have N2 := NX.out w2 hb2; have K2 := KM.out w2 hb2; have b0 := K2 _ _ q0; have b1 := K2 _ _ q1; have b2 := K2 _ _ q2; have b3 := K2 _ _ q3; have SA2 := SA.out w2 N2; clear N2)
          | (go_at_call 55; refine SA2.mono ?_; rintro e w3 ⟨rfl, hb3⟩))
        go_ret
        rw [E.out]
        exact ⟨by rw [hte.out]; rfl, h2.below hb3, (Bt.below HB1.out).trans (hb2.trans (Bt.below hb3))⟩
      | false =>
        have E : Hid (R9 = (ti, t.2)) := by show _ = _; rw [TE.out, if_pos (by unfold Tn.eqS; simp only [he]; simp [full_no ht])]
        clear TE
        have he2 : (ti.toList != nm.toList) = true := by simp [bne, he]
        go_wp2_with (first
          | (go_at_call 54; refine LI.mono ?_; rintro e w2 ⟨rfl, h2, h2l, hb2⟩; have N2 := NX.out w2 hb2; have K2 := KM.out w2 hb2; have b0 := K2 _ _ q0; have b1 := K2 _ _ q1; have b2 := K2 _ _ q2; have b3 := K2 _ _ q3; have SA2 := SA.out w2 N2; clear N2)
          | (go_at_call 55; refine SA2.mono ?_; rintro e w3 ⟨rfl, hb3⟩))
        go_ret
        rw [E.out]
        exact ⟨rfl, h2.below hb3, (Bt.below HB1.out).trans (hb2.trans (Bt.below hb3))⟩
end Go.Proofs.YtcinjbolflhjmadGreatDoor

/-
  THE LIBRARY's CONTRACTS of slices.Sorted and maps.Keys, laid at this program's own numbers (by program, out of the kit's shelf).
-/
namespace Go.Proofs
open Go.Shelf
def Tryz.keysA_ren : Go.Shelf.Ren := ⟨fun | 7 => 58 | 10 => 95 | n => n, fun | 23 => 64 | 26 => 3 | 3 => 82 | 28 => 92 | 0 => 0 | 27 => 91 | 33 => 112 | 4 => 4 | n => n, fun | n => n⟩
theorem Tryz.keysA : Go.Proofs.SlLaysZI.n7 Tryz.prog Tryz.keysA_ren := {
  mixed := by kernel_rfl
  f7 := ⟨Tryz.f58.name, by decide, Tryz.func58.trans (congrArg some (by kernel_rfl))⟩
  f10 := ⟨Tryz.f95.name, by decide, Tryz.func95.trans (congrArg some (by kernel_rfl))⟩
  t0 := Tryz.underlying0
  a0 := Tryz.isAgg0
  z0 := Tryz.sizeOf0
  v0 := Tryz.zeroValue0
  t4 := Tryz.underlying4
  a4 := Tryz.isAgg4
  z4 := Tryz.sizeOf4
  v4 := Tryz.zeroValue4
  t23 := Tryz.underlying64
  a23 := Tryz.isAgg64
  z23 := Tryz.sizeOf64
  v23 := Tryz.zeroValue64
  t26 := Tryz.underlying3
  a26 := Tryz.isAgg3
  z26 := Tryz.sizeOf3
  v26 := Tryz.zeroValue3
  t27 := Tryz.underlying91
  a27 := Tryz.isAgg91
  z27 := Tryz.sizeOf91
  v27 := Tryz.zeroValue91
  t28 := Tryz.underlying92
  a28 := Tryz.isAgg92
  z28 := Tryz.sizeOf92
  v28 := Tryz.zeroValue92
  t33 := Tryz.underlying112
  a33 := Tryz.isAgg112
  z33 := Tryz.sizeOf112
  v33 := Tryz.zeroValue112 }
def Tryz.sortedA_ren : Go.Shelf.Ren := ⟨fun | 6 => 57 | 8 => 93 | 9 => 94 | 11 => 123 | 13 => 125 | 12 => 124 | 23 => 148 | 24 => 149 | 14 => 139 | 15 => 140 | 16 => 141 | 17 => 142 | 18 => 143 | 19 => 144 | 20 => 145 | 21 => 146 | 22 => 147 | 25 => 153 | 26 => 154 | 27 => 155 | 28 => 156 | 29 => 157 | 30 => 158 | 31 => 159 | n => n, fun | 26 => 3 | 28 => 92 | 24 => 29 | 0 => 0 | 3 => 3 | 37 => 136 | 48 => 154 | 50 => 156 | 4 => 4 | 40 => 148 | 39 => 147 | 45 => 129 | 5 => 5 | 9 => 9 | 51 => 160 | 55 => 164 | 57 => 166 | 58 => 167 | 33 => 112 | n => n, fun | n => n⟩
theorem Tryz.sortedA : Go.Proofs.SlLaysZI.n6 Tryz.prog Tryz.sortedA_ren := {
  mixed := by kernel_rfl
  f6 := ⟨Tryz.f57.name, by decide, Tryz.func57.trans (congrArg some (by kernel_rfl))⟩
  f8 := ⟨Tryz.f93.name, by decide, Tryz.func93.trans (congrArg some (by kernel_rfl))⟩
  f11 := ⟨Tryz.f123.name, by decide, Tryz.func123.trans (congrArg some (by kernel_rfl))⟩
  t0 := Tryz.underlying0
  a0 := Tryz.isAgg0
  z0 := Tryz.sizeOf0
  v0 := Tryz.zeroValue0
  t24 := Tryz.underlying29
  a24 := Tryz.isAgg29
  z24 := Tryz.sizeOf29
  v24 := Tryz.zeroValue29
  t26 := Tryz.underlying3
  a26 := Tryz.isAgg3
  z26 := Tryz.sizeOf3
  v26 := Tryz.zeroValue3
  t28 := Tryz.underlying92
  a28 := Tryz.isAgg92
  z28 := Tryz.sizeOf92
  v28 := Tryz.zeroValue92
  i26 := by kernel_rfl }
def Tryz.sortA_ren : Go.Shelf.Ren := ⟨fun | 5 => 94 | 8 => 125 | 7 => 124 | 19 => 148 | 20 => 149 | 10 => 139 | 11 => 140 | 12 => 141 | 13 => 142 | 14 => 143 | 15 => 144 | 16 => 145 | 17 => 146 | 18 => 147 | 30 => 153 | 31 => 154 | 32 => 155 | 33 => 156 | 34 => 157 | 35 => 158 | 40 => 159 | n => n, fun | 23 => 29 | 25 => 3 | 3 => 3 | 32 => 136 | 22 => 29 | 0 => 0 | 44 => 154 | 46 => 156 | 4 => 4 | 36 => 148 | 35 => 147 | 41 => 129 | 5 => 5 | 9 => 9 | 53 => 160 | 57 => 164 | 63 => 166 | 64 => 167 | n => n, fun | n => n⟩
theorem Tryz.sortA : Go.Proofs.SlLaysM.n5 Tryz.prog Tryz.sortA_ren := {
  mixed := by kernel_rfl
  f5 := ⟨Tryz.f94.name, by decide, Tryz.func94.trans (congrArg some (by kernel_rfl))⟩
  f7 := ⟨Tryz.f124.name, by decide, Tryz.func124.trans (congrArg some (by kernel_rfl))⟩
  f8 := Tryz.func125.trans (congrArg some (by kernel_rfl))
  f10 := ⟨Tryz.f139.name, by decide, Tryz.func139.trans (congrArg some (by kernel_rfl))⟩
  f11 := ⟨Tryz.f140.name, by decide, Tryz.func140.trans (congrArg some (by kernel_rfl))⟩
  f12 := ⟨Tryz.f141.name, by decide, Tryz.func141.trans (congrArg some (by kernel_rfl))⟩
  f13 := ⟨Tryz.f142.name, by decide, Tryz.func142.trans (congrArg some (by kernel_rfl))⟩
  f14 := ⟨Tryz.f143.name, by decide, Tryz.func143.trans (congrArg some (by kernel_rfl))⟩
  f15 := ⟨Tryz.f144.name, by decide, Tryz.func144.trans (congrArg some (by kernel_rfl))⟩
  f16 := ⟨Tryz.f145.name, by decide, Tryz.func145.trans (congrArg some (by kernel_rfl))⟩
  f17 := ⟨Tryz.f146.name, by decide, Tryz.func146.trans (congrArg some (by kernel_rfl))⟩
  f18 := ⟨Tryz.f147.name, by decide, Tryz.func147.trans (congrArg some (by kernel_rfl))⟩
  f19 := Tryz.func148.trans (congrArg some (by kernel_rfl))
  f20 := Tryz.func149.trans (congrArg some (by kernel_rfl))
  f30 := ⟨Tryz.f153.name, by decide, Tryz.func153.trans (congrArg some (by kernel_rfl))⟩
  f31 := Tryz.func154.trans (congrArg some (by kernel_rfl))
  f32 := Tryz.func155.trans (congrArg some (by kernel_rfl))
  f33 := ⟨Tryz.f156.name, by decide, Tryz.func156.trans (congrArg some (by kernel_rfl))⟩
  f34 := ⟨Tryz.f157.name, by decide, Tryz.func157.trans (congrArg some (by kernel_rfl))⟩
  f35 := ⟨Tryz.f158.name, by decide, Tryz.func158.trans (congrArg some (by kernel_rfl))⟩
  f40 := ⟨Tryz.f159.name, by decide, Tryz.func159.trans (congrArg some (by kernel_rfl))⟩
  t0 := Tryz.underlying0
  a0 := Tryz.isAgg0
  z0 := Tryz.sizeOf0
  v0 := Tryz.zeroValue0
  t3 := Tryz.underlying3
  a3 := Tryz.isAgg3
  z3 := Tryz.sizeOf3
  v3 := Tryz.zeroValue3
  t4 := Tryz.underlying4
  a4 := Tryz.isAgg4
  z4 := Tryz.sizeOf4
  v4 := Tryz.zeroValue4
  t5 := Tryz.underlying5
  a5 := Tryz.isAgg5
  z5 := Tryz.sizeOf5
  v5 := Tryz.zeroValue5
  t9 := Tryz.underlying9
  a9 := Tryz.isAgg9
  z9 := Tryz.sizeOf9
  v9 := Tryz.zeroValue9
  t22 := Tryz.underlying29
  a22 := Tryz.isAgg29
  z22 := Tryz.sizeOf29
  v22 := Tryz.zeroValue29
  t23 := Tryz.underlying29
  a23 := Tryz.isAgg29
  z23 := Tryz.sizeOf29
  v23 := Tryz.zeroValue29
  t25 := Tryz.underlying3
  a25 := Tryz.isAgg3
  z25 := Tryz.sizeOf3
  v25 := Tryz.zeroValue3
  t32 := Tryz.underlying136
  a32 := Tryz.isAgg136
  z32 := Tryz.sizeOf136
  v32 := Tryz.zeroValue136
  t35 := Tryz.underlying147
  a35 := Tryz.isAgg147
  z35 := Tryz.sizeOf147
  v35 := Tryz.zeroValue147
  t36 := Tryz.underlying148
  a36 := Tryz.isAgg148
  z36 := Tryz.sizeOf148
  v36 := Tryz.zeroValue148
  t41 := Tryz.underlying129
  a41 := Tryz.isAgg129
  z41 := Tryz.sizeOf129
  v41 := Tryz.zeroValue129
  t44 := Tryz.underlying154
  a44 := Tryz.isAgg154
  z44 := Tryz.sizeOf154
  v44 := Tryz.zeroValue154
  t46 := Tryz.underlying156
  a46 := Tryz.isAgg156
  z46 := Tryz.sizeOf156
  v46 := Tryz.zeroValue156
  t53 := Tryz.underlying160
  a53 := Tryz.isAgg160
  z53 := Tryz.sizeOf160
  v53 := Tryz.zeroValue160
  t57 := Tryz.underlying164
  a57 := Tryz.isAgg164
  z57 := Tryz.sizeOf164
  v57 := Tryz.zeroValue164
  t63 := Tryz.underlying166
  a63 := Tryz.isAgg166
  z63 := Tryz.sizeOf166
  v63 := Tryz.zeroValue166
  t64 := Tryz.underlying167
  a64 := Tryz.isAgg167
  z64 := Tryz.sizeOf167
  v64 := Tryz.zeroValue167 }
end Go.Proofs

/-
  slices.Sorted(maps.Keys(m)) at this program: a new slice that holds the keys, rising.
-/
namespace Go.Proofs.YtcinjbolflhjmadGreatDoor
open Go.RowKit Go.Maps Go.Sort Go.Shelf

theorem sortsA (m : Nat) : AnyZI.SortsIn Tryz.prog Tryz.sortedA_ren Fence.wide m :=
  ⟨fun blk off cap ss W hH hblk hsz => callsIn_wide.2 (AnyM.slices_Sort_int Tryz.sortA blk off cap ss W hH hblk hsz),
   fun p cap W => callsIn_wide.2 (AnyM.slices_Sort_int_none Tryz.sortA p cap W)⟩

theorem keys_calls (mb : Option Nat) (W : World) : Calls Tryz.prog 58 #[.map mb] W fun e w' => e = .returned (.func (.func 95) #[] #[.pointer (some ⟨W.heap.size, 0, none⟩)]) ∧ w' = W.alloc (.cells #[.map mb] 64) :=
  (callsIn_wide (n := 5)).1 (AnyZI.keys_in Tryz.keysA Fence.wide 5 trivial rfl mb W)

theorem sorted_calls {H : Type} (b nn : Nat) (D0 : DataW H) (R : Value → Option (DataW H × List MemPlace)) (w : World) (hown : w.ownsMap Tryz.prog 3 R b nn D0) (hmax : Maps.size D0 ≤ maxLen) (hbytes : Maps.size D0 * 8 ≤ 140737488355328) :
    Calls Tryz.prog 57 #[.func (.func 95) #[] #[.pointer (some ⟨w.heap.size, 0, none⟩)]] (w.alloc (.cells #[.map (some b)] 64)) fun e w' => ∃ (v : Value) (ss : List Int), e = .returned v ∧ ss.Perm (intKeys D0) ∧
      w'.ownsRow w.heap.size 3 1 v ss.length ((ss.mergeSort (fun x y => decide (x ≤ y))).map encZ) ∧ (v = .slice none 0 0 ↔ ss = []) ∧ Below w.heap.size w w' := by
  have hbl := hown.lt
  have hseq : SeqGives Fence.wide 2 Tryz.prog 95 #[.pointer (some ⟨w.heap.size, 0, none⟩)] encZ (fun ss => ss.Perm (intKeys D0)) (Maps.size D0) (w.alloc (.cells #[.map (some b)] 64)) :=
    AnyZI.keys_gives (ρ := Tryz.keysA_ren) { Tryz.keysA with } Fence.wide _ trivial rfl (by omega) w.heap.size b nn D0 _ (by simp) (by simp) (by
      obtain ⟨es, clock, hb, Ft, hs, hD⟩ := hown
      exact ⟨es, clock, (Below.heap_alloc _ _ b hbl).trans hb, Ft, hs, hD⟩)
  have cS := AnyZI.sorted_in Tryz.sortedA Fence.wide 5 trivial trivial trivial trivial rfl (by omega) (sortsA _) (enters_of Tryz.func94 (by kernel_rfl) rfl) 95 #[.pointer (some ⟨w.heap.size, 0, none⟩)] trivial (enters_of Tryz.func95 (by kernel_rfl) rfl) _ _ hmax hbytes _ hseq
  change CallsIn _ _ Tryz.prog 57 _ _ _ at cS
  refine ((callsIn_wide (n := 5)).1 cS).mono ?_
  rintro e w' ⟨v, ss, rfl, hS, hrow, hnil, hb⟩
  exact ⟨v, ss, rfl, hS, ownsRow_base_a hrow (by simp), hnil, ((Below.refl _ w).alloc (Nat.le_refl _) _).trans (hb.mono (by simp))⟩
end Go.Proofs.YtcinjbolflhjmadGreatDoor

/-
  PLAIN MATHEMATICS: the keys of a set of nodes, sorted, are the nodes, rising.
-/
namespace Go.Proofs.YtcinjbolflhjmadGreatDoor
open Go.RowKit Go.Maps Go.Sort

theorem keys_sorted {D : DataW Unit} {S : List Nat} {N : Nat} {ss : List Int} (hN : ∀ k ∈ S, k < N) (hp : ss.Perm (intKeys D)) (ht : Tidy D) (hk : ∀ kl, Maps.has D kl = true ↔ ∃ k ∈ S, kl = .int .i64 (k : Int)) (hl : ∀ es, D = .map es → ∀ p ∈ es, WideAt.IsKeyLit p.1) :
    ss.mergeSort (fun x y => decide (x ≤ y)) = ((List.range N).filter (fun k => S.contains k)).map Int.ofNat := by
  obtain ⟨es, rfl, hpw⟩ := ht
  have hes : ∀ p ∈ es, ∃ k ∈ S, p.1 = .int .i64 (k : Int) := fun p hp' => (hk p.1).mp (List.any_eq_true.2 ⟨p, hp', WideAt.sameKey_self (hl es rfl p hp')⟩)
  have hmem : ∀ x, x ∈ intKeys (DataW.map es) ↔ ∃ k ∈ S, x = (k : Int) := by
    intro x
    constructor
    · intro hx
      obtain ⟨p, hp', e⟩ := List.mem_map.1 hx
      obtain ⟨k, hkS, e2⟩ := hes p hp'
      rw [e2] at e
      exact ⟨k, hkS, e.symm⟩
    · rintro ⟨k, hkS, rfl⟩
      obtain ⟨p, hp', e⟩ := List.any_eq_true.1 ((hk (.int .i64 (k : Int))).mpr ⟨k, hkS, rfl⟩)
      exact List.mem_map.2 ⟨p, hp', by rw [WideAt.sameKey_eq e]; rfl⟩
  have hnd : (intKeys (DataW.map es)).Nodup := by
    unfold intKeys
    refine List.pairwise_map.2 (hpw.imp_of_mem fun {p q} hp' hq' hne e => hne ?_)
    obtain ⟨k, _, e1⟩ := hes p hp'
    obtain ⟨j, _, e2⟩ := hes q hq'
    rw [e1, e2] at e ⊢
    have : (k : Int) = (j : Int) := e
    rw [this]
  have hr : (((List.range N).filter (fun k => S.contains k)).map Int.ofNat).Pairwise (fun a b => a ≤ b) := by
    refine List.pairwise_map.2 ((List.pairwise_lt_range.sublist List.filter_sublist).imp ?_)
    intro a b h
    show (a : Int) ≤ (b : Int)
    omega
  have hr2 : (((List.range N).filter (fun k => S.contains k)).map Int.ofNat).Nodup := by
    refine List.pairwise_map.2 ((List.pairwise_lt_range.sublist List.filter_sublist).imp ?_)
    intro a b h e
    have : (a : Int) = (b : Int) := e
    omega
  have hpm : (ss.mergeSort (fun x y => decide (x ≤ y))).Perm (((List.range N).filter (fun k => S.contains k)).map Int.ofNat) := by
    refine (List.mergeSort_perm _ _).trans (hp.trans ((List.perm_ext_iff_of_nodup hnd hr2).2 fun x => ?_))
    rw [hmem]
    constructor
    · rintro ⟨k, hkS, rfl⟩
      exact List.mem_map.2 ⟨k, List.mem_filter.2 ⟨List.mem_range.2 (hN k hkS), by simpa using hkS⟩, rfl⟩
    · intro hx
      obtain ⟨k, hk2, rfl⟩ := List.mem_map.1 hx
      exact ⟨k, by simpa using (List.mem_filter.1 hk2).2, rfl⟩
  have hs := List.pairwise_mergeSort (le := fun x y : Int => decide (x ≤ y)) (fun a b c h1 h2 => by simp at h1 h2 ⊢; omega) (fun a b => by simp; omega) ss
  exact hpm.eq_of_pairwise (fun a b _ _ h1 h2 => by omega) (hs.imp (fun h => by simpa using h)) hr
end Go.Proofs.YtcinjbolflhjmadGreatDoor

/-
  THE WALK of naming's uses.
-/
namespace Go.Proofs.YtcinjbolflhjmadGreatDoor
open Go.RowKit Go.Maps Go.Sort

theorem grown_below {w w' : World} (h : Below w.heap.size w w') : w.grownBy w' none := ⟨h.os, h.tape, h.output, h.size, fun i hi _ => h.block i hi⟩
theorem same_int (a b : Int) : (Lit.int .i64 a).sameKey (.int .i64 b) = decide (a = b) := by
  by_cases e : a = b
  · subst e
    rw [WideAt.sameKey_self (by trivial)]
    simp
  · rw [sameKey_ne (fun h => e (by injection h))]
    simp [e]
theorem unit_key {key : Value} {kl : Lit} (h : keyOf Tryz.prog 3 key = some kl) : ∃ x, key = Value.int .i64 x := by
  obtain ⟨x, e, _⟩ := Maps.keyOf_int_inv Tryz.underlying3 h
  exact ⟨x, e⟩
theorem unit_val {v : Value} {y : DataW Unit × List MemPlace} (h : unitElem v = some y) : ∃ _ : Unit, v = .agg #[] := ⟨(), (unitElem_inv h).1⟩

/-- what was found so far: acc0, and the lines of those keys that have come -/
def Come (d : Tn.Dc) (S acc0 acc : List Nat) (left : Lit → Bool) : Prop := ∀ k, k ∈ acc ↔ k ∈ acc0 ∨ ∃ x ∈ S, left (.int .i64 (x : Int)) = false ∧ k ∈ lineD d (x : Int)
theorem come_start {d : Tn.Dc} {S acc0 : List Nat} {left : Lit → Bool} (h : ∀ x ∈ S, left (.int .i64 (x : Int)) = true) : Come d S acc0 acc0 left := fun k => by
  constructor
  · exact Or.inl
  · rintro (h1 | ⟨x, hx, h2, _⟩)
    · exact h1
    · rw [h x hx] at h2
      cases h2
theorem come_step {d : Tn.Dc} {S acc0 acc : List Nat} {left : Lit → Bool} (h : Come d S acc0 acc left) {x : Nat} (hx : x ∈ S) : Come d S acc0 (acc ++ lineD d (x : Int)) (fun z => left z && !z.sameKey (.int .i64 (x : Int))) := by
  intro k
  rw [List.mem_append, h k]
  constructor
  · rintro ((h1 | ⟨y, hy, h2, h3⟩) | h1)
    · exact Or.inl h1
    · exact Or.inr ⟨y, hy, by simp [h2], h3⟩
    · exact Or.inr ⟨x, hx, by simp [same_int], h1⟩
  · rintro (h1 | ⟨y, hy, h2, h3⟩)
    · exact Or.inl (Or.inl h1)
    · by_cases e : y = x
      · subst e
        exact Or.inr h3
      · refine Or.inl (Or.inr ⟨y, hy, ?_, h3⟩)
        simp only [same_int] at h2
        have : ¬ (y : Int) = (x : Int) := by omega
        simpa [this] using h2
theorem come_end {d : Tn.Dc} {S acc0 acc : List Nat} {left : Lit → Bool} (h : Come d S acc0 acc left) (hl : ∀ kl, left kl = false) (k : Nat) : k ∈ acc ↔ k ∈ acc0 ∨ ∃ x ∈ S, k ∈ lineD d (x : Int) := by
  rw [h k]
  constructor
  · rintro (h1 | ⟨x, hx, _, h2⟩)
    · exact Or.inl h1
    · exact Or.inr ⟨x, hx, h2⟩
  · rintro (h1 | ⟨x, hx, h2⟩)
    · exact Or.inl h1
    · exact Or.inr ⟨x, hx, hl _, h2⟩

theorem line_lt {d : Tn.Dc} (h : Fine d) : ∀ {f : Nat} {n : Int} {k : Nat}, k ∈ lineF f d n → k < d.length
  | 0, _, _, hk => by simp [lineF] at hk
  | f + 1, n, k, hk => by
    rw [lineF] at hk
    split at hk
    · rename_i hi
      obtain ⟨m, rfl, hm, _⟩ := isN_nat hi
      rw [List.mem_cons] at hk
      rcases hk with rfl | hk
      · simpa using hm
      · exact line_lt h hk
    · simp at hk

set_option maxHeartbeats 6400000 in
set_option maxRecDepth 100000 in
theorem nuses_any {w : World} {b o c : Nat} {rs : List Raw} {d : Tn.Dc} (hx : Cx w b o c rs d) {g : Nat} (AA : Nat → Nat) (SS : Nat → List Nat) (hgc : ∀ j, j < 2 → w.cell? ⟨g, j, none⟩ = some (.map (some (AA j)))) (hS : ∀ j, j < 2 → SetAt w (AA j) (SS j)) (hSl : ∀ j, j < 2 → (SS j).length ≤ 100)
    (hSx : ∀ j, j < 2 → ∀ x ∈ SS j, Tn.lvD d x = true) (L : List Nat) (hL : ∀ k, k ∈ L ↔ ∃ j, j < 2 ∧ ∃ x ∈ SS j, k ∈ lineD d (x : Int)) :
    Calls Tryz.prog 33 #[.slice (some ⟨b, o, none⟩) rs.length c, .slice (some ⟨g, 0, none⟩) 2 2] w fun e w' => ∃ v, e = .returned v ∧ OwnI w' w.heap.size v (usesD d L) ∧ Below w.heap.size w w' := by
  have hmm := @run_makeMap Tryz.prog
  have HX : Hid (Cx w b o c rs d) := hx
  have hF := hx.fine
  have G : Hid (∀ j, j < 2 → w.cell? ⟨g, j, none⟩ = some (.map (some (AA j)))) := hgc
  have SA : Hid (∀ j, j < 2 → SetAt w (AA j) (SS j)) := hS
  have SL : Hid (∀ j, j < 2 → (SS j).length ≤ 100) := hSl
  have SX : Hid (∀ j, j < 2 → ∀ x ∈ SS j, Tn.lvD d x = true) := hSx
  have HL : Hid (∀ k, k ∈ L ↔ ∃ j, j < 2 ∧ ∃ x ∈ SS j, k ∈ lineD d (x : Int)) := hL
  have M0 := set_made w
  have B1 := (Below.refl w.heap.size w).alloc (Nat.le_refl _) (.map #[] 0)
  have z1 : (w.alloc (.map #[] 0)).heap.size = w.heap.size + 1 := by simp
  clear hx hgc hS hSl hSx hL
  go_enter Tryz.func33, Tryz.ntmps33
  go_upto_region 3 with fail
  generalize w.alloc (.map #[] 0) = w1 at *
  go_loopw [12] (fun iv wr => ∃ (j : Nat) (acc : List Nat), j ≤ 2 ∧ iv = .int .i64 j ∧ SetAt wr w.heap.size acc ∧ Hid (∀ k, k ∈ acc ↔ ∃ i, i < j ∧ ∃ x ∈ SS i, k ∈ lineD d (x : Int)) ∧ acc.length ≤ 6500 * j ∧ Bt [w.heap.size] w1 wr)
    (fun iv _ => 2 - (intOf iv).toNat)
  case atStart => exact ⟨0, [], by omega, rfl, M0, fun k => by simp, by simp, Bt.refl _ _⟩
  case round =>
    obtain ⟨j, acc0, hj, rfl, hU, hacc, hal, hbt⟩ := hrel
    have KW : Keeps w wr := (keeps_below B1 (Nat.le_refl _)).trans (hbt.keeps M0.maps)
    have zr : w1.heap.size ≤ wr.heap.size := hbt.size
    have CX : Hid (Cx wr b o c rs d) := HX.out.keeps KW (by have := B1.size; omega)
    by_cases hlt : j < 2
    · have hA := SA.out j hlt
      have hAlt := hA.lt
      have hc : wr.cell? ⟨g, j, none⟩ = some (.map (some (AA j))) := KW _ _ (G.out j hlt)
      have hAr : SetAt wr (AA j) (SS j) := hA.same (by rw [hbt.block (AA j) (by omega) (by simp; omega), B1.block (AA j) hAlt])
      have hAU : AA j ≠ w.heap.size := by omega
      obtain ⟨D, hown, hD⟩ := hAr
      have SXj := SX.out j hlt
      have SLj := SL.out j hlt
      have hsz := hown.size_le
      generalize AA j = A at *
      generalize hSj : SS j = Sj at *
      go_wp2_with (first
        | (at_range; refine wpList_range_own _ rfl _ 64 rfl 3 82 keyU Tryz.underlying64 _ A _ D rfl hown ?_; intro w5 hrg0 hg0 hs0)
        | go_in)
      go_frame
      have hd2 : decide ((j : Int) < 2) = true := by simp; omega
      rw [hd2]
      clear hd2
      have hU5 : SetAt w5 w.heap.size acc0 := hU.same (hg0.block _ hU.lt (by simp))
      have hbt5 : Bt [w.heap.size] w1 w5 := hbt.trans ⟨hg0.os, hg0.tape, hg0.output, hg0.size, fun k hk _ => hg0.block k hk (by simp)⟩
      have hrU : wr.heap.size ≠ w.heap.size := by omega
      have hS1 : Hid (SS j = Sj) := hSj
      have HD : Hid (∀ kl, Maps.has D kl = true ↔ ∃ k ∈ Sj, kl = .int .i64 (k : Int)) := hD
      clear hSj hD hc hg0 hs0 hU hA hown CX KW hbt
      generalize wr.heap.size = R at *
      go_loopw [8] (fun _ wq => ∃ (left : Lit → Bool) (cnt : Nat) (acc : List Nat), wq.ranges Tryz.prog 3 (unitElem (H := Unit)) A R (Sj.length + 1) D left cnt ∧ cnt ≤ Maps.size D ∧ SetAt wq w.heap.size acc ∧ Hid (Come d Sj acc0 acc left) ∧ Hid (∀ kl, left kl = true → Maps.has D kl = true) ∧ acc.length ≤ 6500 * j + 64 * (Maps.size D - cnt) ∧ Bt [w.heap.size] w1 wq)
        (fun _ wq => wq.rangeLeft A R)
      case atStart => exact ⟨_, _, acc0, hrg0, Nat.le_refl _, hU5, come_start (fun x hx => (HD.out _).mpr ⟨x, hx, rfl⟩), fun _ h => h, by omega, hbt5⟩
      case round =>
        obtain ⟨left, cnt, acc, hrg, hcs, hU2, hcm, hlf, hal2, hbt2⟩ := hrel
        clear hrg0 hU5 hbt5 hal
        go_wp2_with (first
          | (at_next; refine wpList_next_ranges (α := Int) (β := Unit) _ rfl _ rfl 3 keyU _ (Value.int .i64) (fun _ => .agg #[]) (fun key kl h => unit_key h) (fun v y h => unit_val h) A R (Sj.length + 1) D left cnt rfl hrg ?_ ?_)
          | go_in)
        · intro hc0 hl0
          go_wp2
          go_roundw
          case rel =>
            refine ⟨j + 1, acc, by omega, by go_num, hU2, fun k => ?_, by omega, hbt2⟩
            rw [come_end hcm.out hl0 k, hacc.out k]
            constructor
            · rintro (⟨i, hi, h⟩ | ⟨x, hx, h⟩)
              · exact ⟨i, by omega, h⟩
              · exact ⟨j, by omega, x, by rw [hS1.out]; exact hx, h⟩
            · rintro ⟨i, hi, x, hx, h⟩
              by_cases e : i = j
              · subst e
                exact Or.inr ⟨x, by rw [← hS1.out]; exact hx, h⟩
              · exact Or.inl ⟨i, by omega, x, hx, h⟩
          case measure => simp [intOf]; omega
        · intro x kl yd yp w6 cnt6 hkx hlx hy hat hrg6 hlt6 hg6 hs6 hen
          obtain ⟨x', ex, rfl, _⟩ := Maps.keyOf_int_inv Tryz.underlying3 hkx
          cases ex
          obtain ⟨m, hm, ekx⟩ := (HD.out _).mp (hlf.out _ hlx)
          have ex : x = (m : Int) := by injection ekx
          subst ex
          clear ekx hkx hat hy
          have hml := SXj m hm
          have hU6 : SetAt w6 w.heap.size acc := hU2.same (hg6.block _ hU2.lt (fun e => hrU (by injection e with e; exact e.symm)))
          have hbt6 : Bt [w.heap.size] w1 w6 := ⟨hg6.os.trans hbt2.os, hg6.tape.trans hbt2.tape, hg6.output.trans hbt2.output, Nat.le_trans hbt2.size hg6.size, fun k hk hn => (hg6.block k (Nat.lt_of_lt_of_le hk hbt2.size) (fun e => by injection e with e; omega)).trans (hbt2.block k hk hn)⟩
          have HM : Hid (Tn.lvD d m = true) := hml
          have LL : Hid ((lineD d (m : Int)).length ≤ 64) := line_len d _
          clear hml
          have HRG : Hid (wr.ranges Tryz.prog 3 (unitElem (H := Unit)) A R (Sj.length + 1) D left cnt) := hrg
          go_upto_region 8 with fail
          go_loopw [8] (fun nv wq => ∃ (z : Int) (dn : List Nat), nv = .int .i64 z ∧ Hid (lineD d (m : Int) = dn ++ lineD d z) ∧ Hid (z = -1 ∨ ∃ k : Nat, z = (k : Int) ∧ Tn.lvD d k = true) ∧ wq.ranges Tryz.prog 3 (unitElem (H := Unit)) A R (Sj.length + 1) D (fun z => left z && !z.sameKey (.int .i64 (m : Int))) cnt6 ∧ SetAt wq w.heap.size (acc ++ dn) ∧ Bt [w.heap.size] w1 wq)
            (fun nv _ => (lineD d (intOf nv)).length)
          case atStart => exact ⟨(m : Int), [], rfl, by show _ = _; simp, Or.inr ⟨m, rfl, HM.out⟩, hrg6, by simpa using hU6, hbt6⟩
          case round =>
            obtain ⟨z, dn, rfl, HL2, HZ, hrq, hUq, hbq⟩ := hrel
            clear hen hrg6 hU6 hbt6 hg6 hs6 hrg hU2 hbt2
            have KQ : Keeps w wr := (keeps_below B1 (Nat.le_refl _)).trans (hbq.keeps M0.maps)
            have CQ : Cx wr b o c rs d := HX.out.keeps KQ (by have := B1.size; have := hbq.size; omega)
            rcases HZ.out with rfl | ⟨k, rfl, hk⟩
            · have hI := dis_any CQ.doc (-1) false
              have e0 : Tn.isN d (-1) false = false := by unfold Tn.isN; simp
              rw [e0] at hI
              have E9 : Hid (lineD d (m : Int) = dn) := by show _ = _; rw [HL2.out, line_nil hF e0, List.append_nil]
              clear e0 CQ
              go_wp2_with (go_at_call 27; refine hI.mono ?_; rintro e w8 ⟨rfl, hww⟩; subst hww)
              go_roundw
              case rel =>
                refine ⟨fun z => left z && !z.sameKey (.int .i64 (m : Int)), cnt6, acc ++ dn, hrq, by omega, hUq, ?_, fun kl hkl => hlf.out kl (by simp at hkl; exact hkl.1), ?_, hbq⟩
                · rw [← E9.out]
                  exact come_step hcm.out hm
                · have := LL.out
                  rw [E9.out] at this
                  rw [List.length_append]
                  omega
              case measure => rw [hrq.left_eq, HRG.out.left_eq]; exact hlt6
            · have hI := dis_any CQ.doc (k : Int) false
              have e1 : Tn.isN d (k : Int) false = true := by rw [Tn.isN_iff]; exact hk
              rw [e1] at hI
              have E8 : Hid (lineD d (k : Int) = k :: lineD d (upF d (k : Int))) := line_cons hF e1
              have UP : Hid (upF d (k : Int) = -1 ∨ ∃ q : Nat, upF d (k : Int) = (q : Int) ∧ Tn.lvD d q = true) := by
                rcases up_cases hF (k : Int) with h | ⟨q, _, h, _, _, h2, _⟩
                · exact Or.inl h
                · exact Or.inr ⟨q, h, h2⟩
              have hkn := Tn.lv_lt hk
              have hdl := hF.good.len.2
              have hUl : (acc ++ dn).length ≤ 100000 := by
                have h1 := LL.out
                rw [HL2.out, List.length_append] at h1
                rw [List.length_append]
                omega
              have CD : Hid (DocAt wr b o c rs d) := CQ.doc
              have OK9 : Hid (Okd d) := hF.okd
              clear e1 CQ hk
              go_wp2_with (first
                | (go_at_call 27; refine hI.mono ?_; rintro e w8 ⟨rfl, hww⟩; subst hww)
                | (at_mapUpdate; refine set_put rfl _ _ _ rfl w.heap.size (acc ++ dn) k (by omega) hUl rfl (hUq.pre k) rfl rfl ?_; intro w9 hU9 hg9; go_frame; have hU := fup_any (CD.out.keeps ((Bt.grow1 hg9 (by simp)).keeps hUq.maps)) OK9.out (k : Int))
                | (go_at_call 56; refine hU.mono ?_; rintro e w10 ⟨rfl, hb10⟩))
              go_roundw
              case rel => 
                refine ⟨upF d (k : Int), dn ++ [k], rfl, ?_, UP.out, ?_, ?_, ?_⟩
                · show _ = _
                  rw [HL2.out, E8.out]
                  simp
                · exact (hrq.kept hg9 (fun e => hAU (by injection e)) (fun e => hrU (by injection e))).kept (grown_below hb10) (by simp) (by simp)
                · rw [← List.append_assoc]
                  exact hU9.below hb10
                · exact (hbq.grow hg9 (by simp)).high hb10 (by have := hbq.size; have := hg9.size; omega)
              case measure => 
                show (lineD d (upF d (k : Int))).length < (lineD d (k : Int)).length
                rw [E8.out]
                simp
    · obtain rfl : j = 2 := by omega
      obtain ⟨D, hown, hD⟩ := hU
      have hsz := hown.size_le
      have ML := sorted_calls w.heap.size _ D _ wr hown (by unfold maxLen; omega) (by omega)
      have HO : Hid (wr.ownsMap Tryz.prog 3 (unitElem (H := Unit)) w.heap.size (acc0.length + 1) D) := hown
      have HD : Hid (∀ kl, Maps.has D kl = true ↔ ∃ k ∈ acc0, kl = .int .i64 (k : Int)) := hD
      clear hown hD CX KW
      have KK := @keys_calls
      go_wp2_with (first
        | (go_at_call 58; refine (KK _ _).mono ?_; rintro e w6 ⟨rfl, rfl⟩)
        | (go_at_call 57; refine ML.mono ?_; rintro e w7 ⟨v, ss, rfl, hpm, hrow, hnl, hb7⟩))
      go_ret
      have hs := keys_sorted (N := d.length) (S := acc0) (fun k hk => by
        obtain ⟨i, hi, x, hx, hl⟩ := (hacc.out k).mp hk
        exact line_lt hF hl) hpm (HO.out.tidy keyU) HD.out (fun es e p hp => by
          obtain ⟨es2, e2, _, h3⟩ := HO.out.entries keyU
          rw [e] at e2
          injection e2 with e2
          exact h3 p (by rw [← e2]; exact hp))
      have eu : usesD d L = (List.range d.length).filter (fun k => acc0.contains k) := by
        unfold usesD
        apply List.filter_congr
        intro k _
        rw [Bool.eq_iff_iff]
        simp only [List.contains_iff_mem]
        rw [HL.out k, hacc.out k]
      refine ⟨v, rfl, ?_, (B1.trans (hbt.low (by omega) (by simp))).trans (hb7.mono (by omega))⟩
      unfold OwnI
      rw [eu]
      rw [hs] at hrow
      have el : ss.length = ((List.range d.length).filter (fun k => acc0.contains k)).length := by
        rw [← List.length_mergeSort (le := fun x y : Int => decide (x ≤ y)), hs, List.length_map]
      rw [el, List.map_map] at hrow
      exact ownsRow_base_a hrow (by omega)
end Go.Proofs.YtcinjbolflhjmadGreatDoor

/-
  THE WALK of naming.Of.
-/
namespace Go.Proofs.YtcinjbolflhjmadGreatDoor
open Go.RowKit Go.Maps

theorem val_text {d : Tn.Dc} {n : Int} (h : Tn.isN d n true = false) (a : ByteArray) : valN d n a = emB := by
  unfold valN attrN
  rw [if_neg (by simp [h])]
  rfl
theorem ab_text {d : Tn.Dc} {cl : List Cl} {n : Nat} (h : Tn.isN d (n : Int) true = false) (nm : ByteArray) (x : List Nat) : abR d cl n nm x = (emB, ⟨[n], x, []⟩) := by
  unfold abR
  split
  · have e1 : listD (nameF 64 d cl) d cl (n : Int) ⟨#[97, 114, 105, 97, 45, 100, 101, 115, 99, 114, 105, 98, 101, 100, 98, 121]⟩ ⟨[n], x, []⟩ = (emB, ⟨[n], x, []⟩) := by
      unfold listD refsD
      rw [val_text h]
      have : Wd.toksOf emB = [] := by decide +kernel
      rw [this]
      show (Wd.sqz (joinB []), _) = _
      have e : Wd.sqz (joinB []) = emB := by decide +kernel
      rw [e]
      rfl
    rw [e1]
    unfold aboutT
    have e2 : saidN d (n : Int) ⟨#[116, 105, 116, 108, 101]⟩ = emB := by
      unfold saidN
      rw [val_text h]
      decide +kernel
    rw [e2]
    split <;> rfl
  · rfl

theorem field_named (x0 x1 x2 x3 x4 x5 x6 : Value) (w : World) : (Instr.field 45 (.agg #[x0, x1, x2, x3, x4, x5, x6]) 5).run Tryz.prog w = .ok x5 w := by kernel_rfl
structure MemoP (d : Tn.Dc) (cl : List Cl) (n : Nat) (r a : ByteArray × St) : Prop where
  name : (memoD d cl (n : Int)).name = r.1
  about : (memoD d cl (n : Int)).about = a.1
  ok1 : OkS d r.2
  ok2 : OkS d a.2
  uses : ∃ L, (memoD d cl (n : Int)).uses = usesD d L ∧ ∀ k, k ∈ L ↔ (∃ x ∈ r.2.had, k ∈ lineD d (x : Int)) ∨ ∃ x ∈ a.2.had, k ∈ lineD d (x : Int)

theorem memo_asked {d : Tn.Dc} (hF : Fine d) (hV : ∀ j, Vn (Tn.nd d j)) (hT : ∀ j, Vt (Tn.nd d j)) {cl : List Cl} (hC : Forest d cl) {n : Nat} (hn : Tn.lvD d n = true) (hq : (!Tn.has (Tn.nd d n).tag || namedI (roleD d (n : Int))) = true) :
    MemoP d cl n (nameF 64 d cl ⟨[], lineD d (n : Int), []⟩ n false) (abR d cl n (nameF 64 d cl ⟨[], lineD d (n : Int), []⟩ n false).1 (nameF 64 d cl ⟨[], lineD d (n : Int), []⟩ n false).2.asked) := by
  have hi : Tn.isN d (n : Int) false = true := by rw [Tn.isN_iff]; exact hn
  have ok0 : OkS d ⟨[], lineD d (n : Int), []⟩ := ⟨by simp, by simp, by simp, by simp⟩
  have hNok := name_ok hF hV hT hC 64
  have h1 := hNok ⟨[], lineD d (n : Int), []⟩ n false ok0 (by simp) hn (by simp)
  have eN : nameM d cl n = nameF 64 d cl ⟨[], lineD d (n : Int), []⟩ n false := by unfold nameM; rw [if_pos hq]
  have c1 : Cov d (lineD d (n : Int)) (nameF 64 d cl ⟨[], lineD d (n : Int), []⟩ n false).2 := h1.went.cov _ (fun k => by simp)
  generalize hr : nameF 64 d cl ⟨[], lineD d (n : Int), []⟩ n false = r at *
  have okA : OkS d ⟨[n], r.2.asked, []⟩ := ⟨by simp, by simpa using hn, by simp, by simp⟩
  have c2 : Cov d r.2.asked ⟨[n], r.2.asked, []⟩ := fun k => by
    constructor
    · exact Or.inl
    · rintro (h | ⟨x, hx, h⟩)
      · exact h
      · have : x = n := by simpa using hx
        subst this
        exact (c1 k).mpr (Or.inl h)
  have hA : Went d ⟨[n], r.2.asked, []⟩ (abR d cl n r.1 r.2.asked).2 := by
    unfold abR
    split
    · have hL := (list_went hF hC hNok (n : Int) ⟨#[97, 114, 105, 97, 45, 100, 101, 115, 99, 114, 105, 98, 101, 100, 98, 121]⟩ okA (by simp)).1
      unfold aboutT
      split
      · exact hL
      · exact hL
    · exact Went.refl okA
  have e : memoD d cl (n : Int) = ⟨r.1, (aboutM d cl n r).1, usesD d (aboutM d cl n r).2.asked⟩ := by
    unfold memoD
    rw [if_pos hi, Int.toNat_natCast, eN]
  have c3 := hA.cov _ c2
  have hnA : n ∈ (abR d cl n r.1 r.2.asked).2.had := hA.sub n (by simp)
  have key : (aboutM d cl n r).1 = (abR d cl n r.1 r.2.asked).1 ∧ ∀ k, k ∈ (aboutM d cl n r).2.asked ↔ k ∈ (abR d cl n r.1 r.2.asked).2.asked := by
    by_cases ht : Tn.has (Tn.nd d n).tag = true
    · have e1 : aboutM d cl n r = if full r.1 = true then aboutT d n r.1 (listD (nameF 64 d cl) d cl (n : Int) ⟨#[97, 114, 105, 97, 45, 100, 101, 115, 99, 114, 105, 98, 101, 100, 98, 121]⟩ ⟨[n], r.2.asked, []⟩) else (emB, r.2) := by
        unfold aboutM
        rw [ht]
        rfl
      rw [e1]
      unfold abR
      split
      · exact ⟨rfl, fun _ => Iff.rfl⟩
      · exact ⟨rfl, fun _ => Iff.rfl⟩
    · have e1 : aboutM d cl n r = (emB, r.2) := by
        unfold aboutM
        rw [if_neg (by simp [ht])]
      have e2 := ab_text (cl := cl) (n := n) (d := d) (by rw [isN_el hi]; simpa using ht) r.1 r.2.asked
      rw [e1, e2]
      exact ⟨rfl, fun _ => Iff.rfl⟩
  refine ⟨by rw [e], by rw [e]; exact key.1, h1.went.ok, hA.ok, (aboutM d cl n r).2.asked, by rw [e], fun k => ?_⟩
  rw [key.2 k, c3 k, c1 k]
  constructor
  · rintro ((h | h) | h)
    · exact Or.inr ⟨n, hnA, h⟩
    · exact Or.inl h
    · exact Or.inr h
  · rintro (h | h)
    · exact Or.inl (Or.inr h)
    · exact Or.inr h
theorem memo_not {d : Tn.Dc} {cl : List Cl} {n : Nat} (hn : Tn.lvD d n = true) (hq : (!Tn.has (Tn.nd d n).tag || namedI (roleD d (n : Int))) = false) :
    memoD d cl (n : Int) = ⟨emB, emB, usesD d (lineD d (n : Int))⟩ := by
  have hi : Tn.isN d (n : Int) false = true := by rw [Tn.isN_iff]; exact hn
  have eN : nameM d cl n = (emB, ⟨[], lineD d (n : Int), []⟩) := by unfold nameM; rw [if_neg (by simp [hq])]
  have eA : aboutM d cl n (emB, ⟨[], lineD d (n : Int), []⟩) = (emB, ⟨[], lineD d (n : Int), []⟩) := by
    unfold aboutM
    rw [if_neg (by simp [em_full])]
  unfold memoD
  rw [if_pos hi, Int.toNat_natCast, eN, eA]

/-- a struct's four cells, that may be written -/
structure Box4 (w : World) (C : Nat) (x y z u : Value) : Prop where
  c0 : w.cell? ⟨C, 0, none⟩ = some x
  c1 : w.cell? ⟨C, 1, none⟩ = some y
  c2 : w.cell? ⟨C, 2, none⟩ = some z
  c3 : w.cell? ⟨C, 3, none⟩ = some u
  fz : ∀ k, w.frozen? ⟨C, k, none⟩ = false
theorem box4_new (w : World) (x y z u : Value) (t : Nat) : Box4 (w.alloc (.cells #[x, y, z, u] t)) w.heap.size x y z u := by
  obtain ⟨h0, h1, h2, h3⟩ := box4' w x y z u t
  exact ⟨h0, h1, h2, h3, box_frozen _ _ _⟩
theorem Box4.bt {S : List Nat} {w w' : World} {C : Nat} {x y z u : Value} (h : Box4 w C x y z u) (hb : Bt S w w') (hC : C ∉ S) : Box4 w' C x y z u := by
  have hlt := lt_of_cell h.c0
  have e := hb.block C hlt hC
  exact ⟨by rw [← h.c0]; exact World.cell?_of_block e, by rw [← h.c1]; exact World.cell?_of_block e, by rw [← h.c2]; exact World.cell?_of_block e, by rw [← h.c3]; exact World.cell?_of_block e, fun k => by rw [← h.fz k]; simp only [World.frozen?, e]⟩
theorem Box4.below {w w' : World} {C : Nat} {x y z u : Value} (h : Box4 w C x y z u) (hb : Below w.heap.size w w') : Box4 w' C x y z u := h.bt (S := []) (Bt.below hb) (by simp)

theorem Box4.set0 {w : World} {C : Nat} {x y z u : Value} (h : Box4 w C x y z u) (v : Value) : Box4 (w.setCell ⟨C, 0, none⟩ v) C v y z u :=
  ⟨World.cell?_setCell_same _ _ _ h.c0, by rw [World.cell?_setCell_other _ _ _ _ (by simp)]; exact h.c1, by rw [World.cell?_setCell_other _ _ _ _ (by simp)]; exact h.c2, by rw [World.cell?_setCell_other _ _ _ _ (by simp)]; exact h.c3, fun k => by rw [World.frozen?_setCell]; exact h.fz k⟩
theorem Box4.set1 {w : World} {C : Nat} {x y z u : Value} (h : Box4 w C x y z u) (v : Value) : Box4 (w.setCell ⟨C, 1, none⟩ v) C x v z u :=
  ⟨by rw [World.cell?_setCell_other _ _ _ _ (by simp)]; exact h.c0, World.cell?_setCell_same _ _ _ h.c1, by rw [World.cell?_setCell_other _ _ _ _ (by simp)]; exact h.c2, by rw [World.cell?_setCell_other _ _ _ _ (by simp)]; exact h.c3, fun k => by rw [World.frozen?_setCell]; exact h.fz k⟩
theorem Box4.set2 {w : World} {C : Nat} {x y z u : Value} (h : Box4 w C x y z u) (v : Value) : Box4 (w.setCell ⟨C, 2, none⟩ v) C x y v u :=
  ⟨by rw [World.cell?_setCell_other _ _ _ _ (by simp)]; exact h.c0, by rw [World.cell?_setCell_other _ _ _ _ (by simp)]; exact h.c1, World.cell?_setCell_same _ _ _ h.c2, by rw [World.cell?_setCell_other _ _ _ _ (by simp)]; exact h.c3, fun k => by rw [World.frozen?_setCell]; exact h.fz k⟩
theorem Box4.set3 {w : World} {C : Nat} {x y z u : Value} (h : Box4 w C x y z u) (v : Value) : Box4 (w.setCell ⟨C, 3, none⟩ v) C x y z v :=
  ⟨by rw [World.cell?_setCell_other _ _ _ _ (by simp)]; exact h.c0, by rw [World.cell?_setCell_other _ _ _ _ (by simp)]; exact h.c1, by rw [World.cell?_setCell_other _ _ _ _ (by simp)]; exact h.c2, World.cell?_setCell_same _ _ _ h.c3, fun k => by rw [World.frozen?_setCell]; exact h.fz k⟩
theorem Box4.other {w : World} {C : Nat} {x y z u : Value} (h : Box4 w C x y z u) {a : Addr} (ha : a.block ≠ C) (v : Value) : Box4 (w.setCell a v) C x y z u := by
  have ne : ∀ j, a ≠ (⟨C, j, none⟩ : Addr) := fun j e => ha (by rw [e])
  exact ⟨by rw [World.cell?_setCell_other _ _ _ _ (ne 0)]; exact h.c0, by rw [World.cell?_setCell_other _ _ _ _ (ne 1)]; exact h.c1, by rw [World.cell?_setCell_other _ _ _ _ (ne 2)]; exact h.c2, by rw [World.cell?_setCell_other _ _ _ _ (ne 3)]; exact h.c3, fun k => by rw [World.frozen?_setCell]; exact h.fz k⟩
theorem Bt.set {S : List Nat} {w w' : World} (h : Bt S w w') {a : Addr} (ha : a.block ∈ S ∨ w.heap.size ≤ a.block) (v : Value) : Bt S w (w'.setCell a v) :=
  ⟨h.os, h.tape, h.output, by simp only [World.setCell, Array.size_modify]; exact h.size, fun i hi hn => by
    rw [Below.heap_setCell _ _ _ _ (by
      intro e
      subst e
      rcases ha with ha | ha
      · exact hn ha
      · omega)]
    exact h.block i hi hn⟩

/-- what is in the memo, and who was asked, when all is asked -/
structure Asks (d : Tn.Dc) (cl : List Cl) (k : Nat) (nm ab : ByteArray) (T1 T2 : List Nat) : Prop where
  name : (memoD d cl (k : Int)).name = nm
  about : (memoD d cl (k : Int)).about = ab
  lv1 : ∀ x ∈ T1, Tn.lvD d x = true
  lv2 : ∀ x ∈ T2, Tn.lvD d x = true
  le1 : T1.length ≤ 100
  le2 : T2.length ≤ 100
  uses : ∃ L, (memoD d cl (k : Int)).uses = usesD d L ∧ ∀ j, j ∈ L ↔ (∃ x ∈ T1, j ∈ lineD d (x : Int)) ∨ ∃ x ∈ T2, j ∈ lineD d (x : Int)

set_option maxHeartbeats 12800000 in
set_option maxRecDepth 100000 in
theorem nof_any {w : World} {b o c : Nat} {rs : List Raw} {d : Tn.Dc} {p : Option Addr} {cc : Nat} {cl : List Cl} (hx : Nx w b o c rs d (.slice p cl.length cc) cl) (n : Int) :
    Calls Tryz.prog 10 #[.slice (some ⟨b, o, none⟩) rs.length c, .slice p cl.length cc, .int .i64 n] w fun e w' => ∃ v, e = .returned (.agg #[.int .i64 n, .string (memoD d cl n).name, .string (memoD d cl n).about, v]) ∧ OwnI w' w.heap.size v (memoD d cl n).uses ∧ Below w.heap.size w w' := by
  have hF := hx.cx.fine
  have hdl := hF.good.len.2
  have B1 : Below w.heap.size w ((w.alloc (.cells #[.int .i64 0, .string ⟨#[]⟩, .string ⟨#[]⟩, .slice none 0 0] 31)).alloc (.cells #[.int .i64 n, .string ⟨#[]⟩, .string ⟨#[]⟩, .slice none 0 0] 31)) := ((Below.refl w.heap.size w).alloc (Nat.le_refl _) _).alloc (by simp) _
  have z1 : ((w.alloc (.cells #[.int .i64 0, .string ⟨#[]⟩, .string ⟨#[]⟩, .slice none 0 0] 31)).alloc (.cells #[.int .i64 n, .string ⟨#[]⟩, .string ⟨#[]⟩, .slice none 0 0] 31)).heap.size = w.heap.size + 2 := by simp
  have R1 : Box4 ((w.alloc (.cells #[.int .i64 0, .string ⟨#[]⟩, .string ⟨#[]⟩, .slice none 0 0] 31)).alloc (.cells #[.int .i64 n, .string ⟨#[]⟩, .string ⟨#[]⟩, .slice none 0 0] 31)) w.heap.size (.int .i64 0) (.string ⟨#[]⟩) (.string ⟨#[]⟩) (.slice none 0 0) := (box4_new w _ _ _ _ _).below ((Below.refl _ _).alloc (Nat.le_refl _) _)
  have M1 : Box4 ((w.alloc (.cells #[.int .i64 0, .string ⟨#[]⟩, .string ⟨#[]⟩, .slice none 0 0] 31)).alloc (.cells #[.int .i64 n, .string ⟨#[]⟩, .string ⟨#[]⟩, .slice none 0 0] 31)) (w.heap.size + 1) (.int .i64 n) (.string ⟨#[]⟩) (.string ⟨#[]⟩) (.slice none 0 0) := by
    have h := box4_new (w.alloc (.cells #[.int .i64 0, .string ⟨#[]⟩, .string ⟨#[]⟩, .slice none 0 0] 31)) (.int .i64 n) (.string ⟨#[]⟩) (.string ⟨#[]⟩) (.slice none 0 0) 31
    simp only [World.size_alloc] at h
    exact h
  have NX : Hid (Nx w b o c rs d (.slice p cl.length cc) cl) := hx
  have IS := dis_any (NX.out.below B1).cx.doc n false
  cases hi : Tn.isN d n false with
  | false =>
    have E : Hid (memoD d cl n = ⟨emB, emB, []⟩) := by show _ = _; unfold memoD; rw [if_neg (by simp [hi])]
    rw [hi] at IS
    clear hx hi
    have R9 : Box4 ((w.alloc (.cells #[.int .i64 n, .string ⟨#[]⟩, .string ⟨#[]⟩, .slice none 0 0] 31)).alloc (.cells #[.int .i64 n, .string ⟨#[]⟩, .string ⟨#[]⟩, .slice none 0 0] 31)) w.heap.size (.int .i64 n) (.string ⟨#[]⟩) (.string ⟨#[]⟩) (.slice none 0 0) := (box4_new w _ _ _ _ _).below ((Below.refl _ _).alloc (Nat.le_refl _) _)
    have B9 : Below w.heap.size w ((w.alloc (.cells #[.int .i64 n, .string ⟨#[]⟩, .string ⟨#[]⟩, .slice none 0 0] 31)).alloc (.cells #[.int .i64 n, .string ⟨#[]⟩, .string ⟨#[]⟩, .slice none 0 0] 31)) := ((Below.refl w.heap.size w).alloc (Nat.le_refl _) _).alloc (by simp) _
    obtain ⟨r0, r1, r2, r3, _⟩ := R9
    obtain ⟨m0, m1, m2, m3, _⟩ := M1
    clear R1 z1 B1
    go_enter Tryz.func10, Tryz.ntmps10
    go_wp2_with (go_at_call 27; refine IS.mono ?_; rintro e w2 ⟨rfl, hww⟩; subst hww)
    refine bodyPost_ret (v := .agg #[.int .i64 n, .string ⟨#[]⟩, .string ⟨#[]⟩, .slice none 0 0]) (by simp [results, Tryz.results10, go_sem, r0, r1, r2, r3]) rfl ⟨.slice none 0 0, by rw [E.out]; rfl, by rw [E.out]; exact World.ownsRow_nil _ _ _ _, B9⟩
  | true =>
    obtain ⟨k, rfl, hkl, hlv⟩ := isN_nat hi
    rw [hi] at IS
    have BG : Hid (∀ W, Calls Tryz.prog 28 #[.slice (some ⟨b, o, none⟩) rs.length c, .slice p cl.length cc, .int .i64 (k : Int)] W fun e w' => ∃ A L, e = .returned (.agg #[.slice (some ⟨b, o, none⟩) rs.length c, .slice p cl.length cc, .map (some A), .map (some L)]) ∧ W.heap.size ≤ A ∧ A < L ∧ (SetAt w' A [k] ∧ PreAt w' A [] k) ∧ SetAt w' L [] ∧ Below W.heap.size W w') := fun W => nbegin_any _ _ _ _ _ _ k (by omega)
    clear hx hi
    have HB1 : Hid (Below w.heap.size w ((w.alloc (.cells #[.int .i64 0, .string ⟨#[]⟩, .string ⟨#[]⟩, .slice none 0 0] 31)).alloc (.cells #[.int .i64 (k : Int), .string ⟨#[]⟩, .string ⟨#[]⟩, .slice none 0 0] 31))) := B1
    have HR1 : Hid (Box4 ((w.alloc (.cells #[.int .i64 0, .string ⟨#[]⟩, .string ⟨#[]⟩, .slice none 0 0] 31)).alloc (.cells #[.int .i64 (k : Int), .string ⟨#[]⟩, .string ⟨#[]⟩, .slice none 0 0] 31)) w.heap.size (.int .i64 0) (.string ⟨#[]⟩) (.string ⟨#[]⟩) (.slice none 0 0)) := R1
    have HM1 : Hid (Box4 ((w.alloc (.cells #[.int .i64 0, .string ⟨#[]⟩, .string ⟨#[]⟩, .slice none 0 0] 31)).alloc (.cells #[.int .i64 (k : Int), .string ⟨#[]⟩, .string ⟨#[]⟩, .slice none 0 0] 31)) (w.heap.size + 1) (.int .i64 (k : Int)) (.string ⟨#[]⟩) (.string ⟨#[]⟩) (.slice none 0 0)) := M1
    clear B1 R1 M1
    go_enter Tryz.func10, Tryz.ntmps10
    go_upto_region 2 with fail
    generalize (w.alloc (.cells #[.int .i64 0, .string ⟨#[]⟩, .string ⟨#[]⟩, .slice none 0 0] 31)).alloc (.cells #[.int .i64 (k : Int), .string ⟨#[]⟩, .string ⟨#[]⟩, .slice none 0 0] 31) = w1 at *
    have BG1 := BG.out w1
    go_upto_region 5 with (first
      | (go_at_call 27; refine IS.mono ?_; rintro e w2 ⟨rfl, hww⟩; subst hww)
      | (go_at_call 28; refine BG1.mono ?_; clear BG1; rintro e w2 ⟨A1, L1, rfl, hA1, hAL1, ⟨S1, P1⟩, SL1, hb2⟩; have BG2 := BG.out w2)
      | (go_at_call 28; refine BG2.mono ?_; clear BG2; rintro e w3 ⟨A2, L2, rfl, hA2, hAL2, ⟨S2, _⟩, SL2, hb3⟩))
    have hz2 := hb2.size
    have hz3 := hb3.size
    have B3 : Below w.heap.size w w3 := HB1.out.trans ((hb2.mono HB1.out.size).trans (hb3.mono (Nat.le_trans HB1.out.size hb2.size)))
    have B4 : Below w.heap.size w ((w3.alloc (.cells #[.slice (some ⟨b, o, none⟩) rs.length c, .slice p cl.length cc, .map (some A1), .map (some L1)] 66)).alloc (.cells #[.slice (some ⟨b, o, none⟩) rs.length c, .slice p cl.length cc, .map (some A2), .map (some L2)] 66)) := (B3.alloc B3.size _).alloc (by have := B3.size; simp; omega) _
    have b34 : Below w3.heap.size w3 ((w3.alloc (.cells #[.slice (some ⟨b, o, none⟩) rs.length c, .slice p cl.length cc, .map (some A1), .map (some L1)] 66)).alloc (.cells #[.slice (some ⟨b, o, none⟩) rs.length c, .slice p cl.length cc, .map (some A2), .map (some L2)] 66)) := ((Below.refl _ w3).alloc (Nat.le_refl _) _).alloc (by simp) _
    have HX8 : Hid (Box4 ((w3.alloc (.cells #[.slice (some ⟨b, o, none⟩) rs.length c, .slice p cl.length cc, .map (some A1), .map (some L1)] 66)).alloc (.cells #[.slice (some ⟨b, o, none⟩) rs.length c, .slice p cl.length cc, .map (some A2), .map (some L2)] 66)) w3.heap.size (.slice (some ⟨b, o, none⟩) rs.length c) (.slice p cl.length cc) (.map (some A1)) (.map (some L1))) := (box4_new w3 _ _ _ _ _).below ((Below.refl _ _).alloc (Nat.le_refl _) _)
    have HX9 : Hid (Box4 ((w3.alloc (.cells #[.slice (some ⟨b, o, none⟩) rs.length c, .slice p cl.length cc, .map (some A1), .map (some L1)] 66)).alloc (.cells #[.slice (some ⟨b, o, none⟩) rs.length c, .slice p cl.length cc, .map (some A2), .map (some L2)] 66)) (w3.heap.size + 1) (.slice (some ⟨b, o, none⟩) rs.length c) (.slice p cl.length cc) (.map (some A2)) (.map (some L2))) := by
      have h := box4_new (w3.alloc (.cells #[.slice (some ⟨b, o, none⟩) rs.length c, .slice p cl.length cc, .map (some A1), .map (some L1)] 66)) (.slice (some ⟨b, o, none⟩) rs.length c) (.slice p cl.length cc) (.map (some A2)) (.map (some L2)) 66
      simp only [World.size_alloc] at h
      exact h
    have b24 := hb3.trans (b34.mono hb3.size)
    have HS1 : Hid (SetAt ((w3.alloc (.cells #[.slice (some ⟨b, o, none⟩) rs.length c, .slice p cl.length cc, .map (some A1), .map (some L1)] 66)).alloc (.cells #[.slice (some ⟨b, o, none⟩) rs.length c, .slice p cl.length cc, .map (some A2), .map (some L2)] 66)) A1 [k]) := S1.below b24
    have HP1 : Hid (PreAt ((w3.alloc (.cells #[.slice (some ⟨b, o, none⟩) rs.length c, .slice p cl.length cc, .map (some A1), .map (some L1)] 66)).alloc (.cells #[.slice (some ⟨b, o, none⟩) rs.length c, .slice p cl.length cc, .map (some A2), .map (some L2)] 66)) A1 [] k) := P1.below b24
    have HL1 : Hid (SetAt ((w3.alloc (.cells #[.slice (some ⟨b, o, none⟩) rs.length c, .slice p cl.length cc, .map (some A1), .map (some L1)] 66)).alloc (.cells #[.slice (some ⟨b, o, none⟩) rs.length c, .slice p cl.length cc, .map (some A2), .map (some L2)] 66)) L1 []) := SL1.below b24
    have HS2 : Hid (SetAt ((w3.alloc (.cells #[.slice (some ⟨b, o, none⟩) rs.length c, .slice p cl.length cc, .map (some A1), .map (some L1)] 66)).alloc (.cells #[.slice (some ⟨b, o, none⟩) rs.length c, .slice p cl.length cc, .map (some A2), .map (some L2)] 66)) A2 [k]) := S2.below b34
    have HL2 : Hid (SetAt ((w3.alloc (.cells #[.slice (some ⟨b, o, none⟩) rs.length c, .slice p cl.length cc, .map (some A1), .map (some L1)] 66)).alloc (.cells #[.slice (some ⟨b, o, none⟩) rs.length c, .slice p cl.length cc, .map (some A2), .map (some L2)] 66)) L2 []) := SL2.below b34
    have b14 : Below _ _ _ := hb2.trans (b24.mono hb2.size)
    have HR4 := HR1.out.below b14
    have HM4 : Hid (Box4 ((w3.alloc (.cells #[.slice (some ⟨b, o, none⟩) rs.length c, .slice p cl.length cc, .map (some A1), .map (some L1)] 66)).alloc (.cells #[.slice (some ⟨b, o, none⟩) rs.length c, .slice p cl.length cc, .map (some A2), .map (some L2)] 66)) (w.heap.size + 1) (.int .i64 (k : Int)) (.string ⟨#[]⟩) (.string ⟨#[]⟩) (.slice none 0 0)) := HM1.out.below b14
    have HR : Hid (Box4 ((w3.alloc (.cells #[.slice (some ⟨b, o, none⟩) rs.length c, .slice p cl.length cc, .map (some A1), .map (some L1)] 66)).alloc (.cells #[.slice (some ⟨b, o, none⟩) rs.length c, .slice p cl.length cc, .map (some A2), .map (some L2)] 66)) w.heap.size (.int .i64 0) (.string ⟨#[]⟩) (.string ⟨#[]⟩) (.slice none 0 0)) := HR4
    have HB4 : Hid (Below w.heap.size w ((w3.alloc (.cells #[.slice (some ⟨b, o, none⟩) rs.length c, .slice p cl.length cc, .map (some A1), .map (some L1)] 66)).alloc (.cells #[.slice (some ⟨b, o, none⟩) rs.length c, .slice p cl.length cc, .map (some A2), .map (some L2)] 66))) := B4
    have z4 : ((w3.alloc (.cells #[.slice (some ⟨b, o, none⟩) rs.length c, .slice p cl.length cc, .map (some A1), .map (some L1)] 66)).alloc (.cells #[.slice (some ⟨b, o, none⟩) rs.length c, .slice p cl.length cc, .map (some A2), .map (some L2)] 66)).heap.size = w3.heap.size + 2 := by simp
    have s1l := S1.lt
    have s2l := S2.lt
    have l1l := SL1.lt
    have l2l := SL2.lt
    clear BG IS HB1 HR1 HM1 S1 P1 SL1 S2 SL2 hb2 hb3 B3 B4 b34 b24 b14 HR4
    have hM : w.heap.size + 1 < A1 ∧ A1 < L1 ∧ L1 < A2 ∧ A2 < L2 ∧ L2 < w3.heap.size := ⟨by omega, by omega, by omega, by omega, by omega⟩
    clear hA1 hAL1 hA2 hAL2 s1l s2l l1l l2l hz2 hz3 z1
    generalize hX : w3.heap.size = X at *
    generalize (w3.alloc (.cells #[.slice (some ⟨b, o, none⟩) rs.length c, .slice p cl.length cc, .map (some A1), .map (some L1)] 66)).alloc (.cells #[.slice (some ⟨b, o, none⟩) rs.length c, .slice p cl.length cc, .map (some A2), .map (some L2)] 66) = w4 at *
    clear hX
    obtain ⟨hM1, hM2, hM3, hM4, hM5⟩ := hM
    have HN4 : Hid (Nx w4 b o c rs d (.slice p cl.length cc) cl) := NX.out.below HB4.out
    have IS4 := dis_any HN4.out.cx.doc (k : Int) true
    have hlv : Tn.lvD d k = true := hlv
    have hiE : Tn.isN d (k : Int) true = Tn.has (Tn.nd d k).tag := isN_el (by rw [Tn.isN_iff]; exact hlv)
    rw [hiE] at IS4
    have RO := oof_any HN4.out.cx (k : Int)
    have KO : Hid (∀ w (r : Int), Kn.TabAt w → Calls Tryz.prog 29 #[.int .i64 r] w fun e w' => ∃ nm x1 x2 x3 x4 z, e = .returned (.agg #[.string nm, .bool x1, .bool x2, .bool x3, .bool x4, .bool (namedI r), .int .i64 z]) ∧ Below w.heap.size w w') := fun w r h => (Kn.of_any h r).mono (by
      rintro e w' ⟨rfl, h⟩
      exact ⟨_, _, _, _, _, _, rfl, h⟩)
    have TB : Hid (∀ w, Below w4.heap.size w4 w → Kn.TabAt w) := fun w hb => HN4.out.cx.tab.below hb
    have fields := field_named
    clear hiE
    go_upto_region 6 with (go_at_call 27; refine IS4.mono ?_; rintro e w5 ⟨rfl, hww⟩; subst hww)
    clear IS4
    have NS1 : Hid (Asks d cl k (memoD d cl (k : Int)).name (memoD d cl (k : Int)).about [k] [k] ∧ (memoD d cl (k : Int)).name = emB ∧ (memoD d cl (k : Int)).about = emB ∨ (!Tn.has (Tn.nd d k).tag || namedI (roleD d (k : Int))) = true) := by
      cases hq : (!Tn.has (Tn.nd d k).tag || namedI (roleD d (k : Int))) with
      | true => exact Or.inr rfl
      | false =>
        have e := memo_not (cl := cl) hlv hq
        refine Or.inl ⟨⟨rfl, rfl, by simpa using hlv, by simpa using hlv, by simp, by simp, lineD d (k : Int), by rw [e], fun j => by simp⟩, by rw [e], by rw [e]⟩
    have PM : Hid ((!Tn.has (Tn.nd d k).tag || namedI (roleD d (k : Int))) = true → MemoP d cl k (nameF 64 d cl ⟨[], lineD d (k : Int), []⟩ k false) (abR d cl k (nameF 64 d cl ⟨[], lineD d (k : Int), []⟩ k false).1 (nameF 64 d cl ⟨[], lineD d (k : Int), []⟩ k false).2.asked)) := fun hq => memo_asked NX.out.cx.fine NX.out.cx.vn NX.out.vt NX.out.forest hlv hq
    go_cut [10, 37] from 28 to 36 (fun _ tv wc => tv = .bool (!Tn.has (Tn.nd d k).tag || namedI (roleD d (k : Int))) ∧ Below w5.heap.size w5 wc)
    case first =>
      have KO5 := fun w hb => KO.out w (roleD d (k : Int)) (TB.out w hb)
      clear NS1 PM KO TB
      cases hq : Tn.has (Tn.nd d k).tag with
      | false =>
        go_wp2_with fail
        go_meet
        exact ⟨by rw [hq]; simp, Below.refl _ _⟩
      | true =>
        go_wp2_with (first
          | (go_at_call 30; refine RO.mono ?_; rintro e w6 ⟨rfl, hb6⟩; have KO6 := KO5 w6 hb6)
          | (go_at_call 29; refine KO6.mono ?_; rintro e w7 ⟨nm, x1, x2, x3, x4, z, rfl, hb7⟩))
        go_meet
        exact ⟨by rw [hq]; simp, hb6.trans (hb7.mono hb6.size)⟩
    case rest =>
    obtain ⟨rfl, hbc⟩ := hcut
    have HNc : Hid (Nx wc b o c rs d (.slice p cl.length cc) cl) := HN4.out.below hbc
    have HBc : Hid (Below w.heap.size w wc) := HB4.out.trans (hbc.mono HB4.out.size)
    have x8 := HX8.out.below hbc
    have x9 := HX9.out.below hbc
    have HS1c : Hid (SetAt wc A1 [k]) := HS1.out.below hbc
    have HP1c : Hid (PreAt wc A1 [] k) := HP1.out.below hbc
    have HL1c : Hid (SetAt wc L1 []) := HL1.out.below hbc
    have HS2c : Hid (SetAt wc A2 [k]) := HS2.out.below hbc
    have HL2c : Hid (SetAt wc L2 []) := HL2.out.below hbc
    have m4 := HM4.out.below hbc
    have HRc : Hid (Box4 wc w.heap.size (.int .i64 0) (.string ⟨#[]⟩) (.string ⟨#[]⟩) (.slice none 0 0)) := HR.out.below hbc
    have zc : X + 2 ≤ wc.heap.size := by have := hbc.size; omega
    clear HN4 HB4 HX8 HX9 HS1 HP1 HL1 HS2 HL2 HM4 HR hbc RO KO TB z4
    have HX8 : Hid (Box4 wc X (.slice (some ⟨b, o, none⟩) rs.length c) (.slice p cl.length cc) (.map (some A1)) (.map (some L1))) := x8
    have HX9 : Hid (Box4 wc (X + 1) (.slice (some ⟨b, o, none⟩) rs.length c) (.slice p cl.length cc) (.map (some A2)) (.map (some L2))) := x9
    have HM4 : Hid (Box4 wc (w.heap.size + 1) (.int .i64 (k : Int)) (.string ⟨#[]⟩) (.string ⟨#[]⟩) (.slice none 0 0)) := m4
    clear x8 x9 m4
    go_upto_if 37 with fail
    go_cut [] from 37 to 47 (fun wd => ∃ nm ab T1 T2, Box4 wd (w.heap.size + 1) (.int .i64 (k : Int)) (.string nm) (.string ab) (.slice none 0 0) ∧ SetAt wd A1 T1 ∧ SetAt wd A2 T2 ∧ Hid (Asks d cl k nm ab T1 T2) ∧ Bt [A1, L1, A2, L2, w.heap.size + 1] wc wd)
    case first =>
      cases hq : (!Tn.has (Tn.nd d k).tag || namedI (roleD d (k : Int))) with
      | false =>
        have A0 : Asks d cl k (memoD d cl (k : Int)).name (memoD d cl (k : Int)).about [k] [k] ∧ (memoD d cl (k : Int)).name = emB ∧ (memoD d cl (k : Int)).about = emB := by
          rcases NS1.out with h | h
          · exact h
          · rw [hq] at h; cases h
        have A9 : Hid (Asks d cl k emB emB [k] [k]) := by
          have h := A0.1
          rw [A0.2.1, A0.2.2] at h
          exact h
        clear A0 NS1 PM
        go_wp2_with fail
        go_meet
        exact ⟨emB, emB, [k], [k], HM4.out, HS1c.out, HS2c.out, A9, Bt.refl _ _⟩
      | true =>
        have P9 := PM.out hq
        have NM : Calls Tryz.prog 31 #[.agg #[.slice (some ⟨b, o, none⟩) rs.length c, .slice p cl.length cc, .map (some A1), .map (some L1)], .int .i64 (k : Int), .bool false] wc fun e w' =>
            e = .returned (.string (nameF 64 d cl ⟨[], lineD d (k : Int), []⟩ k false).1) ∧ SetAt w' A1 (nameF 64 d cl ⟨[], lineD d (k : Int), []⟩ k false).2.had ∧ SetAt w' L1 (nameF 64 d cl ⟨[], lineD d (k : Int), []⟩ k false).2.lst ∧ Bt [A1, L1] wc w' :=
          nname_all (A := A1) (L := L1) (by omega) 64 wc ⟨[], lineD d (k : Int), []⟩ k false HNc.out HP1c.out HL1c.out ⟨by simp, by simp, by simp, by simp⟩ (by simp) hlv (by simp)
        have NAB : Hid (∀ w6, Nx w6 b o c rs d (.slice p cl.length cc) cl → SetAt w6 A2 [k] → SetAt w6 L2 [] → Calls Tryz.prog 32 #[.agg #[.slice (some ⟨b, o, none⟩) rs.length c, .slice p cl.length cc, .map (some A2), .map (some L2)], .int .i64 (k : Int), .string (nameF 64 d cl ⟨[], lineD d (k : Int), []⟩ k false).1] w6 fun e w' =>
            e = .returned (.string (abR d cl k (nameF 64 d cl ⟨[], lineD d (k : Int), []⟩ k false).1 (nameF 64 d cl ⟨[], lineD d (k : Int), []⟩ k false).2.asked).1) ∧ SetAt w' A2 (abR d cl k (nameF 64 d cl ⟨[], lineD d (k : Int), []⟩ k false).1 (nameF 64 d cl ⟨[], lineD d (k : Int), []⟩ k false).2.asked).2.had ∧ Bt [A2, L2] w6 w') := fun w6 h1 h2 h3 => nabout_of (by omega) h1 k h2 h3 hlv _ _
        generalize abR d cl k (nameF 64 d cl ⟨[], lineD d (k : Int), []⟩ k false).1 (nameF 64 d cl ⟨[], lineD d (k : Int), []⟩ k false).2.asked = a9 at *
        generalize nameF 64 d cl ⟨[], lineD d (k : Int), []⟩ k false = r9 at *
        have A9 : Hid (Asks d cl k r9.1 a9.1 r9.2.had a9.2.had) := ⟨P9.name, P9.about, P9.ok1.live, P9.ok2.live, Nat.le_trans (P9.ok1.few hF) (by decide), Nat.le_trans (P9.ok2.few hF) (by decide), P9.uses⟩
        clear P9 NS1 PM
        have k8 := HX8.out
        obtain ⟨e0, e1, e2, e3, _⟩ := k8
        have k9 := HX9.out
        obtain ⟨g0, g1, g2, g3, _⟩ := k9
        have km := HM4.out
        obtain ⟨j0, j1, j2, j3, jf⟩ := km
        have MM : Hid (AreMaps [A1, L1] wc) := maps2 HS1c.out HL1c.out
        have N5 : Hid (∀ w5, Bt [A1, L1] wc w5 → ∀ v, Nx (w5.setCell ⟨w.heap.size + 1, 1, none⟩ v) b o c rs d (.slice p cl.length cc) cl ∧ SetAt (w5.setCell ⟨w.heap.size + 1, 1, none⟩ v) A2 [k] ∧ SetAt (w5.setCell ⟨w.heap.size + 1, 1, none⟩ v) L2 []) := fun w5 h5 v => by
          refine ⟨NX.out.below ((HBc.out.trans (h5.low HBc.out.size (by simp; omega))).setCell (p := ⟨w.heap.size + 1, 1, none⟩) (by simp) v), (HS2c.out.bt h5 (by simp; omega)).set (by simp; omega) v, (HL2c.out.bt h5 (by simp; omega)).set (by simp; omega) v⟩
        have X5 : Hid (∀ w5, Bt [A1, L1] wc w5 → Box4 w5 (X + 1) (.slice (some ⟨b, o, none⟩) rs.length c) (.slice p cl.length cc) (.map (some A2)) (.map (some L2)) ∧ Box4 w5 (w.heap.size + 1) (.int .i64 (k : Int)) (.string ⟨#[]⟩) (.string ⟨#[]⟩) (.slice none 0 0)) := fun w5 h5 => ⟨HX9.out.bt h5 (by simp; omega), HM4.out.bt h5 (by simp; omega)⟩
        go_wp2_with (first
          | (go_at_call 31; refine NM.mono ?_; rintro e w6 ⟨rfl, hS6, hL6, hb6⟩; have X6 := X5.out w6 hb6; have Y6 := (X6.1.other (a := ⟨w.heap.size + 1, 1, none⟩) (by simp; omega) (.string r9.1)); obtain ⟨y0, y1, y2, y3, _⟩ := Y6; obtain ⟨l0, l1, l2, l3, lf⟩ := X6.2; have lf1 := lf 1; have lf2 := lf 2; have Q6 := N5.out w6 hb6 (.string r9.1); have AB := NAB.out _ Q6.1 Q6.2.1 Q6.2.2; clear Q6)
          | (go_at_call 32; refine AB.mono ?_; rintro e w7 ⟨rfl, hS7, hb7⟩; have M7 := ((X5.out w6 hb6).2.set1 (.string r9.1)).bt hb7 (by simp; omega); obtain ⟨o0, o1, o2, o3, of⟩ := M7; have of2 := of 2))
        go_meet
        refine ⟨r9.1, a9.1, r9.2.had, a9.2.had, (((X5.out w6 hb6).2.set1 (.string r9.1)).bt hb7 (by simp; omega)).set2 (.string a9.1), ?_, hS7.set (by simp; omega) _, A9, ?_⟩
        · exact ((hS6.set (by simp; omega) _).bt hb7 (by simp; omega)).set (by simp; omega) _
        · exact ((((hb6.wide (by simp)).set (by simp) _).trans (hb7.wide (by simp))).set (by simp) _)
    case rest =>
    obtain ⟨nm, ab, T1, T2, hbx, hT1, hT2, AS, hbt⟩ := hcut
    have Bw : Below w.heap.size w wc := HBc.out.trans (hbt.low HBc.out.size (by simp; omega))
    have x8 := HX8.out.bt hbt (by simp; omega)
    have x9 := HX9.out.bt hbt (by simp; omega)
    have hr := HRc.out.bt hbt (by simp; omega)
    have zw : X + 2 ≤ wc.heap.size := Nat.le_trans zc hbt.size
    have hBW : Below wc.heap.size wc (wc.alloc (.cells #[.map (some A1), .map (some A2)] 64)) := (Below.refl _ _).alloc (Nat.le_refl _) _
    have zW : (wc.alloc (.cells #[.map (some A1), .map (some A2)] 64)).heap.size = wc.heap.size + 1 := by simp
    obtain ⟨L, hLU, hLM⟩ := AS.out.uses
    have UB := nuses_any (w := wc.alloc (.cells #[.map (some A1), .map (some A2)] 64)) (g := wc.heap.size) (NX.out.below (Bw.alloc Bw.size (.cells #[.map (some A1), .map (some A2)] 64))).cx (fun j => if j = 0 then A1 else A2) (fun j => if j = 0 then T1 else T2) (fun j hj => by
        have h := box2 wc (.map (some A1)) (.map (some A2)) 64
        match j, hj with
        | 0, _ => exact h.1
        | 1, _ => exact h.2) (fun j hj => by
        match j, hj with
        | 0, _ => exact hT1.below hBW
        | 1, _ => exact hT2.below hBW) (fun j hj => by
        match j, hj with
        | 0, _ => exact AS.out.le1
        | 1, _ => exact AS.out.le2) (fun j hj => by
        match j, hj with
        | 0, _ => exact AS.out.lv1
        | 1, _ => exact AS.out.lv2) L (fun j => by
        rw [hLM j]
        constructor
        · rintro (h | h)
          · exact ⟨0, by omega, h⟩
          · exact ⟨1, by omega, h⟩
        · rintro ⟨i, hi, h⟩
          match i, hi with
          | 0, _ => exact Or.inl h
          | 1, _ => exact Or.inr h)
    have HU : Hid ((memoD d cl (k : Int)).uses = usesD d L) := hLU
    have HNm : Hid ((memoD d cl (k : Int)).name = nm ∧ (memoD d cl (k : Int)).about = ab) := ⟨AS.out.name, AS.out.about⟩
    have HBx : Hid (Box4 wc (w.heap.size + 1) (.int .i64 (k : Int)) (.string nm) (.string ab) (.slice none 0 0)) := hbx
    have HRx : Hid (Box4 wc w.heap.size (.int .i64 0) (.string ⟨#[]⟩) (.string ⟨#[]⟩) (.slice none 0 0)) := hr
    obtain ⟨e0, e1, e2, e3, _⟩ := x8
    obtain ⟨g0, g1, g2, g3, _⟩ := x9
    have HW : Hid (Below w.heap.size w wc) := Bw
    clear hLU hLM hbx hr hT1 hT2 AS hbt NS1 PM HNc HBc HS1c HP1c HL1c HS2c HL2c HRc HX8 HX9 HM4 Bw
    go_wp2_with (go_at_call 33; refine UB.mono ?_; clear UB; rintro e w8 ⟨v, rfl, hov, hb8⟩; obtain ⟨pv, cv, rfl⟩ := hov.shape; have B8 := hBW.trans (hb8.mono (by omega)); have R8 := HRx.out.below B8; have R8a := R8; have M8 := HBx.out.below B8; obtain ⟨r0, r1, r2, r3, rf⟩ := R8; obtain ⟨m0, m1, m2, m3, mf⟩ := M8; have f0 := rf 0; have f1 := rf 1; have f2 := rf 2; have f3 := rf 3; have h3 := mf 3; have HV : Hid (OwnI w8 (wc.heap.size + 1) (.slice pv (usesD d L).length cv) (usesD d L)) := (by rw [zW] at hov; exact hov); clear hov)
    have BF := HW.out.trans (B8.mono HW.out.size)
    have F1 := R8a.other (a := ⟨w.heap.size + 1, 3, none⟩) (by simp) (.slice pv (usesD d L).length cv)
    have G0 := F1.set0 (.int .i64 (k : Int))
    have G1 := G0.set1 (.string nm)
    have G2 := G1.set2 (.string ab)
    have G3 := G2.set3 (.slice pv (usesD d L).length cv)
    obtain ⟨r0', r1', r2', r3', _⟩ := G3
    have h8 : w.heap.size + 2 ≤ wc.heap.size := by omega
    refine bodyPost_ret (v := .agg #[.int .i64 (k : Int), .string nm, .string ab, .slice pv (usesD d L).length cv]) (by simp only [results, Tryz.results10, go_sem]; simp [go_sem, r0', r1', r2', r3']) rfl ⟨.slice pv (usesD d L).length cv, by rw [HNm.out.1, HNm.out.2], ?_, ?_⟩
    · rw [HU.out]
      have h1 := HV.out
      unfold OwnI at h1 ⊢
      refine ownsRow_base_a (ownsRow_setCell_below (ownsRow_setCell_below (ownsRow_setCell_below (ownsRow_setCell_below (ownsRow_setCell_below h1 (by simp; omega) _) (by simp; omega) _) (by simp; omega) _) (by simp; omega) _) (by simp; omega) _) (by omega)
    · exact ((((BF.setCell (p := ⟨w.heap.size + 1, 3, none⟩) (by simp) _).setCell (p := ⟨w.heap.size, 0, none⟩) (by simp) _).setCell (p := ⟨w.heap.size, 1, none⟩) (by simp) _).setCell (p := ⟨w.heap.size, 2, none⟩) (by simp) _).setCell (p := ⟨w.heap.size, 3, none⟩) (by simp) _
end Go.Proofs.YtcinjbolflhjmadGreatDoor

/-
  THE WALK of the reference's Inside.
-/
namespace Go.Proofs.YtcinjbolflhjmadGreatDoor
open Go.RowKit

def freeK (l : List Cl) (k : Nat) : Bool := decide (ownerD l (k : Int) < 0)
theorem inside_free (d : Tn.Dc) (l : List Cl) (n : Int) : insideD d l n = (kidsD d n).filter (freeK l) ++ mine l n l.length := by
  unfold insideD mine
  rw [List.take_length]
  rfl

set_option maxHeartbeats 3200000 in
set_option maxRecDepth 100000 in
theorem qinside_any {w : World} {b o c : Nat} {rs : List Raw} {d : Tn.Dc} (hd : DocAt w b o c rs d) (hf : Fine d) {vl : Value} {l : List Cl} (hl : ClsAt w vl l) (hlen : l.length ≤ 1000) (n : Int) :
    Calls Tryz.prog 60 #[.slice (some ⟨b, o, none⟩) rs.length c, vl, .int .i64 n] w fun e w' => ∃ v, e = .returned v ∧ OwnI w' w.heap.size v (insideD d l n) ∧ Below w.heap.size w w' := by
  have hK := qkids_any hd hf n
  have hkl := kids_few hf.okd n
  have E : Hid (insideD d l n = (kidsD d n).filter (freeK l) ++ mine l n l.length) := inside_free d l n
  have LW : Hid (∀ W, Below w.heap.size w W → ClsAt W vl l) := fun W hb => hl.keeps (keeps_below hb (Nat.le_refl _))
  have QO : Hid (∀ W (x : Int), Below w.heap.size w W → Calls Tryz.prog 24 #[vl, .int .i64 x] W fun e w' => e = .returned (.int .i64 (ownerD l x)) ∧ Below W.heap.size W w') := fun W x hb => qowner_any (LW.out W hb) x
  obtain ⟨pl, cl, rfl, k1, k2, _, hat⟩ := hl.at
  have T : Hid (∀ j (hj : j < l.length), ∃ b o, pl = some ⟨b, o, none⟩ ∧ w.cell? ⟨b, o + j * 2, none⟩ = some (.int .i64 (l[j].1 : Int)) ∧ w.cell? ⟨b, o + j * 2 + 1, none⟩ = some (.int .i64 (l[j].2 : Int))) := hat
  clear hat hl hd LW
  generalize insideD d l n = res at *
  generalize kidsD d n = kd at *
  go_enter Tryz.func60, Tryz.ntmps60
  go_upto_region 3 with (go_at_call 42; refine hK.mono ?_; rintro e w2 ⟨p2, c2, rfl, hi2, hb2⟩)
  obtain ⟨_, _, he, d1, d2, _, hat⟩ := hi2.at
  cases he
  have TK : Hid (∀ j (hj : j < kd.length), ∃ b o, p2 = some ⟨b, o, none⟩ ∧ w2.cell? ⟨b, o + j, none⟩ = some (.int .i64 (kd[j] : Int))) := hat
  clear hat hi2 hK
  go_loopw [7, 16] (fun v i wr => ∃ j : Nat, j ≤ kd.length ∧ i = .int .i64 j ∧ OwnI wr w2.heap.size v ((kd.take j).filter (freeK l)) ∧ Below w2.heap.size w2 wr) (fun _ i _ => kd.length - (intOf i).toNat)
  case atStart => exact ⟨0, Nat.zero_le _, rfl, OwnI.nil _ _, Below.refl _ _⟩
  case round =>
    obtain ⟨j, hj, rfl, hown, hnx⟩ := hrel
    have hbz := hnx.size
    have BW := hb2.trans (hnx.mono hb2.size)
    have hfl : ((kd.take j).filter (freeK l)).length ≤ 1000 := by
      have h1 := List.length_filter_le (freeK l) (kd.take j)
      have h2 : (kd.take j).length ≤ kd.length := by rw [List.length_take]; omega
      omega
    by_cases hlt : j < kd.length
    · obtain ⟨b1, o1, rfl, hc1⟩ := TK.out j hlt
      have y1 := keeps_below hnx (Nat.le_refl _) _ _ hc1
      have hO := QO.out wr (kd[j] : Int) BW
      have FS : Hid ((kd.take (j + 1)).filter (freeK l) = (kd.take j).filter (freeK l) ++ (if freeK l kd[j] then [kd[j]] else [])) := take_filter _ kd j hlt
      have FK : Hid (freeK l kd[j] = decide (ownerD l (kd[j] : Int) < 0)) := rfl
      clear hc1
      generalize (kd.take j).filter (freeK l) = acc at *
      generalize kd[j] = x at *
      generalize ownerD l (x : Int) = ow at *
      by_cases e : ow < 0
      · have F2 : Hid ((kd.take (j + 1)).filter (freeK l) = acc ++ [x]) := by show _ = _; rw [FS.out, FK.out, if_pos (by simpa using e)]
        clear FS FK
        go_wp2_with (first
          | (go_at_call 24; refine hO.mono ?_; rintro e w5 ⟨rfl, hb5⟩; have o5 := hown.below hb5 (Nat.le_refl _); have n5 := hnx.trans (hb5.mono hnx.size))
          | (at_builtin; refine append_int1 (w0 := w2) rfl _ _ rfl x rfl (by simp [Act.eval]) o5 n5 n5.size (by omega) ?_; intro v6 w6 o6 n6 _ _))
        go_roundw
        case rel => exact ⟨j + 1, by omega, by go_num, by rw [F2.out]; exact o6, n6⟩
        case measure => simp [intOf]; omega
      · have F2 : Hid ((kd.take (j + 1)).filter (freeK l) = acc) := by show _ = _; rw [FS.out, FK.out, if_neg (by simpa using e), List.append_nil]
        clear FS FK
        go_wp2_with (go_at_call 24; refine hO.mono ?_; rintro e w5 ⟨rfl, hb5⟩; have o5 := hown.below hb5 (Nat.le_refl _); have n5 := hnx.trans (hb5.mono hnx.size))
        go_roundw
        case rel => exact ⟨j + 1, by omega, by go_num, by rw [F2.out]; exact o5, n5⟩
        case measure => simp [intOf]; omega
    · obtain rfl : j = kd.length := by omega
      rw [List.take_length] at hown hfl
      have O3 : OwnI wr w.heap.size u7 (kd.filter (freeK l)) := OwnI.mono hown hb2.size
      clear hown hnx TK hbz
      generalize kd.filter (freeK l) = base at *
      go_upto_region 9 with fail
      go_loopw [7, 31] (fun v i wq => ∃ q : Nat, q ≤ l.length ∧ i = .int .i64 q ∧ OwnI wq w.heap.size v (base ++ mine l n q) ∧ Below w.heap.size w wq) (fun _ i _ => l.length - (intOf i).toNat)
      case atStart => exact ⟨0, Nat.zero_le _, rfl, by simpa [mine] using O3, BW⟩
      case round =>
        obtain ⟨q, hq, rfl, hown, hnx⟩ := hrel
        have hbz := hnx.size
        have hml := mine_len l n q
        have hz : (base ++ mine l n q).length ≤ 1000000 := by rw [List.length_append]; omega
        by_cases hlt : q < l.length
        · obtain ⟨e1, o1, rfl, c1, c2⟩ := T.out q hlt
          have y1 := keeps_below hnx (Nat.le_refl _) _ _ c1
          have y2 := keeps_below hnx (Nat.le_refl _) _ _ c2
          have MS : Hid (mine l n (q + 1) = mine l n q ++ (if (l[q].1 : Int) = n then [l[q].2] else [])) := mine_succ l n q hlt
          clear c1 c2 hml
          generalize l[q].1 = x at *
          generalize l[q].2 = z at *
          by_cases e : (x : Int) = n
          · have M2 : Hid (base ++ mine l n (q + 1) = (base ++ mine l n q) ++ [z]) := by show _ = _; rw [MS.out, if_pos e, List.append_assoc]
            have hq1 : ((x : Int) == n) = true := by simpa using e
            clear MS e
            go_wp2_with (at_builtin; refine append_int1 (w0 := w) rfl _ _ rfl z rfl (by simp [Act.eval]) (hown.alloc _) (hnx.alloc hbz _) (by simp; omega) hz ?_; intro v6 w6 o6 n6 _ _)
            go_roundw
            case rel => exact ⟨q + 1, by omega, by go_num, by rw [M2.out]; exact o6, n6⟩
            case measure => simp [intOf]; omega
          · have M2 : Hid (base ++ mine l n (q + 1) = base ++ mine l n q) := by show _ = _; rw [MS.out, if_neg e, List.append_nil]
            have hq1 : ((x : Int) == n) = false := by simpa using e
            clear MS e
            go_wp2_with fail
            go_roundw
            case rel => exact ⟨q + 1, by omega, by go_num, by rw [M2.out]; exact hown.alloc _, hnx.alloc hbz _⟩
            case measure => simp [intOf]; omega
        · obtain rfl : q = l.length := by omega
          go_wp2_with fail
          go_ret
          exact ⟨_, rfl, by rw [E.out]; exact hown, hnx⟩
end Go.Proofs.YtcinjbolflhjmadGreatDoor

/-
  THE WALK of the reference's Has.
-/
namespace Go.Proofs.YtcinjbolflhjmadGreatDoor
open Go.RowKit

theorem has_yes {l : List Nat} {k j : Nat} (hj : j < l.length) (he : l[j] = k) : l.contains k = true := by
  rw [List.contains_iff_mem, ← he]
  exact List.getElem_mem hj
theorem has_no {l : List Nat} {k : Nat} (hn : ∀ x ∈ l, x ≠ k) : l.contains k = false := by
  cases h : l.contains k with
  | false => rfl
  | true =>
    rw [List.contains_iff_mem] at h
    exact absurd rfl (hn k h)

set_option maxHeartbeats 1600000 in
theorem qhas_any {w : World} {vl : Value} {l : List Nat} (hl : IntsAt w vl l) (k : Nat) :
    Calls Tryz.prog 23 #[vl, .int .i64 (k : Int)] w fun e w' => e = .returned (.bool (l.contains k)) ∧ w' = w := by
  obtain ⟨q, cc, rfl, h1, h2, _, hat⟩ := hl.at
  have T : Hid (∀ j (hj : j < l.length), ∃ b o, q = some ⟨b, o, none⟩ ∧ w.cell? ⟨b, o + j, none⟩ = some (.int .i64 (l[j] : Int))) := hat
  clear hat hl
  go_enter Tryz.func23, Tryz.ntmps23
  go_wp2_with fail
  go_loopw [9] (fun i wr => ∃ j : Nat, j ≤ l.length ∧ i = .int .i64 j ∧ Hid (∀ x ∈ l.take j, x ≠ k) ∧ wr = w) (fun i _ => l.length - (intOf i).toNat)
  case atStart => exact ⟨0, Nat.zero_le _, rfl, fun k hk => by simp at hk, rfl⟩
  case round =>
    obtain ⟨j, hj, rfl, NO, hww⟩ := hrel
    subst hww
    by_cases hlt : j < l.length
    · obtain ⟨e1, o1, rfl, k1⟩ := T.out j hlt
      by_cases hh : l[j] = k
      · have E : Hid (l.contains k = true) := has_yes hlt hh
        rw [hh] at k1
        clear hh
        go_wp2_with fail
        go_ret
        exact ⟨by rw [E.out]; rfl, rfl⟩
      · have N2 : Hid (∀ x ∈ l.take (j + 1), x ≠ k) := by
          intro x hx
          rw [List.take_succ_eq_append_getElem hlt, List.mem_append, List.mem_singleton] at hx
          rcases hx with hx | rfl
          · exact NO.out x hx
          · exact hh
        have hq : ((l[j] : Int) == (k : Int)) = false := beq_eq_false_iff_ne.2 (by omega)
        clear hh
        generalize l[j] = x at *
        go_wp2_with fail
        go_roundw
        case rel => exact ⟨j + 1, by omega, by go_num, N2, by first | rfl | trivial⟩
        case measure => simp [intOf]; omega
    · obtain rfl : j = l.length := by omega
      have E : Hid (l.contains k = false) := has_no (fun x hx => NO.out x (by rw [List.take_length]; exact hx))
      go_wp2_with fail
      go_ret
      exact ⟨by rw [E.out]; rfl, rfl⟩
end Go.Proofs.YtcinjbolflhjmadGreatDoor
