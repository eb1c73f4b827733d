/-
  OWN WORK: Qgi, Qup, Qsh, Neq, Rsa, Fal, Fte, Osa, Owa, Olo, Ona.
-/
import Derived.Test.YtbinbojicmhdlaeGreatDoorP8
import Derived.Test.YtbinbojicmhdlaeGreatDoorP1
import Derived.Laws.StructEq
import Derived.Deep.QuietTactic
import Derived.BigQuiet
import Derived.Deep.RegionHeld3
import Derived.Test.YtbinbojicmhdlaeGreatDoorP6
import Derived.Test.YtbinbojicmhdlaeGreatDoorP7
/-
  THE WALKS of the reference's Given, Kids, Up.
-/
namespace Go.Proofs.YtbinbojicmhdlaeGreatDoor
open Go.RowKit

theorem take_filter_at (p : Nat → Bool) (l : List Nat) (j : Nat) (h : j < l.length) : (l.take (j + 1)).filter p = (l.take j).filter p ++ (if p l[j] then [l[j]] else []) := by
  rw [List.take_succ_eq_append_getElem h, List.filter_append]
  congr 1
  cases hp : p l[j] <;> simp [hp]

set_option maxHeartbeats 1600000 in
set_option maxRecDepth 100000 in
theorem qgiven_any {w : World} {b o c : Nat} {rs : List Raw} {d : Tn.Dc} (hd : DocAt w b o c rs d) (hf : Fine d) (n : Int) :
    Calls Tryz.prog 85 #[.slice (some ⟨b, o, none⟩) rs.length c, .int .i64 n] w fun e w' => ∃ v, e = .returned v ∧ OwnI w' w.heap.size v (givenD d n) ∧ Below w.heap.size w w' := by
  have H : Hid (DocAt w b o c rs d) := hd
  clear hd
  cases his : Tn.isN d n true with
  | false =>
    have E : Hid (givenD d n = []) := by show _ = _; unfold givenD isSlotD; rw [his]; rfl
    go_enter Tryz.func85, Tryz.ntmps85
    go_wp2_with (go_at_call 52; refine (ris_any H.out _ _).mono ?_; rintro e w' ⟨rfl, hww⟩; subst hww; rw [his])
    go_ret
    exact ⟨_, rfl, by rw [E.out]; exact OwnI.nil _ _, Below.refl _ _⟩
  | true =>
    obtain ⟨k, rfl, hk, hlv⟩ := isN_nat (isN_true his)
    have hk' : k < rs.length := by rw [H.out.len]; exact hk
    have h1 := H.out.row.c1 k hk'
    have hsl : isSlotD d (k : Int) = (rs[k].tag.toList == [115, 108, 111, 116]) := by
      unfold isSlotD
      rw [his, Int.toNat_natCast, nd_at hk, ← (H.out.nds k hk' hk).tag, slotB_list]
      rfl
    cases htg : (rs[k].tag.toList == [115, 108, 111, 116]) with
    | false =>
      have E : Hid (givenD d (k : Int) = []) := by show _ = _; unfold givenD; rw [hsl, htg]; rfl
      clear hsl
      generalize rs[k].tag = tg at *
      go_enter Tryz.func85, Tryz.ntmps85
      go_wp2_with (go_at_call 52; refine (ris_any H.out _ _).mono ?_; rintro e w' ⟨rfl, hww⟩; subst hww; rw [his])
      go_ret
      exact ⟨_, rfl, by rw [E.out]; exact OwnI.nil _ _, Below.refl _ _⟩
    | true =>
      obtain ⟨s, hsc, hsv⟩ := hf.okd.scope k hlv
      have hsd := Tn.lv_lt hsv
      have hsr : s < rs.length := by rw [H.out.len]; exact hsd
      have E : Hid (givenD d (k : Int) = (Tn.nd d s).kids.filter fun j : Nat => slotD d (j : Int) == (k : Int)) := by
        show _ = _
        unfold givenD
        rw [hsl, htg, hsc, Int.toNat_natCast]
        rfl
      have hkl : (Tn.nd d s).kids.length ≤ 1000 := by have h1 := hf.good.small s false; have h2 : (Tn.nd d s).kids.length ≤ 12 := h1; omega
      have hki : IntsAt w (.slice rs[s].k.p rs[s].k.n rs[s].k.c) (Tn.nd d s).kids := by rw [nd_at hsd]; exact (H.out.nds s hsr hsd).kids
      have h5 := H.out.row.c5 s hsr
      have hP := rscope_any H.out hf (k : Int)
      rw [hsc] at hP
      have HS : Hid (∀ (W : World) (x : Int), DocAt W b o c rs d → Calls Tryz.prog 129 #[.slice (some ⟨b, o, none⟩) rs.length c, .int .i64 x] W fun e w' => e = .returned (.int .i64 (slotD d x)) ∧ Below W.heap.size W w') := fun W x hW => qslot_any hW hf x
      generalize givenD d (k : Int) = res at *
      generalize (Tn.nd d s).kids = l at *
      generalize rs[s].k = ks at *
      generalize rs[k].tag = tg at *
      obtain ⟨kp, kn, kc⟩ := ks
      simp only at hki h5
      obtain ⟨_, _, he, hs1, hs2, _, hat⟩ := hki.at
      cases he
      have TS : Hid (∀ j (hj : j < l.length), ∃ b o, kp = some ⟨b, o, none⟩ ∧ w.cell? ⟨b, o + j, none⟩ = some (.int .i64 (l[j] : Int))) := hat
      clear hat hki hsl hsc hsv hlv
      go_enter Tryz.func85, Tryz.ntmps85
      go_upto_region 6 with (first
        | (go_at_call 52; refine (ris_any H.out _ _).mono ?_; rintro e w' ⟨rfl, hww⟩; subst hww; rw [his])
        | (go_at_call 60; refine hP.mono ?_; rintro e w1 ⟨rfl, hb1⟩; have h51 := keeps_below hb1 (Nat.le_refl _) _ _ h5))
      go_loopw [5, 30] (fun v i wr => ∃ j : Nat, j ≤ l.length ∧ i = .int .i64 j ∧ OwnI wr w'.heap.size v ((l.take j).filter fun x : Nat => slotD d (x : Int) == (k : Int)) ∧ Below w'.heap.size w' wr) (fun _ i _ => l.length - (intOf i).toNat)
      case atStart => exact ⟨0, Nat.zero_le _, rfl, OwnI.nil _ _, hb1⟩
      case round =>
        obtain ⟨j, hj, rfl, hown, hnx⟩ := hrel
        have hbz := hnx.size
        have DR : Hid (DocAt wr b o c rs d) := H.out.keeps (keeps_below hnx (Nat.le_refl _))
        by_cases hlt : j < l.length
        · obtain ⟨b1, o1, rfl, hc⟩ := TS.out j hlt
          have hcr := keeps_below hnx (Nat.le_refl _) _ _ hc
          have F : Hid _ := take_filter_at (fun x : Nat => slotD d (x : Int) == (k : Int)) l j hlt
          have hfl : ((l.take j).filter fun x : Nat => slotD d (x : Int) == (k : Int)).length ≤ 1000 := by
            have h1 := List.length_filter_le (fun x : Nat => slotD d (x : Int) == (k : Int)) (l.take j)
            rw [List.length_take] at h1
            omega
          have hSl := HS.out wr (l[j] : Int) DR.out
          clear hc
          generalize l[j] = x at *
          generalize (l.take j).filter (fun x : Nat => slotD d (x : Int) == (k : Int)) = acc at *
          generalize slotD d (x : Int) = sx at *
          cases hq : (sx == (k : Int)) with
          | false =>
            have F2 : Hid ((l.take (j + 1)).filter (fun x : Nat => slotD d (x : Int) == (k : Int)) = acc) := by show _ = _; rw [F.out, hq]; simp
            clear F
            go_wp2_with (go_at_call 129; refine hSl.mono ?_; rintro e w3 ⟨rfl, hb3⟩)
            go_roundw
            case rel => exact ⟨j + 1, by omega, by go_num, by rw [F2.out]; exact hown.below hb3 (Nat.le_refl _), hnx.trans (hb3.mono hnx.size)⟩
            case measure => simp [intOf]; omega
          | true =>
            have F2 : Hid ((l.take (j + 1)).filter (fun x : Nat => slotD d (x : Int) == (k : Int)) = acc ++ [x]) := by show _ = _; rw [F.out, hq]; rfl
            clear F
            go_wp2_with (first
              | (go_at_call 129; refine hSl.mono ?_; rintro e w3 ⟨rfl, hb3⟩; have o3 := hown.below hb3 (Nat.le_refl _); have n3 := hnx.trans (hb3.mono hnx.size))
              | (at_builtin; refine append_int1 (w0 := w') rfl _ _ rfl x rfl rfl o3 n3 n3.size (by omega) ?_; intro v4 w4 o4 n4 _ _))
            go_roundw
            case rel => exact ⟨j + 1, by omega, by go_num, by rw [F2.out]; exact o4, n4⟩
            case measure => simp [intOf]; omega
        · obtain rfl : j = l.length := by omega
          rw [List.take_length] at hown
          go_wp2_with fail
          go_ret
          exact ⟨_, rfl, by rw [E.out]; exact hown, hnx⟩

set_option maxHeartbeats 1600000 in
theorem qkids_two {w0 w : World} {b o c : Nat} {rs : List Raw} {d : Tn.Dc} (hd0 : DocAt w0 b o c rs d) (hd : DocAt w b o c rs d) (hf : Fine d) (n : Int) :
    Calls Tryz.prog 51 #[.slice (some ⟨b, o, none⟩) rs.length c, .int .i64 n] w fun e w' => ∃ p cc, e = .returned (.slice p (kidsD d n).length cc) ∧ (IntsAt w0 (.slice p (kidsD d n).length cc) (kidsD d n) ∨ OwnI w' w.heap.size (.slice p (kidsD d n).length cc) (kidsD d n)) ∧ Below w.heap.size w w' := by
  have H : Hid (DocAt w b o c rs d) := hd
  clear hd
  cases his : Tn.isN d n false with
  | false =>
    have E : Hid (kidsD d n = []) := by show _ = _; unfold kidsD; rw [if_neg (by simp [his])]
    go_enter Tryz.func51, Tryz.ntmps51
    go_wp2_with (go_at_call 52; refine (ris_any H.out _ _).mono ?_; rintro e w' ⟨rfl, hww⟩; subst hww; rw [his])
    go_ret
    exact ⟨none, 0, by rw [E.out]; rfl, by rw [E.out]; exact Or.inl (ints_nil _), Below.refl _ _⟩
  | true =>
    obtain ⟨k, rfl, hk, hlv⟩ := isN_nat his
    have hk' : k < rs.length := by rw [H.out.len]; exact hk
    have h5 := H.out.row.c5 k hk'
    have h6 := H.out.row.c6 k hk'
    have h7 := H.out.row.c7 k hk'
    have E : Hid (kidsD d (k : Int) = if rs[k].hasS then (Tn.nd d k).shadow else if (givenD d (k : Int)).isEmpty then (Tn.nd d k).kids else givenD d (k : Int)) := by
      show _ = _
      unfold kidsD
      rw [if_pos his, Int.toNat_natCast, (H.out.nds k hk' hk).hasS, ← nd_at hk]
    have hki : IntsAt w0 (.slice rs[k].k.p rs[k].k.n rs[k].k.c) (Tn.nd d k).kids := by rw [nd_at hk]; exact (hd0.nds k hk' hk).kids
    have hsi : IntsAt w0 (.slice rs[k].s.p rs[k].s.n rs[k].s.c) (Tn.nd d k).shadow := by rw [nd_at hk]; exact (hd0.nds k hk' hk).shadow
    have hkn : rs[k].k.n = (Tn.nd d k).kids.length := hl_of hki
    have hsn : rs[k].s.n = (Tn.nd d k).shadow.length := hl_of hsi
    have hG := qgiven_any H.out hf (k : Int)
    rw [hkn] at h5 hki
    rw [hsn] at h7 hsi
    generalize kidsD d (k : Int) = res at *
    generalize givenD d (k : Int) = gv at *
    generalize (Tn.nd d k).kids = kd at *
    generalize (Tn.nd d k).shadow = sd at *
    generalize rs[k].hasS = hs at *
    generalize rs[k].k.p = kp at *
    generalize rs[k].k.c = kc at *
    generalize rs[k].s.p = sp at *
    generalize rs[k].s.c = sc at *
    have QK : Hid _ := hki
    have QS : Hid _ := hsi
    clear hlv hkn hsn hki hsi hd0
    cases hs with
    | true =>
      have E2 : Hid (res = sd) := by show _ = _; rw [E.out]; rfl
      clear E
      go_enter Tryz.func51, Tryz.ntmps51
      go_wp2_with (go_at_call 52; refine (ris_any H.out _ _).mono ?_; rintro e w' ⟨rfl, hww⟩; subst hww; rw [his])
      go_ret
      exact ⟨sp, sc, by rw [E2.out]; rfl, by rw [E2.out]; exact Or.inl QS.out, Below.refl _ _⟩
    | false =>
      cases hgv : gv.isEmpty with
      | true =>
        have E2 : Hid (res = kd) := by show _ = _; rw [E.out, hgv]; rfl
        have hgl : gv.length = 0 := by simpa using hgv
        clear E hgv
        go_enter Tryz.func51, Tryz.ntmps51
        go_wp2_with (first
          | (go_at_call 52; refine (ris_any H.out _ _).mono ?_; rintro e w' ⟨rfl, hww⟩; subst hww; rw [his])
          | (go_at_call 85; refine hG.mono ?_; rintro e w8 ⟨v8, rfl, ho8, hb8⟩; have o8 := ho8; obtain ⟨p8, c8, rfl⟩ := o8.shape; have h58 := keeps_below hb8 (Nat.le_refl _) _ _ h5))
        go_ret
        exact ⟨kp, kc, by rw [E2.out]; rfl, by rw [E2.out]; exact Or.inl QK.out, hb8⟩
      | false =>
        have E2 : Hid (res = gv) := by show _ = _; rw [E.out, hgv]; rfl
        have hgl : (0 : Int) < (gv.length : Int) := by
          cases gv with
          | nil => simp at hgv
          | cons a t => simp
        clear E hgv
        go_enter Tryz.func51, Tryz.ntmps51
        go_wp2_with (first
          | (go_at_call 52; refine (ris_any H.out _ _).mono ?_; rintro e w' ⟨rfl, hww⟩; subst hww; rw [his])
          | (go_at_call 85; refine hG.mono ?_; rintro e w8 ⟨v8, rfl, ho8, hb8⟩; have o8 := ho8; obtain ⟨p8, c8, rfl⟩ := o8.shape; have h58 := keeps_below hb8 (Nat.le_refl _) _ _ h5))
        go_ret
        exact ⟨p8, c8, by rw [E2.out]; rfl, by rw [E2.out]; exact Or.inr ho8, hb8⟩

theorem qkids_any {w : World} {b o c : Nat} {rs : List Raw} {d : Tn.Dc} (hd : DocAt w b o c rs d) (hf : Fine d) (n : Int) :
    Calls Tryz.prog 51 #[.slice (some ⟨b, o, none⟩) rs.length c, .int .i64 n] w fun e w' => ∃ p cc, e = .returned (.slice p (kidsD d n).length cc) ∧ IntsAt w' (.slice p (kidsD d n).length cc) (kidsD d n) ∧ Below w.heap.size w w' := by
  refine (qkids_two hd hd hf n).mono ?_
  rintro e w' ⟨p, cc, rfl, h, hb⟩
  refine ⟨p, cc, rfl, ?_, hb⟩
  rcases h with h | h
  · exact h.keeps (keeps_below hb (Nat.le_refl _))
  · exact ints_of_owns h
end Go.Proofs.YtbinbojicmhdlaeGreatDoor

/-
  THE WALK of the reference's Up.
-/
namespace Go.Proofs.YtbinbojicmhdlaeGreatDoor
open Go.RowKit

set_option maxHeartbeats 1600000 in
set_option maxRecDepth 100000 in
theorem qup_any {w : World} {b o c : Nat} {rs : List Raw} {d : Tn.Dc} (hd : DocAt w b o c rs d) (hf : Fine d) (n : Int) :
    Calls Tryz.prog 54 #[.slice (some ⟨b, o, none⟩) rs.length c, .int .i64 n] w fun e w' => e = .returned (.int .i64 (upF d n)) ∧ Below w.heap.size w w' := by
  have H : Hid (DocAt w b o c rs d) := hd
  have L : Hid (rs.length = d.length) := hd.len
  have hrl : rs.length ≤ 1000 := by rw [hd.len]; have := hf.good.len.2; omega
  have HK : Hid (∀ (W : World) (x : Int), DocAt W b o c rs d → Calls Tryz.prog 51 #[.slice (some ⟨b, o, none⟩) rs.length c, .int .i64 x] W fun e w' => ∃ p cc, e = .returned (.slice p (kidsD d x).length cc) ∧ IntsAt w' (.slice p (kidsD d x).length cc) (kidsD d x) ∧ Below W.heap.size W w') := fun W x hW => qkids_any hW hf x
  clear hd
  go_enter Tryz.func54, Tryz.ntmps54
  go_wp2_with fail
  go_loopw [10] (fun i wr => ∃ j : Nat, j ≤ rs.length ∧ i = .int .i64 j ∧ Hid (∀ m : Nat, m < j → ∀ x ∈ kidsD d (m : Int), (x : Int) ≠ n) ∧ Below w.heap.size w wr) (fun i _ => rs.length - (intOf i).toNat)
  case atStart => exact ⟨0, Nat.zero_le _, rfl, fun m hm => by omega, Below.refl _ _⟩
  case round =>
    obtain ⟨j, hj, rfl, NO, hnx⟩ := hrel
    have DR : Hid (DocAt wr b o c rs d) := H.out.keeps (keeps_below hnx (Nat.le_refl _))
    by_cases hlt : j < rs.length
    · have hKC := HK.out wr (j : Int) DR.out
      have FU : Hid (∀ k ∈ kidsD d (j : Int), (k : Int) = n → upF d n = (j : Int)) := fun k hk e => by rw [← e]; exact up_of_kid hf hk
      have N1 : Hid ((∀ x ∈ kidsD d (j : Int), (x : Int) ≠ n) → ∀ m : Nat, m < j + 1 → ∀ x ∈ kidsD d (m : Int), (x : Int) ≠ n) := fun h m hm x hx => by
        by_cases e : m = j
        · rw [e] at hx
          exact h x hx
        · exact NO.out m (by omega) x hx
      have hjl : (j : Int) < (rs.length : Int) := by omega
      generalize kidsD d (j : Int) = kl at *
      go_upto_region 5 with (go_at_call 51; refine hKC.mono ?_; rintro e w2 ⟨p2, c2, rfl, hi2, hb2⟩)
      obtain ⟨_, _, he, k1, k2, _, hat⟩ := hi2.at
      cases he
      have TK : Hid (∀ j (hj : j < kl.length), ∃ b o, p2 = some ⟨b, o, none⟩ ∧ w2.cell? ⟨b, o + j, none⟩ = some (.int .i64 (kl[j] : Int))) := hat
      have B2 : Below w.heap.size w w2 := hnx.trans (hb2.mono hnx.size)
      clear hat hi2 hKC
      go_loopw [17] (fun i wq => ∃ q : Nat, q ≤ kl.length ∧ i = .int .i64 q ∧ Hid (∀ x ∈ kl.take q, (x : Int) ≠ n) ∧ Below w2.heap.size w2 wq) (fun i _ => kl.length - (intOf i).toNat)
      case atStart => exact ⟨0, Nat.zero_le _, rfl, fun x hx => by simp at hx, Below.refl _ _⟩
      case round =>
        obtain ⟨q, hq, rfl, NQ, hbq⟩ := hrel
        have BQ : Below w.heap.size w wr := B2.trans (hbq.mono B2.size)
        by_cases hql : q < kl.length
        · obtain ⟨b3, o3, rfl, hc3⟩ := TK.out q hql
          have hcq := keeps_below hbq (Nat.le_refl _) _ _ hc3
          have R1 := FU.out kl[q] (List.getElem_mem hql)
          have N3 : (kl[q] : Int) ≠ n → Hid (∀ x ∈ kl.take (q + 1), (x : Int) ≠ n) := fun hno x hx => by
            rw [List.take_succ_eq_append_getElem hql, List.mem_append, List.mem_singleton] at hx
            rcases hx with hx | rfl
            · exact NQ.out x hx
            · exact hno
          clear hc3
          generalize kl[q] = x at *
          by_cases e : (x : Int) = n
          · have R2 : Hid (upF d n = (j : Int)) := R1 e
            have hq1 : ((x : Int) == n) = true := by simpa using e
            clear R1 N3 e
            go_wp2_with fail
            go_ret
            exact ⟨by rw [R2.out]; rfl, BQ⟩
          · have N4 := N3 e
            have hq1 : ((x : Int) == n) = false := by simpa using e
            clear R1 N3 e
            go_wp2_with fail
            go_roundw
            case rel => exact ⟨q + 1, by omega, by go_num, N4, hbq⟩
            case measure => simp [intOf]; omega
        · obtain rfl : q = kl.length := by omega
          have N4 : Hid (∀ m : Nat, m < j + 1 → ∀ x ∈ kidsD d (m : Int), (x : Int) ≠ n) := N1.out (fun x hx => NQ.out x (by rw [List.take_length]; exact hx))
          go_wp2_with fail
          go_roundw
          case rel => exact ⟨j + 1, by omega, by go_num, N4, BQ⟩
          case measure => simp [intOf]; omega
    · obtain rfl : j = rs.length := by omega
      have E : Hid (upF d n = -1) := up_none (fun m x hx => by
        obtain ⟨m', e, hl⟩ := kid_nat hx
        have : m = m' := by omega
        have h1 := Tn.lv_lt hl
        have h2 := L.out
        exact NO.out m (by omega) x hx)
      go_wp2_with fail
      go_ret
      exact ⟨by rw [E.out]; rfl, hnx⟩
end Go.Proofs.YtbinbojicmhdlaeGreatDoor

/-
  THE WALK of the reference's Shown.
-/
namespace Go.Proofs.YtbinbojicmhdlaeGreatDoor
open Go.RowKit

/-- append of a list that has something, and where what comes of it lies -/
theorem append_ints2 {w0 wr : World} {ops : Array Oper} {rest : List Oper} {o : Oper} {a : Act} {Q : Exit → Act → World → Prop} (hgd : o.guard = none)
    (s x : Operand) (ho : o.op = Op.call { callee := Callee.builtin Builtin.append, args := #[s, x], argTypes := #[33, 33] }) {B : Nat} {v u : Value} {l m : List Nat}
    (hs : a.eval s = v) (hx : a.eval x = u) (hown : OwnI wr B v l) (hm : IntsAt wr u m) (hm0 : m ≠ []) (hnx : Below B w0 wr) (hB : B ≤ wr.heap.size) (hsz : l.length + m.length ≤ 1000000)
    (h : ∀ v' w1, OwnI w1 B v' (l ++ m) → Below B w0 w1 → wr.grownBy w1 v.ownBlock → (v'.ownBlock = v.ownBlock ∨ ∃ g, wr.heap.size ≤ g ∧ v'.ownBlock = some g) → wpList Tryz.prog ops Q rest (a.put o.dst v') w1) :
    wpList Tryz.prog ops Q (o :: rest) a wr := by
  obtain ⟨i0, hi, hz0, hz1, hz2⟩ := info_parts infoI
  unfold OwnI at hown h
  obtain ⟨p, c, rfl, h1, h2, h3, h4⟩ := hm
  have hpos : 0 < m.length := List.length_pos_iff.mpr hm0
  obtain ⟨b, off, rfl, _⟩ := h4 0 (iv (m[0]'hpos)) (by rw [List.getElem?_map, List.getElem?_eq_getElem hpos]; rfl)
  have hnews : ∀ (j : Nat) (u : Value), (m.map iv)[j]? = some u → wr.cell? ((⟨b, off, none⟩ : Addr).add j) = some u := by
    intro j u hu
    obtain ⟨b', o', e1, e2⟩ := h4 j u hu
    cases e1
    rw [add_at]
    exact e2
  have hone : ∀ u ∈ m.map iv, u.oneCell' = true := by
    intro u hu
    simp at hu
    obtain ⟨q, _, rfl⟩ := hu
    rfl
  have hzs : (i0.size : Nat) = 1 := hz1
  refine wpList_plain hgd fun K hK => ?_
  obtain ⟨v', w', hr, g2, g3, _⟩ := run_append_own (P := Tryz.prog) wr B 33 o.type 3 i0 (.int .i64 0) 1 8 Tryz.underlying33 hi hz0 hz1 hz2 rfl (by decide) v _ _ hown ⟨b, off, none⟩ m.length c (m.map iv) (by simp) hnews hone (by unfold maxLen; omega) (by omega) hB
  have hn := hnx.grown g3 hB (fun j hj => (hown.lt j hj).1)
  have hblk : v'.ownBlock = v.ownBlock ∨ ∃ g, wr.heap.size ≤ g ∧ v'.ownBlock = some g := by
    rcases hown.2 with ⟨rfl, hn0⟩ | ⟨g, cap, cur, rfl, hbg, hg, hnc, hcm, hcs, htake⟩
    · have hr2 := run_append_nil (P := Tryz.prog) wr 33 o.type 3 i0 (.int .i64 0) Tryz.underlying33 hi hz0 ⟨b, off, none⟩ m.length c (m.map iv) (by rw [hzs]; simp) hnews hpos (by omega) (by rw [hz2]; omega)
      rw [hr2] at hr
      injection hr with e1 e2
      right
      refine ⟨wr.heap.size, Nat.le_refl _, ?_⟩
      rw [← e1]
      rfl
    · by_cases hroom : l.length + m.length ≤ cap
      · have hr2 := run_append_room (P := Tryz.prog) wr 33 o.type 3 i0 Tryz.underlying33 hi g l.length cap cur hg ⟨b, off, none⟩ m.length c (m.map iv) (by rw [hzs]; simp) hnews hone hroom (by rw [hzs, hcs]; simp; omega)
        rw [hr2] at hr
        injection hr with e1 e2
        left
        rw [← e1]
        rfl
      · have hr2 := run_append_grow (P := Tryz.prog) wr 33 o.type 3 i0 (.int .i64 0) Tryz.underlying33 hi hz0 ⟨g, 0, none⟩ l.length cap _ (by rw [hzs]; exact hown.1) (World.ownsRow.cells hown (g := g) rfl) ⟨b, off, none⟩ m.length c (m.map iv) (by rw [hzs]; simp) hnews (by omega) (by omega) (growslice_fits (by omega) (by rw [hz2]; omega))
        rw [hr2] at hr
        injection hr with e1 e2
        right
        refine ⟨wr.heap.size, Nat.le_refl _, ?_⟩
        rw [← e1]
        rfl
  unfold Oper.wp execOp
  simp only [ho, resolve, invoke, builtin, Sem.run_bind, Sem.run_pure, Result.andThen_ok, List.map_toArray, List.map_cons, List.map_nil, hs, hx, hr]
  exact hK _ _ (h v' w' (by simpa using g2) hn g3 hblk)

theorem shown_ne {d : Tn.Dc} {f n : Nat} (h : EndF f d n) : shownF f d n ≠ [] := by
  cases f with
  | zero => exact absurd h (by simp [EndF])
  | succ f => simp [shownF]

set_option maxHeartbeats 1600000 in
set_option maxRecDepth 100000 in
theorem qshown_any {b o c : Nat} {rs : List Raw} {d : Tn.Dc} (hf : Fine d) (f : Nat) : ∀ (n : Nat) (w : World), DocAt w b o c rs d → EndF f d n → (shownF f d n).length ≤ 10000 →
    Calls Tryz.prog 21 #[.slice (some ⟨b, o, none⟩) rs.length c, .int .i64 (n : Int)] w fun e w' => ∃ v, e = .returned v ∧ OwnI w' w.heap.size v (shownF f d n) ∧ Below w.heap.size w w' := by
  induction f with
  | zero => intro n w _ h; exact absurd h (by simp [EndF])
  | succ f ih =>
    intro n w hd hE hz
    have H : Hid (DocAt w b o c rs d) := hd
    have EE : Hid (∀ k ∈ kidsD d (n : Int), EndF f d k) := hE
    have SF : Hid (shownF (f + 1) d n = n :: (kidsD d (n : Int)).flatMap (shownF f d)) := rfl
    have Z : Hid ((shownF (f + 1) d n).length ≤ 10000) := hz
    have O1 := own_one w n
    have B1 := (Below.refl w.heap.size w).alloc (Nat.le_refl _) (.cells #[.int .i64 (n : Int)] 3)
    have hKC := qkids_two hd (hd.keeps (keeps_alloc w (.cells #[.int .i64 (n : Int)] 3))) hf (n : Int)
    have hz1 : w.heap.size < (w.alloc (.cells #[.int .i64 (n : Int)] 3)).heap.size := by simp
    have hkz : (kidsD d (n : Int)).length ≤ 100000 := by
      have h1 := Z.out
      rw [SF.out] at h1
      have h2 : (kidsD d (n : Int)).length ≤ ((kidsD d (n : Int)).flatMap (shownF f d)).length := by
        have : ∀ l : List Nat, (∀ k ∈ l, EndF f d k) → l.length ≤ (l.flatMap (shownF f d)).length := by
          intro l
          induction l with
          | nil => simp
          | cons a l ihl =>
            intro hl
            have ha := hl a (by simp)
            have := ihl (fun k hk => hl k (by simp [hk]))
            have h3 := List.length_pos_iff.mpr (shown_ne ha)
            rw [List.flatMap_cons, List.length_append, List.length_cons]
            omega
        exact this _ EE.out
      rw [List.length_cons] at h1
      omega
    clear hd hE hz
    generalize kidsD d (n : Int) = l at *
    go_enter Tryz.func21, Tryz.ntmps21
    go_upto_region 2 with fail
    generalize w.alloc (.cells #[.int .i64 (n : Int)] 3) = w1 at *
    go_upto_region 3 with (go_at_call 51; refine hKC.mono ?_; rintro e w2 ⟨p2, c2, rfl, hi2, hb2⟩)
    have T : Hid (∀ j (hj : j < l.length), ∃ b1 o1, p2 = some ⟨b1, o1, none⟩ ∧ b1 ≠ w.heap.size ∧ w2.cell? ⟨b1, o1 + j, none⟩ = some (.int .i64 (l[j] : Int))) := by
      intro j hj
      rcases hi2 with hi2 | hi2
      · obtain ⟨_, _, he, _, _, _, hat⟩ := hi2.at
        cases he
        obtain ⟨b1, o1, e1, e2⟩ := hat j hj
        have hlt := lt_of_cell e2
        have e3 := keeps_below (B1.trans (hb2.mono (Nat.le_of_lt hz1))) (Nat.le_refl _) _ _ e2
        exact ⟨b1, o1, e1, by have hlt' : b1 < w.heap.size := hlt; omega, e3⟩
      · obtain ⟨_, _, he, _, _, _, hat⟩ := (ints_of_owns hi2).at
        cases he
        obtain ⟨b1, o1, e1, e2⟩ := hat j hj
        have hge := OwnI.off hi2 _ e1
        exact ⟨b1, o1, e1, by have hge' : w1.heap.size ≤ b1 := hge; omega, e2⟩
    have hlc : l.length ≤ c2 ∧ c2 ≤ 9223372036854775807 := by
      rcases hi2 with hi2 | hi2
      · obtain ⟨_, _, he, h1, h2, _⟩ := hi2.at
        cases he
        exact ⟨h1, h2⟩
      · obtain ⟨_, _, he, h1, h2, _⟩ := (ints_of_owns hi2).at
        cases he
        exact ⟨h1, h2⟩
    obtain ⟨hlc1, hlc2⟩ := hlc
    have O2 : OwnI w2 w.heap.size (.slice (some ⟨w.heap.size, 0, none⟩) 1 1) [n] := O1.below hb2 (Nat.le_refl _)
    have B2 : Below w.heap.size w w2 := B1.trans (hb2.mono (Nat.le_of_lt hz1))
    clear hi2 hKC O1 hb2 hz1 B1
    go_loopw [5, 14] (fun v i wr => ∃ j : Nat, j ≤ l.length ∧ i = .int .i64 j ∧ OwnI wr w.heap.size v (n :: (l.take j).flatMap (shownF f d)) ∧ Below w.heap.size w wr ∧ Mv w.heap.size (some w.heap.size) v.ownBlock w2 wr) (fun _ i _ => l.length - (intOf i).toNat)
    case atStart => exact ⟨0, Nat.zero_le _, rfl, by simpa using O2, B2, Mv.refl _ _ _⟩
    case round =>
      obtain ⟨j, hj, rfl, hown, hnx, MR⟩ := hrel
      have DR : Hid (DocAt wr b o c rs d) := H.out.keeps (keeps_below hnx (Nat.le_refl _))
      by_cases hlt : j < l.length
      · obtain ⟨b1, o1, rfl, hbne, hc⟩ := T.out j hlt
        have hcr := MR.cell hc hbne (by intro e; injection e with e; exact hbne e)
        have F : Hid ((n :: (l.take (j + 1)).flatMap (shownF f d)) = (n :: (l.take j).flatMap (shownF f d)) ++ shownF f d l[j]) := by
          show _ = _
          rw [List.take_succ_eq_append_getElem hlt, List.flatMap_append]
          simp
        have hz : ((n :: (l.take j).flatMap (shownF f d)) ++ shownF f d l[j]).length ≤ 10000 := by
          rw [← F.out]
          have h1 := Z.out
          have h2 := take_flat_len l (shownF f d) (j + 1)
          rw [SF.out] at h1
          rw [List.length_cons] at h1 ⊢
          omega
        have hEj := EE.out _ (List.getElem_mem hlt)
        have hC := ih l[j] wr DR.out hEj (by rw [List.length_append] at hz; omega)
        have hne := shown_ne hEj
        have hz2 : (n :: (l.take j).flatMap (shownF f d)).length + (shownF f d l[j]).length ≤ 1000000 := by rw [List.length_append] at hz; omega
        have QM : Hid _ := MR
        have QE : Hid _ := hne
        clear hc hz hEj hne MR
        generalize shownF f d l[j] = sub at *
        generalize n :: (l.take j).flatMap (shownF f d) = acc at *
        generalize l[j] = x at *
        go_wp2_with (first
          | (go_at_call 21; refine hC.mono ?_; rintro e w5 ⟨v5, rfl, ho5, hb5⟩; have o5 := hown.below hb5 (Nat.le_refl _); have n5 := hnx.trans (hb5.mono hnx.size); have m5 := QM.out.below hb5)
          | (at_builtin; refine append_ints2 (w0 := w) rfl _ _ rfl rfl rfl o5 (ints_of_owns ho5) QE.out n5 n5.size hz2 ?_; intro v6 w6 o6 n6 g6 b6))
        go_roundw
        case rel =>
          refine ⟨j + 1, by omega, by go_num, by rw [F.out]; exact o6, n6, m5.trans ⟨g6.os, g6.tape, g6.output, g6.size, fun i hi _ hr => g6.block i hi (fun e => hr e), b6⟩⟩
        case measure => simp [intOf]; omega
      · obtain rfl : j = l.length := by omega
        rw [List.take_length] at hown
        go_wp2_with fail
        go_ret
        exact ⟨_, rfl, by rw [SF.out]; exact hown, hnx⟩
end Go.Proofs.YtbinbojicmhdlaeGreatDoor

/-
  TWO ATTRIBUTES THAT ARE ONE ARE NOT UNLIKE.
-/
namespace Go.Proofs.YtbinbojicmhdlaeGreatDoor
open Go.RowKit
end Go.Proofs.YtbinbojicmhdlaeGreatDoor

/-
  THE WALKS of the reference's SameInts and Same, at what reads the same.
-/
namespace Go.Proofs.YtbinbojicmhdlaeGreatDoor
open Go.RowKit

end Go.Proofs.YtbinbojicmhdlaeGreatDoor

/-
  THE WALKS of tnlaw3's host and alive.
-/
namespace Go.Proofs.YtbinbojicmhdlaeGreatDoor
open Go.RowKit

theorem chgs_new (w : World) (l : List Tn.Chg) (hl : l.length ≤ 1000) : ChgsAt (w.alloc (.cells (l.flatMap chc).toArray 53)) (.slice (some ⟨w.heap.size, 0, none⟩) l.length l.length) l := by
  refine ⟨_, _, rfl, Nat.le_refl _, by unfold maxLen; omega, fun j x hx => ⟨_, 0, rfl, ?_⟩⟩
  rw [Nat.zero_add, World.cell?_alloc_new, ← hx]
  simp

theorem ChgsAt.keeps {w w' : World} {v : Value} {l : List Tn.Chg} (h : ChgsAt w v l) (k : Keeps w w') : ChgsAt w' v l := by
  obtain ⟨p, c, e, h1, h2, h4⟩ := h
  refine ⟨p, c, e, h1, h2, fun j x hx => ?_⟩
  obtain ⟨b, o, e1, e2⟩ := h4 j x hx
  exact ⟨b, o, e1, k _ _ e2⟩

end Go.Proofs.YtbinbojicmhdlaeGreatDoor

/-
  THE WALK of tnlaw3's FlatTells.
-/
namespace Go.Proofs.YtbinbojicmhdlaeGreatDoor
open Go.RowKit

end Go.Proofs.YtbinbojicmhdlaeGreatDoor

/-
  THE WALKS of role.Said, has, Labelled, conceals, fitting; of the reference's said and Labelled.
-/
namespace Go.Proofs.YtbinbojicmhdlaeGreatDoor
open Go.RowKit

set_option maxHeartbeats 800000 in
theorem osaid_any {w : World} {b o c : Nat} {rs : List Raw} {d : Tn.Dc} (hd : DocAt w b o c rs d) (hg : Okd d) (hv : ∀ j, Vn (Tn.nd d j)) (n : Int) (name : ByteArray) :
    Calls Tryz.prog 43 #[.slice (some ⟨b, o, none⟩) rs.length c, .int .i64 n, .string name] w fun e w' => e = .returned (.string (saidN d n name)) ∧ Below w.heap.size w w' := by
  have hA := dattr_all hd hg n name
  have hz := val_size hv n name
  have hS : ∀ W, Calls Tryz.prog 82 #[.string (valN d n name)] W fun e w' => e = .returned (.string (saidN d n name)) ∧ Below W.heap.size W w' := fun W => Wd.squeeze_any _ W hz
  clear hd hg hv hz
  generalize saidN d n name = r at *
  generalize valN d n name = v at *
  generalize (attrN d n name).isSome = q at *
  go_enter Tryz.func43, Tryz.ntmps43
  go_wp2_with (first
    | (go_at_call 48; refine hA.mono ?_; rintro e w1 ⟨rfl, hb1⟩)
    | (go_at_call 82; refine (hS _).mono ?_; rintro e w2 ⟨rfl, hb2⟩))
  go_ret
  exact ⟨rfl, hb1.trans (hb2.mono hb1.size)⟩

set_option maxHeartbeats 800000 in
theorem ohas_any {w : World} {b o c : Nat} {rs : List Raw} {d : Tn.Dc} (hd : DocAt w b o c rs d) (hg : Okd d) (n : Int) (name : ByteArray) :
    Calls Tryz.prog 154 #[.slice (some ⟨b, o, none⟩) rs.length c, .int .i64 n, .string name] w fun e w' => e = .returned (.bool (hasN d n name)) ∧ Below w.heap.size w w' := by
  have hA := dattr_all hd hg n name
  clear hd hg
  unfold hasN
  generalize valN d n name = v at *
  generalize (attrN d n name).isSome = q at *
  go_enter Tryz.func154, Tryz.ntmps154
  go_wp2_with (go_at_call 48; refine hA.mono ?_; rintro e w1 ⟨rfl, hb1⟩)
  go_ret
  exact ⟨rfl, hb1⟩

set_option maxHeartbeats 800000 in
theorem olab_any {w : World} {b o c : Nat} {rs : List Raw} {d : Tn.Dc} (hd : DocAt w b o c rs d) (hg : Okd d) (hv : ∀ j, Vn (Tn.nd d j)) (n : Int) :
    Calls Tryz.prog 153 #[.slice (some ⟨b, o, none⟩) rs.length c, .int .i64 n] w fun e w' => e = .returned (.bool (labD d n)) ∧ Below w.heap.size w w' := by
  have S1 := osaid_any hd hg hv n ⟨#[97, 114, 105, 97, 45, 108, 97, 98, 101, 108]⟩
  have S2 : ∀ W, Keeps w W → Calls Tryz.prog 43 #[.slice (some ⟨b, o, none⟩) rs.length c, .int .i64 n, .string ⟨#[97, 114, 105, 97, 45, 108, 97, 98, 101, 108, 108, 101, 100, 98, 121]⟩] W fun e w' => e = .returned (.string (saidN d n ⟨#[97, 114, 105, 97, 45, 108, 97, 98, 101, 108, 108, 101, 100, 98, 121]⟩)) ∧ Below W.heap.size W w' := fun W hk => osaid_any (hd.keeps hk) hg hv n _
  have E : Hid (labD d n = (!(saidN d n ⟨#[97, 114, 105, 97, 45, 108, 97, 98, 101, 108]⟩).toList.isEmpty || !(saidN d n ⟨#[97, 114, 105, 97, 45, 108, 97, 98, 101, 108, 108, 101, 100, 98, 121]⟩).toList.isEmpty)) := rfl
  clear hd hg hv
  generalize saidN d n ⟨#[97, 114, 105, 97, 45, 108, 97, 98, 101, 108]⟩ = x at *
  generalize saidN d n ⟨#[97, 114, 105, 97, 45, 108, 97, 98, 101, 108, 108, 101, 100, 98, 121]⟩ = y at *
  generalize labD d n = res at *
  cases hx : x.toList.isEmpty with
  | false =>
    rw [hx] at E
    have E2 : Hid (res = true) := E.out
    clear E
    go_enter Tryz.func153, Tryz.ntmps153
    go_wp2_with (go_at_call 43; refine S1.mono ?_; rintro e w1 ⟨rfl, hb1⟩)
    go_ret
    exact ⟨by rw [E2.out]; rfl, hb1⟩
  | true =>
    cases hy : y.toList.isEmpty with
    | false =>
      rw [hx, hy] at E
      have E2 : Hid (res = true) := E.out
      clear E
      go_enter Tryz.func153, Tryz.ntmps153
      go_wp2_with (first
        | (go_at_call 43; refine S1.mono ?_; clear S1; rintro e w1 ⟨rfl, hb1⟩; have S3 := S2 w1 (keeps_below hb1 (Nat.le_refl _)))
        | (go_at_call 43; refine S3.mono ?_; rintro e w2 ⟨rfl, hb2⟩))
      go_ret
      exact ⟨by rw [E2.out]; rfl, hb1.trans (hb2.mono hb1.size)⟩
    | true =>
      rw [hx, hy] at E
      have E2 : Hid (res = false) := E.out
      clear E
      go_enter Tryz.func153, Tryz.ntmps153
      go_wp2_with (first
        | (go_at_call 43; refine S1.mono ?_; clear S1; rintro e w1 ⟨rfl, hb1⟩; have S3 := S2 w1 (keeps_below hb1 (Nat.le_refl _)))
        | (go_at_call 43; refine S3.mono ?_; rintro e w2 ⟨rfl, hb2⟩))
      go_ret
      exact ⟨by rw [E2.out]; rfl, hb1.trans (hb2.mono hb1.size)⟩

set_option maxHeartbeats 800000 in
theorem oconc_any {w : World} {b o c : Nat} {rs : List Raw} {d : Tn.Dc} (hd : DocAt w b o c rs d) (hg : Okd d) (hv : ∀ j, Vn (Tn.nd d j)) (n : Int) :
    Calls Tryz.prog 139 #[.slice (some ⟨b, o, none⟩) rs.length c, .int .i64 n] w fun e w' => e = .returned (.bool (concD d n)) ∧ Below w.heap.size w w' := by
  have S1 := ohas_any hd hg n ⟨#[104, 105, 100, 100, 101, 110]⟩
  have S2 : ∀ W, Keeps w W → Calls Tryz.prog 43 #[.slice (some ⟨b, o, none⟩) rs.length c, .int .i64 n, .string ⟨#[97, 114, 105, 97, 45, 104, 105, 100, 100, 101, 110]⟩] W fun e w' => e = .returned (.string (saidN d n ⟨#[97, 114, 105, 97, 45, 104, 105, 100, 100, 101, 110]⟩)) ∧ Below W.heap.size W w' := fun W hk => osaid_any (hd.keeps hk) hg hv n _
  have hz := said_size hv n ⟨#[97, 114, 105, 97, 45, 104, 105, 100, 100, 101, 110]⟩
  have S4 : ∀ W, Calls Tryz.prog 47 #[.string (saidN d n ⟨#[97, 114, 105, 97, 45, 104, 105, 100, 100, 101, 110]⟩)] W fun e w' => e = .returned (.string (lowS (saidN d n ⟨#[97, 114, 105, 97, 45, 104, 105, 100, 100, 101, 110]⟩))) ∧ Below W.heap.size W w' := fun W => Wd.lower_any _ W hz
  have E : Hid (concD d n = (hasN d n ⟨#[104, 105, 100, 100, 101, 110]⟩ || ((lowS (saidN d n ⟨#[97, 114, 105, 97, 45, 104, 105, 100, 100, 101, 110]⟩)).toList == [116, 114, 117, 101]))) := rfl
  clear hd hg hv hz
  generalize hasN d n ⟨#[104, 105, 100, 100, 101, 110]⟩ = x at *
  generalize lowS (saidN d n ⟨#[97, 114, 105, 97, 45, 104, 105, 100, 100, 101, 110]⟩) = z at *
  generalize saidN d n ⟨#[97, 114, 105, 97, 45, 104, 105, 100, 100, 101, 110]⟩ = y at *
  generalize concD d n = res at *
  cases x with
  | true =>
    have E2 : Hid (res = true) := E.out
    clear E
    go_enter Tryz.func139, Tryz.ntmps139
    go_wp2_with (go_at_call 154; refine S1.mono ?_; rintro e w1 ⟨rfl, hb1⟩)
    go_ret
    exact ⟨by rw [E2.out]; rfl, hb1⟩
  | false =>
    have E2 : Hid (res = (z.toList == [116, 114, 117, 101])) := E.out
    clear E
    go_enter Tryz.func139, Tryz.ntmps139
    go_wp2_with (first
      | (go_at_call 154; refine S1.mono ?_; rintro e w1 ⟨rfl, hb1⟩; have S3 := S2 w1 (keeps_below hb1 (Nat.le_refl _)))
      | (go_at_call 43; refine S3.mono ?_; rintro e w2 ⟨rfl, hb2⟩)
      | (go_at_call 47; refine (S4 _).mono ?_; rintro e w3 ⟨rfl, hb3⟩))
    go_ret
    have B2 := hb1.trans (hb2.mono hb1.size)
    exact ⟨by rw [E2.out]; simp, B2.trans (hb3.mono B2.size)⟩

theorem ofD_agg (r : Int) : ∃ (a0 : ByteArray) (a1 a2 a3 a4 a5 : Bool), Kn.kval (Kn.ofD r) = .agg #[.string a0, .bool a1, .bool a2, .bool a3, .bool a4, .bool a5, .int .i64 (needI r)] := ⟨_, _, _, _, _, _, rfl⟩

set_option maxHeartbeats 800000 in
theorem ofit_any {w : World} (T : Kn.TabAt w) (r a : Int) :
    Calls Tryz.prog 78 #[.int .i64 r, .int .i64 a] w fun e w' => e = .returned (.int .i64 (fitD r a)) ∧ Below w.heap.size w w' := by
  have S1 := Kn.of_any T r
  obtain ⟨a0, a1, a2, a3, a4, a5, hk⟩ := ofD_agg r
  rw [hk] at S1
  have hfl := Kn.field_need
  have E : Hid (fitD r a = if needI r ≠ 0 ∧ needI r ≠ a then 18 else r) := rfl
  clear hk
  generalize fitD r a = res at *
  generalize needI r = nd at *
  by_cases h1 : nd = 0
  · have E2 : Hid (res = r) := by show _ = _; rw [E.out, if_neg (by simp [h1])]
    subst h1
    clear E
    go_enter Tryz.func78, Tryz.ntmps78
    go_wp2_with (go_at_call 41; refine S1.mono ?_; rintro e w1 ⟨rfl, hb1⟩)
    go_ret
    exact ⟨by rw [E2.out]; rfl, hb1⟩
  · have h1b : (nd != 0) = true := by simpa using h1
    by_cases h2 : nd = a
    · have E2 : Hid (res = r) := by show _ = _; rw [E.out, if_neg (by simp [h2])]
      subst h2
      clear E
      go_enter Tryz.func78, Tryz.ntmps78
      go_wp2_with (go_at_call 41; refine S1.mono ?_; rintro e w1 ⟨rfl, hb1⟩)
      go_ret
      exact ⟨by rw [E2.out]; rfl, hb1⟩
    · have h2b : (nd != a) = true := by simpa using h2
      have E2 : Hid (res = 18) := by show _ = _; rw [E.out, if_pos ⟨h1, h2⟩]
      clear E
      go_enter Tryz.func78, Tryz.ntmps78
      go_wp2_with (go_at_call 41; refine S1.mono ?_; rintro e w1 ⟨rfl, hb1⟩)
      go_ret
      exact ⟨by rw [E2.out]; rfl, hb1⟩

/-- a document, and the table of kinds -/
structure Cx (w : World) (b o c : Nat) (rs : List Raw) (d : Tn.Dc) : Prop where
  doc : DocAt w b o c rs d
  tab : Kn.TabAt w
  fine : Fine d
  vn : ∀ j, Vn (Tn.nd d j)
theorem Cx.below {w w' : World} {b o c : Nat} {rs : List Raw} {d : Tn.Dc} (h : Cx w b o c rs d) (hb : Below w.heap.size w w') : Cx w' b o c rs d := ⟨h.doc.keeps (keeps_below hb (Nat.le_refl _)), h.tab.below hb, h.fine, h.vn⟩
theorem Cx.to {w w' : World} {b o c : Nat} {rs : List Raw} {d : Tn.Dc} (h : Cx w b o c rs d) {B : Nat} (hB : w.heap.size ≤ B) (hb : Below B w w') : Cx w' b o c rs d := h.below (hb.mono hB)

set_option maxHeartbeats 800000 in
theorem qsaid_any {w : World} {b o c : Nat} {rs : List Raw} {d : Tn.Dc} (hd : DocAt w b o c rs d) (hv : ∀ j, Vn (Tn.nd d j)) (n : Int) (name : ByteArray) :
    Calls Tryz.prog 53 #[.slice (some ⟨b, o, none⟩) rs.length c, .int .i64 n, .string name] w fun e w' => e = .returned (.string (saidN d n name)) ∧ Below w.heap.size w w' := by
  have hA := rattr_all hd n name
  have hz := val_size hv n name
  have hS : ∀ W, Calls Tryz.prog 24 #[.string (valN d n name)] W fun e w' => e = .returned (.string (saidN d n name)) ∧ Below W.heap.size W w' := fun W => Wd.rsqueeze_any _ W hz
  clear hd hv hz
  generalize saidN d n name = r at *
  generalize valN d n name = v at *
  generalize (attrN d n name).isSome = q at *
  go_enter Tryz.func53, Tryz.ntmps53
  go_wp2_with (first
    | (go_at_call 30; refine hA.mono ?_; rintro e w1 ⟨rfl, hb1⟩)
    | (go_at_call 24; refine (hS _).mono ?_; rintro e w2 ⟨rfl, hb2⟩))
  go_ret
  exact ⟨rfl, hb1.trans (hb2.mono hb1.size)⟩

theorem app_empty (x y : ByteArray) : (x ++ y).toList.isEmpty = (x.toList.isEmpty && y.toList.isEmpty) := by
  rw [ByteArray.toList_eq, ByteArray.toList_eq, ByteArray.toList_eq, ByteArray.data_append, Array.toList_append]
  generalize x.data.toList = a
  generalize y.data.toList = b
  cases a <;> cases b <;> rfl

set_option maxHeartbeats 800000 in
theorem qlab_any {w : World} {b o c : Nat} {rs : List Raw} {d : Tn.Dc} (hd : DocAt w b o c rs d) (hv : ∀ j, Vn (Tn.nd d j)) (n : Int) :
    Calls Tryz.prog 87 #[.slice (some ⟨b, o, none⟩) rs.length c, .int .i64 n] w fun e w' => e = .returned (.bool (labD d n)) ∧ Below w.heap.size w w' := by
  have S1 := qsaid_any hd hv n ⟨#[97, 114, 105, 97, 45, 108, 97, 98, 101, 108]⟩
  have S2 : ∀ W, Keeps w W → Calls Tryz.prog 53 #[.slice (some ⟨b, o, none⟩) rs.length c, .int .i64 n, .string ⟨#[97, 114, 105, 97, 45, 108, 97, 98, 101, 108, 108, 101, 100, 98, 121]⟩] W fun e w' => e = .returned (.string (saidN d n ⟨#[97, 114, 105, 97, 45, 108, 97, 98, 101, 108, 108, 101, 100, 98, 121]⟩)) ∧ Below W.heap.size W w' := fun W hk => qsaid_any (hd.keeps hk) hv n _
  have E : Hid (labD d n = !(saidN d n ⟨#[97, 114, 105, 97, 45, 108, 97, 98, 101, 108]⟩ ++ saidN d n ⟨#[97, 114, 105, 97, 45, 108, 97, 98, 101, 108, 108, 101, 100, 98, 121]⟩).toList.isEmpty) := by
    show _ = _
    rw [app_empty]
    unfold labD
    rw [Bool.not_and]
  have z1 := said_size hv n ⟨#[97, 114, 105, 97, 45, 108, 97, 98, 101, 108]⟩
  have z2 := said_size hv n ⟨#[97, 114, 105, 97, 45, 108, 97, 98, 101, 108, 108, 101, 100, 98, 121]⟩
  clear hd hv
  generalize saidN d n ⟨#[97, 114, 105, 97, 45, 108, 97, 98, 101, 108]⟩ = x at *
  generalize saidN d n ⟨#[97, 114, 105, 97, 45, 108, 97, 98, 101, 108, 108, 101, 100, 98, 121]⟩ = y at *
  generalize labD d n = res at *
  go_enter Tryz.func87, Tryz.ntmps87
  go_wp2_with (first
    | (go_at_call 53; refine S1.mono ?_; clear S1; rintro e w1 ⟨rfl, hb1⟩; have S3 := S2 w1 (keeps_below hb1 (Nat.le_refl _)))
    | (go_at_call 53; refine S3.mono ?_; rintro e w2 ⟨rfl, hb2⟩))
  go_ret
  exact ⟨by rw [E.out]; simp, hb1.trans (hb2.mono hb1.size)⟩
end Go.Proofs.YtbinbojicmhdlaeGreatDoor

/-
  THE WALK of role.wanted.
-/
namespace Go.Proofs.YtbinbojicmhdlaeGreatDoor
open Go.RowKit

theorem tok_len : ∀ (ts : List (List UInt8)) (t : List UInt8), t ∈ ts → t.length ≤ (Tx.joined ts).length
  | [], t, h => by simp at h
  | [a], t, h => by
    rw [List.mem_singleton] at h
    rw [h, Tx.joined_one]
    exact Nat.le_refl _
  | a :: b :: r, t, h => by
    rw [Tx.joined_cons]
    rw [List.mem_cons] at h
    rcases h with rfl | h
    · simp
    · have := tok_len (b :: r) t h
      simp
      omega

theorem tok_size {s : ByteArray} (hs : s.size ≤ 4194304) {t : List UInt8} (ht : t ∈ Wd.toksOf s) : t.length ≤ 4194304 := by
  have := tok_len _ t ht
  have := Wd.joined_len s
  omega

theorem find_cases (s : List UInt8) : Kn.findD s = -1 ∨ ∃ r : Nat, Kn.findD s = (r : Int) := by
  unfold Kn.findD
  cases Kn.lk (Kn.nmL 19) s with
  | none => exact Or.inl rfl
  | some r => exact Or.inr ⟨r, rfl⟩

theorem want_at (lab : Bool) (ts : List (List UInt8)) (j : Nat) (h : j < ts.length) : wantL lab (ts.drop j) = if Kn.findD (Wd.lowL ts[j]) = 0 ∧ lab = true then -1 else if 0 ≤ Kn.findD (Wd.lowL ts[j]) then Kn.findD (Wd.lowL ts[j]) else wantL lab (ts.drop (j + 1)) := by
  rw [List.drop_eq_getElem_cons h, wantL]

set_option maxHeartbeats 1600000 in
set_option maxRecDepth 100000 in
theorem owant_any {w : World} {b o c : Nat} {rs : List Raw} {d : Tn.Dc} (hc : Cx w b o c rs d) (n : Int) :
    Calls Tryz.prog 122 #[.slice (some ⟨b, o, none⟩) rs.length c, .int .i64 n] w fun e w' => e = .returned (.int .i64 (wantD d n)) ∧ Below w.heap.size w w' := by
  have C : Hid (Cx w b o c rs d) := hc
  have hA := dattr_all hc.doc hc.fine.okd n ⟨#[114, 111, 108, 101]⟩
  have hz := val_size hc.vn n ⟨#[114, 111, 108, 101]⟩
  have E : Hid (wantD d n = wantL (labD d n) (Wd.toksOf (valN d n ⟨#[114, 111, 108, 101]⟩))) := rfl
  have HL : Hid (∀ W, Below w.heap.size w W → Calls Tryz.prog 153 #[.slice (some ⟨b, o, none⟩) rs.length c, .int .i64 n] W fun e w' => e = .returned (.bool (labD d n)) ∧ Below W.heap.size W w') := fun W hb => olab_any (hc.below hb).doc hc.fine.okd hc.vn n
  have HF : Hid (∀ W s, Below w.heap.size w W → s.size ≤ 4194304 → Calls Tryz.prog 152 #[.string s] W fun e w' => e = .returned (.int .i64 (Kn.findD s.data.toList)) ∧ Below W.heap.size W w') := fun W s hb hs => Kn.find_any (hc.below hb).tab s (by unfold maxLen; omega)
  clear hc
  generalize labD d n = lab at *
  generalize wantD d n = res at *
  generalize valN d n ⟨#[114, 111, 108, 101]⟩ = v at *
  generalize (attrN d n ⟨#[114, 111, 108, 101]⟩).isSome = q at *
  by_cases hne : Wd.toksOf v = []
  · have E2 : Hid (res = -1) := by show _ = _; rw [E.out, hne]; rfl
    have hT : ∀ W, Calls Tryz.prog 80 #[.string v] W fun e w' => e = .returned (.slice none 0 0) ∧ Below W.heap.size W w' := fun W => Wd.tokens_none v W hz hne
    clear E HL HF hne
    go_enter Tryz.func122, Tryz.ntmps122
    go_wp2_with (first
      | (go_at_call 48; refine hA.mono ?_; rintro e w1 ⟨rfl, hb1⟩)
      | (go_at_call 80; refine (hT _).mono ?_; rintro e w2 ⟨rfl, hb2⟩))
    refine wp_loop_rounds 1 ?_
    rw [rounds_succ]
    go_wp2_with fail
    go_ret
    exact ⟨by rw [E2.out]; rfl, hb1.trans (hb2.mono hb1.size)⟩
  · have hT : ∀ W, Calls Tryz.prog 80 #[.string v] W fun e w' => ∃ g c, e = .returned (.slice (some ⟨g, 0, none⟩) (Wd.toksOf v).length c) ∧ Wd.Words W.heap.size (Wd.toksOf v) g c w' ∧ Below W.heap.size W w' := fun W => Wd.tokens_some v W hz hne
    have hl := Wd.toksOf_len v
    have TS : Hid (∀ t ∈ Wd.toksOf v, t.length ≤ 4194304) := fun t ht => tok_size hz ht
    have hlen : (Wd.toksOf v).length ≤ 4194304 := by omega
    clear hne hl
    generalize Wd.toksOf v = ts at *
    go_enter Tryz.func122, Tryz.ntmps122
    go_wp2_with (first
      | (go_at_call 48; refine hA.mono ?_; rintro e w1 ⟨rfl, hb1⟩)
      | (go_at_call 80; refine (hT _).mono ?_; rintro e w2 ⟨g2, c2, rfl, hW2, hb2⟩))
    have TW : Hid (∀ j t, ts[j]? = some t → w2.cell? ⟨g2, j, none⟩ = some (.string (Tx.bs t))) := hW2.2.2.2
    have hcap := hW2.2.2.1
    have B2 : Below w.heap.size w w2 := hb1.trans (hb2.mono hb1.size)
    clear hW2 hT hA
    go_loopw [19] (fun i wr => ∃ j : Nat, j ≤ ts.length ∧ i = .int .i64 j ∧ Hid (res = wantL lab (ts.drop j)) ∧ Below w2.heap.size w2 wr) (fun i _ => ts.length - (intOf i).toNat)
    case atStart => exact ⟨0, Nat.zero_le _, rfl, by show _ = _; rw [E.out]; rfl, Below.refl _ _⟩
    case round =>
      obtain ⟨j, hj, rfl, R, hnx⟩ := hrel
      have BR : Below w.heap.size w wr := B2.trans (hnx.mono B2.size)
      by_cases hlt : j < ts.length
      · have hjt := List.getElem?_eq_getElem hlt
        have hc1 := keeps_below hnx (Nat.le_refl _) _ _ (TW.out j _ hjt)
        have hts := TS.out ts[j] (List.getElem_mem hlt)
        have R1 : Hid (res = if Kn.findD (Wd.lowL ts[j]) = 0 ∧ lab = true then -1 else if 0 ≤ Kn.findD (Wd.lowL ts[j]) then Kn.findD (Wd.lowL ts[j]) else wantL lab (ts.drop (j + 1))) := by
          show _ = _
          rw [R.out, want_at lab ts j hlt]
        have hLo : Calls Tryz.prog 47 #[.string (Tx.bs ts[j])] wr fun e w' => e = .returned (.string (Tx.bs (Wd.lowL ts[j]))) ∧ Below wr.heap.size wr w' := Wd.lower_any (Tx.bs ts[j]) wr hts
        have hFi : ∀ W, Below w.heap.size w W → Calls Tryz.prog 152 #[.string (Tx.bs (Wd.lowL ts[j]))] W fun e w' => e = .returned (.int .i64 (Kn.findD (Wd.lowL ts[j]))) ∧ Below W.heap.size W w' := fun W hb => HF.out W (Tx.bs (Wd.lowL ts[j])) hb (by show (Wd.lowL ts[j]).length ≤ _; rw [Wd.lowL_len]; exact hts)
        have fc := find_cases (Wd.lowL ts[j])
        clear R hjt hts
        generalize Tx.bs ts[j] = tb at *
        generalize Tx.bs (Wd.lowL ts[j]) = lb at *
        generalize Kn.findD (Wd.lowL ts[j]) = f at *
        rcases fc with rfl | ⟨r, rfl⟩
        · have R2 : Hid (res = wantL lab (ts.drop (j + 1))) := by show _ = _; rw [R1.out, if_neg (by omega), if_neg (by omega)]
          clear R1
          go_wp2_with (first
            | (go_at_call 47; refine hLo.mono ?_; rintro e w3 ⟨rfl, hb3⟩; have B3 := BR.trans (hb3.mono BR.size))
            | (go_at_call 152; refine (hFi _ B3).mono ?_; rintro e w4 ⟨rfl, hb4⟩))
          go_roundw
          case rel => exact ⟨j + 1, by omega, by go_num, R2, (hnx.trans (hb3.mono hnx.size)).trans (hb4.mono (Nat.le_trans hnx.size hb3.size))⟩
          case measure => simp [intOf]; omega
        · cases r with
          | zero =>
            cases lab with
            | true =>
              have R2 : Hid (res = -1) := by show _ = _; rw [R1.out, if_pos ⟨rfl, rfl⟩]
              clear R1
              go_wp2_with (first
                | (go_at_call 47; refine hLo.mono ?_; rintro e w3 ⟨rfl, hb3⟩; have B3 := BR.trans (hb3.mono BR.size))
                | (go_at_call 152; refine (hFi _ B3).mono ?_; rintro e w4 ⟨rfl, hb4⟩; have B4 := B3.trans (hb4.mono B3.size))
                | (go_at_call 153; refine (HL.out _ B4).mono ?_; rintro e w5 ⟨rfl, hb5⟩))
              go_ret
              exact ⟨by rw [R2.out]; rfl, B4.trans (hb5.mono B4.size)⟩
            | false =>
              have R2 : Hid (res = 0) := by show _ = _; rw [R1.out, if_neg (by simp), if_pos (by omega)]; rfl
              clear R1
              go_wp2_with (first
                | (go_at_call 47; refine hLo.mono ?_; rintro e w3 ⟨rfl, hb3⟩; have B3 := BR.trans (hb3.mono BR.size))
                | (go_at_call 152; refine (hFi _ B3).mono ?_; rintro e w4 ⟨rfl, hb4⟩; have B4 := B3.trans (hb4.mono B3.size))
                | (go_at_call 153; refine (HL.out _ B4).mono ?_; rintro e w5 ⟨rfl, hb5⟩))
              go_ret
              exact ⟨by rw [R2.out]; rfl, B4.trans (hb5.mono B4.size)⟩
          | succ r =>
            have R2 : Hid (res = ((r + 1 : Nat) : Int)) := by show _ = _; rw [R1.out, if_neg (by omega), if_pos (by omega)]
            have hq : ((((r + 1 : Nat) : Int)) == 0) = false := by simp; omega
            clear R1
            generalize hr : r + 1 = r1 at *
            have hr1 : 0 < r1 := by omega
            clear hr
            go_wp2_with (first
              | (go_at_call 47; refine hLo.mono ?_; rintro e w3 ⟨rfl, hb3⟩; have B3 := BR.trans (hb3.mono BR.size))
              | (go_at_call 152; refine (hFi _ B3).mono ?_; rintro e w4 ⟨rfl, hb4⟩; have B4 := B3.trans (hb4.mono B3.size)))
            go_ret
            exact ⟨by rw [R2.out]; rfl, B4⟩
      · obtain rfl : j = ts.length := by omega
        have R2 : Hid (res = -1) := by show _ = _; rw [R.out, List.drop_length]; rfl
        go_wp2_with fail
        go_ret
        exact ⟨by rw [R2.out]; rfl, BR⟩
end Go.Proofs.YtbinbojicmhdlaeGreatDoor

/-
  PLAIN MATHEMATICS: the words of a text, lowered, are its words, each lowered.
-/
namespace Go.Proofs.YtbinbojicmhdlaeGreatDoor
open Go.RowKit

theorem blank_low (c : UInt8) : Tx.blank (Wd.lowB c) = Tx.blank c := by
  by_cases h : 65 ≤ c.toNat ∧ c.toNat ≤ 90
  · have h2 := Wd.lowB_yes c h
    have no : ∀ x : UInt8, 33 ≤ x.toNat → Tx.blank x = false := by
      intro x hx
      unfold Tx.blank
      have n1 : (x == 32) = false := by simp; intro e; subst e; simp at hx
      have n2 : (x == 9) = false := by simp; intro e; subst e; simp at hx
      have n3 : (x == 10) = false := by simp; intro e; subst e; simp at hx
      have n4 : (x == 13) = false := by simp; intro e; subst e; simp at hx
      rw [n1, n2, n3, n4]
      rfl
    rw [no c (by omega), no _ (by omega)]
  · rw [Wd.lowB_no c h]

theorem fin_low (a : List (List UInt8)) (c : List UInt8) : Tx.fin (a.map Wd.lowL) (Wd.lowL c) = (Tx.fin a c).map Wd.lowL := by
  cases c with
  | nil => simp [Tx.fin, Wd.lowL]
  | cons x r => simp [Tx.fin, Wd.lowL]

theorem scan_low : ∀ (l : List UInt8) (a : List (List UInt8)) (c : List UInt8), (Wd.lowL l).foldl Tx.step (a.map Wd.lowL, Wd.lowL c) = ((l.foldl Tx.step (a, c)).1.map Wd.lowL, Wd.lowL (l.foldl Tx.step (a, c)).2)
  | [], a, c => rfl
  | x :: l, a, c => by
    have e : Tx.step (a.map Wd.lowL, Wd.lowL c) (Wd.lowB x) = ((Tx.step (a, c) x).1.map Wd.lowL, Wd.lowL (Tx.step (a, c) x).2) := by
      unfold Tx.step
      rw [blank_low]
      split
      · exact congrArg (fun z => (z, ([] : List UInt8))) (fin_low a c)
      · simp [Wd.lowL]
    have e2 : Wd.lowL (x :: l) = Wd.lowB x :: Wd.lowL l := rfl
    rw [e2, List.foldl_cons, List.foldl_cons, e, scan_low l]

theorem toks_low (l : List UInt8) : Tx.toks (Wd.lowL l) = (Tx.toks l).map Wd.lowL := by
  have := scan_low l [] []
  unfold Tx.toks Tx.scan
  rw [show (Wd.lowL l).foldl Tx.step ([], []) = (Wd.lowL l).foldl Tx.step (([] : List (List UInt8)).map Wd.lowL, Wd.lowL []) from rfl, this]
  exact fin_low _ _

theorem toks_said (v : ByteArray) : Wd.toksOf (lowS (Wd.sqz v)) = (Wd.toksOf v).map Wd.lowL := by
  show Tx.toks (Wd.lowL (Tx.squeeze v.data.toList)) = _
  rw [toks_low, Tx.toks_squeeze]
  rfl

/-- the first one that is asked for, of words that are lowered -/
def refL (lab : Bool) : List (List UInt8) → Int
  | [] => -1
  | t :: ts => if Kn.findD t = 0 ∧ lab = true then -1 else if 0 ≤ Kn.findD t then Kn.findD t else refL lab ts
theorem ref_want (lab : Bool) : ∀ ts, refL lab (ts.map Wd.lowL) = wantL lab ts
  | [] => rfl
  | t :: ts => by rw [List.map_cons, refL, wantL, ref_want lab ts]
theorem ref_at (lab : Bool) (ts : List (List UInt8)) (j : Nat) (h : j < ts.length) : refL lab (ts.drop j) = if Kn.findD ts[j] = 0 ∧ lab = true then -1 else if 0 ≤ Kn.findD ts[j] then Kn.findD ts[j] else refL lab (ts.drop (j + 1)) := by
  rw [List.drop_eq_getElem_cons h, refL]
theorem want_ref (d : Tn.Dc) (n : Int) : wantD d n = refL (labD d n) (Wd.toksOf (lowS (saidN d n ⟨#[114, 111, 108, 101]⟩))) := by
  unfold wantD saidN
  rw [toks_said, ref_want]
theorem low_size (s : ByteArray) : (lowS s).size = s.size := by
  show (Wd.lowL s.data.toList).length = s.size
  rw [Wd.lowL_len]
  rfl
end Go.Proofs.YtbinbojicmhdlaeGreatDoor

/-
  THE WALKS of role.native and role.alone.
-/
namespace Go.Proofs.YtbinbojicmhdlaeGreatDoor
open Go.RowKit

theorem isA_one {s : ByteArray} {a b : List UInt8} (h : isA s a = true) (hab : a ≠ b) : isA s b = false := by
  unfold isA at *
  have : s.toList = a := by simpa using h
  rw [this]
  simpa using hab

set_option maxHeartbeats 3200000 in
set_option maxRecDepth 100000 in
theorem onat_any {w : World} {b o c : Nat} {rs : List Raw} {d : Tn.Dc} (hc : Cx w b o c rs d) (k : Nat) (hk : Tn.isN d (k : Int) true = true) :
    Calls Tryz.prog 123 #[.slice (some ⟨b, o, none⟩) rs.length c, .int .i64 (k : Int)] w fun e w' => e = .returned (.int .i64 (natD d (k : Int))) ∧ Below w.heap.size w w' := by
  have hd := hc.doc
  have hg := hc.fine.okd
  have hkl : k < d.length := by obtain ⟨k', e, h, _⟩ := isN_nat (isN_true hk); omega
  have hk' : k < rs.length := by rw [hd.len]; exact hkl
  have h1 := hd.row.c1 k hk'
  have ht : rs[k].tag = (Tn.nd d k).tag := by rw [(hd.nds k hk' hkl).tag, nd_at hkl]
  rw [ht] at h1
  have tz := (hc.vn k).2
  have SH : ∀ W, Below w.heap.size w W → Calls Tryz.prog 154 #[.slice (some ⟨b, o, none⟩) rs.length c, .int .i64 (k : Int), .string ⟨#[104, 114, 101, 102]⟩] W fun e w' => e = .returned (.bool (hasN d (k : Int) ⟨#[104, 114, 101, 102]⟩)) ∧ Below W.heap.size W w' := fun W hb => ohas_any (hc.below hb).doc hg _ _
  have SA : ∀ W, Below w.heap.size w W → Calls Tryz.prog 154 #[.slice (some ⟨b, o, none⟩) rs.length c, .int .i64 (k : Int), .string ⟨#[97, 108, 116]⟩] W fun e w' => e = .returned (.bool (hasN d (k : Int) ⟨#[97, 108, 116]⟩)) ∧ Below W.heap.size W w' := fun W hb => ohas_any (hc.below hb).doc hg _ _
  have SY : ∀ W, Below w.heap.size w W → Calls Tryz.prog 43 #[.slice (some ⟨b, o, none⟩) rs.length c, .int .i64 (k : Int), .string ⟨#[116, 121, 112, 101]⟩] W fun e w' => e = .returned (.string (saidN d (k : Int) ⟨#[116, 121, 112, 101]⟩)) ∧ Below W.heap.size W w' := fun W hb => osaid_any (hc.below hb).doc hg hc.vn _ _
  have SB : ∀ W, Below w.heap.size w W → Calls Tryz.prog 43 #[.slice (some ⟨b, o, none⟩) rs.length c, .int .i64 (k : Int), .string ⟨#[97, 108, 116]⟩] W fun e w' => e = .returned (.string (saidN d (k : Int) ⟨#[97, 108, 116]⟩)) ∧ Below W.heap.size W w' := fun W hb => osaid_any (hc.below hb).doc hg hc.vn _ _
  have ST : ∀ W, Below w.heap.size w W → Calls Tryz.prog 43 #[.slice (some ⟨b, o, none⟩) rs.length c, .int .i64 (k : Int), .string ⟨#[116, 105, 116, 108, 101]⟩] W fun e w' => e = .returned (.string (saidN d (k : Int) ⟨#[116, 105, 116, 108, 101]⟩)) ∧ Below W.heap.size W w' := fun W hb => osaid_any (hc.below hb).doc hg hc.vn _ _
  have yz := said_size hc.vn (k : Int) ⟨#[116, 121, 112, 101]⟩
  have SW : ∀ W, Calls Tryz.prog 47 #[.string (saidN d (k : Int) ⟨#[116, 121, 112, 101]⟩)] W fun e w' => e = .returned (.string (lowS (saidN d (k : Int) ⟨#[116, 121, 112, 101]⟩))) ∧ Below W.heap.size W w' := fun W => Wd.lower_any _ W yz
  have SL : ∀ W, Below w.heap.size w W → Calls Tryz.prog 153 #[.slice (some ⟨b, o, none⟩) rs.length c, .int .i64 (k : Int)] W fun e w' => e = .returned (.bool (labD d (k : Int))) ∧ Below W.heap.size W w' := fun W hb => olab_any (hc.below hb).doc hg hc.vn _
  have SG : ∀ W, Calls Tryz.prog 155 #[.string (Tn.nd d k).tag] W fun e w' => e = .returned (.int .i64 (Kn.tagD (Tn.nd d k).tag.data.toList)) ∧ Below W.heap.size W w' := fun W => Kn.tag_any W _ (by unfold maxLen; omega)
  have E : Hid (natD d (k : Int) = natT (labD d (k : Int)) (hasN d (k : Int) ⟨#[104, 114, 101, 102]⟩) ((lowS (saidN d (k : Int) ⟨#[116, 121, 112, 101]⟩)).toList == [99, 104, 101, 99, 107, 98, 111, 120]) (hasN d (k : Int) ⟨#[97, 108, 116]⟩ && (saidN d (k : Int) ⟨#[97, 108, 116]⟩).toList.isEmpty) (!(saidN d (k : Int) ⟨#[116, 105, 116, 108, 101]⟩).toList.isEmpty) (Tn.nd d k).tag) := rfl
  clear hc hd hg hk hkl ht yz tz
  generalize natD d (k : Int) = res at *
  generalize labD d (k : Int) = lab at *
  generalize hasN d (k : Int) ⟨#[104, 114, 101, 102]⟩ = hr at *
  generalize hasN d (k : Int) ⟨#[97, 108, 116]⟩ = al at *
  generalize lowS (saidN d (k : Int) ⟨#[116, 121, 112, 101]⟩) = ylow at *
  generalize saidN d (k : Int) ⟨#[116, 121, 112, 101]⟩ = ysay at *
  generalize saidN d (k : Int) ⟨#[97, 108, 116]⟩ = asay at *
  generalize saidN d (k : Int) ⟨#[116, 105, 116, 108, 101]⟩ = tsay at *
  generalize (Tn.nd d k).tag = tag at *
  generalize hTG : Kn.tagD tag.data.toList = tg at *
  cases ha : isA tag [97] with
  | true =>
    have hi := isA_one ha (b := [105, 110, 112, 117, 116]) (by decide)
    have hm := isA_one ha (b := [105, 109, 103]) (by decide)
    have hs := isA_one ha (b := [115, 101, 99, 116, 105, 111, 110]) (by decide)
    cases hr with
    | true =>
      have E2 : Hid (res = 7) := by show _ = _; rw [E.out]; unfold natT; simp [ha]
      clear E hTG
      have B0 := Below.refl w.heap.size w
      simp only [isA] at *
      go_enter Tryz.func123, Tryz.ntmps123
      go_wp2_with (go_at_call 154; refine ((SH _ B0)).mono ?_; clear SH; rintro e w1 ⟨rfl, hb1⟩; have B1 := B0.trans (hb1.mono B0.size))
      go_ret
      exact ⟨by rw [E2.out]; rfl, B1⟩
    | false =>
      have E2 : Hid (res = tg) := by show _ = _; rw [E.out]; unfold natT; simp [ha, hi, hm, hs, hTG]
      clear E hTG
      have B0 := Below.refl w.heap.size w
      simp only [isA] at *
      go_enter Tryz.func123, Tryz.ntmps123
      go_wp2_with (first
        | (go_at_call 154; refine ((SH _ B0)).mono ?_; clear SH; rintro e w1 ⟨rfl, hb1⟩; have B1 := B0.trans (hb1.mono B0.size))
        | (go_at_call 155; refine ((SG _)).mono ?_; rintro e w2 ⟨rfl, hb2⟩; have B2 := B1.trans (hb2.mono B1.size)))
      go_ret
      exact ⟨by rw [E2.out]; rfl, B2⟩
  | false =>
    cases hi : isA tag [105, 110, 112, 117, 116] with
    | true =>
      cases hy : (ylow.toList == [99, 104, 101, 99, 107, 98, 111, 120]) with
      | true =>
        have E2 : Hid (res = 9) := by show _ = _; rw [E.out]; unfold natT; simp [ha, hi, hy]
        clear E hTG
        have B0 := Below.refl w.heap.size w
        simp only [isA] at *
        go_enter Tryz.func123, Tryz.ntmps123
        go_wp2_with (first
          | (go_at_call 43; refine ((SY _ B0)).mono ?_; clear SY; rintro e w1 ⟨rfl, hb1⟩; have B1 := B0.trans (hb1.mono B0.size))
          | (go_at_call 47; refine ((SW _)).mono ?_; clear SW; rintro e w2 ⟨rfl, hb2⟩; have B2 := B1.trans (hb2.mono B1.size)))
        go_ret
        exact ⟨by rw [E2.out]; rfl, B2⟩
      | false =>
        have E2 : Hid (res = 12) := by show _ = _; rw [E.out]; unfold natT; simp [ha, hi, hy]
        clear E hTG
        have B0 := Below.refl w.heap.size w
        simp only [isA] at *
        go_enter Tryz.func123, Tryz.ntmps123
        go_wp2_with (first
          | (go_at_call 43; refine ((SY _ B0)).mono ?_; clear SY; rintro e w1 ⟨rfl, hb1⟩; have B1 := B0.trans (hb1.mono B0.size))
          | (go_at_call 47; refine ((SW _)).mono ?_; clear SW; rintro e w2 ⟨rfl, hb2⟩; have B2 := B1.trans (hb2.mono B1.size)))
        go_ret
        exact ⟨by rw [E2.out]; rfl, B2⟩
    | false =>
      cases hm : isA tag [105, 109, 103] with
      | true =>
        cases al with
        | false =>
          have E2 : Hid (res = 11) := by show _ = _; rw [E.out]; unfold natT; simp [ha, hi, hm]
          clear E hTG
          have B0 := Below.refl w.heap.size w
          simp only [isA] at *
          go_enter Tryz.func123, Tryz.ntmps123
          go_wp2_with (go_at_call 154; refine ((SA _ B0)).mono ?_; clear SA; rintro e w1 ⟨rfl, hb1⟩; have B1 := B0.trans (hb1.mono B0.size))
          go_ret
          exact ⟨by rw [E2.out]; rfl, B1⟩
        | true =>
          cases he : asay.toList.isEmpty with
          | false =>
            have E2 : Hid (res = 11) := by show _ = _; rw [E.out]; unfold natT; simp [ha, hi, hm, he]
            clear E hTG
            have B0 := Below.refl w.heap.size w
            simp only [isA] at *
            go_enter Tryz.func123, Tryz.ntmps123
            go_wp2_with (first
              | (go_at_call 154; refine ((SA _ B0)).mono ?_; clear SA; rintro e w1 ⟨rfl, hb1⟩; have B1 := B0.trans (hb1.mono B0.size))
              | (go_at_call 43; refine ((SB _ B1)).mono ?_; clear SB; rintro e w2 ⟨rfl, hb2⟩; have B2 := B1.trans (hb2.mono B1.size)))
            go_ret
            exact ⟨by rw [E2.out]; rfl, B2⟩
          | true =>
            cases lab with
            | true =>
              have E2 : Hid (res = 11) := by show _ = _; rw [E.out]; unfold natT; simp [ha, hi, hm, he]
              clear E hTG
              have B0 := Below.refl w.heap.size w
              simp only [isA] at *
              go_enter Tryz.func123, Tryz.ntmps123
              go_wp2_with (first
                | (go_at_call 154; refine ((SA _ B0)).mono ?_; clear SA; rintro e w1 ⟨rfl, hb1⟩; have B1 := B0.trans (hb1.mono B0.size))
                | (go_at_call 43; refine ((SB _ B1)).mono ?_; clear SB; rintro e w2 ⟨rfl, hb2⟩; have B2 := B1.trans (hb2.mono B1.size))
                | (go_at_call 153; refine ((SL _ B2)).mono ?_; clear SL; rintro e w3 ⟨rfl, hb3⟩; have B3 := B2.trans (hb3.mono B2.size)))
              go_ret
              exact ⟨by rw [E2.out]; rfl, B3⟩
            | false =>
              have E2 : Hid (res = 0) := by show _ = _; rw [E.out]; unfold natT; simp [ha, hi, hm, he]
              clear E hTG
              have B0 := Below.refl w.heap.size w
              simp only [isA] at *
              go_enter Tryz.func123, Tryz.ntmps123
              go_wp2_with (first
                | (go_at_call 154; refine ((SA _ B0)).mono ?_; clear SA; rintro e w1 ⟨rfl, hb1⟩; have B1 := B0.trans (hb1.mono B0.size))
                | (go_at_call 43; refine ((SB _ B1)).mono ?_; clear SB; rintro e w2 ⟨rfl, hb2⟩; have B2 := B1.trans (hb2.mono B1.size))
                | (go_at_call 153; refine ((SL _ B2)).mono ?_; clear SL; rintro e w3 ⟨rfl, hb3⟩; have B3 := B2.trans (hb3.mono B2.size)))
              go_ret
              exact ⟨by rw [E2.out]; rfl, B3⟩
      | false =>
        cases hs : isA tag [115, 101, 99, 116, 105, 111, 110] with
        | false =>
          have E2 : Hid (res = tg) := by show _ = _; rw [E.out]; unfold natT; simp [ha, hi, hm, hs, hTG]
          clear E hTG
          have B0 := Below.refl w.heap.size w
          simp only [isA] at *
          go_enter Tryz.func123, Tryz.ntmps123
          go_wp2_with (go_at_call 155; refine ((SG _)).mono ?_; rintro e w1 ⟨rfl, hb1⟩; have B1 := B0.trans (hb1.mono B0.size))
          go_ret
          exact ⟨by rw [E2.out]; rfl, B1⟩
        | true =>
          cases lab with
          | true =>
            have E2 : Hid (res = 16) := by show _ = _; rw [E.out]; unfold natT; simp [ha, hi, hm, hs]
            clear E hTG
            have B0 := Below.refl w.heap.size w
            simp only [isA] at *
            go_enter Tryz.func123, Tryz.ntmps123
            go_wp2_with (go_at_call 153; refine ((SL _ B0)).mono ?_; clear SL; rintro e w1 ⟨rfl, hb1⟩; have B1 := B0.trans (hb1.mono B0.size))
            go_ret
            exact ⟨by rw [E2.out]; rfl, B1⟩
          | false =>
            cases he : tsay.toList.isEmpty with
            | false =>
              have E2 : Hid (res = 16) := by show _ = _; rw [E.out]; unfold natT; simp [ha, hi, hm, hs, he]
              clear E hTG
              have B0 := Below.refl w.heap.size w
              simp only [isA] at *
              go_enter Tryz.func123, Tryz.ntmps123
              go_wp2_with (first
                | (go_at_call 153; refine ((SL _ B0)).mono ?_; clear SL; rintro e w1 ⟨rfl, hb1⟩; have B1 := B0.trans (hb1.mono B0.size))
                | (go_at_call 43; refine ((ST _ B1)).mono ?_; clear ST; rintro e w2 ⟨rfl, hb2⟩; have B2 := B1.trans (hb2.mono B1.size)))
              go_ret
              exact ⟨by rw [E2.out]; rfl, B2⟩
            | true =>
              have E2 : Hid (res = tg) := by show _ = _; rw [E.out]; unfold natT; simp [ha, hi, hm, hs, he, hTG]
              clear E hTG
              have B0 := Below.refl w.heap.size w
              simp only [isA] at *
              go_enter Tryz.func123, Tryz.ntmps123
              go_wp2_with (first
                | (go_at_call 153; refine ((SL _ B0)).mono ?_; clear SL; rintro e w1 ⟨rfl, hb1⟩; have B1 := B0.trans (hb1.mono B0.size))
                | (go_at_call 43; refine ((ST _ B1)).mono ?_; clear ST; rintro e w2 ⟨rfl, hb2⟩; have B2 := B1.trans (hb2.mono B1.size))
                | (go_at_call 155; refine ((SG _)).mono ?_; rintro e w3 ⟨rfl, hb3⟩; have B3 := B2.trans (hb3.mono B2.size)))
              go_ret
              exact ⟨by rw [E2.out]; rfl, B3⟩

set_option maxHeartbeats 800000 in
theorem oalone_any {w : World} {b o c : Nat} {rs : List Raw} {d : Tn.Dc} (hc : Cx w b o c rs d) (n : Int) :
    Calls Tryz.prog 79 #[.slice (some ⟨b, o, none⟩) rs.length c, .int .i64 n] w fun e w' => e = .returned (.int .i64 (aloneD d n)) ∧ Below w.heap.size w w' := by
  have SI := dis_any hc.doc n true
  cases ht : Tn.isN d n true with
  | false =>
    have E : Hid (aloneD d n = 10) := alone_text ht
    rw [ht] at SI
    clear hc ht
    go_enter Tryz.func79, Tryz.ntmps79
    go_wp2_with (go_at_call 69; refine SI.mono ?_; rintro e w1 ⟨rfl, hw1⟩; subst hw1)
    go_ret
    exact ⟨by rw [E.out]; rfl, Below.refl _ _⟩
  | true =>
    obtain ⟨k, rfl, _, _⟩ := isN_nat (isN_true ht)
    have SW := owant_any hc (k : Int)
    have SN : ∀ W, Below w.heap.size w W → Calls Tryz.prog 123 #[.slice (some ⟨b, o, none⟩) rs.length c, .int .i64 (k : Int)] W fun e w' => e = .returned (.int .i64 (natD d (k : Int))) ∧ Below W.heap.size W w' := fun W hb => onat_any (hc.below hb) k ht
    have E : Hid (aloneD d (k : Int) = if 0 ≤ wantD d (k : Int) then wantD d (k : Int) else natD d (k : Int)) := by show _ = _; unfold aloneD; rw [ht]; rfl
    rw [ht] at SI
    clear hc ht
    generalize aloneD d (k : Int) = res at *
    generalize wantD d (k : Int) = wt at *
    generalize natD d (k : Int) = nt at *
    by_cases hw : 0 ≤ wt
    · have E2 : Hid (res = wt) := by show _ = _; rw [E.out, if_pos hw]
      clear E
      go_enter Tryz.func79, Tryz.ntmps79
      go_wp2_with (first
        | (go_at_call 69; refine SI.mono ?_; rintro e w1 ⟨rfl, hw1⟩; subst hw1)
        | (go_at_call 122; refine SW.mono ?_; rintro e w2 ⟨rfl, hb2⟩))
      go_ret
      exact ⟨by rw [E2.out]; rfl, hb2⟩
    · have E2 : Hid (res = nt) := by show _ = _; rw [E.out, if_neg hw]
      clear E
      go_enter Tryz.func79, Tryz.ntmps79
      go_wp2_with (first
        | (go_at_call 69; refine SI.mono ?_; rintro e w1 ⟨rfl, hw1⟩; subst hw1)
        | (go_at_call 122; refine SW.mono ?_; rintro e w2 ⟨rfl, hb2⟩)
        | (go_at_call 123; refine (SN _ hb2).mono ?_; rintro e w3 ⟨rfl, hb3⟩))
      go_ret
      exact ⟨by rw [E2.out]; rfl, hb2.trans (hb3.mono hb2.size)⟩
end Go.Proofs.YtbinbojicmhdlaeGreatDoor
