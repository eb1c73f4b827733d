/-
  OWN WORK: Qgi, Qup, Qsh, Neq, Rsa, Fal, Fte.
-/
import Derived.Test.YtdfkhjckpdokeabP6
import Derived.Test.YtdfkhjckpdokeabP1
import Derived.Laws.StructEq
import Derived.Test.YtdfkhjckpdokeabP2
import Derived.Deep.QuietTactic
import Derived.BigQuiet
import Derived.Deep.RegionHeld3
/-
  THE WALKS of the reference's Given, Kids, Up.
-/
namespace Go.Proofs.Ytdfkhjckpdokeab
open Go.RowKit

theorem take_filter_at (p : Nat → Bool) (l : List Nat) (j : Nat) (h : j < l.length) : (l.take (j + 1)).filter p = (l.take j).filter p ++ (if p l[j] then [l[j]] else []) := by
  rw [List.take_succ_eq_append_getElem h, List.filter_append]
  congr 1
  cases hp : p l[j] <;> simp [hp]

set_option maxHeartbeats 1600000 in
set_option maxRecDepth 100000 in
theorem qgiven_any {w : World} {b o c : Nat} {rs : List Raw} {d : Tn.Dc} (hd : DocAt w b o c rs d) (hf : Fine d) (n : Int) :
    Calls Try.prog 18 #[.slice (some ⟨b, o, none⟩) rs.length c, .int .i64 n] w fun e w' => ∃ v, e = .returned v ∧ OwnI w' w.heap.size v (givenD d n) ∧ Below w.heap.size w w' := by
  have H : Hid (DocAt w b o c rs d) := hd
  clear hd
  cases his : Tn.isN d n true with
  | false =>
    have E : Hid (givenD d n = []) := by show _ = _; unfold givenD isSlotD; rw [his]; rfl
    go_enter Try.func18, Try.ntmps18
    go_wp2_with (go_at_call 26; refine (ris_any H.out _ _).mono ?_; rintro e w' ⟨rfl, hww⟩; subst hww; rw [his])
    go_ret
    exact ⟨_, rfl, by rw [E.out]; exact OwnI.nil _ _, Below.refl _ _⟩
  | true =>
    obtain ⟨k, rfl, hk, hlv⟩ := isN_nat (isN_true his)
    have hk' : k < rs.length := by rw [H.out.len]; exact hk
    have h1 := H.out.row.c1 k hk'
    have hsl : isSlotD d (k : Int) = (rs[k].tag.toList == [115, 108, 111, 116]) := by
      unfold isSlotD
      rw [his, Int.toNat_natCast, nd_at hk, ← (H.out.nds k hk' hk).tag, slotB_list]
      rfl
    cases htg : (rs[k].tag.toList == [115, 108, 111, 116]) with
    | false =>
      have E : Hid (givenD d (k : Int) = []) := by show _ = _; unfold givenD; rw [hsl, htg]; rfl
      clear hsl
      generalize rs[k].tag = tg at *
      go_enter Try.func18, Try.ntmps18
      go_wp2_with (go_at_call 26; refine (ris_any H.out _ _).mono ?_; rintro e w' ⟨rfl, hww⟩; subst hww; rw [his])
      go_ret
      exact ⟨_, rfl, by rw [E.out]; exact OwnI.nil _ _, Below.refl _ _⟩
    | true =>
      obtain ⟨s, hsc, hsv⟩ := hf.okd.scope k hlv
      have hsd := Tn.lv_lt hsv
      have hsr : s < rs.length := by rw [H.out.len]; exact hsd
      have E : Hid (givenD d (k : Int) = (Tn.nd d s).kids.filter fun j : Nat => slotD d (j : Int) == (k : Int)) := by
        show _ = _
        unfold givenD
        rw [hsl, htg, hsc, Int.toNat_natCast]
        rfl
      have hkl : (Tn.nd d s).kids.length ≤ 1000 := by have h1 := hf.good.small s false; have h2 : (Tn.nd d s).kids.length ≤ 12 := h1; omega
      have hki : IntsAt w (.slice rs[s].k.p rs[s].k.n rs[s].k.c) (Tn.nd d s).kids := by rw [nd_at hsd]; exact (H.out.nds s hsr hsd).kids
      have h5 := H.out.row.c5 s hsr
      have hP := rscope_any H.out hf (k : Int)
      rw [hsc] at hP
      have HS : Hid (∀ (W : World) (x : Int), DocAt W b o c rs d → Calls Try.prog 15 #[.slice (some ⟨b, o, none⟩) rs.length c, .int .i64 x] W fun e w' => e = .returned (.int .i64 (slotD d x)) ∧ Below W.heap.size W w') := fun W x hW => qslot_any hW hf x
      generalize givenD d (k : Int) = res at *
      generalize (Tn.nd d s).kids = l at *
      generalize rs[s].k = ks at *
      generalize rs[k].tag = tg at *
      obtain ⟨kp, kn, kc⟩ := ks
      simp only at hki h5
      obtain ⟨_, _, he, hs1, hs2, _, hat⟩ := hki.at
      cases he
      have TS : Hid (∀ j (hj : j < l.length), ∃ b o, kp = some ⟨b, o, none⟩ ∧ w.cell? ⟨b, o + j, none⟩ = some (.int .i64 (l[j] : Int))) := hat
      clear hat hki hsl hsc hsv hlv
      go_enter Try.func18, Try.ntmps18
      go_upto_region 6 with (first
        | (go_at_call 26; refine (ris_any H.out _ _).mono ?_; rintro e w' ⟨rfl, hww⟩; subst hww; rw [his])
        | (go_at_call 45; refine hP.mono ?_; rintro e w1 ⟨rfl, hb1⟩; have h51 := keeps_below hb1 (Nat.le_refl _) _ _ h5))
      go_loopw [5, 30] (fun v i wr => ∃ j : Nat, j ≤ l.length ∧ i = .int .i64 j ∧ OwnI wr w'.heap.size v ((l.take j).filter fun x : Nat => slotD d (x : Int) == (k : Int)) ∧ Below w'.heap.size w' wr) (fun _ i _ => l.length - (intOf i).toNat)
      case atStart => exact ⟨0, Nat.zero_le _, rfl, OwnI.nil _ _, hb1⟩
      case round =>
        obtain ⟨j, hj, rfl, hown, hnx⟩ := hrel
        have hbz := hnx.size
        have DR : Hid (DocAt wr b o c rs d) := H.out.keeps (keeps_below hnx (Nat.le_refl _))
        by_cases hlt : j < l.length
        · obtain ⟨b1, o1, rfl, hc⟩ := TS.out j hlt
          have hcr := keeps_below hnx (Nat.le_refl _) _ _ hc
          have F : Hid _ := take_filter_at (fun x : Nat => slotD d (x : Int) == (k : Int)) l j hlt
          have hfl : ((l.take j).filter fun x : Nat => slotD d (x : Int) == (k : Int)).length ≤ 1000 := by
            have h1 := List.length_filter_le (fun x : Nat => slotD d (x : Int) == (k : Int)) (l.take j)
            rw [List.length_take] at h1
            omega
          have hSl := HS.out wr (l[j] : Int) DR.out
          clear hc
          generalize l[j] = x at *
          generalize (l.take j).filter (fun x : Nat => slotD d (x : Int) == (k : Int)) = acc at *
          generalize slotD d (x : Int) = sx at *
          cases hq : (sx == (k : Int)) with
          | false =>
            have F2 : Hid ((l.take (j + 1)).filter (fun x : Nat => slotD d (x : Int) == (k : Int)) = acc) := by show _ = _; rw [F.out, hq]; simp
            clear F
            go_wp2_with (go_at_call 15; refine hSl.mono ?_; rintro e w3 ⟨rfl, hb3⟩)
            go_roundw
            case rel => exact ⟨j + 1, by omega, by go_num, by rw [F2.out]; exact hown.below hb3 (Nat.le_refl _), hnx.trans (hb3.mono hnx.size)⟩
            case measure => simp [intOf]; omega
          | true =>
            have F2 : Hid ((l.take (j + 1)).filter (fun x : Nat => slotD d (x : Int) == (k : Int)) = acc ++ [x]) := by show _ = _; rw [F.out, hq]; rfl
            clear F
            go_wp2_with (first
              | (go_at_call 15; refine hSl.mono ?_; rintro e w3 ⟨rfl, hb3⟩; have o3 := hown.below hb3 (Nat.le_refl _); have n3 := hnx.trans (hb3.mono hnx.size))
              | (at_builtin; refine append_int1 (w0 := w') rfl _ _ rfl x rfl rfl o3 n3 n3.size (by omega) ?_; intro v4 w4 o4 n4 _ _))
            go_roundw
            case rel => exact ⟨j + 1, by omega, by go_num, by rw [F2.out]; exact o4, n4⟩
            case measure => simp [intOf]; omega
        · obtain rfl : j = l.length := by omega
          rw [List.take_length] at hown
          go_wp2_with fail
          go_ret
          exact ⟨_, rfl, by rw [E.out]; exact hown, hnx⟩

set_option maxHeartbeats 1600000 in
theorem qkids_two {w0 w : World} {b o c : Nat} {rs : List Raw} {d : Tn.Dc} (hd0 : DocAt w0 b o c rs d) (hd : DocAt w b o c rs d) (hf : Fine d) (n : Int) :
    Calls Try.prog 20 #[.slice (some ⟨b, o, none⟩) rs.length c, .int .i64 n] w fun e w' => ∃ p cc, e = .returned (.slice p (kidsD d n).length cc) ∧ (IntsAt w0 (.slice p (kidsD d n).length cc) (kidsD d n) ∨ OwnI w' w.heap.size (.slice p (kidsD d n).length cc) (kidsD d n)) ∧ Below w.heap.size w w' := by
  have H : Hid (DocAt w b o c rs d) := hd
  clear hd
  cases his : Tn.isN d n false with
  | false =>
    have E : Hid (kidsD d n = []) := by show _ = _; unfold kidsD; rw [if_neg (by simp [his])]
    go_enter Try.func20, Try.ntmps20
    go_wp2_with (go_at_call 26; refine (ris_any H.out _ _).mono ?_; rintro e w' ⟨rfl, hww⟩; subst hww; rw [his])
    go_ret
    exact ⟨none, 0, by rw [E.out]; rfl, by rw [E.out]; exact Or.inl (ints_nil _), Below.refl _ _⟩
  | true =>
    obtain ⟨k, rfl, hk, hlv⟩ := isN_nat his
    have hk' : k < rs.length := by rw [H.out.len]; exact hk
    have h5 := H.out.row.c5 k hk'
    have h6 := H.out.row.c6 k hk'
    have h7 := H.out.row.c7 k hk'
    have E : Hid (kidsD d (k : Int) = if rs[k].hasS then (Tn.nd d k).shadow else if (givenD d (k : Int)).isEmpty then (Tn.nd d k).kids else givenD d (k : Int)) := by
      show _ = _
      unfold kidsD
      rw [if_pos his, Int.toNat_natCast, (H.out.nds k hk' hk).hasS, ← nd_at hk]
    have hki : IntsAt w0 (.slice rs[k].k.p rs[k].k.n rs[k].k.c) (Tn.nd d k).kids := by rw [nd_at hk]; exact (hd0.nds k hk' hk).kids
    have hsi : IntsAt w0 (.slice rs[k].s.p rs[k].s.n rs[k].s.c) (Tn.nd d k).shadow := by rw [nd_at hk]; exact (hd0.nds k hk' hk).shadow
    have hkn : rs[k].k.n = (Tn.nd d k).kids.length := hl_of hki
    have hsn : rs[k].s.n = (Tn.nd d k).shadow.length := hl_of hsi
    have hG := qgiven_any H.out hf (k : Int)
    rw [hkn] at h5 hki
    rw [hsn] at h7 hsi
    generalize kidsD d (k : Int) = res at *
    generalize givenD d (k : Int) = gv at *
    generalize (Tn.nd d k).kids = kd at *
    generalize (Tn.nd d k).shadow = sd at *
    generalize rs[k].hasS = hs at *
    generalize rs[k].k.p = kp at *
    generalize rs[k].k.c = kc at *
    generalize rs[k].s.p = sp at *
    generalize rs[k].s.c = sc at *
    have QK : Hid _ := hki
    have QS : Hid _ := hsi
    clear hlv hkn hsn hki hsi hd0
    cases hs with
    | true =>
      have E2 : Hid (res = sd) := by show _ = _; rw [E.out]; rfl
      clear E
      go_enter Try.func20, Try.ntmps20
      go_wp2_with (go_at_call 26; refine (ris_any H.out _ _).mono ?_; rintro e w' ⟨rfl, hww⟩; subst hww; rw [his])
      go_ret
      exact ⟨sp, sc, by rw [E2.out]; rfl, by rw [E2.out]; exact Or.inl QS.out, Below.refl _ _⟩
    | false =>
      cases hgv : gv.isEmpty with
      | true =>
        have E2 : Hid (res = kd) := by show _ = _; rw [E.out, hgv]; rfl
        have hgl : gv.length = 0 := by simpa using hgv
        clear E hgv
        go_enter Try.func20, Try.ntmps20
        go_wp2_with (first
          | (go_at_call 26; refine (ris_any H.out _ _).mono ?_; rintro e w' ⟨rfl, hww⟩; subst hww; rw [his])
          | (go_at_call 18; refine hG.mono ?_; rintro e w8 ⟨v8, rfl, ho8, hb8⟩; have o8 := ho8; obtain ⟨p8, c8, rfl⟩ := o8.shape; have h58 := keeps_below hb8 (Nat.le_refl _) _ _ h5))
        go_ret
        exact ⟨kp, kc, by rw [E2.out]; rfl, by rw [E2.out]; exact Or.inl QK.out, hb8⟩
      | false =>
        have E2 : Hid (res = gv) := by show _ = _; rw [E.out, hgv]; rfl
        have hgl : (0 : Int) < (gv.length : Int) := by
          cases gv with
          | nil => simp at hgv
          | cons a t => simp
        clear E hgv
        go_enter Try.func20, Try.ntmps20
        go_wp2_with (first
          | (go_at_call 26; refine (ris_any H.out _ _).mono ?_; rintro e w' ⟨rfl, hww⟩; subst hww; rw [his])
          | (go_at_call 18; refine hG.mono ?_; rintro e w8 ⟨v8, rfl, ho8, hb8⟩; have o8 := ho8; obtain ⟨p8, c8, rfl⟩ := o8.shape; have h58 := keeps_below hb8 (Nat.le_refl _) _ _ h5))
        go_ret
        exact ⟨p8, c8, by rw [E2.out]; rfl, by rw [E2.out]; exact Or.inr ho8, hb8⟩

theorem qkids_any {w : World} {b o c : Nat} {rs : List Raw} {d : Tn.Dc} (hd : DocAt w b o c rs d) (hf : Fine d) (n : Int) :
    Calls Try.prog 20 #[.slice (some ⟨b, o, none⟩) rs.length c, .int .i64 n] w fun e w' => ∃ p cc, e = .returned (.slice p (kidsD d n).length cc) ∧ IntsAt w' (.slice p (kidsD d n).length cc) (kidsD d n) ∧ Below w.heap.size w w' := by
  refine (qkids_two hd hd hf n).mono ?_
  rintro e w' ⟨p, cc, rfl, h, hb⟩
  refine ⟨p, cc, rfl, ?_, hb⟩
  rcases h with h | h
  · exact h.keeps (keeps_below hb (Nat.le_refl _))
  · exact ints_of_owns h
end Go.Proofs.Ytdfkhjckpdokeab

/-
  THE WALK of the reference's Up.
-/
namespace Go.Proofs.Ytdfkhjckpdokeab
open Go.RowKit

set_option maxHeartbeats 1600000 in
set_option maxRecDepth 100000 in
theorem qup_any {w : World} {b o c : Nat} {rs : List Raw} {d : Tn.Dc} (hd : DocAt w b o c rs d) (hf : Fine d) (n : Int) :
    Calls Try.prog 22 #[.slice (some ⟨b, o, none⟩) rs.length c, .int .i64 n] w fun e w' => e = .returned (.int .i64 (upF d n)) ∧ Below w.heap.size w w' := by
  have H : Hid (DocAt w b o c rs d) := hd
  have L : Hid (rs.length = d.length) := hd.len
  have hrl : rs.length ≤ 1000 := by rw [hd.len]; have := hf.good.len.2; omega
  have HK : Hid (∀ (W : World) (x : Int), DocAt W b o c rs d → Calls Try.prog 20 #[.slice (some ⟨b, o, none⟩) rs.length c, .int .i64 x] W fun e w' => ∃ p cc, e = .returned (.slice p (kidsD d x).length cc) ∧ IntsAt w' (.slice p (kidsD d x).length cc) (kidsD d x) ∧ Below W.heap.size W w') := fun W x hW => qkids_any hW hf x
  clear hd
  go_enter Try.func22, Try.ntmps22
  go_wp2_with fail
  go_loopw [10] (fun i wr => ∃ j : Nat, j ≤ rs.length ∧ i = .int .i64 j ∧ Hid (∀ m : Nat, m < j → ∀ x ∈ kidsD d (m : Int), (x : Int) ≠ n) ∧ Below w.heap.size w wr) (fun i _ => rs.length - (intOf i).toNat)
  case atStart => exact ⟨0, Nat.zero_le _, rfl, fun m hm => by omega, Below.refl _ _⟩
  case round =>
    obtain ⟨j, hj, rfl, NO, hnx⟩ := hrel
    have DR : Hid (DocAt wr b o c rs d) := H.out.keeps (keeps_below hnx (Nat.le_refl _))
    by_cases hlt : j < rs.length
    · have hKC := HK.out wr (j : Int) DR.out
      have FU : Hid (∀ k ∈ kidsD d (j : Int), (k : Int) = n → upF d n = (j : Int)) := fun k hk e => by rw [← e]; exact up_of_kid hf hk
      have N1 : Hid ((∀ x ∈ kidsD d (j : Int), (x : Int) ≠ n) → ∀ m : Nat, m < j + 1 → ∀ x ∈ kidsD d (m : Int), (x : Int) ≠ n) := fun h m hm x hx => by
        by_cases e : m = j
        · rw [e] at hx
          exact h x hx
        · exact NO.out m (by omega) x hx
      have hjl : (j : Int) < (rs.length : Int) := by omega
      generalize kidsD d (j : Int) = kl at *
      go_upto_region 5 with (go_at_call 20; refine hKC.mono ?_; rintro e w2 ⟨p2, c2, rfl, hi2, hb2⟩)
      obtain ⟨_, _, he, k1, k2, _, hat⟩ := hi2.at
      cases he
      have TK : Hid (∀ j (hj : j < kl.length), ∃ b o, p2 = some ⟨b, o, none⟩ ∧ w2.cell? ⟨b, o + j, none⟩ = some (.int .i64 (kl[j] : Int))) := hat
      have B2 : Below w.heap.size w w2 := hnx.trans (hb2.mono hnx.size)
      clear hat hi2 hKC
      go_loopw [17] (fun i wq => ∃ q : Nat, q ≤ kl.length ∧ i = .int .i64 q ∧ Hid (∀ x ∈ kl.take q, (x : Int) ≠ n) ∧ Below w2.heap.size w2 wq) (fun i _ => kl.length - (intOf i).toNat)
      case atStart => exact ⟨0, Nat.zero_le _, rfl, fun x hx => by simp at hx, Below.refl _ _⟩
      case round =>
        obtain ⟨q, hq, rfl, NQ, hbq⟩ := hrel
        have BQ : Below w.heap.size w wr := B2.trans (hbq.mono B2.size)
        by_cases hql : q < kl.length
        · obtain ⟨b3, o3, rfl, hc3⟩ := TK.out q hql
          have hcq := keeps_below hbq (Nat.le_refl _) _ _ hc3
          have R1 := FU.out kl[q] (List.getElem_mem hql)
          have N3 : (kl[q] : Int) ≠ n → Hid (∀ x ∈ kl.take (q + 1), (x : Int) ≠ n) := fun hno x hx => by
            rw [List.take_succ_eq_append_getElem hql, List.mem_append, List.mem_singleton] at hx
            rcases hx with hx | rfl
            · exact NQ.out x hx
            · exact hno
          clear hc3
          generalize kl[q] = x at *
          by_cases e : (x : Int) = n
          · have R2 : Hid (upF d n = (j : Int)) := R1 e
            have hq1 : ((x : Int) == n) = true := by simpa using e
            clear R1 N3 e
            go_wp2_with fail
            go_ret
            exact ⟨by rw [R2.out]; rfl, BQ⟩
          · have N4 := N3 e
            have hq1 : ((x : Int) == n) = false := by simpa using e
            clear R1 N3 e
            go_wp2_with fail
            go_roundw
            case rel => exact ⟨q + 1, by omega, by go_num, N4, hbq⟩
            case measure => simp [intOf]; omega
        · obtain rfl : q = kl.length := by omega
          have N4 : Hid (∀ m : Nat, m < j + 1 → ∀ x ∈ kidsD d (m : Int), (x : Int) ≠ n) := N1.out (fun x hx => NQ.out x (by rw [List.take_length]; exact hx))
          go_wp2_with fail
          go_roundw
          case rel => exact ⟨j + 1, by omega, by go_num, N4, BQ⟩
          case measure => simp [intOf]; omega
    · obtain rfl : j = rs.length := by omega
      have E : Hid (upF d n = -1) := up_none (fun m x hx => by
        obtain ⟨m', e, hl⟩ := kid_nat hx
        have : m = m' := by omega
        have h1 := Tn.lv_lt hl
        have h2 := L.out
        exact NO.out m (by omega) x hx)
      go_wp2_with fail
      go_ret
      exact ⟨by rw [E.out]; rfl, hnx⟩
end Go.Proofs.Ytdfkhjckpdokeab

/-
  THE WALK of the reference's Shown.
-/
namespace Go.Proofs.Ytdfkhjckpdokeab
open Go.RowKit

/-- append of a list that has something, and where what comes of it lies -/
theorem append_ints2 {w0 wr : World} {ops : Array Oper} {rest : List Oper} {o : Oper} {a : Act} {Q : Exit → Act → World → Prop} (hgd : o.guard = none)
    (s x : Operand) (ho : o.op = Op.call { callee := Callee.builtin Builtin.append, args := #[s, x], argTypes := #[38, 38] }) {B : Nat} {v u : Value} {l m : List Nat}
    (hs : a.eval s = v) (hx : a.eval x = u) (hown : OwnI wr B v l) (hm : IntsAt wr u m) (hm0 : m ≠ []) (hnx : Below B w0 wr) (hB : B ≤ wr.heap.size) (hsz : l.length + m.length ≤ 1000000)
    (h : ∀ v' w1, OwnI w1 B v' (l ++ m) → Below B w0 w1 → wr.grownBy w1 v.ownBlock → (v'.ownBlock = v.ownBlock ∨ ∃ g, wr.heap.size ≤ g ∧ v'.ownBlock = some g) → wpList Try.prog ops Q rest (a.put o.dst v') w1) :
    wpList Try.prog ops Q (o :: rest) a wr := by
  obtain ⟨i0, hi, hz0, hz1, hz2⟩ := info_parts infoI
  unfold OwnI at hown h
  obtain ⟨p, c, rfl, h1, h2, h3, h4⟩ := hm
  have hpos : 0 < m.length := List.length_pos_iff.mpr hm0
  obtain ⟨b, off, rfl, _⟩ := h4 0 (iv (m[0]'hpos)) (by rw [List.getElem?_map, List.getElem?_eq_getElem hpos]; rfl)
  have hnews : ∀ (j : Nat) (u : Value), (m.map iv)[j]? = some u → wr.cell? ((⟨b, off, none⟩ : Addr).add j) = some u := by
    intro j u hu
    obtain ⟨b', o', e1, e2⟩ := h4 j u hu
    cases e1
    rw [add_at]
    exact e2
  have hone : ∀ u ∈ m.map iv, u.oneCell' = true := by
    intro u hu
    simp at hu
    obtain ⟨q, _, rfl⟩ := hu
    rfl
  have hzs : (i0.size : Nat) = 1 := hz1
  refine wpList_plain hgd fun K hK => ?_
  obtain ⟨v', w', hr, g2, g3, _⟩ := run_append_own (P := Try.prog) wr B 38 o.type 3 i0 (.int .i64 0) 1 8 Try.underlying38 hi hz0 hz1 hz2 rfl (by decide) v _ _ hown ⟨b, off, none⟩ m.length c (m.map iv) (by simp) hnews hone (by unfold maxLen; omega) (by omega) hB
  have hn := hnx.grown g3 hB (fun j hj => (hown.lt j hj).1)
  have hblk : v'.ownBlock = v.ownBlock ∨ ∃ g, wr.heap.size ≤ g ∧ v'.ownBlock = some g := by
    rcases hown.2 with ⟨rfl, hn0⟩ | ⟨g, cap, cur, rfl, hbg, hg, hnc, hcm, hcs, htake⟩
    · have hr2 := run_append_nil (P := Try.prog) wr 38 o.type 3 i0 (.int .i64 0) Try.underlying38 hi hz0 ⟨b, off, none⟩ m.length c (m.map iv) (by rw [hzs]; simp) hnews hpos (by omega) (by rw [hz2]; omega)
      rw [hr2] at hr
      injection hr with e1 e2
      right
      refine ⟨wr.heap.size, Nat.le_refl _, ?_⟩
      rw [← e1]
      rfl
    · by_cases hroom : l.length + m.length ≤ cap
      · have hr2 := run_append_room (P := Try.prog) wr 38 o.type 3 i0 Try.underlying38 hi g l.length cap cur hg ⟨b, off, none⟩ m.length c (m.map iv) (by rw [hzs]; simp) hnews hone hroom (by rw [hzs, hcs]; simp; omega)
        rw [hr2] at hr
        injection hr with e1 e2
        left
        rw [← e1]
        rfl
      · have hr2 := run_append_grow (P := Try.prog) wr 38 o.type 3 i0 (.int .i64 0) Try.underlying38 hi hz0 ⟨g, 0, none⟩ l.length cap _ (by rw [hzs]; exact hown.1) (World.ownsRow.cells hown (g := g) rfl) ⟨b, off, none⟩ m.length c (m.map iv) (by rw [hzs]; simp) hnews (by omega) (by omega) (growslice_fits (by omega) (by rw [hz2]; omega))
        rw [hr2] at hr
        injection hr with e1 e2
        right
        refine ⟨wr.heap.size, Nat.le_refl _, ?_⟩
        rw [← e1]
        rfl
  unfold Oper.wp execOp
  simp only [ho, resolve, invoke, builtin, Sem.run_bind, Sem.run_pure, Result.andThen_ok, List.map_toArray, List.map_cons, List.map_nil, hs, hx, hr]
  exact hK _ _ (h v' w' (by simpa using g2) hn g3 hblk)

theorem shown_ne {d : Tn.Dc} {f n : Nat} (h : EndF f d n) : shownF f d n ≠ [] := by
  cases f with
  | zero => exact absurd h (by simp [EndF])
  | succ f => simp [shownF]

set_option maxHeartbeats 1600000 in
set_option maxRecDepth 100000 in
theorem qshown_any {b o c : Nat} {rs : List Raw} {d : Tn.Dc} (hf : Fine d) (f : Nat) : ∀ (n : Nat) (w : World), DocAt w b o c rs d → EndF f d n → (shownF f d n).length ≤ 10000 →
    Calls Try.prog 24 #[.slice (some ⟨b, o, none⟩) rs.length c, .int .i64 (n : Int)] w fun e w' => ∃ v, e = .returned v ∧ OwnI w' w.heap.size v (shownF f d n) ∧ Below w.heap.size w w' := by
  induction f with
  | zero => intro n w _ h; exact absurd h (by simp [EndF])
  | succ f ih =>
    intro n w hd hE hz
    have H : Hid (DocAt w b o c rs d) := hd
    have EE : Hid (∀ k ∈ kidsD d (n : Int), EndF f d k) := hE
    have SF : Hid (shownF (f + 1) d n = n :: (kidsD d (n : Int)).flatMap (shownF f d)) := rfl
    have Z : Hid ((shownF (f + 1) d n).length ≤ 10000) := hz
    have O1 := own_one w n
    have B1 := (Below.refl w.heap.size w).alloc (Nat.le_refl _) (.cells #[.int .i64 (n : Int)] 3)
    have hKC := qkids_two hd (hd.keeps (keeps_alloc w (.cells #[.int .i64 (n : Int)] 3))) hf (n : Int)
    have hz1 : w.heap.size < (w.alloc (.cells #[.int .i64 (n : Int)] 3)).heap.size := by simp
    have hkz : (kidsD d (n : Int)).length ≤ 100000 := by
      have h1 := Z.out
      rw [SF.out] at h1
      have h2 : (kidsD d (n : Int)).length ≤ ((kidsD d (n : Int)).flatMap (shownF f d)).length := by
        have : ∀ l : List Nat, (∀ k ∈ l, EndF f d k) → l.length ≤ (l.flatMap (shownF f d)).length := by
          intro l
          induction l with
          | nil => simp
          | cons a l ihl =>
            intro hl
            have ha := hl a (by simp)
            have := ihl (fun k hk => hl k (by simp [hk]))
            have h3 := List.length_pos_iff.mpr (shown_ne ha)
            rw [List.flatMap_cons, List.length_append, List.length_cons]
            omega
        exact this _ EE.out
      rw [List.length_cons] at h1
      omega
    clear hd hE hz
    generalize kidsD d (n : Int) = l at *
    go_enter Try.func24, Try.ntmps24
    go_upto_region 2 with fail
    generalize w.alloc (.cells #[.int .i64 (n : Int)] 3) = w1 at *
    go_upto_region 3 with (go_at_call 20; refine hKC.mono ?_; rintro e w2 ⟨p2, c2, rfl, hi2, hb2⟩)
    have T : Hid (∀ j (hj : j < l.length), ∃ b1 o1, p2 = some ⟨b1, o1, none⟩ ∧ b1 ≠ w.heap.size ∧ w2.cell? ⟨b1, o1 + j, none⟩ = some (.int .i64 (l[j] : Int))) := by
      intro j hj
      rcases hi2 with hi2 | hi2
      · obtain ⟨_, _, he, _, _, _, hat⟩ := hi2.at
        cases he
        obtain ⟨b1, o1, e1, e2⟩ := hat j hj
        have hlt := lt_of_cell e2
        have e3 := keeps_below (B1.trans (hb2.mono (Nat.le_of_lt hz1))) (Nat.le_refl _) _ _ e2
        exact ⟨b1, o1, e1, by have hlt' : b1 < w.heap.size := hlt; omega, e3⟩
      · obtain ⟨_, _, he, _, _, _, hat⟩ := (ints_of_owns hi2).at
        cases he
        obtain ⟨b1, o1, e1, e2⟩ := hat j hj
        have hge := OwnI.off hi2 _ e1
        exact ⟨b1, o1, e1, by have hge' : w1.heap.size ≤ b1 := hge; omega, e2⟩
    have hlc : l.length ≤ c2 ∧ c2 ≤ 9223372036854775807 := by
      rcases hi2 with hi2 | hi2
      · obtain ⟨_, _, he, h1, h2, _⟩ := hi2.at
        cases he
        exact ⟨h1, h2⟩
      · obtain ⟨_, _, he, h1, h2, _⟩ := (ints_of_owns hi2).at
        cases he
        exact ⟨h1, h2⟩
    obtain ⟨hlc1, hlc2⟩ := hlc
    have O2 : OwnI w2 w.heap.size (.slice (some ⟨w.heap.size, 0, none⟩) 1 1) [n] := O1.below hb2 (Nat.le_refl _)
    have B2 : Below w.heap.size w w2 := B1.trans (hb2.mono (Nat.le_of_lt hz1))
    clear hi2 hKC O1 hb2 hz1 B1
    go_loopw [5, 14] (fun v i wr => ∃ j : Nat, j ≤ l.length ∧ i = .int .i64 j ∧ OwnI wr w.heap.size v (n :: (l.take j).flatMap (shownF f d)) ∧ Below w.heap.size w wr ∧ Mv w.heap.size (some w.heap.size) v.ownBlock w2 wr) (fun _ i _ => l.length - (intOf i).toNat)
    case atStart => exact ⟨0, Nat.zero_le _, rfl, by simpa using O2, B2, Mv.refl _ _ _⟩
    case round =>
      obtain ⟨j, hj, rfl, hown, hnx, MR⟩ := hrel
      have DR : Hid (DocAt wr b o c rs d) := H.out.keeps (keeps_below hnx (Nat.le_refl _))
      by_cases hlt : j < l.length
      · obtain ⟨b1, o1, rfl, hbne, hc⟩ := T.out j hlt
        have hcr := MR.cell hc hbne (by intro e; injection e with e; exact hbne e)
        have F : Hid ((n :: (l.take (j + 1)).flatMap (shownF f d)) = (n :: (l.take j).flatMap (shownF f d)) ++ shownF f d l[j]) := by
          show _ = _
          rw [List.take_succ_eq_append_getElem hlt, List.flatMap_append]
          simp
        have hz : ((n :: (l.take j).flatMap (shownF f d)) ++ shownF f d l[j]).length ≤ 10000 := by
          rw [← F.out]
          have h1 := Z.out
          have h2 := take_flat_len l (shownF f d) (j + 1)
          rw [SF.out] at h1
          rw [List.length_cons] at h1 ⊢
          omega
        have hEj := EE.out _ (List.getElem_mem hlt)
        have hC := ih l[j] wr DR.out hEj (by rw [List.length_append] at hz; omega)
        have hne := shown_ne hEj
        have hz2 : (n :: (l.take j).flatMap (shownF f d)).length + (shownF f d l[j]).length ≤ 1000000 := by rw [List.length_append] at hz; omega
        have QM : Hid _ := MR
        have QE : Hid _ := hne
        clear hc hz hEj hne MR
        generalize shownF f d l[j] = sub at *
        generalize n :: (l.take j).flatMap (shownF f d) = acc at *
        generalize l[j] = x at *
        go_wp2_with (first
          | (go_at_call 24; refine hC.mono ?_; rintro e w5 ⟨v5, rfl, ho5, hb5⟩; have o5 := hown.below hb5 (Nat.le_refl _); have n5 := hnx.trans (hb5.mono hnx.size); have m5 := QM.out.below hb5)
          | (at_builtin; refine append_ints2 (w0 := w) rfl _ _ rfl rfl rfl o5 (ints_of_owns ho5) QE.out n5 n5.size hz2 ?_; intro v6 w6 o6 n6 g6 b6))
        go_roundw
        case rel =>
          refine ⟨j + 1, by omega, by go_num, by rw [F.out]; exact o6, n6, m5.trans ⟨g6.os, g6.tape, g6.output, g6.size, fun i hi _ hr => g6.block i hi (fun e => hr e), b6⟩⟩
        case measure => simp [intOf]; omega
      · obtain rfl : j = l.length := by omega
        rw [List.take_length] at hown
        go_wp2_with fail
        go_ret
        exact ⟨_, rfl, by rw [SF.out]; exact hown, hnx⟩
end Go.Proofs.Ytdfkhjckpdokeab

/-
  TWO ATTRIBUTES THAT ARE ONE ARE NOT UNLIKE.
-/
namespace Go.Proofs.Ytdfkhjckpdokeab
open Go.RowKit
theorem attr_neq (W : World) (a b : ByteArray) : (binOp .neq 55 (.agg #[.string a, .string b]) (.agg #[.string a, .string b])).run Try.prog W = .ok (.bool false) W := by
  have u9 := Try.underlying9
  have hS : Try.prog.underlying 55 = some (.struct (Try.prog.fieldsOf 55)) := by kernel_rfl
  have hp : Try.prog.stoodInHeld 55 = false := by kernel_rfl
  rw [run_neq_struct, show (10000 : Nat) = 9999 + 1 from rfl, run_equalIn_agg W 9999 55 _ _ hS hp]
  simp only [Program.fieldsOf, Try.underlying55]
  go_simp
theorem attr_guard (W : World) (x y : Operand) (xs ys : Array Value) : (eqGuard .neq 55 x y (.agg xs) (.agg ys)).run Try.prog W = .ok () W := run_eqGuard_agg W .neq 55 x y xs ys (by kernel_rfl)
end Go.Proofs.Ytdfkhjckpdokeab

/-
  THE WALKS of the reference's SameInts and Same, at what reads the same.
-/
namespace Go.Proofs.Ytdfkhjckpdokeab
open Go.RowKit

set_option maxHeartbeats 800000 in
set_option maxRecDepth 100000 in
theorem rsameints_true {w : World} {v1 v2 : Value} {l : List Nat} (h1 : IntsAt w v1 l) (h2 : IntsAt w v2 l) :
    Calls Try.prog 16 #[v1, v2] w fun e w' => e = .returned (.bool true) ∧ Below w.heap.size w w' := by
  obtain ⟨p1, c1, rfl, a1, a2, _, at1⟩ := h1.at
  obtain ⟨p2, c2, rfl, b1, b2, _, at2⟩ := h2.at
  have T1 : Hid (∀ j (hj : j < l.length), ∃ b o, p1 = some ⟨b, o, none⟩ ∧ w.cell? ⟨b, o + j, none⟩ = some (.int .i64 (l[j] : Int))) := at1
  have T2 : Hid (∀ j (hj : j < l.length), ∃ b o, p2 = some ⟨b, o, none⟩ ∧ w.cell? ⟨b, o + j, none⟩ = some (.int .i64 (l[j] : Int))) := at2
  clear at1 at2 h1 h2
  go_enter Try.func16, Try.ntmps16
  go_wp2_with fail
  go_loopw [13] (fun i wr => ∃ j : Nat, j ≤ l.length ∧ i = .int .i64 j ∧ Below w.heap.size w wr) (fun i _ => l.length - (intOf i).toNat)
  case atStart => exact ⟨0, Nat.zero_le _, rfl, Below.refl _ _⟩
  case round =>
    obtain ⟨j, hj, rfl, hnx⟩ := hrel
    by_cases hlt : j < l.length
    · obtain ⟨e1, o1, rfl, k1⟩ := T1.out j hlt
      obtain ⟨e2, o2, rfl, k2⟩ := T2.out j hlt
      have y1 := keeps_below hnx (Nat.le_refl _) _ _ k1
      have y2 := keeps_below hnx (Nat.le_refl _) _ _ k2
      clear k1 k2
      generalize l[j] = x at *
      have hq : (((x : Nat) : Int) == (x : Int)) = true := by simp
      have hj2 : (j : Int) < (l.length : Int) := by omega
      go_wp2_with fail
      go_quiet (fail)
      go_wp2_with fail
      go_roundw
      case rel => exact ⟨j + 1, by omega, by go_num, hnx.trans ⟨rfl, rfl, rfl, Nat.le_refl _, fun _ _ => rfl⟩⟩
      case measure => simp [intOf]; omega
    · obtain rfl : j = l.length := by omega
      go_wp2_with fail
      go_ret
      exact ⟨rfl, hnx⟩

set_option maxHeartbeats 1600000 in
set_option maxRecDepth 100000 in
theorem rsame_true {w : World} {b1 o1 c1 b2 o2 c2 : Nat} {rs1 rs2 : List Raw} {d : Tn.Dc} (h1 : DocAt w b1 o1 c1 rs1 d) (h2 : DocAt w b2 o2 c2 rs2 d) (hs : d.length ≤ 1000) :
    Calls Try.prog 13 #[.slice (some ⟨b1, o1, none⟩) rs1.length c1, .slice (some ⟨b2, o2, none⟩) rs2.length c2] w fun e w' => e = .returned (.bool true) ∧ Below w.heap.size w w' := by
  have H1 : Hid (DocAt w b1 o1 c1 rs1 d) := h1
  have H2 : Hid (DocAt w b2 o2 c2 rs2 d) := h2
  rw [h1.len, h2.len]
  clear h1 h2
  go_enter Try.func13, Try.ntmps13
  go_wp2_with fail
  go_loopw [16] (fun i wr => ∃ j : Nat, j ≤ d.length ∧ i = .int .i64 j ∧ Below w.heap.size w wr) (fun i _ => d.length - (intOf i).toNat)
  case atStart => exact ⟨0, Nat.zero_le _, rfl, Below.refl _ _⟩
  case round =>
    obtain ⟨j, hj, rfl, hnx⟩ := hrel
    have hbz := hnx.size
    by_cases hlt : j < d.length
    · have hj1 : j < rs1.length := by rw [H1.out.len]; exact hlt
      have hj2 : j < rs2.length := by rw [H2.out.len]; exact hlt
      have R1 := H1.out.row.keeps (keeps_below hnx (Nat.le_refl _))
      have R2 := H2.out.row.keeps (keeps_below hnx (Nat.le_refl _))
      have N1 := (H1.out.nds j hj1 hlt).keeps (keeps_below hnx (Nat.le_refl _))
      have N2 := (H2.out.nds j hj2 hlt).keeps (keeps_below hnx (Nat.le_refl _))
      have x0 := R1.c0 j hj1
      have x1 := R1.c1 j hj1
      have x2 := R1.c2 j hj1
      have x3 := R1.c3 j hj1
      have x4 := R1.c4 j hj1
      have x5 := R1.c5 j hj1
      have x6 := R1.c6 j hj1
      have x7 := R1.c7 j hj1
      have x8 := R1.c8 j hj1
      have y0 := R2.c0 j hj2
      have y1 := R2.c1 j hj2
      have y2 := R2.c2 j hj2
      have y3 := R2.c3 j hj2
      have y4 := R2.c4 j hj2
      have y5 := R2.c5 j hj2
      have y6 := R2.c6 j hj2
      have y7 := R2.c7 j hj2
      have y8 := R2.c8 j hj2
      clear R1 R2
      generalize rs1[j] = r1 at *
      generalize rs2[j] = r2 at *
      generalize d[j] = nn at *
      obtain ⟨lv1, tg1, tx1, ⟨ap1, an1, ac1⟩, up1, ⟨kp1, kn1, kc1⟩, hs1, ⟨sp1, sn1, sc1⟩, is1⟩ := r1
      obtain ⟨lv2, tg2, tx2, ⟨ap2, an2, ac2⟩, up2, ⟨kp2, kn2, kc2⟩, hs2, ⟨sp2, sn2, sc2⟩, is2⟩ := r2
      obtain ⟨m1, m2, m3, m4, m5, m6, A1, K1, S1⟩ := N1
      obtain ⟨n1, n2, n3, n4, n5, n6, A2, K2, S2⟩ := N2
      simp only at *
      subst m1 m2 m3 m4 m5 m6 n1 n2 n3 n4 n5 n6
      obtain rfl := al_of A1
      obtain rfl := al_of A2
      go_wp2_with fail
      have SS : ∀ w'', Keeps wr w'' → (fun w'' => w''.cell? ⟨b1, o1 + j * 9, none⟩ = some (.bool nn.live) ∧ w''.cell? ⟨b1, o1 + j * 9 + 1, none⟩ = some (.string nn.tag) ∧ w''.cell? ⟨b1, o1 + j * 9 + 2, none⟩ = some (.string nn.text) ∧ w''.cell? ⟨b1, o1 + j * 9 + 3, none⟩ = some (.slice ap1 nn.attrs.length ac1) ∧ w''.cell? ⟨b1, o1 + j * 9 + 4, none⟩ = some (.int .i64 nn.up) ∧ w''.cell? ⟨b1, o1 + j * 9 + 5, none⟩ = some (.slice kp1 kn1 kc1) ∧ w''.cell? ⟨b1, o1 + j * 9 + 6, none⟩ = some (.bool nn.hasS) ∧ w''.cell? ⟨b1, o1 + j * 9 + 7, none⟩ = some (.slice sp1 sn1 sc1) ∧ w''.cell? ⟨b1, o1 + j * 9 + 8, none⟩ = some (.bool nn.inS) ∧ w''.cell? ⟨b2, o2 + j * 9, none⟩ = some (.bool nn.live) ∧ w''.cell? ⟨b2, o2 + j * 9 + 1, none⟩ = some (.string nn.tag) ∧ w''.cell? ⟨b2, o2 + j * 9 + 2, none⟩ = some (.string nn.text) ∧ w''.cell? ⟨b2, o2 + j * 9 + 3, none⟩ = some (.slice ap2 nn.attrs.length ac2) ∧ w''.cell? ⟨b2, o2 + j * 9 + 4, none⟩ = some (.int .i64 nn.up) ∧ w''.cell? ⟨b2, o2 + j * 9 + 5, none⟩ = some (.slice kp2 kn2 kc2) ∧ w''.cell? ⟨b2, o2 + j * 9 + 6, none⟩ = some (.bool nn.hasS) ∧ w''.cell? ⟨b2, o2 + j * 9 + 7, none⟩ = some (.slice sp2 sn2 sc2) ∧ w''.cell? ⟨b2, o2 + j * 9 + 8, none⟩ = some (.bool nn.inS)) w'' := fun w'' hk => ⟨hk _ _ x0, hk _ _ x1, hk _ _ x2, hk _ _ x3, hk _ _ x4, hk _ _ x5, hk _ _ x6, hk _ _ x7, hk _ _ x8, hk _ _ y0, hk _ _ y1, hk _ _ y2, hk _ _ y3, hk _ _ y4, hk _ _ y5, hk _ _ y6, hk _ _ y7, hk _ _ y8⟩
      go_region_held3 (fun w'' => w''.cell? ⟨b1, o1 + j * 9, none⟩ = some (.bool nn.live) ∧ w''.cell? ⟨b1, o1 + j * 9 + 1, none⟩ = some (.string nn.tag) ∧ w''.cell? ⟨b1, o1 + j * 9 + 2, none⟩ = some (.string nn.text) ∧ w''.cell? ⟨b1, o1 + j * 9 + 3, none⟩ = some (.slice ap1 nn.attrs.length ac1) ∧ w''.cell? ⟨b1, o1 + j * 9 + 4, none⟩ = some (.int .i64 nn.up) ∧ w''.cell? ⟨b1, o1 + j * 9 + 5, none⟩ = some (.slice kp1 kn1 kc1) ∧ w''.cell? ⟨b1, o1 + j * 9 + 6, none⟩ = some (.bool nn.hasS) ∧ w''.cell? ⟨b1, o1 + j * 9 + 7, none⟩ = some (.slice sp1 sn1 sc1) ∧ w''.cell? ⟨b1, o1 + j * 9 + 8, none⟩ = some (.bool nn.inS) ∧ w''.cell? ⟨b2, o2 + j * 9, none⟩ = some (.bool nn.live) ∧ w''.cell? ⟨b2, o2 + j * 9 + 1, none⟩ = some (.string nn.tag) ∧ w''.cell? ⟨b2, o2 + j * 9 + 2, none⟩ = some (.string nn.text) ∧ w''.cell? ⟨b2, o2 + j * 9 + 3, none⟩ = some (.slice ap2 nn.attrs.length ac2) ∧ w''.cell? ⟨b2, o2 + j * 9 + 4, none⟩ = some (.int .i64 nn.up) ∧ w''.cell? ⟨b2, o2 + j * 9 + 5, none⟩ = some (.slice kp2 kn2 kc2) ∧ w''.cell? ⟨b2, o2 + j * 9 + 6, none⟩ = some (.bool nn.hasS) ∧ w''.cell? ⟨b2, o2 + j * 9 + 7, none⟩ = some (.slice sp2 sn2 sc2) ∧ w''.cell? ⟨b2, o2 + j * 9 + 8, none⟩ = some (.bool nn.inS))
        ((apply SS; repeat (first | exact Keeps.refl _ | apply keeps_drew | apply keeps_alloc')))
        (fail)
      · have bX : BoxAt ((wr.alloc (.cells (Raw.cells (⟨nn.live, nn.tag, nn.text, ⟨ap1, nn.attrs.length, ac1⟩, nn.up, ⟨kp1, kn1, kc1⟩, nn.hasS, ⟨sp1, sn1, sc1⟩, nn.inS⟩ : Raw)).toArray 50)).alloc (.cells (Raw.cells (⟨nn.live, nn.tag, nn.text, ⟨ap2, nn.attrs.length, ac2⟩, nn.up, ⟨kp2, kn2, kc2⟩, nn.hasS, ⟨sp2, sn2, sc2⟩, nn.inS⟩ : Raw)).toArray 50)).drew wr.heap.size (⟨nn.live, nn.tag, nn.text, ⟨ap1, nn.attrs.length, ac1⟩, nn.up, ⟨kp1, kn1, kc1⟩, nn.hasS, ⟨sp1, sn1, sc1⟩, nn.inS⟩ : Raw) := (box_new wr (⟨nn.live, nn.tag, nn.text, ⟨ap1, nn.attrs.length, ac1⟩, nn.up, ⟨kp1, kn1, kc1⟩, nn.hasS, ⟨sp1, sn1, sc1⟩, nn.inS⟩ : Raw) 50).keeps (keeps_drew (keeps_alloc _ _))
        have bY : BoxAt ((wr.alloc (.cells (Raw.cells (⟨nn.live, nn.tag, nn.text, ⟨ap1, nn.attrs.length, ac1⟩, nn.up, ⟨kp1, kn1, kc1⟩, nn.hasS, ⟨sp1, sn1, sc1⟩, nn.inS⟩ : Raw)).toArray 50)).alloc (.cells (Raw.cells (⟨nn.live, nn.tag, nn.text, ⟨ap2, nn.attrs.length, ac2⟩, nn.up, ⟨kp2, kn2, kc2⟩, nn.hasS, ⟨sp2, sn2, sc2⟩, nn.inS⟩ : Raw)).toArray 50)).drew (wr.heap.size + 1) (⟨nn.live, nn.tag, nn.text, ⟨ap2, nn.attrs.length, ac2⟩, nn.up, ⟨kp2, kn2, kc2⟩, nn.hasS, ⟨sp2, sn2, sc2⟩, nn.inS⟩ : Raw) := by
          have h := (box_new (wr.alloc (.cells (Raw.cells (⟨nn.live, nn.tag, nn.text, ⟨ap1, nn.attrs.length, ac1⟩, nn.up, ⟨kp1, kn1, kc1⟩, nn.hasS, ⟨sp1, sn1, sc1⟩, nn.inS⟩ : Raw)).toArray 50)) (⟨nn.live, nn.tag, nn.text, ⟨ap2, nn.attrs.length, ac2⟩, nn.up, ⟨kp2, kn2, kc2⟩, nn.hasS, ⟨sp2, sn2, sc2⟩, nn.inS⟩ : Raw) 50).keeps (keeps_drew (Keeps.refl _))
          rw [show (wr.alloc (.cells (Raw.cells (⟨nn.live, nn.tag, nn.text, ⟨ap1, nn.attrs.length, ac1⟩, nn.up, ⟨kp1, kn1, kc1⟩, nn.hasS, ⟨sp1, sn1, sc1⟩, nn.inS⟩ : Raw)).toArray 50)).heap.size = wr.heap.size + 1 by simp] at h
          exact h
        have KQ : Keeps wr ((wr.alloc (.cells (Raw.cells (⟨nn.live, nn.tag, nn.text, ⟨ap1, nn.attrs.length, ac1⟩, nn.up, ⟨kp1, kn1, kc1⟩, nn.hasS, ⟨sp1, sn1, sc1⟩, nn.inS⟩ : Raw)).toArray 50)).alloc (.cells (Raw.cells (⟨nn.live, nn.tag, nn.text, ⟨ap2, nn.attrs.length, ac2⟩, nn.up, ⟨kp2, kn2, kc2⟩, nn.hasS, ⟨sp2, sn2, sc2⟩, nn.inS⟩ : Raw)).toArray 50)).drew := keeps_drew (keeps_alloc' _ (keeps_alloc _ _))
        have BQ : Below w.heap.size w ((wr.alloc (.cells (Raw.cells (⟨nn.live, nn.tag, nn.text, ⟨ap1, nn.attrs.length, ac1⟩, nn.up, ⟨kp1, kn1, kc1⟩, nn.hasS, ⟨sp1, sn1, sc1⟩, nn.inS⟩ : Raw)).toArray 50)).alloc (.cells (Raw.cells (⟨nn.live, nn.tag, nn.text, ⟨ap2, nn.attrs.length, ac2⟩, nn.up, ⟨kp2, kn2, kc2⟩, nn.hasS, ⟨sp2, sn2, sc2⟩, nn.inS⟩ : Raw)).toArray 50)).drew := ((hnx.alloc hbz _).alloc (by simp; omega) _).drew
        simp only [Raw.cells] at bX bY KQ BQ
        generalize hWQ : (World.alloc _ _).drew = W at bX bY KQ BQ ⊢
        generalize wr.heap.size + 1 = Y at *
        generalize wr.heap.size = X at *
        clear x0 x1 x2 x3 x4 x5 x6 x7 x8 y0 y1 y2 y3 y4 y5 y6 y7 y8 SS
        have K1 := K1.keeps KQ
        have K2 := K2.keeps KQ
        have S1 := S1.keeps KQ
        have S2 := S2.keeps KQ
        have A1 := A1.keeps KQ
        have A2 := A2.keeps KQ
        clear KQ hWQ hnx hbz
        have CX := bX
        have CY := bY
        obtain ⟨e0, e1, e2, e3, e4, e5, e6, e7, e8⟩ := bX
        obtain ⟨g0, g1, g2, g3, g4, g5, g6, g7, g8⟩ := bY
        simp only at e0 e1 e2 e3 e4 e5 e6 e7 e8 g0 g1 g2 g3 g4 g5 g6 g7 g8
        have q1 : (nn.tag.toList == nn.tag.toList) = true := by simp
        have q2 : (nn.text.toList == nn.text.toList) = true := by simp
        have q3 : (nn.up == nn.up) = true := by simp
        have AX : Hid (AttrsAt W (.slice ap1 nn.attrs.length ac1) nn.attrs) := A1
        have AY : Hid (AttrsAt W (.slice ap2 nn.attrs.length ac2) nn.attrs) := A2
        clear A1 A2
        go_wp2_with (first
          | (go_at_call_of 16 kc1; refine (rsameints_true K1 K2).mono ?_; rintro e w5 ⟨rfl, hb5⟩; have J5 := keeps_below hb5 (Nat.le_refl _); have e75 := J5 _ _ e7; have g75 := J5 _ _ g7; have e35 := J5 _ _ e3; have g35 := J5 _ _ g3; have S15 := S1.keeps J5; have S25 := S2.keeps J5)
          | (go_at_call_of 16 sc1; refine (rsameints_true S15 S25).mono ?_; rintro e w6 ⟨rfl, hb6⟩; have J6 := J5.trans (keeps_below hb6 (Nat.le_refl _)); have e36 := J6 _ _ e3; have g36 := J6 _ _ g3; have B6 := (BQ.trans (hb5.mono BQ.size)).trans (hb6.mono (Nat.le_trans BQ.size hb5.size)); have AX6 : Hid (AttrsAt w6 (.slice ap1 nn.attrs.length ac1) nn.attrs) := AX.out.keeps J6; have AY6 : Hid (AttrsAt w6 (.slice ap2 nn.attrs.length ac2) nn.attrs) := AY.out.keeps J6))
        obtain ⟨_, _, he1, hx1, hx2, _, at1⟩ := AX6.out.at
        cases he1
        obtain ⟨_, _, he2, hy1, hy2, _, at2⟩ := AY6.out.at
        cases he2
        have T1 : Hid (∀ i (hi : i < nn.attrs.length), ∃ b o, ap1 = some ⟨b, o, none⟩ ∧ w6.cell? ⟨b, o + i * 2, none⟩ = some (.string nn.attrs[i].1) ∧ w6.cell? ⟨b, o + i * 2 + 1, none⟩ = some (.string nn.attrs[i].2)) := at1
        have T2 : Hid (∀ i (hi : i < nn.attrs.length), ∃ b o, ap2 = some ⟨b, o, none⟩ ∧ w6.cell? ⟨b, o + i * 2, none⟩ = some (.string nn.attrs[i].1) ∧ w6.cell? ⟨b, o + i * 2 + 1, none⟩ = some (.string nn.attrs[i].2)) := at2
        clear at1 at2 AX6 AY6 AX AY J5 J6 hb5 hb6 e75 g75 e35 g35 S15 S25 K1 K2 S1 S2 BQ CX CY e0 e1 e2 e3 e4 e5 e6 e7 e8 g0 g1 g2 g3 g4 g5 g6 g7 g8 q1 q2 q3
        go_loopw [95] (fun iv wq => ∃ i : Nat, i ≤ nn.attrs.length ∧ iv = .int .i64 i ∧ Below w6.heap.size w6 wq) (fun i _ => nn.attrs.length - (intOf i).toNat)
        case atStart => exact ⟨0, Nat.zero_le _, rfl, Below.refl _ _⟩
        case round =>
          obtain ⟨i, hi, rfl, hq6⟩ := hrel
          have J7 := keeps_below hq6 (Nat.le_refl _)
          have e37 := J7 _ _ e36
          have g37 := J7 _ _ g36
          by_cases hil : i < nn.attrs.length
          · obtain ⟨f1, p1, rfl, k1, k2⟩ := T1.out i hil
            obtain ⟨f2, p2, rfl, k3, k4⟩ := T2.out i hil
            have z1 := J7 _ _ k1
            have z2 := J7 _ _ k2
            have z3 := J7 _ _ k3
            have z4 := J7 _ _ k4
            clear k1 k2 k3 k4
            generalize nn.attrs[i] = at0 at *
            obtain ⟨nm, vl⟩ := at0
            simp only at z1 z2 z3 z4
            have hne := fun W => attr_neq W nm vl
            have hgd := attr_guard
            have hii : (i : Int) < (nn.attrs.length : Int) := by omega
            go_wp2_with fail
            go_quiet (fail)
            go_wp2_with fail
            go_roundw
            case rel => exact ⟨i + 1, by omega, by go_num, hq6.trans ⟨rfl, rfl, rfl, Nat.le_refl _, fun _ _ => rfl⟩⟩
            case measure => simp [intOf]; omega
          · obtain rfl : i = nn.attrs.length := by omega
            go_wp2_with fail
            go_roundw
            case rel => exact ⟨j + 1, by omega, by go_num, B6.trans (hq6.mono B6.size)⟩
            case measure => simp [intOf]; omega
      · have bY : BoxAt ((wr.alloc (.cells (Raw.cells (⟨nn.live, nn.tag, nn.text, ⟨ap2, nn.attrs.length, ac2⟩, nn.up, ⟨kp2, kn2, kc2⟩, nn.hasS, ⟨sp2, sn2, sc2⟩, nn.inS⟩ : Raw)).toArray 50)).alloc (.cells (Raw.cells (⟨nn.live, nn.tag, nn.text, ⟨ap1, nn.attrs.length, ac1⟩, nn.up, ⟨kp1, kn1, kc1⟩, nn.hasS, ⟨sp1, sn1, sc1⟩, nn.inS⟩ : Raw)).toArray 50)).drew wr.heap.size (⟨nn.live, nn.tag, nn.text, ⟨ap2, nn.attrs.length, ac2⟩, nn.up, ⟨kp2, kn2, kc2⟩, nn.hasS, ⟨sp2, sn2, sc2⟩, nn.inS⟩ : Raw) := (box_new wr (⟨nn.live, nn.tag, nn.text, ⟨ap2, nn.attrs.length, ac2⟩, nn.up, ⟨kp2, kn2, kc2⟩, nn.hasS, ⟨sp2, sn2, sc2⟩, nn.inS⟩ : Raw) 50).keeps (keeps_drew (keeps_alloc _ _))
        have bX : BoxAt ((wr.alloc (.cells (Raw.cells (⟨nn.live, nn.tag, nn.text, ⟨ap2, nn.attrs.length, ac2⟩, nn.up, ⟨kp2, kn2, kc2⟩, nn.hasS, ⟨sp2, sn2, sc2⟩, nn.inS⟩ : Raw)).toArray 50)).alloc (.cells (Raw.cells (⟨nn.live, nn.tag, nn.text, ⟨ap1, nn.attrs.length, ac1⟩, nn.up, ⟨kp1, kn1, kc1⟩, nn.hasS, ⟨sp1, sn1, sc1⟩, nn.inS⟩ : Raw)).toArray 50)).drew (wr.heap.size + 1) (⟨nn.live, nn.tag, nn.text, ⟨ap1, nn.attrs.length, ac1⟩, nn.up, ⟨kp1, kn1, kc1⟩, nn.hasS, ⟨sp1, sn1, sc1⟩, nn.inS⟩ : Raw) := by
          have h := (box_new (wr.alloc (.cells (Raw.cells (⟨nn.live, nn.tag, nn.text, ⟨ap2, nn.attrs.length, ac2⟩, nn.up, ⟨kp2, kn2, kc2⟩, nn.hasS, ⟨sp2, sn2, sc2⟩, nn.inS⟩ : Raw)).toArray 50)) (⟨nn.live, nn.tag, nn.text, ⟨ap1, nn.attrs.length, ac1⟩, nn.up, ⟨kp1, kn1, kc1⟩, nn.hasS, ⟨sp1, sn1, sc1⟩, nn.inS⟩ : Raw) 50).keeps (keeps_drew (Keeps.refl _))
          rw [show (wr.alloc (.cells (Raw.cells (⟨nn.live, nn.tag, nn.text, ⟨ap2, nn.attrs.length, ac2⟩, nn.up, ⟨kp2, kn2, kc2⟩, nn.hasS, ⟨sp2, sn2, sc2⟩, nn.inS⟩ : Raw)).toArray 50)).heap.size = wr.heap.size + 1 by simp] at h
          exact h
        have KQ : Keeps wr ((wr.alloc (.cells (Raw.cells (⟨nn.live, nn.tag, nn.text, ⟨ap2, nn.attrs.length, ac2⟩, nn.up, ⟨kp2, kn2, kc2⟩, nn.hasS, ⟨sp2, sn2, sc2⟩, nn.inS⟩ : Raw)).toArray 50)).alloc (.cells (Raw.cells (⟨nn.live, nn.tag, nn.text, ⟨ap1, nn.attrs.length, ac1⟩, nn.up, ⟨kp1, kn1, kc1⟩, nn.hasS, ⟨sp1, sn1, sc1⟩, nn.inS⟩ : Raw)).toArray 50)).drew := keeps_drew (keeps_alloc' _ (keeps_alloc _ _))
        have BQ : Below w.heap.size w ((wr.alloc (.cells (Raw.cells (⟨nn.live, nn.tag, nn.text, ⟨ap2, nn.attrs.length, ac2⟩, nn.up, ⟨kp2, kn2, kc2⟩, nn.hasS, ⟨sp2, sn2, sc2⟩, nn.inS⟩ : Raw)).toArray 50)).alloc (.cells (Raw.cells (⟨nn.live, nn.tag, nn.text, ⟨ap1, nn.attrs.length, ac1⟩, nn.up, ⟨kp1, kn1, kc1⟩, nn.hasS, ⟨sp1, sn1, sc1⟩, nn.inS⟩ : Raw)).toArray 50)).drew := ((hnx.alloc hbz _).alloc (by simp; omega) _).drew
        simp only [Raw.cells] at bX bY KQ BQ
        generalize hWQ : (World.alloc _ _).drew = W at bX bY KQ BQ ⊢
        generalize wr.heap.size + 1 = X at *
        generalize wr.heap.size = Y at *
        clear x0 x1 x2 x3 x4 x5 x6 x7 x8 y0 y1 y2 y3 y4 y5 y6 y7 y8 SS
        have K1 := K1.keeps KQ
        have K2 := K2.keeps KQ
        have S1 := S1.keeps KQ
        have S2 := S2.keeps KQ
        have A1 := A1.keeps KQ
        have A2 := A2.keeps KQ
        clear KQ hWQ hnx hbz
        have CX := bX
        have CY := bY
        obtain ⟨e0, e1, e2, e3, e4, e5, e6, e7, e8⟩ := bX
        obtain ⟨g0, g1, g2, g3, g4, g5, g6, g7, g8⟩ := bY
        simp only at e0 e1 e2 e3 e4 e5 e6 e7 e8 g0 g1 g2 g3 g4 g5 g6 g7 g8
        have q1 : (nn.tag.toList == nn.tag.toList) = true := by simp
        have q2 : (nn.text.toList == nn.text.toList) = true := by simp
        have q3 : (nn.up == nn.up) = true := by simp
        have AX : Hid (AttrsAt W (.slice ap1 nn.attrs.length ac1) nn.attrs) := A1
        have AY : Hid (AttrsAt W (.slice ap2 nn.attrs.length ac2) nn.attrs) := A2
        clear A1 A2
        go_wp2_with (first
          | (go_at_call_of 16 kc1; refine (rsameints_true K1 K2).mono ?_; rintro e w5 ⟨rfl, hb5⟩; have J5 := keeps_below hb5 (Nat.le_refl _); have e75 := J5 _ _ e7; have g75 := J5 _ _ g7; have e35 := J5 _ _ e3; have g35 := J5 _ _ g3; have S15 := S1.keeps J5; have S25 := S2.keeps J5)
          | (go_at_call_of 16 sc1; refine (rsameints_true S15 S25).mono ?_; rintro e w6 ⟨rfl, hb6⟩; have J6 := J5.trans (keeps_below hb6 (Nat.le_refl _)); have e36 := J6 _ _ e3; have g36 := J6 _ _ g3; have B6 := (BQ.trans (hb5.mono BQ.size)).trans (hb6.mono (Nat.le_trans BQ.size hb5.size)); have AX6 : Hid (AttrsAt w6 (.slice ap1 nn.attrs.length ac1) nn.attrs) := AX.out.keeps J6; have AY6 : Hid (AttrsAt w6 (.slice ap2 nn.attrs.length ac2) nn.attrs) := AY.out.keeps J6))
        obtain ⟨_, _, he1, hx1, hx2, _, at1⟩ := AX6.out.at
        cases he1
        obtain ⟨_, _, he2, hy1, hy2, _, at2⟩ := AY6.out.at
        cases he2
        have T1 : Hid (∀ i (hi : i < nn.attrs.length), ∃ b o, ap1 = some ⟨b, o, none⟩ ∧ w6.cell? ⟨b, o + i * 2, none⟩ = some (.string nn.attrs[i].1) ∧ w6.cell? ⟨b, o + i * 2 + 1, none⟩ = some (.string nn.attrs[i].2)) := at1
        have T2 : Hid (∀ i (hi : i < nn.attrs.length), ∃ b o, ap2 = some ⟨b, o, none⟩ ∧ w6.cell? ⟨b, o + i * 2, none⟩ = some (.string nn.attrs[i].1) ∧ w6.cell? ⟨b, o + i * 2 + 1, none⟩ = some (.string nn.attrs[i].2)) := at2
        clear at1 at2 AX6 AY6 AX AY J5 J6 hb5 hb6 e75 g75 e35 g35 S15 S25 K1 K2 S1 S2 BQ CX CY e0 e1 e2 e3 e4 e5 e6 e7 e8 g0 g1 g2 g3 g4 g5 g6 g7 g8 q1 q2 q3
        go_loopw [95] (fun iv wq => ∃ i : Nat, i ≤ nn.attrs.length ∧ iv = .int .i64 i ∧ Below w6.heap.size w6 wq) (fun i _ => nn.attrs.length - (intOf i).toNat)
        case atStart => exact ⟨0, Nat.zero_le _, rfl, Below.refl _ _⟩
        case round =>
          obtain ⟨i, hi, rfl, hq6⟩ := hrel
          have J7 := keeps_below hq6 (Nat.le_refl _)
          have e37 := J7 _ _ e36
          have g37 := J7 _ _ g36
          by_cases hil : i < nn.attrs.length
          · obtain ⟨f1, p1, rfl, k1, k2⟩ := T1.out i hil
            obtain ⟨f2, p2, rfl, k3, k4⟩ := T2.out i hil
            have z1 := J7 _ _ k1
            have z2 := J7 _ _ k2
            have z3 := J7 _ _ k3
            have z4 := J7 _ _ k4
            clear k1 k2 k3 k4
            generalize nn.attrs[i] = at0 at *
            obtain ⟨nm, vl⟩ := at0
            simp only at z1 z2 z3 z4
            have hne := fun W => attr_neq W nm vl
            have hgd := attr_guard
            have hii : (i : Int) < (nn.attrs.length : Int) := by omega
            go_wp2_with fail
            go_quiet (fail)
            go_wp2_with fail
            go_roundw
            case rel => exact ⟨i + 1, by omega, by go_num, hq6.trans ⟨rfl, rfl, rfl, Nat.le_refl _, fun _ _ => rfl⟩⟩
            case measure => simp [intOf]; omega
          · obtain rfl : i = nn.attrs.length := by omega
            go_wp2_with fail
            go_roundw
            case rel => exact ⟨j + 1, by omega, by go_num, B6.trans (hq6.mono B6.size)⟩
            case measure => simp [intOf]; omega
    · obtain rfl : j = d.length := by omega
      go_wp2_with fail
      go_ret
      exact ⟨rfl, hnx⟩
end Go.Proofs.Ytdfkhjckpdokeab

/-
  THE WALKS of tnlaw3's host and alive.
-/
namespace Go.Proofs.Ytdfkhjckpdokeab
open Go.RowKit

def hostL : List Tn.Chg := [⟨1, 0, 0, -1, ⟨#[120]⟩, ⟨#[]⟩⟩, ⟨8, 1, 0, 0, ⟨#[]⟩, ⟨#[]⟩⟩, ⟨9, 1, 0, 0, ⟨#[115, 108, 111, 116]⟩, ⟨#[]⟩⟩, ⟨1, 1, 0, -1, ⟨#[98]⟩, ⟨#[]⟩⟩]
theorem host_slot : slotD (Tn.build hostL) 3 = 2 := by decide +kernel
theorem host_given : givenD (Tn.build hostL) 2 = [3] := by decide +kernel
theorem host_kids : kidsD (Tn.build hostL) 2 = [3] := by decide +kernel
theorem host_up : upF (Tn.build hostL) 3 = 2 := by decide +kernel
theorem host_shown : shownF Tn.fuel (Tn.build hostL) 0 = [0, 1, 2, 3] := by decide +kernel
theorem host_end : EndF Tn.fuel (Tn.build hostL) 0 := endB_end _ _ _ (by decide +kernel)

theorem chgs_new (w : World) (l : List Tn.Chg) (hl : l.length ≤ 1000) : ChgsAt (w.alloc (.cells (l.flatMap chc).toArray 28)) (.slice (some ⟨w.heap.size, 0, none⟩) l.length l.length) l := by
  refine ⟨_, _, rfl, Nat.le_refl _, by unfold maxLen; omega, fun j x hx => ⟨_, 0, rfl, ?_⟩⟩
  rw [Nat.zero_add, World.cell?_alloc_new, ← hx]
  simp

theorem ChgsAt.keeps {w w' : World} {v : Value} {l : List Tn.Chg} (h : ChgsAt w v l) (k : Keeps w w') : ChgsAt w' v l := by
  obtain ⟨p, c, e, h1, h2, h4⟩ := h
  refine ⟨p, c, e, h1, h2, fun j x hx => ?_⟩
  obtain ⟨b, o, e1, e2⟩ := h4 j x hx
  exact ⟨b, o, e1, k _ _ e2⟩

set_option maxHeartbeats 800000 in
theorem lhost_any (w : World) : Calls Try.prog 51 #[] w fun e w' => ∃ g c rs, e = .returned (.slice (some ⟨g, 0, none⟩) rs.length c) ∧ DocAt w' g 0 c rs (Tn.build hostL) ∧ Below w.heap.size w w' := by
  have hC := rbuild_good (chgs_new w hostL (by decide)) (by decide)
  have e : (hostL.flatMap chc).toArray = #[.int .i64 1, .int .i64 0, .int .i64 0, .int .i64 (-1), .string ⟨#[120]⟩, .string ⟨#[]⟩, .int .i64 8, .int .i64 1, .int .i64 0, .int .i64 0, .string ⟨#[]⟩, .string ⟨#[]⟩, .int .i64 9, .int .i64 1, .int .i64 0, .int .i64 0, .string ⟨#[115, 108, 111, 116]⟩, .string ⟨#[]⟩, .int .i64 1, .int .i64 1, .int .i64 0, .int .i64 (-1), .string ⟨#[98]⟩, .string ⟨#[]⟩] := rfl
  have e4 : hostL.length = 4 := rfl
  rw [e, e4] at hC
  have B1 := (Below.refl w.heap.size w).alloc (Nat.le_refl _) (.cells #[.int .i64 1, .int .i64 0, .int .i64 0, .int .i64 (-1), .string ⟨#[120]⟩, .string ⟨#[]⟩, .int .i64 8, .int .i64 1, .int .i64 0, .int .i64 0, .string ⟨#[]⟩, .string ⟨#[]⟩, .int .i64 9, .int .i64 1, .int .i64 0, .int .i64 0, .string ⟨#[115, 108, 111, 116]⟩, .string ⟨#[]⟩, .int .i64 1, .int .i64 1, .int .i64 0, .int .i64 (-1), .string ⟨#[98]⟩, .string ⟨#[]⟩] 28)
  clear e e4
  generalize Tn.build hostL = d at *
  go_enter Try.func51, Try.ntmps51
  go_wp2_with (go_at_call 8; refine hC.mono ?_; rintro e w9 ⟨g, c, rs, rfl, hd9, hb9⟩)
  go_ret
  exact ⟨g, c, rs, rfl, hd9, B1.trans (hb9.mono B1.size)⟩

set_option maxHeartbeats 1600000 in
theorem lalive_any (w : World) : Calls Try.prog 25 #[] w fun e w' => e = .returned (.bool true) ∧ Below w.heap.size w w' := by
  have hH := lhost_any w
  have hg := build_okd hostL
  have p1 := host_slot
  have p2 := host_given
  have p3 := host_kids
  have p4 := host_up
  have p5 := host_shown
  have p6 := host_end
  generalize Tn.build hostL = d at *
  have S1 : ∀ W g c rs, DocAt W g 0 c rs d → Calls Try.prog 14 #[.slice (some ⟨g, 0, none⟩) rs.length c, .int .i64 3] W fun e w' => e = .returned (.int .i64 2) ∧ Below W.heap.size W w' := fun W g c rs h => by have := fslot_any h hg 3; rw [p1] at this; exact this
  have S2 : ∀ W g c rs, DocAt W g 0 c rs d → Calls Try.prog 17 #[.slice (some ⟨g, 0, none⟩) rs.length c, .int .i64 2] W fun e w' => ∃ v, e = .returned v ∧ OwnI w' W.heap.size v [3] ∧ Below W.heap.size W w' := fun W g c rs h => by have := fgiven_any h hg 2; rw [p2] at this; exact this
  have S3 : ∀ W g c rs, DocAt W g 0 c rs d → Calls Try.prog 19 #[.slice (some ⟨g, 0, none⟩) rs.length c, .int .i64 2] W fun e w' => ∃ v, e = .returned v ∧ OwnI w' W.heap.size v [3] ∧ Below W.heap.size W w' := fun W g c rs h => by have := fkids_any h hg 2; rw [p3] at this; exact this
  have S4 : ∀ W g c rs, DocAt W g 0 c rs d → Calls Try.prog 21 #[.slice (some ⟨g, 0, none⟩) rs.length c, .int .i64 3] W fun e w' => e = .returned (.int .i64 2) ∧ Below W.heap.size W w' := fun W g c rs h => by have := fup_any h hg 3; rw [p4] at this; exact this
  have S5 : ∀ W g c rs, DocAt W g 0 c rs d → Calls Try.prog 23 #[.slice (some ⟨g, 0, none⟩) rs.length c] W fun e w' => ∃ v, e = .returned v ∧ OwnI w' W.heap.size v [0, 1, 2, 3] ∧ Below W.heap.size W w' := fun W g c rs h => by have := fshown_any h hg p6 (by rw [p5]; decide); rw [p5] at this; exact this
  clear p1 p2 p3 p4 p5 p6 hg
  go_enter Try.func25, Try.ntmps25
  go_wp2_with (first
    | (go_at_call 51; refine hH.mono ?_; rintro e w1 ⟨g, c, rs, rfl, hd1, hb1⟩; have HD1 : Hid (DocAt w1 g 0 c rs d) := hd1; clear hd1)
    | (go_at_call 19; refine (S3 _ _ _ _ HD1.out).mono ?_; rintro e w2 ⟨v2, rfl, ho2, hb2⟩; have HD2 : Hid (DocAt w2 g 0 c rs d) := HD1.out.keeps (keeps_below hb2 (Nat.le_refl _)); obtain ⟨pk, ck, rfl, kz1, kz2, _, hat⟩ := (ints_of_owns ho2).at; obtain ⟨bk, ok, rfl, k0⟩ := hat 0 (by decide); simp at k0)
    | (go_at_call 14; refine (S1 _ _ _ _ HD2.out).mono ?_; rintro e w3 ⟨rfl, hb3⟩; have HD3 : Hid (DocAt w3 g 0 c rs d) := HD2.out.keeps (keeps_below hb3 (Nat.le_refl _)); have k03 := keeps_below hb3 (Nat.le_refl _) _ _ k0)
    | (go_at_call 17; refine (S2 _ _ _ _ HD3.out).mono ?_; rintro e w4 ⟨v4, rfl, ho4, hb4⟩; have HD4 : Hid (DocAt w4 g 0 c rs d) := HD3.out.keeps (keeps_below hb4 (Nat.le_refl _)); obtain ⟨p4, c4, rfl⟩ := ho4.shape; have k04 := keeps_below hb4 (Nat.le_refl _) _ _ k03)
    | (go_at_call 21; refine (S4 _ _ _ _ HD4.out).mono ?_; rintro e w5 ⟨rfl, hb5⟩; have HD5 : Hid (DocAt w5 g 0 c rs d) := HD4.out.keeps (keeps_below hb5 (Nat.le_refl _)))
    | (go_at_call 23; refine (S5 _ _ _ _ HD5.out).mono ?_; rintro e w6 ⟨v6, rfl, ho6, hb6⟩; obtain ⟨p6, c6, rfl⟩ := ho6.shape))
  go_ret
  refine ⟨rfl, ?_⟩
  have B2 := hb1.trans (hb2.mono hb1.size)
  have B3 := B2.trans (hb3.mono B2.size)
  have B4 := B3.trans (hb4.mono B3.size)
  have B5 := B4.trans (hb5.mono B4.size)
  exact B5.trans (hb6.mono B5.size)
end Go.Proofs.Ytdfkhjckpdokeab

/-
  THE WALK of tnlaw3's FlatTells.
-/
namespace Go.Proofs.Ytdfkhjckpdokeab
open Go.RowKit

set_option maxHeartbeats 3200000 in
set_option maxRecDepth 100000 in
theorem tells_walk {w : World} {vl : Value} {l : List Tn.Chg} (hl : ChgsAt w vl l) (hsz : ∀ x ∈ l, x.value.size ≤ 4194304 ∧ x.name.size ≤ 4194304) (n : Int) :
    Calls Try.prog 4 #[vl, .int .i64 n] w fun e w' => e = .returned (.bool true) ∧ Below w.heap.size w w' := by
  have hBd := rbuild_good hl hsz
  have hF := build_fine l
  obtain ⟨p, cc, rfl, _⟩ := hl
  clear hsz
  generalize Tn.build l = d at *
  have hO := hF.okd
  obtain ⟨r, hr, _⟩ := hF.good.tr
  have hlv : Tn.lvD d 0 = true := hr.1.root
  have hsf := shown_few hF Tn.fuel hlv
  have a1 : Hid (∀ (W : World) (g c : Nat) (rs : List Raw), DocAt W g 0 c rs d → Calls Try.prog 14 #[.slice (some ⟨g, 0, none⟩) rs.length c, .int .i64 n] W fun e w' => e = .returned (.int .i64 (slotD d n)) ∧ Below W.heap.size W w') := fun W g c rs h => fslot_any h hO n
  have a2 : Hid (∀ (W : World) (g c : Nat) (rs : List Raw), DocAt W g 0 c rs d → Calls Try.prog 15 #[.slice (some ⟨g, 0, none⟩) rs.length c, .int .i64 n] W fun e w' => e = .returned (.int .i64 (slotD d n)) ∧ Below W.heap.size W w') := fun W g c rs h => qslot_any h hF n
  have a3 : Hid (∀ (W : World) (g c : Nat) (rs : List Raw), DocAt W g 0 c rs d → Calls Try.prog 17 #[.slice (some ⟨g, 0, none⟩) rs.length c, .int .i64 n] W fun e w' => ∃ v, e = .returned v ∧ OwnI w' W.heap.size v (givenD d n) ∧ Below W.heap.size W w') := fun W g c rs h => fgiven_any h hO n
  have a4 : Hid (∀ (W : World) (g c : Nat) (rs : List Raw), DocAt W g 0 c rs d → Calls Try.prog 18 #[.slice (some ⟨g, 0, none⟩) rs.length c, .int .i64 n] W fun e w' => ∃ v, e = .returned v ∧ OwnI w' W.heap.size v (givenD d n) ∧ Below W.heap.size W w') := fun W g c rs h => qgiven_any h hF n
  have a5 : Hid (∀ (W : World) (g c : Nat) (rs : List Raw), DocAt W g 0 c rs d → Calls Try.prog 19 #[.slice (some ⟨g, 0, none⟩) rs.length c, .int .i64 n] W fun e w' => ∃ v, e = .returned v ∧ OwnI w' W.heap.size v (kidsD d n) ∧ Below W.heap.size W w') := fun W g c rs h => fkids_any h hO n
  have a6 : Hid (∀ (W : World) (g c : Nat) (rs : List Raw), DocAt W g 0 c rs d → Calls Try.prog 20 #[.slice (some ⟨g, 0, none⟩) rs.length c, .int .i64 n] W fun e w' => ∃ p cc, e = .returned (.slice p (kidsD d n).length cc) ∧ IntsAt w' (.slice p (kidsD d n).length cc) (kidsD d n) ∧ Below W.heap.size W w') := fun W g c rs h => qkids_any h hF n
  have a7 : Hid (∀ (W : World) (g c : Nat) (rs : List Raw), DocAt W g 0 c rs d → Calls Try.prog 21 #[.slice (some ⟨g, 0, none⟩) rs.length c, .int .i64 n] W fun e w' => e = .returned (.int .i64 (upF d n)) ∧ Below W.heap.size W w') := fun W g c rs h => fup_any h hO n
  have a8 : Hid (∀ (W : World) (g c : Nat) (rs : List Raw), DocAt W g 0 c rs d → Calls Try.prog 22 #[.slice (some ⟨g, 0, none⟩) rs.length c, .int .i64 n] W fun e w' => e = .returned (.int .i64 (upF d n)) ∧ Below W.heap.size W w') := fun W g c rs h => qup_any h hF n
  have a9 : Hid (∀ (W : World) (g c : Nat) (rs : List Raw), DocAt W g 0 c rs d → Calls Try.prog 23 #[.slice (some ⟨g, 0, none⟩) rs.length c] W fun e w' => ∃ v, e = .returned v ∧ OwnI w' W.heap.size v (shownF Tn.fuel d 0) ∧ Below W.heap.size W w') := fun W g c rs h => fshown_any h hO (fine_end hF) (by omega)
  have a10 : Hid (∀ (W : World) (g c : Nat) (rs : List Raw), DocAt W g 0 c rs d → Calls Try.prog 24 #[.slice (some ⟨g, 0, none⟩) rs.length c, .int .i64 0] W fun e w' => ∃ v, e = .returned v ∧ OwnI w' W.heap.size v (shownF Tn.fuel d 0) ∧ Below W.heap.size W w') := fun W g c rs h => qshown_any hF Tn.fuel 0 W h (fine_end hF) (by omega)
  clear hsf hlv hr hO hF
  generalize slotD d n = s1 at *
  generalize givenD d n = s2 at *
  generalize kidsD d n = s3 at *
  generalize upF d n = s4 at *
  generalize shownF Tn.fuel d 0 = s5 at *
  have q1 : (s1 == s1) = true := by simp
  have q4 : (s4 == s4) = true := by simp
  go_enter Try.func4, Try.ntmps4
  go_wp2_with (first
    | (go_at_call 8; refine hBd.mono ?_; rintro e w0 ⟨g, c, rs, rfl, hd0, hb0⟩; have D0 : Hid (DocAt w0 g 0 c rs d) := hd0; clear hd0)
    | (go_at_call 14; refine (a1.out _ _ _ _ D0.out).mono ?_; rintro e w1 ⟨rfl, hb1⟩; have D1 : Hid (DocAt w1 g 0 c rs d) := D0.out.keeps (keeps_below hb1 (Nat.le_refl _)))
    | (go_at_call 15; refine (a2.out _ _ _ _ D1.out).mono ?_; rintro e w2 ⟨rfl, hb2⟩; have D2 : Hid (DocAt w2 g 0 c rs d) := D1.out.keeps (keeps_below hb2 (Nat.le_refl _)))
    | (go_at_call 17; refine (a3.out _ _ _ _ D2.out).mono ?_; rintro e w3 ⟨v3, rfl, o3, hb3⟩; have D3 : Hid (DocAt w3 g 0 c rs d) := D2.out.keeps (keeps_below hb3 (Nat.le_refl _)))
    | (go_at_call 18; refine (a4.out _ _ _ _ D3.out).mono ?_; rintro e w4 ⟨v4, rfl, o4, hb4⟩; have D4 : Hid (DocAt w4 g 0 c rs d) := D3.out.keeps (keeps_below hb4 (Nat.le_refl _)); have o34 := o3.below hb4 (Nat.le_refl _))
    | (go_at_call_of 16 v3; refine (rsameints_true (ints_of_owns o34) (ints_of_owns o4)).mono ?_; rintro e w5 ⟨rfl, hb5⟩; have D5 : Hid (DocAt w5 g 0 c rs d) := D4.out.keeps (keeps_below hb5 (Nat.le_refl _)))
    | (go_at_call 19; refine (a5.out _ _ _ _ D5.out).mono ?_; rintro e w6 ⟨v6, rfl, o6, hb6⟩; have D6 : Hid (DocAt w6 g 0 c rs d) := D5.out.keeps (keeps_below hb6 (Nat.le_refl _)))
    | (go_at_call 20; refine (a6.out _ _ _ _ D6.out).mono ?_; rintro e w7 ⟨p7, c7, rfl, o7, hb7⟩; have D7 : Hid (DocAt w7 g 0 c rs d) := D6.out.keeps (keeps_below hb7 (Nat.le_refl _)); have o67 := o6.below hb7 (Nat.le_refl _))
    | (go_at_call_of 16 v6; refine (rsameints_true (ints_of_owns o67) o7).mono ?_; rintro e w8 ⟨rfl, hb8⟩; have D8 : Hid (DocAt w8 g 0 c rs d) := D7.out.keeps (keeps_below hb8 (Nat.le_refl _)))
    | (go_at_call 21; refine (a7.out _ _ _ _ D8.out).mono ?_; rintro e w9 ⟨rfl, hb9⟩; have D9 : Hid (DocAt w9 g 0 c rs d) := D8.out.keeps (keeps_below hb9 (Nat.le_refl _)))
    | (go_at_call 22; refine (a8.out _ _ _ _ D9.out).mono ?_; rintro e wa ⟨rfl, hba⟩; have Da : Hid (DocAt wa g 0 c rs d) := D9.out.keeps (keeps_below hba (Nat.le_refl _)))
    | (go_at_call 23; refine (a9.out _ _ _ _ Da.out).mono ?_; rintro e wb ⟨vb, rfl, ob, hbb⟩; have Db : Hid (DocAt wb g 0 c rs d) := Da.out.keeps (keeps_below hbb (Nat.le_refl _)))
    | (go_at_call 24; refine (a10.out _ _ _ _ Db.out).mono ?_; rintro e wc ⟨vc, rfl, oc, hbc⟩; have obc := ob.below hbc (Nat.le_refl _))
    | (go_at_call_of 16 vb; refine (rsameints_true (ints_of_owns obc) (ints_of_owns oc)).mono ?_; rintro e wd ⟨rfl, hbd⟩))
  go_ret
  refine ⟨rfl, ?_⟩
  have B1 := hb0.trans (hb1.mono hb0.size)
  have B2 := B1.trans (hb2.mono B1.size)
  have B3 := B2.trans (hb3.mono B2.size)
  have B4 := B3.trans (hb4.mono B3.size)
  have B5 := B4.trans (hb5.mono B4.size)
  have B6 := B5.trans (hb6.mono B5.size)
  have B7 := B6.trans (hb7.mono B6.size)
  have B8 := B7.trans (hb8.mono B7.size)
  have B9 := B8.trans (hb9.mono B8.size)
  have Ba := B9.trans (hba.mono B9.size)
  have Bb := Ba.trans (hbb.mono Ba.size)
  have Bc := Bb.trans (hbc.mono Bb.size)
  exact Bc.trans (hbd.mono Bc.size)
end Go.Proofs.Ytdfkhjckpdokeab
