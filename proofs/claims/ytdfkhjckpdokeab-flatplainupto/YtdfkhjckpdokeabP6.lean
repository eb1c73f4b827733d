/-
  OWN WORK: Ind, Fki, Fup, Fsh, Fs1, Fs3, Fok, Fal, Neq, Rsa, Fpl.
-/
import Derived.Test.YtdfkhjckpdokeabP5
import Derived.Test.YtdfkhjckpdokeabP1
import Derived.Laws.StructEq
import Derived.Test.YtdfkhjckpdokeabP2
import Derived.Deep.QuietTactic
import Derived.BigQuiet
import Derived.Deep.RegionHeld3
/-
  THE WALK of slices.Index at []int.
-/
namespace Go.Proofs.Ytdfkhjckpdokeab
open Go.RowKit

set_option maxHeartbeats 1600000 in
theorem index_any {w : World} {vl : Value} {l : List Nat} (hl : IntsAt w vl l) (x : Nat) :
    Calls Try.prog 65 #[vl, .int .i64 (x : Int)] w fun e w' => e = .returned (.int .i64 (idxI (fun k => k == x) l)) ∧ w' = w := by
  obtain ⟨p, cc, rfl, h1, h2, _, hat⟩ := hl.at
  have T : Hid (∀ j (hj : j < l.length), ∃ b o, p = some ⟨b, o, none⟩ ∧ w.cell? ⟨b, o + j, none⟩ = some (.int .i64 (l[j] : Int))) := hat
  clear hat hl
  go_enter Try.func65, Try.ntmps65
  go_wp2_with fail
  go_loop [8] (fun i => ∃ j : Nat, j ≤ l.length ∧ i = .int .i64 j ∧ Hid (∀ k ∈ l.take j, (k == x) = false)) (fun i => l.length - (intOf i).toNat)
  case atStart => exact ⟨0, Nat.zero_le _, rfl, fun k hk => by simp at hk⟩
  case round =>
    obtain ⟨j, hj, rfl, NO⟩ := hrel
    by_cases hlt : j < l.length
    · obtain ⟨e1, o1, rfl, y1⟩ := T.out j hlt
      cases hh : (l[j] == x) with
      | true =>
        have E : Hid (idxI (fun k => k == x) l = (j : Int)) := idxI_some hlt hh NO.out
        have hx : l[j] = x := by simpa using hh
        rw [hx] at y1
        clear hh hx
        go_wp2_with fail
        go_ret
        exact ⟨by rw [E.out]; rfl, rfl⟩
      | false =>
        have N2 : Hid (∀ k ∈ l.take (j + 1), (k == x) = false) := by
          intro k hk
          rw [List.take_succ_eq_append_getElem hlt, List.mem_append, List.mem_singleton] at hk
          rcases hk with hk | rfl
          · exact NO.out k hk
          · exact hh
        have hx : ((x : Int) == (l[j] : Int)) = false := by
          have : l[j] ≠ x := by simpa using hh
          simp; omega
        clear hh
        generalize l[j] = y at *
        go_wp2_with fail
        exact ⟨⟨j + 1, by omega, by go_num, N2⟩, by simp [intOf]; omega⟩
    · obtain rfl : j = l.length := by omega
      have E : Hid (idxI (fun k => k == x) l = -1) := idxI_none (fun k hk => NO.out k (by rw [List.take_length]; exact hk))
      go_wp2_with fail
      go_ret
      exact ⟨by rw [E.out]; rfl, rfl⟩

end Go.Proofs.Ytdfkhjckpdokeab

/-
  THE WALKS of flat.Kids and flat.Up.
-/
namespace Go.Proofs.Ytdfkhjckpdokeab
open Go.RowKit

set_option maxHeartbeats 1600000 in
theorem fkids_any {w : World} {b o c : Nat} {rs : List Raw} {d : Tn.Dc} (hd : DocAt w b o c rs d) (hg : Okd d) (n : Int) :
    Calls Try.prog 19 #[.slice (some ⟨b, o, none⟩) rs.length c, .int .i64 n] w fun e w' => ∃ v, e = .returned v ∧ OwnI w' w.heap.size v (kidsD d n) ∧ Below w.heap.size w w' := by
  have H : Hid (DocAt w b o c rs d) := hd
  clear hd
  cases his : Tn.isN d n false with
  | false =>
    have E : Hid (kidsD d n = []) := by show _ = _; unfold kidsD; rw [if_neg (by simp [his])]
    go_enter Try.func19, Try.ntmps19
    go_wp2_with (go_at_call 10; refine (dis_any H.out _ _).mono ?_; rintro e w' ⟨rfl, hww⟩; subst hww; rw [his])
    go_ret
    exact ⟨_, rfl, by rw [E.out]; exact OwnI.nil _ _, Below.refl _ _⟩
  | true =>
    obtain ⟨k, rfl, hk, hlv⟩ := isN_nat his
    have hk' : k < rs.length := by rw [H.out.len]; exact hk
    have h5 := H.out.row.c5 k hk'
    have h6 := H.out.row.c6 k hk'
    have h7 := H.out.row.c7 k hk'
    have E : Hid (kidsD d (k : Int) = if rs[k].hasS then (Tn.nd d k).shadow else if (givenD d (k : Int)).isEmpty then (Tn.nd d k).kids else givenD d (k : Int)) := by
      show _ = _
      unfold kidsD
      rw [if_pos his, Int.toNat_natCast, (H.out.nds k hk' hk).hasS, ← nd_at hk]
    have hKl : (Tn.nd d k).kids.length ≤ 1000 := hg.small k false
    have hSl : (Tn.nd d k).shadow.length ≤ 1000 := hg.small k true
    have hki : Hid (IntsAt w (.slice rs[k].k.p rs[k].k.n rs[k].k.c) (Tn.nd d k).kids) := by rw [nd_at hk]; exact (H.out.nds k hk' hk).kids
    have hsi : Hid (IntsAt w (.slice rs[k].s.p rs[k].s.n rs[k].s.c) (Tn.nd d k).shadow) := by rw [nd_at hk]; exact (H.out.nds k hk' hk).shadow
    have hG := fgiven_any H.out hg (k : Int)
    generalize kidsD d (k : Int) = res at *
    generalize givenD d (k : Int) = gv at *
    generalize (Tn.nd d k).kids = kd at *
    generalize (Tn.nd d k).shadow = sd at *
    generalize rs[k].hasS = hs at *
    generalize rs[k].k = ks at *
    generalize rs[k].s = ss at *
    obtain ⟨kp, kn, kc⟩ := ks
    obtain ⟨sp, sn, sc⟩ := ss
    simp only at h5 h7 hki hsi
    clear hlv
    cases hs with
    | true =>
      have E2 : Hid (res = sd) := by show _ = _; rw [E.out]; rfl
      clear E
      go_enter Try.func19, Try.ntmps19
      go_wp2_with (first
        | (go_at_call 10; refine (dis_any H.out _ _).mono ?_; rintro e w' ⟨rfl, hww⟩; subst hww; rw [his])
        | (go_at_call 46; refine (fcopy_any hsi.out hSl).mono ?_; rintro e w9 ⟨v9, rfl, ho9, hb9⟩))
      go_ret
      exact ⟨_, rfl, by rw [E2.out]; exact ho9, hb9⟩
    | false =>
      cases hgv : gv.isEmpty with
      | true =>
        have E2 : Hid (res = kd) := by show _ = _; rw [E.out, hgv]; rfl
        have hgl : gv.length = 0 := by simpa using hgv
        clear E hgv
        go_enter Try.func19, Try.ntmps19
        go_wp2_with (first
          | (go_at_call 10; refine (dis_any H.out _ _).mono ?_; rintro e w' ⟨rfl, hww⟩; subst hww; rw [his])
          | (go_at_call 17; refine hG.mono ?_; rintro e w8 ⟨v8, rfl, ho8, hb8⟩; have o8 := ho8; obtain ⟨p8, c8, rfl⟩ := o8.shape; have h58 := keeps_below hb8 (Nat.le_refl _) _ _ h5)
          | (go_at_call 46; refine (fcopy_any (hki.out.keeps (keeps_below hb8 (Nat.le_refl _))) hKl).mono ?_; rintro e w9 ⟨v9, rfl, ho9, hb9⟩))
        go_ret
        exact ⟨_, rfl, by rw [E2.out]; exact ho9.mono hb8.size, hb8.trans (hb9.mono hb8.size)⟩
      | false =>
        have E2 : Hid (res = gv) := by show _ = _; rw [E.out, hgv]; rfl
        have hgl : (0 : Int) < (gv.length : Int) := by
          cases gv with
          | nil => simp at hgv
          | cons a t => simp
        clear E hgv
        go_enter Try.func19, Try.ntmps19
        go_wp2_with (first
          | (go_at_call 10; refine (dis_any H.out _ _).mono ?_; rintro e w' ⟨rfl, hww⟩; subst hww; rw [his])
          | (go_at_call 17; refine hG.mono ?_; rintro e w8 ⟨v8, rfl, ho8, hb8⟩; have o8 := ho8; obtain ⟨p8, c8, rfl⟩ := o8.shape; have h58 := keeps_below hb8 (Nat.le_refl _) _ _ h5))
        go_ret
        exact ⟨_, rfl, by rw [E2.out]; exact ho8, hb8⟩
end Go.Proofs.Ytdfkhjckpdokeab

/-
  THE WALKS of slices.Contains at ints, and of flat.Up.
-/
namespace Go.Proofs.Ytdfkhjckpdokeab
open Go.RowKit

set_option maxHeartbeats 800000 in
theorem contains_any {w : World} {vl : Value} {l : List Nat} (hl : IntsAt w vl l) (x : Nat) :
    Calls Try.prog 49 #[vl, .int .i64 (x : Int)] w fun e w' => e = .returned (.bool (l.contains x)) ∧ w' = w := by
  have hI := index_any hl x
  clear hl
  rcases idx_cases2 (fun k => k == x) l with ⟨e1, e2⟩ | ⟨j, hj, e1, e2, _⟩
  · have E : Hid (l.contains x = false) := by
      show _ = _
      cases h : l.contains x with
      | false => rfl
      | true =>
        have := e2 x (by simpa using h)
        simp at this
    rw [e1] at hI
    clear e1 e2
    go_enter Try.func49, Try.ntmps49
    go_wp2_with (go_at_call 65; refine hI.mono ?_; rintro e w9 ⟨rfl, hw9⟩; subst hw9)
    go_ret
    exact ⟨by rw [E.out]; rfl, rfl⟩
  · have E : Hid (l.contains x = true) := by
      show _ = _
      have : l[j] = x := by simpa using e2
      rw [← this]
      simp
    rw [e1] at hI
    clear e1 e2
    go_enter Try.func49, Try.ntmps49
    go_wp2_with (go_at_call 65; refine hI.mono ?_; rintro e w9 ⟨rfl, hw9⟩; subst hw9)
    go_ret
    exact ⟨by rw [E.out]; simp, rfl⟩

set_option maxHeartbeats 1600000 in
theorem fup_any {w : World} {b o c : Nat} {rs : List Raw} {d : Tn.Dc} (hd : DocAt w b o c rs d) (hg : Okd d) (n : Int) :
    Calls Try.prog 21 #[.slice (some ⟨b, o, none⟩) rs.length c, .int .i64 n] w fun e w' => e = .returned (.int .i64 (upF d n)) ∧ Below w.heap.size w w' := by
  have H : Hid (DocAt w b o c rs d) := hd
  clear hd
  cases his : Tn.isN d n false with
  | false =>
    have E : Hid (upF d n = -1) := by show _ = _; unfold upF; rw [if_neg (by simp [his])]
    go_enter Try.func21, Try.ntmps21
    go_wp2_with (go_at_call 10; refine (dis_any H.out _ _).mono ?_; rintro e w' ⟨rfl, hww⟩; subst hww; rw [his])
    go_ret
    exact ⟨by rw [E.out]; rfl, Below.refl _ _⟩
  | true =>
    obtain ⟨k, rfl, hk, hlv⟩ := isN_nat his
    have hk' : k < rs.length := by rw [H.out.len]; exact hk
    have h4 := H.out.row.c4 k hk'
    have E : Hid (upF d (k : Int) = if (kidsD d rs[k].up).contains k then rs[k].up else if (kidsD d (slotD d (k : Int))).contains k then slotD d (k : Int) else -1) := by
      show _ = _
      unfold upF
      rw [if_pos his, Int.toNat_natCast, (H.out.nds k hk' hk).up, ← nd_at hk]
    have hL : ∀ W, Keeps w W → Calls Try.prog 14 #[.slice (some ⟨b, o, none⟩) rs.length c, .int .i64 (k : Int)] W fun e w' => e = .returned (.int .i64 (slotD d (k : Int))) ∧ Below W.heap.size W w' := fun W h => fslot_any (H.out.keeps h) hg k
    have HK : Hid (∀ W x, Keeps w W → Calls Try.prog 19 #[.slice (some ⟨b, o, none⟩) rs.length c, .int .i64 x] W fun e w' => ∃ v, e = .returned v ∧ OwnI w' W.heap.size v (kidsD d x) ∧ Below W.heap.size W w') := fun W x h => fkids_any (H.out.keeps h) hg x
    generalize upF d (k : Int) = res at *
    generalize slotD d (k : Int) = sl at *
    generalize rs[k].up = up at *
    clear hlv
    go_enter Try.func21, Try.ntmps21
    go_upto_region 3 with (go_at_call 10; refine (dis_any H.out _ _).mono ?_; rintro e w' ⟨rfl, hww⟩; subst hww; rw [his])
    have SS : ∀ w'', Keeps w' w'' → (fun w'' => w''.cell? ⟨b, o + k * 9 + 4, none⟩ = some (.int .i64 up)) w'' := fun w'' hk => hk _ _ h4
    go_region_held3 (fun w'' => w''.cell? ⟨b, o + k * 9 + 4, none⟩ = some (.int .i64 up))
      ((apply SS; first | exact Keeps.refl _ | assumption | exact keeps_drew (Keeps.refl _) | (apply keeps_alloc'; assumption)))
      (first
        | (go_at_call 14; refine (hL _ (keeps_drew (Keeps.refl _))).mono ?_; rintro e wa ⟨rfl, hba⟩; have Ja : Keeps w' wa := (keeps_drew (Keeps.refl w')).trans (keeps_below hba (Nat.le_refl _))))
    all_goals
      have g0 : (wa.alloc (.cells #[.int .i64 up, .int .i64 sl] 3)).cell? ⟨wa.heap.size, 0, none⟩ = some (.int .i64 up) := by rw [World.cell?_alloc_new]; rfl
      have g1 : (wa.alloc (.cells #[.int .i64 up, .int .i64 sl] 3)).cell? ⟨wa.heap.size, 1, none⟩ = some (.int .i64 sl) := by rw [World.cell?_alloc_new]; rfl
      have BA : Below w'.heap.size w' wa := (Below.refl _ w').drew.trans hba
      have B0 : Below w'.heap.size w' (wa.alloc (.cells #[.int .i64 up, .int .i64 sl] 3)) := BA.alloc BA.size _
      generalize hG : wa.heap.size = G at *
      generalize wa.alloc (.cells #[.int .i64 up, .int .i64 sl] 3) = w3 at *
      clear Ja hL SS hba h4 BA hG
      have J3 := keeps_below B0 (Nat.le_refl _)
      go_wp2_with fail
      go_loopw [6, 21] (fun _ iv wr => ∃ j : Nat, iv = .int .i64 j ∧ Below w3.heap.size w3 wr ∧ (j = 0 ∨ (j = 1 ∧ Hid ((kidsD d up).contains k = false)) ∨ (j = 2 ∧ Hid ((kidsD d up).contains k = false) ∧ Hid ((kidsD d sl).contains k = false)))) (fun _ iv _ => 2 - (intOf iv).toNat)
      case atStart => exact ⟨0, rfl, Below.refl _ _, Or.inl rfl⟩
      case round =>
        obtain ⟨j, rfl, hnx, hj⟩ := hrel
        have JR := keeps_below hnx (Nat.le_refl _)
        have r0 := JR _ _ g0
        have r1 := JR _ _ g1
        have BR : Below w'.heap.size w' wr := B0.trans (hnx.mono B0.size)
        rcases hj with rfl | ⟨rfl, F1⟩ | ⟨rfl, F1, F2⟩
        · have hKK := HK.out wr up (J3.trans JR)
          cases hc : (kidsD d up).contains k with
          | true =>
            have E2 : Hid (res = up) := by show _ = _; rw [E.out, hc]; rfl
            go_wp2_with (first
              | (go_at_call 19; refine hKK.mono ?_; rintro e w8 ⟨v8, rfl, ho8, hb8⟩)
              | (go_at_call 49; refine (contains_any (ints_of_owns ho8) k).mono ?_; rintro e w9 ⟨rfl, hw9⟩; subst hw9; rw [hc]))
            go_ret
            exact ⟨by rw [E2.out]; rfl, BR.trans (hb8.mono BR.size)⟩
          | false =>
            go_wp2_with (first
              | (go_at_call 19; refine hKK.mono ?_; rintro e w8 ⟨v8, rfl, ho8, hb8⟩)
              | (go_at_call 49; refine (contains_any (ints_of_owns ho8) k).mono ?_; rintro e w9 ⟨rfl, hw9⟩; subst hw9; rw [hc]))
            go_roundw
            case rel => exact ⟨1, rfl, hnx.trans (hb8.mono hnx.size), Or.inr (Or.inl ⟨rfl, by first | exact hc | exact True.intro⟩)⟩
            case measure => simp [intOf]
        · have hKK := HK.out wr sl (J3.trans JR)
          cases hc : (kidsD d sl).contains k with
          | true =>
            have E2 : Hid (res = sl) := by show _ = _; rw [E.out, F1.out, hc]; rfl
            go_wp2_with (first
              | (go_at_call 19; refine hKK.mono ?_; rintro e w8 ⟨v8, rfl, ho8, hb8⟩)
              | (go_at_call 49; refine (contains_any (ints_of_owns ho8) k).mono ?_; rintro e w9 ⟨rfl, hw9⟩; subst hw9; rw [hc]))
            go_ret
            exact ⟨by rw [E2.out]; rfl, BR.trans (hb8.mono BR.size)⟩
          | false =>
            go_wp2_with (first
              | (go_at_call 19; refine hKK.mono ?_; rintro e w8 ⟨v8, rfl, ho8, hb8⟩)
              | (go_at_call 49; refine (contains_any (ints_of_owns ho8) k).mono ?_; rintro e w9 ⟨rfl, hw9⟩; subst hw9; rw [hc]))
            go_roundw
            case rel => exact ⟨2, rfl, hnx.trans (hb8.mono hnx.size), Or.inr (Or.inr ⟨rfl, F1, by first | exact hc | exact True.intro⟩)⟩
            case measure => simp [intOf]
        · have E2 : Hid (res = -1) := by show _ = _; rw [E.out, F1.out, F2.out]; rfl
          go_wp2_with fail
          go_ret
          exact ⟨by rw [E2.out]; rfl, BR⟩
end Go.Proofs.Ytdfkhjckpdokeab

/-
  THE WALK of the function in flat.Shown that calls itself.
-/
namespace Go.Proofs.Ytdfkhjckpdokeab
open Go.RowKit

/-- append, and where what comes of it lies -/
theorem append_int2 {w0 wr : World} {ops : Array Oper} {rest : List Oper} {o : Oper} {a : Act} {Q : Exit → Act → World → Prop} (hgd : o.guard = none)
    (s x : Operand) (ho : o.op = Op.call { callee := Callee.builtin Builtin.append, args := #[s, x], argTypes := #[38, 38] }) {B : Nat} {v : Value} {l : List Nat} (k : Nat)
    (hs : a.eval s = v) (hx : a.eval x = .slice (some ⟨wr.heap.size, 0, none⟩) 1 1) (hown : OwnI wr B v l) (hnx : Below B w0 wr) (hB : B ≤ wr.heap.size) (hsz : l.length ≤ 1000000)
    (h : ∀ v' w1, OwnI w1 B v' (l ++ [k]) → Below B w0 w1 → wr.grownBy w1 v.ownBlock → (v'.ownBlock = v.ownBlock ∨ ∃ g, wr.heap.size ≤ g ∧ v'.ownBlock = some g) → wpList Try.prog ops Q rest (a.put o.dst v') w1) :
    wpList Try.prog ops Q (o :: rest) a (wr.alloc (.cells #[.int .i64 (k : Int)] 3)) := by
  obtain ⟨i0, hi, hz0, hz1, hz2⟩ := info_parts infoI
  unfold OwnI at hown h
  have hown' := hown.alloc (.cells #[.int .i64 (k : Int)] 3)
  have hnews : ∀ (j : Nat) (u : Value), ([iv k] : List Value)[j]? = some u → (wr.alloc (.cells #[.int .i64 (k : Int)] 3)).cell? ((⟨wr.heap.size, 0, none⟩ : Addr).add j) = some u := cell_one_new _ _ _
  have h1 : ∀ u ∈ ([iv k] : List Value), u.oneCell' = true := by intro u hu; simp at hu; subst hu; rfl
  refine wpList_plain hgd fun K hK => ?_
  obtain ⟨v', w', hr, h2, h3, _⟩ := run_append_own (P := Try.prog) (wr.alloc (.cells #[.int .i64 (k : Int)] 3)) B 38 o.type 3 i0 (.int .i64 0) 1 8 Try.underlying38 hi hz0 hz1 hz2 rfl (by decide) v _ _ hown' ⟨_, 0, none⟩ 1 1 [iv k] rfl hnews h1 (by unfold maxLen; omega) (by omega) (by simp; omega)
  have hn := (hnx.alloc hB (.cells #[.int .i64 (k : Int)] 3)).grown h3 (by simp; omega) (fun j hj => (hown.lt j hj).1)
  have hg2 : wr.grownBy w' v.ownBlock := by
    have h4 := World.grownBy_alloc wr (.cells #[.int .i64 (k : Int)] 3) v.ownBlock
    exact ⟨h3.os.trans h4.os, h3.tape.trans h4.tape, h3.output.trans h4.output, Nat.le_trans h4.size h3.size, fun q hq hr' => (h3.block q (Nat.lt_of_lt_of_le hq h4.size) hr').trans (h4.block q hq hr')⟩
  have hblk : v'.ownBlock = v.ownBlock ∨ ∃ g, wr.heap.size ≤ g ∧ v'.ownBlock = some g := by
    have hzs : (i0.size : Nat) = 1 := hz1
    rcases hown'.2 with ⟨rfl, hn0⟩ | ⟨g, cap, cur, rfl, hbg, hg, hnc, hcm, hcs, htake⟩
    · have hr2 := run_append_nil (P := Try.prog) (wr.alloc (.cells #[.int .i64 (k : Int)] 3)) 38 o.type 3 i0 (.int .i64 0) Try.underlying38 hi hz0 ⟨wr.heap.size, 0, none⟩ 1 1 [iv k] (by rw [hzs]; rfl) hnews (by decide) (by decide) (by rw [hz2]; decide)
      rw [hr2] at hr
      injection hr with e1 e2
      right
      refine ⟨wr.heap.size + 1, by omega, ?_⟩
      rw [← e1]
      simp [Value.ownBlock]
    · by_cases hroom : l.length + 1 ≤ cap
      · have hr2 := run_append_room (P := Try.prog) (wr.alloc (.cells #[.int .i64 (k : Int)] 3)) 38 o.type 3 i0 Try.underlying38 hi g l.length cap cur hg ⟨wr.heap.size, 0, none⟩ 1 1 [iv k] (by rw [hzs]; rfl) hnews h1 hroom (by rw [hzs, hcs]; simp; omega)
        rw [hr2] at hr
        injection hr with e1 e2
        left
        rw [← e1]
        rfl
      · have hr2 := run_append_grow (P := Try.prog) (wr.alloc (.cells #[.int .i64 (k : Int)] 3)) 38 o.type 3 i0 (.int .i64 0) Try.underlying38 hi hz0 ⟨g, 0, none⟩ l.length cap _ (by rw [hzs]; exact hown'.1) (World.ownsRow.cells hown' (g := g) rfl) ⟨wr.heap.size, 0, none⟩ 1 1 [iv k] (by rw [hzs]; rfl) hnews (by omega) (by omega) (growslice_fits (by omega) (by rw [hz2]; omega))
        rw [hr2] at hr
        injection hr with e1 e2
        right
        refine ⟨wr.heap.size + 1, by omega, ?_⟩
        rw [← e1]
        simp [Value.ownBlock]
  unfold Oper.wp execOp
  simp only [ho, resolve, invoke, builtin, Sem.run_bind, Sem.run_pure, Result.andThen_ok, List.map_toArray, List.map_cons, List.map_nil, hs, hx, hr]
  exact hK _ _ (h v' w' (by simpa using h2) hn hg2 hblk)
end Go.Proofs.Ytdfkhjckpdokeab

/-
  THE WALK of the function in flat.Shown that calls itself.
-/
namespace Go.Proofs.Ytdfkhjckpdokeab
open Go.RowKit

/-- all blocks that there were are as they were, but for A and r; the row lies in r still, or in a block that was not there -/
structure Mv (A : Nat) (r r' : Option Nat) (w w' : World) : Prop where
  os : w'.os = w.os
  tape : w'.tape = w.tape
  output : w'.output = w.output
  size : w.heap.size ≤ w'.heap.size
  block : ∀ k, k < w.heap.size → k ≠ A → some k ≠ r → w'.heap[k]? = w.heap[k]?
  own : r' = r ∨ ∃ g, w.heap.size ≤ g ∧ r' = some g

theorem Mv.refl (A : Nat) (r : Option Nat) (w : World) : Mv A r r w w := ⟨rfl, rfl, rfl, Nat.le_refl _, fun _ _ _ _ => rfl, Or.inl rfl⟩
theorem Mv.trans {A : Nat} {r r' r'' : Option Nat} {a b c : World} (h : Mv A r r' a b) (k : Mv A r' r'' b c) : Mv A r r'' a c := by
  refine ⟨k.os.trans h.os, k.tape.trans h.tape, k.output.trans h.output, Nat.le_trans h.size k.size, fun i hi hA hr => ?_, ?_⟩
  · rw [k.block i (Nat.lt_of_lt_of_le hi h.size) hA ?_, h.block i hi hA hr]
    rcases h.own with e | ⟨g, hg, e⟩
    · rw [e]; exact hr
    · rw [e]
      intro x
      cases x
      omega
  · rcases k.own with e | ⟨g, hg, e⟩
    · rw [e]
      exact h.own
    · exact Or.inr ⟨g, Nat.le_trans h.size hg, e⟩
theorem Mv.below {A : Nat} {r r' : Option Nat} {a b c : World} (h : Mv A r r' a b) (k : Below b.heap.size b c) : Mv A r r' a c :=
  ⟨k.os.trans h.os, k.tape.trans h.tape, k.output.trans h.output, Nat.le_trans h.size k.size, fun i hi hA hr => (k.block i (Nat.lt_of_lt_of_le hi h.size)).trans (h.block i hi hA hr), h.own⟩
theorem Mv.drew {A : Nat} {r r' : Option Nat} {a b : World} (h : Mv A r r' a b) : Mv A r r' a b.drew := ⟨h.os, h.tape, h.output, h.size, h.block, h.own⟩
theorem Mv.set {A : Nat} {r r' : Option Nat} {a b : World} (h : Mv A r r' a b) (u : Value) : Mv A r r' a (b.setCell ⟨A, 0, none⟩ u) := by
  have hb := (Below.refl 0 b).setCell (p := ⟨A, 0, none⟩) (Nat.zero_le _) u
  exact ⟨hb.os.trans h.os, hb.tape.trans h.tape, hb.output.trans h.output, Nat.le_trans h.size hb.size, fun i hi hn hr => by rw [heap_setCell_other _ _ _ _ hn]; exact h.block i hi hn hr, h.own⟩
theorem Mv.cell {A : Nat} {r r' : Option Nat} {w w' : World} (h : Mv A r r' w w') {p : Addr} {v : Value} (hv : w.cell? p = some v) (hp : p.block ≠ A) (hr : some p.block ≠ r) : w'.cell? p = some v := by
  have hl := lt_of_cell hv
  rw [← hv]
  exact World.cell?_of_block (h.block p.block hl hp hr)
theorem Mv.but {A : Nat} {r r' : Option Nat} {w w' : World} (h : Mv A r r' w w') {B : Nat} (hB : B ≤ w.heap.size) (hr : ∀ k, r = some k → B ≤ k) : But B A w w' :=
  ⟨h.os, h.tape, h.output, h.size, fun i hi hA => h.block i (by omega) hA (fun e => by have := hr i e.symm; omega)⟩

/-- the three variables of the function in Shown: what is shown so far, the document, itself -/
structure VarS (w : World) (A D K B : Nat) (dv : Value) (acc : List Nat) (va : Value) : Prop where
  d : w.cell? ⟨D, 0, none⟩ = some dv
  k : w.cell? ⟨K, 0, none⟩ = some (.func (.func 50) #[] #[.pointer (some ⟨A, 0, none⟩), .pointer (some ⟨D, 0, none⟩), .pointer (some ⟨K, 0, none⟩)])
  a : w.cell? ⟨A, 0, none⟩ = some va
  f : w.frozen? ⟨A, 0, none⟩ = false
  own : OwnI w B va acc

theorem VarS.below {w w' : World} {A D K B : Nat} {dv va : Value} {acc : List Nat} (h : VarS w A D K B dv acc va) (hb : Below w.heap.size w w') : VarS w' A D K B dv acc va :=
  ⟨keeps_below hb (Nat.le_refl _) _ _ h.d, keeps_below hb (Nat.le_refl _) _ _ h.k, keeps_below hb (Nat.le_refl _) _ _ h.a, by rw [hb.frozen (p := ⟨A, 0, none⟩) (lt_of_cell h.a)]; exact h.f, h.own.below hb (Nat.le_refl _)⟩

/-- what is shown below n ends within f calls -/
def EndF : Nat → Tn.Dc → Nat → Prop
  | 0, _, _ => False
  | f + 1, d, n => ∀ k ∈ kidsD d (n : Int), EndF f d k

set_option maxHeartbeats 1600000 in
theorem shown1_any {w0 : World} {b o c : Nat} {rs : List Raw} {d : Tn.Dc} {A D K B : Nat} (hB0 : w0.heap.size = B) (hd : DocAt w0 b o c rs d) (hoff : DocOff A b rs) (hDB : D < B) (hAB : A < B) (hKB : K < B) (hDA : D ≠ A) (hKA : K ≠ A) (hg : Okd d) (f : Nat) :
    ∀ (n : Nat) (acc : List Nat) (va : Value) (w : World), EndF f d n → But B A w0 w → VarS w A D K B (.slice (some ⟨b, o, none⟩) rs.length c) acc va → (acc ++ shownF f d n).length ≤ 10000 →
      Calls Try.prog 50 #[.int .i64 (n : Int), .pointer (some ⟨A, 0, none⟩), .pointer (some ⟨D, 0, none⟩), .pointer (some ⟨K, 0, none⟩)] w fun e w' =>
        e = .returned (.tuple #[]) ∧ ∃ va', VarS w' A D K B (.slice (some ⟨b, o, none⟩) rs.length c) (acc ++ shownF f d n) va' ∧ Mv A va.ownBlock va'.ownBlock w w' := by
  have H : Hid (DocAt w0 b o c rs d) := hd
  have HB : Hid (w0.heap.size = B) := hB0
  clear hd hB0
  induction f with
  | zero => intro n acc va w hE; exact absurd hE (by simp [EndF])
  | succ f ih =>
    intro n acc va w hE hbut hv hsz
    have Z : Hid ((acc ++ shownF (f + 1) d n).length ≤ 10000) := hsz
    have hE' : ∀ k ∈ kidsD d (n : Int), EndF f d k := hE
    have EE : Hid (∀ k ∈ kidsD d (n : Int), EndF f d k) := hE'
    have SF : Hid (shownF (f + 1) d n = n :: (kidsD d (n : Int)).flatMap (shownF f d)) := rfl
    have hBw : B ≤ w.heap.size := by have h1 := hbut.size; rw [HB.out] at h1; exact h1
    have hzs : acc.length ≤ 1000000 := by have h1 := Z.out; rw [List.length_append] at h1; omega
    clear hsz hE hE'
    obtain ⟨vd, vk, vaa, vf, vown⟩ := hv
    have hlow : ∀ k, va.ownBlock = some k → B ≤ k := fun k hk => (World.ownsRow.lt vown k hk).1
    go_enter Try.func50, Try.ntmps50
    go_upto_region 1 with (at_builtin; refine append_int2 (w0 := w) rfl _ _ rfl n rfl rfl vown (Below.refl B w) hBw hzs ?_; intro v1 w1 o1' n1' g1' b1'; obtain ⟨pv, cv, rfl⟩ := o1'.shape; have a1 : w1.cell? ⟨A, 0, none⟩ = some va := (n1'.cell (p := ⟨A, 0, none⟩) hAB).trans vaa; have f1 : w1.frozen? ⟨A, 0, none⟩ = false := (n1'.frozen (p := ⟨A, 0, none⟩) hAB).trans vf)
    simp only [List.length_append, List.length_singleton] at o1' b1'
    generalize hv1 : Value.slice pv (acc.length + 1) cv = v1 at *
    have d2 : (w1.setCell ⟨A, 0, none⟩ v1).cell? ⟨D, 0, none⟩ = some (.slice (some ⟨b, o, none⟩) rs.length c) := by
      rw [World.cell?_setCell_other _ _ _ _ (by intro e; cases e; exact hDA rfl), n1'.cell (p := ⟨D, 0, none⟩) hDB]
      exact vd
    have k2 : (w1.setCell ⟨A, 0, none⟩ v1).cell? ⟨K, 0, none⟩ = some (.func (.func 50) #[] #[.pointer (some ⟨A, 0, none⟩), .pointer (some ⟨D, 0, none⟩), .pointer (some ⟨K, 0, none⟩)]) := by
      rw [World.cell?_setCell_other _ _ _ _ (by intro e; cases e; exact hKA rfl), n1'.cell (p := ⟨K, 0, none⟩) hKB]
      exact vk
    have V2 : VarS (w1.setCell ⟨A, 0, none⟩ v1) A D K B (.slice (some ⟨b, o, none⟩) rs.length c) (acc ++ [n]) v1 := ⟨d2, k2, World.cell?_setCell_same _ _ _ a1, by simpa using f1, o1'.set hAB _⟩
    have M2 : Mv A va.ownBlock v1.ownBlock w (w1.setCell ⟨A, 0, none⟩ v1) := (⟨g1'.os, g1'.tape, g1'.output, g1'.size, fun i hi _ hr => g1'.block i hi (fun e => hr e), b1'⟩ : Mv A va.ownBlock v1.ownBlock w w1).set _
    have bt2 : But B A w0 (w1.setCell ⟨A, 0, none⟩ v1) := hbut.trans (M2.but hBw hlow)
    generalize hW2 : w1.setCell ⟨A, 0, none⟩ v1 = W2 at *
    clear hW2 hv1 a1 f1 o1' n1' g1' b1' vd vk vaa vf vown hbut hBw
    have hB0 : w0.heap.size ≤ B := by rw [HB.out]; exact Nat.le_refl _
    have D2 : Hid (DocAt W2 b o c rs d) := bt2.doc hB0 H.out hoff
    have hKC := fkids_any D2.out hg (n : Int)
    have hkz : (kidsD d (n : Int)).length ≤ 100000 := by
      have h1 := Z.out
      rw [SF.out] at h1
      have h2 : (kidsD d (n : Int)).length ≤ ((kidsD d (n : Int)).flatMap (shownF f d)).length := by
        have : ∀ l : List Nat, (∀ k ∈ l, EndF f d k) → l.length ≤ (l.flatMap (shownF f d)).length := by
          intro l
          induction l with
          | nil => simp
          | cons a l ihl =>
            intro hl
            have ha := hl a (by simp)
            have := ihl (fun k hk => hl k (by simp [hk]))
            cases f with
            | zero => exact absurd ha (by simp [EndF])
            | succ f => simp [shownF] at this ⊢; omega
        exact this _ EE.out
      simp at h1
      simp at h2
      omega
    generalize kidsD d (n : Int) = l at *
    have hV1 : ∀ g, v1.ownBlock = some g → g < W2.heap.size := fun g hg => (World.ownsRow.lt V2.own g hg).2
    go_upto_region 2 with (go_at_call 19; refine hKC.mono ?_; rintro e w3 ⟨vk, rfl, hok, hb3⟩; have okk := hok; obtain ⟨pk, ck, rfl⟩ := okk.shape)
    have T : Hid (∀ j (hj : j < l.length), ∃ b1 o1, pk = some ⟨b1, o1, none⟩ ∧ W2.heap.size ≤ b1 ∧ w3.cell? ⟨b1, o1 + j, none⟩ = some (.int .i64 (l[j] : Int))) := by
      intro j hj
      obtain ⟨_, _, he, _, _, _, hat⟩ := (ints_of_owns hok).at
      cases he
      obtain ⟨b1, o1, e1, e2⟩ := hat j hj
      exact ⟨b1, o1, e1, OwnI.off hok _ e1, e2⟩
    have hcl := (ints_of_owns hok).at
    obtain ⟨_, _, he, hlc, hcm, _, _⟩ := hcl
    cases he
    have bt3 : But B A w0 w3 := bt2.trans (But.of hb3 (by have h1 := bt2.size; rw [HB.out] at h1; exact h1))
    have hB3 : B ≤ w3.heap.size := by have h1 := bt3.size; rw [HB.out] at h1; exact h1
    have hB2 : B ≤ W2.heap.size := by have h1 := bt2.size; rw [HB.out] at h1; exact h1
    have V3 := V2.below hb3
    have M3 := M2.below hb3
    have hlow1 : ∀ k, v1.ownBlock = some k → B ≤ k := fun k hk => (World.ownsRow.lt V2.own k hk).1
    clear hok okk hKC d2 k2 V2 M2 hb3 D2 bt2 hlow hzs
    go_loopw [6, 15] (fun _ i wr => ∃ (j : Nat) (vr : Value), j ≤ l.length ∧ i = .int .i64 j ∧ Mv A v1.ownBlock vr.ownBlock w3 wr ∧ VarS wr A D K B (.slice (some ⟨b, o, none⟩) rs.length c) ((acc ++ [n]) ++ (l.take j).flatMap (shownF f d)) vr) (fun _ i _ => l.length - (intOf i).toNat)
    case atStart => exact ⟨0, v1, Nat.zero_le _, rfl, Mv.refl _ _ _, by simpa using V3⟩
    case round =>
      obtain ⟨j, vr, hj, rfl, MR, VR⟩ := hrel
      by_cases hlt : j < l.length
      · obtain ⟨b1, o1, rfl, hb1, hc⟩ := T.out j hlt
        have hcr := MR.cell hc (by show b1 ≠ A; omega) (by intro e; have := hV1 b1 e.symm; omega)
        have F : Hid (((acc ++ [n]) ++ (l.take (j + 1)).flatMap (shownF f d)) = ((acc ++ [n]) ++ (l.take j).flatMap (shownF f d)) ++ shownF f d l[j]) := by
          show _ = _
          rw [List.take_succ_eq_append_getElem hlt, List.flatMap_append]
          simp
        have hz : ((((acc ++ [n]) ++ (l.take j).flatMap (shownF f d)) ++ shownF f d l[j]).length ≤ 10000) := by
          rw [← F.out]
          have h1 := Z.out
          have h2 := take_flat_len l (shownF f d) (j + 1)
          rw [SF.out] at h1
          simp only [List.length_append, List.length_cons, List.length_nil] at h1 ⊢
          omega
        have btr : But B A w0 wr := bt3.trans (MR.but hB3 hlow1)
        have hC := ih l[j] _ vr wr (EE.out _ (List.getElem_mem hlt)) btr VR hz
        have hk := VR.k
        clear hc hz VR
        generalize l[j] = x at *
        go_wp2_with (go_at_call 50; refine hC.mono ?_; rintro e w5 ⟨rfl, v5, V5, M5⟩)
        go_roundw
        case rel => exact ⟨j + 1, v5, by omega, by go_num, MR.trans M5, by rw [F.out]; exact V5⟩
        case measure => simp [intOf]; omega
      · obtain rfl : j = l.length := by omega
        rw [List.take_length] at VR
        go_wp2_with fail
        go_end0
        refine ⟨rfl, vr, ?_, M3.trans MR⟩
        have e : acc ++ shownF (f + 1) d n = (acc ++ [n]) ++ l.flatMap (shownF f d) := by rw [SF.out]; simp
        rw [e]
        exact VR
end Go.Proofs.Ytdfkhjckpdokeab

/-
  THE WALK of flat.Shown.
-/
namespace Go.Proofs.Ytdfkhjckpdokeab
open Go.RowKit

set_option maxHeartbeats 1600000 in
theorem fshown_any {w : World} {b o c : Nat} {rs : List Raw} {d : Tn.Dc} (hd : DocAt w b o c rs d) (hg : Okd d) (hE : EndF Tn.fuel d 0) (hfew : (shownF Tn.fuel d 0).length ≤ 10000) :
    Calls Try.prog 23 #[.slice (some ⟨b, o, none⟩) rs.length c] w fun e w' => ∃ v, e = .returned v ∧ OwnI w' w.heap.size v (shownF Tn.fuel d 0) ∧ Below w.heap.size w w' := by
  have h0 : 0 < rs.length := by rw [hd.len]; exact hg.tame.len.1
  have hoff : DocOff (w.heap.size + 1) b rs := doc_old hd h0 (by omega)
  have hst : ∀ (W : World) (a : Addr) (fn : Fn) (x y : Array Value), Sem.run Try.prog (store a (.func fn x y)) W = stored Try.prog W a (.func fn x y) .plain := fun W a fn x y => run_store Try.prog W a (.func fn x y) .plain rfl
  have his : Tn.isN d (0 : Int) false = true := by have := Tn.isN_iff (d := d) (k := 0); rw [hg.root] at this; exact this
  have hall : Calls Try.prog 10 #[.slice (some ⟨b, o, none⟩) rs.length c, .int .i64 0, .bool false]
      (((w.alloc (.cells #[.slice (some ⟨b, o, none⟩) rs.length c] 25)).alloc (.cells #[.slice none 0 0] 38)).alloc (.cells #[.func (.func 50) #[] #[.pointer (some ⟨w.heap.size + 1, 0, none⟩), .pointer (some ⟨w.heap.size, 0, none⟩), .pointer (some ⟨w.heap.size + 1 + 1, 0, none⟩)]] 61))
      fun e w' => e = .returned (.bool true) ∧ w' = (((w.alloc (.cells #[.slice (some ⟨b, o, none⟩) rs.length c] 25)).alloc (.cells #[.slice none 0 0] 38)).alloc (.cells #[.func (.func 50) #[] #[.pointer (some ⟨w.heap.size + 1, 0, none⟩), .pointer (some ⟨w.heap.size, 0, none⟩), .pointer (some ⟨w.heap.size + 1 + 1, 0, none⟩)]] 61)) := by
    have := dis_any (hd.keeps (keeps_alloc' (.cells #[.func (.func 50) #[] #[.pointer (some ⟨w.heap.size + 1, 0, none⟩), .pointer (some ⟨w.heap.size, 0, none⟩), .pointer (some ⟨w.heap.size + 1 + 1, 0, none⟩)]] 61) (keeps_alloc' (.cells #[.slice none 0 0] 38) (keeps_alloc w (.cells #[.slice (some ⟨b, o, none⟩) rs.length c] 25))))) 0 false
    rw [his] at this
    exact this
  have hC : Calls Try.prog 50 #[.int .i64 0, .pointer (some ⟨w.heap.size + 1, 0, none⟩), .pointer (some ⟨w.heap.size, 0, none⟩), .pointer (some ⟨w.heap.size + 1 + 1, 0, none⟩)]
      (((w.alloc (.cells #[.slice (some ⟨b, o, none⟩) rs.length c] 25)).alloc (.cells #[.slice none 0 0] 38)).alloc (.cells #[.func (.func 50) #[] #[.pointer (some ⟨w.heap.size + 1, 0, none⟩), .pointer (some ⟨w.heap.size, 0, none⟩), .pointer (some ⟨w.heap.size + 1 + 1, 0, none⟩)]] 61))
      fun e w' => e = .returned (.tuple #[]) ∧ Below w.heap.size w w' ∧ ∃ va', w'.cell? ⟨w.heap.size + 1, 0, none⟩ = some va' ∧ OwnI w' w.heap.size va' (shownF Tn.fuel d 0) := by
    generalize hf67 : (Obj.cells #[.func (.func 50) #[] #[.pointer (some ⟨w.heap.size + 1, 0, none⟩), .pointer (some ⟨w.heap.size, 0, none⟩), .pointer (some ⟨w.heap.size + 1 + 1, 0, none⟩)]] 61) = o3
    have z1 : (w.alloc (.cells #[.slice (some ⟨b, o, none⟩) rs.length c] 25)).heap.size = w.heap.size + 1 := by simp
    have b1 := heap_alloc_new w (.cells #[.slice (some ⟨b, o, none⟩) rs.length c] 25)
    have B1 := (Below.refl w.heap.size w).alloc (Nat.le_refl _) (.cells #[.slice (some ⟨b, o, none⟩) rs.length c] 25)
    generalize w.alloc (.cells #[.slice (some ⟨b, o, none⟩) rs.length c] 25) = w1 at *
    have z2 : (w1.alloc (.cells #[.slice none 0 0] 38)).heap.size = w.heap.size + 2 := by simp [z1]
    have b2 := blk_new w1 (.cells #[.slice none 0 0] 38) z1
    have b12 := blk_alloc b1 (.cells #[.slice none 0 0] 38)
    have B2 := B1.alloc (by omega) (.cells #[.slice none 0 0] 38)
    generalize w1.alloc (.cells #[.slice none 0 0] 38) = w2 at *
    have z3 : (w2.alloc o3).heap.size = w.heap.size + 3 := by simp [z2]
    have b3 := blk_new w2 o3 z2
    have b23 := blk_alloc b2 o3
    have b13 := blk_alloc b12 o3
    have B3 := B2.alloc (by omega) o3
    generalize w2.alloc o3 = w3 at *
    subst hf67
    have hd3 := hd.keeps (keeps_below B3 (Nat.le_refl _))
    refine (shown1_any (w0 := w3) (D := w.heap.size) (A := w.heap.size + 1) (K := w.heap.size + 1 + 1) (B := w.heap.size + 3) z3 hd3 hoff (by omega) (by omega) (by omega) (by omega) (by omega) hg Tn.fuel 0 [] (.slice none 0 0) w3 hE (But.refl _ _ _) ?_ (by simpa using hfew)).mono ?_
    · exact ⟨by simp [World.cell?, b13], by simp [World.cell?, b3], by simp [World.cell?, b23], by simp [World.frozen?, b23], OwnI.nil _ _⟩
    · rintro e w' ⟨rfl, va', V, M⟩
      have hbut := M.but (B := w.heap.size + 3) (by omega) (fun k hk => by simp [Value.ownBlock] at hk)
      refine ⟨rfl, B3.trans (hbut.below (by omega) (by omega)), va', V.a, ?_⟩
      have := V.own
      simp only [List.nil_append] at this
      exact this.mono (by omega)
  clear hd hoff hfew hE
  go_enter Try.func23, Try.ntmps23
  go_wp2_with (first
    | (go_at_call 10; refine hall.mono ?_; rintro e w8 ⟨rfl, hw8⟩; subst hw8)
    | (go_at_call 50; refine hC.mono ?_; rintro e w9 ⟨rfl, hb9, va9, hc9, ho9⟩))
  go_ret
  exact ⟨_, rfl, ho9, hb9⟩
end Go.Proofs.Ytdfkhjckpdokeab

/-
  PLAIN MATHEMATICS: what the walks ask of a document holds of each that was built; documents without shadow trees.
-/
namespace Go.Proofs.Ytdfkhjckpdokeab
open Tn

theorem path_live (d : Dc) : ∀ (f : Nat) (n : Int), ∀ k ∈ path f d n, lvD d k = true
  | 0, _, k, h => by simp [path] at h
  | f + 1, n, k, h => by
    rw [path] at h
    split at h
    · rename_i hn
      obtain ⟨m, rfl, _, hl⟩ := isN_nat hn
      rcases List.mem_cons.mp h with h | h
      · rw [h, Int.toNat_natCast]
        exact hl
      · exact path_live d f _ k h
    · simp at h

theorem scopeL_live {d : Dc} (h : Tn.Good d) (hf : ∀ j, Fit j (nd d j)) : ∀ l : List Nat, (∀ k ∈ l, lvD d k = true) → ∃ s : Nat, scopeL d l = (s : Int) ∧ lvD d s = true
  | [], _ => by
    obtain ⟨r, hr, _⟩ := h.tr
    exact ⟨0, rfl, hr.1.root⟩
  | k :: l, hl => by
    obtain ⟨r, hr, _⟩ := h.tr
    rw [scopeL]
    split
    · rename_i hi
      have hk := hl k (by simp)
      have h0 : 0 < k := by
        apply Classical.byContradiction
        intro hn
        have hk0 : k = 0 := by omega
        have := ((hf k).root hk0).2.2
        rw [hi] at this
        cases this
      have h1 := hr.2 k h0 hk
      exact ⟨(nd d k).up.toNat, by omega, hr.1.upLive h0 hk⟩
    · exact scopeL_live h hf l (fun x hx => hl x (by simp [hx]))

theorem okd_of {d : Dc} (h : Tn.Good d) (hf : ∀ j, Fit j (nd d j)) : Okd d := by
  obtain ⟨r, hr, _⟩ := h.tr
  exact ⟨tame_good h, fun j s => Nat.le_trans (h.small j s) (by decide), fun k => (hf k).rise, fun k => Nat.le_trans (h.attrs k) (by decide), hr.1.root, fun k _ => scopeL_live h hf _ (path_live d _ _)⟩

theorem build_okd (l : List Chg) : Okd (Tn.build l) := okd_of (build_good l) (build_fit l)

def endB : Nat → Dc → Nat → Bool
  | 0, _, _ => false
  | f + 1, d, n => (kidsD d (n : Int)).all (endB f d)
theorem endB_end (d : Dc) : ∀ (f n : Nat), endB f d n = true → EndF f d n
  | 0, _, h => by simp [endB] at h
  | f + 1, n, h => fun k hk => endB_end d f k (List.all_eq_true.mp h k hk)

/-- without shadow trees: no node goes to a slot, each shows what it has -/
theorem plain_slot {d : Dc} (hs : ∀ j, (nd d j).hasS = false) (n : Int) : slotD d n = -1 := by
  unfold slotD
  rw [if_neg]
  unfold slottedD
  simp [hs]
theorem plain_given {d : Dc} (hs : ∀ j, (nd d j).hasS = false) (n : Nat) : givenD d (n : Int) = [] := by
  unfold givenD
  split
  · rw [List.filter_eq_nil_iff]
    intro a _
    rw [plain_slot hs]
    simp
  · rfl
theorem plain_kids {d : Dc} (hs : ∀ j, (nd d j).hasS = false) {n : Nat} (hn : isN d (n : Int) false = true) : kidsD d (n : Int) = (nd d n).kids := by
  unfold kidsD
  rw [if_pos hn, Int.toNat_natCast, hs n, plain_given hs]
  rfl
theorem plain_shown {d : Dc} (hs : ∀ j, (nd d j).hasS = false) (hz : ∀ j, (nd d j).shadow = []) {r : Nat → Nat} (hr : TrD d r) : ∀ (f n : Nat), lvD d n = true → shownF f d n = all f d n
  | 0, _, _ => rfl
  | f + 1, n, hn => by
    have hi : isN d (n : Int) false = true := by rw [isN_iff]; exact hn
    rw [shownF, all, if_pos hi, plain_kids hs hi, hz n]
    simp only [List.flatMap_nil, List.nil_append]
    congr 1
    rw [List.flatMap_def, List.flatMap_def]
    congr 1
    refine List.map_congr_left fun k hk => plain_shown hs hz hr f k ?_
    exact (hr.1.mem n false k hk).2.1
theorem plain_end {d : Dc} (hs : ∀ j, (nd d j).hasS = false) {r : Nat → Nat} (hr : TrD d r) : ∀ (f n : Nat), lvD d n = true → Tn.Ends f d n → EndF f d n
  | 0, _, _, h => h
  | f + 1, n, hn, h => by
    have hi : isN d (n : Int) false = true := by rw [isN_iff]; exact hn
    intro k hk
    rw [plain_kids hs hi] at hk
    exact plain_end hs hr f k (hr.1.mem n false k hk).2.1 (h.2.2 k hk)
end Go.Proofs.Ytdfkhjckpdokeab

/-
  THE WALKS of tnlaw3's host and alive.
-/
namespace Go.Proofs.Ytdfkhjckpdokeab
open Go.RowKit

def hostL : List Tn.Chg := [⟨1, 0, 0, -1, ⟨#[120]⟩, ⟨#[]⟩⟩, ⟨8, 1, 0, 0, ⟨#[]⟩, ⟨#[]⟩⟩, ⟨9, 1, 0, 0, ⟨#[115, 108, 111, 116]⟩, ⟨#[]⟩⟩, ⟨1, 1, 0, -1, ⟨#[98]⟩, ⟨#[]⟩⟩]
theorem host_slot : slotD (Tn.build hostL) 3 = 2 := by decide +kernel
theorem host_given : givenD (Tn.build hostL) 2 = [3] := by decide +kernel
theorem host_kids : kidsD (Tn.build hostL) 2 = [3] := by decide +kernel
theorem host_up : upF (Tn.build hostL) 3 = 2 := by decide +kernel
theorem host_shown : shownF Tn.fuel (Tn.build hostL) 0 = [0, 1, 2, 3] := by decide +kernel
theorem host_end : EndF Tn.fuel (Tn.build hostL) 0 := endB_end _ _ _ (by decide +kernel)

theorem chgs_new (w : World) (l : List Tn.Chg) (hl : l.length ≤ 1000) : ChgsAt (w.alloc (.cells (l.flatMap chc).toArray 28)) (.slice (some ⟨w.heap.size, 0, none⟩) l.length l.length) l := by
  refine ⟨_, _, rfl, Nat.le_refl _, by unfold maxLen; omega, fun j x hx => ⟨_, 0, rfl, ?_⟩⟩
  rw [Nat.zero_add, World.cell?_alloc_new, ← hx]
  simp

theorem ChgsAt.keeps {w w' : World} {v : Value} {l : List Tn.Chg} (h : ChgsAt w v l) (k : Keeps w w') : ChgsAt w' v l := by
  obtain ⟨p, c, e, h1, h2, h4⟩ := h
  refine ⟨p, c, e, h1, h2, fun j x hx => ?_⟩
  obtain ⟨b, o, e1, e2⟩ := h4 j x hx
  exact ⟨b, o, e1, k _ _ e2⟩

set_option maxHeartbeats 800000 in
theorem lhost_any (w : World) : Calls Try.prog 51 #[] w fun e w' => ∃ g c rs, e = .returned (.slice (some ⟨g, 0, none⟩) rs.length c) ∧ DocAt w' g 0 c rs (Tn.build hostL) ∧ Below w.heap.size w w' := by
  have hC := rbuild_good (chgs_new w hostL (by decide)) (by decide)
  have e : (hostL.flatMap chc).toArray = #[.int .i64 1, .int .i64 0, .int .i64 0, .int .i64 (-1), .string ⟨#[120]⟩, .string ⟨#[]⟩, .int .i64 8, .int .i64 1, .int .i64 0, .int .i64 0, .string ⟨#[]⟩, .string ⟨#[]⟩, .int .i64 9, .int .i64 1, .int .i64 0, .int .i64 0, .string ⟨#[115, 108, 111, 116]⟩, .string ⟨#[]⟩, .int .i64 1, .int .i64 1, .int .i64 0, .int .i64 (-1), .string ⟨#[98]⟩, .string ⟨#[]⟩] := rfl
  have e4 : hostL.length = 4 := rfl
  rw [e, e4] at hC
  have B1 := (Below.refl w.heap.size w).alloc (Nat.le_refl _) (.cells #[.int .i64 1, .int .i64 0, .int .i64 0, .int .i64 (-1), .string ⟨#[120]⟩, .string ⟨#[]⟩, .int .i64 8, .int .i64 1, .int .i64 0, .int .i64 0, .string ⟨#[]⟩, .string ⟨#[]⟩, .int .i64 9, .int .i64 1, .int .i64 0, .int .i64 0, .string ⟨#[115, 108, 111, 116]⟩, .string ⟨#[]⟩, .int .i64 1, .int .i64 1, .int .i64 0, .int .i64 (-1), .string ⟨#[98]⟩, .string ⟨#[]⟩] 28)
  clear e e4
  generalize Tn.build hostL = d at *
  go_enter Try.func51, Try.ntmps51
  go_wp2_with (go_at_call 8; refine hC.mono ?_; rintro e w9 ⟨g, c, rs, rfl, hd9, hb9⟩)
  go_ret
  exact ⟨g, c, rs, rfl, hd9, B1.trans (hb9.mono B1.size)⟩

set_option maxHeartbeats 1600000 in
theorem lalive_any (w : World) : Calls Try.prog 25 #[] w fun e w' => e = .returned (.bool true) ∧ Below w.heap.size w w' := by
  have hH := lhost_any w
  have hg := build_okd hostL
  have p1 := host_slot
  have p2 := host_given
  have p3 := host_kids
  have p4 := host_up
  have p5 := host_shown
  have p6 := host_end
  generalize Tn.build hostL = d at *
  have S1 : ∀ W g c rs, DocAt W g 0 c rs d → Calls Try.prog 14 #[.slice (some ⟨g, 0, none⟩) rs.length c, .int .i64 3] W fun e w' => e = .returned (.int .i64 2) ∧ Below W.heap.size W w' := fun W g c rs h => by have := fslot_any h hg 3; rw [p1] at this; exact this
  have S2 : ∀ W g c rs, DocAt W g 0 c rs d → Calls Try.prog 17 #[.slice (some ⟨g, 0, none⟩) rs.length c, .int .i64 2] W fun e w' => ∃ v, e = .returned v ∧ OwnI w' W.heap.size v [3] ∧ Below W.heap.size W w' := fun W g c rs h => by have := fgiven_any h hg 2; rw [p2] at this; exact this
  have S3 : ∀ W g c rs, DocAt W g 0 c rs d → Calls Try.prog 19 #[.slice (some ⟨g, 0, none⟩) rs.length c, .int .i64 2] W fun e w' => ∃ v, e = .returned v ∧ OwnI w' W.heap.size v [3] ∧ Below W.heap.size W w' := fun W g c rs h => by have := fkids_any h hg 2; rw [p3] at this; exact this
  have S4 : ∀ W g c rs, DocAt W g 0 c rs d → Calls Try.prog 21 #[.slice (some ⟨g, 0, none⟩) rs.length c, .int .i64 3] W fun e w' => e = .returned (.int .i64 2) ∧ Below W.heap.size W w' := fun W g c rs h => by have := fup_any h hg 3; rw [p4] at this; exact this
  have S5 : ∀ W g c rs, DocAt W g 0 c rs d → Calls Try.prog 23 #[.slice (some ⟨g, 0, none⟩) rs.length c] W fun e w' => ∃ v, e = .returned v ∧ OwnI w' W.heap.size v [0, 1, 2, 3] ∧ Below W.heap.size W w' := fun W g c rs h => by have := fshown_any h hg p6 (by rw [p5]; decide); rw [p5] at this; exact this
  clear p1 p2 p3 p4 p5 p6 hg
  go_enter Try.func25, Try.ntmps25
  go_wp2_with (first
    | (go_at_call 51; refine hH.mono ?_; rintro e w1 ⟨g, c, rs, rfl, hd1, hb1⟩; have HD1 : Hid (DocAt w1 g 0 c rs d) := hd1; clear hd1)
    | (go_at_call 19; refine (S3 _ _ _ _ HD1.out).mono ?_; rintro e w2 ⟨v2, rfl, ho2, hb2⟩; have HD2 : Hid (DocAt w2 g 0 c rs d) := HD1.out.keeps (keeps_below hb2 (Nat.le_refl _)); obtain ⟨pk, ck, rfl, kz1, kz2, _, hat⟩ := (ints_of_owns ho2).at; obtain ⟨bk, ok, rfl, k0⟩ := hat 0 (by decide); simp at k0)
    | (go_at_call 14; refine (S1 _ _ _ _ HD2.out).mono ?_; rintro e w3 ⟨rfl, hb3⟩; have HD3 : Hid (DocAt w3 g 0 c rs d) := HD2.out.keeps (keeps_below hb3 (Nat.le_refl _)); have k03 := keeps_below hb3 (Nat.le_refl _) _ _ k0)
    | (go_at_call 17; refine (S2 _ _ _ _ HD3.out).mono ?_; rintro e w4 ⟨v4, rfl, ho4, hb4⟩; have HD4 : Hid (DocAt w4 g 0 c rs d) := HD3.out.keeps (keeps_below hb4 (Nat.le_refl _)); obtain ⟨p4, c4, rfl⟩ := ho4.shape; have k04 := keeps_below hb4 (Nat.le_refl _) _ _ k03)
    | (go_at_call 21; refine (S4 _ _ _ _ HD4.out).mono ?_; rintro e w5 ⟨rfl, hb5⟩; have HD5 : Hid (DocAt w5 g 0 c rs d) := HD4.out.keeps (keeps_below hb5 (Nat.le_refl _)))
    | (go_at_call 23; refine (S5 _ _ _ _ HD5.out).mono ?_; rintro e w6 ⟨v6, rfl, ho6, hb6⟩; obtain ⟨p6, c6, rfl⟩ := ho6.shape))
  go_ret
  refine ⟨rfl, ?_⟩
  have B2 := hb1.trans (hb2.mono hb1.size)
  have B3 := B2.trans (hb3.mono B2.size)
  have B4 := B3.trans (hb4.mono B3.size)
  have B5 := B4.trans (hb5.mono B4.size)
  exact B5.trans (hb6.mono B5.size)
end Go.Proofs.Ytdfkhjckpdokeab

/-
  TWO ATTRIBUTES THAT ARE ONE ARE NOT UNLIKE.
-/
namespace Go.Proofs.Ytdfkhjckpdokeab
open Go.RowKit
theorem attr_neq (W : World) (a b : ByteArray) : (binOp .neq 55 (.agg #[.string a, .string b]) (.agg #[.string a, .string b])).run Try.prog W = .ok (.bool false) W := by
  have u9 := Try.underlying9
  have hS : Try.prog.underlying 55 = some (.struct (Try.prog.fieldsOf 55)) := by kernel_rfl
  have hp : Try.prog.stoodInHeld 55 = false := by kernel_rfl
  rw [run_neq_struct, show (10000 : Nat) = 9999 + 1 from rfl, run_equalIn_agg W 9999 55 _ _ hS hp]
  simp only [Program.fieldsOf, Try.underlying55]
  go_simp
theorem attr_guard (W : World) (x y : Operand) (xs ys : Array Value) : (eqGuard .neq 55 x y (.agg xs) (.agg ys)).run Try.prog W = .ok () W := run_eqGuard_agg W .neq 55 x y xs ys (by kernel_rfl)
end Go.Proofs.Ytdfkhjckpdokeab

/-
  THE WALKS of the reference's SameInts and Same, at what reads the same.
-/
namespace Go.Proofs.Ytdfkhjckpdokeab
open Go.RowKit

set_option maxHeartbeats 800000 in
set_option maxRecDepth 100000 in
theorem rsameints_true {w : World} {v1 v2 : Value} {l : List Nat} (h1 : IntsAt w v1 l) (h2 : IntsAt w v2 l) :
    Calls Try.prog 16 #[v1, v2] w fun e w' => e = .returned (.bool true) ∧ Below w.heap.size w w' := by
  obtain ⟨p1, c1, rfl, a1, a2, _, at1⟩ := h1.at
  obtain ⟨p2, c2, rfl, b1, b2, _, at2⟩ := h2.at
  have T1 : Hid (∀ j (hj : j < l.length), ∃ b o, p1 = some ⟨b, o, none⟩ ∧ w.cell? ⟨b, o + j, none⟩ = some (.int .i64 (l[j] : Int))) := at1
  have T2 : Hid (∀ j (hj : j < l.length), ∃ b o, p2 = some ⟨b, o, none⟩ ∧ w.cell? ⟨b, o + j, none⟩ = some (.int .i64 (l[j] : Int))) := at2
  clear at1 at2 h1 h2
  go_enter Try.func16, Try.ntmps16
  go_wp2_with fail
  go_loopw [13] (fun i wr => ∃ j : Nat, j ≤ l.length ∧ i = .int .i64 j ∧ Below w.heap.size w wr) (fun i _ => l.length - (intOf i).toNat)
  case atStart => exact ⟨0, Nat.zero_le _, rfl, Below.refl _ _⟩
  case round =>
    obtain ⟨j, hj, rfl, hnx⟩ := hrel
    by_cases hlt : j < l.length
    · obtain ⟨e1, o1, rfl, k1⟩ := T1.out j hlt
      obtain ⟨e2, o2, rfl, k2⟩ := T2.out j hlt
      have y1 := keeps_below hnx (Nat.le_refl _) _ _ k1
      have y2 := keeps_below hnx (Nat.le_refl _) _ _ k2
      clear k1 k2
      generalize l[j] = x at *
      have hq : (((x : Nat) : Int) == (x : Int)) = true := by simp
      have hj2 : (j : Int) < (l.length : Int) := by omega
      go_wp2_with fail
      go_quiet (fail)
      go_wp2_with fail
      go_roundw
      case rel => exact ⟨j + 1, by omega, by go_num, hnx.trans ⟨rfl, rfl, rfl, Nat.le_refl _, fun _ _ => rfl⟩⟩
      case measure => simp [intOf]; omega
    · obtain rfl : j = l.length := by omega
      go_wp2_with fail
      go_ret
      exact ⟨rfl, hnx⟩

set_option maxHeartbeats 1600000 in
set_option maxRecDepth 100000 in
theorem rsame_true {w : World} {b1 o1 c1 b2 o2 c2 : Nat} {rs1 rs2 : List Raw} {d : Tn.Dc} (h1 : DocAt w b1 o1 c1 rs1 d) (h2 : DocAt w b2 o2 c2 rs2 d) (hs : d.length ≤ 1000) :
    Calls Try.prog 13 #[.slice (some ⟨b1, o1, none⟩) rs1.length c1, .slice (some ⟨b2, o2, none⟩) rs2.length c2] w fun e w' => e = .returned (.bool true) ∧ Below w.heap.size w w' := by
  have H1 : Hid (DocAt w b1 o1 c1 rs1 d) := h1
  have H2 : Hid (DocAt w b2 o2 c2 rs2 d) := h2
  rw [h1.len, h2.len]
  clear h1 h2
  go_enter Try.func13, Try.ntmps13
  go_wp2_with fail
  go_loopw [16] (fun i wr => ∃ j : Nat, j ≤ d.length ∧ i = .int .i64 j ∧ Below w.heap.size w wr) (fun i _ => d.length - (intOf i).toNat)
  case atStart => exact ⟨0, Nat.zero_le _, rfl, Below.refl _ _⟩
  case round =>
    obtain ⟨j, hj, rfl, hnx⟩ := hrel
    have hbz := hnx.size
    by_cases hlt : j < d.length
    · have hj1 : j < rs1.length := by rw [H1.out.len]; exact hlt
      have hj2 : j < rs2.length := by rw [H2.out.len]; exact hlt
      have R1 := H1.out.row.keeps (keeps_below hnx (Nat.le_refl _))
      have R2 := H2.out.row.keeps (keeps_below hnx (Nat.le_refl _))
      have N1 := (H1.out.nds j hj1 hlt).keeps (keeps_below hnx (Nat.le_refl _))
      have N2 := (H2.out.nds j hj2 hlt).keeps (keeps_below hnx (Nat.le_refl _))
      have x0 := R1.c0 j hj1
      have x1 := R1.c1 j hj1
      have x2 := R1.c2 j hj1
      have x3 := R1.c3 j hj1
      have x4 := R1.c4 j hj1
      have x5 := R1.c5 j hj1
      have x6 := R1.c6 j hj1
      have x7 := R1.c7 j hj1
      have x8 := R1.c8 j hj1
      have y0 := R2.c0 j hj2
      have y1 := R2.c1 j hj2
      have y2 := R2.c2 j hj2
      have y3 := R2.c3 j hj2
      have y4 := R2.c4 j hj2
      have y5 := R2.c5 j hj2
      have y6 := R2.c6 j hj2
      have y7 := R2.c7 j hj2
      have y8 := R2.c8 j hj2
      clear R1 R2
      generalize rs1[j] = r1 at *
      generalize rs2[j] = r2 at *
      generalize d[j] = nn at *
      obtain ⟨lv1, tg1, tx1, ⟨ap1, an1, ac1⟩, up1, ⟨kp1, kn1, kc1⟩, hs1, ⟨sp1, sn1, sc1⟩, is1⟩ := r1
      obtain ⟨lv2, tg2, tx2, ⟨ap2, an2, ac2⟩, up2, ⟨kp2, kn2, kc2⟩, hs2, ⟨sp2, sn2, sc2⟩, is2⟩ := r2
      obtain ⟨m1, m2, m3, m4, m5, m6, A1, K1, S1⟩ := N1
      obtain ⟨n1, n2, n3, n4, n5, n6, A2, K2, S2⟩ := N2
      simp only at *
      subst m1 m2 m3 m4 m5 m6 n1 n2 n3 n4 n5 n6
      obtain rfl := al_of A1
      obtain rfl := al_of A2
      go_wp2_with fail
      have SS : ∀ w'', Keeps wr w'' → (fun w'' => w''.cell? ⟨b1, o1 + j * 9, none⟩ = some (.bool nn.live) ∧ w''.cell? ⟨b1, o1 + j * 9 + 1, none⟩ = some (.string nn.tag) ∧ w''.cell? ⟨b1, o1 + j * 9 + 2, none⟩ = some (.string nn.text) ∧ w''.cell? ⟨b1, o1 + j * 9 + 3, none⟩ = some (.slice ap1 nn.attrs.length ac1) ∧ w''.cell? ⟨b1, o1 + j * 9 + 4, none⟩ = some (.int .i64 nn.up) ∧ w''.cell? ⟨b1, o1 + j * 9 + 5, none⟩ = some (.slice kp1 kn1 kc1) ∧ w''.cell? ⟨b1, o1 + j * 9 + 6, none⟩ = some (.bool nn.hasS) ∧ w''.cell? ⟨b1, o1 + j * 9 + 7, none⟩ = some (.slice sp1 sn1 sc1) ∧ w''.cell? ⟨b1, o1 + j * 9 + 8, none⟩ = some (.bool nn.inS) ∧ w''.cell? ⟨b2, o2 + j * 9, none⟩ = some (.bool nn.live) ∧ w''.cell? ⟨b2, o2 + j * 9 + 1, none⟩ = some (.string nn.tag) ∧ w''.cell? ⟨b2, o2 + j * 9 + 2, none⟩ = some (.string nn.text) ∧ w''.cell? ⟨b2, o2 + j * 9 + 3, none⟩ = some (.slice ap2 nn.attrs.length ac2) ∧ w''.cell? ⟨b2, o2 + j * 9 + 4, none⟩ = some (.int .i64 nn.up) ∧ w''.cell? ⟨b2, o2 + j * 9 + 5, none⟩ = some (.slice kp2 kn2 kc2) ∧ w''.cell? ⟨b2, o2 + j * 9 + 6, none⟩ = some (.bool nn.hasS) ∧ w''.cell? ⟨b2, o2 + j * 9 + 7, none⟩ = some (.slice sp2 sn2 sc2) ∧ w''.cell? ⟨b2, o2 + j * 9 + 8, none⟩ = some (.bool nn.inS)) w'' := fun w'' hk => ⟨hk _ _ x0, hk _ _ x1, hk _ _ x2, hk _ _ x3, hk _ _ x4, hk _ _ x5, hk _ _ x6, hk _ _ x7, hk _ _ x8, hk _ _ y0, hk _ _ y1, hk _ _ y2, hk _ _ y3, hk _ _ y4, hk _ _ y5, hk _ _ y6, hk _ _ y7, hk _ _ y8⟩
      go_region_held3 (fun w'' => w''.cell? ⟨b1, o1 + j * 9, none⟩ = some (.bool nn.live) ∧ w''.cell? ⟨b1, o1 + j * 9 + 1, none⟩ = some (.string nn.tag) ∧ w''.cell? ⟨b1, o1 + j * 9 + 2, none⟩ = some (.string nn.text) ∧ w''.cell? ⟨b1, o1 + j * 9 + 3, none⟩ = some (.slice ap1 nn.attrs.length ac1) ∧ w''.cell? ⟨b1, o1 + j * 9 + 4, none⟩ = some (.int .i64 nn.up) ∧ w''.cell? ⟨b1, o1 + j * 9 + 5, none⟩ = some (.slice kp1 kn1 kc1) ∧ w''.cell? ⟨b1, o1 + j * 9 + 6, none⟩ = some (.bool nn.hasS) ∧ w''.cell? ⟨b1, o1 + j * 9 + 7, none⟩ = some (.slice sp1 sn1 sc1) ∧ w''.cell? ⟨b1, o1 + j * 9 + 8, none⟩ = some (.bool nn.inS) ∧ w''.cell? ⟨b2, o2 + j * 9, none⟩ = some (.bool nn.live) ∧ w''.cell? ⟨b2, o2 + j * 9 + 1, none⟩ = some (.string nn.tag) ∧ w''.cell? ⟨b2, o2 + j * 9 + 2, none⟩ = some (.string nn.text) ∧ w''.cell? ⟨b2, o2 + j * 9 + 3, none⟩ = some (.slice ap2 nn.attrs.length ac2) ∧ w''.cell? ⟨b2, o2 + j * 9 + 4, none⟩ = some (.int .i64 nn.up) ∧ w''.cell? ⟨b2, o2 + j * 9 + 5, none⟩ = some (.slice kp2 kn2 kc2) ∧ w''.cell? ⟨b2, o2 + j * 9 + 6, none⟩ = some (.bool nn.hasS) ∧ w''.cell? ⟨b2, o2 + j * 9 + 7, none⟩ = some (.slice sp2 sn2 sc2) ∧ w''.cell? ⟨b2, o2 + j * 9 + 8, none⟩ = some (.bool nn.inS))
        ((apply SS; repeat (first | exact Keeps.refl _ | apply keeps_drew | apply keeps_alloc')))
        (fail)
      · have bX : BoxAt ((wr.alloc (.cells (Raw.cells (⟨nn.live, nn.tag, nn.text, ⟨ap1, nn.attrs.length, ac1⟩, nn.up, ⟨kp1, kn1, kc1⟩, nn.hasS, ⟨sp1, sn1, sc1⟩, nn.inS⟩ : Raw)).toArray 50)).alloc (.cells (Raw.cells (⟨nn.live, nn.tag, nn.text, ⟨ap2, nn.attrs.length, ac2⟩, nn.up, ⟨kp2, kn2, kc2⟩, nn.hasS, ⟨sp2, sn2, sc2⟩, nn.inS⟩ : Raw)).toArray 50)).drew wr.heap.size (⟨nn.live, nn.tag, nn.text, ⟨ap1, nn.attrs.length, ac1⟩, nn.up, ⟨kp1, kn1, kc1⟩, nn.hasS, ⟨sp1, sn1, sc1⟩, nn.inS⟩ : Raw) := (box_new wr (⟨nn.live, nn.tag, nn.text, ⟨ap1, nn.attrs.length, ac1⟩, nn.up, ⟨kp1, kn1, kc1⟩, nn.hasS, ⟨sp1, sn1, sc1⟩, nn.inS⟩ : Raw) 50).keeps (keeps_drew (keeps_alloc _ _))
        have bY : BoxAt ((wr.alloc (.cells (Raw.cells (⟨nn.live, nn.tag, nn.text, ⟨ap1, nn.attrs.length, ac1⟩, nn.up, ⟨kp1, kn1, kc1⟩, nn.hasS, ⟨sp1, sn1, sc1⟩, nn.inS⟩ : Raw)).toArray 50)).alloc (.cells (Raw.cells (⟨nn.live, nn.tag, nn.text, ⟨ap2, nn.attrs.length, ac2⟩, nn.up, ⟨kp2, kn2, kc2⟩, nn.hasS, ⟨sp2, sn2, sc2⟩, nn.inS⟩ : Raw)).toArray 50)).drew (wr.heap.size + 1) (⟨nn.live, nn.tag, nn.text, ⟨ap2, nn.attrs.length, ac2⟩, nn.up, ⟨kp2, kn2, kc2⟩, nn.hasS, ⟨sp2, sn2, sc2⟩, nn.inS⟩ : Raw) := by
          have h := (box_new (wr.alloc (.cells (Raw.cells (⟨nn.live, nn.tag, nn.text, ⟨ap1, nn.attrs.length, ac1⟩, nn.up, ⟨kp1, kn1, kc1⟩, nn.hasS, ⟨sp1, sn1, sc1⟩, nn.inS⟩ : Raw)).toArray 50)) (⟨nn.live, nn.tag, nn.text, ⟨ap2, nn.attrs.length, ac2⟩, nn.up, ⟨kp2, kn2, kc2⟩, nn.hasS, ⟨sp2, sn2, sc2⟩, nn.inS⟩ : Raw) 50).keeps (keeps_drew (Keeps.refl _))
          rw [show (wr.alloc (.cells (Raw.cells (⟨nn.live, nn.tag, nn.text, ⟨ap1, nn.attrs.length, ac1⟩, nn.up, ⟨kp1, kn1, kc1⟩, nn.hasS, ⟨sp1, sn1, sc1⟩, nn.inS⟩ : Raw)).toArray 50)).heap.size = wr.heap.size + 1 by simp] at h
          exact h
        have KQ : Keeps wr ((wr.alloc (.cells (Raw.cells (⟨nn.live, nn.tag, nn.text, ⟨ap1, nn.attrs.length, ac1⟩, nn.up, ⟨kp1, kn1, kc1⟩, nn.hasS, ⟨sp1, sn1, sc1⟩, nn.inS⟩ : Raw)).toArray 50)).alloc (.cells (Raw.cells (⟨nn.live, nn.tag, nn.text, ⟨ap2, nn.attrs.length, ac2⟩, nn.up, ⟨kp2, kn2, kc2⟩, nn.hasS, ⟨sp2, sn2, sc2⟩, nn.inS⟩ : Raw)).toArray 50)).drew := keeps_drew (keeps_alloc' _ (keeps_alloc _ _))
        have BQ : Below w.heap.size w ((wr.alloc (.cells (Raw.cells (⟨nn.live, nn.tag, nn.text, ⟨ap1, nn.attrs.length, ac1⟩, nn.up, ⟨kp1, kn1, kc1⟩, nn.hasS, ⟨sp1, sn1, sc1⟩, nn.inS⟩ : Raw)).toArray 50)).alloc (.cells (Raw.cells (⟨nn.live, nn.tag, nn.text, ⟨ap2, nn.attrs.length, ac2⟩, nn.up, ⟨kp2, kn2, kc2⟩, nn.hasS, ⟨sp2, sn2, sc2⟩, nn.inS⟩ : Raw)).toArray 50)).drew := ((hnx.alloc hbz _).alloc (by simp; omega) _).drew
        simp only [Raw.cells] at bX bY KQ BQ
        generalize hWQ : (World.alloc _ _).drew = W at bX bY KQ BQ ⊢
        generalize wr.heap.size + 1 = Y at *
        generalize wr.heap.size = X at *
        clear x0 x1 x2 x3 x4 x5 x6 x7 x8 y0 y1 y2 y3 y4 y5 y6 y7 y8 SS
        have K1 := K1.keeps KQ
        have K2 := K2.keeps KQ
        have S1 := S1.keeps KQ
        have S2 := S2.keeps KQ
        have A1 := A1.keeps KQ
        have A2 := A2.keeps KQ
        clear KQ hWQ hnx hbz
        have CX := bX
        have CY := bY
        obtain ⟨e0, e1, e2, e3, e4, e5, e6, e7, e8⟩ := bX
        obtain ⟨g0, g1, g2, g3, g4, g5, g6, g7, g8⟩ := bY
        simp only at e0 e1 e2 e3 e4 e5 e6 e7 e8 g0 g1 g2 g3 g4 g5 g6 g7 g8
        have q1 : (nn.tag.toList == nn.tag.toList) = true := by simp
        have q2 : (nn.text.toList == nn.text.toList) = true := by simp
        have q3 : (nn.up == nn.up) = true := by simp
        have AX : Hid (AttrsAt W (.slice ap1 nn.attrs.length ac1) nn.attrs) := A1
        have AY : Hid (AttrsAt W (.slice ap2 nn.attrs.length ac2) nn.attrs) := A2
        clear A1 A2
        go_wp2_with (first
          | (go_at_call_of 16 kc1; refine (rsameints_true K1 K2).mono ?_; rintro e w5 ⟨rfl, hb5⟩; have J5 := keeps_below hb5 (Nat.le_refl _); have e75 := J5 _ _ e7; have g75 := J5 _ _ g7; have e35 := J5 _ _ e3; have g35 := J5 _ _ g3; have S15 := S1.keeps J5; have S25 := S2.keeps J5)
          | (go_at_call_of 16 sc1; refine (rsameints_true S15 S25).mono ?_; rintro e w6 ⟨rfl, hb6⟩; have J6 := J5.trans (keeps_below hb6 (Nat.le_refl _)); have e36 := J6 _ _ e3; have g36 := J6 _ _ g3; have B6 := (BQ.trans (hb5.mono BQ.size)).trans (hb6.mono (Nat.le_trans BQ.size hb5.size)); have AX6 : Hid (AttrsAt w6 (.slice ap1 nn.attrs.length ac1) nn.attrs) := AX.out.keeps J6; have AY6 : Hid (AttrsAt w6 (.slice ap2 nn.attrs.length ac2) nn.attrs) := AY.out.keeps J6))
        obtain ⟨_, _, he1, hx1, hx2, _, at1⟩ := AX6.out.at
        cases he1
        obtain ⟨_, _, he2, hy1, hy2, _, at2⟩ := AY6.out.at
        cases he2
        have T1 : Hid (∀ i (hi : i < nn.attrs.length), ∃ b o, ap1 = some ⟨b, o, none⟩ ∧ w6.cell? ⟨b, o + i * 2, none⟩ = some (.string nn.attrs[i].1) ∧ w6.cell? ⟨b, o + i * 2 + 1, none⟩ = some (.string nn.attrs[i].2)) := at1
        have T2 : Hid (∀ i (hi : i < nn.attrs.length), ∃ b o, ap2 = some ⟨b, o, none⟩ ∧ w6.cell? ⟨b, o + i * 2, none⟩ = some (.string nn.attrs[i].1) ∧ w6.cell? ⟨b, o + i * 2 + 1, none⟩ = some (.string nn.attrs[i].2)) := at2
        clear at1 at2 AX6 AY6 AX AY J5 J6 hb5 hb6 e75 g75 e35 g35 S15 S25 K1 K2 S1 S2 BQ CX CY e0 e1 e2 e3 e4 e5 e6 e7 e8 g0 g1 g2 g3 g4 g5 g6 g7 g8 q1 q2 q3
        go_loopw [95] (fun iv wq => ∃ i : Nat, i ≤ nn.attrs.length ∧ iv = .int .i64 i ∧ Below w6.heap.size w6 wq) (fun i _ => nn.attrs.length - (intOf i).toNat)
        case atStart => exact ⟨0, Nat.zero_le _, rfl, Below.refl _ _⟩
        case round =>
          obtain ⟨i, hi, rfl, hq6⟩ := hrel
          have J7 := keeps_below hq6 (Nat.le_refl _)
          have e37 := J7 _ _ e36
          have g37 := J7 _ _ g36
          by_cases hil : i < nn.attrs.length
          · obtain ⟨f1, p1, rfl, k1, k2⟩ := T1.out i hil
            obtain ⟨f2, p2, rfl, k3, k4⟩ := T2.out i hil
            have z1 := J7 _ _ k1
            have z2 := J7 _ _ k2
            have z3 := J7 _ _ k3
            have z4 := J7 _ _ k4
            clear k1 k2 k3 k4
            generalize nn.attrs[i] = at0 at *
            obtain ⟨nm, vl⟩ := at0
            simp only at z1 z2 z3 z4
            have hne := fun W => attr_neq W nm vl
            have hgd := attr_guard
            have hii : (i : Int) < (nn.attrs.length : Int) := by omega
            go_wp2_with fail
            go_quiet (fail)
            go_wp2_with fail
            go_roundw
            case rel => exact ⟨i + 1, by omega, by go_num, hq6.trans ⟨rfl, rfl, rfl, Nat.le_refl _, fun _ _ => rfl⟩⟩
            case measure => simp [intOf]; omega
          · obtain rfl : i = nn.attrs.length := by omega
            go_wp2_with fail
            go_roundw
            case rel => exact ⟨j + 1, by omega, by go_num, B6.trans (hq6.mono B6.size)⟩
            case measure => simp [intOf]; omega
      · have bY : BoxAt ((wr.alloc (.cells (Raw.cells (⟨nn.live, nn.tag, nn.text, ⟨ap2, nn.attrs.length, ac2⟩, nn.up, ⟨kp2, kn2, kc2⟩, nn.hasS, ⟨sp2, sn2, sc2⟩, nn.inS⟩ : Raw)).toArray 50)).alloc (.cells (Raw.cells (⟨nn.live, nn.tag, nn.text, ⟨ap1, nn.attrs.length, ac1⟩, nn.up, ⟨kp1, kn1, kc1⟩, nn.hasS, ⟨sp1, sn1, sc1⟩, nn.inS⟩ : Raw)).toArray 50)).drew wr.heap.size (⟨nn.live, nn.tag, nn.text, ⟨ap2, nn.attrs.length, ac2⟩, nn.up, ⟨kp2, kn2, kc2⟩, nn.hasS, ⟨sp2, sn2, sc2⟩, nn.inS⟩ : Raw) := (box_new wr (⟨nn.live, nn.tag, nn.text, ⟨ap2, nn.attrs.length, ac2⟩, nn.up, ⟨kp2, kn2, kc2⟩, nn.hasS, ⟨sp2, sn2, sc2⟩, nn.inS⟩ : Raw) 50).keeps (keeps_drew (keeps_alloc _ _))
        have bX : BoxAt ((wr.alloc (.cells (Raw.cells (⟨nn.live, nn.tag, nn.text, ⟨ap2, nn.attrs.length, ac2⟩, nn.up, ⟨kp2, kn2, kc2⟩, nn.hasS, ⟨sp2, sn2, sc2⟩, nn.inS⟩ : Raw)).toArray 50)).alloc (.cells (Raw.cells (⟨nn.live, nn.tag, nn.text, ⟨ap1, nn.attrs.length, ac1⟩, nn.up, ⟨kp1, kn1, kc1⟩, nn.hasS, ⟨sp1, sn1, sc1⟩, nn.inS⟩ : Raw)).toArray 50)).drew (wr.heap.size + 1) (⟨nn.live, nn.tag, nn.text, ⟨ap1, nn.attrs.length, ac1⟩, nn.up, ⟨kp1, kn1, kc1⟩, nn.hasS, ⟨sp1, sn1, sc1⟩, nn.inS⟩ : Raw) := by
          have h := (box_new (wr.alloc (.cells (Raw.cells (⟨nn.live, nn.tag, nn.text, ⟨ap2, nn.attrs.length, ac2⟩, nn.up, ⟨kp2, kn2, kc2⟩, nn.hasS, ⟨sp2, sn2, sc2⟩, nn.inS⟩ : Raw)).toArray 50)) (⟨nn.live, nn.tag, nn.text, ⟨ap1, nn.attrs.length, ac1⟩, nn.up, ⟨kp1, kn1, kc1⟩, nn.hasS, ⟨sp1, sn1, sc1⟩, nn.inS⟩ : Raw) 50).keeps (keeps_drew (Keeps.refl _))
          rw [show (wr.alloc (.cells (Raw.cells (⟨nn.live, nn.tag, nn.text, ⟨ap2, nn.attrs.length, ac2⟩, nn.up, ⟨kp2, kn2, kc2⟩, nn.hasS, ⟨sp2, sn2, sc2⟩, nn.inS⟩ : Raw)).toArray 50)).heap.size = wr.heap.size + 1 by simp] at h
          exact h
        have KQ : Keeps wr ((wr.alloc (.cells (Raw.cells (⟨nn.live, nn.tag, nn.text, ⟨ap2, nn.attrs.length, ac2⟩, nn.up, ⟨kp2, kn2, kc2⟩, nn.hasS, ⟨sp2, sn2, sc2⟩, nn.inS⟩ : Raw)).toArray 50)).alloc (.cells (Raw.cells (⟨nn.live, nn.tag, nn.text, ⟨ap1, nn.attrs.length, ac1⟩, nn.up, ⟨kp1, kn1, kc1⟩, nn.hasS, ⟨sp1, sn1, sc1⟩, nn.inS⟩ : Raw)).toArray 50)).drew := keeps_drew (keeps_alloc' _ (keeps_alloc _ _))
        have BQ : Below w.heap.size w ((wr.alloc (.cells (Raw.cells (⟨nn.live, nn.tag, nn.text, ⟨ap2, nn.attrs.length, ac2⟩, nn.up, ⟨kp2, kn2, kc2⟩, nn.hasS, ⟨sp2, sn2, sc2⟩, nn.inS⟩ : Raw)).toArray 50)).alloc (.cells (Raw.cells (⟨nn.live, nn.tag, nn.text, ⟨ap1, nn.attrs.length, ac1⟩, nn.up, ⟨kp1, kn1, kc1⟩, nn.hasS, ⟨sp1, sn1, sc1⟩, nn.inS⟩ : Raw)).toArray 50)).drew := ((hnx.alloc hbz _).alloc (by simp; omega) _).drew
        simp only [Raw.cells] at bX bY KQ BQ
        generalize hWQ : (World.alloc _ _).drew = W at bX bY KQ BQ ⊢
        generalize wr.heap.size + 1 = X at *
        generalize wr.heap.size = Y at *
        clear x0 x1 x2 x3 x4 x5 x6 x7 x8 y0 y1 y2 y3 y4 y5 y6 y7 y8 SS
        have K1 := K1.keeps KQ
        have K2 := K2.keeps KQ
        have S1 := S1.keeps KQ
        have S2 := S2.keeps KQ
        have A1 := A1.keeps KQ
        have A2 := A2.keeps KQ
        clear KQ hWQ hnx hbz
        have CX := bX
        have CY := bY
        obtain ⟨e0, e1, e2, e3, e4, e5, e6, e7, e8⟩ := bX
        obtain ⟨g0, g1, g2, g3, g4, g5, g6, g7, g8⟩ := bY
        simp only at e0 e1 e2 e3 e4 e5 e6 e7 e8 g0 g1 g2 g3 g4 g5 g6 g7 g8
        have q1 : (nn.tag.toList == nn.tag.toList) = true := by simp
        have q2 : (nn.text.toList == nn.text.toList) = true := by simp
        have q3 : (nn.up == nn.up) = true := by simp
        have AX : Hid (AttrsAt W (.slice ap1 nn.attrs.length ac1) nn.attrs) := A1
        have AY : Hid (AttrsAt W (.slice ap2 nn.attrs.length ac2) nn.attrs) := A2
        clear A1 A2
        go_wp2_with (first
          | (go_at_call_of 16 kc1; refine (rsameints_true K1 K2).mono ?_; rintro e w5 ⟨rfl, hb5⟩; have J5 := keeps_below hb5 (Nat.le_refl _); have e75 := J5 _ _ e7; have g75 := J5 _ _ g7; have e35 := J5 _ _ e3; have g35 := J5 _ _ g3; have S15 := S1.keeps J5; have S25 := S2.keeps J5)
          | (go_at_call_of 16 sc1; refine (rsameints_true S15 S25).mono ?_; rintro e w6 ⟨rfl, hb6⟩; have J6 := J5.trans (keeps_below hb6 (Nat.le_refl _)); have e36 := J6 _ _ e3; have g36 := J6 _ _ g3; have B6 := (BQ.trans (hb5.mono BQ.size)).trans (hb6.mono (Nat.le_trans BQ.size hb5.size)); have AX6 : Hid (AttrsAt w6 (.slice ap1 nn.attrs.length ac1) nn.attrs) := AX.out.keeps J6; have AY6 : Hid (AttrsAt w6 (.slice ap2 nn.attrs.length ac2) nn.attrs) := AY.out.keeps J6))
        obtain ⟨_, _, he1, hx1, hx2, _, at1⟩ := AX6.out.at
        cases he1
        obtain ⟨_, _, he2, hy1, hy2, _, at2⟩ := AY6.out.at
        cases he2
        have T1 : Hid (∀ i (hi : i < nn.attrs.length), ∃ b o, ap1 = some ⟨b, o, none⟩ ∧ w6.cell? ⟨b, o + i * 2, none⟩ = some (.string nn.attrs[i].1) ∧ w6.cell? ⟨b, o + i * 2 + 1, none⟩ = some (.string nn.attrs[i].2)) := at1
        have T2 : Hid (∀ i (hi : i < nn.attrs.length), ∃ b o, ap2 = some ⟨b, o, none⟩ ∧ w6.cell? ⟨b, o + i * 2, none⟩ = some (.string nn.attrs[i].1) ∧ w6.cell? ⟨b, o + i * 2 + 1, none⟩ = some (.string nn.attrs[i].2)) := at2
        clear at1 at2 AX6 AY6 AX AY J5 J6 hb5 hb6 e75 g75 e35 g35 S15 S25 K1 K2 S1 S2 BQ CX CY e0 e1 e2 e3 e4 e5 e6 e7 e8 g0 g1 g2 g3 g4 g5 g6 g7 g8 q1 q2 q3
        go_loopw [95] (fun iv wq => ∃ i : Nat, i ≤ nn.attrs.length ∧ iv = .int .i64 i ∧ Below w6.heap.size w6 wq) (fun i _ => nn.attrs.length - (intOf i).toNat)
        case atStart => exact ⟨0, Nat.zero_le _, rfl, Below.refl _ _⟩
        case round =>
          obtain ⟨i, hi, rfl, hq6⟩ := hrel
          have J7 := keeps_below hq6 (Nat.le_refl _)
          have e37 := J7 _ _ e36
          have g37 := J7 _ _ g36
          by_cases hil : i < nn.attrs.length
          · obtain ⟨f1, p1, rfl, k1, k2⟩ := T1.out i hil
            obtain ⟨f2, p2, rfl, k3, k4⟩ := T2.out i hil
            have z1 := J7 _ _ k1
            have z2 := J7 _ _ k2
            have z3 := J7 _ _ k3
            have z4 := J7 _ _ k4
            clear k1 k2 k3 k4
            generalize nn.attrs[i] = at0 at *
            obtain ⟨nm, vl⟩ := at0
            simp only at z1 z2 z3 z4
            have hne := fun W => attr_neq W nm vl
            have hgd := attr_guard
            have hii : (i : Int) < (nn.attrs.length : Int) := by omega
            go_wp2_with fail
            go_quiet (fail)
            go_wp2_with fail
            go_roundw
            case rel => exact ⟨i + 1, by omega, by go_num, hq6.trans ⟨rfl, rfl, rfl, Nat.le_refl _, fun _ _ => rfl⟩⟩
            case measure => simp [intOf]; omega
          · obtain rfl : i = nn.attrs.length := by omega
            go_wp2_with fail
            go_roundw
            case rel => exact ⟨j + 1, by omega, by go_num, B6.trans (hq6.mono B6.size)⟩
            case measure => simp [intOf]; omega
    · obtain rfl : j = d.length := by omega
      go_wp2_with fail
      go_ret
      exact ⟨rfl, hnx⟩
end Go.Proofs.Ytdfkhjckpdokeab

/-
  THE WALK of tnlaw3's FlatPlain.
-/
namespace Go.Proofs.Ytdfkhjckpdokeab
open Go.RowKit

theorem infoC : (Try.prog.info? 28).map (fun i => (i.zero, i.size, i.bytes)) = some (some (.agg #[.int .i64 0, .int .i64 0, .int .i64 0, .int .i64 0, .string ⟨#[]⟩, .string ⟨#[]⟩]), 6, 64) := by kernel_rfl
/-- a slice of changes of the call's own -/
def OwnC (w : World) (B : Nat) (v : Value) (l : List Tn.Chg) : Prop := w.ownsRow B 28 6 v l.length (l.flatMap chc)
theorem OwnC.nil (w : World) (B : Nat) : OwnC w B (.slice none 0 0) [] := World.ownsRow_nil _ _ _ _
theorem OwnC.shape {w : World} {B : Nat} {v : Value} {l : List Tn.Chg} (h : OwnC w B v l) : ∃ p c, v = .slice p l.length c := owns_shape h
theorem chgs_of_owns {w : World} {B : Nat} {v : Value} {l : List Tn.Chg} (h : OwnC w B v l) : ChgsAt w v l := by
  obtain ⟨p, c, e, h1, h2, _, h4⟩ := cells_of_owns h
  exact ⟨p, c, e, h1, h2, h4⟩
theorem append_chg1 {w0 wr : World} {ops : Array Oper} {rest : List Oper} {o : Oper} {a : Act} {Q : Exit → Act → World → Prop} (hgd : o.guard = none)
    (s x : Operand) (ho : o.op = Op.call { callee := Callee.builtin Builtin.append, args := #[s, x], argTypes := #[22, 22] }) {B : Nat} {v : Value} {l : List Tn.Chg} (y : Tn.Chg)
    (hs : a.eval s = v) (hx : a.eval x = .slice (some ⟨wr.heap.size, 0, none⟩) 1 1) (hown : OwnC wr B v l) (hnx : Below B w0 wr) (hB : B ≤ wr.heap.size) (hsz : l.length < 10000000)
    (h : ∀ v' w1, OwnC w1 B v' (l ++ [y]) → Below B w0 w1 → wpList Try.prog ops Q rest (a.put o.dst v') w1) :
    wpList Try.prog ops Q (o :: rest) a (wr.alloc (.cells #[.int .i64 y.kind, .int .i64 y.node, .int .i64 y.to, .int .i64 y.before, .string y.name, .string y.value] 28)) := by
  obtain ⟨i0, hi, hz0, hz1, hz2⟩ := info_parts infoC
  unfold OwnC at hown h
  refine wpList_append_own _ hgd s x 22 ho B 28 i0 (.agg #[.int .i64 0, .int .i64 0, .int .i64 0, .int .i64 0, .string ⟨#[]⟩, .string ⟨#[]⟩]) 6 64 Try.underlying22 hi hz0 hz1 hz2 rfl (by decide) v _ _ hs (hown.alloc _) ⟨_, 0, none⟩ 1 1 (chc y) hx rfl ?_ ?_ ?_ ?_ ?_ ?_
  · intro j u hu
    rw [add_at, Nat.zero_add, World.cell?_alloc_new]
    rw [← hu]
    simp [chc]
  · intro u hu; simp [chc] at hu; rcases hu with rfl | rfl | rfl | rfl | rfl | rfl <;> rfl
  · unfold maxLen; omega
  · omega
  · simp; omega
  · intro v' w1 h1 h2 _
    have hn := (hnx.alloc hB (.cells #[.int .i64 y.kind, .int .i64 y.node, .int .i64 y.to, .int .i64 y.before, .string y.name, .string y.value] 28)).grown h2 (by simp; omega) (fun j hj => (hown.lt j hj).1)
    exact h v' w1 (by simpa using h1) hn

/-- the changes that make no shadow tree -/
def plainL (l : List Tn.Chg) : List Tn.Chg := l.filter fun x => !(x.kind == 8)
theorem plainL_succ (l : List Tn.Chg) (j : Nat) (h : j < l.length) : plainL (l.take (j + 1)) = plainL (l.take j) ++ (if l[j].kind == 8 then [] else [l[j]]) := by
  unfold plainL
  rw [List.take_succ_eq_append_getElem h, List.filter_append]
  congr 1
  cases hp : (l[j].kind == 8) <;> simp [hp]

set_option maxHeartbeats 1600000 in
set_option maxRecDepth 100000 in
theorem plain_walk {w : World} {vl : Value} {l : List Tn.Chg} (hl : ChgsAt w vl l) (hsz : ∀ x ∈ l, x.value.size ≤ 4194304 ∧ x.name.size ≤ 4194304) (hll : l.length ≤ 4194304) :
    Calls Try.prog 6 #[vl] w fun e w' => e = .returned (.bool true) ∧ Below w.heap.size w w' := by
  obtain ⟨p, cc, rfl, h1, h2, hat⟩ := hl.at
  have T : Hid (∀ j (hj : j < l.length), ∃ b o, p = some ⟨b, o, none⟩ ∧ w.cell? ⟨b, o + j * 6, none⟩ = some (.int .i64 l[j].kind) ∧ w.cell? ⟨b, o + j * 6 + 1, none⟩ = some (.int .i64 l[j].node) ∧ w.cell? ⟨b, o + j * 6 + 2, none⟩ = some (.int .i64 l[j].to) ∧
      w.cell? ⟨b, o + j * 6 + 3, none⟩ = some (.int .i64 l[j].before) ∧ w.cell? ⟨b, o + j * 6 + 4, none⟩ = some (.string l[j].name) ∧ w.cell? ⟨b, o + j * 6 + 5, none⟩ = some (.string l[j].value)) := hat
  have hB := build_good (plainL l)
  have hP : ∀ j, (Tn.nd (Tn.build (plainL l)) j).hasS = false := build_plain (fun x hx => by unfold plainL at hx; simp at hx; exact hx.2)
  have hFt := build_fit (plainL l)
  have hO := build_okd (plainL l)
  have hBd : ∀ (W : World) (v : Value), ChgsAt W v (plainL l) → Calls Try.prog 8 #[v] W fun e w' => ∃ g c rs, e = .returned (.slice (some ⟨g, 0, none⟩) rs.length c) ∧ DocAt w' g 0 c rs (Tn.build (plainL l)) ∧ Below W.heap.size W w' :=
    fun W v hv => rbuild_good hv (fun x hx => hsz x (by unfold plainL at hx; simp at hx; exact hx.1))
  obtain ⟨r, hr, hR⟩ := hB.tr
  have hlv : Tn.lvD (Tn.build (plainL l)) 0 = true := hr.1.root
  have hen : Tn.Ends Tn.fuel (Tn.build (plainL l)) 0 := Tn.ends_of hr hR Tn.fuel 0 hlv (by unfold Tn.fuel; omega)
  have hsh : shownF Tn.fuel (Tn.build (plainL l)) 0 = Tn.all Tn.fuel (Tn.build (plainL l)) 0 := plain_shown hP (fun j => (hFt j).noS (hP j)) hr _ _ hlv
  have hfew := few_of hB
  have HS : ∀ (W : World) (g c : Nat) (rs : List Raw), DocAt W g 0 c rs (Tn.build (plainL l)) → Calls Try.prog 23 #[.slice (some ⟨g, 0, none⟩) rs.length c] W fun e w' => ∃ v, e = .returned v ∧ OwnI w' W.heap.size v (Tn.all Tn.fuel (Tn.build (plainL l)) 0) ∧ Below W.heap.size W w' := by
    intro W g c rs hd
    have := fshown_any hd hO (plain_end hP hr _ _ hlv hen) (by rw [hsh]; exact Nat.le_trans (hfew _ _) (by decide))
    rw [hsh] at this
    exact this
  have HA : ∀ (W : World) (g c : Nat) (rs : List Raw), DocAt W g 0 c rs (Tn.build (plainL l)) → Calls Try.prog 27 #[.slice (some ⟨g, 0, none⟩) rs.length c, .int .i64 0] W fun e w' => ∃ v, e = .returned v ∧ OwnI w' W.heap.size v (Tn.all Tn.fuel (Tn.build (plainL l)) 0) ∧ Below W.heap.size W w' :=
    fun W g c rs hd => rall_own hfew Tn.fuel 0 W hd hen
  have QS : Hid _ := HS
  have QA : Hid _ := HA
  have QB : Hid _ := hBd
  clear hat hl hsz HS HA hBd hsh hfew hen hlv hR hr r hO hFt hP hB
  generalize Tn.build (plainL l) = d at *
  go_enter Try.func6, Try.ntmps6
  go_wp2_with (go_at_call 25; refine (lalive_any _).mono ?_; rintro e w1 ⟨rfl, hb1⟩)
  go_loopw [3, 5, 11] (fun mv _ iv wr => ∃ (j : Nat), j ≤ l.length ∧ iv = .int .i64 j ∧ OwnC wr w.heap.size mv (plainL (l.take j)) ∧ Below w.heap.size w wr) (fun _ _ i _ => l.length - (intOf i).toNat)
  case atStart => exact ⟨0, Nat.zero_le _, rfl, OwnC.nil _ _, hb1⟩
  case round =>
    obtain ⟨j, hj, rfl, hown, hnx⟩ := hrel
    have hbz := hnx.size
    by_cases hlt : j < l.length
    · obtain ⟨b1, o1, rfl, k0, k1, k2, k3, k4, k5⟩ := T.out j hlt
      have KR := keeps_below hnx (Nat.le_refl _)
      have y0 := KR _ _ k0
      have y1 := KR _ _ k1
      have y2 := KR _ _ k2
      have y3 := KR _ _ k3
      have y4 := KR _ _ k4
      have y5 := KR _ _ k5
      clear k0 k1 k2 k3 k4 k5
      have F : Hid _ := plainL_succ l j hlt
      have hpl : (plainL (l.take j)).length < 10000000 := by
        have h1 : (plainL (l.take j)).length ≤ (l.take j).length := List.length_filter_le _ _
        rw [List.length_take] at h1
        omega
      generalize l[j] = x at *
      generalize plainL (l.take j) = pj at *
      obtain ⟨kd, nd0, tt, bf, nm, vl⟩ := x
      simp only at y0 y1 y2 y3 y4 y5 F
      have OA : OwnC (wr.alloc (.cells #[.int .i64 kd, .int .i64 nd0, .int .i64 tt, .int .i64 bf, .string nm, .string vl] 28)) w.heap.size _ pj := World.ownsRow.alloc hown _
      have BA := hnx.alloc hbz (.cells #[.int .i64 kd, .int .i64 nd0, .int .i64 tt, .int .i64 bf, .string nm, .string vl] 28)
      have hAz : w.heap.size ≤ (wr.alloc (.cells #[.int .i64 kd, .int .i64 nd0, .int .i64 tt, .int .i64 bf, .string nm, .string vl] 28)).heap.size := by simp; omega
      cases hk : (kd == 8) with
      | true =>
        have F2 : Hid (plainL (l.take (j + 1)) = pj) := by show _ = _; rw [F.out, hk]; simp
        clear F
        go_wp2_with fail
        go_roundw
        case rel => exact ⟨j + 1, by omega, by go_num, by rw [F2.out]; exact OA, BA⟩
        case measure => simp [intOf]; omega
      | false =>
        have F2 : Hid (plainL (l.take (j + 1)) = pj ++ [⟨kd, nd0, tt, bf, nm, vl⟩]) := by show _ = _; rw [F.out, hk]; rfl
        clear F
        have x0 : (wr.alloc (.cells #[.int .i64 kd, .int .i64 nd0, .int .i64 tt, .int .i64 bf, .string nm, .string vl] 28)).cell? ⟨wr.heap.size, 0, none⟩ = some (.int .i64 kd) := by rw [World.cell?_alloc_new]; rfl
        have x1 : (wr.alloc (.cells #[.int .i64 kd, .int .i64 nd0, .int .i64 tt, .int .i64 bf, .string nm, .string vl] 28)).cell? ⟨wr.heap.size, 1, none⟩ = some (.int .i64 nd0) := by rw [World.cell?_alloc_new]; rfl
        have x2 : (wr.alloc (.cells #[.int .i64 kd, .int .i64 nd0, .int .i64 tt, .int .i64 bf, .string nm, .string vl] 28)).cell? ⟨wr.heap.size, 2, none⟩ = some (.int .i64 tt) := by rw [World.cell?_alloc_new]; rfl
        have x3 : (wr.alloc (.cells #[.int .i64 kd, .int .i64 nd0, .int .i64 tt, .int .i64 bf, .string nm, .string vl] 28)).cell? ⟨wr.heap.size, 3, none⟩ = some (.int .i64 bf) := by rw [World.cell?_alloc_new]; rfl
        have x4 : (wr.alloc (.cells #[.int .i64 kd, .int .i64 nd0, .int .i64 tt, .int .i64 bf, .string nm, .string vl] 28)).cell? ⟨wr.heap.size, 4, none⟩ = some (.string nm) := by rw [World.cell?_alloc_new]; rfl
        have x5 : (wr.alloc (.cells #[.int .i64 kd, .int .i64 nd0, .int .i64 tt, .int .i64 bf, .string nm, .string vl] 28)).cell? ⟨wr.heap.size, 5, none⟩ = some (.string vl) := by rw [World.cell?_alloc_new]; rfl
        go_upto_region 8 with fail
        generalize wr.alloc (.cells #[.int .i64 kd, .int .i64 nd0, .int .i64 tt, .int .i64 bf, .string nm, .string vl] 28) = wA at *
        go_wp2_with (at_builtin; refine append_chg1 (w0 := w) rfl _ _ rfl ⟨kd, nd0, tt, bf, nm, vl⟩ rfl rfl OA BA hAz hpl ?_; intro v' w2 o2 n2)
        go_roundw
        case rel => exact ⟨j + 1, by omega, by go_num, by rw [F2.out]; exact o2, n2⟩
        case measure => simp [intOf]; omega
    · obtain rfl : j = l.length := by omega
      rw [List.take_length] at hown
      have hCh := QB.out _ _ (chgs_of_owns hown)
      go_wp2_with (first
        | (go_at_call 8; refine hCh.mono ?_; rintro e w2 ⟨g, c, rs, rfl, hd2, hb2⟩; have D2 : Hid (DocAt w2 g 0 c rs d) := hd2; clear hd2)
        | (go_at_call 23; refine (QS.out _ _ _ _ D2.out).mono ?_; rintro e w3 ⟨v3, rfl, ho3, hb3⟩; have D3 : Hid (DocAt w3 g 0 c rs d) := D2.out.keeps (keeps_below hb3 (Nat.le_refl _)))
        | (go_at_call 27; refine (QA.out _ _ _ _ D3.out).mono ?_; rintro e w4 ⟨v4, rfl, ho4, hb4⟩; have ho3' := ho3.below hb4 (Nat.le_refl _))
        | (go_at_call 16; refine (rsameints_true (ints_of_owns ho3') (ints_of_owns ho4)).mono ?_; rintro e w5 ⟨rfl, hb5⟩))
      go_ret
      refine ⟨rfl, ?_⟩
      have B2 := hnx.trans (hb2.mono hnx.size)
      have B3 := B2.trans (hb3.mono B2.size)
      have B4 := B3.trans (hb4.mono B3.size)
      exact B4.trans (hb5.mono B4.size)
end Go.Proofs.Ytdfkhjckpdokeab
