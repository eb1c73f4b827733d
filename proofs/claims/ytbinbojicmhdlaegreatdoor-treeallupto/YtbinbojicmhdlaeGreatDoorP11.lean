/-
  OWN WORK: Qhi, Ote, Oal, Oat, Nmb, Nmc, Wnu, Tma, Had, Dtx, Vca, Nfr, Tit.
-/
import Derived.Test.YtbinbojicmhdlaeGreatDoorP10
import Derived.Test.YtbinbojicmhdlaeGreatDoorP8
import Derived.Test.YtbinbojicmhdlaeGreatDoorP6
import Derived.Maps.OwnOps
import Derived.Maps.Views
import Derived.Test.YtbinbojicmhdlaeGreatDoorP4
import Derived.Test.YtbinbojicmhdlaeGreatDoorP9
import Derived.Maps.OwnSet
import Derived.Deep.AppendLies
/-
  THE WALK of the reference's Hidden.
-/
namespace Go.Proofs.YtbinbojicmhdlaeGreatDoor
open Go.RowKit

set_option maxHeartbeats 6400000 in
set_option maxRecDepth 100000 in
theorem qhid_any {b o c : Nat} {rs : List Raw} {d : Tn.Dc} : ∀ (f : Nat) (n : Int) (w : World), Cx w b o c rs d → (∀ k : Nat, n = (k : Int) → Tn.lvD d k = true → posD d k < f) →
    Calls Tryz.prog 22 #[.slice (some ⟨b, o, none⟩) rs.length c, .int .i64 n] w fun e w' => e = .returned (.bool (hidD d n)) ∧ Below w.heap.size w w' := by
  intro f
  induction f with
  | zero =>
    intro n w hc hf
    have his : Tn.isN d n false = false := by
      cases hi : Tn.isN d n false with
      | false => rfl
      | true =>
        obtain ⟨k, rfl, _, hl⟩ := isN_nat hi
        exact absurd (hf k rfl hl) (by omega)
    have E : Hid (hidD d n = true) := hid_nil hc.fine his
    have SI := ris_any hc.doc n false
    rw [his] at SI
    clear hc hf his
    go_enter Tryz.func22, Tryz.ntmps22
    go_wp2_with (go_at_call 52; refine SI.mono ?_; rintro e w1 ⟨rfl, hw1⟩; subst hw1)
    go_ret
    exact ⟨by rw [E.out]; rfl, Below.refl _ _⟩
  | succ f ih =>
    intro n w hc hf
    have SI := ris_any hc.doc n false
    cases his : Tn.isN d n false with
    | false =>
      have E : Hid (hidD d n = true) := hid_nil hc.fine his
      rw [his] at SI
      clear hc hf his ih
      go_enter Tryz.func22, Tryz.ntmps22
      go_wp2_with (go_at_call 52; refine SI.mono ?_; rintro e w1 ⟨rfl, hw1⟩; subst hw1)
      go_ret
      exact ⟨by rw [E.out]; rfl, Below.refl _ _⟩
    | true =>
      obtain ⟨k, rfl, hkl, hlv⟩ := isN_nat his
      have hF := hc.fine
      have HC := hid_cons hF his
      have hpk := hf k rfl hlv
      rw [his] at SI
      have S1 := rattr_all hc.doc (k : Int) ⟨#[104, 105, 100, 100, 101, 110]⟩
      have S2 : ∀ W, Below w.heap.size w W → Calls Tryz.prog 53 #[.slice (some ⟨b, o, none⟩) rs.length c, .int .i64 (k : Int), .string ⟨#[97, 114, 105, 97, 45, 104, 105, 100, 100, 101, 110]⟩] W fun e w' => e = .returned (.string (saidN d (k : Int) ⟨#[97, 114, 105, 97, 45, 104, 105, 100, 100, 101, 110]⟩)) ∧ Below W.heap.size W w' := fun W hb => qsaid_any (hc.below hb).doc hc.vn _ _
      have hz := said_size hc.vn (k : Int) ⟨#[97, 114, 105, 97, 45, 104, 105, 100, 100, 101, 110]⟩
      have S3 : ∀ W, Calls Tryz.prog 49 #[.string (saidN d (k : Int) ⟨#[97, 114, 105, 97, 45, 104, 105, 100, 100, 101, 110]⟩)] W fun e w' => e = .returned (.string (lowS (saidN d (k : Int) ⟨#[97, 114, 105, 97, 45, 104, 105, 100, 100, 101, 110]⟩))) ∧ Below W.heap.size W w' := fun W => Wd.rlower_any _ W hz
      have SU : ∀ W, Below w.heap.size w W → Calls Tryz.prog 54 #[.slice (some ⟨b, o, none⟩) rs.length c, .int .i64 (k : Int)] W fun e w' => e = .returned (.int .i64 (upF d (k : Int))) ∧ Below W.heap.size W w' := fun W hb => qup_any (hc.below hb).doc hF _
      have CE : concD d (k : Int) = ((attrN d (k : Int) ⟨#[104, 105, 100, 100, 101, 110]⟩).isSome || ((lowS (saidN d (k : Int) ⟨#[97, 114, 105, 97, 45, 104, 105, 100, 100, 101, 110]⟩)).toList == [116, 114, 117, 101])) := rfl
      rw [CE] at HC
      clear CE hz
      have SH : ∀ m : Nat, upF d (k : Int) = (m : Int) → ∀ W, Below w.heap.size w W → Calls Tryz.prog 22 #[.slice (some ⟨b, o, none⟩) rs.length c, .int .i64 (m : Int)] W fun e w' => e = .returned (.bool (hidD d (m : Int))) ∧ Below W.heap.size W w' := fun m hm W hb => ih (m : Int) W (hc.below hb) (fun k' e _ => by
        rcases up_cases hF (k : Int) with e1 | ⟨m2, k2, e1, e2, _, _, e5⟩
        · omega
        · have a1 : m = m2 := by omega
          have a2 : k = k2 := by omega
          have a3 : k' = m2 := by omega
          rw [a3]
          rw [a2] at hpk
          omega)
      have UC : upF d (k : Int) = -1 ∨ ∃ m : Nat, upF d (k : Int) = (m : Int) := by
        rcases up_cases hF (k : Int) with e1 | ⟨m2, k2, e1, _⟩
        · exact Or.inl e1
        · exact Or.inr ⟨m2, e1⟩
      clear hc hf ih
      have E : Hid (hidD d (k : Int) = ((attrN d (k : Int) ⟨#[104, 105, 100, 100, 101, 110]⟩).isSome || ((lowS (saidN d (k : Int) ⟨#[97, 114, 105, 97, 45, 104, 105, 100, 100, 101, 110]⟩)).toList == [116, 114, 117, 101]) || (decide (k ≠ 0) && (decide (upF d (k : Int) < 0) || hidD d (upF d (k : Int)))))) := HC
      clear HC
      generalize hidD d (k : Int) = res at *
      generalize lowS (saidN d (k : Int) ⟨#[97, 114, 105, 97, 45, 104, 105, 100, 100, 101, 110]⟩) = z at *
      generalize saidN d (k : Int) ⟨#[97, 114, 105, 97, 45, 104, 105, 100, 100, 101, 110]⟩ = y at *
      generalize valN d (k : Int) ⟨#[104, 105, 100, 100, 101, 110]⟩ = v at *
      generalize (attrN d (k : Int) ⟨#[104, 105, 100, 100, 101, 110]⟩).isSome = q at *
      cases q with
      | true =>
        have E2 : Hid (res = true) := by show _ = _; rw [E.out]; rfl
        clear E UC SH SU S2 S3
        go_enter Tryz.func22, Tryz.ntmps22
        go_wp2_with (first
          | (go_at_call 52; refine SI.mono ?_; rintro e w1 ⟨rfl, hw1⟩; subst hw1)
          | (go_at_call 30; refine S1.mono ?_; rintro e w2 ⟨rfl, hb2⟩))
        go_ret
        exact ⟨by rw [E2.out]; rfl, hb2⟩
      | false =>
        cases hzt : (z.toList == [116, 114, 117, 101]) with
        | true =>
          have E2 : Hid (res = true) := by show _ = _; rw [E.out, hzt]; rfl
          clear E UC SH SU
          go_enter Tryz.func22, Tryz.ntmps22
          go_wp2_with (first
            | (go_at_call 52; refine SI.mono ?_; rintro e w1 ⟨rfl, hw1⟩; subst hw1)
            | (go_at_call 30; refine S1.mono ?_; rintro e w2 ⟨rfl, hb2⟩)
            | (go_at_call 53; refine (S2 _ hb2).mono ?_; rintro e w3 ⟨rfl, hb3⟩; have B3 := hb2.trans (hb3.mono hb2.size))
            | (go_at_call 49; refine (S3 _).mono ?_; rintro e w4 ⟨rfl, hb4⟩; have B4 := B3.trans (hb4.mono B3.size)))
          go_ret
          exact ⟨by rw [E2.out]; rfl, B4⟩
        | false =>
          by_cases hk0 : k = 0
          · have E2 : Hid (res = false) := by show _ = _; rw [E.out, hzt, hk0]; rfl
            subst hk0
            clear E UC SH SU
            go_enter Tryz.func22, Tryz.ntmps22
            go_wp2_with (first
              | (go_at_call 52; refine SI.mono ?_; rintro e w1 ⟨rfl, hw1⟩; subst hw1)
              | (go_at_call 30; refine S1.mono ?_; rintro e w2 ⟨rfl, hb2⟩)
              | (go_at_call 53; refine (S2 _ hb2).mono ?_; rintro e w3 ⟨rfl, hb3⟩; have B3 := hb2.trans (hb3.mono hb2.size))
              | (go_at_call 49; refine (S3 _).mono ?_; rintro e w4 ⟨rfl, hb4⟩; have B4 := B3.trans (hb4.mono B3.size)))
            go_ret
            exact ⟨by rw [E2.out]; rfl, B4⟩
          · have hkq : ((k : Int) != 0) = true := by simp; omega
            have SU2 := SU
            rcases UC with hu | ⟨m, hu⟩
            · have E2 : Hid (res = true) := by show _ = _; rw [E.out, hzt, hu]; simp [hk0]
              rw [hu] at SU
              clear E SH hu hk0 SU2
              go_enter Tryz.func22, Tryz.ntmps22
              go_wp2_with (first
                | (go_at_call 52; refine SI.mono ?_; rintro e w1 ⟨rfl, hw1⟩; subst hw1)
                | (go_at_call 30; refine S1.mono ?_; rintro e w2 ⟨rfl, hb2⟩)
                | (go_at_call 53; refine (S2 _ hb2).mono ?_; rintro e w3 ⟨rfl, hb3⟩; have B3 := hb2.trans (hb3.mono hb2.size))
                | (go_at_call 49; refine (S3 _).mono ?_; rintro e w4 ⟨rfl, hb4⟩; have B4 := B3.trans (hb4.mono B3.size))
                | (go_at_call 54; refine (SU _ B4).mono ?_; rintro e w5 ⟨rfl, hb5⟩; have B5 := B4.trans (hb5.mono B4.size)))
              go_ret
              exact ⟨by rw [E2.out]; rfl, B5⟩
            · have hS := SH m hu
              have E2 : Hid (res = hidD d (m : Int)) := by
                show _ = _
                rw [E.out, hzt, hu]
                have : ¬ ((m : Int) < 0) := by omega
                simp [hk0, this]
              rw [hu] at SU SU2
              clear E SH hu hk0
              generalize hidD d (m : Int) = hm at *
              go_enter Tryz.func22, Tryz.ntmps22
              go_wp2_with (first
                | (go_at_call 52; refine SI.mono ?_; rintro e w1 ⟨rfl, hw1⟩; subst hw1)
                | (go_at_call 30; refine S1.mono ?_; rintro e w2 ⟨rfl, hb2⟩)
                | (go_at_call 53; refine (S2 _ hb2).mono ?_; rintro e w3 ⟨rfl, hb3⟩; have B3 := hb2.trans (hb3.mono hb2.size))
                | (go_at_call 49; refine (S3 _).mono ?_; rintro e w4 ⟨rfl, hb4⟩; have B4 := B3.trans (hb4.mono B3.size))
                | (go_at_call 54; refine (SU _ B4).mono ?_; clear SU; rintro e w5 ⟨rfl, hb5⟩; have B5 := B4.trans (hb5.mono B4.size); have J2 := SU2 w5 B5)
                | (go_at_call 54; refine J2.mono ?_; rintro e w6 ⟨rfl, hb6⟩; have B6 := B5.trans (hb6.mono B5.size))
                | (go_at_call 22; refine (hS _ B6).mono ?_; rintro e w7 ⟨rfl, hb7⟩; have B7 := B6.trans (hb7.mono B6.size)))
              go_ret
              exact ⟨by rw [E2.out]; rfl, B7⟩
end Go.Proofs.YtbinbojicmhdlaeGreatDoor

/-
  THE WALKS of RoleTells, and of tnlaw5.alive.
-/
namespace Go.Proofs.YtbinbojicmhdlaeGreatDoor
open Go.RowKit

theorem cx_build {w : World} {g c : Nat} {rs : List Raw} {l : List Tn.Chg} (hd : DocAt w g 0 c rs (Tn.build l)) (T : Kn.TabAt w) (hsz : ∀ x ∈ l, x.value.size ≤ 4194304 ∧ x.name.size ≤ 4194304) : Cx w g 0 c rs (Tn.build l) := ⟨hd, T, build_fine l, build_vn hsz⟩

theorem qrole_all {w : World} {b o c : Nat} {rs : List Raw} {d : Tn.Dc} (hc : Cx w b o c rs d) (n : Int) :
    Calls Tryz.prog 27 #[.slice (some ⟨b, o, none⟩) rs.length c, .int .i64 n] w fun e w' => e = .returned (.int .i64 (roleD d n)) ∧ Below w.heap.size w w' := qrole_any 60 n w hc (fun _ _ hk => pos_60 hc.fine hk)
theorem qhid_all {w : World} {b o c : Nat} {rs : List Raw} {d : Tn.Dc} (hc : Cx w b o c rs d) (n : Int) :
    Calls Tryz.prog 22 #[.slice (some ⟨b, o, none⟩) rs.length c, .int .i64 n] w fun e w' => e = .returned (.bool (hidD d n)) ∧ Below w.heap.size w w' := qhid_any 60 n w hc (fun _ _ hk => pos_60 hc.fine hk)

end Go.Proofs.YtbinbojicmhdlaeGreatDoor

/-
  THE WALK of tnlaw5.alive.
-/
namespace Go.Proofs.YtbinbojicmhdlaeGreatDoor
open Go.RowKit

end Go.Proofs.YtbinbojicmhdlaeGreatDoor

/-
  PLAIN MATHEMATICS: who asks for a role that needs nothing has it.
-/
namespace Go.Proofs.YtbinbojicmhdlaeGreatDoor
open Tn

end Go.Proofs.YtbinbojicmhdlaeGreatDoor

/-
  PLAIN MATHEMATICS: names are plain; what is said outright is said.
-/
namespace Go.Proofs.YtbinbojicmhdlaeGreatDoor
open Tn

theorem em_full : full emB = false := by decide +kernel

end Go.Proofs.YtbinbojicmhdlaeGreatDoor

/-
  PLAIN MATHEMATICS: nobody is asked twice; how long names are; who was asked is who was had, and what that one is shown in.
-/
namespace Go.Proofs.YtbinbojicmhdlaeGreatDoor
open Tn

/-! ### texts are no longer than what came in -/
def Vt (n : Nd) : Prop := n.text.size ≤ 4194304
theorem vt_stays (x : Chg) (hv : x.value.size ≤ 4194304) : Stays (fun _ n => Vt n) x := by
  refine ⟨fun _ _ _ h => h, fun _ _ _ _ _ h => h, fun _ n s l h _ _ => ?_, fun _ _ => nil_size, fun _ _ _ _ => hv, fun _ _ h _ => h, fun _ _ h _ => h, fun _ _ _ _ h _ => h, fun _ m s _ => ?_⟩
  · cases s <;> exact h
  · unfold newN
    split
    · exact hv
    · exact nil_size
theorem build_vt {l : List Chg} (hl : ∀ x ∈ l, x.value.size ≤ 4194304 ∧ x.name.size ≤ 4194304) (j : Nat) : Vt (nd (Tn.build l) j) :=
  build_stays (P := fun _ n => Vt n) (fun x hx => vt_stays x (hl x hx).1) (by show (root).text.size ≤ 4194304; decide) (fun _ _ => nil_size) j

/-! ### whom one may ask is a node -/
theorem find_lv {d : Dc} (h : Fine d) {n : Int} {id : ByteArray} {k : Nat} (hk : findD d n id = (k : Int)) : lvD d k = true := by
  unfold findD at hk
  split at hk
  · omega
  · obtain ⟨r, hr, _⟩ := h.good.tr
    split at hk
    · rename_i j hj
      have : j = k := by omega
      subst this
      exact (all_desc hr fuel 0 j (List.mem_of_find?_eq_some hj) hr.1.root).1
    · omega
theorem find_neg {d : Dc} {n : Int} {id : ByteArray} : findD d n id = -1 ∨ ∃ k : Nat, findD d n id = (k : Int) := by
  unfold findD
  split
  · exact Or.inl rfl
  · split
    · exact Or.inr ⟨_, rfl⟩
    · exact Or.inl rfl
theorem inside_lv {d : Dc} (h : Fine d) {l : List Cl} (hl : Forest d l) {n x : Nat} (hx : x ∈ insideD d l (n : Int)) : lvD d x = true := by
  unfold insideD at hx
  rcases List.mem_append.mp hx with hx | hx
  · exact (kid_par h (List.mem_filter.mp hx).1).2.1
  · obtain ⟨c, hc, e⟩ := List.mem_map.mp hx
    rw [← e]
    exact sh_lv h (hl.own c (List.mem_filter.mp hc).1).2.1
theorem all_lv {d : Dc} (h : Fine d) {x : Nat} (hx : x ∈ all fuel d 0) : lvD d x = true := by
  obtain ⟨r, hr, _⟩ := h.good.tr
  exact (all_desc hr fuel 0 x hx hr.1.root).1

/-! ### nobody twice -/
structure OkS (d : Dc) (s : St) : Prop where
  nodup : s.had.Nodup
  live : ∀ x ∈ s.had, lvD d x = true
  nodupL : s.lst.Nodup
  liveL : ∀ x ∈ s.lst, lvD d x = true
theorem OkS.few {d : Dc} (h : Fine d) {s : St} (o : OkS d s) : s.had.length ≤ 60 :=
  Nat.le_trans (nodup_le d.length s.had o.nodup (fun x hx => lv_lt (o.live x hx))) h.good.len.2
theorem OkS.add {d : Dc} {s : St} (o : OkS d s) {n : Nat} (hn : lvD d n = true) (hx : n ∉ s.had) : OkS d (st1 d n s) := by
  refine ⟨?_, ?_, o.nodupL, o.liveL⟩
  · unfold st1
    rw [List.nodup_append]
    exact ⟨o.nodup, by simp, fun a ha b hb e => by simp at hb; subst hb; subst e; exact hx ha⟩
  · unfold st1
    intro x h
    rw [List.mem_append, List.mem_singleton] at h
    rcases h with h | rfl
    · exact o.live x h
    · exact hn

/-- a list of nodes, none of them twice -/
structure OkL (d : Dc) (l : List Nat) : Prop where
  nodup : l.Nodup
  live : ∀ x ∈ l, lvD d x = true
theorem OkL.few {d : Dc} (h : Fine d) {l : List Nat} (o : OkL d l) : l.length ≤ 60 :=
  Nat.le_trans (nodup_le d.length l o.nodup (fun x hx => lv_lt (o.live x hx))) h.good.len.2
theorem OkS.okl {d : Dc} {s : St} (o : OkS d s) : OkL d s.lst := ⟨o.nodupL, o.liveL⟩
theorem OkL.add {d : Dc} {l : List Nat} (o : OkL d l) {n : Nat} (hn : lvD d n = true) (hx : n ∉ l) : OkL d (l ++ [n]) := by
  refine ⟨?_, fun x h => ?_⟩
  · rw [List.nodup_append]
    exact ⟨o.nodup, by simp, fun a ha b hb e => by simp at hb; subst hb; subst e; exact hx ha⟩
  · rw [List.mem_append, List.mem_singleton] at h
    rcases h with h | rfl
    · exact o.live x h
    · exact hn
/-- what comes of marking -/
structure Marked (d : Dc) (l t : List Nat) : Prop where
  ok : OkL d t
  len : l.length ≤ t.length
theorem Marked.trans {d : Dc} {l t u : List Nat} (h : Marked d l t) (k : Marked d t u) : Marked d l u := ⟨k.ok, Nat.le_trans h.len k.len⟩
theorem fold_mark {d : Dc} {g : List Nat → Nat → List Nat} (hg : ∀ l k, OkL d l → lvD d k = true → Marked d l (g l k)) : ∀ (ks l : List Nat), (∀ k ∈ ks, lvD d k = true) → OkL d l → Marked d l (ks.foldl g l)
  | [], l, _, o => ⟨o, Nat.le_refl _⟩
  | k :: ks, l, hk, o => by
    rw [List.foldl_cons]
    have h1 := hg l k o (hk k (by simp))
    exact h1.trans (fold_mark hg ks _ (fun x hx => hk x (by simp [hx])) h1.ok)
theorem mark_ok {d : Dc} (h : Fine d) {c : List Cl} (hc : Forest d c) : ∀ (f n : Nat) (l : List Nat), OkL d l → lvD d n = true → Marked d l (markF f d c n l)
  | 0, _, _, o, _ => ⟨o, Nat.le_refl _⟩
  | f + 1, n, l, o, hn => by
    rw [markF]
    split
    · exact ⟨o, Nat.le_refl _⟩
    · rename_i q
      have q : n ∉ l := by simpa using q
      have h1 : Marked d l (l ++ [n]) := ⟨o.add hn q, by simp⟩
      exact h1.trans (fold_mark (fun l k ol hk => mark_ok h hc f k l ol hk) _ _ (fun k hk => inside_lv h hc hk) h1.ok)

/-- who was asked: base, and the lines of those that were had -/
def Cov (d : Dc) (base : List Nat) (s : St) : Prop := ∀ k, k ∈ s.asked ↔ k ∈ base ∨ ∃ x ∈ s.had, k ∈ lineD d (x : Int)
theorem Cov.add {d : Dc} {base : List Nat} {s : St} (h : Cov d base s) (n : Nat) : Cov d base (st1 d n s) := by
  intro k
  unfold st1
  simp only [List.mem_append, List.mem_singleton]
  rw [h k]
  constructor
  · rintro ((h | ⟨x, hx, hk⟩) | h)
    · exact Or.inl h
    · exact Or.inr ⟨x, Or.inl hx, hk⟩
    · exact Or.inr ⟨n, Or.inr rfl, h⟩
  · rintro (h | ⟨x, hx | rfl, hk⟩)
    · exact Or.inl (Or.inl h)
    · exact Or.inl (Or.inr ⟨x, hx, hk⟩)
    · exact Or.inr hk

theorem lineF_len64 (d : Dc) (n : Nat) : (lineD d (n : Int)).length ≤ 64 := line_len d _
/-- what came of it: more were had; nobody twice; who was asked -/
structure Went (d : Dc) (s t : St) : Prop where
  ok : OkS d t
  sub : ∀ x ∈ s.had, x ∈ t.had
  len : s.had.length ≤ t.had.length
  cov : ∀ base, Cov d base s → Cov d base t
  ask : t.asked.length + 64 * s.had.length ≤ s.asked.length + 64 * t.had.length
theorem Went.refl {d : Dc} {s : St} (o : OkS d s) : Went d s s := ⟨o, fun _ h => h, Nat.le_refl _, fun _ h => h, Nat.le_refl _⟩
theorem Went.trans {d : Dc} {s t u : St} (h : Went d s t) (k : Went d t u) : Went d s u := ⟨k.ok, fun x hx => k.sub x (h.sub x hx), Nat.le_trans h.len k.len, fun b hb => k.cov b (h.cov b hb), by have := h.ask; have := k.ask; omega⟩

def VL : Nat := 4194306
/-- an answer of a namer that was asked for one that was not had -/
structure Said1 (d : Dc) (s : St) (r : ByteArray × St) : Prop where
  went : Went d s r.2
  more : s.had.length + 1 ≤ r.2.had.length
  size : r.1.size + 1 ≤ VL * (r.2.had.length - s.had.length)
/-- it answers so from m on -/
def Nok (d : Dc) (m : Nat) (nm : Nmr) : Prop := ∀ st n w, OkS d st → m ≤ st.had.length → lvD d n = true → n ∉ st.had → Said1 d st (nm st n w)

def sumS : List ByteArray → Nat
  | [] => 0
  | s :: l => s.size + 1 + sumS l
theorem sum_app : ∀ (a b : List ByteArray), sumS (a ++ b) = sumS a + sumS b
  | [], b => by simp [sumS]
  | x :: a, b => by
    rw [List.cons_append, sumS, sumS, sum_app a b]
    omega
theorem joined_sum : ∀ (l : List ByteArray), (Tx.joined (txs l)).length ≤ sumS l
  | [] => by simp [txs, Tx.joined_nil]
  | [x] => by
    show (Tx.joined [x.data.toList]).length ≤ sumS [x]
    rw [Tx.joined_one, sumS, sumS, ← Lib.size_eq]
    omega
  | x :: y :: l => by
    have h := joined_sum (y :: l)
    show (Tx.joined (x.data.toList :: y.data.toList :: txs l)).length ≤ sumS (x :: y :: l)
    rw [Tx.joined_cons, List.length_append, List.length_cons, sumS, ← Lib.size_eq]
    have e : (Tx.joined (txs (y :: l))).length = (Tx.joined (y.data.toList :: txs l)).length := rfl
    omega
theorem joinB_size (l : List ByteArray) : (joinB l).size ≤ sumS l := joined_sum l
theorem sqz_size (s : ByteArray) : (Wd.sqz s).size ≤ s.size := by
  have := Wd.joined_len s
  exact this

structure EachR (d : Dc) (s t : List ByteArray × St) : Prop where
  went : Went d s.2 t.2
  sum : sumS t.1 ≤ sumS s.1 + VL * (t.2.had.length - s.2.had.length)
  len : t.1.length ≤ s.1.length + (t.2.had.length - s.2.had.length)

/-- one that says so, whoever is asked -/
def Nok1 (d : Dc) (m : Nat) (nm : St → Nat → ByteArray × St) : Prop := ∀ st n, OkS d st → m ≤ st.had.length → lvD d n = true → n ∉ st.had → Said1 d st (nm st n)
theorem Nok.one {d : Dc} {m : Nat} {nm : Nmr} (h : Nok d m nm) (w : Bool) : Nok1 d m (fun s k => nm s k w) := fun st n => h st n w
theorem Nok.tag {d : Dc} (hF : Fine d) {c : List Cl} (hC : Forest d c) {m : Nat} {nm : Nmr} (h : Nok d m nm) : Nok1 d m (tagN nm d c) := fun st n ho hm hn hx => by
  have hM := mark_ok hF hC 64 n st.lst ho.okl hn
  have h1 := h (markS d c n st) n true ⟨ho.nodup, ho.live, hM.ok.nodup, hM.ok.live⟩ hm hn hx
  exact ⟨⟨h1.went.ok, h1.went.sub, h1.went.len, fun b hb => h1.went.cov b hb, h1.went.ask⟩, h1.more, h1.size⟩
theorem each_step {d : Dc} {m : Nat} {nm : St → Nat → ByteArray × St} (hN : Nok1 d m nm) {k : Int} (hk : ∀ j : Nat, k = (j : Int) → lvD d j = true) {s : List ByteArray × St} (ho : OkS d s.2) (hm : m ≤ s.2.had.length) :
    EachR d s (if 0 ≤ k ∧ s.2.had.contains k.toNat = false then (s.1 ++ [(nm s.2 k.toNat).1], (nm s.2 k.toNat).2) else s) := by
  split
  · rename_i q
    obtain ⟨j, rfl⟩ : ∃ j : Nat, k = (j : Int) := ⟨k.toNat, by omega⟩
    rw [Int.toNat_natCast] at *
    have hj : j ∉ s.2.had := by simpa using q.2
    have h := hN s.2 j ho hm (hk j rfl) hj
    refine ⟨h.went, ?_, ?_⟩
    · show sumS (s.1 ++ [(nm s.2 j).1]) ≤ _
      rw [sum_app, sumS, sumS]
      have := h.size
      show sumS s.1 + ((nm s.2 j).1.size + 1 + 0) ≤ sumS s.1 + VL * ((nm s.2 j).2.had.length - s.2.had.length)
      omega
    · have := h.more
      show (s.1 ++ [(nm s.2 j).1]).length ≤ s.1.length + ((nm s.2 j).2.had.length - s.2.had.length)
      rw [List.length_append]
      simp
      omega
  · exact ⟨Went.refl ho, by omega, by omega⟩
theorem EachR.trans {d : Dc} {s t u : List ByteArray × St} (h : EachR d s t) (k : EachR d t u) : EachR d s u := by
  refine ⟨h.went.trans k.went, ?_, ?_⟩
  · have h1 := h.went.len
    have h2 := k.went.len
    have h3 := h.sum
    have h4 := k.sum
    have e : u.2.had.length - s.2.had.length = (t.2.had.length - s.2.had.length) + (u.2.had.length - t.2.had.length) := by omega
    rw [e, Nat.mul_add]
    omega
  · have h1 := h.went.len
    have h2 := k.went.len
    have h3 := h.len
    have h4 := k.len
    omega
theorem each_went {d : Dc} {m : Nat} {nm : St → Nat → ByteArray × St} (hN : Nok1 d m nm) : ∀ (ks : List Int) (s : List ByteArray × St), (∀ k ∈ ks, ∀ j : Nat, k = (j : Int) → lvD d j = true) → OkS d s.2 → m ≤ s.2.had.length → EachR d s (eachF nm ks s)
  | [], s, _, ho, _ => ⟨Went.refl ho, by simp [eachF], by simp [eachF]⟩
  | k :: ks, s, hk, ho, hm => by
    rw [eachF]
    have h1 := each_step hN (hk k (by simp)) ho hm
    exact h1.trans (each_went hN ks _ (fun x hx => hk x (by simp [hx])) h1.went.ok (Nat.le_trans hm h1.went.len))
/-- names of several, joined and squeezed -/
theorem join_went {d : Dc} {st : St} {t : List ByteArray × St} (h : EachR d ([], st) t) : Went d st (joinF t).2 ∧ (joinF t).1.size ≤ VL * ((joinF t).2.had.length - st.had.length) := by
  refine ⟨h.went, ?_⟩
  have h1 := h.sum
  have h2 := joinB_size t.1
  have h3 := sqz_size (joinB t.1)
  show (Wd.sqz (joinB t.1)).size ≤ VL * (t.2.had.length - st.had.length)
  simp only [sumS] at h1
  omega

theorem refs_lv {d : Dc} (h : Fine d) (n : Int) (name : ByteArray) : ∀ k ∈ refsD d n name, ∀ j : Nat, k = (j : Int) → lvD d j = true := by
  intro k hk j e
  unfold refsD at hk
  obtain ⟨t, _, ht⟩ := List.mem_map.mp hk
  exact find_lv h (ht.trans e)
theorem ins_lv {d : Dc} (h : Fine d) {c : List Cl} (hc : Forest d c) (n : Nat) : ∀ k ∈ (insideD d c (n : Int)).map Int.ofNat, ∀ j : Nat, k = (j : Int) → lvD d j = true := by
  intro k hk j e
  obtain ⟨x, hx, ex⟩ := List.mem_map.mp hk
  have : x = j := by
    have : (x : Int) = (j : Int) := ex.trans e
    omega
  subst this
  exact inside_lv h hc hx

section
variable {d : Dc} (hF : Fine d) (hV : ∀ j, Vn (nd d j)) (hT : ∀ j, Vt (nd d j)) {c : List Cl} (hC : Forest d c) {m : Nat} {nm : Nmr} (hN : Nok d m nm)
include hF hN
include hC in
theorem list_went (n : Int) (name : ByteArray) {st : St} (ho : OkS d st) (hm : m ≤ st.had.length) : Went d st (listD nm d c n name st).2 ∧ (listD nm d c n name st).1.size ≤ VL * ((listD nm d c n name st).2.had.length - st.had.length) :=
  join_went (each_went (hN.tag hF hC) _ ([], st) (refs_lv hF n name) ho hm)
include hC in
theorem stepA_went (n : Nat) (within : Bool) {st : St} (ho : OkS d st) (hm : m ≤ st.had.length) : Went d st (stepA nm d c n within st).2 ∧ (stepA nm d c n within st).1.size ≤ VL * ((stepA nm d c n within st).2.had.length - st.had.length) := by
  unfold stepA
  split
  · exact ⟨Went.refl ho, by show (0 : Nat) ≤ _; exact Nat.zero_le _⟩
  · exact list_went hF hC hN (n : Int) _ ho hm
omit hN in
theorem label_lv {n : Int} {had : List Nat} {k : Nat} (h : labelFor d n had = some k) : lvD d k = true ∧ k ∉ had := by
  unfold labelFor at h
  split at h
  · refine ⟨all_lv hF (List.mem_of_find?_eq_some h), ?_⟩
    have := List.find?_some h
    unfold labelP at this
    simp at this
    exact this.2
  · cases h
include hV in
theorem stepB_went (n : Nat) {st : St} (ho : OkS d st) (hm : m ≤ st.had.length) : Went d st (stepB nm d n st).2 ∧ (stepB nm d n st).1.size + 1 ≤ VL + VL * ((stepB nm d n st).2.had.length - st.had.length) := by
  unfold stepB
  split
  · refine ⟨Went.refl ho, ?_⟩
    have := said_size hV (n : Int) ⟨#[97, 108, 116]⟩
    unfold VL
    show (saidN d (n : Int) ⟨#[97, 108, 116]⟩).size + 1 ≤ _
    omega
  · split
    · rename_i k hk
      have hl := label_lv hF hk
      have h := hN st k true ho hm hl.1 hl.2
      refine ⟨h.went, ?_⟩
      have := h.size
      omega
    · refine ⟨Went.refl ho, ?_⟩
      show (0 : Nat) + 1 ≤ _
      unfold VL
      omega
include hC in
theorem stepC_went (n : Nat) (within : Bool) {st : St} (ho : OkS d st) (hm : m ≤ st.had.length) : Went d st (stepC nm d c n within st).2 ∧ (stepC nm d c n within st).1.size ≤ VL * ((stepC nm d c n within st).2.had.length - st.had.length) := by
  unfold stepC
  split
  · exact join_went (each_went (hN.one true) _ ([], st) (ins_lv hF hC n) ho hm)
  · exact ⟨Went.refl ho, by show (0 : Nat) ≤ _; exact Nat.zero_le _⟩

/-- one that is at most one longer than what was had -/
def Fit1 (d : Dc) (s : St) (r : ByteArray × St) : Prop := Went d s r.2 ∧ r.1.size + 1 ≤ VL + VL * (r.2.had.length - s.had.length)
omit hN hF in
theorem fit_trans {s t : St} {r : ByteArray × St} (h : Went d s t) (k : Fit1 d t r) : Fit1 d s r := by
  refine ⟨h.trans k.1, ?_⟩
  have h1 := h.len
  have h2 := k.1.len
  have h3 := k.2
  have e : r.2.had.length - s.had.length = (t.had.length - s.had.length) + (r.2.had.length - t.had.length) := by omega
  rw [e, Nat.mul_add]
  omega
omit hN hF in
include hV in
theorem fit_said (n : Int) (name : ByteArray) {st : St} (ho : OkS d st) : Fit1 d st (saidN d n name, st) := by
  refine ⟨Went.refl ho, ?_⟩
  have := said_size hV n name
  unfold VL
  show (saidN d n name).size + 1 ≤ _
  omega
omit hN hF in
theorem fit_of {s : St} {r : ByteArray × St} (h : Went d s r.2 ∧ r.1.size ≤ VL * (r.2.had.length - s.had.length)) : Fit1 d s r := ⟨h.1, by have := h.2; unfold VL at *; omega⟩
include hV hC in
theorem tailB_fit (n : Nat) (within : Bool) {s : St} {b : ByteArray × St} (hb : Fit1 d s b) (hm : m ≤ s.had.length) : Fit1 d s (tailB nm d c n within b) := by
  unfold tailB
  split
  · exact hb
  · have h1 := stepC_went hF hC hN n within hb.1.ok (Nat.le_trans hm hb.1.len)
    unfold tailC
    split
    · exact fit_trans hb.1 (fit_of h1)
    · exact fit_trans (hb.1.trans h1.1) (fit_said hV (n : Int) _ h1.1.ok)
include hV hC in
theorem tailA_fit (n : Nat) (within : Bool) {s : St} {a : ByteArray × St} (ha : Fit1 d s a) (hm : m ≤ s.had.length) : Fit1 d s (tailA nm d c n within a) := by
  unfold tailA
  split
  · exact ha
  · split
    · exact fit_trans ha.1 (fit_said hV (n : Int) _ ha.1.ok)
    · split
      · exact fit_trans ha.1 (fit_said hV (n : Int) _ ha.1.ok)
      · exact tailB_fit hF hV hC hN n within (fit_trans ha.1 (stepB_went hF hV hN n ha.1.ok (Nat.le_trans hm ha.1.len))) hm
include hV hT hC in
theorem nameG_ok : Nok d (m - 1) (nameG nm d c) := by
  intro st n w ho hm hn hx
  have o1 := ho.add hn hx
  have hl1 : (st1 d n st).had.length = st.had.length + 1 := by unfold st1; simp
  have w1 : Went d st (st1 d n st) := ⟨o1, fun x h => by unfold st1; simp [h], by omega, fun b hb => hb.add n, by
    have := lineF_len64 d n
    unfold st1
    simp only [List.length_append, List.length_singleton]
    omega⟩
  have key : Fit1 d (st1 d n st) (nameG nm d c st n w) := by
    unfold nameG
    split
    · exact ⟨Went.refl o1, by show (0 : Nat) + 1 ≤ _; unfold VL; omega⟩
    · split
      · refine ⟨Went.refl o1, ?_⟩
        have h1 := sqz_size (nd d n).text
        have h2 : (nd d n).text.size ≤ 4194304 := hT n
        show (Wd.sqz (nd d n).text).size + 1 ≤ _
        unfold VL
        omega
      · exact tailA_fit hF hV hC hN n w (fit_of (stepA_went hF hC hN n w o1 (by omega))) (by omega)
  have h2 := key.1.len
  have h3 := key.2
  refine ⟨w1.trans key.1, by omega, ?_⟩
  have e : (nameG nm d c st n w).2.had.length - st.had.length = 1 + ((nameG nm d c st n w).2.had.length - (st1 d n st).had.length) := by omega
  rw [e, Nat.mul_add]
  omega
end

theorem name_ok {d : Dc} (hF : Fine d) (hV : ∀ j, Vn (nd d j)) (hT : ∀ j, Vt (nd d j)) {c : List Cl} (hC : Forest d c) : ∀ f, Nok d (61 - f) (nameF f d c)
  | 0 => fun st n w ho hm _ _ => absurd (ho.few hF) (by omega)
  | f + 1 => by
    have := nameG_ok hF hV hT hC (name_ok hF hV hT hC f)
    have e : 61 - f - 1 = 61 - (f + 1) := by omega
    rw [e] at this
    exact this
end Go.Proofs.YtbinbojicmhdlaeGreatDoor

/-
  THE WALKS of words.digit, letter, Num and Name.
-/
namespace Go.Proofs.YtbinbojicmhdlaeGreatDoor.Wd
open Go.RowKit

def digitB (c : UInt8) : Bool := decide (48 ≤ c.toNat) && decide (c.toNat ≤ 57)
def letterB (c : UInt8) : Bool := decide (97 ≤ c.toNat) && decide (c.toNat ≤ 122)
def okB (c : UInt8) : Bool := letterB c || digitB c || c == 45
def valL (t : List UInt8) : Nat := t.foldl (fun n c => n * 10 + (c.toNat - 48)) 0
def numT (t : List UInt8) : Nat := if 2 < t.length then 0 else if t.all digitB then valL t else 0
def numL : List (List UInt8) → Nat
  | [t] => numT t
  | _ => 0
theorem numT_long (t : List UInt8) (h : 2 < t.length) : numT t = 0 := by unfold numT; rw [if_pos h]
theorem numT_bad (t : List UInt8) (h : t.all digitB = false) : numT t = 0 := by unfold numT; rw [h]; split <;> rfl
theorem numT_good (t : List UInt8) (h : ¬ 2 < t.length) (h2 : t.all digitB = true) : numT t = valL t := by unfold numT; rw [if_neg h, if_pos h2]
def nameL (l : List UInt8) : Bool := !l.isEmpty && decide (l.length ≤ 20) && letterB (l.headD 0) && l.all okB

theorem ret_bool {a b : Bool} (h : a = b) : Ending.returned (.bool a) = .returned (.bool b) := by rw [h]
theorem ret_int {k : IntKind} {a b : Int} (h : a = b) : Ending.returned (.int k a) = .returned (.int k b) := by rw [h]

set_option maxHeartbeats 400000 in
theorem digit_any (c : UInt8) (w : World) : Calls Tryz.prog 81 #[.int .u8 (c.toNat : Int)] w fun e w' => e = .returned (.bool (digitB c)) ∧ w' = w := by
  by_cases h1 : 48 ≤ c.toNat
  · by_cases h2 : c.toNat ≤ 57
    · have e : digitB c = true := by simp [digitB, h1, h2]
      rw [e]
      go_enter Tryz.func81, Tryz.ntmps81
      go_wp2
      go_ret
      exact ⟨ret_bool (by simp; omega), rfl⟩
    · have e : digitB c = false := by simp [digitB, h2]
      rw [e]
      go_enter Tryz.func81, Tryz.ntmps81
      go_wp2
      go_ret
      exact ⟨ret_bool (by simp; omega), rfl⟩
  · have e : digitB c = false := by simp [digitB, h1]
    rw [e]
    go_enter Tryz.func81, Tryz.ntmps81
    go_wp2
    go_ret
    exact ⟨rfl, rfl⟩

/-- the number that the first k bytes make -/
theorem val_snoc (t : List UInt8) (c : UInt8) : valL (t ++ [c]) = valL t * 10 + (c.toNat - 48) := by
  unfold valL
  rw [List.foldl_append]
  rfl
theorem val_le (t : List UInt8) (h : ∀ c ∈ t, digitB c = true) : valL t + 1 ≤ 10 ^ t.length := by
  induction t using Tx.snoc_ind with
  | h0 => exact Nat.le_refl _
  | h1 t c ih =>
    rw [val_snoc, List.length_append]
    have h1 := ih (fun d hd => h d (by simp [hd]))
    have h2 := h c (by simp)
    simp [digitB] at h2
    show _ ≤ 10 ^ (t.length + 1)
    rw [Nat.pow_succ]
    omega

theorem tk_snoc (t : List UInt8) (k : Nat) (c : UInt8) (hc : t[k]? = some c) : t.take (k + 1) = t.take k ++ [c] := by
  rw [List.take_add_one, hc]
  rfl

theorem num_nil (s : ByteArray) (h : toksOf s = []) : numL (toksOf s) = 0 := by rw [h]; rfl
theorem num_two (s : ByteArray) (h : 2 ≤ (toksOf s).length) : numL (toksOf s) = 0 := by
  cases hc : toksOf s with
  | nil => rfl
  | cons a r =>
    cases r with
    | nil => rw [hc] at h; simp at h
    | cons b r => rfl

theorem all_false {t : List UInt8} {p : UInt8 → Bool} {k : Nat} {c : UInt8} (hc : t[k]? = some c) (hp : p c = false) : t.all p = false := by
  rw [List.all_eq_false]
  exact ⟨c, List.mem_of_getElem? hc, by simp [hp]⟩
theorem all_true {t : List UInt8} {p : UInt8 → Bool} (h : ∀ c ∈ t.take t.length, p c = true) : t.all p = true := by
  rw [List.take_length] at h
  rw [List.all_eq_true]
  exact h
theorem take_step {t : List UInt8} {p : UInt8 → Bool} {k : Nat} {c : UInt8} (h : ∀ d ∈ t.take k, p d = true) (hc : t[k]? = some c) (hp : p c = true) : ∀ d ∈ t.take (k + 1), p d = true := by
  intro d hd
  rw [tk_snoc t k c hc] at hd
  rcases List.mem_append.1 hd with h' | h'
  · exact h d h'
  · rw [List.mem_singleton] at h'
    rw [h']
    exact hp

set_option maxHeartbeats 800000 in
set_option maxRecDepth 100000 in
theorem num_any (s : ByteArray) (w : World) (hs : s.size ≤ 4194304) : Calls Tryz.prog 42 #[.string s] w fun e w' =>
    e = .returned (.int .i64 (numL (toksOf s))) ∧ Below w.heap.size w w' := by
  have hl := toksOf_len s
  rcases Nat.lt_trichotomy (toksOf s).length 1 with h0 | h1 | h2
  · have hn : toksOf s = [] := List.length_eq_zero_iff.1 (by omega)
    have e : numL (toksOf s) = 0 := num_nil s hn
    rw [e]
    go_enter Tryz.func42, Tryz.ntmps42
    go_wp2_with fail
    refine (tokens_none s _ hs hn).mono ?_
    rintro e w1 ⟨rfl, hb1⟩
    go_wp2
    go_ret
    exact ⟨rfl, hb1⟩
  · obtain ⟨t, ht⟩ := List.length_eq_one_iff.1 h1
    have hne : toksOf s ≠ [] := by rw [ht]; simp
    have hnum : numL (toksOf s) = numT t := by rw [ht]; rfl
    rw [hnum]
    have cT := tokens_some s w hs hne
    rw [ht] at cT
    clear hnum h1 hne hl
    by_cases hlen : 2 < t.length
    · rw [numT_long t hlen]
      have hlz : (2 : Int) < ((Tx.bs t).size : Int) := by
        have : (Tx.bs t).size = t.length := rfl
        omega
      go_enter Tryz.func42, Tryz.ntmps42
      go_wp2_with fail
      refine cT.mono ?_
      rintro e w1 ⟨g, c, rfl, hW, hb1⟩
      have hcell : w1.cell? ⟨g, 0, none⟩ = some (.string (Tx.bs t)) := hW.2.2.2 0 t rfl
      go_wp2
      go_ret
      exact ⟨rfl, hb1⟩
    · have HL : Hid (¬ 2 < t.length) := hlen
      have hz : (Tx.bs t).size = t.length := rfl
      have hlz : ¬ (2 : Int) < (t.length : Int) := by omega
      go_enter Tryz.func42, Tryz.ntmps42
      go_wp2_with fail
      refine cT.mono ?_
      rintro e w1 ⟨g, c, rfl, hW, hb1⟩
      have hcell : w1.cell? ⟨g, 0, none⟩ = some (.string (Tx.bs t)) := hW.2.2.2 0 t rfl
      obtain ⟨cap, w2, hconv, hrow⟩ := conv_bytes (Tx.bs t) w1
      rw [hz] at hconv
      go_wp2
      have HR : Hid (Row8 w1.heap.size t w1 w2) := hrow
      clear hconv hrow hcell
      go_loop [4, 24] (fun n i => ∃ k : Nat, k ≤ t.length ∧ i = .int .i64 k ∧ n = .int .i64 (valL (t.take k)) ∧ (∀ d ∈ t.take k, digitB d = true)) (fun _ i => t.length - (intOf i).toNat)
      case atStart => exact ⟨0, Nat.zero_le _, rfl, rfl, fun d hd => by cases hd⟩
      case round =>
        obtain ⟨k, hk, rfl, rfl, hall⟩ := hrel
        have HA : Hid (∀ d ∈ t.take k, digitB d = true) := hall
        have hv := val_le (t.take k) hall
        have htl : (t.take k).length = k := by rw [List.length_take]; omega
        rw [htl] at hv
        clear hall htl
        by_cases hlt : k < t.length
        · have hk2 : k = 0 ∨ k = 1 := by omega
          have hv9 : valL (t.take k) ≤ 9 := by
            rcases hk2 with rfl | rfl
            · rw [Nat.pow_zero] at hv; omega
            · rw [Nat.pow_one] at hv; omega
          clear hv hk2
          obtain ⟨d, hd⟩ : ∃ d, t[k]? = some d := ⟨_, List.getElem?_eq_getElem hlt⟩
          have hcell : w2.cell? ⟨w1.heap.size, k, none⟩ = some (.int .u8 (d.toNat : Int)) := HR.out.1 k d hd
          have HD : Hid (t[k]? = some d) := hd
          clear hd
          cases hb : digitB d with
          | true =>
            have h48 : 48 ≤ d.toNat ∧ d.toNat ≤ 57 := by simpa [digitB] using hb
            obtain ⟨h48, h57⟩ := h48
            go_wp2_with (go_at_call 81; refine (digit_any _ _).mono ?_; rintro e w' ⟨rfl, hww⟩; subst hww)
            go_round
            case rel => exact ⟨k + 1, by omega, by go_num, by rw [tk_snoc t k d HD.out, val_snoc]; go_num, take_step HA.out HD.out hb⟩
            case measure => simp [intOf]; omega
          | false =>
            go_wp2_with (go_at_call 81; refine (digit_any _ _).mono ?_; rintro e w' ⟨rfl, hww⟩; subst hww)
            go_ret
            exact ⟨ret_int (by rw [numT_bad t (all_false HD.out hb)]; rfl), hb1.trans (HR.out.2.2.1.mono hb1.size)⟩
        · obtain rfl : k = t.length := by omega
          go_wp2
          go_ret
          exact ⟨ret_int (by rw [numT_good t HL.out (all_true HA.out)]), hb1.trans (HR.out.2.2.1.mono hb1.size)⟩
  · have e : numL (toksOf s) = 0 := num_two s h2
    have hne : toksOf s ≠ [] := by intro h; rw [h] at h2; simp at h2
    rw [e]
    have hb : (((toksOf s).length : Int) == 1) = false := by simp; omega
    go_enter Tryz.func42, Tryz.ntmps42
    go_wp2_with fail
    refine (tokens_some s _ hs hne).mono ?_
    rintro e w1 ⟨g, c, rfl, hW, hb1⟩
    go_wp2
    go_ret
    exact ⟨rfl, hb1⟩

end Go.Proofs.YtbinbojicmhdlaeGreatDoor.Wd

/-
  PLAIN MATHEMATICS: levels, what is checked, what else is told of a node; how much is told.
-/
namespace Go.Proofs.YtbinbojicmhdlaeGreatDoor
open Tn

def levelI (r : Int) : Bool := (Kn.ofD r).level
def checkedI (r : Int) : Bool := (Kn.ofD r).checked
/-- how many on the way up have this role, in k steps -/
def nestF (d : Dc) (cl : List Cl) (r : Int) : Nat → Int → Nat → Nat
  | 0, _, c => c
  | k + 1, n, c => nestF d cl r k (inD d cl n) (if roleD d n = r then c + 1 else c)
def numD (s : ByteArray) : Nat := Wd.numL (Wd.toksOf s)
def tagLevel (t : ByteArray) : Int := if isA t [104, 49] then 1 else if isA t [104, 51] then 3 else 2
def levelD (d : Dc) (cl : List Cl) (n : Int) : Int :=
  if levelI (roleD d n) = false then 0
  else if 1 ≤ numD (saidN d n ⟨#[97, 114, 105, 97, 45, 108, 101, 118, 101, 108]⟩) ∧ numD (saidN d n ⟨#[97, 114, 105, 97, 45, 108, 101, 118, 101, 108]⟩) ≤ 9 then numD (saidN d n ⟨#[97, 114, 105, 97, 45, 108, 101, 118, 101, 108]⟩)
  else if roleD d n = 4 then tagLevel (nd d n.toNat).tag
  else nestF d cl (roleD d n) d.length n 0
def checkD (d : Dc) (n : Int) : Int :=
  if checkedI (roleD d n) = false then 0
  else if isA (lowS (saidN d n ⟨#[97, 114, 105, 97, 45, 99, 104, 101, 99, 107, 101, 100]⟩)) [116, 114, 117, 101] then 2
  else if isA (lowS (saidN d n ⟨#[97, 114, 105, 97, 45, 99, 104, 101, 99, 107, 101, 100]⟩)) [109, 105, 120, 101, 100] then 3
  else if hasN d n ⟨#[99, 104, 101, 99, 107, 101, 100]⟩ then 2 else 1
def offD (d : Dc) (n : Int) : Bool := isA (lowS (saidN d n ⟨#[97, 114, 105, 97, 45, 100, 105, 115, 97, 98, 108, 101, 100]⟩)) [116, 114, 117, 101]
def attD (d : Dc) (cl : List Cl) (n : Nat) : Att :=
  ⟨if namedI (roleD d (n : Int)) then (memoD d cl (n : Int)).name else emB, if namedI (roleD d (n : Int)) then (memoD d cl (n : Int)).about else emB, levelD d cl (n : Int), checkD d (n : Int), offD d (n : Int)⟩

/-! ### the parts of an item -/
def It.node : It → Nat | .mk n _ _ _ _ _ _ _ => n
def It.role : It → Int | .mk _ r _ _ _ _ _ _ => r
def It.name : It → ByteArray | .mk _ _ a _ _ _ _ _ => a
def It.about : It → ByteArray | .mk _ _ _ a _ _ _ _ => a
def It.level : It → Int | .mk _ _ _ _ l _ _ _ => l
def It.checked : It → Int | .mk _ _ _ _ _ c _ _ => c
def It.off : It → Bool | .mk _ _ _ _ _ _ o _ => o
def It.kids : It → List It | .mk _ _ _ _ _ _ _ k => k

theorem nodes_pos (x : It) : 1 ≤ (nodes1 x).length := by cases x with | mk => rw [nodes1]; simp
theorem nodes1_eq (x : It) : nodes1 x = x.node :: nodesL x.kids := by cases x with | mk => rw [nodes1]; rfl
theorem top_few : ∀ l : List It, l.length ≤ (nodesL l).length
  | [] => Nat.zero_le _
  | x :: l => by
    rw [nodesL, List.length_append, List.length_cons]
    have h1 := nodes_pos x
    have h2 := top_few l
    omega

/-- how much is told of what is in one -/
theorem told_few {d : Dc} (h : Fine d) {l : List Cl} (hl : Forest d l) (f n : Nat) (hn : n ∈ shD d) : (toldF f d l n).length ≤ 60 :=
  Nat.le_trans (sub_len (told_nodup h hl f n hn) (fun x hx => (told_way h hl f n x hn hx).1)) (sh_few h).1
theorem items_few {d : Dc} (h : Fine d) {l : List Cl} (hl : Forest d l) (att : Nat → Att) (f n : Nat) (hn : n ∈ shD d) : (itemsF att f d l n).length ≤ 60 := by
  have h1 := top_few (itemsF att f d l n)
  rw [told_nodes] at h1
  exact Nat.le_trans h1 (told_few h hl f n hn)
theorem flat_few {d : Dc} (h : Fine d) {l : List Cl} (hl : Forest d l) (att : Nat → Att) (f : Nat) : ∀ (ks : List Nat), (∀ k ∈ ks, k ∈ shD d) → (ks.flatMap (itemsF att f d l)).length ≤ 60 * ks.length
  | [], _ => by simp
  | k :: ks, hk => by
    rw [List.flatMap_cons, List.length_append, List.length_cons]
    have h1 := items_few h hl att f k (hk k (by simp))
    have h2 := flat_few h hl att f ks (fun x hx => hk x (by simp [hx]))
    omega

/-! ### how deep it goes -/
theorem way_kid {d : Dc} (h : Fine d) {l : List Cl} (hl : Forest d l) {n k : Nat} (hn : n ∈ shD d) (hk : k ∈ insideD d l (n : Int)) : k ∈ shD d ∧ (wayD d l (k : Int)).length = (wayD d l (n : Int)).length + 1 := by
  obtain ⟨h1, h2, h3⟩ := inside_in h hl hk hn
  refine ⟨h1, ?_⟩
  rw [way_cons h hl h1, h3, List.length_cons]
theorem way_60 {d : Dc} (h : Fine d) {l : List Cl} (hl : Forest d l) {n : Nat} (hn : n ∈ shD d) : 1 ≤ (wayD d l (n : Int)).length ∧ (wayD d l (n : Int)).length ≤ 60 := by
  refine ⟨by rw [way_cons h hl hn]; simp, ?_⟩
  have h1 := way_len h hl hn 64
  have h2 := (sh_few h).1
  unfold wayD
  omega
end Go.Proofs.YtbinbojicmhdlaeGreatDoor

/-
  A SET OF NODES, AS A MAP OF THE CALL's OWN: what was put in is there, nothing else is.
-/
namespace Go.Proofs.YtbinbojicmhdlaeGreatDoor
open Go.RowKit Go.Maps

/-- how a bool reads -/
def rb : Value → Option (DataW Unit × List MemPlace)
  | .bool x => some (.lit (.bool x), [])
  | _ => none

theorem keyI : Keyed Tryz.prog 3 := int_keyed Tryz.underlying3

/-- block b is a map in which just the nodes of acc are true -/
def HadAt (w : World) (b : Nat) (acc : List Nat) : Prop :=
  ∃ D, w.ownsMap Tryz.prog 3 rb b acc.length D ∧ IsMap D ∧ ∀ k : Nat, D.atKey (.int .i64 (k : Int)) (.lit (.bool false)) = .lit (.bool (acc.contains k))

theorem had_made (w : World) : HadAt (w.alloc (.map #[] 0)) w.heap.size [] := ⟨.map [], World.ownsMap_made w Tryz.prog 3 rb, isMap_empty, fun _ => rfl⟩

theorem HadAt.same {w w' : World} {b : Nat} {acc : List Nat} (h : HadAt w b acc) (hb : w'.heap[b]? = w.heap[b]?) : HadAt w' b acc := by
  obtain ⟨D, ⟨es, clock, h1, h2⟩, h3, h4⟩ := h
  exact ⟨D, ⟨es, clock, by rw [hb]; exact h1, h2⟩, h3, h4⟩
theorem HadAt.lt {w : World} {b : Nat} {acc : List Nat} (h : HadAt w b acc) : b < w.heap.size := by
  obtain ⟨D, h1, _⟩ := h
  exact h1.lt
theorem HadAt.below {w w' : World} {b : Nat} {acc : List Nat} (h : HadAt w b acc) (hb : Below w.heap.size w w') : HadAt w' b acc := h.same (hb.block b h.lt)

theorem HadAt.look {w : World} {b : Nat} {acc : List Nat} (h : HadAt w b acc) (k : Nat) (hk : k ≤ 1000) : (Instr.lookup 39 (.map (some b)) (.int .i64 (k : Int)) false).run Tryz.prog w = .ok (.bool (acc.contains k)) w := by
  obtain ⟨D, h1, _, h3⟩ := h
  obtain ⟨v, ps, hrun, hv⟩ := h1.lookup (t := 39) keyI Tryz.underlying39 (Tryz.zeroValue4 w) (zd := .lit (.bool false)) (zp := []) rfl (keyOf_int_mk Tryz.underlying3 (WalkArith.wf_i64 (n := (k : Int)) (by omega)))
  rw [h3 k] at hv
  rw [hrun]
  cases v with
  | bool x =>
    simp only [rb, Option.some.injEq, Prod.mk.injEq] at hv
    have : x = acc.contains k := by simpa using hv.1
    rw [this]
  | _ => cases hv

theorem had_put {w : World} {ops : Array Oper} {rest : List Oper} {o : Oper} {a : Act} {Q : Exit → Act → World → Prop}
    (hg : o.guard = none) (m x v : Operand) (hop : o.op = Op.mapUpdate 39 m x v) (b : Nat) (acc : List Nat) (k : Nat) (hk : k ≤ 1000) (ha : acc.length ≤ 1000)
    (hm : a.eval m = .map (some b)) (h : HadAt w b acc) (hx : a.eval x = .int .i64 (k : Int)) (hv : a.eval v = .bool true)
    (hK : ∀ w', HadAt w' b (acc ++ [k]) → w.grownBy w' (some b) → wpList Tryz.prog ops Q rest (a.put o.dst undef) w') : wpList Tryz.prog ops Q (o :: rest) a w := by
  obtain ⟨D, h1, h2, h3⟩ := h
  refine wpList_mapUpdate_own w hg m x v 39 hop 3 4 keyI Tryz.underlying39 rb b acc.length D hm h1 (by unfold maxLen; omega) _ _ (.int .i64 (k : Int)) hx hv (keyOf_int_mk Tryz.underlying3 (WalkArith.wf_i64 (by omega))) (.lit (.bool true)) [] rfl ?_
  intro w' g1 g2
  refine hK w' ⟨_, by simpa using g1, h2.put _ _, fun j => ?_⟩ g2
  by_cases e : j = k
  · subst e
    rw [atKey_put_same h2 (by trivial)]
    simp
  · rw [atKey_put_other (fun x => e (by injection x with _ x; omega)), h3 j]
    congr 2
    simp [e]
end Go.Proofs.YtbinbojicmhdlaeGreatDoor

/-
  THE WALKS of the reference's All where there is no node, and Find; of dom.All where there is no node; of Same at two documents that are nil.
-/
namespace Go.Proofs.YtbinbojicmhdlaeGreatDoor
open Go.RowKit

theorem hit_eq (d : Tn.Dc) (id : ByteArray) (sc : Int) (k : Nat) (h0 : id.toList.isEmpty = false) : hitD d id sc k = (((valN d (k : Int) idT).toList == id.toList) && (scopeD d (k : Int) == sc)) := by
  have e : attrN d (k : Int) idT = idOf d k := by unfold attrN idOf; rw [Int.toNat_natCast]
  unfold hitD valN
  rw [e]
  cases idOf d k with
  | some x => rfl
  | none =>
    have e2 : (Option.getD none (⟨#[]⟩ : ByteArray)).toList = [] := by rw [ByteArray.toList_eq]; rfl
    rw [e2]
    have : (([] : List UInt8) == id.toList) = false := by
      cases hq : id.toList with
      | nil => rw [hq] at h0; cases h0
      | cons a b => rfl
    rw [this]
    rfl

theorem find_take {p : Nat → Bool} {l : List Nat} {j : Nat} (hj : j < l.length) (hp : p l[j] = true) (hn : ∀ k ∈ l.take j, p k = false) : l.find? p = some l[j] := by
  rw [List.find?_eq_some_iff_getElem]
  refine ⟨hp, j, hj, rfl, fun i hi => ?_⟩
  have := hn l[i] (List.mem_take_iff_getElem.mpr ⟨i, by omega, rfl⟩)
  simp [this]
theorem find_none {p : Nat → Bool} {l : List Nat} (hn : ∀ k ∈ l, p k = false) : l.find? p = none := by
  rw [List.find?_eq_none]
  intro x hx
  simp [hn x hx]

set_option maxHeartbeats 1600000 in
set_option maxRecDepth 100000 in
theorem rfind_any {w : World} {b o c : Nat} {rs : List Raw} {d : Tn.Dc} (hd : DocAt w b o c rs d) (hf : Fine d) (n : Int) (id : ByteArray) :
    Calls Tryz.prog 32 #[.slice (some ⟨b, o, none⟩) rs.length c, .int .i64 n, .string id] w fun e w' => e = .returned (.int .i64 (findD d n id)) ∧ Below w.heap.size w w' := by
  have H : Hid (DocAt w b o c rs d) := hd
  have HF : Hid (Fine d) := hf
  obtain ⟨r, hr, _⟩ := hf.good.tr
  have hlv : Tn.lvD d 0 = true := hr.1.root
  have HA := rall_own (fun f n => few_of hf.good f n) Tn.fuel 0 w hd ((tame_good hf.good).ends 0 hlv)
  have HAll : Hid (Calls Tryz.prog 59 #[.slice (some ⟨b, o, none⟩) rs.length c, .int .i64 0] w fun e w' => ∃ v, e = .returned v ∧ OwnI w' w.heap.size v (Tn.all Tn.fuel d 0) ∧ Below w.heap.size w w') := HA
  clear HA hd hf hr hlv
  cases he : id.toList.isEmpty with
  | true =>
    have E : Hid (findD d n id = -1) := by show _ = _; unfold findD; rw [if_pos (Or.inl he)]
    go_enter Tryz.func32, Tryz.ntmps32
    go_wp2_with fail
    go_ret
    exact ⟨by rw [E.out]; rfl, Below.refl _ _⟩
  | false =>
    cases hi : Tn.isN d n false with
    | false =>
      have E : Hid (findD d n id = -1) := by show _ = _; unfold findD; rw [if_pos (Or.inr hi)]
      go_enter Tryz.func32, Tryz.ntmps32
      go_wp2_with (go_at_call 52; refine (ris_any H.out _ _).mono ?_; rintro e w' ⟨rfl, hww⟩; subst hww; rw [hi])
      go_ret
      exact ⟨by rw [E.out]; rfl, Below.refl _ _⟩
    | true =>
      have E : Hid (findD d n id = match (Tn.all Tn.fuel d 0).find? (hitD d id (scopeD d n)) with | some k => (k : Int) | none => -1) := by
        show _ = _
        unfold findD
        rw [if_neg (by rw [he, hi]; simp)]
        cases (Tn.all Tn.fuel d 0).find? (hitD d id (scopeD d n)) <;> rfl
      have HHit : Hid (∀ k, hitD d id (scopeD d n) k = (((valN d (k : Int) idT).toList == id.toList) && (scopeD d (k : Int) == scopeD d n))) := fun k => hit_eq d id _ k he
      have HS : Hid (∀ (W : World) (k : Int), DocAt W b o c rs d → Calls Tryz.prog 60 #[.slice (some ⟨b, o, none⟩) rs.length c, .int .i64 k] W fun e w' => e = .returned (.int .i64 (scopeD d k)) ∧ Below W.heap.size W w') := fun W k h => rscope_any h HF.out k
      have HT : Hid (∀ (W : World) (k : Int), DocAt W b o c rs d → Calls Tryz.prog 30 #[.slice (some ⟨b, o, none⟩) rs.length c, .int .i64 k, .string ⟨#[105, 100]⟩] W fun e w' => e = .returned (.tuple #[.string (valN d k idT), .bool (attrN d k idT).isSome]) ∧ Below W.heap.size W w') := fun W k h => rattr_all h k idT
      generalize findD d n id = res at *
      generalize hitD d id (scopeD d n) = hit at *
      generalize Tn.all Tn.fuel d 0 = l at *
      go_enter Tryz.func32, Tryz.ntmps32
      go_wp2_with (first
        | (go_at_call 52; refine (ris_any H.out _ _).mono ?_; rintro e w' ⟨rfl, hww⟩; subst hww; rw [hi])
        | (go_at_call 59; refine HAll.out.mono ?_; rintro e w1 ⟨v, rfl, hown, hb⟩; obtain ⟨p, cc, rfl, hz1, hz2, _, hat⟩ := (ints_of_owns hown).at))
      have T : Hid (∀ j (hj : j < l.length), ∃ b o, p = some ⟨b, o, none⟩ ∧ w1.cell? ⟨b, o + j, none⟩ = some (.int .i64 (l[j] : Int))) := hat
      have D1 : Hid (DocAt w1 b o c rs d) := H.out.keeps (keeps_below hb (Nat.le_refl _))
      clear hat hown H
      have hlc : l.length ≤ 9223372036854775807 := by omega
      go_loopw [22] (fun iv wr => ∃ j : Nat, j ≤ l.length ∧ iv = .int .i64 j ∧ Hid (∀ k ∈ l.take j, hit k = false) ∧ Below w1.heap.size w1 wr) (fun i _ => l.length - (intOf i).toNat)
      case atStart => exact ⟨0, Nat.zero_le _, rfl, fun k hk => by simp at hk, Below.refl _ _⟩
      case round =>
        obtain ⟨j, hj, rfl, NO, hbr⟩ := hrel
        by_cases hlt : j < l.length
        · obtain ⟨b1, o1, rfl, k0⟩ := T.out j hlt
          have y0 := keeps_below hbr (Nat.le_refl _) _ _ k0
          have Dr : Hid (DocAt wr b o c rs d) := D1.out.keeps (keeps_below hbr (Nat.le_refl _))
          have hh := HHit.out l[j]
          have NX : Hid (hit l[j] = false → ∀ k ∈ l.take (j + 1), hit k = false) := by
            intro hf k hk
            rw [List.take_succ_eq_append_getElem hlt, List.mem_append, List.mem_singleton] at hk
            rcases hk with hk | rfl
            · exact NO.out k hk
            · exact hf
          have FX : Hid (hit l[j] = true → res = (l[j] : Int)) := by
            intro hf
            rw [E.out, find_take hlt hf NO.out]
          clear k0
          generalize hlj : l[j] = k at *
          clear hlj
          have HT1 : Hid (Calls Tryz.prog 30 #[.slice (some ⟨b, o, none⟩) rs.length c, .int .i64 (k : Int), .string ⟨#[105, 100]⟩] wr fun e w' => e = .returned (.tuple #[.string (valN d (k : Int) idT), .bool (attrN d (k : Int) idT).isSome]) ∧ Below wr.heap.size wr w') := HT.out wr (k : Int) Dr.out
          cases hq : ((valN d (k : Int) idT).toList == id.toList) with
          | false =>
            rw [hq] at hh
            have hf : hit k = false := hh
            generalize valN d (k : Int) idT = vv at *
            generalize (attrN d (k : Int) idT).isSome = va at *
            clear hh
            go_wp2_with fail
            refine HT1.out.mono ?_
            rintro e w2 ⟨rfl, hb2⟩
            go_wp2_with fail
            go_roundw
            case rel => exact ⟨j + 1, by omega, by go_num, NX.out hf, hbr.trans (hb2.mono hbr.size)⟩
            case measure => simp [intOf]; omega
          | true =>
            rw [hq] at hh
            have hf : hit k = (scopeD d (k : Int) == scopeD d n) := by simpa using hh
            clear hh
            generalize valN d (k : Int) idT = vv at *
            generalize (attrN d (k : Int) idT).isSome = va at *
            go_wp2_with fail
            refine HT1.out.mono ?_
            rintro e w2 ⟨rfl, hb2⟩
            have D2 : Hid (DocAt w2 b o c rs d) := Dr.out.keeps (keeps_below hb2 (Nat.le_refl _))
            go_wp2_with fail
            refine (HS.out w2 (k : Int) D2.out).mono ?_
            rintro e w3 ⟨rfl, hb3⟩
            have D3 : Hid (DocAt w3 b o c rs d) := D2.out.keeps (keeps_below hb3 (Nat.le_refl _))
            go_wp2_with fail
            refine (HS.out w3 n D3.out).mono ?_
            rintro e w4 ⟨rfl, hb4⟩
            have B2 := hbr.trans (hb2.mono hbr.size)
            have B3 := B2.trans (hb3.mono B2.size)
            have B4 : Hid (Below w1.heap.size w1 w4) := B3.trans (hb4.mono B3.size)
            clear B2 B3 hb2 hb3 hb4 hbr D2 D3 HT1
            cases hsc : (scopeD d (k : Int) == scopeD d n) with
            | true =>
              rw [hsc] at hf
              generalize scopeD d (k : Int) = s1 at *
              generalize scopeD d n = s2 at *
              have R : Hid (res = (k : Int)) := FX.out hf
              go_wp2_with fail
              go_ret
              exact ⟨by rw [R.out]; rfl, hb.trans (B4.out.mono hb.size)⟩
            | false =>
              rw [hsc] at hf
              generalize scopeD d (k : Int) = s1 at *
              generalize scopeD d n = s2 at *
              go_wp2_with fail
              go_roundw
              case rel => exact ⟨j + 1, by omega, by go_num, NX.out hf, B4.out⟩
              case measure => simp [intOf]; omega
        · obtain rfl : j = l.length := by omega
          have R : Hid (res = -1) := by
            show _ = _
            rw [E.out, find_none (fun k hk => NO.out k (by rw [List.take_length]; exact hk))]
          go_wp2_with fail
          go_ret
          exact ⟨by rw [R.out]; rfl, hb.trans (hbr.mono hb.size)⟩
end Go.Proofs.YtbinbojicmhdlaeGreatDoor

/-
  CLAIMS in memory: how a slice of them reads, one of the call's own, append.
-/
namespace Go.Proofs.YtbinbojicmhdlaeGreatDoor
open Go.RowKit

theorem infoC : (Tryz.prog.info? 64).map (fun i => (i.zero, i.size, i.bytes)) = some (some (.agg #[.int .i64 0, .int .i64 0]), 2, 16) := by kernel_rfl

def cv (c : Cl) : List Value := [iv c.1, iv c.2]
theorem cv_len (c : Cl) : (cv c).length = 2 := rfl

def ClsAt (w : World) (v : Value) (l : List Cl) : Prop := CellsAt w v l.length (l.flatMap cv)
theorem ClsAt.keeps {w w' : World} {v : Value} {l : List Cl} (h : ClsAt w v l) (k : Keeps w w') : ClsAt w' v l := CellsAt.keeps h k
theorem ClsAt.at {w : World} {v : Value} {l : List Cl} (h : ClsAt w v l) : ∃ p c, v = .slice p l.length c ∧ l.length ≤ c ∧ c ≤ 9223372036854775807 ∧ ((p = none ∧ c = 0) ∨ ∃ b o, p = some ⟨b, o, none⟩) ∧
    ∀ j (hj : j < l.length), ∃ b o, p = some ⟨b, o, none⟩ ∧ w.cell? ⟨b, o + j * 2, none⟩ = some (.int .i64 (l[j].1 : Int)) ∧ w.cell? ⟨b, o + j * 2 + 1, none⟩ = some (.int .i64 (l[j].2 : Int)) := by
  obtain ⟨p, c, e, h1, h2, h3, h4⟩ := h
  refine ⟨p, c, e, h1, by unfold maxLen at h2; omega, h3, fun j hj => ?_⟩
  obtain ⟨b, o, e1, e2⟩ := h4 (j * 2 + 0) (iv l[j].1) (by rw [flat_at cv 2 cv_len l j 0 (by decide), List.getElem?_eq_getElem hj]; rfl)
  obtain ⟨b', o', e3, e4⟩ := h4 (j * 2 + 1) (iv l[j].2) (by rw [flat_at cv 2 cv_len l j 1 (by decide), List.getElem?_eq_getElem hj]; rfl)
  rw [e1] at e3
  cases e3
  exact ⟨b, o, e1, e2, by rw [Nat.add_assoc]; exact e4⟩

/-- a row of claims of the call's own -/
def OwnC (w : World) (B : Nat) (v : Value) (l : List Cl) : Prop := w.ownsRow B 64 2 v l.length (l.flatMap cv)
theorem OwnC.nil (w : World) (B : Nat) : OwnC w B (.slice none 0 0) [] := World.ownsRow_nil _ _ _ _
theorem OwnC.shape {w : World} {B : Nat} {v : Value} {l : List Cl} (h : OwnC w B v l) : ∃ p c, v = .slice p l.length c := owns_shape h
theorem OwnC.alloc {w : World} {B : Nat} {v : Value} {l : List Cl} (h : OwnC w B v l) (o : Obj) : OwnC (w.alloc o) B v l := World.ownsRow.alloc h o
theorem cls_of_owns {w : World} {B : Nat} {v : Value} {l : List Cl} (h : OwnC w B v l) : ClsAt w v l := cells_of_owns h
theorem OwnC.below {w w' : World} {B C : Nat} {v : Value} {l : List Cl} (h : OwnC w B v l) (hb : Below C w w') (hC : w.heap.size ≤ C) : OwnC w' B v l := by
  obtain ⟨hl, hz⟩ := h
  refine ⟨hl, ?_⟩
  rcases hz with h5 | ⟨g, cap, cur, e, h3, h6, h7⟩
  · exact Or.inl h5
  · refine Or.inr ⟨g, cap, cur, e, h3, ?_, h7⟩
    have hlt : g < w.heap.size := by
      apply Classical.byContradiction
      intro hn
      rw [Array.getElem?_eq_none (by omega)] at h6
      cases h6
    rw [hb.block g (by omega)]
    exact h6
theorem OwnC.set {w : World} {B : Nat} {v : Value} {l : List Cl} (h : OwnC w B v l) (p : Addr) (u : Value) (hp : p.block < B) : OwnC (w.setCell p u) B v l := by
  obtain ⟨hl, hz⟩ := h
  refine ⟨hl, ?_⟩
  rcases hz with h5 | ⟨g, cap, cur, e, h3, h6, h7⟩
  · exact Or.inl h5
  · refine Or.inr ⟨g, cap, cur, e, h3, ?_, h7⟩
    rw [heap_setCell_other _ _ _ _ (by omega)]
    exact h6

theorem OwnC.mono {w : World} {B C : Nat} {v : Value} {l : List Cl} (h : OwnC w B v l) (hc : C ≤ B) : OwnC w C v l := by
  obtain ⟨hl, hz⟩ := h
  refine ⟨hl, ?_⟩
  rcases hz with h5 | ⟨g, cap, cur, e, h3, h6⟩
  · exact Or.inl h5
  · exact Or.inr ⟨g, cap, cur, e, Nat.le_trans hc h3, h6⟩
/-- a row that lies above all that was written is as it was -/
theorem Mv.owns {A : Nat} {r r' : Option Nat} {w w' : World} (h : Mv A r r' w w') {C e k n : Nat} {v : Value} {xs : List Value} (ho : w.ownsRow C e k v n xs) (hA : A < C) (hr : ∀ q, r = some q → q < C) : w'.ownsRow C e k v n xs := by
  have hlt := ho.lt
  obtain ⟨hl, hz⟩ := ho
  refine ⟨hl, ?_⟩
  rcases hz with h5 | ⟨g, cap, cur, rfl, h3, h6, h7⟩
  · exact Or.inl h5
  · refine Or.inr ⟨g, cap, cur, rfl, h3, ?_, h7⟩
    rw [h.block g (hlt g rfl).2 (by omega) (fun e => by have := hr g e.symm; omega)]
    exact h6

theorem Mv.owns2 {A : Nat} {r r' : Option Nat} {w w' : World} (h : Mv A r r' w w') {C e k n : Nat} {v : Value} {xs : List Value} (ho : w.ownsRow C e k v n xs) (hA : w.heap.size ≤ A) (hr : ∀ q, r = some q → q < C) : w'.ownsRow C e k v n xs := by
  have hlt := ho.lt
  obtain ⟨hl, hz⟩ := ho
  refine ⟨hl, ?_⟩
  rcases hz with h5 | ⟨g, cap, cur, rfl, h3, h6, h7⟩
  · exact Or.inl h5
  · refine Or.inr ⟨g, cap, cur, rfl, h3, ?_, h7⟩
    rw [h.block g (hlt g rfl).2 (by have := (hlt g rfl).2; omega) (fun e => by have := hr g e.symm; omega)]
    exact h6
theorem But.owns {A B : Nat} {w w' : World} (h : But B A w w') (hB : w.heap.size ≤ B) {C e k n : Nat} {v : Value} {xs : List Value} (ho : w.ownsRow C e k v n xs) (hA : A < C) : w'.ownsRow C e k v n xs := by
  have hlt := ho.lt
  obtain ⟨hl, hz⟩ := ho
  refine ⟨hl, ?_⟩
  rcases hz with h5 | ⟨g, cap, cur, rfl, h3, h6, h7⟩
  · exact Or.inl h5
  · refine Or.inr ⟨g, cap, cur, rfl, h3, ?_, h7⟩
    rw [h.block g (by have := (hlt g rfl).2; omega) (by omega)]
    exact h6
theorem owns_below {w w' : World} {C e k n : Nat} {v : Value} {xs : List Value} (ho : w.ownsRow C e k v n xs) (h : Below w.heap.size w w') : w'.ownsRow C e k v n xs := by
  have hlt := ho.lt
  obtain ⟨hl, hz⟩ := ho
  refine ⟨hl, ?_⟩
  rcases hz with h5 | ⟨g, cap, cur, rfl, h3, h6, h7⟩
  · exact Or.inl h5
  · refine Or.inr ⟨g, cap, cur, rfl, h3, ?_, h7⟩
    rw [h.block g (hlt g rfl).2]
    exact h6

/-- append, and where what comes of it lies -/
theorem append_claim2 {w0 wr : World} {ops : Array Oper} {rest : List Oper} {o : Oper} {a : Act} {Q : Exit → Act → World → Prop} (hgd : o.guard = none)
    (s x : Operand) (ho : o.op = Op.call { callee := Callee.builtin Builtin.append, args := #[s, x], argTypes := #[26, 26] }) {B : Nat} {v : Value} {l : List Cl} (n k : Nat)
    (hs : a.eval s = v) (hx : a.eval x = .slice (some ⟨wr.heap.size, 0, none⟩) 1 1) (hown : OwnC wr B v l) (hnx : Below B w0 wr) (hB : B ≤ wr.heap.size) (hsz : l.length ≤ 1000000000)
    (h : ∀ v' w1, OwnC w1 B v' (l ++ [(n, k)]) → Below B w0 w1 → wr.grownBy w1 v.ownBlock → (v'.ownBlock = v.ownBlock ∨ ∃ g, wr.heap.size ≤ g ∧ v'.ownBlock = some g) → wpList Tryz.prog ops Q rest (a.put o.dst v') w1) :
    wpList Tryz.prog ops Q (o :: rest) a (wr.alloc (.cells #[.int .i64 (n : Int), .int .i64 (k : Int)] 64)) := by
  obtain ⟨i0, hi, hz0, hz1, hz2⟩ := info_parts infoC
  unfold OwnC at hown h
  have hown' := hown.alloc (.cells #[.int .i64 (n : Int), .int .i64 (k : Int)] 64)
  have hnews : ∀ (j : Nat) (u : Value), ([iv n, iv k] : List Value)[j]? = some u → (wr.alloc (.cells #[.int .i64 (n : Int), .int .i64 (k : Int)] 64)).cell? ((⟨wr.heap.size, 0, none⟩ : Addr).add j) = some u := by
    intro j y hy
    rw [add_at, Nat.zero_add, World.cell?_alloc_new]
    rw [← hy]
    simp [iv]
  have h1 : ∀ u ∈ ([iv n, iv k] : List Value), u.oneCell' = true := by intro y hy; simp at hy; rcases hy with rfl | rfl <;> rfl
  have hzs : (i0.size : Nat) = 2 := hz1
  refine wpList_plain hgd fun K hK => ?_
  obtain ⟨v', w', hr, h2, h3, _⟩ := run_append_own (P := Tryz.prog) (wr.alloc (.cells #[.int .i64 (n : Int), .int .i64 (k : Int)] 64)) B 26 o.type 64 i0 (.agg #[.int .i64 0, .int .i64 0]) 2 16 Tryz.underlying26 hi hz0 hz1 hz2 rfl (by decide) v _ _ hown' ⟨_, 0, none⟩ 1 1 [iv n, iv k] rfl hnews h1 (by unfold maxLen; omega) (by omega) (by simp; omega)
  have hn := (hnx.alloc hB (.cells #[.int .i64 (n : Int), .int .i64 (k : Int)] 64)).grown h3 (by simp; omega) (fun j hj => (hown.lt j hj).1)
  have hg2 : wr.grownBy w' v.ownBlock := by
    have h4 := World.grownBy_alloc wr (.cells #[.int .i64 (n : Int), .int .i64 (k : Int)] 64) v.ownBlock
    exact ⟨h3.os.trans h4.os, h3.tape.trans h4.tape, h3.output.trans h4.output, Nat.le_trans h4.size h3.size, fun q hq hr' => (h3.block q (Nat.lt_of_lt_of_le hq h4.size) hr').trans (h4.block q hq hr')⟩
  have hblk : v'.ownBlock = v.ownBlock ∨ ∃ g, wr.heap.size ≤ g ∧ v'.ownBlock = some g := by
    rcases hown'.2 with ⟨rfl, hn0⟩ | ⟨g, cap, cur, rfl, hbg, hg, hnc, hcm, hcs, htake⟩
    · have hr2 := run_append_nil (P := Tryz.prog) (wr.alloc (.cells #[.int .i64 (n : Int), .int .i64 (k : Int)] 64)) 26 o.type 64 i0 (.agg #[.int .i64 0, .int .i64 0]) Tryz.underlying26 hi hz0 ⟨wr.heap.size, 0, none⟩ 1 1 [iv n, iv k] (by rw [hzs]; rfl) hnews (by decide) (by decide) (by rw [hz2]; decide)
      rw [hr2] at hr
      injection hr with e1 e2
      right
      refine ⟨wr.heap.size + 1, by omega, ?_⟩
      rw [← e1]
      simp [Value.ownBlock]
    · by_cases hroom : l.length + 1 ≤ cap
      · have hr2 := run_append_room (P := Tryz.prog) (wr.alloc (.cells #[.int .i64 (n : Int), .int .i64 (k : Int)] 64)) 26 o.type 64 i0 Tryz.underlying26 hi g l.length cap cur hg ⟨wr.heap.size, 0, none⟩ 1 1 [iv n, iv k] (by rw [hzs]; rfl) hnews h1 hroom (by rw [hzs, hcs]; simp; omega)
        rw [hr2] at hr
        injection hr with e1 e2
        left
        rw [← e1]
        rfl
      · have hr2 := run_append_grow (P := Tryz.prog) (wr.alloc (.cells #[.int .i64 (n : Int), .int .i64 (k : Int)] 64)) 26 o.type 64 i0 (.agg #[.int .i64 0, .int .i64 0]) Tryz.underlying26 hi hz0 ⟨g, 0, none⟩ l.length cap _ (by rw [hzs]; exact hown'.1) (World.ownsRow.cells hown' (g := g) rfl) ⟨wr.heap.size, 0, none⟩ 1 1 [iv n, iv k] (by rw [hzs]; rfl) hnews (by omega) (by omega) (growslice_fits (by omega) (by rw [hz2]; omega))
        rw [hr2] at hr
        injection hr with e1 e2
        right
        refine ⟨wr.heap.size + 1, by omega, ?_⟩
        rw [← e1]
        simp [Value.ownBlock]
  unfold Oper.wp execOp
  simp only [ho, resolve, invoke, builtin, Sem.run_bind, Sem.run_pure, Result.andThen_ok, List.map_toArray, List.map_cons, List.map_nil, hs, hx, hr]
  exact hK _ _ (h v' w' (by simpa [cv] using h2) hn hg2 hblk)

/-- a document, and how long its values may be -/
structure Dx (w : World) (b o c : Nat) (rs : List Raw) (d : Tn.Dc) : Prop where
  doc : DocAt w b o c rs d
  fine : Fine d
  vn : ∀ j, Vn (Tn.nd d j)
theorem Dx.keeps {w w' : World} {b o c : Nat} {rs : List Raw} {d : Tn.Dc} (h : Dx w b o c rs d) (hk : Keeps w w') : Dx w' b o c rs d := ⟨h.doc.keeps hk, h.fine, h.vn⟩
theorem Dx.below {w w' : World} {b o c : Nat} {rs : List Raw} {d : Tn.Dc} (h : Dx w b o c rs d) (hb : Below w.heap.size w w') : Dx w' b o c rs d := h.keeps (keeps_below hb (Nat.le_refl _))
theorem dx_build {w : World} {b o c : Nat} {rs : List Raw} {l : List Tn.Chg} (h : DocAt w b o c rs (Tn.build l)) (hl : ∀ x ∈ l, x.value.size ≤ 4194304 ∧ x.name.size ≤ 4194304) : Dx w b o c rs (Tn.build l) := ⟨h, build_fine l, build_vn hl⟩
end Go.Proofs.YtbinbojicmhdlaeGreatDoor

/-
  FRAMES: all blocks are as they were, but some that are maps; sets of nodes, as maps of the call's own.
-/
namespace Go.Proofs.YtbinbojicmhdlaeGreatDoor
open Go.RowKit Go.Maps

/-- all blocks are as they were, but those of S -/
structure Bt (S : List Nat) (w w' : World) : Prop where
  os : w'.os = w.os
  tape : w'.tape = w.tape
  output : w'.output = w.output
  size : w.heap.size ≤ w'.heap.size
  block : ∀ k, k < w.heap.size → k ∉ S → w'.heap[k]? = w.heap[k]?
theorem Bt.refl (S : List Nat) (w : World) : Bt S w w := ⟨rfl, rfl, rfl, Nat.le_refl _, fun _ _ _ => rfl⟩
theorem Bt.trans {S : List Nat} {a b c : World} (h : Bt S a b) (k : Bt S b c) : Bt S a c :=
  ⟨k.os.trans h.os, k.tape.trans h.tape, k.output.trans h.output, Nat.le_trans h.size k.size, fun i hi hn => (k.block i (Nat.lt_of_lt_of_le hi h.size) hn).trans (h.block i hi hn)⟩
theorem Bt.of {S : List Nat} {w w' : World} {C : Nat} (h : Below C w w') (hC : w.heap.size ≤ C) : Bt S w w' := ⟨h.os, h.tape, h.output, h.size, fun i hi _ => h.block i (by omega)⟩
theorem Bt.below {S : List Nat} {w w' : World} (h : Below w.heap.size w w') : Bt S w w' := Bt.of h (Nat.le_refl _)
theorem Bt.grow {S : List Nat} {w w' w'' : World} {A : Nat} (h : Bt S w w') (g : w'.grownBy w'' (some A)) (hA : A ∈ S) : Bt S w w'' :=
  ⟨g.os.trans h.os, g.tape.trans h.tape, g.output.trans h.output, Nat.le_trans h.size g.size, fun k hk hn => (g.block k (Nat.lt_of_lt_of_le hk h.size) (fun e => hn (by injection e with e; rw [e]; exact hA))).trans (h.block k hk hn)⟩
theorem Bt.grow1 {S : List Nat} {w w' : World} {A : Nat} (g : w.grownBy w' (some A)) (hA : A ∈ S) : Bt S w w' := (Bt.refl S w).grow g hA
theorem Bt.drew {S : List Nat} {w w' : World} (h : Bt S w w') : Bt S w w'.drew := ⟨h.os, h.tape, h.output, h.size, h.block⟩
/-- what was not there when it began need not be named -/
theorem Bt.forget {S T : List Nat} {w w' : World} (h : Bt S w w') (hS : ∀ k ∈ S, k ∈ T ∨ w.heap.size ≤ k) : Bt T w w' :=
  ⟨h.os, h.tape, h.output, h.size, fun k hk hn => h.block k hk (fun hx => by
    rcases hS k hx with h1 | h1
    · exact hn h1
    · omega)⟩
theorem Bt.low {S : List Nat} {w w' : World} (h : Bt S w w') {C : Nat} (hC : C ≤ w.heap.size) (hS : ∀ k ∈ S, C ≤ k) : Below C w w' :=
  ⟨h.os, h.tape, h.output, h.size, fun k hk => h.block k (by omega) (fun hx => by have := hS k hx; omega)⟩
theorem Bt.high {S : List Nat} {w w' w'' : World} (h : Bt S w w') {C : Nat} (k : Below C w' w'') (hC : w.heap.size ≤ C) : Bt S w w'' :=
  ⟨k.os.trans h.os, k.tape.trans h.tape, k.output.trans h.output, Nat.le_trans h.size k.size, fun i hi hn => (k.block i (by omega)).trans (h.block i hi hn)⟩
theorem Bt.cell {S : List Nat} {w w' : World} (h : Bt S w w') {p : Addr} {v : Value} (hv : w.cell? p = some v) (hp : p.block ∉ S) : w'.cell? p = some v := by
  rw [← hv]
  exact World.cell?_of_block (h.block p.block (lt_of_cell hv) hp)
theorem Bt.owns {S : List Nat} {w w' : World} (h : Bt S w w') {C e k n : Nat} {v : Value} {xs : List Value} (ho : w.ownsRow C e k v n xs) (hS : ∀ x ∈ S, x < C) : w'.ownsRow C e k v n xs := by
  have hlt := ho.lt
  obtain ⟨hl, hz⟩ := ho
  refine ⟨hl, ?_⟩
  rcases hz with h5 | ⟨g, cap, cur, rfl, h3, h6, h7⟩
  · exact Or.inl h5
  · refine Or.inr ⟨g, cap, cur, rfl, h3, ?_, h7⟩
    rw [h.block g (hlt g rfl).2 (fun hx => by have := hS g hx; omega)]
    exact h6

/-- these blocks are maps -/
def AreMaps (S : List Nat) (w : World) : Prop := ∀ k ∈ S, ∃ es c, w.heap[k]? = some (.map es c)
theorem AreMaps.below {S : List Nat} {w w' : World} (h : AreMaps S w) (hb : Below w.heap.size w w') : AreMaps S w' := fun k hk => by
  obtain ⟨es, c, e⟩ := h k hk
  exact ⟨es, c, by rw [hb.block k (Array.getElem?_eq_some_iff.1 e).1]; exact e⟩
theorem Bt.keeps {S : List Nat} {w w' : World} (h : Bt S w w') (hm : AreMaps S w) : Keeps w w' := by
  intro a v hv
  refine h.cell hv (fun hx => ?_)
  obtain ⟨es, c, e⟩ := hm _ hx
  simp [World.cell?, e] at hv
theorem TabAt.keeps {w w' : World} (h : Kn.TabAt w) (k : Keeps w w') (hs : w.heap.size ≤ w'.heap.size) : Kn.TabAt w' :=
  ⟨Nat.lt_of_lt_of_le h.1 hs, fun i hi => by
    have r := h.2 i hi
    exact ⟨k _ _ r.c0, k _ _ r.c1, k _ _ r.c2, k _ _ r.c3, k _ _ r.c4, k _ _ r.c5, k _ _ r.c6⟩⟩
theorem Cx.keeps {w w' : World} {b o c : Nat} {rs : List Raw} {d : Tn.Dc} (h : Cx w b o c rs d) (k : Keeps w w') (hs : w.heap.size ≤ w'.heap.size) : Cx w' b o c rs d := ⟨h.doc.keeps k, TabAt.keeps h.tab k hs, h.fine, h.vn⟩

/-! ### sets -/
theorem keyU : Keyed Tryz.prog 3 := int_keyed Tryz.underlying3

/-- block b is a set that holds just the nodes of S -/
def SetAt (w : World) (b : Nat) (S : List Nat) : Prop :=
  ∃ D, w.ownsMap Tryz.prog 3 (unitElem (H := Unit)) b (S.length + 1) D ∧ ∀ kl, Maps.has D kl = true ↔ ∃ k ∈ S, kl = .int .i64 (k : Int)
/-- it holds those, and n at most -/
def PreAt (w : World) (b : Nat) (S : List Nat) (n : Nat) : Prop :=
  ∃ D, w.ownsMap Tryz.prog 3 (unitElem (H := Unit)) b (S.length + 1) D ∧ (∀ kl, Maps.has D kl = true → ∃ k, (k ∈ S ∨ k = n) ∧ kl = .int .i64 (k : Int)) ∧ ∀ k ∈ S, Maps.has D (.int .i64 (k : Int)) = true

theorem SetAt.pre {w : World} {b : Nat} {S : List Nat} (h : SetAt w b S) (n : Nat) : PreAt w b S n := by
  obtain ⟨D, h1, h2⟩ := h
  refine ⟨D, h1, fun kl hk => ?_, fun k hk => (h2 _).mpr ⟨k, hk, rfl⟩⟩
  obtain ⟨k, hk, e⟩ := (h2 kl).mp hk
  exact ⟨k, Or.inl hk, e⟩
theorem SetAt.same {w w' : World} {b : Nat} {S : List Nat} (h : SetAt w b S) (hb : w'.heap[b]? = w.heap[b]?) : SetAt w' b S := by
  obtain ⟨D, ⟨es, clock, h1, h2⟩, h4⟩ := h
  exact ⟨D, ⟨es, clock, by rw [hb]; exact h1, h2⟩, h4⟩
theorem PreAt.same {w w' : World} {b n : Nat} {S : List Nat} (h : PreAt w b S n) (hb : w'.heap[b]? = w.heap[b]?) : PreAt w' b S n := by
  obtain ⟨D, ⟨es, clock, h1, h2⟩, h4⟩ := h
  exact ⟨D, ⟨es, clock, by rw [hb]; exact h1, h2⟩, h4⟩
theorem SetAt.lt {w : World} {b : Nat} {S : List Nat} (h : SetAt w b S) : b < w.heap.size := by
  obtain ⟨D, h1, _⟩ := h
  exact h1.lt
theorem PreAt.lt {w : World} {b n : Nat} {S : List Nat} (h : PreAt w b S n) : b < w.heap.size := by
  obtain ⟨D, h1, _⟩ := h
  exact h1.lt
theorem SetAt.below {w w' : World} {b : Nat} {S : List Nat} (h : SetAt w b S) (hb : Below w.heap.size w w') : SetAt w' b S := h.same (hb.block b h.lt)
theorem PreAt.below {w w' : World} {b n : Nat} {S : List Nat} (h : PreAt w b S n) (hb : Below w.heap.size w w') : PreAt w' b S n := h.same (hb.block b h.lt)
theorem SetAt.maps {w : World} {b : Nat} {S : List Nat} (h : SetAt w b S) : AreMaps [b] w := by
  obtain ⟨D, ⟨es, clock, h1, h2⟩, h4⟩ := h
  intro k hk
  rw [List.mem_singleton] at hk
  exact ⟨es, clock, by rw [hk]; exact h1⟩
theorem PreAt.maps {w : World} {b n : Nat} {S : List Nat} (h : PreAt w b S n) : AreMaps [b] w := by
  obtain ⟨D, ⟨es, clock, h1, h2⟩, h4⟩ := h
  intro k hk
  rw [List.mem_singleton] at hk
  exact ⟨es, clock, by rw [hk]; exact h1⟩
theorem set_made (w : World) : SetAt (w.alloc (.map #[] 0)) w.heap.size [] :=
  ⟨.map [], (World.ownsMap_made w Tryz.prog 3 _).mono (by simp), fun kl => by simp [Maps.has]⟩

theorem has_put {D : DataW Unit} (h : IsMap D) (k : Nat) (kl : Lit) : Maps.has (D.put (.int .i64 (k : Int)) (.agg [])) kl = true ↔ Maps.has D kl = true ∨ kl = .int .i64 (k : Int) := by
  by_cases e : kl = .int .i64 (k : Int)
  · subst e
    rw [has_put_same h (by trivial)]
    simp
  · rw [has_put_other e]
    simp [e]

theorem SetAt.look {w : World} {b : Nat} {S : List Nat} (h : SetAt w b S) (n : Int) (hn : -1000 ≤ n) (hn2 : n ≤ 1000) : (Instr.lookup 92 (.map (some b)) (.int .i64 n) true).run Tryz.prog w = .ok (.tuple #[.agg #[], .bool (decide (0 ≤ n ∧ n.toNat ∈ S))]) w := by
  obtain ⟨D, h1, h3⟩ := h
  obtain ⟨v, ps, hrun, hv⟩ := h1.look_ok (t := 92) keyU Tryz.underlying92 (Tryz.zeroValue124 w) (zd := .agg []) (zp := []) rfl (keyOf_int_mk Tryz.underlying3 (WalkArith.wf_i64 (n := n) (by omega)))
  have e := unitElem_inv hv
  rw [hrun, e.1]
  have eq : Maps.has D (.int .i64 n) = decide (0 ≤ n ∧ n.toNat ∈ S) := by
    rw [Bool.eq_iff_iff, h3]
    simp only [decide_eq_true_eq]
    constructor
    · rintro ⟨k, hk, e⟩
      injection e with _ e
      subst e
      exact ⟨by omega, by simpa using hk⟩
    · rintro ⟨h1, h2⟩
      exact ⟨n.toNat, h2, by rw [Int.toNat_of_nonneg h1]⟩
  rw [eq]

theorem set_put {w : World} {ops : Array Oper} {rest : List Oper} {o : Oper} {a : Act} {Q : Exit → Act → World → Prop}
    (hg : o.guard = none) (m x v : Operand) (hop : o.op = Op.mapUpdate 92 m x v) (b : Nat) (S : List Nat) (k : Nat) (hk : k ≤ 1000) (ha : S.length ≤ 100000)
    (hm : a.eval m = .map (some b)) (h : PreAt w b S k) (hx : a.eval x = .int .i64 (k : Int)) (hv : a.eval v = .agg #[])
    (hK : ∀ w', SetAt w' b (S ++ [k]) → w.grownBy w' (some b) → wpList Tryz.prog ops Q rest (a.put o.dst undef) w') : wpList Tryz.prog ops Q (o :: rest) a w := by
  obtain ⟨D, h1, h2, h3⟩ := h
  refine wpList_mapUpdate_own w hg m x v 92 hop 3 124 keyU Tryz.underlying92 (unitElem (H := Unit)) b (S.length + 1) D hm h1 (by unfold maxLen; omega) _ _ (.int .i64 (k : Int)) hx hv (keyOf_int_mk Tryz.underlying3 (WalkArith.wf_i64 (by omega))) (.agg []) [] unitElem_mk ?_
  intro w' g1 g2
  refine hK w' ⟨_, by simpa using g1, fun kl => ?_⟩ g2
  rw [has_put h1.isMap]
  constructor
  · rintro (h | h)
    · obtain ⟨j, hj, e⟩ := h2 kl h
      exact ⟨j, by simpa using hj, e⟩
    · exact ⟨k, by simp, h⟩
  · rintro ⟨j, hj, e⟩
    rw [List.mem_append, List.mem_singleton] at hj
    rcases hj with hj | rfl
    · exact Or.inl (by rw [e]; exact h3 j hj)
    · exact Or.inr e
end Go.Proofs.YtbinbojicmhdlaeGreatDoor

/-
  ITEMS in memory: how a slice of them reads, all the way down; one of the call's own; append.
-/
namespace Go.Proofs.YtbinbojicmhdlaeGreatDoor
open Go.RowKit

theorem infoT : (Tryz.prog.info? 72).map (fun i => (i.zero, i.size, i.bytes)) = some (some (.agg #[.int .i64 0, .int .i64 0, .string ⟨#[]⟩, .string ⟨#[]⟩, .int .i64 0, .int .i64 0, .bool false, .slice none 0 0]), 8, 96) := by kernel_rfl

def itc (p : It × Value) : List Value := [iv p.1.node, .int .i64 p.1.role, .string p.1.name, .string p.1.about, .int .i64 p.1.level, .int .i64 p.1.checked, .bool p.1.off, p.2]
theorem itc_len (p : It × Value) : (itc p).length = 8 := rfl
/-- the cells of a row of items, whose lists of kids lie as kvs says -/
def cellsT (l : List It) (kvs : List Value) : List Value := (l.zip kvs).flatMap itc
theorem cellsT_len (l : List It) (kvs : List Value) (h : kvs.length = l.length) : (cellsT l kvs).length = l.length * 8 := by
  unfold cellsT
  rw [flat_len itc 8 itc_len, List.length_zip, h, Nat.min_self]
theorem cellsT_app (l m : List It) (ks ms : List Value) (h : ks.length = l.length) : cellsT (l ++ m) (ks ++ ms) = cellsT l ks ++ cellsT m ms := by
  unfold cellsT
  rw [List.zip_append h.symm, List.flatMap_append]
theorem cellsT_at (l : List It) (kvs : List Value) (h : kvs.length = l.length) (j i : Nat) (hj : j < l.length) (hi : i < 8) : (cellsT l kvs)[j * 8 + i]? = (itc (l[j], kvs[j]'(by omega)))[i]? := by
  unfold cellsT
  rw [flat_at itc 8 itc_len _ _ _ hi, List.getElem?_eq_getElem (by rw [List.length_zip]; omega), List.getElem_zip]
  rfl
theorem oneT (l : List It) (kvs : List Value) (hk : ∀ v ∈ kvs, v.oneCell' = true) : ∀ u ∈ cellsT l kvs, u.oneCell' = true := by
  intro u hu
  unfold cellsT at hu
  rw [List.mem_flatMap] at hu
  obtain ⟨p, hp, hm⟩ := hu
  simp only [itc, List.mem_cons, List.not_mem_nil, or_false] at hm
  rcases hm with rfl | rfl | rfl | rfl | rfl | rfl | rfl | rfl
  · rfl
  · rfl
  · rfl
  · rfl
  · rfl
  · rfl
  · rfl
  · exact hk _ (List.of_mem_zip hp).2

/-- a slice of items, as it reads; all that is in it lies in blocks of P -/
inductive ItsAt (w : World) (P : Nat → Prop) : Value → List It → Prop
  | mk (p : Option Addr) (c : Nat) (xs : List It) (kvs : List Value) (hl : kvs.length = xs.length) (hc : CellsAt w (.slice p xs.length c) xs.length (cellsT xs kvs))
      (hP : ∀ a, p = some a → xs ≠ [] → P a.block) (hk : ∀ j (h : j < xs.length) (h' : j < kvs.length), ItsAt w P kvs[j] xs[j].kids) : ItsAt w P (.slice p xs.length c) xs

theorem ItsAt.shape {w : World} {P : Nat → Prop} {v : Value} {l : List It} (h : ItsAt w P v l) : ∃ p c, v = .slice p l.length c := by
  cases h with
  | mk p c xs kvs => exact ⟨_, _, rfl⟩
theorem ItsAt.one {w : World} {P : Nat → Prop} {v : Value} {l : List It} (h : ItsAt w P v l) : v.oneCell' = true := by
  obtain ⟨p, c, rfl⟩ := h.shape
  rfl
theorem ItsAt.nil (w : World) (P : Nat → Prop) : ItsAt w P (.slice none 0 0) [] :=
  .mk none 0 [] [] rfl ⟨none, 0, rfl, Nat.le_refl _, by decide, Or.inl ⟨rfl, rfl⟩, fun j x h => by simp [cellsT] at h⟩ (fun a e => by cases e) (fun j h => by simp at h)

/-- what lies in blocks that are as they were reads as it read -/
theorem ItsAt.frame {w w' : World} {P : Nat → Prop} {v : Value} {l : List It} (h : ItsAt w P v l) {Q : Nat → Prop} (hf : ∀ g, P g → g < w.heap.size → w'.heap[g]? = w.heap[g]? ∧ Q g) : ItsAt w' Q v l := by
  induction h with
  | mk p c xs kvs hl hc hP hk ih =>
    obtain ⟨p', c', e, h1, h2, h3, h4⟩ := hc
    cases e
    have key : ∀ j x, (cellsT xs kvs)[j]? = some x → ∀ b o, p = some ⟨b, o, none⟩ → w.cell? ⟨b, o + j, none⟩ = some x → w'.heap[b]? = w.heap[b]? ∧ Q b := fun j x hx b o e he => by
      have hne : xs ≠ [] := by
        rintro rfl
        simp [cellsT] at hx
      exact hf b (hP _ e hne) (lt_of_cell he)
    refine .mk p c xs kvs hl ⟨p, c, rfl, h1, h2, h3, fun j x hx => ?_⟩ (fun a e hne => ?_) (fun j h h' => ih j h h')
    · obtain ⟨b, o, e1, e2⟩ := h4 j x hx
      exact ⟨b, o, e1, by rw [← e2]; exact World.cell?_of_block (key j x hx b o e1 e2).1⟩
    · have h0 : 0 < xs.length := List.length_pos_iff.mpr hne
      obtain ⟨x, hx⟩ : ∃ x, (cellsT xs kvs)[0]? = some x := ⟨_, List.getElem?_eq_getElem (by rw [cellsT_len _ _ hl]; omega)⟩
      obtain ⟨b, o, e1, e2⟩ := h4 0 x hx
      rw [e] at e1
      cases e1
      exact (key 0 x hx b o e e2).2
theorem ItsAt.under {w w' : World} {P : Nat → Prop} {v : Value} {l : List It} (h : ItsAt w P v l) (hb : Below w.heap.size w w') : ItsAt w' P v l := h.frame (fun g hg hlt => ⟨hb.block g hlt, hg⟩)
theorem ItsAt.any {w : World} {P : Nat → Prop} {v : Value} {l : List It} (h : ItsAt w P v l) {Q : Nat → Prop} (hQ : ∀ g, P g → g < w.heap.size → Q g) : ItsAt w Q v l := h.frame (fun g hg hlt => ⟨rfl, hQ g hg hlt⟩)

/-- an item of a row: its cells -/
structure ItAt (w : World) (b o : Nat) (x : It) (kv : Value) : Prop where
  c0 : w.cell? ⟨b, o, none⟩ = some (.int .i64 (x.node : Int))
  c1 : w.cell? ⟨b, o + 1, none⟩ = some (.int .i64 x.role)
  c2 : w.cell? ⟨b, o + 2, none⟩ = some (.string x.name)
  c3 : w.cell? ⟨b, o + 3, none⟩ = some (.string x.about)
  c4 : w.cell? ⟨b, o + 4, none⟩ = some (.int .i64 x.level)
  c5 : w.cell? ⟨b, o + 5, none⟩ = some (.int .i64 x.checked)
  c6 : w.cell? ⟨b, o + 6, none⟩ = some (.bool x.off)
  c7 : w.cell? ⟨b, o + 7, none⟩ = some kv
theorem ItAt.keeps {w w' : World} {b o : Nat} {x : It} {kv : Value} (h : ItAt w b o x kv) (k : Keeps w w') : ItAt w' b o x kv := ⟨k _ _ h.c0, k _ _ h.c1, k _ _ h.c2, k _ _ h.c3, k _ _ h.c4, k _ _ h.c5, k _ _ h.c6, k _ _ h.c7⟩

theorem ItsAt.at {w : World} {P : Nat → Prop} {v : Value} {l : List It} (h : ItsAt w P v l) : ∃ p c, v = .slice p l.length c ∧ l.length ≤ c ∧ c ≤ 9223372036854775807 ∧
    ∀ j (hj : j < l.length), ∃ b o kv, p = some ⟨b, o, none⟩ ∧ P b ∧ ItAt w b (o + j * 8) l[j] kv ∧ ItsAt w P kv l[j].kids := by
  cases h with
  | mk p c xs kvs hl hc hP hk =>
    obtain ⟨p', c', e, h1, h2, h3, h4⟩ := hc
    cases e
    refine ⟨p, c, rfl, h1, by unfold maxLen at h2; omega, fun j hj => ?_⟩
    have hj' : j < kvs.length := by omega
    have hx : ∀ i, i < 8 → ∀ x, (itc (l[j], kvs[j]))[i]? = some x → ∃ b o, p = some ⟨b, o, none⟩ ∧ w.cell? ⟨b, o + j * 8 + i, none⟩ = some x := fun i hi x hx => by
      obtain ⟨b, o, e1, e2⟩ := h4 (j * 8 + i) x (by rw [cellsT_at l kvs hl j i hj hi]; exact hx)
      exact ⟨b, o, e1, by rw [Nat.add_assoc]; exact e2⟩
    obtain ⟨b, o, rfl, e0⟩ := hx 0 (by decide) _ rfl
    have hy : ∀ i, i < 8 → ∀ x, (itc (l[j], kvs[j]))[i]? = some x → w.cell? ⟨b, o + j * 8 + i, none⟩ = some x := fun i hi x h => by
      obtain ⟨b', o', e1, e2⟩ := hx i hi x h
      cases e1
      exact e2
    exact ⟨b, o, kvs[j], rfl, hP _ rfl (fun h => by subst h; simp at hj), ⟨e0, hy 1 (by decide) _ rfl, hy 2 (by decide) _ rfl, hy 3 (by decide) _ rfl, hy 4 (by decide) _ rfl, hy 5 (by decide) _ rfl, hy 6 (by decide) _ rfl, hy 7 (by decide) _ rfl⟩, hk j hj hj'⟩

/-- a row of items of the call's own, and all that is in them -/
def OwnT (w : World) (B : Nat) (v : Value) (l : List It) : Prop :=
  (l = [] → v = .slice none 0 0) ∧ ∃ kvs, kvs.length = l.length ∧ w.ownsRow B 72 8 v l.length (cellsT l kvs) ∧ ∀ j (h : j < l.length) (h' : j < kvs.length), ItsAt w (fun g => B ≤ g ∧ some g ≠ v.ownBlock) kvs[j] l[j].kids

theorem OwnT.nil (w : World) (B : Nat) : OwnT w B (.slice none 0 0) [] := ⟨fun _ => rfl, [], rfl, World.ownsRow_nil _ _ _ _, fun j h => by simp at h⟩
theorem OwnT.shape {w : World} {B : Nat} {v : Value} {l : List It} (h : OwnT w B v l) : ∃ p c, v = .slice p l.length c := by
  obtain ⟨_, _, _, h, _⟩ := h
  exact owns_shape h
theorem OwnT.row {w : World} {B : Nat} {v : Value} {l : List It} (h : OwnT w B v l) : ItsAt w (fun g => B ≤ g) v l := by
  obtain ⟨_, kvs, hl, ho, hk⟩ := h
  have hlt := ho.lt
  have hc := cells_of_owns ho
  obtain ⟨p, c, rfl⟩ := owns_shape ho
  exact .mk p c l kvs hl hc (fun a e _ => (hlt a.block (by rw [e]; rfl)).1) (fun j h h' => (hk j h h').any (fun g hg _ => hg.1))
theorem OwnT.lt {w : World} {B : Nat} {v : Value} {l : List It} (h : OwnT w B v l) : ∀ g, v.ownBlock = some g → B ≤ g ∧ g < w.heap.size := by
  obtain ⟨_, kvs, hl, ho, hk⟩ := h
  exact ho.lt
theorem OwnT.mono {w : World} {B C : Nat} {v : Value} {l : List It} (h : OwnT w B v l) (hC : C ≤ B) : OwnT w C v l := by
  obtain ⟨hn, kvs, hl, ho, hk⟩ := h
  refine ⟨hn, kvs, hl, ?_, fun j h h' => (hk j h h').any (fun g hg _ => ⟨Nat.le_trans hC hg.1, hg.2⟩)⟩
  obtain ⟨h1, h2⟩ := ho
  refine ⟨h1, ?_⟩
  rcases h2 with h2 | ⟨g, cap, cur, e, h3, h4⟩
  · exact Or.inl h2
  · exact Or.inr ⟨g, cap, cur, e, Nat.le_trans hC h3, h4⟩
theorem OwnT.bt {S : List Nat} {w w' : World} {B : Nat} {v : Value} {l : List It} (h : OwnT w B v l) (hb : Bt S w w') (hS : ∀ x ∈ S, x < B) : OwnT w' B v l := by
  obtain ⟨hn, kvs, hl, ho, hk⟩ := h
  exact ⟨hn, kvs, hl, hb.owns ho hS, fun j h h' => (hk j h h').frame (fun g hg hlt => ⟨hb.block g hlt (fun hx => by have := hS g hx; omega), hg⟩)⟩
theorem OwnT.below {w w' : World} {B : Nat} {v : Value} {l : List It} (h : OwnT w B v l) (hb : Below w.heap.size w w') : OwnT w' B v l := h.bt (S := []) (Bt.below hb) (by simp)

/-- append a row that was made behind this one -/
theorem own_grown {wr w1 : World} {B C : Nat} {v u : Value} {l m : List It} {g cap : Nat} (hown : OwnT wr B v l) (hm0 : m ≠ []) (hBC : B ≤ C) (hvC : ∀ g, v.ownBlock = some g → g < C)
    {kvs kus : List Value} (hl : kvs.length = l.length) (hlu : kus.length = m.length) (hk : ∀ j (h : j < l.length) (h' : j < kvs.length), ItsAt wr (fun g => B ≤ g ∧ some g ≠ v.ownBlock) kvs[j] l[j].kids)
    (hku : ∀ j (h : j < m.length) (h' : j < kus.length), ItsAt wr (fun g => C ≤ g ∧ some g ≠ u.ownBlock) kus[j] m[j].kids)
    (h1 : w1.ownsRow B 72 8 (.slice (some ⟨g, 0, none⟩) (l.length + m.length) cap) (l.length + m.length) (cellsT l kvs ++ cellsT m kus)) (h2 : wr.grownBy w1 v.ownBlock) (h3 : v.ownBlock = some g ∨ g = wr.heap.size) :
    OwnT w1 B (.slice (some ⟨g, 0, none⟩) (l.length + m.length) cap) (l ++ m) := by
  have hlt := hown.lt
  refine ⟨fun e => absurd (List.append_eq_nil_iff.mp e).2 hm0, kvs ++ kus, by rw [List.length_append, List.length_append, hl, hlu], by rw [cellsT_app _ _ _ _ hl, List.length_append]; exact h1, fun j h h' => ?_⟩
  have far : ∀ q, q < wr.heap.size → some q ≠ v.ownBlock → some q ≠ (Value.slice (some ⟨g, 0, none⟩) (l.length + m.length) cap).ownBlock := fun q hq hne e => by
    have e : q = g := by simpa [Value.ownBlock] using e
    rcases h3 with h3 | h3
    · exact hne (by rw [h3, e])
    · omega
  by_cases hj : j < l.length
  · have e1 : (l ++ m)[j] = l[j] := List.getElem_append_left hj
    have e2 : (kvs ++ kus)[j] = kvs[j]'(by omega) := List.getElem_append_left (by omega)
    rw [e1, e2]
    exact (hk j hj (by omega)).frame (fun q hq hlt => ⟨h2.block q hlt hq.2, hq.1, far q hlt hq.2⟩)
  · have hj2 : j - l.length < m.length := by rw [List.length_append] at h; omega
    have e1 : (l ++ m)[j] = m[j - l.length] := List.getElem_append_right (by omega)
    have e2 : (kvs ++ kus)[j] = kus[j - l.length]'(by omega) := by rw [List.getElem_append_right (by omega)]; simp only [hl]
    rw [e1, e2]
    refine (hku (j - l.length) hj2 (by omega)).frame (fun q hq hlt => ?_)
    have hne : some q ≠ v.ownBlock := fun e => by have := hvC q e.symm; omega
    exact ⟨h2.block q hlt hne, Nat.le_trans hBC hq.1, far q hlt hne⟩

theorem wp_append_items {wr : World} {o : Oper} {a : Act} {K : Act → World → Prop} {Q : Exit → Act → World → Prop}
    (s x : Operand) (ho : o.op = Op.call { callee := Callee.builtin Builtin.append, args := #[s, x], argTypes := #[28, 28] }) {B C : Nat} {v u : Value} {l m : List It}
    (hs : a.eval s = v) (hx : a.eval x = u) (hown : OwnT wr B v l) (hm : OwnT wr C u m) (hBC : B ≤ C) (hvC : ∀ g, v.ownBlock = some g → g < C) (hB : B ≤ wr.heap.size) (hsz : l.length + m.length ≤ 1000000)
    (h : ∀ v' w1, OwnT w1 B v' (l ++ m) → Below B wr w1 → (∀ g, v'.ownBlock = some g → g < w1.heap.size) → K (a.put o.dst v') w1) : o.wp Tryz.prog a wr K Q := by
  obtain ⟨i0, hi, hz0, hz1, hz2⟩ := info_parts infoT
  have hown0 := hown
  obtain ⟨hn, kvs, hl, hown', hk⟩ := hown
  obtain ⟨hnu, kus, hlu, hownu, hku⟩ := hm
  have hlt := hown'.lt
  have hltu := hownu.lt
  by_cases hm0 : m = []
  · have hu := hnu hm0
    subst hm0
    rw [hu] at hx
    have hrun := run_append_owned_none (P := Tryz.prog) (w := wr) B 28 o.type 72 i0 8 Tryz.underlying28 hi v _ _ hown'
    have hk' := h v wr (by rw [List.append_nil]; exact hown0) (Below.refl _ _) (fun g e => (hlt g e).2)
    unfold Oper.wp
    simp [execOp, ho, resolve, invoke, builtin, hs, hx, hrun, Result.andThen]
    exact hk'
  · have hpos : 0 < m.length := List.length_pos_iff.mpr hm0
    obtain ⟨gu, cu, hue, _, _⟩ := hownu.form hpos
    rw [hue] at hx
    refine wp_append_lies wr s x 28 ho B 72 i0 _ 8 96 Tryz.underlying28 hi hz0 hz1 hz2 rfl (by decide) v _ _ hs hown' ⟨gu, 0, none⟩ m.length cu (cellsT m kus) hx (cellsT_len _ _ hlu) (World.ownsRow.cells hownu (by rw [hue]; rfl))
      (oneT m kus (fun y hy => by
        obtain ⟨j, hj, e⟩ := List.mem_iff_getElem.mp hy
        rw [← e]
        exact (hku j (by omega) hj).one)) hpos (by unfold maxLen; omega) (by omega) hB _ rfl ?_
    intro g cap w1 k1 k2 k3 k4
    exact h _ w1 (by
      have := own_grown hown0 hm0 hBC hvC hl hlu hk hku k1 k2 k3
      exact this) ((Below.refl B wr).grown k2 hB (fun j hj => (hlt j hj).1)) (fun q e => by
      have e : q = g := by simpa [Value.ownBlock] using e.symm
      omega)

/-- one item, in a block by itself -/
theorem own_item {w : World} {B : Nat} {x : It} {kv : Value} (hB : B ≤ w.heap.size) (hk : ItsAt w (fun g => B ≤ g) kv x.kids) :
    OwnT (w.alloc (.cells (itc (x, kv)).toArray 72)) B (.slice (some ⟨w.heap.size, 0, none⟩) 1 1) [x] := by
  refine ⟨fun e => (by cases e), [kv], rfl, ?_, fun j h h' => ?_⟩
  · have h := World.ownsRow_lit (base := B) (e := 72) (size := 8) w (itc (x, kv)).toArray 1 hB (by decide) rfl
    simpa [cellsT] using h
  · have hj : j = 0 := by simp at h; exact h
    subst hj
    refine ItsAt.frame hk (fun g hg hlt => ⟨heap_alloc_old w _ hlt, hg, fun e => ?_⟩)
    have e : g = w.heap.size := by simpa [Value.ownBlock] using e
    omega

theorem boxv8 (w : World) (x0 x1 x2 x3 x4 x5 x6 x7 : Value) (t : Nat) : (w.alloc (.cells #[x0, x1, x2, x3, x4, x5, x6, x7] t)).cell? ⟨w.heap.size, 0, none⟩ = some x0 ∧ (w.alloc (.cells #[x0, x1, x2, x3, x4, x5, x6, x7] t)).cell? ⟨w.heap.size, 7, none⟩ = some x7 := by
  constructor <;> rw [World.cell?_alloc_new] <;> simp
end Go.Proofs.YtbinbojicmhdlaeGreatDoor
