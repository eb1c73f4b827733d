/-
  OWN WORK: Hmv, Tno, Hit, Had2, Hta, Han.
-/
import Derived.Test.YtgpckmolcdafcaeP4
import Derived.Test.YtgpckmolcdafcaeP2
import Derived.Test.YtgpckmolcdafcaeP0
/-
  THE WALK of diff's stand: move.
-/
namespace Go.Proofs.Ytgpckmolcdafcae
open Go.RowKit Go.Maps

/-- what came of an event: it is taken, or all is as it was -/
def Took (r : Except Int (List It)) (e : Ending) (x x' : Ax) : Prop := match r with
  | .ok T => e = .returned (.int .i64 0) ∧ Rp x'.ar x'.nm T
  | .error c => e = .returned (.int .i64 c) ∧ x' = x
theorem Took.bad {r : Except Int (List It)} {c : Int} (h : r = .error c) (x : Ax) : Took r (.returned (.int .i64 c)) x x := by rw [h]; exact ⟨rfl, rfl⟩
theorem Took.good {r : Except Int (List It)} {T : List It} (h : r = .ok T) {x x' : Ax} (h2 : Rp x'.ar x'.nm T) : Took r (.returned (.int .i64 0)) x x' := by rw [h]; exact ⟨rfl, h2⟩

theorem filt_len : ∀ {l : List Nat} {n : Nat}, l.Nodup → n ∈ l → (l.filter (fun k => decide (k ≠ n))).length + 1 = l.length
  | [], _, _, h => by simp at h
  | a :: l, n, hn, h => by
    rw [List.nodup_cons] at hn
    rw [List.filter_cons]
    by_cases e : a = n
    · subst e
      rw [filter_not hn.1]
      simp
    · have h2 : n ∈ l := by
        rcases List.mem_cons.mp h with h | h
        · exact absurd h.symm e
        · exact h
      have := filt_len hn.2 h2
      rw [if_pos (by simpa using e), List.length_cons, List.length_cons]
      omega
theorem find_of {T : List It} (h : Unlike T) {X : It} (hX : X ∈ itemL T) : findI T (X.node : Int) = some X := by
  rw [find_cast]
  rcases find_item (T := T) (n := X.node) with ⟨z, hf, hz, ez⟩ | ⟨_, hno⟩
  · rw [hf, unlike_one h hz hX ez]
  · exact absurd (node_inL hX) hno
theorem find_no {T : List It} {n : Nat} (h : n ∉ nodesL T) : findI T (n : Int) = none := by
  rw [find_cast]
  rcases find_item (T := T) (n := n) with ⟨z, _, hz, ez⟩ | ⟨hf, _⟩
  · exact absurd (ez ▸ node_inL hz) h
  · exact hf

set_option maxHeartbeats 3200000 in
set_option maxRecDepth 100000 in
theorem hmove_any {w : World} {x : Ax} {T : List It} (h : StAt w x) (hT : Rp x.ar x.nm T) (hz : (nodesL T).length ≤ 500000) (n : Nat) (hn : n < 9223372036854775808) (t : Int) (ht : t < 9223372036854775808) (a : Int) (it : It) :
    Calls Try.prog 26 #[.pointer (some ⟨x.S, 0, none⟩), .int .i64 (n : Int), .int .i64 t, .int .i64 a] w fun e w' => ∃ x', StAt w' x' ∧ Fw x x' w w' ∧ x'.ar.length = x.ar.length ∧ Took (applyM T ⟨3, n, t, a, it⟩) e x x' := by
  have s0 := h.s0
  have s1 := h.s1
  have hl := h.map.look n hn
  have hcap := h.cap.1
  have hcap2 := h.cap.2
  have HX : Hid (StAt w x) := h
  have PL := hplace_any h t ht
  rw [hT.has t] at PL
  by_cases hin : n ∈ nodesL T
  · obtain ⟨X, hX, eX⟩ := in_node hin
    subst eX
    have hfd : findI T (X.node : Int) = some X := find_of hT.un hX
    have e1 : (x.nm X.node).isSome = true := by rw [(hT.inn _ hin).1]; rfl
    rw [e1] at hl
    by_cases hpl : 0 ≤ t ∧ hasI T t = false
    · -- it is to go nowhere
      have hno : ¬ (0 ≤ t ∧ (nodes1 X).contains t.toNat = true) := fun hh => by
        have h1 : t.toNat ∈ nodes1 X := by simpa using hh.2
        have h2 : t.toNat ∈ nodesL T := by
          rw [nodes1_items] at h1
          obtain ⟨z, hz1, ez⟩ := List.mem_map.mp h1
          rw [← ez]
          rcases mem_item1.mp hz1 with rfl | hz1
          · exact hin
          · exact node_inL (item_kids.2 T X hX z hz1)
        have h3 := hpl.2
        unfold hasI at h3
        simp [h2, hpl.1] at h3
      have HR : Hid (applyM T ⟨3, X.node, t, a, it⟩ = .error 6) := by
        show _ = _
        rw [app3, hfd]
        simp only
        rw [if_neg hno, if_pos hpl]
      have e2 : (!(decide (0 ≤ t) && !hasI T t)) = false := by simp [hpl.1, hpl.2]
      rw [e2] at PL
      clear hpl hno e2 hfd e1 hT h
      generalize ixOf x.nm X.node = kx at *
      generalize ixP x.nm t = pt at *
      generalize hS : x.S = S at *
      go_enter Try.func26, Try.ntmps26
      go_wp2_with (go_at_call 41; refine PL.mono ?_; clear PL; rintro e w' ⟨rfl, hww⟩; subst hww)
      go_ret
      exact ⟨x, HX.out, Fw.refl _ _, rfl, Took.bad HR.out x⟩
    · have hp : Place T (toP t) := place_toP hpl
      have WI := hwithin_any h hT hp hX
      rw [ixP_toP] at WI
      have e2 : (!(decide (0 ≤ t) && !hasI T t)) = true := by
        cases hh : hasI T t with
        | true => simp
        | false =>
          have : ¬ 0 ≤ t := fun h0 => hpl ⟨h0, hh⟩
          simp [this]
      rw [e2] at PL
      by_cases hlo : 0 ≤ t ∧ (nodes1 X).contains t.toNat = true
      · -- it is to go into itself
        have HR : Hid (applyM T ⟨3, X.node, t, a, it⟩ = .error 9) := by
          show _ = _
          rw [app3, hfd]
          simp only
          rw [if_pos hlo]
        have e3 : (decide (0 ≤ toP t) && (nodes1 X).contains (toP t).toNat) = true := by
          rcases toP_place' t with e | ⟨h0, e⟩
          · unfold toP at e; rw [if_neg (by omega)] at e; omega
          · rw [e, hlo.2]; simp [hlo.1]
        rw [e3] at WI
        clear hpl hlo e2 e3 hfd e1 hT h hp
        generalize ixOf x.nm X.node = kx at *
        generalize ixP x.nm t = pt at *
        generalize hS : x.S = S at *
        go_enter Try.func26, Try.ntmps26
        go_wp2_with (first
          | (go_at_call 41; refine PL.mono ?_; clear PL; rintro e w' ⟨rfl, hww⟩; subst hww)
          | (go_at_call 42; refine WI.mono ?_; clear WI; rintro e w' ⟨rfl, hww⟩; subst hww))
        go_ret
        exact ⟨x, HX.out, Fw.refl _ _, rfl, Took.bad HR.out x⟩
      · have e3 : (decide (0 ≤ toP t) && (nodes1 X).contains (toP t).toNat) = false := by
          rcases toP_place' t with e | ⟨h0, e⟩
          · rw [e]; rfl
          · rw [e]
            cases hc : (nodes1 X).contains t.toNat with
            | true => exact absurd ⟨h0, hc⟩ hlo
            | false => simp
        rw [e3] at WI
        obtain ⟨p0, hp0, hk0⟩ := in_place hT.un hin
        have hsp := hT.spot X hX p0 hp0 hk0
        obtain ⟨su, hsu, hsuk, _⟩ := hT.place hp
        rw [ixP_toP] at hsu
        obtain ⟨pu, cu, LU⟩ := h.spot hsu
        obtain ⟨pk, ck, LK⟩ := h.spot hsp
        have c9 := LU.at_.c9
        have c8 := LK.at_.c8
        simp only at c8
        have hul := LU.lt
        have hkl := LK.lt
        have hle := LU.le
        have hmx := LU.max
        rw [hsuk, List.length_map] at c9 hle
        -- how many there are, without it
        have hq : toP t = -1 ∨ ∃ q : Nat, toP t = (q : Int) ∧ q ∈ nodesL T ∧ q ∉ nodes1 X := by
          rcases hp with e | ⟨y, hy, e⟩
          · exact Or.inl e
          · refine Or.inr ⟨y.node, e, node_inL hy, fun hm => ?_⟩
            have h0 : 0 ≤ t ∧ toP t = t := by
              rcases toP_place' t with e4 | e4
              · omega
              · exact e4
            exact hlo ⟨h0.1, by rw [← h0.2, e]; simpa using hm⟩
        have hrm : kidsAt (rmL X.node T) (toP t) = (kidsAt T (toP t)).filter (fun k => decide (k ≠ X.node)) := rm_kids_at hT.un (by
          rcases hq with e | ⟨q, e, _, h2⟩
          · exact Or.inl e
          · exact Or.inr ⟨q, e, fun hm => h2 ((und_item hT.un hX q).mp hm)⟩)
        have hlast : (((kidsAt T (toP t)).filter (fun k => decide (k ≠ X.node))).length : Int) = if p0 = toP t then ((kidsAt T (toP t)).length : Int) - 1 else ((kidsAt T (toP t)).length : Int) := by
          by_cases e : p0 = toP t
          · rw [if_pos e]
            have := filt_len (kidsAt_nodup hT.un (toP t)) (e ▸ hk0)
            omega
          · rw [if_neg e, filter_not (fun hm => e (kids_one hT.un hp0 hp hk0 hm))]
        have hsame : ((ixP x.nm p0 : Int) == (ixP x.nm t : Int)) = decide (p0 = toP t) := by
          rw [← ixP_toP x.nm t]
          by_cases e : p0 = toP t
          · rw [e]; simp
          · have : ixP x.nm p0 ≠ ixP x.nm (toP t) := fun e2 => e (hT.pinj hp0 hp e2)
            simp only [e, decide_false]
            simp
            omega
        have hkl1 : p0 = toP t → 1 ≤ (kidsAt T (toP t)).length := fun e => by
          have := filt_len (kidsAt_nodup hT.un (toP t)) (e ▸ hk0)
          omega
        have hfew := kids_few hT.un hp
        have hap : applyM T ⟨3, X.node, t, a, it⟩ = if a < 0 ∨ (((kidsAt T (toP t)).filter (fun k => decide (k ≠ X.node))).length : Int) < a then .error 3 else .ok (movP X (toP t) a.toNat T) := by
          rw [app3, hfd]
          simp only
          rw [if_neg hlo, if_neg hpl, hrm]
        -- what goes on behind the looks
        have hp0l := hT.lt hp0
        have hup : x.ar[ixOf x.nm X.node].up = (ixP x.nm p0 : Int) := by
          obtain ⟨q1, q2⟩ := List.getElem?_eq_some_iff.mp hsp
          rw [q2]
        have hfew0 : x.ar[ixP x.nm p0].kids.length ≤ 500000 := by
          obtain ⟨s, q1, q2, _⟩ := hT.place hp0
          rw [List.getElem?_eq_getElem hp0l] at q1
          rw [Option.some.inj q1, q2, List.length_map]
          exact Nat.le_trans (kids_few hT.un hp0) hz
        have LV := hleave_any h hkl hp0l hup hfew0
        have EN : Hid (∀ i : Nat, i ≤ ((kidsAt T (toP t)).filter (fun k => decide (k ≠ X.node))).length → ∀ (w5 : World) (x5 : Ax), StAt w5 x5 → x5.ar = leaveA x.ar (ixOf x.nm X.node) (ixP x.nm p0) → x5.nm = x.nm → Fw x x5 w w5 →
            Calls Try.prog 44 #[.pointer (some ⟨x.S, 0, none⟩), .int .i64 (ixOf x.nm X.node : Nat), .int .i64 (ixP x.nm t : Nat), .int .i64 (i : Int)] w5 fun e w' => e = .returned (.tuple #[]) ∧ ∃ x', StAt w' x' ∧ Fw x x' w w' ∧ x'.ar.length = x.ar.length ∧ Rp x'.ar x'.nm (movP X (toP t) i T)) := by
          intro i hi w5 x5 g1 g2 g3 g4
          have hS5 : x5.S = x.S := g4.S
          have hl5 : x5.ar.length = x.ar.length := by rw [g2, leave_len]
          have hu5 := leave_at (k := ixOf x.nm X.node) (u := ixP x.nm p0) hsu
          rw [← g2] at hu5
          obtain ⟨q1, q2⟩ := List.getElem?_eq_some_iff.mp hu5
          have hk5 : x5.ar[ixP x.nm t].kids = ((kidsAt T (toP t)).filter (fun k => decide (k ≠ X.node))).map (ixOf x.nm) := by
            rw [q2]
            simp only [hsuk]
            by_cases e : p0 = toP t
            · have e4 : ixP x.nm p0 = ixP x.nm t := by rw [e, ixP_toP]
              rw [if_pos e4, hT.filt hin _ (fun k hk => kids_in hk)]
            · have e4 : ixP x.nm p0 ≠ ixP x.nm t := fun e2 => e (hT.pinj hp0 hp (by rw [e2, ixP_toP]))
              rw [if_neg e4, filter_not (fun hm => e (kids_one hT.un hp0 hp hk0 hm))]
          have hlf := List.length_filter_le (fun k => decide (k ≠ X.node)) (kidsAt T (toP t))
          have C := henter_any g1 (k := ixOf x.nm X.node) (u := ixP x.nm t) (i := i) (by rw [hl5]; exact hkl) q1 (by rw [hk5, List.length_map]; omega) (by rw [hk5, List.length_map]; exact hi)
          rw [hS5] at C
          refine C.mono ?_
          rintro e w6 ⟨r1, x6, r2, r3, r4, r5⟩
          refine ⟨r1, x6, r2, g4.trans r5, by rw [r3, enter_len, hl5], ?_⟩
          have hM : Moves T X (toP t) i := ⟨hT.un, hX, hq, hi⟩
          have := hT.move hM hp0 hk0
          rw [r3, r4, g2, g3, ← ixP_toP x.nm t]
          exact this
        have HAP : Hid (applyM T ⟨3, X.node, t, a, it⟩ = if a < 0 ∨ (((kidsAt T (toP t)).filter (fun k => decide (k ≠ X.node))).length : Int) < a then .error 3 else .ok (movP X (toP t) a.toNat T)) := hap
        clear hap hpl hlo e2 e3 hfd e1 hT h hp hp0 hk0 hsp hsu hsuk LU LK hq hrm hup hfew0 hp0l
        generalize ixOf x.nm X.node = kx at *
        generalize ixP x.nm t = pt at *
        generalize ixP x.nm p0 = pz at *
        generalize hS : x.S = S at *
        generalize (kidsAt T (toP t)).length = kn at *
        generalize ((kidsAt T (toP t)).filter (fun k => decide (k ≠ X.node))).length = fn at *
        by_cases ea : a < 0
        · have HR : Hid (applyM T ⟨3, X.node, t, a, it⟩ = .error 3) := by show _ = _; rw [HAP.out, if_pos (Or.inl ea)]
          clear HAP EN LV
          by_cases es : p0 = toP t
          · have hs2 : ((pz : Int) == (pt : Int)) = true := by rw [hsame]; simp [es]
            clear hsame hlast hkl1 es
            go_enter Try.func26, Try.ntmps26
            go_wp2_with (first
              | (go_at_call 41; refine PL.mono ?_; clear PL; rintro e w' ⟨rfl, hww⟩; subst hww)
              | (go_at_call 42; refine WI.mono ?_; clear WI; rintro e w' ⟨rfl, hww⟩; subst hww))
            go_ret
            exact ⟨x, HX.out, Fw.refl _ _, rfl, Took.bad HR.out x⟩
          · have hs2 : ((pz : Int) == (pt : Int)) = false := by rw [hsame]; simp [es]
            clear hsame hlast hkl1 es
            go_enter Try.func26, Try.ntmps26
            go_wp2_with (first
              | (go_at_call 41; refine PL.mono ?_; clear PL; rintro e w' ⟨rfl, hww⟩; subst hww)
              | (go_at_call 42; refine WI.mono ?_; clear WI; rintro e w' ⟨rfl, hww⟩; subst hww))
            go_ret
            exact ⟨x, HX.out, Fw.refl _ _, rfl, Took.bad HR.out x⟩
        · obtain ⟨i, rfl⟩ : ∃ i : Nat, a = (i : Int) := ⟨a.toNat, by omega⟩
          by_cases eb : (fn : Int) < (i : Int)
          · have HR : Hid (applyM T ⟨3, X.node, t, i, it⟩ = .error 3) := by show _ = _; rw [HAP.out, if_pos (Or.inr eb)]
            clear HAP EN LV
            by_cases es : p0 = toP t
            · have hs2 : ((pz : Int) == (pt : Int)) = true := by rw [hsame]; simp [es]
              have hk1 := hkl1 es
              rw [if_pos es] at hlast
              have eb2 : (kn : Int) - 1 < (i : Int) := by omega
              clear hsame hlast hkl1 es eb
              go_enter Try.func26, Try.ntmps26
              go_wp2_with (first
                | (go_at_call 41; refine PL.mono ?_; clear PL; rintro e w' ⟨rfl, hww⟩; subst hww)
                | (go_at_call 42; refine WI.mono ?_; clear WI; rintro e w' ⟨rfl, hww⟩; subst hww))
              go_ret
              exact ⟨x, HX.out, Fw.refl _ _, rfl, Took.bad HR.out x⟩
            · have hs2 : ((pz : Int) == (pt : Int)) = false := by rw [hsame]; simp [es]
              rw [if_neg es] at hlast
              have eb2 : (kn : Int) < (i : Int) := by omega
              clear hsame hlast hkl1 es eb
              go_enter Try.func26, Try.ntmps26
              go_wp2_with (first
                | (go_at_call 41; refine PL.mono ?_; clear PL; rintro e w' ⟨rfl, hww⟩; subst hww)
                | (go_at_call 42; refine WI.mono ?_; clear WI; rintro e w' ⟨rfl, hww⟩; subst hww))
              go_ret
              exact ⟨x, HX.out, Fw.refl _ _, rfl, Took.bad HR.out x⟩
          · have HR : Hid (applyM T ⟨3, X.node, t, i, it⟩ = .ok (movP X (toP t) i T)) := by
              show _ = _
              rw [HAP.out, if_neg (by omega)]
              simp
            have ENi : Hid _ := EN.out i (by omega)
            clear HAP EN
            by_cases es : p0 = toP t
            · have hs2 : ((pz : Int) == (pt : Int)) = true := by rw [hsame]; simp [es]
              have hk1 := hkl1 es
              rw [if_pos es] at hlast
              have eb2 : ¬ (kn : Int) - 1 < (i : Int) := by omega
              clear hsame hlast hkl1 es eb ea
              go_enter Try.func26, Try.ntmps26
              go_wp2_with (first
                | (go_at_call 41; refine PL.mono ?_; clear PL; rintro e w' ⟨rfl, hww⟩; subst hww)
                | (go_at_call 42; refine WI.mono ?_; clear WI; rintro e w' ⟨rfl, hww⟩; subst hww)
                | (go_at_call 43; refine LV.mono ?_; clear LV; rintro e w5 ⟨rfl, x5, g1, g2, g3, g4⟩; have C6 := ENi.out w5 x5 g1 g2 g3 g4; clear g1 g2 g3 g4)
                | (go_at_call 44; refine C6.mono ?_; clear C6; rintro e w6 ⟨rfl, R6⟩))
              go_ret
              obtain ⟨x', r1, r2, r3, r4⟩ := R6
              exact ⟨x', r1, r2, r3, Took.good HR.out r4⟩
            · have hs2 : ((pz : Int) == (pt : Int)) = false := by rw [hsame]; simp [es]
              rw [if_neg es] at hlast
              have eb2 : ¬ (kn : Int) < (i : Int) := by omega
              clear hsame hlast hkl1 es eb ea
              go_enter Try.func26, Try.ntmps26
              go_wp2_with (first
                | (go_at_call 41; refine PL.mono ?_; clear PL; rintro e w' ⟨rfl, hww⟩; subst hww)
                | (go_at_call 42; refine WI.mono ?_; clear WI; rintro e w' ⟨rfl, hww⟩; subst hww)
                | (go_at_call 43; refine LV.mono ?_; clear LV; rintro e w5 ⟨rfl, x5, g1, g2, g3, g4⟩; have C6 := ENi.out w5 x5 g1 g2 g3 g4; clear g1 g2 g3 g4)
                | (go_at_call 44; refine C6.mono ?_; clear C6; rintro e w6 ⟨rfl, R6⟩))
              go_ret
              obtain ⟨x', r1, r2, r3, r4⟩ := R6
              exact ⟨x', r1, r2, r3, Took.good HR.out r4⟩
  · have hfd : findI T (n : Int) = none := find_no hin
    have e1 : (x.nm n).isSome = false := by rw [hT.out n hin]; rfl
    rw [e1] at hl
    have HR : Hid (applyM T ⟨3, n, t, a, it⟩ = .error 6) := by show _ = _; rw [app3, hfd]
    clear hfd e1 hT h PL hin
    generalize ixOf x.nm n = kx at *
    generalize hS : x.S = S at *
    go_enter Try.func26, Try.ntmps26
    go_wp2_with fail
    go_ret
    exact ⟨x, HX.out, Fw.refl _ _, rfl, Took.bad HR.out x⟩
end Go.Proofs.Ytgpckmolcdafcae

/-
  THE WALK of tree.Nodes, and of the function in it that calls itself.
-/
namespace Go.Proofs.Ytgpckmolcdafcae
open Go.RowKit

theorem nodesL_lt : ∀ (l : List It) (j : Nat) (h : j < l.length), (nodesL l[j].kids).length < (nodesL l).length
  | [], _, h => by simp at h
  | x :: l, 0, _ => by
    rw [nodesL, List.length_append, List.getElem_cons_zero, nodes1_eq, List.length_cons]
    omega
  | x :: l, j + 1, h => by
    have := nodesL_lt l j (by simpa using h)
    rw [nodesL, List.length_append, List.getElem_cons_succ]
    omega
theorem nodesL_take : ∀ (l : List It) (j : Nat) (h : j < l.length), nodesL (l.take (j + 1)) = nodesL (l.take j) ++ (l[j].node :: nodesL l[j].kids)
  | [], _, h => by simp at h
  | x :: l, 0, _ => by simp [nodesL, nodes1_eq]
  | x :: l, j + 1, h => by
    rw [List.take_succ_cons, List.take_succ_cons, nodesL, nodesL, nodesL_take l j (by simpa using h), List.getElem_cons_succ, List.append_assoc]
theorem nodesL_take_le (l : List It) (j : Nat) : (nodesL (l.take j)).length ≤ (nodesL l).length := by
  have e : l = l.take j ++ l.drop j := (List.take_append_drop j l).symm
  have h : (nodesL l).length = (nodesL (l.take j)).length + (nodesL (l.drop j)).length := by
    conv => lhs; rw [e, nodesL_app, List.length_append]
  omega

/-- the two variables of the function in Nodes: what there is so far, itself -/
structure Vars2 (w : World) (A K B : Nat) (acc : List Nat) (va : Value) : Prop where
  k : w.cell? ⟨K, 0, none⟩ = some (.func (.func 55) #[] #[.pointer (some ⟨A, 0, none⟩), .pointer (some ⟨K, 0, none⟩)])
  a : w.cell? ⟨A, 0, none⟩ = some va
  f : w.frozen? ⟨A, 0, none⟩ = false
  own : OwnI w B va acc

theorem But.row {B A : Nat} {w w' : World} (h : But B A w w') (hB : w.heap.size ≤ B) {v : Value} {l : List It} (hr : ItsAt w (fun g => g ≠ A) v l) : ItsAt w' (fun g => g ≠ A) v l :=
  hr.frame (fun g hg hlt => ⟨h.block g (by omega) hg, hg⟩)

end Go.Proofs.Ytgpckmolcdafcae

/-
  THE WALK of diff's stand: items.
-/
namespace Go.Proofs.Ytgpckmolcdafcae
open Go.RowKit Go.Maps

theorem append_it {wr : World} {ops : Array Oper} {rest : List Oper} {o : Oper} {a : Act} {Q : Exit → Act → World → Prop} (hgd : o.guard = none)
    (s x : Operand) (ho : o.op = Op.call { callee := Callee.builtin Builtin.append, args := #[s, x], argTypes := #[22, 22] }) {B C : Nat} {v u : Value} {l m : List It}
    (hs : a.eval s = v) (hx : a.eval x = u) (hown : OwnT wr B v l) (hm : OwnT wr C u m) (hBC : B ≤ C) (hvC : ∀ g, v.ownBlock = some g → g < C) (hB : B ≤ wr.heap.size) (hsz : l.length + m.length ≤ 1000000)
    (h : ∀ v' w1, OwnT w1 B v' (l ++ m) → Below B wr w1 → wpList Try.prog ops Q rest (a.put o.dst v') w1) :
    wpList Try.prog ops Q (o :: rest) a wr :=
  wpList_plain hgd fun _ hK => wp_append_items s x ho hs hx hown hm hBC hvC hB hsz fun v' w1 h2 h3 _ => hK _ _ (h v' w1 h2 h3)
theorem with_role (x : It) (ks : List It) : (x.with ks).role = x.role := by cases x; rfl
theorem with_name (x : It) (ks : List It) : (x.with ks).name = x.name := by cases x; rfl
theorem with_about (x : It) (ks : List It) : (x.with ks).about = x.about := by cases x; rfl
theorem with_level (x : It) (ks : List It) : (x.with ks).level = x.level := by cases x; rfl
theorem with_checked (x : It) (ks : List It) : (x.with ks).checked = x.checked := by cases x; rfl
theorem with_off (x : It) (ks : List It) : (x.with ks).off = x.off := by cases x; rfl

set_option maxHeartbeats 3200000 in
set_option maxRecDepth 100000 in
theorem hitems_any {x : Ax} (ix : Nat → Nat) (m : Nat) : ∀ (ys : List It) (k : Nat) (sp : Sp) (w : World), StAt w x → x.ar[k]? = some sp → sp.kids = (topN ys).map ix → (∀ y ∈ ys, Subs x.ar ix y) → (nodesL ys).length ≤ m → (nodesL ys).length ≤ 500000 →
    Calls Try.prog 14 #[.pointer (some ⟨x.S, 0, none⟩), .int .i64 (k : Int)] w fun e w' => ∃ v, e = .returned v ∧ OwnT w' w.heap.size v ys ∧ Below w.heap.size w w' := by
  induction m with
  | zero =>
    intro ys k sp w h hsp hk hs hm hz
    have hl : ys = [] := by
      have := top_few ys
      exact List.length_eq_zero_iff.mp (by omega)
    subst hl
    obtain ⟨p, c, L⟩ := h.spot hsp
    have s0 := h.s0
    have hcap := h.cap.1
    have hcap2 := h.cap.2
    have c9 := L.at_.c9
    have hkl := L.lt
    have hle := L.le
    have hmx := L.max
    rw [hk] at c9
    simp only [topN, List.map_nil, List.length_nil] at c9
    clear L h hs hk hle
    go_enter Try.func14, Try.ntmps14
    go_wp2_with fail
    refine wp_loop_rounds 1 ?_
    rw [rounds_succ]
    go_wp2_with fail
    go_ret
    exact ⟨_, rfl, OwnT.nil _ _, Below.refl _ _⟩
  | succ m ih =>
    intro ys k sp w h hsp hk hs hm hz
    obtain ⟨p, c, L⟩ := h.spot hsp
    have s0 := h.s0
    have hcap := h.cap.1
    have hcap2 := h.cap.2
    have c9 := L.at_.c9
    have hkl := L.lt
    have hle := L.le
    have hmx := L.max
    have hlen : sp.kids.length = ys.length := by rw [hk]; simp [topN]
    rw [hlen] at c9 hle
    have HX : Hid (StAt w x) := h
    have T : Hid (∀ j (hj : j < ys.length), ∃ b o, p = some ⟨b, o, none⟩ ∧ w.cell? ⟨b, o + j, none⟩ = some (.int .i64 (ix (ys[j]).node : Nat))) := by
      intro j hj
      obtain ⟨b, o, e1, e2⟩ := L.ints j (by rw [hlen]; exact hj)
      refine ⟨b, o, e1, ?_⟩
      rw [e2]
      simp [hk, topN]
    have HS : Hid (∀ y ∈ ys, Subs x.ar ix y) := hs
    have HM : Hid ((nodesL ys).length ≤ m + 1) := hm
    have HZ : Hid ((nodesL ys).length ≤ 500000) := hz
    clear L h hsp hk hs hm hz hlen
    generalize hB0 : w.heap.size = B
    have HB : Hid (w.heap.size = B) := hB0
    clear hB0
    go_enter Try.func14, Try.ntmps14
    go_wp2_with fail
    go_loopw [5, 18] (fun vo iv wr => ∃ j : Nat, j ≤ ys.length ∧ iv = .int .i64 j ∧ OwnT wr B vo (ys.take j) ∧ Below B w wr) (fun _ iv _ => ys.length - (intOf iv).toNat)
    case atStart => exact ⟨0, Nat.zero_le _, rfl, by simpa using OwnT.nil w B, Below.refl _ _⟩
    case round =>
      obtain ⟨j, hj, rfl, hown, hbr⟩ := hrel
      by_cases hlt : j < ys.length
      · obtain ⟨b, o, rfl, cj0⟩ := T.out j hlt
        have HXr : StAt wr x := HX.out.below (by rw [HB.out]; exact hbr)
        have KB : Keeps w wr := keeps_below hbr (by rw [HB.out]; exact Nat.le_refl _)
        have cj := KB _ _ cj0
        have sr := HXr.s0
        have hyl : ys[j] ∈ ys := List.getElem_mem hlt
        have hSub := HS.out _ hyl
        obtain ⟨up, hsp⟩ := hSub.head
        obtain ⟨pj, cjj, L⟩ := HXr.spot hsp
        have hkj := L.lt
        have a0 := L.at_.c0
        have a1 := L.at_.c1
        have a2 := L.at_.c2
        have a3 := L.at_.c3
        have a4 := L.at_.c4
        have a5 := L.at_.c5
        have a6 := L.at_.c6
        have a7 := L.at_.c7
        simp only [with_node, with_role, with_name, with_about, with_level, with_checked, with_off] at a0 a1 a2 a3 a4 a5 a6
        have hn1 : (nodesL ys[j].kids).length < (nodesL ys).length := nodesL_lt ys j hlt
        have hM := HM.out
        have hZ := HZ.out
        have HIH : Hid (∀ W, StAt W x → Calls Try.prog 14 #[.pointer (some ⟨x.S, 0, none⟩), .int .i64 (ix (ys[j]).node : Nat)] W fun e w' => ∃ v, e = .returned v ∧ OwnT w' W.heap.size v ys[j].kids ∧ Below W.heap.size W w') :=
          fun W hW => ih ys[j].kids (ix (ys[j]).node) _ W hW hsp rfl (fun y hy => hSub.kid hy) (by omega) (by omega)
        have HTK : Hid (ys.take (j + 1) = ys.take j ++ [ys[j]]) := by show _ = _; rw [List.take_succ_eq_append_getElem hlt]
        have hown2 : Hid (OwnT wr B u5 (ys.take j)) := hown
        have hsf : (ys.take j).length ≤ 500000 := by
          have := top_few ys
          rw [List.length_take]
          omega
        have hBw : B ≤ wr.heap.size := by have := hbr.size; rw [HB.out] at this; exact this
        have B1 : Below wr.heap.size wr (wr.alloc (.cells #[.int .i64 (ys[j].node : Int), .int .i64 ys[j].role, .string ys[j].name, .string ys[j].about, .int .i64 ys[j].level, .int .i64 ys[j].checked, .bool ys[j].off, .slice none 0 0] 26)) := (Below.refl _ _).alloc (Nat.le_refl _) _
        have BX := box8_new wr (.int .i64 (ys[j].node : Int)) (.int .i64 ys[j].role) (.string ys[j].name) (.string ys[j].about) (.int .i64 ys[j].level) (.int .i64 ys[j].checked) (.bool ys[j].off) (.slice none 0 0) 26
        have zB : (wr.alloc (.cells #[.int .i64 (ys[j].node : Int), .int .i64 ys[j].role, .string ys[j].name, .string ys[j].about, .int .i64 ys[j].level, .int .i64 ys[j].checked, .bool ys[j].off, .slice none 0 0] 26)).heap.size = wr.heap.size + 1 := by simp
        have bf : ∀ i, (wr.alloc (.cells #[.int .i64 (ys[j].node : Int), .int .i64 ys[j].role, .string ys[j].name, .string ys[j].about, .int .i64 ys[j].level, .int .i64 ys[j].checked, .bool ys[j].off, .slice none 0 0] 26)).frozen? ⟨wr.heap.size, i, none⟩ = false := fun i => World.frozen?_alloc_new _ _ _ _
        have CC := HIH.out _ (HXr.below B1)
        have HIC : Hid (∀ kv, itc (ys[j], kv) = [.int .i64 (ys[j].node : Int), .int .i64 ys[j].role, .string ys[j].name, .string ys[j].about, .int .i64 ys[j].level, .int .i64 ys[j].checked, .bool ys[j].off, kv]) := fun _ => rfl
        clear L cj0 hsp hSub hyl HXr KB hn1 HIH
        generalize hyy : ys[j] = y at *
        clear hyy
        have hol := hown.lt
        obtain ⟨po, co, hv⟩ := hown.shape
        rw [show (ys.take j).length = j by rw [List.length_take]; omega] at hv
        subst hv
        have hoL : Hid (∀ g, (Value.slice po j co).ownBlock = some g → g < wr.heap.size) := fun g hg => (hol g hg).2
        clear hown hol
        generalize y.role = y1 at *
        generalize y.name = y2 at *
        generalize y.about = y3 at *
        generalize y.level = y4 at *
        generalize y.checked = y5 at *
        generalize y.off = y6 at *
        go_upto_region 6 with fail
        generalize wr.alloc (.cells #[.int .i64 (y.node : Int), .int .i64 y1, .string y2, .string y3, .int .i64 y4, .int .i64 y5, .bool y6, .slice none 0 0] 26) = W at *
        have HB1 : Hid (Below wr.heap.size wr W) := B1
        have ZB : Hid (W.heap.size = wr.heap.size + 1) := zB
        have ZL : Hid (wr.heap.size < W.heap.size) := by show _ < _; omega
        obtain ⟨x0, x1, x2, x3, x4, x5, x6, x7⟩ := BX
        have bf7 := bf 7
        clear a0 a1 a2 a3 a4 a5 a6 a7 B1 zB sr cj hkj bf
        go_upto_region 7 with (go_at_call 14; refine CC.mono ?_; clear CC; rintro e w5 ⟨v5, rfl, ho5, hb5⟩; have K5 : Keeps W w5 := keeps_below hb5 (Nat.le_refl _); have d7 := K5 _ _ x7; have f7 : w5.frozen? ⟨wr.heap.size, 7, none⟩ = false := (hb5.frozen (p := ⟨wr.heap.size, 7, none⟩) ZL.out).trans bf7; obtain ⟨p5, c5, rfl⟩ := ho5.shape)
        have d0 : (w5.setCell ⟨wr.heap.size, 7, none⟩ (.slice p5 y.kids.length c5)).cell? ⟨wr.heap.size, 0, none⟩ = some (.int .i64 (y.node : Int)) := by rw [World.cell?_setCell_other _ _ _ _ (by intro e; cases e)]; exact K5 _ _ x0
        have d1 : (w5.setCell ⟨wr.heap.size, 7, none⟩ (.slice p5 y.kids.length c5)).cell? ⟨wr.heap.size, 1, none⟩ = some (.int .i64 y1) := by rw [World.cell?_setCell_other _ _ _ _ (by intro e; cases e)]; exact K5 _ _ x1
        have d2 : (w5.setCell ⟨wr.heap.size, 7, none⟩ (.slice p5 y.kids.length c5)).cell? ⟨wr.heap.size, 2, none⟩ = some (.string y2) := by rw [World.cell?_setCell_other _ _ _ _ (by intro e; cases e)]; exact K5 _ _ x2
        have d3 : (w5.setCell ⟨wr.heap.size, 7, none⟩ (.slice p5 y.kids.length c5)).cell? ⟨wr.heap.size, 3, none⟩ = some (.string y3) := by rw [World.cell?_setCell_other _ _ _ _ (by intro e; cases e)]; exact K5 _ _ x3
        have d4 : (w5.setCell ⟨wr.heap.size, 7, none⟩ (.slice p5 y.kids.length c5)).cell? ⟨wr.heap.size, 4, none⟩ = some (.int .i64 y4) := by rw [World.cell?_setCell_other _ _ _ _ (by intro e; cases e)]; exact K5 _ _ x4
        have d5 : (w5.setCell ⟨wr.heap.size, 7, none⟩ (.slice p5 y.kids.length c5)).cell? ⟨wr.heap.size, 5, none⟩ = some (.int .i64 y5) := by rw [World.cell?_setCell_other _ _ _ _ (by intro e; cases e)]; exact K5 _ _ x5
        have d6 : (w5.setCell ⟨wr.heap.size, 7, none⟩ (.slice p5 y.kids.length c5)).cell? ⟨wr.heap.size, 6, none⟩ = some (.bool y6) := by rw [World.cell?_setCell_other _ _ _ _ (by intro e; cases e)]; exact K5 _ _ x6
        have d7' : (w5.setCell ⟨wr.heap.size, 7, none⟩ (.slice p5 y.kids.length c5)).cell? ⟨wr.heap.size, 7, none⟩ = some (.slice p5 y.kids.length c5) := World.cell?_setCell_same _ _ _ d7
        have ho6 : OwnT (w5.setCell ⟨wr.heap.size, 7, none⟩ (.slice p5 y.kids.length c5)) W.heap.size (.slice p5 y.kids.length c5) y.kids := ho5.bt (S := [wr.heap.size]) (Bt.grow1 (grow_set (grown_refl w5 _) 7 (.slice p5 y.kids.length c5)) (by simp)) (fun z hz => by rw [List.mem_singleton] at hz; have := ZL.out; omega)
        have B6 : Below wr.heap.size wr (w5.setCell ⟨wr.heap.size, 7, none⟩ (.slice p5 y.kids.length c5)) := (HB1.out.trans (hb5.mono HB1.out.size)).setCell (p := ⟨wr.heap.size, 7, none⟩) (Nat.le_refl _) _
        have hz6 : W.heap.size ≤ (w5.setCell ⟨wr.heap.size, 7, none⟩ (.slice p5 y.kids.length c5)).heap.size := by have := hb5.size; simpa using this
        clear d7 f7 x0 x1 x2 x3 x4 x5 x6 x7 bf7 ho5 hb5 K5
        generalize w5.setCell ⟨wr.heap.size, 7, none⟩ (.slice p5 y.kids.length c5) = w6 at *
        have hown6 := hown2.out.below B6
        have hI := own_item (x := y) (kv := .slice p5 y.kids.length c5) (w := w6) (B := W.heap.size) hz6 ho6.row
        rw [HIC.out] at hI
        have hB7 : Below w6.heap.size w6 (w6.alloc (.cells #[.int .i64 (y.node : Int), .int .i64 y1, .string y2, .string y3, .int .i64 y4, .int .i64 y5, .bool y6, .slice p5 y.kids.length c5] 26)) := (Below.refl _ _).alloc (Nat.le_refl _) _
        have hown7 := hown6.below hB7
        have HZ7 : Hid (B ≤ w6.heap.size) := by show _ ≤ _; have := B6.size; omega
        have hz7 : B ≤ (w6.alloc (.cells #[.int .i64 (y.node : Int), .int .i64 y1, .string y2, .string y3, .int .i64 y4, .int .i64 y5, .bool y6, .slice p5 y.kids.length c5] 26)).heap.size := by have := HZ7.out; simp; omega
        have HBW : Hid (B ≤ W.heap.size) := by show _ ≤ _; have := ZL.out; omega
        have HBr : Hid (Below B w w6) := hbr.trans (B6.mono hBw)
        have HB8 : Hid (Below B w6 (w6.alloc (.cells #[.int .i64 (y.node : Int), .int .i64 y1, .string y2, .string y3, .int .i64 y4, .int .i64 y5, .bool y6, .slice p5 y.kids.length c5] 26))) := hB7.mono HZ7.out
        have hlv : ∀ g, (Value.slice po j co).ownBlock = some g → g < W.heap.size := fun g hg => by have h1 := hoL.out g hg; have h2 := ZL.out; omega
        have hszz : (ys.take j).length + [y].length ≤ 1000000 := by simp only [List.length_singleton]; omega
        clear ho6 hz6 hown6 hB7 B6
        go_wp2_with (at_builtin; refine append_it (C := W.heap.size) rfl _ _ rfl rfl rfl hown7 hI HBW.out hlv hz7 hszz ?_; intro v8 w8 ho8 hb8)
        go_roundw
        case rel => exact ⟨j + 1, by omega, by go_num, by rw [HTK.out]; exact ho8, (HBr.out.trans HB8.out).trans hb8⟩
        case measure => simp [intOf]; omega
      · obtain rfl : j = ys.length := by omega
        rw [List.take_length] at hown
        go_wp2_with fail
        go_ret
        exact ⟨_, rfl, hown, hbr⟩
end Go.Proofs.Ytgpckmolcdafcae

/-
  THE WALKS of diff's stand: add, retell.
-/
namespace Go.Proofs.Ytgpckmolcdafcae
open Go.RowKit Go.Maps

set_option maxHeartbeats 3200000 in
set_option maxRecDepth 100000 in
theorem hadd_any {w : World} {x : Ax} {T : List It} (h : StAt w x) (hT : Rp x.ar x.nm T) (hz : (nodesL T).length ≤ 500000) (har : x.ar.length ≤ 500000) (t : Int) (ht : t < 9223372036854775808) (a : Int) (y : It) (hyn : y.node < 9223372036854775808) (p : Option Addr) (c n0 : Nat) (hn0 : n0 = y.kids.length) (nn : Int) :
    Calls Try.prog 25 #[.pointer (some ⟨x.S, 0, none⟩), .agg #[.int .i64 (y.node : Int), .int .i64 y.role, .string y.name, .string y.about, .int .i64 y.level, .int .i64 y.checked, .bool y.off, .slice p n0 c], .int .i64 t, .int .i64 a] w fun e w' => ∃ x', StAt w' x' ∧ Fw x x' w w' ∧ x'.ar.length ≤ x.ar.length + 1 ∧ Took (applyM T ⟨2, nn, t, a, y⟩) e x x' := by
  have HN0 : Hid (n0 = y.kids.length) := hn0
  clear hn0
  have W1 : Below w.heap.size w (w.alloc (.cells #[.int .i64 (y.node : Int), .int .i64 y.role, .string y.name, .string y.about, .int .i64 y.level, .int .i64 y.checked, .bool y.off, .slice p n0 c] 26)) := (Below.refl _ _).alloc (Nat.le_refl _) _
  have h1 := h.below W1
  have PL := hplace_any h1 t ht
  rw [hT.has t] at PL
  have HX : Hid (StAt (w.alloc (.cells #[.int .i64 (y.node : Int), .int .i64 y.role, .string y.name, .string y.about, .int .i64 y.level, .int .i64 y.checked, .bool y.off, .slice p n0 c] 26)) x) := h1
  have FX : Hid (Fw x x w (w.alloc (.cells #[.int .i64 (y.node : Int), .int .i64 y.role, .string y.name, .string y.about, .int .i64 y.level, .int .i64 y.checked, .bool y.off, .slice p n0 c] 26))) := Fw.below W1
  have hap : applyM T ⟨2, nn, t, a, y⟩ = (if 0 ≤ t ∧ hasI T t = false then .error 6
    else if a < 0 ∨ ((kidsAt T (toP t)).length : Int) < a then .error 3
    else if y.kids.isEmpty = false then .error 8
    else if hasI T (y.node : Int) = true then .error 7
    else .ok (insP (toP t) a.toNat y T)) := app2 T nn t a y
  have BX := box8_new w (.int .i64 (y.node : Int)) (.int .i64 y.role) (.string y.name) (.string y.about) (.int .i64 y.level) (.int .i64 y.checked) (.bool y.off) (.slice p n0 c) 26
  have s0 := h1.s0
  have s1 := h1.s1
  have hcap := h1.cap.1
  have hcap2 := h1.cap.2
  by_cases hpl : 0 ≤ t ∧ hasI T t = false
  · have HR : Hid (applyM T ⟨2, nn, t, a, y⟩ = .error 6) := by show _ = _; rw [hap, if_pos hpl]
    have e2 : (!(decide (0 ≤ t) && !hasI T t)) = false := by simp [hpl.1, hpl.2]
    rw [e2] at PL
    clear hpl hap e2 hT h h1 BX W1
    generalize ixP x.nm t = pt at *
    generalize hS : x.S = S at *
    go_enter Try.func25, Try.ntmps25
    go_upto_region 1 with fail
    generalize w.alloc (.cells #[.int .i64 (y.node : Int), .int .i64 y.role, .string y.name, .string y.about, .int .i64 y.level, .int .i64 y.checked, .bool y.off, .slice p n0 c] 26) = W at *
    go_wp2_with (go_at_call 41; refine PL.mono ?_; clear PL; rintro e w' ⟨rfl, hww⟩; subst hww)
    go_ret
    exact ⟨x, HX.out, FX.out, by omega, Took.bad HR.out x⟩
  · have hp : Place T (toP t) := place_toP hpl
    have e2 : (!(decide (0 ≤ t) && !hasI T t)) = true := by
      cases hh : hasI T t with
      | true => simp
      | false =>
        have : ¬ 0 ≤ t := fun h0 => hpl ⟨h0, hh⟩
        simp [this]
    rw [e2] at PL
    obtain ⟨su, hsu, hsuk, hsu3⟩ := hT.place hp
    clear hsu3
    rw [ixP_toP] at hsu
    obtain ⟨pu, cu, LU⟩ := h1.spot hsu
    have c9 := LU.at_.c9
    have hul := LU.lt
    have hle := LU.le
    have hmx := LU.max
    rw [hsuk, List.length_map] at c9 hle
    have hfew := kids_few hT.un hp
    have hlk := h1.drew.map.look y.node hyn
    have hhas : (x.nm y.node).isSome = hasI T (y.node : Int) := by rw [hT.there, hasI_nat]
    rw [hhas] at hlk
    have PU : Hid (∀ i : Nat, i ≤ (kidsAt T (toP t)).length → y.kids = [] → y.node ∉ nodesL T → ∀ W, Fw x x w W → StAt W x → Calls Try.prog 40 #[.pointer (some ⟨x.S, 0, none⟩), .int .i64 (ixP x.nm t : Nat), .int .i64 (i : Int), .agg #[.int .i64 (y.node : Int), .int .i64 y.role, .string y.name, .string y.about, .int .i64 y.level, .int .i64 y.checked, .bool y.off, .slice p n0 c]] W fun e w' =>
        (∃ k : Int, e = .returned (.int .i64 k)) ∧ ∃ x', StAt w' x' ∧ Fw x x' w w' ∧ x'.ar.length ≤ x.ar.length + 1 ∧ Rp x'.ar x'.nm (insP (toP t) i y T)) := by
      intro i hi hk hyT W hF hW
      have C := hput_any hW hul har (i := i) (fun s hs => by
        rw [hsu] at hs
        cases hs
        rw [hsuk, List.length_map]
        omega) y hyn p n0 c
      refine C.mono ?_
      rintro e w6 ⟨r1, x6, r2, r3, r4, r5⟩
      have ey : y.with [] = y := by rw [← hk, with_self]
      have hF1 : Fits T (toP t) i (y.with []) := ⟨hT.un, hp, hi, by rw [nodes1_eq, with_kids]; simp [nodesL], fun k hk2 => by
        rw [nodes1_eq, with_kids, with_node] at hk2
        simp [nodesL] at hk2
        subst hk2
        exact hyT⟩
      refine ⟨⟨_, r1⟩, x6, r2, hF.trans r5, by rw [r3, enter_len, List.length_append]; exact Nat.le_refl _, ?_⟩
      have := hT.put hF1
      rw [ixP_toP, ey] at this
      rw [r3, r4, ey]
      exact this
    have HAP : Hid (applyM T ⟨2, nn, t, a, y⟩ = (if a < 0 ∨ ((kidsAt T (toP t)).length : Int) < a then .error 3 else if y.kids.isEmpty = false then .error 8 else if hasI T (y.node : Int) = true then .error 7 else .ok (insP (toP t) a.toNat y T))) := by show _ = _; rw [hap, if_neg hpl]
    have hKE : Hid (n0 = 0 ↔ y.kids = []) := by
      show _ ↔ _
      rw [HN0.out, List.length_eq_zero_iff]
    have hHI : Hid (hasI T (y.node : Int) = false ↔ y.node ∉ nodesL T) := by
      show _ ↔ _
      rw [hasI_nat]
      simp
    obtain ⟨b0, b1, b2, b3, b4, b5, b6, b7⟩ := BX
    clear hpl hap e2 hT h h1 W1 hsu hsuk LU hhas hp HN0
    generalize y.role = y1 at *
    generalize y.name = y2 at *
    generalize y.about = y3 at *
    generalize y.level = y4 at *
    generalize y.checked = y5 at *
    generalize y.off = y6 at *
    generalize hnd : (y.node : Int) = y0 at *
    generalize ixP x.nm t = pt at *
    generalize ixOf x.nm y.node = kx at *
    generalize hS : x.S = S at *
    generalize hI : hasI T y0 = hi at *
    generalize hKn : (kidsAt T (toP t)).length = kn at *
    have HKn : Hid ((kidsAt T (toP t)).length = kn) := hKn
    have Hnd : Hid ((y.node : Int) = y0) := hnd
    clear hKn hnd hI
    by_cases ea : a < 0
    · have HR : Hid (applyM T ⟨2, nn, t, a, y⟩ = .error 3) := by show _ = _; rw [HAP.out, if_pos (Or.inl ea)]
      clear HAP PU
      go_enter Try.func25, Try.ntmps25
      go_upto_region 1 with fail
      generalize w.alloc (.cells #[.int .i64 y0, .int .i64 y1, .string y2, .string y3, .int .i64 y4, .int .i64 y5, .bool y6, .slice p n0 c] 26) = W at *
      go_wp2_with (go_at_call 41; refine PL.mono ?_; clear PL; rintro e w' ⟨rfl, hww⟩; subst hww)
      go_ret
      exact ⟨x, HX.out, FX.out, by omega, Took.bad HR.out x⟩
    · obtain ⟨i, rfl⟩ : ∃ i : Nat, a = (i : Int) := ⟨a.toNat, by omega⟩
      by_cases eb : (kn : Int) < (i : Int)
      · have HR : Hid (applyM T ⟨2, nn, t, i, y⟩ = .error 3) := by show _ = _; rw [HAP.out, if_pos (Or.inr eb)]
        clear HAP PU
        go_enter Try.func25, Try.ntmps25
        go_upto_region 1 with fail
        generalize w.alloc (.cells #[.int .i64 y0, .int .i64 y1, .string y2, .string y3, .int .i64 y4, .int .i64 y5, .bool y6, .slice p n0 c] 26) = W at *
        go_wp2_with (go_at_call 41; refine PL.mono ?_; clear PL; rintro e w' ⟨rfl, hww⟩; subst hww)
        go_ret
        exact ⟨x, HX.out, FX.out, by omega, Took.bad HR.out x⟩
      · have hap2 : applyM T ⟨2, nn, t, i, y⟩ = (if y.kids.isEmpty = false then .error 8 else if hi = true then .error 7 else .ok (insP (toP t) i y T)) := by
          rw [HAP.out, if_neg (by omega)]
          simp
        clear HAP
        by_cases ec : n0 = 0
        · subst ec
          have hke := hKE.out.mp rfl
          cases hi with
          | true =>
            have HR : Hid (applyM T ⟨2, nn, t, i, y⟩ = .error 7) := by show _ = _; rw [hap2, hke]; rfl
            clear hap2 PU hke
            go_enter Try.func25, Try.ntmps25
            go_upto_region 1 with fail
            generalize w.alloc (.cells #[.int .i64 y0, .int .i64 y1, .string y2, .string y3, .int .i64 y4, .int .i64 y5, .bool y6, .slice p 0 c] 26) = W at *
            go_upto_region 8 with (go_at_call 41; refine PL.mono ?_; clear PL; rintro e w' ⟨rfl, hww⟩; subst hww)
            have SS : ∀ w'', Keeps w' w'' → (fun w'' : World => w''.cell? ⟨S, 1, none⟩ = some (.map (some x.M)) ∧ w''.cell? ⟨w.heap.size, 0, none⟩ = some (.int .i64 y0)) w'' := fun w'' hk => ⟨hk _ _ s1, hk _ _ b0⟩
            go_region_held3 (fun w'' : World => w''.cell? ⟨S, 1, none⟩ = some (.map (some x.M)) ∧ w''.cell? ⟨w.heap.size, 0, none⟩ = some (.int .i64 y0))
              ((first | assumption | (apply SS; repeat (first | exact Keeps.refl _ | apply keeps_drew | apply keeps_alloc'))))
              (fail)
            go_wp2_with fail
            go_ret
            exact ⟨x, HX.out.drew, FX.out.trans (Fw.below (bel_drewN _ _ 1)), by omega, Took.bad HR.out x⟩
          | false =>
            have HR : Hid (applyM T ⟨2, nn, t, i, y⟩ = .ok (insP (toP t) i y T)) := by show _ = _; rw [hap2, hke]; rfl
            have hXd : StAt (w.alloc (.cells #[.int .i64 y0, .int .i64 y1, .string y2, .string y3, .int .i64 y4, .int .i64 y5, .bool y6, .slice p 0 c] 26)).drew x := HX.out.drew
            have PUj := PU.out i (by omega) hke (hHI.out.mp rfl) _ (FX.out.trans (Fw.below (bel_drewN _ _ 1))) hXd
            clear hap2 PU hke hXd
            go_enter Try.func25, Try.ntmps25
            go_upto_region 1 with fail
            generalize w.alloc (.cells #[.int .i64 y0, .int .i64 y1, .string y2, .string y3, .int .i64 y4, .int .i64 y5, .bool y6, .slice p 0 c] 26) = W at *
            go_upto_region 8 with (go_at_call 41; refine PL.mono ?_; clear PL; rintro e w' ⟨rfl, hww⟩; subst hww)
            have SS : ∀ w'', Keeps w' w'' → (fun w'' : World => w''.cell? ⟨S, 1, none⟩ = some (.map (some x.M)) ∧ w''.cell? ⟨w.heap.size, 0, none⟩ = some (.int .i64 y0)) w'' := fun w'' hk => ⟨hk _ _ s1, hk _ _ b0⟩
            go_region_held3 (fun w'' : World => w''.cell? ⟨S, 1, none⟩ = some (.map (some x.M)) ∧ w''.cell? ⟨w.heap.size, 0, none⟩ = some (.int .i64 y0))
              ((first | assumption | (apply SS; repeat (first | exact Keeps.refl _ | apply keeps_drew | apply keeps_alloc'))))
              (fail)
            have d0 := b0
            go_wp2_with (go_at_call 40; refine PUj.mono ?_; clear PUj; rintro e w6 ⟨⟨kk, rfl⟩, R6⟩)
            go_ret
            obtain ⟨x', r1, r2, r3, r4⟩ := R6
            exact ⟨x', r1, r2, r3, Took.good HR.out r4⟩
        · have HR : Hid (applyM T ⟨2, nn, t, i, y⟩ = .error 8) := by
            show _ = _
            rw [hap2]
            have : y.kids ≠ [] := fun e => ec (hKE.out.mpr e)
            cases hk : y.kids with
            | nil => exact absurd hk this
            | cons z zs => rfl
          clear hap2 PU
          go_enter Try.func25, Try.ntmps25
          go_upto_region 1 with fail
          generalize w.alloc (.cells #[.int .i64 y0, .int .i64 y1, .string y2, .string y3, .int .i64 y4, .int .i64 y5, .bool y6, .slice p n0 c] 26) = W at *
          have ec2 : 0 < n0 := by omega
          go_wp2_with (go_at_call 41; refine PL.mono ?_; clear PL; rintro e w' ⟨rfl, hww⟩; subst hww)
          go_ret
          exact ⟨x, HX.out, FX.out, by omega, Took.bad HR.out x⟩

/-- the eight cells of an item -/
def itl (y : It) (kv : Value) : List Value := [.int .i64 (y.node : Int), .int .i64 y.role, .string y.name, .string y.about, .int .i64 y.level, .int .i64 y.checked, .bool y.off, kv]
theorem spc_item (s s' : Sp) (kv : Value) (h1 : s'.up = s.up) : spc (s', kv) = itl s'.it (.slice none 0 0) ++ (spc (s, kv)).drop 8 := by
  simp [spc, itl, iv, h1]
theorem setCells_owns {e k n g c : Nat} : ∀ (vs : List Value) (xs : List Value) (i : Nat) (w : World), w.ownsRow 0 e k (.slice (some ⟨g, 0, none⟩) n c) n xs → i + vs.length ≤ xs.length → (w.setCells g i vs).ownsRow 0 e k (.slice (some ⟨g, 0, none⟩) n c) n (xs.take i ++ vs ++ xs.drop (i + vs.length))
  | [], xs, i, w, h, hl => by simpa [World.setCells] using h
  | v :: vs, xs, i, w, h, hl => by
    have h1 := owns_set h i v
    have h2 := setCells_owns vs (xs.set i v) (i + 1) _ h1 (by simp at hl ⊢; omega)
    have hi : i < xs.length := by simp at hl; omega
    have e1 : xs.take i ++ v :: vs ++ xs.drop (i + (v :: vs).length) = (xs.set i v).take (i + 1) ++ vs ++ (xs.set i v).drop (i + 1 + vs.length) := by
      rw [show i + (v :: vs).length = i + 1 + vs.length by simp; omega, List.take_succ_eq_append_getElem (by simpa using hi), List.take_set_of_le (Nat.le_refl _), List.getElem_set_self, List.drop_set_of_lt (by omega)]
      simp
    rw [e1]
    exact h2

/-- a spot's item is another one -/
theorem StAt.setItem {w : World} {x : Ax} (h : StAt w x) {k : Nat} (hk : k < x.ar.length) (y : It) :
    StAt (w.setCells x.g (k * 10) (itl y (.slice none 0 0))) { x with ar := x.ar.modify k (fun s => { s with it := y }) } ∧ Fw x { x with ar := x.ar.modify k (fun s => { s with it := y }) } w (w.setCells x.g (k * 10) (itl y (.slice none 0 0))) := by
  have hk' : k < x.kvs.length := by rw [h.len]; exact hk
  rw [mod_eq (List.getElem?_eq_getElem hk)]
  refine h.inRow (by simp) (fun j hj hj' => ?_) ?_ (grown_setCells _ _ _ (grown_refl w _))
  · rw [List.getElem_set]
    by_cases e : k = j
    · subst e; simp
    · simp [e]
  · have hl := cellsP_len x.ar x.kvs h.len
    have r := setCells_owns (itl y (.slice none 0 0)) (cellsP x.ar x.kvs) (k * 10) w h.row (by show k * 10 + 8 ≤ _; omega)
    have e := cellsP_set x.ar x.kvs k ⟨y, x.ar[k].up, x.ar[k].kids⟩ (x.kvs[k]) h.len hk
    rw [show x.kvs.set k x.kvs[k] = x.kvs by simp, spc_item x.ar[k] ⟨y, x.ar[k].up, x.ar[k].kids⟩ _ rfl] at e
    rw [e]
    have e2 : (cellsP x.ar x.kvs).drop (k * 10 + 8) = (spc (x.ar[k], x.kvs[k])).drop 8 ++ (cellsP x.ar x.kvs).drop (k * 10 + 10) := by
      apply List.ext_getElem?
      intro q
      rw [List.getElem?_drop]
      have hs : ((spc (x.ar[k], x.kvs[k])).drop 8).length = 2 := rfl
      by_cases hq : q < 2
      · rw [List.getElem?_append_left (by omega), List.getElem?_drop, Nat.add_assoc, cellsP_at x.ar x.kvs h.len k (8 + q) hk (by omega)]
      · rw [List.getElem?_append_right (by omega), hs, List.getElem?_drop]
        congr 1
        omega
    show World.ownsRow _ _ _ _ _ _ _
    have r2 : (w.setCells x.g (k * 10) (itl y (.slice none 0 0))).ownsRow 0 59 10 (.slice (some ⟨x.g, 0, none⟩) x.ar.length x.cap) x.ar.length ((cellsP x.ar x.kvs).take (k * 10) ++ itl y (.slice none 0 0) ++ (cellsP x.ar x.kvs).drop (k * 10 + 8)) := r
    rw [e2] at r2
    simpa using r2

set_option maxHeartbeats 3200000 in
set_option maxRecDepth 100000 in
theorem hretell_any {w : World} {x : Ax} {T : List It} (h : StAt w x) (hT : Rp x.ar x.nm T) (n : Nat) (hn : n < 9223372036854775808) (z : Int) (y : It) (hy : z = (n : Int) → y.node = n) (p : Option Addr) (c n0 : Nat) (hn0 : n0 = y.kids.length) :
    Calls Try.prog 28 #[.pointer (some ⟨x.S, 0, none⟩), .int .i64 (n : Int), .agg #[.int .i64 z, .int .i64 y.role, .string y.name, .string y.about, .int .i64 y.level, .int .i64 y.checked, .bool y.off, .slice p n0 c]] w fun e w' => ∃ x', StAt w' x' ∧ Fw x x' w w' ∧ x'.ar.length = x.ar.length ∧
      Took (if hasI T (n : Int) = false then .error 6 else if z ≠ (n : Int) ∨ y.kids.isEmpty = false then .error 8 else .ok (telL n y T)) e x x' := by
  obtain ⟨RS, hRS⟩ : ∃ RS : Except Int (List It), RS = (if hasI T (n : Int) = false then .error 6 else if z ≠ (n : Int) ∨ y.kids.isEmpty = false then .error 8 else .ok (telL n y T)) := ⟨_, rfl⟩
  rw [← hRS]
  have HRS : Hid (RS = (if hasI T (n : Int) = false then .error 6 else if z ≠ (n : Int) ∨ y.kids.isEmpty = false then .error 8 else .ok (telL n y T))) := hRS
  clear hRS
  have HN0 : Hid (n0 = y.kids.length) := hn0
  clear hn0
  have W1 : Below w.heap.size w (w.alloc (.cells #[.int .i64 z, .int .i64 y.role, .string y.name, .string y.about, .int .i64 y.level, .int .i64 y.checked, .bool y.off, .slice p n0 c] 26)) := (Below.refl _ _).alloc (Nat.le_refl _) _
  have h1 := h.below W1
  have HX : Hid (StAt (w.alloc (.cells #[.int .i64 z, .int .i64 y.role, .string y.name, .string y.about, .int .i64 y.level, .int .i64 y.checked, .bool y.off, .slice p n0 c] 26)) x) := h1
  have FX : Hid (Fw x x w (w.alloc (.cells #[.int .i64 z, .int .i64 y.role, .string y.name, .string y.about, .int .i64 y.level, .int .i64 y.checked, .bool y.off, .slice p n0 c] 26))) := Fw.below W1
  have BX := box8_new w (.int .i64 z) (.int .i64 y.role) (.string y.name) (.string y.about) (.int .i64 y.level) (.int .i64 y.checked) (.bool y.off) (.slice p n0 c) 26
  have s0 := h1.s0
  have s1 := h1.s1
  have hcap := h1.cap.1
  have hcap2 := h1.cap.2
  have hlk := h1.map.look n hn
  have hhas : (x.nm n).isSome = hasI T (n : Int) := by rw [hT.there, hasI_nat]
  rw [hhas] at hlk
  have hNF : Hid (¬ x.foot w.heap.size) := fun hf => by have := h.lt _ hf; omega
  have hNL : Hid (w.heap.size < (w.alloc (.cells #[.int .i64 z, .int .i64 y.role, .string y.name, .string y.about, .int .i64 y.level, .int .i64 y.checked, .bool y.off, .slice p n0 c] 26)).heap.size) := by show _ < _; simp
  obtain ⟨b0, b1, b2, b3, b4, b5, b6, b7⟩ := BX
  have hIT : Hid (∀ kv, itl y kv = [.int .i64 (y.node : Int), .int .i64 y.role, .string y.name, .string y.about, .int .i64 y.level, .int .i64 y.checked, .bool y.off, kv]) := fun _ => rfl
  cases hh : hasI T (n : Int) with
  | false =>
    rw [hh] at hlk
    clear hT h h1 W1 hhas hy
    generalize ixOf x.nm n = kx at *
    generalize hS : x.S = S at *
    go_enter Try.func28, Try.ntmps28
    go_upto_region 1 with fail
    generalize w.alloc (.cells #[.int .i64 z, .int .i64 y.role, .string y.name, .string y.about, .int .i64 y.level, .int .i64 y.checked, .bool y.off, .slice p n0 c] 26) = W at *
    go_wp2_with fail
    go_ret
    exact ⟨x, HX.out, FX.out, rfl, Took.bad (by rw [HRS.out, hh]; rfl) x⟩
  | true =>
    rw [hh] at hlk
    have hin : n ∈ nodesL T := by rw [hasI_nat] at hh; simpa using hh
    by_cases ez : z = (n : Int)
    · by_cases ek : n0 = 0
      · have hk : y.kids = [] := by have := HN0.out; rw [ek] at this; exact List.length_eq_zero_iff.mp this.symm
        have hyn : y.node = n := hy ez
        obtain ⟨X, hX, eX⟩ := in_node hin
        obtain ⟨p0, hp0, hk0⟩ := in_place hT.un hin
        have hsp := hT.spot X hX p0 hp0 (by rw [eX]; exact hk0)
        rw [eX] at hsp
        obtain ⟨pk, ck, LK⟩ := h1.spot hsp
        have a0 := LK.at_.c0
        have a1 := LK.at_.c1
        have a2 := LK.at_.c2
        have a3 := LK.at_.c3
        have a4 := LK.at_.c4
        have a5 := LK.at_.c5
        have a6 := LK.at_.c6
        have a7 := LK.at_.c7
        have hkl := LK.lt
        have fz := h1.fz
        have ey : y.with [] = y := by rw [← hk, with_self]
        have hR := hT.tell (y := y) (by rw [hyn]; exact hin)
        rw [ey, hyn] at hR
        subst ek
        subst ez
        have ez2 : ((n : Int) != (n : Int)) = false := by simp
        have SGx : Hid (x.S ≠ x.g) := h1.sg
        have HNg : Hid (x.g ≠ w.heap.size) := fun e => hNF.out (Or.inr (Or.inl e.symm))
        have HTT : Hid (Took RS (.returned (.int .i64 0)) x { x with ar := x.ar.modify (ixOf x.nm n) (fun s => { s with it := y }) }) := Took.good (by rw [HRS.out, hh, hk]; simp) hR
        have FIN : Hid (∀ w5 : World, StAt w5 x → ∃ w7, w7 = w5.setCells x.g (ixOf x.nm n * 10) (itl y (.slice none 0 0)) ∧ StAt w7 { x with ar := x.ar.modify (ixOf x.nm n) (fun s => { s with it := y }) } ∧ Fw x { x with ar := x.ar.modify (ixOf x.nm n) (fun s => { s with it := y }) } w5 w7) := fun w5 h5 => ⟨_, rfl, h5.setItem hkl y⟩
        have hyn2 : (y.node : Int) = (n : Int) := by rw [hyn]
        have hIT2 : Hid (itl y (.slice none 0 0) = [.int .i64 (n : Int), .int .i64 y.role, .string y.name, .string y.about, .int .i64 y.level, .int .i64 y.checked, .bool y.off, .slice none 0 0]) := by show _ = _; rw [hIT.out]; rw [hyn2]
        clear hT h h1 W1 hhas hy hin hX eX hp0 hk0 hsp LK hR ey hIT HN0 hk hyn hyn2
        generalize y.role = y1 at *
        generalize y.name = y2 at *
        generalize y.about = y3 at *
        generalize y.level = y4 at *
        generalize y.checked = y5 at *
        generalize y.off = y6 at *
        generalize ixOf x.nm n = kx at *
        generalize hS : x.S = S at *
        go_enter Try.func28, Try.ntmps28
        go_upto_region 1 with fail
        generalize w.alloc (.cells #[.int .i64 (n : Int), .int .i64 y1, .string y2, .string y3, .int .i64 y4, .int .i64 y5, .bool y6, .slice p 0 c] 26) = W at *
        go_upto_region 6 with fail
        go_wp2_with fail
        have SS : ∀ w'', Keeps W w'' → (fun w'' : World => w''.cell? ⟨S, 0, none⟩ = some (.slice (some ⟨x.g, 0, none⟩) x.ar.length x.cap) ∧ w''.cell? ⟨w.heap.size, 0, none⟩ = some (.int .i64 (n : Int)) ∧ w''.cell? ⟨w.heap.size, 1, none⟩ = some (.int .i64 y1) ∧ w''.cell? ⟨w.heap.size, 2, none⟩ = some (.string y2) ∧ w''.cell? ⟨w.heap.size, 3, none⟩ = some (.string y3) ∧ w''.cell? ⟨w.heap.size, 4, none⟩ = some (.int .i64 y4) ∧ w''.cell? ⟨w.heap.size, 5, none⟩ = some (.int .i64 y5) ∧ w''.cell? ⟨w.heap.size, 6, none⟩ = some (.bool y6) ∧ w''.cell? ⟨w.heap.size, 7, none⟩ = some (.slice p 0 c)) w'' := fun w'' hk => ⟨hk _ _ s0, hk _ _ b0, hk _ _ b1, hk _ _ b2, hk _ _ b3, hk _ _ b4, hk _ _ b5, hk _ _ b6, hk _ _ b7⟩
        have AST : ∀ w1, (fun w'' : World => w''.cell? ⟨S, 0, none⟩ = some (.slice (some ⟨x.g, 0, none⟩) x.ar.length x.cap) ∧ w''.cell? ⟨w.heap.size, 0, none⟩ = some (.int .i64 (n : Int)) ∧ w''.cell? ⟨w.heap.size, 1, none⟩ = some (.int .i64 y1) ∧ w''.cell? ⟨w.heap.size, 2, none⟩ = some (.string y2) ∧ w''.cell? ⟨w.heap.size, 3, none⟩ = some (.string y3) ∧ w''.cell? ⟨w.heap.size, 4, none⟩ = some (.int .i64 y4) ∧ w''.cell? ⟨w.heap.size, 5, none⟩ = some (.int .i64 y5) ∧ w''.cell? ⟨w.heap.size, 6, none⟩ = some (.bool y6) ∧ w''.cell? ⟨w.heap.size, 7, none⟩ = some (.slice p 0 c)) w1 → (fun w'' : World => w''.cell? ⟨S, 0, none⟩ = some (.slice (some ⟨x.g, 0, none⟩) x.ar.length x.cap) ∧ w''.cell? ⟨w.heap.size, 0, none⟩ = some (.int .i64 (n : Int)) ∧ w''.cell? ⟨w.heap.size, 1, none⟩ = some (.int .i64 y1) ∧ w''.cell? ⟨w.heap.size, 2, none⟩ = some (.string y2) ∧ w''.cell? ⟨w.heap.size, 3, none⟩ = some (.string y3) ∧ w''.cell? ⟨w.heap.size, 4, none⟩ = some (.int .i64 y4) ∧ w''.cell? ⟨w.heap.size, 5, none⟩ = some (.int .i64 y5) ∧ w''.cell? ⟨w.heap.size, 6, none⟩ = some (.bool y6) ∧ w''.cell? ⟨w.heap.size, 7, none⟩ = some (.slice p 0 c)) ((((((((w1.setCell ⟨x.g, kx * 10, none⟩ (.int .i64 (n : Int))).setCell ⟨x.g, kx * 10 + 1, none⟩ (.int .i64 y1)).setCell ⟨x.g, kx * 10 + 2, none⟩ (.string y2)).setCell ⟨x.g, kx * 10 + 3, none⟩ (.string y3)).setCell ⟨x.g, kx * 10 + 4, none⟩ (.int .i64 y4)).setCell ⟨x.g, kx * 10 + 5, none⟩ (.int .i64 y5)).setCell ⟨x.g, kx * 10 + 6, none⟩ (.bool y6)).setCell ⟨x.g, kx * 10 + 7, none⟩ (.slice none 0 0)) := fun w1 ⟨q0, q1, q2, q3, q4, q5, q6, q7, q8⟩ => by
          refine ⟨?_, ?_, ?_, ?_, ?_, ?_, ?_, ?_, ?_⟩ <;> (repeat (rw [World.cell?_setCell_far _ _ _ _ (by first | exact fun e => SGx.out e.symm | exact HNg.out)])) <;> assumption
        have HW : Hid (Below W.heap.size W W.drew) := bel_drewN _ _ 1
        have HFZ : Hid (∀ w5, Below W.drew.heap.size W.drew w5 → ∀ i, w5.frozen? ⟨x.g, i, none⟩ = false) := fun w5 hb i => (HX.out.drew.below hb).fz i
        go_region_held3 (fun w'' : World => w''.cell? ⟨S, 0, none⟩ = some (.slice (some ⟨x.g, 0, none⟩) x.ar.length x.cap) ∧ w''.cell? ⟨w.heap.size, 0, none⟩ = some (.int .i64 (n : Int)) ∧ w''.cell? ⟨w.heap.size, 1, none⟩ = some (.int .i64 y1) ∧ w''.cell? ⟨w.heap.size, 2, none⟩ = some (.string y2) ∧ w''.cell? ⟨w.heap.size, 3, none⟩ = some (.string y3) ∧ w''.cell? ⟨w.heap.size, 4, none⟩ = some (.int .i64 y4) ∧ w''.cell? ⟨w.heap.size, 5, none⟩ = some (.int .i64 y5) ∧ w''.cell? ⟨w.heap.size, 6, none⟩ = some (.bool y6) ∧ w''.cell? ⟨w.heap.size, 7, none⟩ = some (.slice p 0 c))
          ((first | with_reducible assumption | (with_reducible apply AST; with_reducible assumption) | (apply SS; first | with_reducible exact Keeps.refl _ | with_reducible exact keeps_drew (Keeps.refl _))))
          (first
            | (go_at_call 46; refine (halone_any _ (n : Int) y1 y4 y5 y2 y3 y6 p 0 c).mono ?_; rintro e w5 ⟨rfl, hb5⟩; have K5 : Keeps W w5 := (keeps_drew (Keeps.refl _)).trans (keeps_below hb5 (Nat.le_refl _)); have A5 := SS w5 K5; have r0 := K5 _ _ a0; have r1 := K5 _ _ a1; have r2 := K5 _ _ a2; have r3 := K5 _ _ a3; have r4 := K5 _ _ a4; have r5 := K5 _ _ a5; have r6 := K5 _ _ a6; have r7 := K5 _ _ a7; have z0 := HFZ.out w5 hb5; have z1 := z0 (kx * 10); have z2 := z0 (kx * 10 + 1); have z3 := z0 (kx * 10 + 2); have z4 := z0 (kx * 10 + 3); have z5 := z0 (kx * 10 + 4); have z6 := z0 (kx * 10 + 5); have z7 := z0 (kx * 10 + 6); have z8 := z0 (kx * 10 + 7); clear z0))
        obtain ⟨w7, e7, G7, F7⟩ := FIN.out w5 (HX.out.drew.below hb5)
        rw [hIT2.out] at e7
        simp only [World.setCells, Nat.add_assoc, Nat.reduceAdd] at e7
        have HG7 : Hid _ := G7
        have HF7 : Hid (Fw x _ w w7) := (FX.out.trans (Fw.below (bel_drewN _ W 1))).trans ((Fw.below hb5).trans F7)
        rw [← e7]
        clear e7 SS AST A5 r0 r1 r2 r3 r4 r5 r6 r7 z1 z2 z3 z4 z5 z6 z7 z8 a0 a1 a2 a3 a4 a5 a6 a7 b0 b1 b2 b3 b4 b5 b6 b7 fz K5 s0 s1 hlk FIN HFZ G7 F7
        go_wp2_with fail
        go_ret
        exact ⟨_, HG7.out, HF7.out, (by simp), HTT.out⟩
      · have hk : y.kids.isEmpty = false := by
          have := HN0.out
          cases hkk : y.kids with
          | nil => rw [hkk] at this; exact absurd this ek
          | cons a l => rfl
        have ek2 : 0 < n0 := by omega
        have ez2 : (z != (n : Int)) = false := by simp [ez]
        subst ez
        clear hT h h1 W1 hhas hy hin
        generalize ixOf x.nm n = kx at *
        generalize hS : x.S = S at *
        go_enter Try.func28, Try.ntmps28
        go_upto_region 1 with fail
        generalize w.alloc (.cells #[.int .i64 (n : Int), .int .i64 y.role, .string y.name, .string y.about, .int .i64 y.level, .int .i64 y.checked, .bool y.off, .slice p n0 c] 26) = W at *
        go_wp2_with fail
        go_ret
        exact ⟨x, HX.out, FX.out, rfl, Took.bad (by rw [HRS.out, hh, hk]; simp) x⟩
    · have ez2 : (z != (n : Int)) = true := by simp [ez]
      clear hT h h1 W1 hhas hy hin
      generalize ixOf x.nm n = kx at *
      generalize hS : x.S = S at *
      go_enter Try.func28, Try.ntmps28
      go_upto_region 1 with fail
      generalize w.alloc (.cells #[.int .i64 z, .int .i64 y.role, .string y.name, .string y.about, .int .i64 y.level, .int .i64 y.checked, .bool y.off, .slice p n0 c] 26) = W at *
      go_wp2_with fail
      go_ret
      exact ⟨x, HX.out, FX.out, rfl, Took.bad (by rw [HRS.out, hh]; simp [ez]) x⟩
end Go.Proofs.Ytgpckmolcdafcae

/-
  THE WALK of diff's stand: take.
-/
namespace Go.Proofs.Ytgpckmolcdafcae
open Go.RowKit Go.Maps

/-- what is in a box of twelve cells -/
def Box12 (N : Nat) (v0 v1 v2 v3 a0 a1 a2 a3 a4 a5 a6 a7 : Value) (w : World) : Prop := w.cell? ⟨N, 0, none⟩ = some v0 ∧ w.cell? ⟨N, 1, none⟩ = some v1 ∧ w.cell? ⟨N, 2, none⟩ = some v2 ∧ w.cell? ⟨N, 3, none⟩ = some v3 ∧ w.cell? ⟨N, 4, none⟩ = some a0 ∧ w.cell? ⟨N, 5, none⟩ = some a1 ∧ w.cell? ⟨N, 6, none⟩ = some a2 ∧ w.cell? ⟨N, 7, none⟩ = some a3 ∧ w.cell? ⟨N, 8, none⟩ = some a4 ∧ w.cell? ⟨N, 9, none⟩ = some a5 ∧ w.cell? ⟨N, 10, none⟩ = some a6 ∧ w.cell? ⟨N, 11, none⟩ = some a7
theorem box12_new (w : World) (v0 v1 v2 v3 a0 a1 a2 a3 a4 a5 a6 a7 : Value) (t : Nat) : Box12 w.heap.size v0 v1 v2 v3 a0 a1 a2 a3 a4 a5 a6 a7 (w.alloc (.cells #[v0, v1, v2, v3, a0, a1, a2, a3, a4, a5, a6, a7] t)) := by
  refine ⟨?_, ?_, ?_, ?_, ?_, ?_, ?_, ?_, ?_, ?_, ?_, ?_⟩ <;> rw [World.cell?_alloc_new] <;> simp

/-- one item in a block by itself reads as one item -/
theorem rd_one {w : World} {P : Nat → Prop} {N : Nat} {y : It} {kv : Value} (hP : P N) (hk : RdI w P kv y.kids) (h : ItAt w N 0 y kv) : RdI w P (.slice (some ⟨N, 0, none⟩) 1 1) [y] := by
  unfold RdI
  have e : ofIts [y] = [ofIt y] := rfl
  rw [e]
  refine .mk (some ⟨N, 0, none⟩) 1 [ofIt y] [kv] rfl (Nat.le_refl _) (by decide) (fun j hj hj' => ?_) (fun j hj hj' => ?_)
  · have : j = 0 := by simpa using hj
    subst this
    exact ⟨N, 0, rfl, hP, h.any⟩
  · have : j = 0 := by simpa using hj
    subst this
    show IzsAt w P kv (ofIt y).kids
    rw [ofIt_kids]
    exact hk

/-- what is owed of an event that is to be taken -/
structure EvOk (w : World) (P : Nat → Prop) (m : EvM) (n : Nat) (z : Int) (kv : Value) : Prop where
  node : m.node = (n : Int)
  nlt : n < 9223372036854775808
  tlt : m.tgt < 9223372036854775808
  z52 : m.kind = 5 ∨ m.kind = 2 → z = (m.item.node : Int)
  z4 : m.kind = 4 → (z = (n : Int) ↔ m.item.node = n)
  shape : ∃ p c, kv = .slice p m.item.kids.length c
  a5 : m.kind = 5 → RdI w P kv m.item.kids ∧ Unlike [m.item] ∧ ∀ k ∈ nodesL [m.item], k < 9223372036854775808
  few : (nodes1 m.item).length ≤ 400000
  i2 : m.kind = 2 → m.item.node < 9223372036854775808
theorem app4' (T : List It) (n : Nat) (t a : Int) (x : It) (z : Int) (hz : z = (n : Int) ↔ x.node = n) : applyM T ⟨4, n, t, a, x⟩ = (if hasI T (n : Int) = false then .error 6 else if z ≠ (n : Int) ∨ x.kids.isEmpty = false then .error 8 else .ok (telL n x T)) := by
  rw [app4]
  have e : ((x.node : Int) ≠ (n : Int)) = (z ≠ (n : Int)) := by
    simp only [ne_eq, hz, eq_iff_iff]
    constructor
    · intro h e; exact h (by rw [e])
    · intro h e; exact h (by omega)
  simp only [e, Int.toNat_natCast]
theorem app5 (T : List It) (n t a : Int) (x : It) : applyM T ⟨5, n, t, a, x⟩ = .ok [x] := rfl
theorem app_else {T : List It} {m : EvM} (h1 : m.kind ≠ 1) (h2 : m.kind ≠ 2) (h3 : m.kind ≠ 3) (h4 : m.kind ≠ 4) (h5 : m.kind ≠ 5) : applyM T m = .error 1 := by
  unfold applyM
  rw [if_neg h5, if_neg h2, if_neg h3, if_neg h1, if_neg h4]

def evc (m : EvM) (z : Int) (kv : Value) : List Value := [.int .i64 m.kind, .int .i64 m.node, .int .i64 m.tgt, .int .i64 m.at_, .int .i64 z, .int .i64 m.item.role, .string m.item.name, .string m.item.about, .int .i64 m.item.level, .int .i64 m.item.checked, .bool m.item.off, kv]

theorem Took.ret {r : Except Int (List It)} {e : Ending} {x x' : Ax} (h : Took r e x x') : ∃ c, e = .returned (.int .i64 c) := by
  unfold Took at h
  cases r with
  | error c => exact ⟨c, h.1⟩
  | ok T => exact ⟨0, h.1⟩

theorem hremove_took {w : World} {x : Ax} {T : List It} (h : StAt w x) (hT : Rp x.ar x.nm T) (hb : ∀ k ∈ nodesL T, k < 9223372036854775808) (hz : (nodesL T).length ≤ 500000) (n : Nat) (hn : n < 9223372036854775808) (t a : Int) (y : It) :
    Calls Try.prog 27 #[.pointer (some ⟨x.S, 0, none⟩), .int .i64 (n : Int)] w fun e w' => ∃ x', StAt w' x' ∧ Fw x x' w w' ∧ x'.ar.length = x.ar.length ∧ Took (applyM T ⟨1, (n : Int), t, a, y⟩) e x x' := by
  refine (hremove_any h hT hb hz n hn).mono ?_
  rintro e w6 ⟨x6, r1, r2, r3, r4⟩
  refine ⟨x6, r1, r2, r3, ?_⟩
  rw [app1, hasI_nat]
  rcases r4 with ⟨q1, rfl, q2⟩ | ⟨q1, rfl, rfl⟩
  · rw [if_pos (by simpa using q1), Int.toNat_natCast]
    exact ⟨rfl, q2⟩
  · rw [if_neg (by simpa using q1)]
    exact ⟨rfl, rfl⟩

theorem nodesL_len1 (y : It) : (nodesL [y]).length = (nodes1 y).length := by
  rw [show nodesL [y] = nodes1 y ++ nodesL [] from rfl, show nodesL [] = [] from rfl, List.append_nil]
theorem Fw.all {x x5 : Ax} {w W w5 : World} {v0 v1 : Value} (hB : Below w.heap.size w W) (h5 : Below W.heap.size W w5) (hf : ∀ k, x5.foot k → W.heap.size ≤ k) (_ : x.S < w.heap.size) :
    Fw x { x5 with S := x.S } w ((w5.setCell ⟨x.S, 0, none⟩ v0).setCell ⟨x.S, 1, none⟩ v1) := by
  have hb : Below w.heap.size w w5 := hB.trans (h5.mono hB.size)
  refine ⟨rfl, ?_, ?_, ?_, ?_, fun k hk hn => ?_, fun k hk => ?_⟩
  · exact hb.os
  · exact hb.tape
  · exact hb.output
  · simpa using hb.size
  · have hne : k ≠ x.S := fun e => hn (Or.inl e)
    rw [heap_setCell_other _ _ _ _ hne, heap_setCell_other _ _ _ _ hne]
    exact hb.block k hk
  · rcases hk with e | e | e | e
    · exact Or.inl (Or.inl e)
    · exact Or.inr (Nat.le_trans hB.size (hf k (Or.inr (Or.inl e))))
    · exact Or.inr (Nat.le_trans hB.size (hf k (Or.inr (Or.inr (Or.inl e)))))
    · exact Or.inr (Nat.le_trans hB.size (hf k (Or.inr (Or.inr (Or.inr e)))))

set_option maxHeartbeats 3200000 in
set_option maxRecDepth 100000 in
theorem htake_any {w : World} {x : Ax} {T : List It} (h : StAt w x) (hT : Rp x.ar x.nm T) (hb : ∀ k ∈ nodesL T, k < 9223372036854775808) (hz : (nodesL T).length ≤ 500000) (har : x.ar.length ≤ 500000) (m : EvM) (n : Nat) (z : Int) (kv : Value) (hE : EvOk w (fun g => ¬ x.foot g) m n z kv) :
    Calls Try.prog 13 #[.pointer (some ⟨x.S, 0, none⟩), .agg (evc m z kv).toArray] w fun e w' => ∃ x', StAt w' x' ∧ Fw x x' w w' ∧ x'.ar.length ≤ max (x.ar.length + 1) ((nodes1 m.item).length + 1) ∧ Took (applyM T m) e x x' := by
  obtain ⟨kind, node, tgt, at_, y⟩ := m
  obtain ⟨e1, hnl, htl, h52, h4, hsh, h5, hfew, hi2⟩ := hE
  simp only at e1 htl h52 h4 hsh h5 hfew hi2 ⊢
  subst e1
  obtain ⟨p, c, rfl⟩ := hsh
  show Calls Try.prog 13 #[.pointer (some ⟨x.S, 0, none⟩), .agg #[.int .i64 kind, .int .i64 (n : Int), .int .i64 tgt, .int .i64 at_, .int .i64 z, .int .i64 y.role, .string y.name, .string y.about, .int .i64 y.level, .int .i64 y.checked, .bool y.off, .slice p y.kids.length c]] w _
  have BX := box12_new w (.int .i64 kind) (.int .i64 (n : Int)) (.int .i64 tgt) (.int .i64 at_) (.int .i64 z) (.int .i64 y.role) (.string y.name) (.string y.about) (.int .i64 y.level) (.int .i64 y.checked) (.bool y.off) (.slice p y.kids.length c) 28
  have W1 : Below w.heap.size w (w.alloc (.cells #[.int .i64 kind, .int .i64 (n : Int), .int .i64 tgt, .int .i64 at_, .int .i64 z, .int .i64 y.role, .string y.name, .string y.about, .int .i64 y.level, .int .i64 y.checked, .bool y.off, .slice p y.kids.length c] 28)) := (Below.refl _ _).alloc (Nat.le_refl _) _
  have h1 := h.below W1
  have FX : Hid (Fw x x w (w.alloc (.cells #[.int .i64 kind, .int .i64 (n : Int), .int .i64 tgt, .int .i64 at_, .int .i64 z, .int .i64 y.role, .string y.name, .string y.about, .int .i64 y.level, .int .i64 y.checked, .bool y.off, .slice p y.kids.length c] 28))) := Fw.below W1
  by_cases k5 : kind = 5
  · subst k5
    have ez := h52 (Or.inl rfl)
    subst ez
    obtain ⟨hk5, hU5, hb5⟩ := h5 rfl
    have hlt := h1.lt
    have hs0 := h1.s0
    have hs1 := h1.s1
    have hf0 := h1.f0
    have hf1 := h1.f1
    have hSlt : Hid (x.S < w.heap.size) := h.lt x.S (Or.inl rfl)
    have HB : Hid (Below w.heap.size w _) := W1
    have HK := hk5.under W1
    clear h hT hb h1 h52 h4 h5 hk5 FX
    obtain ⟨b0, b1, b2, b3, b4, b5, b6, b7, b8, b9, b10, b11⟩ := BX
    go_enter Try.func13, Try.ntmps13
    go_upto_region 1 with fail
    generalize w.alloc (.cells #[.int .i64 5, .int .i64 (n : Int), .int .i64 tgt, .int .i64 at_, .int .i64 (y.node : Int), .int .i64 y.role, .string y.name, .string y.about, .int .i64 y.level, .int .i64 y.checked, .bool y.off, .slice p y.kids.length c] 28) = W at *
    have hny : ¬ x.foot W.heap.size := fun hf => by have := hlt _ hf; omega
    have AT : ItAt (W.alloc (.cells #[.int .i64 (y.node : Int), .int .i64 y.role, .string y.name, .string y.about, .int .i64 y.level, .int .i64 y.checked, .bool y.off, .slice p y.kids.length c] 26)) W.heap.size 0 y (.slice p y.kids.length c) := by
      refine ⟨?_, ?_, ?_, ?_, ?_, ?_, ?_, ?_⟩ <;> rw [World.cell?_alloc_new] <;> simp
    have B2 : Below W.heap.size W (W.alloc (.cells #[.int .i64 (y.node : Int), .int .i64 y.role, .string y.name, .string y.about, .int .i64 y.level, .int .i64 y.checked, .bool y.off, .slice p y.kids.length c] 26)) := (Below.refl _ _).alloc (Nat.le_refl _) _
    have R1 := rd_one (P := fun g => ¬ x.foot g) hny (HK.under B2) AT
    have C := hstanding_any R1 hU5 hb5 (by simpa [nodesL] using hfew)
    clear AT R1 HK
    have HY : Hid ((nodesL [y]).length = (nodes1 y).length) := nodesL_len1 y
    go_wp2_with (go_at_call 12; refine C.mono ?_; clear C; rintro e w5 ⟨x5, rfl, g1, g2, g3, g4, g5⟩; have G1 : Hid (StAt w5 x5) := g1; have G2 : Hid (Rp x5.ar x5.nm [y]) := g2; have G3 : Hid (x5.ar.length = (nodesL [y]).length + 1) := g3; have G4 : Hid (∀ k, x5.foot k → W.heap.size < k) := (fun k hk => by have := g4 k hk; simp at this; omega); have G5 : Hid (Below W.heap.size W w5) := B2.trans (g5.mono (by simp)); have q0 : w5.cell? ⟨x.S, 0, none⟩ = some (.slice (some ⟨x.g, 0, none⟩) x.ar.length x.cap) := (by rw [← hs0]; exact World.cell?_of_block (G5.out.block _ (hlt _ (Or.inl rfl)))); have q1 : w5.cell? ⟨x.S, 1, none⟩ = some (.map (some x.M)) := (by rw [← hs1]; exact World.cell?_of_block (G5.out.block _ (hlt _ (Or.inl rfl)))); have q2 : w5.frozen? ⟨x.S, 0, none⟩ = false := (by rw [← hf0]; exact World.frozen?_of_block (G5.out.block _ (hlt _ (Or.inl rfl)))); have q3 : w5.frozen? ⟨x.S, 1, none⟩ = false := (by rw [← hf1]; exact World.frozen?_of_block (G5.out.block _ (hlt _ (Or.inl rfl)))); clear g1 g2 g3 g4 g5 hs0 hs1 hf0 hf1)
    go_ret
    have nS : ¬ x5.foot x.S := fun hf => by
      have := G4.out _ hf
      have := hSlt.out
      have := HB.out.size
      omega
    have nM : ∀ k, x5.foot k → ¬ k = x.S := fun k hk e => nS (by rw [← e]; exact hk)
    refine ⟨{ x5 with S := x.S }, ?_, Fw.all HB.out G5.out (fun k hk => Nat.le_of_lt (G4.out k hk)) hSlt.out, ?_, ?_⟩
    · refine (G1.out.same (fun k hk => ?_)).box ?_ ?_ ?_ ?_ nS
      · rw [heap_setCell_other _ _ _ _ (nM k hk), heap_setCell_other _ _ _ _ (nM k hk)]
      · rw [World.cell?_setCell_other _ _ _ _ (by intro e; cases e)]
        exact World.cell?_setCell_same _ _ _ q0
      · exact World.cell?_setCell_same _ _ _ (by rw [World.cell?_setCell_other _ _ _ _ (by intro e; cases e)]; exact q1)
      · simpa using q2
      · simpa using q3
    · show x5.ar.length ≤ _
      rw [G3.out, HY.out]
      exact Nat.le_max_right _ _
    · rw [app5]
      exact ⟨rfl, G2.out⟩
  by_cases k2 : kind = 2
  · subst k2
    have ez := h52 (Or.inr rfl)
    subst ez
    have AD := hadd_any h1 hT hz har tgt htl at_ y (hi2 rfl) p c y.kids.length rfl (n : Int)
    generalize hRS : applyM T ⟨2, (n : Int), tgt, at_, y⟩ = RS at *
    clear hRS h hT hb W1 h1 h52 h4 h5
    obtain ⟨b0, b1, b2, b3, b4, b5, b6, b7, b8, b9, b10, b11⟩ := BX
    generalize hS : x.S = S at *
    generalize y.kids.length = kl at *
    generalize (nodes1 y).length = nl at *
    go_enter Try.func13, Try.ntmps13
    go_upto_region 1 with fail
    generalize w.alloc (.cells #[.int .i64 2, .int .i64 (n : Int), .int .i64 tgt, .int .i64 at_, .int .i64 (y.node : Int), .int .i64 y.role, .string y.name, .string y.about, .int .i64 y.level, .int .i64 y.checked, .bool y.off, .slice p kl c] 28) = W at *
    go_wp2_with (go_at_call 25; refine AD.mono ?_; clear AD; rintro e w6 ⟨x6, r1, r2, r3, r4⟩; obtain ⟨cc, rfl⟩ := r4.ret; have R : Hid (∃ x', StAt w6 x' ∧ Fw x x' w w6 ∧ x'.ar.length ≤ x.ar.length + 1 ∧ Took RS (.returned (.int .i64 cc)) x x') := ⟨x6, r1, FX.out.trans r2, r3, r4⟩; clear r1 r2 r3 r4)
    go_ret
    obtain ⟨x', q1, q2, q3, q4⟩ := R.out
    exact ⟨x', q1, q2, Nat.le_trans q3 (Nat.le_max_left _ _), q4⟩
  by_cases k3 : kind = 3
  · subst k3
    have AD := hmove_any h1 hT hz n hnl tgt htl at_ y
    generalize hRS : applyM T ⟨3, (n : Int), tgt, at_, y⟩ = RS at *
    clear hRS h hT hb W1 h1 h52 h4 h5
    obtain ⟨b0, b1, b2, b3, b4, b5, b6, b7, b8, b9, b10, b11⟩ := BX
    generalize hS : x.S = S at *
    generalize y.kids.length = kl at *
    generalize (nodes1 y).length = nl at *
    go_enter Try.func13, Try.ntmps13
    go_upto_region 1 with fail
    generalize w.alloc (.cells #[.int .i64 3, .int .i64 (n : Int), .int .i64 tgt, .int .i64 at_, .int .i64 z, .int .i64 y.role, .string y.name, .string y.about, .int .i64 y.level, .int .i64 y.checked, .bool y.off, .slice p kl c] 28) = W at *
    go_wp2_with (go_at_call 26; refine AD.mono ?_; clear AD; rintro e w6 ⟨x6, r1, r2, r3, r4⟩; obtain ⟨cc, rfl⟩ := r4.ret; have R : Hid (∃ x', StAt w6 x' ∧ Fw x x' w w6 ∧ x'.ar.length ≤ x.ar.length + 1 ∧ Took RS (.returned (.int .i64 cc)) x x') := ⟨x6, r1, FX.out.trans r2, by omega, r4⟩; clear r1 r2 r3 r4)
    go_ret
    obtain ⟨x', q1, q2, q3, q4⟩ := R.out
    exact ⟨x', q1, q2, Nat.le_trans q3 (Nat.le_max_left _ _), q4⟩
  by_cases k1 : kind = 1
  · subst k1
    have AD := hremove_took h1 hT hb hz n hnl tgt at_ y
    generalize hRS : applyM T ⟨1, (n : Int), tgt, at_, y⟩ = RS at *
    clear hRS h hT hb W1 h1 h52 h4 h5
    obtain ⟨b0, b1, b2, b3, b4, b5, b6, b7, b8, b9, b10, b11⟩ := BX
    generalize hS : x.S = S at *
    generalize y.kids.length = kl at *
    generalize (nodes1 y).length = nl at *
    go_enter Try.func13, Try.ntmps13
    go_upto_region 1 with fail
    generalize w.alloc (.cells #[.int .i64 1, .int .i64 (n : Int), .int .i64 tgt, .int .i64 at_, .int .i64 z, .int .i64 y.role, .string y.name, .string y.about, .int .i64 y.level, .int .i64 y.checked, .bool y.off, .slice p kl c] 28) = W at *
    go_wp2_with (go_at_call 27; refine AD.mono ?_; clear AD; rintro e w6 ⟨x6, r1, r2, r3, r4⟩; obtain ⟨cc, rfl⟩ := r4.ret; have R : Hid (∃ x', StAt w6 x' ∧ Fw x x' w w6 ∧ x'.ar.length ≤ x.ar.length + 1 ∧ Took RS (.returned (.int .i64 cc)) x x') := ⟨x6, r1, FX.out.trans r2, by omega, r4⟩; clear r1 r2 r3 r4)
    go_ret
    obtain ⟨x', q1, q2, q3, q4⟩ := R.out
    exact ⟨x', q1, q2, Nat.le_trans q3 (Nat.le_max_left _ _), q4⟩
  by_cases k4 : kind = 4
  · subst k4
    have hz4 := h4 rfl
    have AD := hretell_any h1 hT n hnl z y (fun e => hz4.1 e) p c y.kids.length rfl
    rw [← app4' T n tgt at_ y z hz4] at AD
    generalize hRS : applyM T ⟨4, (n : Int), tgt, at_, y⟩ = RS at *
    clear hz4
    clear hRS h hT hb W1 h1 h52 h4 h5
    obtain ⟨b0, b1, b2, b3, b4, b5, b6, b7, b8, b9, b10, b11⟩ := BX
    generalize hS : x.S = S at *
    generalize y.kids.length = kl at *
    generalize (nodes1 y).length = nl at *
    go_enter Try.func13, Try.ntmps13
    go_upto_region 1 with fail
    generalize w.alloc (.cells #[.int .i64 4, .int .i64 (n : Int), .int .i64 tgt, .int .i64 at_, .int .i64 z, .int .i64 y.role, .string y.name, .string y.about, .int .i64 y.level, .int .i64 y.checked, .bool y.off, .slice p kl c] 28) = W at *
    go_wp2_with (go_at_call 28; refine AD.mono ?_; clear AD; rintro e w6 ⟨x6, r1, r2, r3, r4⟩; obtain ⟨cc, rfl⟩ := r4.ret; have R : Hid (∃ x', StAt w6 x' ∧ Fw x x' w w6 ∧ x'.ar.length ≤ x.ar.length + 1 ∧ Took RS (.returned (.int .i64 cc)) x x') := ⟨x6, r1, FX.out.trans r2, by omega, r4⟩; clear r1 r2 r3 r4)
    go_ret
    obtain ⟨x', q1, q2, q3, q4⟩ := R.out
    exact ⟨x', q1, q2, Nat.le_trans q3 (Nat.le_max_left _ _), q4⟩
  have hRS : Hid (applyM T ⟨kind, (n : Int), tgt, at_, y⟩ = .error 1) := app_else k1 k2 k3 k4 k5
  generalize applyM T ⟨kind, (n : Int), tgt, at_, y⟩ = RS at *
  have HX : Hid (StAt (w.alloc (.cells #[.int .i64 kind, .int .i64 (n : Int), .int .i64 tgt, .int .i64 at_, .int .i64 z, .int .i64 y.role, .string y.name, .string y.about, .int .i64 y.level, .int .i64 y.checked, .bool y.off, .slice p y.kids.length c] 28)) x) := h1
  clear h hT hb W1 h1 h52 h4 h5
  obtain ⟨b0, b1, b2, b3, b4, b5, b6, b7, b8, b9, b10, b11⟩ := BX
  generalize hS : x.S = S at *
  generalize y.kids.length = kl at *
  generalize (nodes1 y).length = nl at *
  go_enter Try.func13, Try.ntmps13
  go_upto_region 1 with fail
  generalize w.alloc (.cells #[.int .i64 kind, .int .i64 (n : Int), .int .i64 tgt, .int .i64 at_, .int .i64 z, .int .i64 y.role, .string y.name, .string y.about, .int .i64 y.level, .int .i64 y.checked, .bool y.off, .slice p kl c] 28) = W at *
  go_wp2_with fail
  go_ret
  exact ⟨x, HX.out, FX.out, Nat.le_trans (by omega) (Nat.le_max_left _ _), Took.bad hRS.out x⟩
end Go.Proofs.Ytgpckmolcdafcae

/-
  PLAIN MATHEMATICS: whose nodes there are behind an event; how many there may be.
-/
namespace Go.Proofs.Ytgpckmolcdafcae

theorem insi_sub {y : It} {k : Nat} : ∀ (l : List It) (i : Nat), k ∈ nodesL (l.insertIdx i y) → k ∈ nodesL l ∨ k ∈ nodes1 y
  | l, 0, h => by
    rw [List.insertIdx_zero, nodesL, List.mem_append] at h
    exact h.symm
  | [], i + 1, h => by
    rw [List.insertIdx_succ_nil] at h
    exact Or.inl h
  | x :: l, i + 1, h => by
    rw [List.insertIdx_succ_cons, nodesL, List.mem_append] at h
    rw [nodesL, List.mem_append]
    rcases h with h | h
    · exact Or.inl (Or.inl h)
    · rcases insi_sub l i h with h | h
      · exact Or.inl (Or.inr h)
      · exact Or.inr h
theorem insL_sub (p i : Nat) (y : It) (k : Nat) : (∀ x : It, k ∈ nodes1 (ins1 p i y x) → k ∈ nodes1 x ∨ k ∈ nodes1 y) ∧ ∀ l : List It, k ∈ nodesL (insL p i y l) → k ∈ nodesL l ∨ k ∈ nodes1 y := by
  refine It.ind (fun x h hk => ?_) (fun hk => Or.inl hk) (fun x xs h1 h2 hk => ?_)
  · rw [nodes1_eq, ins1_node, ins1_kids] at hk
    rw [nodes1_eq]
    rcases List.mem_cons.mp hk with e | hk
    · exact Or.inl (by rw [e]; exact List.mem_cons_self)
    · have key : k ∈ nodesL (insL p i y x.kids) ∨ k ∈ nodes1 y := by
        split at hk
        · exact insi_sub _ _ hk
        · exact Or.inl hk
      rcases key with hk | hk
      · rcases h hk with h | h
        · exact Or.inl (List.mem_cons_of_mem _ h)
        · exact Or.inr h
      · exact Or.inr hk
  · rw [insL, nodesL, List.mem_append] at hk
    rw [nodesL, List.mem_append]
    rcases hk with hk | hk
    · rcases h1 hk with h | h
      · exact Or.inl (Or.inl h)
      · exact Or.inr h
    · rcases h2 hk with h | h
      · exact Or.inl (Or.inr h)
      · exact Or.inr h
theorem insP_sub {p : Int} {i : Nat} {y : It} {T : List It} {k : Nat} (h : k ∈ nodesL (insP p i y T)) : k ∈ nodesL T ∨ k ∈ nodes1 y := by
  unfold insP at h
  split at h
  · exact insi_sub _ _ h
  · exact (insL_sub _ _ _ _).2 _ h
theorem find_in {T : List It} {n : Int} {x : It} (h : findI T n = some x) : x ∈ itemL T := by
  unfold findI at h
  exact List.mem_of_find?_eq_some h
theorem sub_in {T : List It} {x : It} (hx : x ∈ itemL T) {k : Nat} (hk : k ∈ nodes1 x) : k ∈ nodesL T := by
  rw [nodes1_items] at hk
  obtain ⟨z, hz, rfl⟩ := List.mem_map.mp hk
  rcases mem_item1.mp hz with rfl | hz
  · exact node_inL hx
  · exact node_inL (item_kids.2 T x hx z hz)
/-- whose nodes there are behind an event -/
theorem apply_sub {T T' : List It} {m : EvM} (h : applyM T m = .ok T') {k : Nat} (hk : k ∈ nodesL T') : k ∈ nodesL T ∨ ((m.kind = 2 ∨ m.kind = 5) ∧ k ∈ nodes1 m.item) := by
  obtain ⟨kind, node, tgt, at_, y⟩ := m
  by_cases k5 : kind = 5
  · subst k5
    rw [app5] at h
    cases h
    exact Or.inr ⟨Or.inr rfl, by simpa [nodesL] using hk⟩
  by_cases k2 : kind = 2
  · subst k2
    rw [app2] at h
    split at h; · cases h
    split at h; · cases h
    split at h; · cases h
    split at h; · cases h
    cases h
    rcases insP_sub hk with h | h
    · exact Or.inl h
    · exact Or.inr ⟨Or.inl rfl, h⟩
  by_cases k3 : kind = 3
  · subst k3
    rw [app3] at h
    cases hf : findI T node with
    | none => rw [hf] at h; cases h
    | some x =>
      rw [hf] at h
      simp only at h
      split at h; · cases h
      split at h; · cases h
      split at h; · cases h
      cases h
      unfold movP at hk
      rcases insP_sub hk with h | h
      · exact Or.inl (rm_less h).1
      · exact Or.inl (sub_in (find_in hf) h)
  by_cases k1 : kind = 1
  · subst k1
    rw [app1] at h
    split at h
    · cases h
      exact Or.inl (rm_less hk).1
    · cases h
  by_cases k4 : kind = 4
  · subst k4
    rw [app4] at h
    split at h; · cases h
    split at h; · cases h
    rename_i h2
    cases h
    have e : y.node = node.toNat := by
      have : (y.node : Int) = node := Classical.byContradiction fun q => h2 (Or.inl q)
      rw [← this]
      simp
    rw [tel_nodes e] at hk
    exact Or.inl hk
  · exfalso
    unfold applyM at h
    rw [if_neg k5, if_neg k2, if_neg k3, if_neg k1, if_neg k4] at h
    cases h

theorem pig : ∀ (n : Nat) (l : List Nat), l.Nodup → (∀ k ∈ l, k < n) → l.length ≤ n
  | 0, l, _, h => by
    cases l with
    | nil => exact Nat.le_refl _
    | cons a l => have := h a (by simp); omega
  | n + 1, l, hn, h => by
    by_cases hm : n ∈ l
    · have h1 := filt_len hn hm
      have h2 := pig n (l.filter (fun k => decide (k ≠ n))) (hn.filter _) (fun k hk => by
        have := List.mem_filter.mp hk
        have h3 := h k this.1
        have h4 : k ≠ n := by simpa using this.2
        omega)
      omega
    · have h2 := pig n l hn (fun k hk => by
        have h3 := h k hk
        have h4 : k ≠ n := fun e => hm (e ▸ hk)
        omega)
      omega
theorem nodup_on {f : Nat → Nat} : ∀ {l : List Nat}, l.Nodup → (∀ a ∈ l, ∀ b ∈ l, f a = f b → a = b) → (l.map f).Nodup
  | [], _, _ => List.nodup_nil
  | a :: l, hn, h => by
    rw [List.nodup_cons] at hn
    rw [List.map_cons, List.nodup_cons]
    refine ⟨fun hm => ?_, nodup_on hn.2 (fun x hx y hy => h x (by simp [hx]) y (by simp [hy]))⟩
    obtain ⟨b, hb, e⟩ := List.mem_map.mp hm
    exact hn.1 ((h b (by simp [hb]) a (by simp) e) ▸ hb)
theorem Rp.few {ar : List Sp} {nm : Nm} {T : List It} (h : Rp ar nm T) : (nodesL T).length ≤ ar.length := by
  have := pig ar.length ((nodesL T).map (ixOf nm)) (nodup_on h.un h.inj) (fun k hk => by
    obtain ⟨n, hn, rfl⟩ := List.mem_map.mp hk
    exact (h.inn n hn).2.2)
  simpa using this
end Go.Proofs.Ytgpckmolcdafcae
