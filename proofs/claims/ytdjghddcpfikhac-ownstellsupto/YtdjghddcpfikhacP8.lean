/-
  OWN WORK: Rsa, Dtx, Vca, Vcb, Vcc, Vcd, Vce, Vcl, Vck, Vcf.
-/
import Derived.Test.YtdjghddcpfikhacP1
import Derived.Test.YtdjghddcpfikhacP7
import Derived.Deep.QuietTactic
import Derived.BigQuiet
import Derived.Deep.RegionHeld3
import Derived.Test.YtdjghddcpfikhacP4
import Derived.Test.YtdjghddcpfikhacP5
import Derived.Test.YtdjghddcpfikhacP6
/-
  THE WALKS of the reference's SameInts and Same, at what reads the same.
-/
namespace Go.Proofs.Ytdjghddcpfikhac
open Go.RowKit

set_option maxHeartbeats 800000 in
set_option maxRecDepth 100000 in
theorem rsameints_true {w : World} {v1 v2 : Value} {l : List Nat} (h1 : IntsAt w v1 l) (h2 : IntsAt w v2 l) :
    Calls Try.prog 11 #[v1, v2] w fun e w' => e = .returned (.bool true) ∧ Below w.heap.size w w' := by
  obtain ⟨p1, c1, rfl, a1, a2, _, at1⟩ := h1.at
  obtain ⟨p2, c2, rfl, b1, b2, _, at2⟩ := h2.at
  have T1 : Hid (∀ j (hj : j < l.length), ∃ b o, p1 = some ⟨b, o, none⟩ ∧ w.cell? ⟨b, o + j, none⟩ = some (.int .i64 (l[j] : Int))) := at1
  have T2 : Hid (∀ j (hj : j < l.length), ∃ b o, p2 = some ⟨b, o, none⟩ ∧ w.cell? ⟨b, o + j, none⟩ = some (.int .i64 (l[j] : Int))) := at2
  clear at1 at2 h1 h2
  go_enter Try.func11, Try.ntmps11
  go_wp2_with fail
  go_loopw [13] (fun i wr => ∃ j : Nat, j ≤ l.length ∧ i = .int .i64 j ∧ Below w.heap.size w wr) (fun i _ => l.length - (intOf i).toNat)
  case atStart => exact ⟨0, Nat.zero_le _, rfl, Below.refl _ _⟩
  case round =>
    obtain ⟨j, hj, rfl, hnx⟩ := hrel
    by_cases hlt : j < l.length
    · obtain ⟨e1, o1, rfl, k1⟩ := T1.out j hlt
      obtain ⟨e2, o2, rfl, k2⟩ := T2.out j hlt
      have y1 := keeps_below hnx (Nat.le_refl _) _ _ k1
      have y2 := keeps_below hnx (Nat.le_refl _) _ _ k2
      clear k1 k2
      generalize l[j] = x at *
      have hq : (((x : Nat) : Int) == (x : Int)) = true := by simp
      have hj2 : (j : Int) < (l.length : Int) := by omega
      go_wp2_with fail
      go_quiet (fail)
      go_wp2_with fail
      go_roundw
      case rel => exact ⟨j + 1, by omega, by go_num, hnx.trans ⟨rfl, rfl, rfl, Nat.le_refl _, fun _ _ => rfl⟩⟩
      case measure => simp [intOf]; omega
    · obtain rfl : j = l.length := by omega
      go_wp2_with fail
      go_ret
      exact ⟨rfl, hnx⟩

end Go.Proofs.Ytdjghddcpfikhac

/-
  THE WALKS of the reference's All where there is no node, and Find; of dom.All where there is no node; of Same at two documents that are nil.
-/
namespace Go.Proofs.Ytdjghddcpfikhac
open Go.RowKit

set_option maxHeartbeats 800000 in
theorem rall_no {w : World} {b o c : Nat} {rs : List Raw} {d : Tn.Dc} (hd : DocAt w b o c rs d) (n : Int) (hn : Tn.isN d n false = false) :
    Calls Try.prog 46 #[.slice (some ⟨b, o, none⟩) rs.length c, .int .i64 n] w fun e w' => e = .returned (.slice none 0 0) ∧ w' = w := by
  have H : Hid (DocAt w b o c rs d) := hd
  clear hd
  go_enter Try.func46, Try.ntmps46
  go_wp2_with (go_at_call 34; refine (ris_any H.out _ _).mono ?_; rintro e w' ⟨rfl, hww⟩; subst hww; rw [hn])
  go_ret
  exact ⟨rfl, rfl⟩

set_option maxHeartbeats 800000 in
theorem dall1_no {w : World} {b o c D A K X : Nat} {rs : List Raw} {d : Tn.Dc} (hd : DocAt w b o c rs d) (n : Int) (hn : Tn.isN d n false = false) (hD : w.cell? ⟨D, 0, none⟩ = some (.slice (some ⟨b, o, none⟩) rs.length c)) (hX : w.cell? ⟨X, 0, none⟩ = some (.int .i64 n)) :
    Calls Try.prog 64 #[.slice (some ⟨X, 0, none⟩) 1 1, .pointer (some ⟨D, 0, none⟩), .pointer (some ⟨A, 0, none⟩), .pointer (some ⟨K, 0, none⟩)] w fun e w' => e = .returned (.tuple #[]) ∧ w' = w := by
  have H : Hid (DocAt w b o c rs d) := hd
  clear hd
  go_enter Try.func64, Try.ntmps64
  go_wp2_with fail
  refine wp_loop_rounds 2 ?_
  rw [rounds_succ]
  go_wp2_with (go_at_call 37; refine (dis_any H.out _ _).mono ?_; rintro e w' ⟨rfl, hww⟩; subst hww; rw [hn])
  rw [rounds_succ]
  go_wp2_with fail
  go_end0
  exact ⟨rfl, rfl⟩
set_option maxHeartbeats 1600000 in
set_option maxRecDepth 100000 in
theorem dall_no {w : World} {b o c : Nat} {rs : List Raw} {d : Tn.Dc} (hd : DocAt w b o c rs d) (n : Int) (hn : Tn.isN d n false = false) :
    Calls Try.prog 42 #[.slice (some ⟨b, o, none⟩) rs.length c, .int .i64 n] w fun e w' => e = .returned (.slice none 0 0) ∧ Below w.heap.size w w' := by
  have hst : ∀ (W : World) (a : Addr) (fn : Fn) (x y : Array Value), Sem.run Try.prog (store a (.func fn x y)) W = stored Try.prog W a (.func fn x y) .plain := fun W a fn x y => run_store Try.prog W a (.func fn x y) .plain rfl
  obtain ⟨WW, hWW⟩ : ∃ WW : World, WW = ((((w.alloc (.cells #[.slice (some ⟨b, o, none⟩) rs.length c] 24)).alloc (.cells #[.slice none 0 0] 33)).alloc (.cells #[.func (.func 64) #[] #[.pointer (some ⟨w.heap.size, 0, none⟩), .pointer (some ⟨w.heap.size + 1, 0, none⟩), .pointer (some ⟨w.heap.size + 1 + 1, 0, none⟩)]] 79)).alloc (.cells #[.int .i64 n] 3)) := ⟨_, rfl⟩
  have hB : Below w.heap.size w WW := by
    rw [hWW]
    exact ((((Below.refl w.heap.size w).alloc (Nat.le_refl _) _).alloc (by simp) _).alloc (by simp; omega) _).alloc (by simp; omega) _
  have hC : Calls Try.prog 64 #[.slice (some ⟨w.heap.size + 1 + 1 + 1, 0, none⟩) 1 1, .pointer (some ⟨w.heap.size, 0, none⟩), .pointer (some ⟨w.heap.size + 1, 0, none⟩), .pointer (some ⟨w.heap.size + 1 + 1, 0, none⟩)] WW fun e w' => e = .returned (.tuple #[]) ∧ Below w.heap.size w w' ∧ w'.cell? ⟨w.heap.size + 1, 0, none⟩ = some (.slice none 0 0) := by
    have hd4 := hd.keeps (keeps_below hB (Nat.le_refl _))
    have q : WW.heap[w.heap.size]? = some (.cells #[.slice (some ⟨b, o, none⟩) rs.length c] 24 (0, 0)) ∧ WW.heap[w.heap.size + 1]? = some (.cells #[.slice none 0 0] 33 (0, 0)) ∧ WW.heap[w.heap.size + 1 + 1 + 1]? = some (.cells #[.int .i64 n] 3 (0, 0)) := by
      rw [hWW]
      clear hWW hB hd4 hst hd hn
      have z1 : (w.alloc (.cells #[.slice (some ⟨b, o, none⟩) rs.length c] 24)).heap.size = w.heap.size + 1 := by simp
      have b1 := heap_alloc_new w (.cells #[.slice (some ⟨b, o, none⟩) rs.length c] 24)
      generalize w.alloc (.cells #[.slice (some ⟨b, o, none⟩) rs.length c] 24) = w1 at *
      have z2 : (w1.alloc (.cells #[.slice none 0 0] 33)).heap.size = w.heap.size + 1 + 1 := by simp [z1]
      have b2 := blk_new w1 (.cells #[.slice none 0 0] 33) z1
      have b12 := blk_alloc b1 (.cells #[.slice none 0 0] 33)
      generalize w1.alloc (.cells #[.slice none 0 0] 33) = w2 at *
      generalize (Obj.cells #[.func (.func 64) #[] #[.pointer (some ⟨w.heap.size, 0, none⟩), .pointer (some ⟨w.heap.size + 1, 0, none⟩), .pointer (some ⟨w.heap.size + 1 + 1, 0, none⟩)]] 79) = o3
      have z3 : (w2.alloc o3).heap.size = w.heap.size + 1 + 1 + 1 := by simp [z2]
      have b23 := blk_alloc b2 o3
      have b13 := blk_alloc b12 o3
      generalize w2.alloc o3 = w3 at *
      exact ⟨blk_alloc b13 _, blk_alloc b23 _, blk_new w3 _ z3⟩
    refine (dall1_no (X := w.heap.size + 1 + 1 + 1) (D := w.heap.size) (A := w.heap.size + 1) (K := w.heap.size + 1 + 1) hd4 n hn ?_ ?_).mono ?_
    · simp [World.cell?, q.1]
    · simp [World.cell?, q.2.2]
    · rintro e w' ⟨e1, e2⟩
      refine ⟨e1, by rw [e2]; exact hB, ?_⟩
      rw [e2]
      simp [World.cell?, q.2.1]
  rw [hWW] at hC
  clear hd hWW hB
  go_enter Try.func42, Try.ntmps42
  go_wp2_with (go_at_call 64; refine hC.mono ?_; rintro e w9 ⟨rfl, hb9, hc9⟩)
  go_ret
  exact ⟨rfl, hb9⟩

theorem hit_eq (d : Tn.Dc) (id : ByteArray) (sc : Int) (k : Nat) (h0 : id.toList.isEmpty = false) : hitD d id sc k = (((valN d (k : Int) idT).toList == id.toList) && (scopeD d (k : Int) == sc)) := by
  have e : attrN d (k : Int) idT = idOf d k := by unfold attrN idOf; rw [Int.toNat_natCast]
  unfold hitD valN
  rw [e]
  cases idOf d k with
  | some x => rfl
  | none =>
    have e2 : (Option.getD none (⟨#[]⟩ : ByteArray)).toList = [] := by rw [ByteArray.toList_eq]; rfl
    rw [e2]
    have : (([] : List UInt8) == id.toList) = false := by
      cases hq : id.toList with
      | nil => rw [hq] at h0; cases h0
      | cons a b => rfl
    rw [this]
    rfl

theorem find_take {p : Nat → Bool} {l : List Nat} {j : Nat} (hj : j < l.length) (hp : p l[j] = true) (hn : ∀ k ∈ l.take j, p k = false) : l.find? p = some l[j] := by
  rw [List.find?_eq_some_iff_getElem]
  refine ⟨hp, j, hj, rfl, fun i hi => ?_⟩
  have := hn l[i] (List.mem_take_iff_getElem.mpr ⟨i, by omega, rfl⟩)
  simp [this]
theorem find_none {p : Nat → Bool} {l : List Nat} (hn : ∀ k ∈ l, p k = false) : l.find? p = none := by
  rw [List.find?_eq_none]
  intro x hx
  simp [hn x hx]

set_option maxHeartbeats 1600000 in
set_option maxRecDepth 100000 in
theorem rfind_any {w : World} {b o c : Nat} {rs : List Raw} {d : Tn.Dc} (hd : DocAt w b o c rs d) (hf : Fine d) (n : Int) (id : ByteArray) :
    Calls Try.prog 24 #[.slice (some ⟨b, o, none⟩) rs.length c, .int .i64 n, .string id] w fun e w' => e = .returned (.int .i64 (findD d n id)) ∧ Below w.heap.size w w' := by
  have H : Hid (DocAt w b o c rs d) := hd
  have HF : Hid (Fine d) := hf
  obtain ⟨r, hr, _⟩ := hf.good.tr
  have hlv : Tn.lvD d 0 = true := hr.1.root
  have HA := rall_own (fun f n => few_of hf.good f n) Tn.fuel 0 w hd ((tame_good hf.good).ends 0 hlv)
  have HAll : Hid (Calls Try.prog 46 #[.slice (some ⟨b, o, none⟩) rs.length c, .int .i64 0] w fun e w' => ∃ v, e = .returned v ∧ OwnI w' w.heap.size v (Tn.all Tn.fuel d 0) ∧ Below w.heap.size w w') := HA
  clear HA hd hf hr hlv
  cases he : id.toList.isEmpty with
  | true =>
    have E : Hid (findD d n id = -1) := by show _ = _; unfold findD; rw [if_pos (Or.inl he)]
    go_enter Try.func24, Try.ntmps24
    go_wp2_with fail
    go_ret
    exact ⟨by rw [E.out]; rfl, Below.refl _ _⟩
  | false =>
    cases hi : Tn.isN d n false with
    | false =>
      have E : Hid (findD d n id = -1) := by show _ = _; unfold findD; rw [if_pos (Or.inr hi)]
      go_enter Try.func24, Try.ntmps24
      go_wp2_with (go_at_call 34; refine (ris_any H.out _ _).mono ?_; rintro e w' ⟨rfl, hww⟩; subst hww; rw [hi])
      go_ret
      exact ⟨by rw [E.out]; rfl, Below.refl _ _⟩
    | true =>
      have E : Hid (findD d n id = match (Tn.all Tn.fuel d 0).find? (hitD d id (scopeD d n)) with | some k => (k : Int) | none => -1) := by
        show _ = _
        unfold findD
        rw [if_neg (by rw [he, hi]; simp)]
        cases (Tn.all Tn.fuel d 0).find? (hitD d id (scopeD d n)) <;> rfl
      have HHit : Hid (∀ k, hitD d id (scopeD d n) k = (((valN d (k : Int) idT).toList == id.toList) && (scopeD d (k : Int) == scopeD d n))) := fun k => hit_eq d id _ k he
      have HS : Hid (∀ (W : World) (k : Int), DocAt W b o c rs d → Calls Try.prog 47 #[.slice (some ⟨b, o, none⟩) rs.length c, .int .i64 k] W fun e w' => e = .returned (.int .i64 (scopeD d k)) ∧ Below W.heap.size W w') := fun W k h => rscope_any h HF.out k
      have HT : Hid (∀ (W : World) (k : Int), DocAt W b o c rs d → Calls Try.prog 22 #[.slice (some ⟨b, o, none⟩) rs.length c, .int .i64 k, .string ⟨#[105, 100]⟩] W fun e w' => e = .returned (.tuple #[.string (valN d k idT), .bool (attrN d k idT).isSome]) ∧ Below W.heap.size W w') := fun W k h => rattr_all h k idT
      generalize findD d n id = res at *
      generalize hitD d id (scopeD d n) = hit at *
      generalize Tn.all Tn.fuel d 0 = l at *
      go_enter Try.func24, Try.ntmps24
      go_wp2_with (first
        | (go_at_call 34; refine (ris_any H.out _ _).mono ?_; rintro e w' ⟨rfl, hww⟩; subst hww; rw [hi])
        | (go_at_call 46; refine HAll.out.mono ?_; rintro e w1 ⟨v, rfl, hown, hb⟩; obtain ⟨p, cc, rfl, hz1, hz2, _, hat⟩ := (ints_of_owns hown).at))
      have T : Hid (∀ j (hj : j < l.length), ∃ b o, p = some ⟨b, o, none⟩ ∧ w1.cell? ⟨b, o + j, none⟩ = some (.int .i64 (l[j] : Int))) := hat
      have D1 : Hid (DocAt w1 b o c rs d) := H.out.keeps (keeps_below hb (Nat.le_refl _))
      clear hat hown H
      have hlc : l.length ≤ 9223372036854775807 := by omega
      go_loopw [22] (fun iv wr => ∃ j : Nat, j ≤ l.length ∧ iv = .int .i64 j ∧ Hid (∀ k ∈ l.take j, hit k = false) ∧ Below w1.heap.size w1 wr) (fun i _ => l.length - (intOf i).toNat)
      case atStart => exact ⟨0, Nat.zero_le _, rfl, fun k hk => by simp at hk, Below.refl _ _⟩
      case round =>
        obtain ⟨j, hj, rfl, NO, hbr⟩ := hrel
        by_cases hlt : j < l.length
        · obtain ⟨b1, o1, rfl, k0⟩ := T.out j hlt
          have y0 := keeps_below hbr (Nat.le_refl _) _ _ k0
          have Dr : Hid (DocAt wr b o c rs d) := D1.out.keeps (keeps_below hbr (Nat.le_refl _))
          have hh := HHit.out l[j]
          have NX : Hid (hit l[j] = false → ∀ k ∈ l.take (j + 1), hit k = false) := by
            intro hf k hk
            rw [List.take_succ_eq_append_getElem hlt, List.mem_append, List.mem_singleton] at hk
            rcases hk with hk | rfl
            · exact NO.out k hk
            · exact hf
          have FX : Hid (hit l[j] = true → res = (l[j] : Int)) := by
            intro hf
            rw [E.out, find_take hlt hf NO.out]
          clear k0
          generalize hlj : l[j] = k at *
          clear hlj
          have HT1 : Hid (Calls Try.prog 22 #[.slice (some ⟨b, o, none⟩) rs.length c, .int .i64 (k : Int), .string ⟨#[105, 100]⟩] wr fun e w' => e = .returned (.tuple #[.string (valN d (k : Int) idT), .bool (attrN d (k : Int) idT).isSome]) ∧ Below wr.heap.size wr w') := HT.out wr (k : Int) Dr.out
          cases hq : ((valN d (k : Int) idT).toList == id.toList) with
          | false =>
            rw [hq] at hh
            have hf : hit k = false := hh
            generalize valN d (k : Int) idT = vv at *
            generalize (attrN d (k : Int) idT).isSome = va at *
            clear hh
            go_wp2_with fail
            refine HT1.out.mono ?_
            rintro e w2 ⟨rfl, hb2⟩
            go_wp2_with fail
            go_roundw
            case rel => exact ⟨j + 1, by omega, by go_num, NX.out hf, hbr.trans (hb2.mono hbr.size)⟩
            case measure => simp [intOf]; omega
          | true =>
            rw [hq] at hh
            have hf : hit k = (scopeD d (k : Int) == scopeD d n) := by simpa using hh
            clear hh
            generalize valN d (k : Int) idT = vv at *
            generalize (attrN d (k : Int) idT).isSome = va at *
            go_wp2_with fail
            refine HT1.out.mono ?_
            rintro e w2 ⟨rfl, hb2⟩
            have D2 : Hid (DocAt w2 b o c rs d) := Dr.out.keeps (keeps_below hb2 (Nat.le_refl _))
            go_wp2_with fail
            refine (HS.out w2 (k : Int) D2.out).mono ?_
            rintro e w3 ⟨rfl, hb3⟩
            have D3 : Hid (DocAt w3 b o c rs d) := D2.out.keeps (keeps_below hb3 (Nat.le_refl _))
            go_wp2_with fail
            refine (HS.out w3 n D3.out).mono ?_
            rintro e w4 ⟨rfl, hb4⟩
            have B2 := hbr.trans (hb2.mono hbr.size)
            have B3 := B2.trans (hb3.mono B2.size)
            have B4 : Hid (Below w1.heap.size w1 w4) := B3.trans (hb4.mono B3.size)
            clear B2 B3 hb2 hb3 hb4 hbr D2 D3 HT1
            cases hsc : (scopeD d (k : Int) == scopeD d n) with
            | true =>
              rw [hsc] at hf
              generalize scopeD d (k : Int) = s1 at *
              generalize scopeD d n = s2 at *
              have R : Hid (res = (k : Int)) := FX.out hf
              go_wp2_with fail
              go_ret
              exact ⟨by rw [R.out]; rfl, hb.trans (B4.out.mono hb.size)⟩
            | false =>
              rw [hsc] at hf
              generalize scopeD d (k : Int) = s1 at *
              generalize scopeD d n = s2 at *
              go_wp2_with fail
              go_roundw
              case rel => exact ⟨j + 1, by omega, by go_num, NX.out hf, B4.out⟩
              case measure => simp [intOf]; omega
        · obtain rfl : j = l.length := by omega
          have R : Hid (res = -1) := by
            show _ = _
            rw [E.out, find_none (fun k hk => NO.out k (by rw [List.take_length]; exact hk))]
          go_wp2_with fail
          go_ret
          exact ⟨by rw [R.out]; rfl, hb.trans (hbr.mono hb.size)⟩
end Go.Proofs.Ytdjghddcpfikhac

/-
  CLAIMS in memory: how a slice of them reads, one of the call's own, append.
-/
namespace Go.Proofs.Ytdjghddcpfikhac
open Go.RowKit

theorem infoC : (Try.prog.info? 29).map (fun i => (i.zero, i.size, i.bytes)) = some (some (.agg #[.int .i64 0, .int .i64 0]), 2, 16) := by kernel_rfl

def cv (c : Cl) : List Value := [iv c.1, iv c.2]
theorem cv_len (c : Cl) : (cv c).length = 2 := rfl

def ClsAt (w : World) (v : Value) (l : List Cl) : Prop := CellsAt w v l.length (l.flatMap cv)
theorem ClsAt.keeps {w w' : World} {v : Value} {l : List Cl} (h : ClsAt w v l) (k : Keeps w w') : ClsAt w' v l := CellsAt.keeps h k
theorem cls_nil (w : World) : ClsAt w (.slice none 0 0) [] := ⟨none, 0, rfl, Nat.le_refl _, by decide, Or.inl ⟨rfl, rfl⟩, fun j x h => by simp at h⟩

theorem ClsAt.at {w : World} {v : Value} {l : List Cl} (h : ClsAt w v l) : ∃ p c, v = .slice p l.length c ∧ l.length ≤ c ∧ c ≤ 9223372036854775807 ∧ ((p = none ∧ c = 0) ∨ ∃ b o, p = some ⟨b, o, none⟩) ∧
    ∀ j (hj : j < l.length), ∃ b o, p = some ⟨b, o, none⟩ ∧ w.cell? ⟨b, o + j * 2, none⟩ = some (.int .i64 (l[j].1 : Int)) ∧ w.cell? ⟨b, o + j * 2 + 1, none⟩ = some (.int .i64 (l[j].2 : Int)) := by
  obtain ⟨p, c, e, h1, h2, h3, h4⟩ := h
  refine ⟨p, c, e, h1, by unfold maxLen at h2; omega, h3, fun j hj => ?_⟩
  obtain ⟨b, o, e1, e2⟩ := h4 (j * 2 + 0) (iv l[j].1) (by rw [flat_at cv 2 cv_len l j 0 (by decide), List.getElem?_eq_getElem hj]; rfl)
  obtain ⟨b', o', e3, e4⟩ := h4 (j * 2 + 1) (iv l[j].2) (by rw [flat_at cv 2 cv_len l j 1 (by decide), List.getElem?_eq_getElem hj]; rfl)
  rw [e1] at e3
  cases e3
  exact ⟨b, o, e1, e2, by rw [Nat.add_assoc]; exact e4⟩

/-- a row of claims of the call's own -/
def OwnC (w : World) (B : Nat) (v : Value) (l : List Cl) : Prop := w.ownsRow B 29 2 v l.length (l.flatMap cv)
theorem OwnC.nil (w : World) (B : Nat) : OwnC w B (.slice none 0 0) [] := World.ownsRow_nil _ _ _ _
theorem OwnC.shape {w : World} {B : Nat} {v : Value} {l : List Cl} (h : OwnC w B v l) : ∃ p c, v = .slice p l.length c := owns_shape h
theorem OwnC.alloc {w : World} {B : Nat} {v : Value} {l : List Cl} (h : OwnC w B v l) (o : Obj) : OwnC (w.alloc o) B v l := World.ownsRow.alloc h o
theorem cls_of_owns {w : World} {B : Nat} {v : Value} {l : List Cl} (h : OwnC w B v l) : ClsAt w v l := cells_of_owns h
theorem OwnC.below {w w' : World} {B C : Nat} {v : Value} {l : List Cl} (h : OwnC w B v l) (hb : Below C w w') (hC : w.heap.size ≤ C) : OwnC w' B v l := by
  obtain ⟨hl, hz⟩ := h
  refine ⟨hl, ?_⟩
  rcases hz with h5 | ⟨g, cap, cur, e, h3, h6, h7⟩
  · exact Or.inl h5
  · refine Or.inr ⟨g, cap, cur, e, h3, ?_, h7⟩
    have hlt : g < w.heap.size := by
      apply Classical.byContradiction
      intro hn
      rw [Array.getElem?_eq_none (by omega)] at h6
      cases h6
    rw [hb.block g (by omega)]
    exact h6
theorem OwnC.set {w : World} {B : Nat} {v : Value} {l : List Cl} (h : OwnC w B v l) (p : Addr) (u : Value) (hp : p.block < B) : OwnC (w.setCell p u) B v l := by
  obtain ⟨hl, hz⟩ := h
  refine ⟨hl, ?_⟩
  rcases hz with h5 | ⟨g, cap, cur, e, h3, h6, h7⟩
  · exact Or.inl h5
  · refine Or.inr ⟨g, cap, cur, e, h3, ?_, h7⟩
    rw [heap_setCell_other _ _ _ _ (by omega)]
    exact h6

theorem OwnC.mono {w : World} {B C : Nat} {v : Value} {l : List Cl} (h : OwnC w B v l) (hc : C ≤ B) : OwnC w C v l := by
  obtain ⟨hl, hz⟩ := h
  refine ⟨hl, ?_⟩
  rcases hz with h5 | ⟨g, cap, cur, e, h3, h6⟩
  · exact Or.inl h5
  · exact Or.inr ⟨g, cap, cur, e, Nat.le_trans hc h3, h6⟩
/-- a row that lies above all that was written is as it was -/
theorem Mv.owns {A : Nat} {r r' : Option Nat} {w w' : World} (h : Mv A r r' w w') {C e k n : Nat} {v : Value} {xs : List Value} (ho : w.ownsRow C e k v n xs) (hA : A < C) (hr : ∀ q, r = some q → q < C) : w'.ownsRow C e k v n xs := by
  have hlt := ho.lt
  obtain ⟨hl, hz⟩ := ho
  refine ⟨hl, ?_⟩
  rcases hz with h5 | ⟨g, cap, cur, rfl, h3, h6, h7⟩
  · exact Or.inl h5
  · refine Or.inr ⟨g, cap, cur, rfl, h3, ?_, h7⟩
    rw [h.block g (hlt g rfl).2 (by omega) (fun e => by have := hr g e.symm; omega)]
    exact h6

theorem Mv.owns2 {A : Nat} {r r' : Option Nat} {w w' : World} (h : Mv A r r' w w') {C e k n : Nat} {v : Value} {xs : List Value} (ho : w.ownsRow C e k v n xs) (hA : w.heap.size ≤ A) (hr : ∀ q, r = some q → q < C) : w'.ownsRow C e k v n xs := by
  have hlt := ho.lt
  obtain ⟨hl, hz⟩ := ho
  refine ⟨hl, ?_⟩
  rcases hz with h5 | ⟨g, cap, cur, rfl, h3, h6, h7⟩
  · exact Or.inl h5
  · refine Or.inr ⟨g, cap, cur, rfl, h3, ?_, h7⟩
    rw [h.block g (hlt g rfl).2 (by have := (hlt g rfl).2; omega) (fun e => by have := hr g e.symm; omega)]
    exact h6
theorem But.owns {A B : Nat} {w w' : World} (h : But B A w w') (hB : w.heap.size ≤ B) {C e k n : Nat} {v : Value} {xs : List Value} (ho : w.ownsRow C e k v n xs) (hA : A < C) : w'.ownsRow C e k v n xs := by
  have hlt := ho.lt
  obtain ⟨hl, hz⟩ := ho
  refine ⟨hl, ?_⟩
  rcases hz with h5 | ⟨g, cap, cur, rfl, h3, h6, h7⟩
  · exact Or.inl h5
  · refine Or.inr ⟨g, cap, cur, rfl, h3, ?_, h7⟩
    rw [h.block g (by have := (hlt g rfl).2; omega) (by omega)]
    exact h6
theorem owns_below {w w' : World} {C e k n : Nat} {v : Value} {xs : List Value} (ho : w.ownsRow C e k v n xs) (h : Below w.heap.size w w') : w'.ownsRow C e k v n xs := by
  have hlt := ho.lt
  obtain ⟨hl, hz⟩ := ho
  refine ⟨hl, ?_⟩
  rcases hz with h5 | ⟨g, cap, cur, rfl, h3, h6, h7⟩
  · exact Or.inl h5
  · refine Or.inr ⟨g, cap, cur, rfl, h3, ?_, h7⟩
    rw [h.block g (hlt g rfl).2]
    exact h6

/-- append, and where what comes of it lies -/
theorem append_claim2 {w0 wr : World} {ops : Array Oper} {rest : List Oper} {o : Oper} {a : Act} {Q : Exit → Act → World → Prop} (hgd : o.guard = none)
    (s x : Operand) (ho : o.op = Op.call { callee := Callee.builtin Builtin.append, args := #[s, x], argTypes := #[26, 26] }) {B : Nat} {v : Value} {l : List Cl} (n k : Nat)
    (hs : a.eval s = v) (hx : a.eval x = .slice (some ⟨wr.heap.size, 0, none⟩) 1 1) (hown : OwnC wr B v l) (hnx : Below B w0 wr) (hB : B ≤ wr.heap.size) (hsz : l.length ≤ 1000000000)
    (h : ∀ v' w1, OwnC w1 B v' (l ++ [(n, k)]) → Below B w0 w1 → wr.grownBy w1 v.ownBlock → (v'.ownBlock = v.ownBlock ∨ ∃ g, wr.heap.size ≤ g ∧ v'.ownBlock = some g) → wpList Try.prog ops Q rest (a.put o.dst v') w1) :
    wpList Try.prog ops Q (o :: rest) a (wr.alloc (.cells #[.int .i64 (n : Int), .int .i64 (k : Int)] 29)) := by
  obtain ⟨i0, hi, hz0, hz1, hz2⟩ := info_parts infoC
  unfold OwnC at hown h
  have hown' := hown.alloc (.cells #[.int .i64 (n : Int), .int .i64 (k : Int)] 29)
  have hnews : ∀ (j : Nat) (u : Value), ([iv n, iv k] : List Value)[j]? = some u → (wr.alloc (.cells #[.int .i64 (n : Int), .int .i64 (k : Int)] 29)).cell? ((⟨wr.heap.size, 0, none⟩ : Addr).add j) = some u := by
    intro j y hy
    rw [add_at, Nat.zero_add, World.cell?_alloc_new]
    rw [← hy]
    simp [iv]
  have h1 : ∀ u ∈ ([iv n, iv k] : List Value), u.oneCell' = true := by intro y hy; simp at hy; rcases hy with rfl | rfl <;> rfl
  have hzs : (i0.size : Nat) = 2 := hz1
  refine wpList_plain hgd fun K hK => ?_
  obtain ⟨v', w', hr, h2, h3, _⟩ := run_append_own (P := Try.prog) (wr.alloc (.cells #[.int .i64 (n : Int), .int .i64 (k : Int)] 29)) B 26 o.type 29 i0 (.agg #[.int .i64 0, .int .i64 0]) 2 16 Try.underlying26 hi hz0 hz1 hz2 rfl (by decide) v _ _ hown' ⟨_, 0, none⟩ 1 1 [iv n, iv k] rfl hnews h1 (by unfold maxLen; omega) (by omega) (by simp; omega)
  have hn := (hnx.alloc hB (.cells #[.int .i64 (n : Int), .int .i64 (k : Int)] 29)).grown h3 (by simp; omega) (fun j hj => (hown.lt j hj).1)
  have hg2 : wr.grownBy w' v.ownBlock := by
    have h4 := World.grownBy_alloc wr (.cells #[.int .i64 (n : Int), .int .i64 (k : Int)] 29) v.ownBlock
    exact ⟨h3.os.trans h4.os, h3.tape.trans h4.tape, h3.output.trans h4.output, Nat.le_trans h4.size h3.size, fun q hq hr' => (h3.block q (Nat.lt_of_lt_of_le hq h4.size) hr').trans (h4.block q hq hr')⟩
  have hblk : v'.ownBlock = v.ownBlock ∨ ∃ g, wr.heap.size ≤ g ∧ v'.ownBlock = some g := by
    rcases hown'.2 with ⟨rfl, hn0⟩ | ⟨g, cap, cur, rfl, hbg, hg, hnc, hcm, hcs, htake⟩
    · have hr2 := run_append_nil (P := Try.prog) (wr.alloc (.cells #[.int .i64 (n : Int), .int .i64 (k : Int)] 29)) 26 o.type 29 i0 (.agg #[.int .i64 0, .int .i64 0]) Try.underlying26 hi hz0 ⟨wr.heap.size, 0, none⟩ 1 1 [iv n, iv k] (by rw [hzs]; rfl) hnews (by decide) (by decide) (by rw [hz2]; decide)
      rw [hr2] at hr
      injection hr with e1 e2
      right
      refine ⟨wr.heap.size + 1, by omega, ?_⟩
      rw [← e1]
      simp [Value.ownBlock]
    · by_cases hroom : l.length + 1 ≤ cap
      · have hr2 := run_append_room (P := Try.prog) (wr.alloc (.cells #[.int .i64 (n : Int), .int .i64 (k : Int)] 29)) 26 o.type 29 i0 Try.underlying26 hi g l.length cap cur hg ⟨wr.heap.size, 0, none⟩ 1 1 [iv n, iv k] (by rw [hzs]; rfl) hnews h1 hroom (by rw [hzs, hcs]; simp; omega)
        rw [hr2] at hr
        injection hr with e1 e2
        left
        rw [← e1]
        rfl
      · have hr2 := run_append_grow (P := Try.prog) (wr.alloc (.cells #[.int .i64 (n : Int), .int .i64 (k : Int)] 29)) 26 o.type 29 i0 (.agg #[.int .i64 0, .int .i64 0]) Try.underlying26 hi hz0 ⟨g, 0, none⟩ l.length cap _ (by rw [hzs]; exact hown'.1) (World.ownsRow.cells hown' (g := g) rfl) ⟨wr.heap.size, 0, none⟩ 1 1 [iv n, iv k] (by rw [hzs]; rfl) hnews (by omega) (by omega) (growslice_fits (by omega) (by rw [hz2]; omega))
        rw [hr2] at hr
        injection hr with e1 e2
        right
        refine ⟨wr.heap.size + 1, by omega, ?_⟩
        rw [← e1]
        simp [Value.ownBlock]
  unfold Oper.wp execOp
  simp only [ho, resolve, invoke, builtin, Sem.run_bind, Sem.run_pure, Result.andThen_ok, List.map_toArray, List.map_cons, List.map_nil, hs, hx, hr]
  exact hK _ _ (h v' w' (by simpa [cv] using h2) hn hg2 hblk)

/-- a document, and how long its values may be -/
structure Dx (w : World) (b o c : Nat) (rs : List Raw) (d : Tn.Dc) : Prop where
  doc : DocAt w b o c rs d
  fine : Fine d
  vn : ∀ j, Vn (Tn.nd d j)
theorem Dx.keeps {w w' : World} {b o c : Nat} {rs : List Raw} {d : Tn.Dc} (h : Dx w b o c rs d) (hk : Keeps w w') : Dx w' b o c rs d := ⟨h.doc.keeps hk, h.fine, h.vn⟩
theorem Dx.below {w w' : World} {b o c : Nat} {rs : List Raw} {d : Tn.Dc} (h : Dx w b o c rs d) (hb : Below w.heap.size w w') : Dx w' b o c rs d := h.keeps (keeps_below hb (Nat.le_refl _))
theorem dx_build {w : World} {b o c : Nat} {rs : List Raw} {l : List Tn.Chg} (h : DocAt w b o c rs (Tn.build l)) (hl : ∀ x ∈ l, x.value.size ≤ 4194304 ∧ x.name.size ≤ 4194304) : Dx w b o c rs (Tn.build l) := ⟨h, build_fine l, build_vn hl⟩
end Go.Proofs.Ytdjghddcpfikhac

/-
  PLAIN MATHEMATICS: what tnlaw6's ahead tells; lists of claims, step by step.
-/
namespace Go.Proofs.Ytdjghddcpfikhac
open Tn

def askT (d : Dc) (n : Nat) (t : List UInt8) : Int := findD d (n : Int) (Tx.bs t)
theorem asks_toks (d : Dc) (n : Nat) : asksD d n = (Wd.toksOf (valN d (n : Int) ⟨#[97, 114, 105, 97, 45, 111, 119, 110, 115]⟩)).map (askT d n) := rfl

theorem idx_here {α : Type} [BEq α] [LawfulBEq α] {l : List α} {x : α} {j : Nat} (hj : j < l.length) (he : l[j] = x) (hn : ∀ y ∈ l.take j, y ≠ x) : l.idxOf x = j := by
  induction l generalizing j with
  | nil => simp at hj
  | cons a l ih =>
    cases j with
    | zero =>
      have : a = x := he
      rw [this, List.idxOf_cons_self]
    | succ j =>
      have ha : a ≠ x := hn a (by simp)
      rw [List.idxOf_cons, beq_eq_false_iff_ne.mpr ha]
      simp only [cond_false]
      rw [ih (j := j) (by simpa using hj) (by simpa using he) (fun y hy => hn y (by simp [hy]))]
theorem idx_off {α : Type} [BEq α] [LawfulBEq α] {l : List α} {x : α} (hn : ∀ y ∈ l, y ≠ x) : l.idxOf x = l.length := List.idxOf_eq_length (fun h => hn x h rfl)

/-- claims of m, of a list's first so many -/
theorem take_filter {α : Type} (p : α → Bool) (l : List α) (j : Nat) (h : j < l.length) : (l.take (j + 1)).filter p = (l.take j).filter p ++ (if p l[j] then [l[j]] else []) := by
  rw [List.take_succ_eq_append_getElem h, List.filter_append]
  congr 1
  cases hp : p l[j] <;> simp [hp]

def byO (c : List Cl) (m : Nat) : List Cl := c.filter (fun x => decide (x.1 = m))
def byOK (c : List Cl) (n : Nat) (k : Int) : List Cl := c.filter (fun x => decide (x.1 = n) && decide ((x.2 : Int) = k))
theorem ahead_def (c : List Cl) (pre : List Nat) (n : Nat) (ws : List Int) : aheadD c pre n ws = pre.flatMap (byO c) ++ ws.flatMap (byOK c n) := rfl

theorem flat_le {α β : Type} (f : α → List β) (m : Nat) (hf : ∀ a, (f a).length ≤ m) : ∀ l : List α, (l.flatMap f).length ≤ l.length * m
  | [] => by simp
  | a :: l => by
    rw [List.flatMap_cons, List.length_append, List.length_cons, Nat.succ_mul]
    have := flat_le f m hf l
    have := hf a
    omega
theorem byO_le (c : List Cl) (m : Nat) : (byO c m).length ≤ c.length := List.length_filter_le _ _
theorem byOK_le (c : List Cl) (n : Nat) (k : Int) : (byOK c n k).length ≤ c.length := List.length_filter_le _ _

/-- tnlaw6's ahead -/
def aheadW (d : Dc) (sh : List Nat) (c : List Cl) (n : Nat) (t : List UInt8) : List Cl :=
  (sh.take (sh.idxOf n)).flatMap (byO c) ++ (((Wd.toksOf (valN d (n : Int) ⟨#[97, 114, 105, 97, 45, 111, 119, 110, 115]⟩)).take ((Wd.toksOf (valN d (n : Int) ⟨#[97, 114, 105, 97, 45, 111, 119, 110, 115]⟩)).idxOf t)).map (askT d n)).flatMap (byOK c n)

theorem first_law {d : Dc} (h : Fine d) {i : Nat} (hi : i < (shD d).length) {q : Nat} (hq : q < (Wd.toksOf (valN d ((shD d)[i] : Int) ⟨#[97, 114, 105, 97, 45, 111, 119, 110, 115]⟩)).length) {k : Nat}
    (hk : askT d (shD d)[i] (Wd.toksOf (valN d ((shD d)[i] : Int) ⟨#[97, 114, 105, 97, 45, 111, 119, 110, 115]⟩))[q] = (k : Int)) (h1 : 1 ≤ k) (hs : k ∈ shD d) (hno : ∀ c ∈ claimsD d, c.2 ≠ k) :
    seenD d (aheadW d (shD d) (claimsD d) (shD d)[i] (Wd.toksOf (valN d ((shD d)[i] : Int) ⟨#[97, 114, 105, 97, 45, 111, 119, 110, 115]⟩))[q]) (k : Int) (d.length + 1) ((shD d)[i] : Int) = true := by
  have hnd := sh_nodup h
  have e1 : (shD d).idxOf (shD d)[i] = i := List.Nodup.idxOf_getElem hnd i hi
  unfold aheadW
  rw [e1, List.map_take]
  have hm := List.getElem_mem hq
  have hlt := List.idxOf_lt_length_of_mem hm
  have hx := asks_toks d (shD d)[i]
  have he := List.getElem_idxOf hlt
  generalize hQ : (Wd.toksOf (valN d ((shD d)[i] : Int) ⟨#[97, 114, 105, 97, 45, 111, 119, 110, 115]⟩)).idxOf (Wd.toksOf (valN d ((shD d)[i] : Int) ⟨#[97, 114, 105, 97, 45, 111, 119, 110, 115]⟩))[q] = Q at *
  rw [← hx]
  refine first_in h hi (q := Q) (by rw [hx, List.length_map]; exact hlt) ?_ h1 hs hno
  simp only [hx, List.getElem_map]
  rw [he]
  exact hk

/-! ### the claims, turn by turn -/

def accD (d : Dc) (i : Nat) : List Cl := ((shD d).take i).foldl (claimN d) []
theorem acc_zero (d : Dc) : accD d 0 = [] := rfl
theorem acc_succ {d : Dc} {i : Nat} (hi : i < (shD d).length) : accD d (i + 1) = claimN d (accD d i) (shD d)[i] := by
  unfold accD
  rw [List.take_succ_eq_append_getElem hi, List.foldl_append]
  rfl
theorem acc_full (d : Dc) : accD d (shD d).length = claimsD d := by
  unfold accD claimsD
  rw [List.take_length]
theorem out_zero (d : Dc) (i n : Nat) : outD d i n 0 = accD d i := rfl
theorem out_succ {d : Dc} {i n q : Nat} (hq : q < (Wd.toksOf (valN d (n : Int) ⟨#[97, 114, 105, 97, 45, 111, 119, 110, 115]⟩)).length) : outD d i n (q + 1) = claim1 d n (outD d i n q) (askT d n (Wd.toksOf (valN d (n : Int) ⟨#[97, 114, 105, 97, 45, 111, 119, 110, 115]⟩))[q]) := by
  have hq2 : q < (asksD d n).length := by rw [asks_toks, List.length_map]; exact hq
  unfold outD
  rw [List.take_succ_eq_append_getElem hq2, List.foldl_append]
  simp [asks_toks]
theorem out_full (d : Dc) (i n : Nat) : outD d i n (Wd.toksOf (valN d (n : Int) ⟨#[97, 114, 105, 97, 45, 111, 119, 110, 115]⟩)).length = claimN d (accD d i) n := by
  have e : (asksD d n).take (Wd.toksOf (valN d (n : Int) ⟨#[97, 114, 105, 97, 45, 111, 119, 110, 115]⟩)).length = asksD d n := List.take_of_length_le (by rw [asks_toks, List.length_map]; exact Nat.le_refl _)
  unfold outD
  rw [e]
  rfl
theorem way_asks {d : Dc} {n : Nat} : ∀ (ks : List Int) (l : List Cl), wayD d (ks.foldl (claim1 d n) l) (n : Int) = wayD d l (n : Int)
  | [], _ => rfl
  | k :: ks, l => by rw [List.foldl_cons, way_asks ks, way_claim]
theorem way_out (d : Dc) (i n q : Nat) : wayD d (outD d i n q) (n : Int) = wayD d (accD d i) (n : Int) := way_asks _ _
def freeD (sh : List Nat) (l : List Cl) (k : Int) : Bool := decide (1 ≤ k) && sh.contains k.toNat && decide (ownerD l k < 0)
theorem takes_free (d : Dc) (i n q : Nat) (k : Int) : takes d (outD d i n q) n k = (freeD (shD d) (outD d i n q) k && !(wayD d (accD d i) (n : Int)).contains k.toNat) := by
  unfold takes freeD
  rw [way_out]
theorem free_nat {sh : List Nat} {l : List Cl} {k : Int} (h : freeD sh l k = true) : ∃ m : Nat, k = (m : Int) := by
  unfold freeD at h
  simp at h
  exact ⟨k.toNat, by omega⟩
theorem claim_yes {d : Dc} {n : Nat} {l : List Cl} {k : Nat} (h : takes d l n (k : Int) = true) : claim1 d n l (k : Int) = l ++ [(n, k)] := by
  unfold claim1
  rw [if_pos h, Int.toNat_natCast]
theorem claim_no {d : Dc} {n : Nat} {l : List Cl} {k : Int} (h : takes d l n k = false) : claim1 d n l k = l := by
  unfold claim1
  rw [if_neg (by simp [h])]
theorem acc_few {d : Dc} (h : Fine d) (i : Nat) : (accD d i).length ≤ 60 := forest_few h (forest_at h i)
theorem out_few {d : Dc} (h : Fine d) {i : Nat} (hi : i < (shD d).length) (q : Nat) : (outD d i (shD d)[i] q).length ≤ 60 := forest_few h (forest_out h hi q)
end Go.Proofs.Ytdjghddcpfikhac

/-
  THE WALKS of owns.Owner and owns.Up, and of the reference's Owner and In.
-/
namespace Go.Proofs.Ytdjghddcpfikhac
open Go.RowKit

theorem find_first {α : Type} {p : α → Bool} {l : List α} {j : Nat} (hj : j < l.length) (hp : p l[j] = true) (hn : ∀ k ∈ l.take j, p k = false) : l.find? p = some l[j] := by
  have e : l = l.take j ++ l[j] :: l.drop (j + 1) := by rw [← List.drop_eq_getElem_cons hj, List.take_append_drop]
  have e1 : (l.take j).find? p = none := List.find?_eq_none.mpr (fun x hx => by simp [hn x hx])
  conv => lhs; rw [e]
  rw [List.find?_append, e1, Option.none_or, List.find?_cons, hp]

theorem owner_at {l : List Cl} {n : Int} {j : Nat} (hj : j < l.length) (he : (l[j].2 : Int) = n) (hn : ∀ c ∈ l.take j, (c.2 : Int) ≠ n) : ownerD l n = (l[j].1 : Int) := by
  unfold ownerD
  rw [find_first hj (by simpa using he) (fun c hc => by simpa using hn c hc)]

theorem notyet {l : List Cl} {n : Int} {j : Nat} (hj : j < l.length) (he : (l[j].2 : Int) ≠ n) (hn : ∀ c ∈ l.take j, (c.2 : Int) ≠ n) : ∀ c ∈ l.take (j + 1), (c.2 : Int) ≠ n := by
  intro c hc
  rw [List.take_succ_eq_append_getElem hj, List.mem_append, List.mem_singleton] at hc
  rcases hc with hc | rfl
  · exact hn c hc
  · exact he

set_option maxHeartbeats 800000 in
theorem owner1_any {w : World} {K : Nat} {n : Int} (hK : w.cell? ⟨K, 0, none⟩ = some (.int .i64 n)) (a b : Nat) :
    Calls Try.prog 27 #[.agg #[.int .i64 (a : Int), .int .i64 (b : Int)], .pointer (some ⟨K, 0, none⟩)] w fun e w' => e = .returned (.bool ((b : Int) == n)) ∧ Below w.heap.size w w' := by
  have hK2 := keeps_alloc w (.cells #[.int .i64 (a : Int), .int .i64 (b : Int)] 29) _ _ hK
  go_enter Try.func27, Try.ntmps27
  go_wp2_with fail
  go_ret
  exact ⟨by simp, (Below.refl _ _).alloc (Nat.le_refl _) _⟩

set_option maxHeartbeats 1600000 in
theorem idxC_any {w : World} {vl : Value} {l : List Cl} (hl : ClsAt w vl l) {K : Nat} {n : Int} (hK : w.cell? ⟨K, 0, none⟩ = some (.int .i64 n)) :
    Calls Try.prog 26 #[vl, .func (.func 27) #[] #[.pointer (some ⟨K, 0, none⟩)]] w fun e w' => (∃ i : Int, e = .returned (.int .i64 i) ∧ ((i = -1 ∧ ownerD l n = -1) ∨ ∃ j : Nat, ∃ hj : j < l.length, i = (j : Int) ∧ ownerD l n = (l[j].1 : Int))) ∧ Below w.heap.size w w' := by
  obtain ⟨q, cc, rfl, h1, h2, _, hat⟩ := hl.at
  have T : Hid (∀ j (hj : j < l.length), ∃ b o, q = some ⟨b, o, none⟩ ∧ w.cell? ⟨b, o + j * 2, none⟩ = some (.int .i64 (l[j].1 : Int)) ∧ w.cell? ⟨b, o + j * 2 + 1, none⟩ = some (.int .i64 (l[j].2 : Int))) := hat
  have HK : Hid (w.cell? ⟨K, 0, none⟩ = some (.int .i64 n)) := hK
  clear hat hl hK
  go_enter Try.func26, Try.ntmps26
  go_wp2_with fail
  go_loopw [8] (fun i wr => ∃ j : Nat, j ≤ l.length ∧ i = .int .i64 j ∧ Hid (∀ c ∈ l.take j, (c.2 : Int) ≠ n) ∧ Below w.heap.size w wr) (fun i _ => l.length - (intOf i).toNat)
  case atStart => exact ⟨0, Nat.zero_le _, rfl, fun k hk => by simp at hk, Below.refl _ _⟩
  case round =>
    obtain ⟨j, hj, rfl, NO, hnx⟩ := hrel
    by_cases hlt : j < l.length
    · obtain ⟨e1, o1, rfl, k1, k2⟩ := T.out j hlt
      have y1 := keeps_below hnx (Nat.le_refl _) _ _ k1
      have y2 := keeps_below hnx (Nat.le_refl _) _ _ k2
      clear k1 k2
      have hF := owner1_any (keeps_below hnx (Nat.le_refl _) _ _ HK.out) l[j].1 l[j].2
      have OA := fun he => owner_at (n := n) hlt he NO.out
      have ON := fun he => notyet (n := n) hlt he NO.out
      by_cases hh : (l[j].2 : Int) = n
      · have E : Hid (ownerD l n = (l[j].1 : Int)) := OA hh
        rw [show ((l[j].2 : Int) == n) = true by simpa using hh] at hF
        clear hh OA ON
        generalize hx : l[j].1 = x at *
        generalize l[j].2 = z at *
        go_wp2_with (go_at_call 27; refine hF.mono ?_; rintro e w9 ⟨rfl, hb9⟩)
        go_ret
        exact ⟨⟨_, rfl, Or.inr ⟨j, hlt, rfl, by rw [hx]; exact E.out⟩⟩, hnx.trans (hb9.mono hnx.size)⟩
      · have N2 : Hid (∀ c ∈ l.take (j + 1), (c.2 : Int) ≠ n) := ON hh
        rw [show ((l[j].2 : Int) == n) = false by simpa using hh] at hF
        clear hh OA ON
        generalize l[j].1 = x at *
        generalize l[j].2 = z at *
        go_wp2_with (go_at_call 27; refine hF.mono ?_; rintro e w9 ⟨rfl, hb9⟩)
        go_roundw
        case rel => exact ⟨j + 1, by omega, by go_num, N2, hnx.trans (hb9.mono hnx.size)⟩
        case measure => simp [intOf]; omega
    · obtain rfl : j = l.length := by omega
      have E : Hid (ownerD l n = -1) := owner_none (fun c hc => NO.out c (by rw [List.take_length]; exact hc))
      go_wp2_with fail
      go_ret
      exact ⟨⟨_, rfl, Or.inl ⟨rfl, E.out⟩⟩, hnx⟩

set_option maxHeartbeats 1600000 in
theorem vowner_any {w : World} {vl : Value} {l : List Cl} (hl : ClsAt w vl l) (n : Int) :
    Calls Try.prog 7 #[vl, .int .i64 n] w fun e w' => e = .returned (.int .i64 (ownerD l n)) ∧ Below w.heap.size w w' := by
  have B1 := (Below.refl w.heap.size w).alloc (Nat.le_refl _) (.cells #[.int .i64 n] 3)
  have hI := idxC_any (hl.keeps (keeps_alloc w (.cells #[.int .i64 n] 3))) (cell_box w (.int .i64 n) (t := 3))
  obtain ⟨q, cc, rfl, h1, h2, _, hat⟩ := (hl.keeps (keeps_alloc w (.cells #[.int .i64 n] 3))).at
  have T : Hid (∀ j (hj : j < l.length), ∃ b o, q = some ⟨b, o, none⟩ ∧ (w.alloc (.cells #[.int .i64 n] 3)).cell? ⟨b, o + j * 2, none⟩ = some (.int .i64 (l[j].1 : Int)) ∧ (w.alloc (.cells #[.int .i64 n] 3)).cell? ⟨b, o + j * 2 + 1, none⟩ = some (.int .i64 (l[j].2 : Int))) := hat
  clear hat hl
  go_enter Try.func7, Try.ntmps7
  go_upto_region 1 with fail
  generalize hG : w.heap.size = G at *
  generalize w.alloc (.cells #[.int .i64 n] 3) = w1 at *
  go_upto_region 2 with (go_at_call 26; refine hI.mono ?_; rintro e w9 ⟨⟨i, rfl, hi⟩, hb9⟩)
  rcases hi with ⟨rfl, hi⟩ | ⟨j, hj, rfl, hi⟩
  · have E : Hid (ownerD l n = -1) := hi
    clear hi
    go_wp2_with fail
    go_ret
    exact ⟨by rw [E.out]; rfl, by rw [hG]; exact B1.trans (hb9.mono (by have := B1.size; omega))⟩
  · have E : Hid (ownerD l n = (l[j].1 : Int)) := hi
    obtain ⟨e1, o1, rfl, k1, k2⟩ := T.out j hj
    have y1 := keeps_below hb9 (Nat.le_refl _) _ _ k1
    clear hi k1 k2
    generalize l[j].1 = x at *
    go_wp2_with fail
    go_ret
    exact ⟨by rw [E.out]; rfl, by rw [hG]; exact B1.trans (hb9.mono (by have := B1.size; omega))⟩

set_option maxHeartbeats 1600000 in
theorem vup_any {w : World} {b o c : Nat} {rs : List Raw} {d : Tn.Dc} (hd : DocAt w b o c rs d) (hg : Okd d) {vl : Value} {l : List Cl} (hl : ClsAt w vl l) (n : Int) :
    Calls Try.prog 9 #[.slice (some ⟨b, o, none⟩) rs.length c, vl, .int .i64 n] w fun e w' => e = .returned (.int .i64 (inD d l n)) ∧ Below w.heap.size w w' := by
  have hO := vowner_any hl n
  have hU : ∀ W, Below w.heap.size w W → Calls Try.prog 28 #[.slice (some ⟨b, o, none⟩) rs.length c, .int .i64 n] W fun e w' => e = .returned (.int .i64 (upF d n)) ∧ Below W.heap.size W w' := fun W hb => fup_any (hd.keeps (keeps_below hb (Nat.le_refl _))) hg n
  have E : Hid (inD d l n = if 0 ≤ ownerD l n then ownerD l n else upF d n) := rfl
  clear hd hl
  generalize inD d l n = res at *
  generalize upF d n = u at *
  generalize ownerD l n = ow at *
  by_cases h0 : 0 ≤ ow
  · have E2 : Hid (res = ow) := by show _ = _; rw [E.out, if_pos h0]
    clear E
    go_enter Try.func9, Try.ntmps9
    go_wp2_with (go_at_call 7; refine hO.mono ?_; rintro e w1 ⟨rfl, hb1⟩)
    go_ret
    exact ⟨by rw [E2.out]; rfl, hb1⟩
  · have E2 : Hid (res = u) := by show _ = _; rw [E.out, if_neg h0]
    clear E
    go_enter Try.func9, Try.ntmps9
    go_wp2_with (first
      | (go_at_call 7; refine hO.mono ?_; rintro e w1 ⟨rfl, hb1⟩)
      | (go_at_call 28; refine (hU _ hb1).mono ?_; rintro e w2 ⟨rfl, hb2⟩))
    go_ret
    exact ⟨by rw [E2.out]; rfl, hb1.trans (hb2.mono hb1.size)⟩

set_option maxHeartbeats 1600000 in
theorem qowner_any {w : World} {vl : Value} {l : List Cl} (hl : ClsAt w vl l) (n : Int) :
    Calls Try.prog 8 #[vl, .int .i64 n] w fun e w' => e = .returned (.int .i64 (ownerD l n)) ∧ Below w.heap.size w w' := by
  obtain ⟨q, cc, rfl, h1, h2, _, hat⟩ := hl.at
  have T : Hid (∀ j (hj : j < l.length), ∃ b o, q = some ⟨b, o, none⟩ ∧ w.cell? ⟨b, o + j * 2, none⟩ = some (.int .i64 (l[j].1 : Int)) ∧ w.cell? ⟨b, o + j * 2 + 1, none⟩ = some (.int .i64 (l[j].2 : Int))) := hat
  clear hat hl
  go_enter Try.func8, Try.ntmps8
  go_wp2_with fail
  go_loopw [9] (fun i wr => ∃ j : Nat, j ≤ l.length ∧ i = .int .i64 j ∧ Hid (∀ c ∈ l.take j, (c.2 : Int) ≠ n) ∧ Below w.heap.size w wr) (fun i _ => l.length - (intOf i).toNat)
  case atStart => exact ⟨0, Nat.zero_le _, rfl, fun k hk => by simp at hk, Below.refl _ _⟩
  case round =>
    obtain ⟨j, hj, rfl, NO, hnx⟩ := hrel
    have hbz := hnx.size
    by_cases hlt : j < l.length
    · obtain ⟨e1, o1, rfl, k1, k2⟩ := T.out j hlt
      have y1 := keeps_below hnx (Nat.le_refl _) _ _ k1
      have y2 := keeps_below hnx (Nat.le_refl _) _ _ k2
      clear k1 k2
      have OA := fun he => owner_at (n := n) hlt he NO.out
      have ON := fun he => notyet (n := n) hlt he NO.out
      by_cases hh : (l[j].2 : Int) = n
      · have E : Hid (ownerD l n = (l[j].1 : Int)) := OA hh
        have hq : ((l[j].2 : Int) == n) = true := by simpa using hh
        clear hh OA ON
        generalize l[j].1 = x at *
        generalize l[j].2 = z at *
        go_wp2_with fail
        go_ret
        exact ⟨by rw [E.out]; rfl, hnx.alloc hbz _⟩
      · have N2 : Hid (∀ c ∈ l.take (j + 1), (c.2 : Int) ≠ n) := ON hh
        have hq : ((l[j].2 : Int) == n) = false := by simpa using hh
        clear hh OA ON
        generalize l[j].1 = x at *
        generalize l[j].2 = z at *
        go_wp2_with fail
        go_roundw
        case rel => exact ⟨j + 1, by omega, by go_num, N2, hnx.alloc hbz _⟩
        case measure => simp [intOf]; omega
    · obtain rfl : j = l.length := by omega
      have E : Hid (ownerD l n = -1) := owner_none (fun c hc => NO.out c (by rw [List.take_length]; exact hc))
      go_wp2_with fail
      go_ret
      exact ⟨by rw [E.out]; rfl, hnx⟩

set_option maxHeartbeats 1600000 in
theorem qin_any {w : World} {b o c : Nat} {rs : List Raw} {d : Tn.Dc} (hd : DocAt w b o c rs d) (hf : Fine d) {vl : Value} {l : List Cl} (hl : ClsAt w vl l) (n : Int) :
    Calls Try.prog 10 #[.slice (some ⟨b, o, none⟩) rs.length c, vl, .int .i64 n] w fun e w' => e = .returned (.int .i64 (inD d l n)) ∧ Below w.heap.size w w' := by
  have hO := qowner_any hl n
  have hU : ∀ W, Below w.heap.size w W → Calls Try.prog 29 #[.slice (some ⟨b, o, none⟩) rs.length c, .int .i64 n] W fun e w' => e = .returned (.int .i64 (upF d n)) ∧ Below W.heap.size W w' := fun W hb => qup_any (hd.keeps (keeps_below hb (Nat.le_refl _))) hf n
  have E : Hid (inD d l n = if 0 ≤ ownerD l n then ownerD l n else upF d n) := rfl
  clear hd hl
  generalize inD d l n = res at *
  generalize upF d n = u at *
  generalize ownerD l n = ow at *
  by_cases h0 : 0 ≤ ow
  · have E2 : Hid (res = ow) := by show _ = _; rw [E.out, if_pos h0]
    clear E
    go_enter Try.func10, Try.ntmps10
    go_wp2_with (go_at_call 8; refine hO.mono ?_; rintro e w1 ⟨rfl, hb1⟩)
    go_ret
    exact ⟨by rw [E2.out]; rfl, hb1⟩
  · have E2 : Hid (res = u) := by show _ = _; rw [E.out, if_neg h0]
    clear E
    go_enter Try.func10, Try.ntmps10
    go_wp2_with (first
      | (go_at_call 8; refine hO.mono ?_; rintro e w1 ⟨rfl, hb1⟩)
      | (go_at_call 29; refine (hU _ hb1).mono ?_; rintro e w2 ⟨rfl, hb2⟩))
    go_ret
    exact ⟨by rw [E2.out]; rfl, hb1.trans (hb2.mono hb1.size)⟩
end Go.Proofs.Ytdjghddcpfikhac

/-
  THE WALKS of owns' lineage, idsOf, Kids, and of the functions in Claims and Kids.
-/
namespace Go.Proofs.Ytdjghddcpfikhac
open Go.RowKit

set_option maxHeartbeats 1600000 in
theorem vfree_any {w : World} {S X : Nat} {vs vc : Value} {sh : List Nat} {l : List Cl} (hS : w.cell? ⟨S, 0, none⟩ = some vs) (hX : w.cell? ⟨X, 0, none⟩ = some vc) (hs : IntsAt w vs sh) (hc : ClsAt w vc l) (n : Int) :
    Calls Try.prog 16 #[.int .i64 n, .pointer (some ⟨S, 0, none⟩), .pointer (some ⟨X, 0, none⟩)] w fun e w' => e = .returned (.bool (freeD sh l n)) ∧ Below w.heap.size w w' := by
  by_cases h0 : 0 < n
  · obtain ⟨k, rfl⟩ : ∃ k : Nat, n = (k : Int) := ⟨n.toNat, by omega⟩
    have E : Hid (freeD sh l (k : Int) = (sh.contains k && decide (ownerD l (k : Int) < 0))) := by
      show _ = _
      unfold freeD
      rw [Int.toNat_natCast, decide_eq_true (by omega : (1 : Int) ≤ (k : Int)), Bool.true_and]
    have hC := contains_any hs k
    have hO := vowner_any hc (k : Int)
    have hkn : 0 < k := by omega
    obtain ⟨ps, cs, rfl, _⟩ := hs
    obtain ⟨pc, cc, rfl, _⟩ := hc
    generalize freeD sh l (k : Int) = res at *
    generalize ownerD l (k : Int) = ow at *
    generalize sh.contains k = q at *
    cases q with
    | false =>
      have E2 : Hid (res = false) := by show _ = _; rw [E.out]; rfl
      clear E hO
      go_enter Try.func16, Try.ntmps16
      go_wp2_with (go_at_call 17; refine hC.mono ?_; rintro e w1 ⟨rfl, hw1⟩; subst hw1)
      go_ret
      exact ⟨by rw [E2.out]; rfl, Below.refl _ _⟩
    | true =>
      have E2 : Hid (res = decide (ow < 0)) := by show _ = _; rw [E.out]; rfl
      clear E
      go_enter Try.func16, Try.ntmps16
      go_wp2_with (first
        | (go_at_call 17; refine hC.mono ?_; rintro e w1 ⟨rfl, hw1⟩; subst hw1)
        | (go_at_call 7; refine hO.mono ?_; rintro e w2 ⟨rfl, hb2⟩))
      go_ret
      exact ⟨by rw [E2.out]; simp, hb2⟩
  · have E : Hid (freeD sh l n = false) := by
      show _ = _
      unfold freeD
      rw [decide_eq_false (by omega : ¬ (1 : Int) ≤ n), Bool.false_and, Bool.false_and]
    clear hS hX hs hc
    generalize freeD sh l n = res at *
    go_enter Try.func16, Try.ntmps16
    go_wp2_with fail
    go_ret
    exact ⟨by rw [E.out]; rfl, Below.refl _ _⟩

/-- a slice of tokens -/
theorem toks_at {w : World} {B : Nat} {v : Value} {ts : List (List UInt8)} (h : w.ownsRow B 9 1 v ts.length (ts.map Wd.tv)) :
    ∃ p c, v = .slice p ts.length c ∧ ts.length ≤ c ∧ c ≤ 9223372036854775807 ∧ ∀ j (hj : j < ts.length), ∃ b o, p = some ⟨b, o, none⟩ ∧ w.cell? ⟨b, o + j, none⟩ = some (.string (Tx.bs ts[j])) := by
  obtain ⟨p, c, e, h1, h2, _, h4⟩ := cells_of_owns h
  refine ⟨p, c, e, h1, by unfold maxLen at h2; omega, fun j hj => ?_⟩
  obtain ⟨b, o, e1, e2⟩ := h4 j (Wd.tv ts[j]) (by rw [List.getElem?_map, List.getElem?_eq_getElem hj]; rfl)
  exact ⟨b, o, e1, e2⟩

def ownsB : ByteArray := ⟨#[97, 114, 105, 97, 45, 111, 119, 110, 115]⟩

set_option maxHeartbeats 800000 in
theorem vids_any {w : World} {b o c : Nat} {rs : List Raw} {d : Tn.Dc} (h : Dx w b o c rs d) (n : Int) :
    Calls Try.prog 18 #[.slice (some ⟨b, o, none⟩) rs.length c, .int .i64 n] w fun e w' => ∃ v, e = .returned v ∧ w'.ownsRow w.heap.size 9 1 v (Wd.toksOf (valN d n ⟨#[97, 114, 105, 97, 45, 111, 119, 110, 115]⟩)).length ((Wd.toksOf (valN d n ⟨#[97, 114, 105, 97, 45, 111, 119, 110, 115]⟩)).map Wd.tv) ∧ Below w.heap.size w w' := by
  have hA := dattr_all h.doc h.fine.okd n ⟨#[97, 114, 105, 97, 45, 111, 119, 110, 115]⟩
  have hz := val_size h.vn n ⟨#[97, 114, 105, 97, 45, 111, 119, 110, 115]⟩
  have hT : ∀ W, Calls Try.prog 40 #[.string (valN d n ⟨#[97, 114, 105, 97, 45, 111, 119, 110, 115]⟩)] W fun e w' => ∃ v, e = .returned v ∧ w'.ownsRow W.heap.size 9 1 v (Wd.toksOf (valN d n ⟨#[97, 114, 105, 97, 45, 111, 119, 110, 115]⟩)).length ((Wd.toksOf (valN d n ⟨#[97, 114, 105, 97, 45, 111, 119, 110, 115]⟩)).map Wd.tv) ∧ Below W.heap.size W w' := fun W => (Wd.tokens_own _ W hz).mono (by
    rintro e w' ⟨v, h1, h2, h3, _⟩
    exact ⟨v, h1, h2, h3⟩)
  clear h hz
  generalize Wd.toksOf (valN d n ⟨#[97, 114, 105, 97, 45, 111, 119, 110, 115]⟩) = ts at *
  generalize valN d n ⟨#[97, 114, 105, 97, 45, 111, 119, 110, 115]⟩ = s at *
  generalize (attrN d n ⟨#[97, 114, 105, 97, 45, 111, 119, 110, 115]⟩).isSome = q at *
  go_enter Try.func18, Try.ntmps18
  go_wp2_with (first
    | (go_at_call 39; refine hA.mono ?_; rintro e w1 ⟨rfl, hb1⟩)
    | (go_at_call 40; refine (hT _).mono ?_; rintro e w2 ⟨v2, rfl, ho2, hb2⟩))
  go_ret
  refine ⟨_, rfl, ?_, hb1.trans (hb2.mono hb1.size)⟩
  obtain ⟨k1, k2⟩ := ho2
  refine ⟨k1, ?_⟩
  rcases k2 with k2 | ⟨g, cap, cur, e, h3, h6⟩
  · exact Or.inl k2
  · exact Or.inr ⟨g, cap, cur, e, Nat.le_trans hb1.size h3, h6⟩

set_option maxHeartbeats 1600000 in
theorem lineage_any {w : World} {b o c : Nat} {rs : List Raw} {d : Tn.Dc} (h : Dx w b o c rs d) {vl : Value} {l : List Cl} (hl : ClsAt w vl l) (hF : Forest d l) {n : Nat} (hn : n ∈ shD d) :
    Calls Try.prog 19 #[.slice (some ⟨b, o, none⟩) rs.length c, vl, .int .i64 (n : Int)] w fun e w' => ∃ v, e = .returned v ∧ OwnI w' w.heap.size v (wayD d l (n : Int)) ∧ Below w.heap.size w w' := by
  have HU : Hid (∀ W (x : Int), Below w.heap.size w W → Calls Try.prog 9 #[.slice (some ⟨b, o, none⟩) rs.length c, vl, .int .i64 x] W fun e w' => e = .returned (.int .i64 (inD d l x)) ∧ Below W.heap.size W w') := fun W x hb => vup_any (h.doc.keeps (keeps_below hb (Nat.le_refl _))) h.fine.okd (hl.keeps (keeps_below hb (Nat.le_refl _))) x
  have WC : Hid (∀ x ∈ shD d, wayD d l (x : Int) = x :: wayD d l (inD d l (x : Int)) ∧ (inD d l (x : Int) = -1 ∨ ∃ y ∈ shD d, inD d l (x : Int) = (y : Int))) := fun x hx => ⟨way_cons h.fine hF hx, in_cases h.fine hF hx⟩
  have W0 : Hid (wayD d l (-1) = []) := way_no d l (by omega)
  have WZ : Hid ((wayD d l (n : Int)).length ≤ 60) := by
    have h1 := way_len h.fine hF hn 64
    have h2 := (sh_few h.fine).1
    show _ ≤ _
    unfold wayD
    omega
  have SN : Hid (n ∈ shD d) := hn
  obtain ⟨pl, cl, rfl, _⟩ := hl
  clear h hF hn
  go_enter Try.func19, Try.ntmps19
  go_wp2_with fail
  go_loopw [2, 7] (fun nv v wr => ∃ (x : Int) (acc : List Nat), nv = .int .i64 x ∧ Hid (wayD d l (n : Int) = acc ++ wayD d l x) ∧ Hid (x = -1 ∨ ∃ y ∈ shD d, x = (y : Int)) ∧ OwnI wr w.heap.size v acc ∧ Below w.heap.size w wr) (fun nv _ _ => (wayD d l (intOf nv)).length)
  case atStart => exact ⟨(n : Int), [], rfl, by show _ = _; rfl, Or.inr ⟨n, SN.out, rfl⟩, OwnI.nil _ _, Below.refl _ _⟩
  case round =>
    obtain ⟨x, acc, rfl, R, X, hown, hnx⟩ := hrel
    have hbz := hnx.size
    rcases X.out with rfl | ⟨y, hy, rfl⟩
    · have E : Hid (wayD d l (n : Int) = acc) := by show _ = _; rw [R.out, W0.out, List.append_nil]
      clear R X
      go_wp2_with fail
      go_ret
      exact ⟨_, rfl, by rw [E.out]; exact hown, hnx⟩
    · obtain ⟨e1, e2⟩ := WC.out y hy
      have hlen : acc.length ≤ 1000000 := by
        have h1 := WZ.out
        rw [R.out, List.length_append] at h1
        omega
      have R2 : Hid (wayD d l (n : Int) = (acc ++ [y]) ++ wayD d l (inD d l (y : Int))) := by
        show _ = _
        rw [R.out, e1]
        simp
      have X2 : Hid (inD d l (y : Int) = -1 ∨ ∃ z ∈ shD d, inD d l (y : Int) = (z : Int)) := e2
      have M : Hid ((wayD d l (inD d l (y : Int))).length < (wayD d l (y : Int)).length) := by show _ < _; rw [e1]; simp
      clear R X e1 e2 hy
      have hU := fun W hb => HU.out W (y : Int) hb
      generalize inD d l (y : Int) = z at *
      go_wp2_with (first
        | (at_builtin; refine append_int1 (w0 := w) rfl _ _ rfl y rfl (by simp [Act.eval]) hown hnx hbz hlen ?_; intro v6 w6 o6 n6 _ _)
        | (go_at_call 9; refine (hU _ n6).mono ?_; rintro e w7 ⟨rfl, hb7⟩))
      go_roundw
      case rel => exact ⟨z, acc ++ [y], rfl, R2, X2, o6.below hb7 (Nat.le_refl _), n6.trans (hb7.mono n6.size)⟩
      case measure => simpa [intOf] using M.out
end Go.Proofs.Ytdjghddcpfikhac

/-
  THE WALK of owns.Kids.
-/
namespace Go.Proofs.Ytdjghddcpfikhac
open Go.RowKit

theorem vkids1_enters : ∀ args w, (callFunc 32 args).run Try.prog w = .ok (.enter 32 args) w := enters_of Try.func32 (by kernel_rfl) rfl

set_option maxHeartbeats 800000 in
theorem vkids1_any {w : World} {K : Nat} {vl : Value} {l : List Cl} (hl : ClsAt w vl l) (hK : w.cell? ⟨K, 0, none⟩ = some vl) (k : Nat) :
    Calls Try.prog 32 #[.int .i64 (k : Int), .pointer (some ⟨K, 0, none⟩)] w fun e w' => e = .returned (.bool (decide (0 ≤ ownerD l (k : Int)))) ∧ Below w.heap.size w w' := by
  have hO := vowner_any hl (k : Int)
  obtain ⟨pl, cl, rfl, _⟩ := hl
  generalize ownerD l (k : Int) = ow at *
  go_enter Try.func32, Try.ntmps32
  go_wp2_with (go_at_call 7; refine hO.mono ?_; rintro e w1 ⟨rfl, hb1⟩)
  go_ret
  exact ⟨by simp, hb1⟩

theorem vkids1_tests {w : World} {K : Nat} {vl : Value} {l : List Cl} (hl : ClsAt w vl l) (hK : w.cell? ⟨K, 0, none⟩ = some vl) : Tests 32 #[.pointer (some ⟨K, 0, none⟩)] (fun k => decide (0 ≤ ownerD l (k : Int))) w := by
  intro k
  have e : (#[.int .i64 (k : Int)] ++ #[.pointer (some ⟨K, 0, none⟩)] : Array Value) = #[.int .i64 (k : Int), .pointer (some ⟨K, 0, none⟩)] := by simp
  rw [e]
  exact vkids1_any hl hK k

theorem kids_few {d : Tn.Dc} (hg : Okd d) (n : Int) : (kidsD d n).length ≤ 1000 := by
  unfold kidsD
  split
  · split
    · exact hg.small n.toNat true
    · split
      · exact hg.small n.toNat false
      · unfold givenD
        split
        · exact Nat.le_trans (List.length_filter_le _ _) (hg.small _ false)
        · simp
  · simp

def mine (l : List Cl) (n : Int) (j : Nat) : List Nat := ((l.take j).filter (fun c => decide ((c.1 : Int) = n))).map (·.2)
theorem mine_succ (l : List Cl) (n : Int) (j : Nat) (h : j < l.length) : mine l n (j + 1) = mine l n j ++ (if (l[j].1 : Int) = n then [l[j].2] else []) := by
  unfold mine
  rw [take_filter _ l j h, List.map_append]
  congr 1
  by_cases e : (l[j].1 : Int) = n
  · rw [if_pos e, if_pos (by simpa using e)]; rfl
  · rw [if_neg e, if_neg (by simpa using e)]; rfl
theorem mine_len (l : List Cl) (n : Int) (j : Nat) : (mine l n j).length ≤ l.length := by
  unfold mine
  rw [List.length_map]
  have h1 := List.length_filter_le (fun c : Cl => decide ((c.1 : Int) = n)) (l.take j)
  have h2 := List.length_take_le j l
  have h3 : (l.take j).length ≤ l.length := by rw [List.length_take]; omega
  omega
theorem inside_mine (d : Tn.Dc) (l : List Cl) (n : Int) : insideD d l n = (kidsD d n).filter (fun (k : Nat) => !decide (0 ≤ ownerD l (k : Int))) ++ mine l n l.length := by
  unfold insideD mine
  rw [List.take_length]
  congr 1
  apply List.filter_congr
  intro k _
  rw [Bool.eq_iff_iff]
  simp

set_option maxHeartbeats 3200000 in
theorem vkids_any {w : World} {b o c : Nat} {rs : List Raw} {d : Tn.Dc} (hd : DocAt w b o c rs d) (hg : Okd d) {vl : Value} {l : List Cl} (hl : ClsAt w vl l) (hlen : l.length ≤ 1000) (n : Int) :
    Calls Try.prog 12 #[.slice (some ⟨b, o, none⟩) rs.length c, vl, .int .i64 n] w fun e w' => ∃ v, e = .returned v ∧ OwnI w' w.heap.size v (insideD d l n) ∧ Below w.heap.size w w' := by
  have B1 := (Below.refl w.heap.size w).alloc (Nat.le_refl _) (.cells #[vl] 26)
  have J1 := keeps_alloc w (.cells #[vl] 26)
  have hK := fkids_any (hd.keeps J1) hg n
  have L1 : Hid (ClsAt (w.alloc (.cells #[vl] 26)) vl l) := hl.keeps J1
  have X1 : Hid ((w.alloc (.cells #[vl] 26)).cell? ⟨w.heap.size, 0, none⟩ = some vl) := cell_box w vl (t := 26)
  have hz1 : (w.alloc (.cells #[vl] 26)).heap.size = w.heap.size + 1 := by simp
  have hkl := kids_few hg n
  have E : Hid (insideD d l n = (kidsD d n).filter (fun (k : Nat) => !decide (0 ≤ ownerD l (k : Int))) ++ mine l n l.length) := inside_mine d l n
  obtain ⟨pl, cl, rfl, k1, k2, _, hat⟩ := hl.at
  have T : Hid (∀ j (hj : j < l.length), ∃ b o, pl = some ⟨b, o, none⟩ ∧ w.cell? ⟨b, o + j * 2, none⟩ = some (.int .i64 (l[j].1 : Int)) ∧ w.cell? ⟨b, o + j * 2 + 1, none⟩ = some (.int .i64 (l[j].2 : Int))) := hat
  clear hat hl hd J1
  generalize insideD d l n = res at *
  generalize kidsD d n = kd at *
  have FL := List.length_filter_le (fun (k : Nat) => !decide (0 ≤ ownerD l (k : Int))) kd
  have hbase : Hid ((kd.filter (fun (k : Nat) => !decide (0 ≤ ownerD l (k : Int)))).length ≤ 1000) := Nat.le_trans FL hkl
  clear FL
  go_enter Try.func12, Try.ntmps12
  go_upto_region 1 with fail
  generalize w.alloc (.cells #[.slice pl l.length cl] 26) = w1 at *
  generalize hG : w.heap.size = G at *
  go_upto_region 2 with (first
    | (go_at_call 31; refine hK.mono ?_; rintro e w2 ⟨v2, rfl, ho2, hb2⟩; have hD := del_any vkids1_enters ho2 hkl (fun W hgr => vkids1_tests (K := G) (L1.out.keeps (keeps_below (hb2.grown hgr hb2.size (fun j hj => (World.ownsRow.lt ho2 j hj).1)) (Nat.le_refl _))) (keeps_below (hb2.grown hgr hb2.size (fun j hj => (World.ownsRow.lt ho2 j hj).1)) (Nat.le_refl _) _ _ X1.out)))
    | (go_at_call 30; refine hD.mono ?_; rintro e w3 ⟨v3, rfl, ho3, hob3, hg3⟩))
  have B3 : Below w1.heap.size w1 w3 := hb2.grown hg3 hb2.size (fun j hj => (World.ownsRow.lt ho2 j hj).1)
  have X3 := keeps_below B3 (Nat.le_refl _) _ _ X1.out
  have BB : Below G w w3 := B1.trans (B3.mono (by omega))
  have O3 : OwnI w3 G v3 (kd.filter (fun (k : Nat) => !decide (0 ≤ ownerD l (k : Int)))) := OwnI.mono ho3 (by omega)
  clear hK hD ho3 hob3 hg3 ho2 hb2 B3 L1 X1 B1 hz1
  generalize kd.filter (fun (k : Nat) => !decide (0 ≤ ownerD l (k : Int))) = base at *
  go_upto_region 3 with fail
  go_loopw [7, 17] (fun v i wr => ∃ j : Nat, j ≤ l.length ∧ i = .int .i64 j ∧ OwnI wr G v (base ++ mine l n j) ∧ Below G w wr) (fun _ i _ => l.length - (intOf i).toNat)
  case atStart => exact ⟨0, Nat.zero_le _, rfl, by simpa [mine] using O3, BB⟩
  case round =>
    obtain ⟨j, hj, rfl, hown, hnx⟩ := hrel
    have hbz : G ≤ wr.heap.size := by have := hnx.size; omega
    have hml := mine_len l n j
    have hbl := hbase.out
    have hz : (base ++ mine l n j).length ≤ 1000000 := by rw [List.length_append]; omega
    by_cases hlt : j < l.length
    · obtain ⟨e1, o1, rfl, c1, c2⟩ := T.out j hlt
      have y1 := keeps_below hnx (by omega) _ _ c1
      have y2 := keeps_below hnx (by omega) _ _ c2
      have MS : Hid (mine l n (j + 1) = mine l n j ++ (if (l[j].1 : Int) = n then [l[j].2] else [])) := mine_succ l n j hlt
      clear c1 c2 hml hbl
      generalize l[j].1 = x at *
      generalize l[j].2 = z at *
      by_cases e : (x : Int) = n
      · have M2 : Hid (base ++ mine l n (j + 1) = (base ++ mine l n j) ++ [z]) := by show _ = _; rw [MS.out, if_pos e, List.append_assoc]
        have hq : ((x : Int) == n) = true := by simpa using e
        clear MS e
        go_wp2_with (at_builtin; refine append_int1 (w0 := w) rfl _ _ rfl z rfl (by simp [Act.eval]) (hown.alloc _) (hnx.alloc hbz _) (by simp; omega) hz ?_; intro v6 w6 o6 n6 _ _)
        go_roundw
        case rel => exact ⟨j + 1, by omega, by go_num, by rw [M2.out]; exact o6, n6⟩
        case measure => simp [intOf]; omega
      · have M2 : Hid (base ++ mine l n (j + 1) = base ++ mine l n j) := by show _ = _; rw [MS.out, if_neg e, List.append_nil]
        have hq : ((x : Int) == n) = false := by simpa using e
        clear MS e
        go_wp2_with fail
        go_roundw
        case rel => exact ⟨j + 1, by omega, by go_num, by rw [M2.out]; exact hown.alloc _, hnx.alloc hbz _⟩
        case measure => simp [intOf]; omega
    · obtain rfl : j = l.length := by omega
      go_wp2_with fail
      go_ret
      exact ⟨_, rfl, by rw [E.out, hG]; exact hown, by rw [hG]; exact hnx⟩
end Go.Proofs.Ytdjghddcpfikhac

/-
  THE WALK of the reference's Inside.
-/
namespace Go.Proofs.Ytdjghddcpfikhac
open Go.RowKit

def freeK (l : List Cl) (k : Nat) : Bool := decide (ownerD l (k : Int) < 0)
theorem inside_free (d : Tn.Dc) (l : List Cl) (n : Int) : insideD d l n = (kidsD d n).filter (freeK l) ++ mine l n l.length := by
  unfold insideD mine
  rw [List.take_length]
  rfl

set_option maxHeartbeats 3200000 in
set_option maxRecDepth 100000 in
theorem qinside_any {w : World} {b o c : Nat} {rs : List Raw} {d : Tn.Dc} (hd : DocAt w b o c rs d) (hf : Fine d) {vl : Value} {l : List Cl} (hl : ClsAt w vl l) (hlen : l.length ≤ 1000) (n : Int) :
    Calls Try.prog 13 #[.slice (some ⟨b, o, none⟩) rs.length c, vl, .int .i64 n] w fun e w' => ∃ v, e = .returned v ∧ OwnI w' w.heap.size v (insideD d l n) ∧ Below w.heap.size w w' := by
  have hK := qkids_any hd hf n
  have hkl := kids_few hf.okd n
  have E : Hid (insideD d l n = (kidsD d n).filter (freeK l) ++ mine l n l.length) := inside_free d l n
  have LW : Hid (∀ W, Below w.heap.size w W → ClsAt W vl l) := fun W hb => hl.keeps (keeps_below hb (Nat.le_refl _))
  have QO : Hid (∀ W (x : Int), Below w.heap.size w W → Calls Try.prog 8 #[vl, .int .i64 x] W fun e w' => e = .returned (.int .i64 (ownerD l x)) ∧ Below W.heap.size W w') := fun W x hb => qowner_any (LW.out W hb) x
  obtain ⟨pl, cl, rfl, k1, k2, _, hat⟩ := hl.at
  have T : Hid (∀ j (hj : j < l.length), ∃ b o, pl = some ⟨b, o, none⟩ ∧ w.cell? ⟨b, o + j * 2, none⟩ = some (.int .i64 (l[j].1 : Int)) ∧ w.cell? ⟨b, o + j * 2 + 1, none⟩ = some (.int .i64 (l[j].2 : Int))) := hat
  clear hat hl hd LW
  generalize insideD d l n = res at *
  generalize kidsD d n = kd at *
  go_enter Try.func13, Try.ntmps13
  go_upto_region 3 with (go_at_call 33; refine hK.mono ?_; rintro e w2 ⟨p2, c2, rfl, hi2, hb2⟩)
  obtain ⟨_, _, he, d1, d2, _, hat⟩ := hi2.at
  cases he
  have TK : Hid (∀ j (hj : j < kd.length), ∃ b o, p2 = some ⟨b, o, none⟩ ∧ w2.cell? ⟨b, o + j, none⟩ = some (.int .i64 (kd[j] : Int))) := hat
  clear hat hi2 hK
  go_loopw [7, 16] (fun v i wr => ∃ j : Nat, j ≤ kd.length ∧ i = .int .i64 j ∧ OwnI wr w2.heap.size v ((kd.take j).filter (freeK l)) ∧ Below w2.heap.size w2 wr) (fun _ i _ => kd.length - (intOf i).toNat)
  case atStart => exact ⟨0, Nat.zero_le _, rfl, OwnI.nil _ _, Below.refl _ _⟩
  case round =>
    obtain ⟨j, hj, rfl, hown, hnx⟩ := hrel
    have hbz := hnx.size
    have BW := hb2.trans (hnx.mono hb2.size)
    have hfl : ((kd.take j).filter (freeK l)).length ≤ 1000 := by
      have h1 := List.length_filter_le (freeK l) (kd.take j)
      have h2 : (kd.take j).length ≤ kd.length := by rw [List.length_take]; omega
      omega
    by_cases hlt : j < kd.length
    · obtain ⟨b1, o1, rfl, hc1⟩ := TK.out j hlt
      have y1 := keeps_below hnx (Nat.le_refl _) _ _ hc1
      have hO := QO.out wr (kd[j] : Int) BW
      have FS : Hid ((kd.take (j + 1)).filter (freeK l) = (kd.take j).filter (freeK l) ++ (if freeK l kd[j] then [kd[j]] else [])) := take_filter _ kd j hlt
      have FK : Hid (freeK l kd[j] = decide (ownerD l (kd[j] : Int) < 0)) := rfl
      clear hc1
      generalize (kd.take j).filter (freeK l) = acc at *
      generalize kd[j] = x at *
      generalize ownerD l (x : Int) = ow at *
      by_cases e : ow < 0
      · have F2 : Hid ((kd.take (j + 1)).filter (freeK l) = acc ++ [x]) := by show _ = _; rw [FS.out, FK.out, if_pos (by simpa using e)]
        clear FS FK
        go_wp2_with (first
          | (go_at_call 8; refine hO.mono ?_; rintro e w5 ⟨rfl, hb5⟩; have o5 := hown.below hb5 (Nat.le_refl _); have n5 := hnx.trans (hb5.mono hnx.size))
          | (at_builtin; refine append_int1 (w0 := w2) rfl _ _ rfl x rfl (by simp [Act.eval]) o5 n5 n5.size (by omega) ?_; intro v6 w6 o6 n6 _ _))
        go_roundw
        case rel => exact ⟨j + 1, by omega, by go_num, by rw [F2.out]; exact o6, n6⟩
        case measure => simp [intOf]; omega
      · have F2 : Hid ((kd.take (j + 1)).filter (freeK l) = acc) := by show _ = _; rw [FS.out, FK.out, if_neg (by simpa using e), List.append_nil]
        clear FS FK
        go_wp2_with (go_at_call 8; refine hO.mono ?_; rintro e w5 ⟨rfl, hb5⟩; have o5 := hown.below hb5 (Nat.le_refl _); have n5 := hnx.trans (hb5.mono hnx.size))
        go_roundw
        case rel => exact ⟨j + 1, by omega, by go_num, by rw [F2.out]; exact o5, n5⟩
        case measure => simp [intOf]; omega
    · obtain rfl : j = kd.length := by omega
      rw [List.take_length] at hown hfl
      have O3 : OwnI wr w.heap.size u7 (kd.filter (freeK l)) := OwnI.mono hown hb2.size
      clear hown hnx TK hbz
      generalize kd.filter (freeK l) = base at *
      go_upto_region 9 with fail
      go_loopw [7, 31] (fun v i wq => ∃ q : Nat, q ≤ l.length ∧ i = .int .i64 q ∧ OwnI wq w.heap.size v (base ++ mine l n q) ∧ Below w.heap.size w wq) (fun _ i _ => l.length - (intOf i).toNat)
      case atStart => exact ⟨0, Nat.zero_le _, rfl, by simpa [mine] using O3, BW⟩
      case round =>
        obtain ⟨q, hq, rfl, hown, hnx⟩ := hrel
        have hbz := hnx.size
        have hml := mine_len l n q
        have hz : (base ++ mine l n q).length ≤ 1000000 := by rw [List.length_append]; omega
        by_cases hlt : q < l.length
        · obtain ⟨e1, o1, rfl, c1, c2⟩ := T.out q hlt
          have y1 := keeps_below hnx (Nat.le_refl _) _ _ c1
          have y2 := keeps_below hnx (Nat.le_refl _) _ _ c2
          have MS : Hid (mine l n (q + 1) = mine l n q ++ (if (l[q].1 : Int) = n then [l[q].2] else [])) := mine_succ l n q hlt
          clear c1 c2 hml
          generalize l[q].1 = x at *
          generalize l[q].2 = z at *
          by_cases e : (x : Int) = n
          · have M2 : Hid (base ++ mine l n (q + 1) = (base ++ mine l n q) ++ [z]) := by show _ = _; rw [MS.out, if_pos e, List.append_assoc]
            have hq1 : ((x : Int) == n) = true := by simpa using e
            clear MS e
            go_wp2_with (at_builtin; refine append_int1 (w0 := w) rfl _ _ rfl z rfl (by simp [Act.eval]) (hown.alloc _) (hnx.alloc hbz _) (by simp; omega) hz ?_; intro v6 w6 o6 n6 _ _)
            go_roundw
            case rel => exact ⟨q + 1, by omega, by go_num, by rw [M2.out]; exact o6, n6⟩
            case measure => simp [intOf]; omega
          · have M2 : Hid (base ++ mine l n (q + 1) = base ++ mine l n q) := by show _ = _; rw [MS.out, if_neg e, List.append_nil]
            have hq1 : ((x : Int) == n) = false := by simpa using e
            clear MS e
            go_wp2_with fail
            go_roundw
            case rel => exact ⟨q + 1, by omega, by go_num, by rw [M2.out]; exact hown.alloc _, hnx.alloc hbz _⟩
            case measure => simp [intOf]; omega
        · obtain rfl : q = l.length := by omega
          go_wp2_with fail
          go_ret
          exact ⟨_, rfl, by rw [E.out]; exact hown, hnx⟩
end Go.Proofs.Ytdjghddcpfikhac

/-
  THE WALK of the reference's Has.
-/
namespace Go.Proofs.Ytdjghddcpfikhac
open Go.RowKit

theorem has_yes {l : List Nat} {k j : Nat} (hj : j < l.length) (he : l[j] = k) : l.contains k = true := by
  rw [List.contains_iff_mem, ← he]
  exact List.getElem_mem hj
theorem has_no {l : List Nat} {k : Nat} (hn : ∀ x ∈ l, x ≠ k) : l.contains k = false := by
  cases h : l.contains k with
  | false => rfl
  | true =>
    rw [List.contains_iff_mem] at h
    exact absurd rfl (hn k h)

set_option maxHeartbeats 1600000 in
theorem qhas_any {w : World} {vl : Value} {l : List Nat} (hl : IntsAt w vl l) (k : Nat) :
    Calls Try.prog 25 #[vl, .int .i64 (k : Int)] w fun e w' => e = .returned (.bool (l.contains k)) ∧ w' = w := by
  obtain ⟨q, cc, rfl, h1, h2, _, hat⟩ := hl.at
  have T : Hid (∀ j (hj : j < l.length), ∃ b o, q = some ⟨b, o, none⟩ ∧ w.cell? ⟨b, o + j, none⟩ = some (.int .i64 (l[j] : Int))) := hat
  clear hat hl
  go_enter Try.func25, Try.ntmps25
  go_wp2_with fail
  go_loopw [9] (fun i wr => ∃ j : Nat, j ≤ l.length ∧ i = .int .i64 j ∧ Hid (∀ x ∈ l.take j, x ≠ k) ∧ wr = w) (fun i _ => l.length - (intOf i).toNat)
  case atStart => exact ⟨0, Nat.zero_le _, rfl, fun k hk => by simp at hk, rfl⟩
  case round =>
    obtain ⟨j, hj, rfl, NO, hww⟩ := hrel
    subst hww
    by_cases hlt : j < l.length
    · obtain ⟨e1, o1, rfl, k1⟩ := T.out j hlt
      by_cases hh : l[j] = k
      · have E : Hid (l.contains k = true) := has_yes hlt hh
        rw [hh] at k1
        clear hh
        go_wp2_with fail
        go_ret
        exact ⟨by rw [E.out]; rfl, rfl⟩
      · have N2 : Hid (∀ x ∈ l.take (j + 1), x ≠ k) := by
          intro x hx
          rw [List.take_succ_eq_append_getElem hlt, List.mem_append, List.mem_singleton] at hx
          rcases hx with hx | rfl
          · exact NO.out x hx
          · exact hh
        have hq : ((l[j] : Int) == (k : Int)) = false := beq_eq_false_iff_ne.2 (by omega)
        clear hh
        generalize l[j] = x at *
        go_wp2_with fail
        go_roundw
        case rel => exact ⟨j + 1, by omega, by go_num, N2, by first | rfl | trivial⟩
        case measure => simp [intOf]; omega
    · obtain rfl : j = l.length := by omega
      have E : Hid (l.contains k = false) := has_no (fun x hx => NO.out x (by rw [List.take_length]; exact hx))
      go_wp2_with fail
      go_ret
      exact ⟨by rw [E.out]; rfl, rfl⟩
end Go.Proofs.Ytdjghddcpfikhac

/-
  THE WALK of owns.Claims.
-/
namespace Go.Proofs.Ytdjghddcpfikhac
open Go.RowKit

/-- what stands in the variable of Claims -/
structure VarC (w : World) (X B : Nat) (v : Value) (l : List Cl) : Prop where
  x : w.cell? ⟨X, 0, none⟩ = some v
  f : w.frozen? ⟨X, 0, none⟩ = false
  own : OwnC w B v l
theorem VarC.below {w w' : World} {X B : Nat} {v : Value} {l : List Cl} (h : VarC w X B v l) (hb : Below w.heap.size w w') : VarC w' X B v l :=
  ⟨keeps_below hb (Nat.le_refl _) _ _ h.x, by rw [hb.frozen (p := ⟨X, 0, none⟩) (lt_of_cell h.x)]; exact h.f, h.own.below hb (Nat.le_refl _)⟩

set_option maxHeartbeats 6400000 in
set_option maxRecDepth 100000 in
theorem vclaims_any {w : World} {b o c : Nat} {rs : List Raw} {d : Tn.Dc} (h : Dx w b o c rs d) :
    Calls Try.prog 5 #[.slice (some ⟨b, o, none⟩) rs.length c] w fun e w' => ∃ v, e = .returned v ∧ OwnC w' w.heap.size v (claimsD d) ∧ Below w.heap.size w w' := by
  have HX : Hid (∀ W, Below w.heap.size w W → Dx W b o c rs d) := fun W hb => h.below hb
  have hF := h.fine
  have hO := hF.okd
  have hsf := (sh_few hF).1
  have B1 := (Below.refl w.heap.size w).alloc (Nat.le_refl _) (.cells #[.slice none 0 0] 26)
  have X1 : VarC (w.alloc (.cells #[.slice none 0 0] 26)) w.heap.size (w.heap.size + 1) (.slice none 0 0) [] := ⟨cell_box w (.slice none 0 0) (t := 26), box_frozen _ _ _ 0, OwnC.nil _ _⟩
  have z1 : (w.alloc (.cells #[.slice none 0 0] 26)).heap.size = w.heap.size + 1 := by simp
  have hS : Calls Try.prog 15 #[.slice (some ⟨b, o, none⟩) rs.length c] (w.alloc (.cells #[.slice none 0 0] 26)) fun e w' => ∃ v, e = .returned v ∧ OwnI w' (w.alloc (.cells #[.slice none 0 0] 26)).heap.size v (shD d) ∧ Below (w.alloc (.cells #[.slice none 0 0] 26)).heap.size (w.alloc (.cells #[.slice none 0 0] 26)) w' :=
    fshown_any (h.doc.keeps (keeps_alloc w (.cells #[.slice none 0 0] 26))) hO (fine_end hF) (by have : (shownF Tn.fuel d 0).length ≤ 60 := hsf; omega)
  have FO : Hid (∀ j, Forest d (accD d j)) := fun j => forest_at hF j
  have OF : Hid (∀ (j : Nat) (hj : j < (shD d).length) q, (outD d j (shD d)[j] q).length ≤ 60) := fun j hj q => out_few hF hj q
  have EF : Hid (accD d (shD d).length = claimsD d) := acc_full d
  have hOk : Hid (Okd d) := hO
  clear h hF hO
  go_enter Try.func5, Try.ntmps5
  go_upto_region 2 with fail
  generalize w.alloc (.cells #[.slice none 0 0] 26) = w1 at *
  generalize hX : w.heap.size = X at *
  go_upto_region 3 with (go_at_call 15; refine hS.mono ?_; rintro e w2 ⟨v2, rfl, ho2, hb2⟩; have ho2s := ho2; obtain ⟨ps, cs, rfl⟩ := ho2s.shape)
  rw [z1] at ho2 hb2
  have X2 : VarC w2 X (X + 1) (.slice none 0 0) [] := X1.below (hb2.mono (by omega))
  have z2 : X + 1 ≤ w2.heap.size := by have := hb2.size; omega
  have B2 : Below X w w2 := B1.trans (hb2.mono (by omega))
  have S3 := cell_box w2 (.slice ps (shD d).length cs) (t := 33)
  have A3 := (Below.refl w2.heap.size w2).alloc (Nat.le_refl _) (.cells #[.slice ps (shD d).length cs] 33)
  have X3 := X2.below A3
  have O3 : OwnI (w2.alloc (.cells #[.slice ps (shD d).length cs] 33)) (X + 1) (.slice ps (shD d).length cs) (shD d) := ho2.alloc _
  have B3 : Below X w (w2.alloc (.cells #[.slice ps (shD d).length cs] 33)) := B2.trans (A3.mono (by omega))
  have z3 : (w2.alloc (.cells #[.slice ps (shD d).length cs] 33)).heap.size = w2.heap.size + 1 := by simp
  clear hS hb2 ho2 ho2s X1 X2 B1 B2 A3 z1
  generalize w2.alloc (.cells #[.slice ps (shD d).length cs] 33) = w3 at *
  generalize hSz : w2.heap.size = S at *
  have hXS : X < S + 1 := by omega
  have V3 : VarC w3 X (S + 1) (.slice none 0 0) (accD d 0) := ⟨X3.x, X3.f, OwnC.nil _ _⟩
  have ST : Hid (∀ W, But (S + 1) X w3 W → Below X w W ∧ W.cell? ⟨S, 0, none⟩ = some (.slice ps (shD d).length cs) ∧ OwnI W (X + 1) (.slice ps (shD d).length cs) (shD d)) := fun W hbt =>
    ⟨B3.trans (hbt.below (by omega) (Nat.le_refl _)), hbt.cell S3 (by omega) (by show S ≠ X; omega), hbt.owns (by omega) O3 (by omega)⟩
  have Z3 : Hid (w3.heap.size = S + 1) := z3
  have HXs : Hid (w.heap.size = X) := hX
  clear X3 O3 z3 z2 B3 hSz hX
  go_upto_region 5 with fail
  go_loopw [18] (fun i wr => ∃ (j : Nat) (vr : Value), j ≤ (shD d).length ∧ i = .int .i64 j ∧ VarC wr X (S + 1) vr (accD d j) ∧ But (S + 1) X w3 wr) (fun i _ => (shD d).length - (intOf i).toNat)
  case atStart => exact ⟨0, _, Nat.zero_le _, rfl, V3, But.refl _ _ _⟩
  case round =>
    obtain ⟨j, vr, hj, rfl, VR, BT⟩ := hrel
    obtain ⟨BW, SW, OW⟩ := ST.out wr BT
    have xr := VR.x
    by_cases hlt : j < (shD d).length
    · obtain ⟨_, _, he, k1, k2, _, hat⟩ := (ints_of_owns OW).at
      cases he
      obtain ⟨b1, o1, e1, hc1⟩ := hat j hlt
      have hszr : w.heap.size ≤ wr.heap.size := BW.size
      have hXr : X ≤ wr.heap.size := by have := HXs.out; omega
      have hids := vids_any (HX.out wr BW) ((shD d)[j] : Int)
      have LN : Hid (∀ W, Below wr.heap.size wr W → Calls Try.prog 19 #[.slice (some ⟨b, o, none⟩) rs.length c, vr, .int .i64 ((shD d)[j] : Int)] W fun e w' => ∃ v, e = .returned v ∧ OwnI w' W.heap.size v (wayD d (accD d j) ((shD d)[j] : Int)) ∧ Below W.heap.size W w') := fun W hb =>
        lineage_any (HX.out W (BW.trans (hb.mono hXr))) (cls_of_owns (VR.below hb).own) (FO.out j) (List.getElem_mem hlt)
      have AS : Hid (accD d (j + 1) = claimN d (accD d j) (shD d)[j]) := acc_succ hlt
      have OFn : Hid (∀ q, (outD d j (shD d)[j] q).length ≤ 60) := fun q => OF.out j hlt q
      clear hat OW
      generalize (shD d)[j] = n at *
      have OS : Hid (∀ q (hq : q < (Wd.toksOf (valN d (n : Int) ⟨#[97, 114, 105, 97, 45, 111, 119, 110, 115]⟩)).length), outD d j n (q + 1) = claim1 d n (outD d j n q) (askT d n (Wd.toksOf (valN d (n : Int) ⟨#[97, 114, 105, 97, 45, 111, 119, 110, 115]⟩))[q])) := fun q hq => out_succ hq
      have OU : Hid (outD d j n (Wd.toksOf (valN d (n : Int) ⟨#[97, 114, 105, 97, 45, 111, 119, 110, 115]⟩)).length = claimN d (accD d j) n) := out_full d j n
      generalize Wd.toksOf (valN d (n : Int) ⟨#[97, 114, 105, 97, 45, 111, 119, 110, 115]⟩) = ts at *
      have TF : Hid (∀ q k, takes d (outD d j n q) n k = (freeD (shD d) (outD d j n q) k && !(wayD d (accD d j) (n : Int)).contains k.toNat)) := fun q k => takes_free d j n q k
      subst e1
      by_cases hne : ts = []
      · subst hne
        have E : Hid (accD d (j + 1) = accD d j) := by show _ = _; rw [AS.out, ← OU.out]; rfl
        clear OS OU AS TF LN OFn
        go_wp2_with (go_at_call 18; refine hids.mono ?_; rintro e w4 ⟨v4, rfl, ho4, hb4⟩; obtain ⟨pt, ct, rfl, t1, t2, _⟩ := toks_at ho4)
        go_roundw
        case rel => exact ⟨j + 1, vr, by omega, by go_num, by rw [E.out]; exact VR.below hb4, BT.trans (But.of hb4 (by have := BT.size; have := Z3.out; omega))⟩
        case measure => simp [intOf]; omega
      · have hnz : ((ts.length : Int) == 0) = false := by simpa using hne
        clear hne
        go_upto_region 11 with (first
          | (go_at_call 18; refine hids.mono ?_; rintro e w4 ⟨v4, rfl, ho4, hb4⟩; obtain ⟨pt, ct, rfl, t1, t2, _⟩ := toks_at ho4; have x4 := (VR.below hb4).x; have hLn := LN.out w4 hb4)
          | (go_at_call 19; refine hLn.mono ?_; rintro e w5 ⟨v5, rfl, ho5, hb5⟩))
        have V5 : VarC w5 X (S + 1) vr (outD d j n 0) := (VR.below hb4).below hb5
        have hS1 : S + 1 ≤ wr.heap.size := by have := BT.size; have := Z3.out; omega
        have z4 := hb4.size
        have z5 := hb5.size
        have BT5 : But (S + 1) X w3 w5 := (BT.trans (But.of hb4 hS1)).trans (But.of hb5 (by omega))
        have hvr : ∀ q, vr.ownBlock = some q → q < wr.heap.size := fun q e => (World.ownsRow.lt VR.own q e).2
        have hvl : ∀ q, vr.ownBlock = some q → S + 1 ≤ q := fun q e => (World.ownsRow.lt VR.own q e).1
        have MVs : Hid (∀ W vq, Mv X vr.ownBlock (Value.ownBlock vq) w5 W → But (S + 1) X w3 W ∧ W.ownsRow wr.heap.size 9 1 (.slice pt ts.length ct) ts.length (ts.map Wd.tv) ∧ OwnI W w4.heap.size v5 (wayD d (accD d j) (n : Int))) := fun W vq hm =>
          ⟨BT5.trans (hm.but (by omega) hvl), hm.owns (owns_below ho4 hb5) (by omega) hvr, hm.owns ho5 (by omega) (fun q e => Nat.lt_of_lt_of_le (hvr q e) z4)⟩
        clear hids LN hLn ho4 ho5 hb4 hb5 BT5 hvr hvl VR BT BW SW xr x4 z4 z5 hS1 hszr hXr hc1
        go_loopw [34] (fun i wq => ∃ (q : Nat) (vq : Value), q ≤ ts.length ∧ i = .int .i64 q ∧ VarC wq X (S + 1) vq (outD d j n q) ∧ Mv X vr.ownBlock vq.ownBlock w5 wq) (fun i _ => ts.length - (intOf i).toNat)
        case atStart => exact ⟨0, vr, Nat.zero_le _, rfl, V5, Mv.refl _ _ _⟩
        case round =>
          obtain ⟨q, vq, hq, rfl, VQ, MQ⟩ := hrel
          obtain ⟨BQ, TQ, LQ⟩ := MVs.out wr vq MQ
          obtain ⟨BW, SW, OW⟩ := ST.out wr BQ
          by_cases hql : q < ts.length
          · obtain ⟨_, _, he, _, _, hat⟩ := toks_at TQ
            cases he
            obtain ⟨b3, o3, e3, hc3⟩ := hat q hql
            have DX := HX.out wr BW
            have hFi : Calls Try.prog 20 #[.slice (some ⟨b, o, none⟩) rs.length c, .int .i64 (n : Int), .string (Tx.bs ts[q])] wr fun e w' => e = .returned (.int .i64 (askT d n ts[q])) ∧ Below wr.heap.size wr w' := dfind_any DX.doc hOk.out.tame hOk.out.small hOk.out.root hOk.out.rise hOk.out.few (n : Int) (Tx.bs ts[q])
            have FR : Hid (∀ W k, Below wr.heap.size wr W → Calls Try.prog 16 #[.int .i64 k, .pointer (some ⟨S, 0, none⟩), .pointer (some ⟨X, 0, none⟩)] W fun e w' => e = .returned (.bool (freeD (shD d) (outD d j n q) k)) ∧ Below W.heap.size W w') := fun W k hb =>
              vfree_any (keeps_below hb (Nat.le_refl _) _ _ SW) (keeps_below hb (Nat.le_refl _) _ _ VQ.x) (ints_of_owns (OW.below hb (Nat.le_refl _))) (cls_of_owns (VQ.below hb).own) k
            have CN : Hid (∀ W (m : Nat), Below wr.heap.size wr W → Calls Try.prog 17 #[v5, .int .i64 (m : Int)] W fun e w' => e = .returned (.bool ((wayD d (accD d j) (n : Int)).contains m)) ∧ w' = W) := fun W m hb => contains_any (ints_of_owns (LQ.below hb (Nat.le_refl _))) m
            have T1 := TF.out q (askT d n ts[q])
            have O1 := OS.out q hql
            have LZ := OFn.out q
            clear DX hat TQ OW LQ SW
            generalize askT d n ts[q] = k at *
            generalize ts[q] = t at *
            generalize Tx.bs t = tb at *
            have FRk := fun W hb => FR.out W k hb
            subst e3
            cases hfd : freeD (shD d) (outD d j n q) k with
            | false =>
              have E : Hid (outD d j n (q + 1) = outD d j n q) := by show _ = _; rw [O1]; exact claim_no (by rw [T1, hfd]; rfl)
              rw [hfd] at FRk
              clear O1 T1 hfd CN FR
              go_wp2_with (first
                | (go_at_call 20; refine hFi.mono ?_; rintro e w6 ⟨rfl, hb6⟩; have hFk := FRk w6 hb6)
                | (go_at_call 16; refine hFk.mono ?_; rintro e w7 ⟨rfl, hb7⟩))
              go_roundw
              case rel => exact ⟨q + 1, vq, by omega, by go_num, by rw [E.out]; exact (VQ.below hb6).below hb7, (MQ.below hb6).below hb7⟩
              case measure => simp [intOf]; omega
            | true =>
              obtain ⟨m, rfl⟩ := free_nat hfd
              rw [hfd] at FRk
              rw [Int.toNat_natCast] at T1
              have CNm := fun W hb => CN.out W m hb
              cases hcn : (wayD d (accD d j) (n : Int)).contains m with
              | true =>
                have E : Hid (outD d j n (q + 1) = outD d j n q) := by show _ = _; rw [O1]; exact claim_no (by rw [T1, hfd, hcn]; rfl)
                rw [hcn] at CNm
                clear O1 T1 hfd hcn CN FR
                go_wp2_with (first
                  | (go_at_call 20; refine hFi.mono ?_; rintro e w6 ⟨rfl, hb6⟩; have hFk := FRk w6 hb6)
                  | (go_at_call 16; refine hFk.mono ?_; rintro e w7 ⟨rfl, hb7⟩; have hCk := CNm w7 (hb6.trans (hb7.mono hb6.size)))
                  | (go_at_call 17; refine hCk.mono ?_; rintro e w8 ⟨rfl, hw8⟩; subst hw8))
                go_roundw
                case rel => exact ⟨q + 1, vq, by omega, by go_num, by rw [E.out]; exact (VQ.below hb6).below hb7, (MQ.below hb6).below hb7⟩
                case measure => simp [intOf]; omega
              | false =>
                have E : Hid (outD d j n (q + 1) = outD d j n q ++ [(n, m)]) := by show _ = _; rw [O1]; exact claim_yes (by rw [T1, hfd, hcn]; rfl)
                rw [hcn] at CNm
                have hSq : S + 1 ≤ wr.heap.size := by have := BQ.size; have := Z3.out; omega
                clear O1 T1 hfd hcn CN FR
                generalize outD d j n q = l1 at *
                go_wp2_with (first
                  | (go_at_call 20; refine hFi.mono ?_; rintro e w6 ⟨rfl, hb6⟩; have hFk := FRk w6 hb6)
                  | (go_at_call 16; refine hFk.mono ?_; rintro e w7 ⟨rfl, hb7⟩; have hCk := CNm w7 (hb6.trans (hb7.mono hb6.size)); have V7 := (VQ.below hb6).below hb7; have x7 := V7.x; have B7 : S + 1 ≤ w7.heap.size := Nat.le_trans hSq (Nat.le_trans hb6.size hb7.size))
                  | (go_at_call 17; refine hCk.mono ?_; rintro e w8 ⟨rfl, hw8⟩; subst hw8)
                  | (at_builtin; refine append_claim2 (w0 := w8) (v := vq) rfl _ _ rfl n m rfl (by simp [Act.eval]) V7.own (Below.refl _ w8) B7 (by omega) ?_; intro v9 w9 o9 n9 g9 b9; obtain ⟨p9, c9, rfl⟩ := o9.shape; have x9 := (n9.cell (p := ⟨X, 0, none⟩) hXS).trans x7; have f9 := (n9.frozen (p := ⟨X, 0, none⟩) hXS).trans V7.f))
                rw [show (l1 ++ [(n, m)]).length = l1.length + 1 by simp] at o9 b9
                have M9 : Mv X vr.ownBlock (Value.slice p9 (l1.length + 1) c9).ownBlock w5 w9 := ((MQ.below hb6).below hb7).trans ⟨g9.os, g9.tape, g9.output, g9.size, fun i hi _ hr => g9.block i hi (fun e => hr e), b9⟩
                go_roundw
                case rel => exact ⟨q + 1, _, by omega, by go_num, ⟨World.cell?_setCell_same _ _ _ x9, by simpa using f9, by rw [E.out]; exact o9.set _ _ hXS⟩, M9.set _⟩
                case measure => simp [intOf]; omega
          · obtain rfl : q = ts.length := by omega
            have E : Hid (accD d (j + 1) = outD d j n ts.length) := by show _ = _; rw [AS.out, OU.out]
            clear TQ LQ OW SW
            go_wp2_with fail
            go_roundw
            case rel => exact ⟨j + 1, vq, by omega, by go_num, by rw [E.out]; exact VQ, BQ⟩
            case measure => simp [intOf]; omega
    · obtain rfl : j = (shD d).length := by omega
      go_wp2_with fail
      go_ret
      exact ⟨_, rfl, by rw [HXs.out, ← EF.out]; exact VR.own.mono (by omega), by rw [HXs.out]; exact BW⟩
end Go.Proofs.Ytdjghddcpfikhac
