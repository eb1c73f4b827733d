/-
  THE WALKS of the reference's Join, Squeeze and Lower.
-/
import Derived.Test.YteapdajkacgeiaaRtok
import Derived.Test.YteapdajkacgeiaaNam
namespace Go.Proofs.Yteapdajkacgeiaa
open Go.RowKit

theorem rtokens_some (s : ByteArray) (w : World) (hs : s.size ≤ 4194304) (hne : toksOf s ≠ []) : Calls Try.prog 7 #[.string s] w fun e w' =>
    ∃ g c, e = .returned (.slice (some ⟨g, 0, none⟩) (toksOf s).length c) ∧ Words w.heap.size (toksOf s) g c w' ∧ Below w.heap.size w w' := by
  refine (rtokens_own s w hs).mono ?_
  rintro e w' ⟨v, rfl, hown, hbel, _⟩
  obtain ⟨g, c, rfl, hW⟩ := words_of hown hne
  exact ⟨g, c, rfl, hW, hbel⟩
theorem rtokens_none (s : ByteArray) (w : World) (hs : s.size ≤ 4194304) (hne : toksOf s = []) : Calls Try.prog 7 #[.string s] w fun e w' =>
    e = .returned (.slice none 0 0) ∧ Below w.heap.size w w' := by
  refine (rtokens_own s w hs).mono ?_
  rintro e w' ⟨v, rfl, _, hbel, hnil⟩
  rw [hnil hne]
  exact ⟨rfl, hbel⟩

theorem joined_take (ts : List (List UInt8)) (k : Nat) : (Tx.joined (ts.take k)).length ≤ (Tx.joined ts).length := by
  induction ts generalizing k with
  | nil => simp
  | cons t r ih =>
    cases k with
    | zero => simp [Tx.joined_nil]
    | succ k =>
      cases r with
      | nil => simp
      | cons u r =>
        cases k with
        | zero =>
          show (Tx.joined [t]).length ≤ _
          rw [Tx.joined_one, Tx.joined_cons]
          simp
        | succ j =>
          have h := ih (j + 1)
          have e : (t :: u :: r).take (j + 1 + 1) = t :: u :: r.take j := rfl
          have e2 : (u :: r).take (j + 1) = u :: r.take j := rfl
          rw [e2] at h
          rw [e, Tx.joined_cons, Tx.joined_cons]
          simp
          exact h

theorem words_snoc (ts : List (List UInt8)) (k : Nat) (t : List UInt8) (hc : ts[k]? = some t) : ts.take (k + 1) = ts.take k ++ [t] := by
  rw [List.take_add_one, hc]
  rfl
theorem join_first (ts : List (List UInt8)) (t : List UInt8) (hc : ts[0]? = some t) : Tx.bs (Tx.joined (ts.take 0)) ++ Tx.bs t = Tx.bs (Tx.joined (ts.take 1)) := by
  rw [words_snoc ts 0 t hc, Tx.joined_snoc]
  apply ByteArray.ext
  rw [ByteArray.data_append]
  simp [Tx.bs, Tx.joined_nil]
theorem join_next (ts : List (List UInt8)) (k : Nat) (t : List UInt8) (hk : 0 < k) (hc : ts[k]? = some t) : Tx.bs (Tx.joined (ts.take k)) ++ ⟨#[32]⟩ ++ Tx.bs t = Tx.bs (Tx.joined (ts.take (k + 1))) := by
  have hl : k < ts.length := (List.getElem?_eq_some_iff.1 hc).1
  have he : (ts.take k).isEmpty = false := by
    cases ts with
    | nil => simp at hl
    | cons x r =>
      cases k with
      | zero => omega
      | succ k => rfl
  rw [words_snoc ts k t hc, Tx.joined_snoc, he]
  apply ByteArray.ext
  rw [ByteArray.data_append, ByteArray.data_append]
  simp [Tx.bs]
theorem join_room (ts : List (List UInt8)) (k : Nat) (t : List UInt8) (hc : ts[k]? = some t) : (Tx.bs (Tx.joined (ts.take k))).size + (Tx.bs t).size ≤ (Tx.joined ts).length := by
  have h := joined_take ts (k + 1)
  rw [words_snoc ts k t hc, Tx.joined_snoc] at h
  show (Tx.joined (ts.take k)).length + t.length ≤ _
  cases he : (ts.take k).isEmpty with
  | true =>
    rw [he] at h
    have : ts.take k = [] := List.isEmpty_iff.1 he
    rw [this, Tx.joined_nil]
    simp at h ⊢
    exact h
  | false =>
    rw [he] at h
    simp at h
    omega

set_option maxHeartbeats 800000 in
set_option maxRecDepth 100000 in
theorem rjoin_words (ts : List (List UInt8)) (B g c : Nat) (w : World) (h : Words B ts g c w) (hN : ts.length ≤ 4194304) (hlen : (Tx.joined ts).length ≤ 4194304) :
    Calls Try.prog 20 #[.slice (some ⟨g, 0, none⟩) ts.length c] w fun e w' => e = .returned (.string (Tx.bs (Tx.joined ts))) ∧ w' = w := by
  have HW : Hid (Words B ts g c w) := h
  clear h
  go_enter Try.func20, Try.ntmps20
  go_wp2
  go_loop [3, 8] (fun st i => ∃ k : Nat, k ≤ ts.length ∧ i = .int .i64 k ∧ st = .string (Tx.bs (Tx.joined (ts.take k)))) (fun _ i => ts.length - (intOf i).toNat)
  case atStart => exact ⟨0, Nat.zero_le _, rfl, rfl⟩
  case round =>
    obtain ⟨k, hk, rfl, rfl⟩ := hrel
    by_cases hlt : k < ts.length
    · obtain ⟨t, ht⟩ : ∃ t, ts[k]? = some t := ⟨_, List.getElem?_eq_getElem hlt⟩
      have hcell : w.cell? ⟨g, k, none⟩ = some (.string (Tx.bs t)) := HW.out.2.2.2 k t ht
      have hroom := join_room ts k t ht
      cases k with
      | zero =>
        have E : Hid (Tx.bs (Tx.joined []) ++ Tx.bs t = Tx.bs (Tx.joined (ts.take 1))) := join_first ts t ht
        have hroom0 : (Tx.bs (Tx.joined [])).size + (Tx.bs t).size ≤ (Tx.joined ts).length := hroom
        clear ht hroom
        go_wp2
        go_round
        case rel => exact ⟨1, by omega, rfl, by rw [E.out]⟩
        case measure => simp [intOf]; omega
      | succ k =>
        have E : Hid (Tx.bs (Tx.joined (ts.take (k + 1))) ++ ⟨#[32]⟩ ++ Tx.bs t = Tx.bs (Tx.joined (ts.take (k + 1 + 1)))) := join_next ts (k + 1) t (by omega) ht
        clear ht
        go_wp2
        go_round
        case rel => exact ⟨k + 1 + 1, by omega, by go_num, by rw [E.out]⟩
        case measure => simp [intOf]; omega
    · obtain rfl : k = ts.length := by omega
      go_wp2
      go_ret
      exact ⟨rfl, rfl⟩

set_option maxHeartbeats 400000 in
theorem rjoin_none (w : World) :
    Calls Try.prog 20 #[.slice none 0 0] w fun e w' => e = .returned (.string ⟨#[]⟩) ∧ w' = w := by
  go_enter Try.func20, Try.ntmps20
  go_wp2
  refine wp_loop_rounds 1 ?_
  rw [rounds_succ]
  go_wp2
  go_ret
  exact ⟨rfl, rfl⟩

set_option maxHeartbeats 400000 in
theorem rsqueeze_any (s : ByteArray) (w : World) (hs : s.size ≤ 4194304) : Calls Try.prog 11 #[.string s] w fun e w' =>
    e = .returned (.string (sqz s)) ∧ Below w.heap.size w w' := by
  have h1 := toksOf_len s
  have h2 := joined_len s
  by_cases hne : toksOf s = []
  · have e : sqz s = ⟨#[]⟩ := by
      unfold sqz Tx.squeeze
      have : Tx.toks s.data.toList = [] := hne
      rw [this]
      rfl
    rw [e]
    go_enter Try.func11, Try.ntmps11
    go_wp2_with fail
    refine (rtokens_none s _ hs hne).mono ?_
    rintro e w1 ⟨rfl, hb1⟩
    go_wp2_with fail
    refine (rjoin_none _).mono ?_
    rintro e w2 ⟨rfl, rfl⟩
    go_wp2
    go_ret
    exact ⟨rfl, hb1⟩
  · go_enter Try.func11, Try.ntmps11
    go_wp2_with fail
    refine (rtokens_some s _ hs hne).mono ?_
    rintro e w1 ⟨g, c, rfl, hW, hb1⟩
    go_wp2_with fail
    refine (rjoin_words (toksOf s) w.heap.size g c w1 hW (by omega) (by omega)).mono ?_
    rintro e w2 ⟨rfl, hw2⟩
    subst hw2
    go_wp2
    go_ret
    exact ⟨rfl, hb1⟩

theorem low_next (s : ByteArray) (k : Nat) (h : k < s.size) : Tx.bs (lowL (s.data.toList.take k)) ++ ⟨#[lowB s[k]]⟩ = Tx.bs (lowL (s.data.toList.take (k + 1))) := by
  rw [take_snoc s k h]
  apply ByteArray.ext
  rw [ByteArray.data_append]
  unfold lowL Tx.bs
  simp
theorem low_room (s : ByteArray) (k : Nat) (h : k ≤ s.size) : (Tx.bs (lowL (s.data.toList.take k))).size = k := by
  show (lowL (s.data.toList.take k)).length = k
  rw [lowL_len, take_len s k h]
theorem one_byte (w : World) (x : Int) (d : UInt8) (hx : (d.toNat : Int) = x) :
    (convert 30 9 (.slice (some ⟨w.heap.size, 0, none⟩) 1 1)).run Try.prog (w.alloc (.cells #[.int .u8 x] 5)) = .ok (.string ⟨#[d]⟩) (w.alloc (.cells #[.int .u8 x] 5)) :=
  run_convert_bytes_back (P := Try.prog) (w.alloc (.cells #[.int .u8 x] 5)) 30 9 5 ⟨w.heap.size, 0, none⟩ 1 [d] Try.underlying30 Try.underlying5 Try.underlying9 (fun j hj => by
    obtain rfl : j = 0 := by simp at hj; exact hj
    have h := cell_one_new w (.int .u8 x) 5 0 (.int .u8 x) rfl
    rw [h]
    show _ = some (Value.int .u8 (d.toNat : Int))
    rw [hx])

set_option maxHeartbeats 800000 in
set_option maxRecDepth 100000 in
theorem rlower_any (s : ByteArray) (w : World) (hs : s.size ≤ 4194304) : Calls Try.prog 9 #[.string s] w fun e w' =>
    e = .returned (.string (Tx.bs (lowL s.data.toList))) ∧ Below w.heap.size w w' := by
  go_enter Try.func9, Try.ntmps9
  go_wp2
  go_loopw [3, 8] (fun st i wr => ∃ k : Nat, k ≤ s.size ∧ i = .int .i64 k ∧ st = .string (Tx.bs (lowL (s.data.toList.take k))) ∧ Below w.heap.size w wr)
    (fun _ i _ => s.size - (intOf i).toNat)
  case atStart => exact ⟨0, Nat.zero_le _, rfl, rfl, Below.refl _ _⟩
  case round =>
    obtain ⟨k, hk, rfl, rfl, hnx⟩ := hrel
    have hroom : (Tx.bs (lowL (s.data.toList.take k))).size ≤ 4194304 := by rw [low_room s k hk]; omega
    have hsz := hnx.size
    by_cases hlt : k < s.size
    · have E : Hid (Tx.bs (lowL (s.data.toList.take k)) ++ ⟨#[lowB s[k]]⟩ = Tx.bs (lowL (s.data.toList.take (k + 1)))) := low_next s k hlt
      by_cases hc : 65 ≤ s[k].toNat ∧ s[k].toNat ≤ 90
      · have hcv := one_byte wr ((s[k].toNat : Int) - 65 + 97) (lowB s[k]) (lowB_yes _ hc)
        obtain ⟨hc1, hc2⟩ := hc
        go_wp2
        go_roundw
        case rel => exact ⟨k + 1, by omega, by go_num, by rw [E.out], hnx.alloc hsz _⟩
        case measure => simp [intOf]; omega
      · have hcv := one_byte wr (s[k].toNat : Int) (lowB s[k]) (by rw [lowB_no _ hc])
        go_wp2
        all_goals
          go_roundw
          case rel => exact ⟨k + 1, by omega, by go_num, by rw [E.out], hnx.alloc hsz _⟩
          case measure => simp [intOf]; omega
    · obtain rfl : k = s.size := by omega
      have E : Hid (s.data.toList.take s.size = s.data.toList) := take_all s
      go_wp2
      go_ret
      exact ⟨congrArg (fun l => Ending.returned (.string (Tx.bs (lowL l)))) E.out, hnx⟩

end Go.Proofs.Yteapdajkacgeiaa
