/-
  THE WALKS of words.digit, letter, Num and Name.
-/
import Derived.Test.YteapdajkacgeiaaSqz
namespace Go.Proofs.Yteapdajkacgeiaa
open Go.RowKit

def digitB (c : UInt8) : Bool := decide (48 ≤ c.toNat) && decide (c.toNat ≤ 57)
def letterB (c : UInt8) : Bool := decide (97 ≤ c.toNat) && decide (c.toNat ≤ 122)
def okB (c : UInt8) : Bool := letterB c || digitB c || c == 45
def valL (t : List UInt8) : Nat := t.foldl (fun n c => n * 10 + (c.toNat - 48)) 0
def numT (t : List UInt8) : Nat := if 2 < t.length then 0 else if t.all digitB then valL t else 0
def numL : List (List UInt8) → Nat
  | [t] => numT t
  | _ => 0
theorem numT_long (t : List UInt8) (h : 2 < t.length) : numT t = 0 := by unfold numT; rw [if_pos h]
theorem numT_bad (t : List UInt8) (h : t.all digitB = false) : numT t = 0 := by unfold numT; rw [h]; split <;> rfl
theorem numT_good (t : List UInt8) (h : ¬ 2 < t.length) (h2 : t.all digitB = true) : numT t = valL t := by unfold numT; rw [if_neg h, if_pos h2]
def nameL (l : List UInt8) : Bool := !l.isEmpty && decide (l.length ≤ 20) && letterB (l.headD 0) && l.all okB

theorem ret_bool {a b : Bool} (h : a = b) : Ending.returned (.bool a) = .returned (.bool b) := by rw [h]
theorem ret_int {k : IntKind} {a b : Int} (h : a = b) : Ending.returned (.int k a) = .returned (.int k b) := by rw [h]

set_option maxHeartbeats 400000 in
theorem digit_any (c : UInt8) (w : World) : Calls Try.prog 21 #[.int .u8 (c.toNat : Int)] w fun e w' => e = .returned (.bool (digitB c)) ∧ w' = w := by
  by_cases h1 : 48 ≤ c.toNat
  · by_cases h2 : c.toNat ≤ 57
    · have e : digitB c = true := by simp [digitB, h1, h2]
      rw [e]
      go_enter Try.func21, Try.ntmps21
      go_wp2
      go_ret
      exact ⟨ret_bool (by simp; omega), rfl⟩
    · have e : digitB c = false := by simp [digitB, h2]
      rw [e]
      go_enter Try.func21, Try.ntmps21
      go_wp2
      go_ret
      exact ⟨ret_bool (by simp; omega), rfl⟩
  · have e : digitB c = false := by simp [digitB, h1]
    rw [e]
    go_enter Try.func21, Try.ntmps21
    go_wp2
    go_ret
    exact ⟨rfl, rfl⟩

set_option maxHeartbeats 400000 in
theorem letter_any (c : UInt8) (w : World) : Calls Try.prog 22 #[.int .u8 (c.toNat : Int)] w fun e w' => e = .returned (.bool (letterB c)) ∧ w' = w := by
  by_cases h1 : 97 ≤ c.toNat
  · by_cases h2 : c.toNat ≤ 122
    · have e : letterB c = true := by simp [letterB, h1, h2]
      rw [e]
      go_enter Try.func22, Try.ntmps22
      go_wp2
      go_ret
      exact ⟨ret_bool (by simp; omega), rfl⟩
    · have e : letterB c = false := by simp [letterB, h2]
      rw [e]
      go_enter Try.func22, Try.ntmps22
      go_wp2
      go_ret
      exact ⟨ret_bool (by simp; omega), rfl⟩
  · have e : letterB c = false := by simp [letterB, h1]
    rw [e]
    go_enter Try.func22, Try.ntmps22
    go_wp2
    go_ret
    exact ⟨rfl, rfl⟩

/-- the number that the first k bytes make -/
theorem val_snoc (t : List UInt8) (c : UInt8) : valL (t ++ [c]) = valL t * 10 + (c.toNat - 48) := by
  unfold valL
  rw [List.foldl_append]
  rfl
theorem val_le (t : List UInt8) (h : ∀ c ∈ t, digitB c = true) : valL t + 1 ≤ 10 ^ t.length := by
  induction t using Tx.snoc_ind with
  | h0 => exact Nat.le_refl _
  | h1 t c ih =>
    rw [val_snoc, List.length_append]
    have h1 := ih (fun d hd => h d (by simp [hd]))
    have h2 := h c (by simp)
    simp [digitB] at h2
    show _ ≤ 10 ^ (t.length + 1)
    rw [Nat.pow_succ]
    omega

theorem tk_snoc (t : List UInt8) (k : Nat) (c : UInt8) (hc : t[k]? = some c) : t.take (k + 1) = t.take k ++ [c] := by
  rw [List.take_add_one, hc]
  rfl

theorem num_nil (s : ByteArray) (h : toksOf s = []) : numL (toksOf s) = 0 := by rw [h]; rfl
theorem num_two (s : ByteArray) (h : 2 ≤ (toksOf s).length) : numL (toksOf s) = 0 := by
  cases hc : toksOf s with
  | nil => rfl
  | cons a r =>
    cases r with
    | nil => rw [hc] at h; simp at h
    | cons b r => rfl

theorem all_false {t : List UInt8} {p : UInt8 → Bool} {k : Nat} {c : UInt8} (hc : t[k]? = some c) (hp : p c = false) : t.all p = false := by
  rw [List.all_eq_false]
  exact ⟨c, List.mem_of_getElem? hc, by simp [hp]⟩
theorem all_true {t : List UInt8} {p : UInt8 → Bool} (h : ∀ c ∈ t.take t.length, p c = true) : t.all p = true := by
  rw [List.take_length] at h
  rw [List.all_eq_true]
  exact h
theorem take_step {t : List UInt8} {p : UInt8 → Bool} {k : Nat} {c : UInt8} (h : ∀ d ∈ t.take k, p d = true) (hc : t[k]? = some c) (hp : p c = true) : ∀ d ∈ t.take (k + 1), p d = true := by
  intro d hd
  rw [tk_snoc t k c hc] at hd
  rcases List.mem_append.1 hd with h' | h'
  · exact h d h'
  · rw [List.mem_singleton] at h'
    rw [h']
    exact hp

set_option maxHeartbeats 800000 in
set_option maxRecDepth 100000 in
theorem num_any (s : ByteArray) (w : World) (hs : s.size ≤ 4194304) : Calls Try.prog 12 #[.string s] w fun e w' =>
    e = .returned (.int .i64 (numL (toksOf s))) ∧ Below w.heap.size w w' := by
  have hl := toksOf_len s
  rcases Nat.lt_trichotomy (toksOf s).length 1 with h0 | h1 | h2
  · have hn : toksOf s = [] := List.length_eq_zero_iff.1 (by omega)
    have e : numL (toksOf s) = 0 := num_nil s hn
    rw [e]
    go_enter Try.func12, Try.ntmps12
    go_wp2_with fail
    refine (tokens_none s _ hs hn).mono ?_
    rintro e w1 ⟨rfl, hb1⟩
    go_wp2
    go_ret
    exact ⟨rfl, hb1⟩
  · obtain ⟨t, ht⟩ := List.length_eq_one_iff.1 h1
    have hne : toksOf s ≠ [] := by rw [ht]; simp
    have hnum : numL (toksOf s) = numT t := by rw [ht]; rfl
    rw [hnum]
    have cT := tokens_some s w hs hne
    rw [ht] at cT
    clear hnum h1 hne hl
    by_cases hlen : 2 < t.length
    · rw [numT_long t hlen]
      have hlz : (2 : Int) < ((Tx.bs t).size : Int) := by
        have : (Tx.bs t).size = t.length := rfl
        omega
      go_enter Try.func12, Try.ntmps12
      go_wp2_with fail
      refine cT.mono ?_
      rintro e w1 ⟨g, c, rfl, hW, hb1⟩
      have hcell : w1.cell? ⟨g, 0, none⟩ = some (.string (Tx.bs t)) := hW.2.2.2 0 t rfl
      go_wp2
      go_ret
      exact ⟨rfl, hb1⟩
    · have HL : Hid (¬ 2 < t.length) := hlen
      have hz : (Tx.bs t).size = t.length := rfl
      have hlz : ¬ (2 : Int) < (t.length : Int) := by omega
      go_enter Try.func12, Try.ntmps12
      go_wp2_with fail
      refine cT.mono ?_
      rintro e w1 ⟨g, c, rfl, hW, hb1⟩
      have hcell : w1.cell? ⟨g, 0, none⟩ = some (.string (Tx.bs t)) := hW.2.2.2 0 t rfl
      obtain ⟨cap, w2, hconv, hrow⟩ := conv_bytes (Tx.bs t) w1
      rw [hz] at hconv
      go_wp2
      have HR : Hid (Row8 w1.heap.size t w1 w2) := hrow
      clear hconv hrow hcell
      go_loop [4, 24] (fun n i => ∃ k : Nat, k ≤ t.length ∧ i = .int .i64 k ∧ n = .int .i64 (valL (t.take k)) ∧ (∀ d ∈ t.take k, digitB d = true)) (fun _ i => t.length - (intOf i).toNat)
      case atStart => exact ⟨0, Nat.zero_le _, rfl, rfl, fun d hd => by cases hd⟩
      case round =>
        obtain ⟨k, hk, rfl, rfl, hall⟩ := hrel
        have HA : Hid (∀ d ∈ t.take k, digitB d = true) := hall
        have hv := val_le (t.take k) hall
        have htl : (t.take k).length = k := by rw [List.length_take]; omega
        rw [htl] at hv
        clear hall htl
        by_cases hlt : k < t.length
        · have hk2 : k = 0 ∨ k = 1 := by omega
          have hv9 : valL (t.take k) ≤ 9 := by
            rcases hk2 with rfl | rfl
            · rw [Nat.pow_zero] at hv; omega
            · rw [Nat.pow_one] at hv; omega
          clear hv hk2
          obtain ⟨d, hd⟩ : ∃ d, t[k]? = some d := ⟨_, List.getElem?_eq_getElem hlt⟩
          have hcell : w2.cell? ⟨w1.heap.size, k, none⟩ = some (.int .u8 (d.toNat : Int)) := HR.out.1 k d hd
          have HD : Hid (t[k]? = some d) := hd
          clear hd
          cases hb : digitB d with
          | true =>
            have h48 : 48 ≤ d.toNat ∧ d.toNat ≤ 57 := by simpa [digitB] using hb
            obtain ⟨h48, h57⟩ := h48
            go_wp2_with (go_at_call 21; refine (digit_any _ _).mono ?_; rintro e w' ⟨rfl, hww⟩; subst hww)
            go_round
            case rel => exact ⟨k + 1, by omega, by go_num, by rw [tk_snoc t k d HD.out, val_snoc]; go_num, take_step HA.out HD.out hb⟩
            case measure => simp [intOf]; omega
          | false =>
            go_wp2_with (go_at_call 21; refine (digit_any _ _).mono ?_; rintro e w' ⟨rfl, hww⟩; subst hww)
            go_ret
            exact ⟨ret_int (by rw [numT_bad t (all_false HD.out hb)]; rfl), hb1.trans (HR.out.2.2.1.mono hb1.size)⟩
        · obtain rfl : k = t.length := by omega
          go_wp2
          go_ret
          exact ⟨ret_int (by rw [numT_good t HL.out (all_true HA.out)]), hb1.trans (HR.out.2.2.1.mono hb1.size)⟩
  · have e : numL (toksOf s) = 0 := num_two s h2
    have hne : toksOf s ≠ [] := by intro h; rw [h] at h2; simp at h2
    rw [e]
    have hb : (((toksOf s).length : Int) == 1) = false := by simp; omega
    go_enter Try.func12, Try.ntmps12
    go_wp2_with fail
    refine (tokens_some s _ hs hne).mono ?_
    rintro e w1 ⟨g, c, rfl, hW, hb1⟩
    go_wp2
    go_ret
    exact ⟨rfl, hb1⟩

end Go.Proofs.Yteapdajkacgeiaa
