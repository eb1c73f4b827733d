/-
  OWN WORK: Nmc, Nna, Vcb, Vcc, Vcd, Vce, Nmk, Oas, Nst.
-/
import Derived.Test.YtcinjbolflhjmadGreatDoorP11
import Derived.Test.YtcinjbolflhjmadGreatDoorP7
import Derived.Test.YtcinjbolflhjmadGreatDoorP9
import Derived.Test.YtcinjbolflhjmadGreatDoorP8
import Derived.Test.YtcinjbolflhjmadGreatDoorP5
import Derived.Deep.Strs
import Derived.Test.YtcinjbolflhjmadGreatDoorP3
/-
  PLAIN MATHEMATICS: nobody is asked twice; how long names are; who was asked is who was had, and what that one is shown in.
-/
namespace Go.Proofs.YtcinjbolflhjmadGreatDoor
open Tn

/-! ### texts are no longer than what came in -/
def Vt (n : Nd) : Prop := n.text.size ≤ 4194304
theorem vt_stays (x : Chg) (hv : x.value.size ≤ 4194304) : Stays (fun _ n => Vt n) x := by
  refine ⟨fun _ _ _ h => h, fun _ _ _ _ _ h => h, fun _ n s l h _ _ => ?_, fun _ _ => nil_size, fun _ _ _ _ => hv, fun _ _ h _ => h, fun _ _ h _ => h, fun _ _ _ _ h _ => h, fun _ m s _ => ?_⟩
  · cases s <;> exact h
  · unfold newN
    split
    · exact hv
    · exact nil_size
theorem build_vt {l : List Chg} (hl : ∀ x ∈ l, x.value.size ≤ 4194304 ∧ x.name.size ≤ 4194304) (j : Nat) : Vt (nd (Tn.build l) j) :=
  build_stays (P := fun _ n => Vt n) (fun x hx => vt_stays x (hl x hx).1) (by show (root).text.size ≤ 4194304; decide) (fun _ _ => nil_size) j

/-! ### whom one may ask is a node -/
theorem find_lv {d : Dc} (h : Fine d) {n : Int} {id : ByteArray} {k : Nat} (hk : findD d n id = (k : Int)) : lvD d k = true := by
  unfold findD at hk
  split at hk
  · omega
  · obtain ⟨r, hr, _⟩ := h.good.tr
    split at hk
    · rename_i j hj
      have : j = k := by omega
      subst this
      exact (all_desc hr fuel 0 j (List.mem_of_find?_eq_some hj) hr.1.root).1
    · omega
theorem find_neg {d : Dc} {n : Int} {id : ByteArray} : findD d n id = -1 ∨ ∃ k : Nat, findD d n id = (k : Int) := by
  unfold findD
  split
  · exact Or.inl rfl
  · split
    · exact Or.inr ⟨_, rfl⟩
    · exact Or.inl rfl
theorem inside_lv {d : Dc} (h : Fine d) {l : List Cl} (hl : Forest d l) {n x : Nat} (hx : x ∈ insideD d l (n : Int)) : lvD d x = true := by
  unfold insideD at hx
  rcases List.mem_append.mp hx with hx | hx
  · exact (kid_par h (List.mem_filter.mp hx).1).2.1
  · obtain ⟨c, hc, e⟩ := List.mem_map.mp hx
    rw [← e]
    exact sh_lv h (hl.own c (List.mem_filter.mp hc).1).2.1
theorem all_lv {d : Dc} (h : Fine d) {x : Nat} (hx : x ∈ all fuel d 0) : lvD d x = true := by
  obtain ⟨r, hr, _⟩ := h.good.tr
  exact (all_desc hr fuel 0 x hx hr.1.root).1

/-! ### nobody twice -/
structure OkS (d : Dc) (s : St) : Prop where
  nodup : s.had.Nodup
  live : ∀ x ∈ s.had, lvD d x = true
  nodupL : s.lst.Nodup
  liveL : ∀ x ∈ s.lst, lvD d x = true
theorem OkS.few {d : Dc} (h : Fine d) {s : St} (o : OkS d s) : s.had.length ≤ 60 :=
  Nat.le_trans (nodup_le d.length s.had o.nodup (fun x hx => lv_lt (o.live x hx))) h.good.len.2
theorem OkS.add {d : Dc} {s : St} (o : OkS d s) {n : Nat} (hn : lvD d n = true) (hx : n ∉ s.had) : OkS d (st1 d n s) := by
  refine ⟨?_, ?_, o.nodupL, o.liveL⟩
  · unfold st1
    rw [List.nodup_append]
    exact ⟨o.nodup, by simp, fun a ha b hb e => by simp at hb; subst hb; subst e; exact hx ha⟩
  · unfold st1
    intro x h
    rw [List.mem_append, List.mem_singleton] at h
    rcases h with h | rfl
    · exact o.live x h
    · exact hn

/-- a list of nodes, none of them twice -/
structure OkL (d : Dc) (l : List Nat) : Prop where
  nodup : l.Nodup
  live : ∀ x ∈ l, lvD d x = true
theorem OkL.few {d : Dc} (h : Fine d) {l : List Nat} (o : OkL d l) : l.length ≤ 60 :=
  Nat.le_trans (nodup_le d.length l o.nodup (fun x hx => lv_lt (o.live x hx))) h.good.len.2
theorem OkS.okl {d : Dc} {s : St} (o : OkS d s) : OkL d s.lst := ⟨o.nodupL, o.liveL⟩
theorem OkL.add {d : Dc} {l : List Nat} (o : OkL d l) {n : Nat} (hn : lvD d n = true) (hx : n ∉ l) : OkL d (l ++ [n]) := by
  refine ⟨?_, fun x h => ?_⟩
  · rw [List.nodup_append]
    exact ⟨o.nodup, by simp, fun a ha b hb e => by simp at hb; subst hb; subst e; exact hx ha⟩
  · rw [List.mem_append, List.mem_singleton] at h
    rcases h with h | rfl
    · exact o.live x h
    · exact hn
/-- what comes of marking -/
structure Marked (d : Dc) (l t : List Nat) : Prop where
  ok : OkL d t
  len : l.length ≤ t.length
theorem Marked.trans {d : Dc} {l t u : List Nat} (h : Marked d l t) (k : Marked d t u) : Marked d l u := ⟨k.ok, Nat.le_trans h.len k.len⟩
theorem fold_mark {d : Dc} {g : List Nat → Nat → List Nat} (hg : ∀ l k, OkL d l → lvD d k = true → Marked d l (g l k)) : ∀ (ks l : List Nat), (∀ k ∈ ks, lvD d k = true) → OkL d l → Marked d l (ks.foldl g l)
  | [], l, _, o => ⟨o, Nat.le_refl _⟩
  | k :: ks, l, hk, o => by
    rw [List.foldl_cons]
    have h1 := hg l k o (hk k (by simp))
    exact h1.trans (fold_mark hg ks _ (fun x hx => hk x (by simp [hx])) h1.ok)
theorem mark_ok {d : Dc} (h : Fine d) {c : List Cl} (hc : Forest d c) : ∀ (f n : Nat) (l : List Nat), OkL d l → lvD d n = true → Marked d l (markF f d c n l)
  | 0, _, _, o, _ => ⟨o, Nat.le_refl _⟩
  | f + 1, n, l, o, hn => by
    rw [markF]
    split
    · exact ⟨o, Nat.le_refl _⟩
    · rename_i q
      have q : n ∉ l := by simpa using q
      have h1 : Marked d l (l ++ [n]) := ⟨o.add hn q, by simp⟩
      exact h1.trans (fold_mark (fun l k ol hk => mark_ok h hc f k l ol hk) _ _ (fun k hk => inside_lv h hc hk) h1.ok)

/-- who was asked: base, and the lines of those that were had -/
def Cov (d : Dc) (base : List Nat) (s : St) : Prop := ∀ k, k ∈ s.asked ↔ k ∈ base ∨ ∃ x ∈ s.had, k ∈ lineD d (x : Int)
theorem Cov.add {d : Dc} {base : List Nat} {s : St} (h : Cov d base s) (n : Nat) : Cov d base (st1 d n s) := by
  intro k
  unfold st1
  simp only [List.mem_append, List.mem_singleton]
  rw [h k]
  constructor
  · rintro ((h | ⟨x, hx, hk⟩) | h)
    · exact Or.inl h
    · exact Or.inr ⟨x, Or.inl hx, hk⟩
    · exact Or.inr ⟨n, Or.inr rfl, h⟩
  · rintro (h | ⟨x, hx | rfl, hk⟩)
    · exact Or.inl (Or.inl h)
    · exact Or.inl (Or.inr ⟨x, hx, hk⟩)
    · exact Or.inr hk

theorem lineF_len64 (d : Dc) (n : Nat) : (lineD d (n : Int)).length ≤ 64 := line_len d _
/-- what came of it: more were had; nobody twice; who was asked -/
structure Went (d : Dc) (s t : St) : Prop where
  ok : OkS d t
  sub : ∀ x ∈ s.had, x ∈ t.had
  len : s.had.length ≤ t.had.length
  cov : ∀ base, Cov d base s → Cov d base t
  ask : t.asked.length + 64 * s.had.length ≤ s.asked.length + 64 * t.had.length
theorem Went.refl {d : Dc} {s : St} (o : OkS d s) : Went d s s := ⟨o, fun _ h => h, Nat.le_refl _, fun _ h => h, Nat.le_refl _⟩
theorem Went.trans {d : Dc} {s t u : St} (h : Went d s t) (k : Went d t u) : Went d s u := ⟨k.ok, fun x hx => k.sub x (h.sub x hx), Nat.le_trans h.len k.len, fun b hb => k.cov b (h.cov b hb), by have := h.ask; have := k.ask; omega⟩

def VL : Nat := 4194306
/-- an answer of a namer that was asked for one that was not had -/
structure Said1 (d : Dc) (s : St) (r : ByteArray × St) : Prop where
  went : Went d s r.2
  more : s.had.length + 1 ≤ r.2.had.length
  size : r.1.size + 1 ≤ VL * (r.2.had.length - s.had.length)
/-- it answers so from m on -/
def Nok (d : Dc) (m : Nat) (nm : Nmr) : Prop := ∀ st n w, OkS d st → m ≤ st.had.length → lvD d n = true → n ∉ st.had → Said1 d st (nm st n w)

def sumS : List ByteArray → Nat
  | [] => 0
  | s :: l => s.size + 1 + sumS l
theorem sum_app : ∀ (a b : List ByteArray), sumS (a ++ b) = sumS a + sumS b
  | [], b => by simp [sumS]
  | x :: a, b => by
    rw [List.cons_append, sumS, sumS, sum_app a b]
    omega
theorem joined_sum : ∀ (l : List ByteArray), (Tx.joined (txs l)).length ≤ sumS l
  | [] => by simp [txs, Tx.joined_nil]
  | [x] => by
    show (Tx.joined [x.data.toList]).length ≤ sumS [x]
    rw [Tx.joined_one, sumS, sumS, ← Lib.size_eq]
    omega
  | x :: y :: l => by
    have h := joined_sum (y :: l)
    show (Tx.joined (x.data.toList :: y.data.toList :: txs l)).length ≤ sumS (x :: y :: l)
    rw [Tx.joined_cons, List.length_append, List.length_cons, sumS, ← Lib.size_eq]
    have e : (Tx.joined (txs (y :: l))).length = (Tx.joined (y.data.toList :: txs l)).length := rfl
    omega
theorem joinB_size (l : List ByteArray) : (joinB l).size ≤ sumS l := joined_sum l
theorem sqz_size (s : ByteArray) : (Wd.sqz s).size ≤ s.size := by
  have := Wd.joined_len s
  exact this

structure EachR (d : Dc) (s t : List ByteArray × St) : Prop where
  went : Went d s.2 t.2
  sum : sumS t.1 ≤ sumS s.1 + VL * (t.2.had.length - s.2.had.length)
  len : t.1.length ≤ s.1.length + (t.2.had.length - s.2.had.length)

/-- one that says so, whoever is asked -/
def Nok1 (d : Dc) (m : Nat) (nm : St → Nat → ByteArray × St) : Prop := ∀ st n, OkS d st → m ≤ st.had.length → lvD d n = true → n ∉ st.had → Said1 d st (nm st n)
theorem Nok.one {d : Dc} {m : Nat} {nm : Nmr} (h : Nok d m nm) (w : Bool) : Nok1 d m (fun s k => nm s k w) := fun st n => h st n w
theorem Nok.tag {d : Dc} (hF : Fine d) {c : List Cl} (hC : Forest d c) {m : Nat} {nm : Nmr} (h : Nok d m nm) : Nok1 d m (tagN nm d c) := fun st n ho hm hn hx => by
  have hM := mark_ok hF hC 64 n st.lst ho.okl hn
  have h1 := h (markS d c n st) n true ⟨ho.nodup, ho.live, hM.ok.nodup, hM.ok.live⟩ hm hn hx
  exact ⟨⟨h1.went.ok, h1.went.sub, h1.went.len, fun b hb => h1.went.cov b hb, h1.went.ask⟩, h1.more, h1.size⟩
theorem each_step {d : Dc} {m : Nat} {nm : St → Nat → ByteArray × St} (hN : Nok1 d m nm) {k : Int} (hk : ∀ j : Nat, k = (j : Int) → lvD d j = true) {s : List ByteArray × St} (ho : OkS d s.2) (hm : m ≤ s.2.had.length) :
    EachR d s (if 0 ≤ k ∧ s.2.had.contains k.toNat = false then (s.1 ++ [(nm s.2 k.toNat).1], (nm s.2 k.toNat).2) else s) := by
  split
  · rename_i q
    obtain ⟨j, rfl⟩ : ∃ j : Nat, k = (j : Int) := ⟨k.toNat, by omega⟩
    rw [Int.toNat_natCast] at *
    have hj : j ∉ s.2.had := by simpa using q.2
    have h := hN s.2 j ho hm (hk j rfl) hj
    refine ⟨h.went, ?_, ?_⟩
    · show sumS (s.1 ++ [(nm s.2 j).1]) ≤ _
      rw [sum_app, sumS, sumS]
      have := h.size
      show sumS s.1 + ((nm s.2 j).1.size + 1 + 0) ≤ sumS s.1 + VL * ((nm s.2 j).2.had.length - s.2.had.length)
      omega
    · have := h.more
      show (s.1 ++ [(nm s.2 j).1]).length ≤ s.1.length + ((nm s.2 j).2.had.length - s.2.had.length)
      rw [List.length_append]
      simp
      omega
  · exact ⟨Went.refl ho, by omega, by omega⟩
theorem EachR.trans {d : Dc} {s t u : List ByteArray × St} (h : EachR d s t) (k : EachR d t u) : EachR d s u := by
  refine ⟨h.went.trans k.went, ?_, ?_⟩
  · have h1 := h.went.len
    have h2 := k.went.len
    have h3 := h.sum
    have h4 := k.sum
    have e : u.2.had.length - s.2.had.length = (t.2.had.length - s.2.had.length) + (u.2.had.length - t.2.had.length) := by omega
    rw [e, Nat.mul_add]
    omega
  · have h1 := h.went.len
    have h2 := k.went.len
    have h3 := h.len
    have h4 := k.len
    omega
theorem each_went {d : Dc} {m : Nat} {nm : St → Nat → ByteArray × St} (hN : Nok1 d m nm) : ∀ (ks : List Int) (s : List ByteArray × St), (∀ k ∈ ks, ∀ j : Nat, k = (j : Int) → lvD d j = true) → OkS d s.2 → m ≤ s.2.had.length → EachR d s (eachF nm ks s)
  | [], s, _, ho, _ => ⟨Went.refl ho, by simp [eachF], by simp [eachF]⟩
  | k :: ks, s, hk, ho, hm => by
    rw [eachF]
    have h1 := each_step hN (hk k (by simp)) ho hm
    exact h1.trans (each_went hN ks _ (fun x hx => hk x (by simp [hx])) h1.went.ok (Nat.le_trans hm h1.went.len))
/-- names of several, joined and squeezed -/
theorem join_went {d : Dc} {st : St} {t : List ByteArray × St} (h : EachR d ([], st) t) : Went d st (joinF t).2 ∧ (joinF t).1.size ≤ VL * ((joinF t).2.had.length - st.had.length) := by
  refine ⟨h.went, ?_⟩
  have h1 := h.sum
  have h2 := joinB_size t.1
  have h3 := sqz_size (joinB t.1)
  show (Wd.sqz (joinB t.1)).size ≤ VL * (t.2.had.length - st.had.length)
  simp only [sumS] at h1
  omega

theorem refs_lv {d : Dc} (h : Fine d) (n : Int) (name : ByteArray) : ∀ k ∈ refsD d n name, ∀ j : Nat, k = (j : Int) → lvD d j = true := by
  intro k hk j e
  unfold refsD at hk
  obtain ⟨t, _, ht⟩ := List.mem_map.mp hk
  exact find_lv h (ht.trans e)
theorem ins_lv {d : Dc} (h : Fine d) {c : List Cl} (hc : Forest d c) (n : Nat) : ∀ k ∈ (insideD d c (n : Int)).map Int.ofNat, ∀ j : Nat, k = (j : Int) → lvD d j = true := by
  intro k hk j e
  obtain ⟨x, hx, ex⟩ := List.mem_map.mp hk
  have : x = j := by
    have : (x : Int) = (j : Int) := ex.trans e
    omega
  subst this
  exact inside_lv h hc hx

section
variable {d : Dc} (hF : Fine d) (hV : ∀ j, Vn (nd d j)) (hT : ∀ j, Vt (nd d j)) {c : List Cl} (hC : Forest d c) {m : Nat} {nm : Nmr} (hN : Nok d m nm)
include hF hN
include hC in
theorem list_went (n : Int) (name : ByteArray) {st : St} (ho : OkS d st) (hm : m ≤ st.had.length) : Went d st (listD nm d c n name st).2 ∧ (listD nm d c n name st).1.size ≤ VL * ((listD nm d c n name st).2.had.length - st.had.length) :=
  join_went (each_went (hN.tag hF hC) _ ([], st) (refs_lv hF n name) ho hm)
include hC in
theorem stepA_went (n : Nat) (within : Bool) {st : St} (ho : OkS d st) (hm : m ≤ st.had.length) : Went d st (stepA nm d c n within st).2 ∧ (stepA nm d c n within st).1.size ≤ VL * ((stepA nm d c n within st).2.had.length - st.had.length) := by
  unfold stepA
  split
  · exact ⟨Went.refl ho, by show (0 : Nat) ≤ _; exact Nat.zero_le _⟩
  · exact list_went hF hC hN (n : Int) _ ho hm
omit hN in
theorem label_lv {n : Int} {had : List Nat} {k : Nat} (h : labelFor d n had = some k) : lvD d k = true ∧ k ∉ had := by
  unfold labelFor at h
  split at h
  · refine ⟨all_lv hF (List.mem_of_find?_eq_some h), ?_⟩
    have := List.find?_some h
    unfold labelP at this
    simp at this
    exact this.2
  · cases h
include hV in
theorem stepB_went (n : Nat) {st : St} (ho : OkS d st) (hm : m ≤ st.had.length) : Went d st (stepB nm d n st).2 ∧ (stepB nm d n st).1.size + 1 ≤ VL + VL * ((stepB nm d n st).2.had.length - st.had.length) := by
  unfold stepB
  split
  · refine ⟨Went.refl ho, ?_⟩
    have := said_size hV (n : Int) ⟨#[97, 108, 116]⟩
    unfold VL
    show (saidN d (n : Int) ⟨#[97, 108, 116]⟩).size + 1 ≤ _
    omega
  · split
    · rename_i k hk
      have hl := label_lv hF hk
      have h := hN st k true ho hm hl.1 hl.2
      refine ⟨h.went, ?_⟩
      have := h.size
      omega
    · refine ⟨Went.refl ho, ?_⟩
      show (0 : Nat) + 1 ≤ _
      unfold VL
      omega
include hC in
theorem stepC_went (n : Nat) (within : Bool) {st : St} (ho : OkS d st) (hm : m ≤ st.had.length) : Went d st (stepC nm d c n within st).2 ∧ (stepC nm d c n within st).1.size ≤ VL * ((stepC nm d c n within st).2.had.length - st.had.length) := by
  unfold stepC
  split
  · exact join_went (each_went (hN.one true) _ ([], st) (ins_lv hF hC n) ho hm)
  · exact ⟨Went.refl ho, by show (0 : Nat) ≤ _; exact Nat.zero_le _⟩

/-- one that is at most one longer than what was had -/
def Fit1 (d : Dc) (s : St) (r : ByteArray × St) : Prop := Went d s r.2 ∧ r.1.size + 1 ≤ VL + VL * (r.2.had.length - s.had.length)
omit hN hF in
theorem fit_trans {s t : St} {r : ByteArray × St} (h : Went d s t) (k : Fit1 d t r) : Fit1 d s r := by
  refine ⟨h.trans k.1, ?_⟩
  have h1 := h.len
  have h2 := k.1.len
  have h3 := k.2
  have e : r.2.had.length - s.had.length = (t.had.length - s.had.length) + (r.2.had.length - t.had.length) := by omega
  rw [e, Nat.mul_add]
  omega
omit hN hF in
include hV in
theorem fit_said (n : Int) (name : ByteArray) {st : St} (ho : OkS d st) : Fit1 d st (saidN d n name, st) := by
  refine ⟨Went.refl ho, ?_⟩
  have := said_size hV n name
  unfold VL
  show (saidN d n name).size + 1 ≤ _
  omega
omit hN hF in
theorem fit_of {s : St} {r : ByteArray × St} (h : Went d s r.2 ∧ r.1.size ≤ VL * (r.2.had.length - s.had.length)) : Fit1 d s r := ⟨h.1, by have := h.2; unfold VL at *; omega⟩
include hV hC in
theorem tailB_fit (n : Nat) (within : Bool) {s : St} {b : ByteArray × St} (hb : Fit1 d s b) (hm : m ≤ s.had.length) : Fit1 d s (tailB nm d c n within b) := by
  unfold tailB
  split
  · exact hb
  · have h1 := stepC_went hF hC hN n within hb.1.ok (Nat.le_trans hm hb.1.len)
    unfold tailC
    split
    · exact fit_trans hb.1 (fit_of h1)
    · exact fit_trans (hb.1.trans h1.1) (fit_said hV (n : Int) _ h1.1.ok)
include hV hC in
theorem tailA_fit (n : Nat) (within : Bool) {s : St} {a : ByteArray × St} (ha : Fit1 d s a) (hm : m ≤ s.had.length) : Fit1 d s (tailA nm d c n within a) := by
  unfold tailA
  split
  · exact ha
  · split
    · exact fit_trans ha.1 (fit_said hV (n : Int) _ ha.1.ok)
    · split
      · exact fit_trans ha.1 (fit_said hV (n : Int) _ ha.1.ok)
      · exact tailB_fit hF hV hC hN n within (fit_trans ha.1 (stepB_went hF hV hN n ha.1.ok (Nat.le_trans hm ha.1.len))) hm
include hV hT hC in
theorem nameG_ok : Nok d (m - 1) (nameG nm d c) := by
  intro st n w ho hm hn hx
  have o1 := ho.add hn hx
  have hl1 : (st1 d n st).had.length = st.had.length + 1 := by unfold st1; simp
  have w1 : Went d st (st1 d n st) := ⟨o1, fun x h => by unfold st1; simp [h], by omega, fun b hb => hb.add n, by
    have := lineF_len64 d n
    unfold st1
    simp only [List.length_append, List.length_singleton]
    omega⟩
  have key : Fit1 d (st1 d n st) (nameG nm d c st n w) := by
    unfold nameG
    split
    · exact ⟨Went.refl o1, by show (0 : Nat) + 1 ≤ _; unfold VL; omega⟩
    · split
      · refine ⟨Went.refl o1, ?_⟩
        have h1 := sqz_size (nd d n).text
        have h2 : (nd d n).text.size ≤ 4194304 := hT n
        show (Wd.sqz (nd d n).text).size + 1 ≤ _
        unfold VL
        omega
      · exact tailA_fit hF hV hC hN n w (fit_of (stepA_went hF hC hN n w o1 (by omega))) (by omega)
  have h2 := key.1.len
  have h3 := key.2
  refine ⟨w1.trans key.1, by omega, ?_⟩
  have e : (nameG nm d c st n w).2.had.length - st.had.length = 1 + ((nameG nm d c st n w).2.had.length - (st1 d n st).had.length) := by omega
  rw [e, Nat.mul_add]
  omega
end

theorem name_ok {d : Dc} (hF : Fine d) (hV : ∀ j, Vn (nd d j)) (hT : ∀ j, Vt (nd d j)) {c : List Cl} (hC : Forest d c) : ∀ f, Nok d (61 - f) (nameF f d c)
  | 0 => fun st n w ho hm _ _ => absurd (ho.few hF) (by omega)
  | f + 1 => by
    have := nameG_ok hF hV hT hC (name_ok hF hV hT hC f)
    have e : 61 - f - 1 = 61 - (f + 1) := by omega
    rw [e] at this
    exact this
end Go.Proofs.YtcinjbolflhjmadGreatDoor

/-
  THE WALKS of naming's begin, has, mayAsk, said.
-/
namespace Go.Proofs.YtcinjbolflhjmadGreatDoor
open Go.RowKit Go.Maps

/-- a document with the table of kinds, and claims of it -/
structure Nx (w : World) (b o c : Nat) (rs : List Raw) (d : Tn.Dc) (vl : Value) (cl : List Cl) : Prop where
  cx : Cx w b o c rs d
  cls : ClsAt w vl cl
  vt : ∀ j, Vt (Tn.nd d j)
  forest : Forest d cl
theorem Nx.keeps {w w' : World} {b o c : Nat} {rs : List Raw} {d : Tn.Dc} {vl : Value} {cl : List Cl} (h : Nx w b o c rs d vl cl) (k : Keeps w w') (hs : w.heap.size ≤ w'.heap.size) : Nx w' b o c rs d vl cl := ⟨h.cx.keeps k hs, h.cls.keeps k, h.vt, h.forest⟩
theorem Nx.below {w w' : World} {b o c : Nat} {rs : List Raw} {d : Tn.Dc} {vl : Value} {cl : List Cl} (h : Nx w b o c rs d vl cl) (hb : Below w.heap.size w w') : Nx w' b o c rs d vl cl := h.keeps (keeps_below hb (Nat.le_refl _)) hb.size
theorem Nx.bt {S : List Nat} {w w' : World} {b o c : Nat} {rs : List Raw} {d : Tn.Dc} {vl : Value} {cl : List Cl} (h : Nx w b o c rs d vl cl) (hb : Bt S w w') (hm : AreMaps S w) : Nx w' b o c rs d vl cl := h.keeps (hb.keeps hm) hb.size

/-- two blocks are maps -/
theorem maps2 {w : World} {A L : Nat} {S T : List Nat} (h : SetAt w A S) (k : SetAt w L T) : AreMaps [A, L] w := by
  intro x hx
  simp only [List.mem_cons, List.not_mem_nil, or_false] at hx
  rcases hx with rfl | rfl
  · exact h.maps _ (by simp)
  · exact k.maps _ (by simp)
theorem Bt.wide {S T : List Nat} {w w' : World} (h : Bt S w w') (hS : ∀ k ∈ S, k ∈ T) : Bt T w w' := h.forget (fun k hk => Or.inl (hS k hk))
theorem SetAt.bt {w w' : World} {b : Nat} {S T : List Nat} (h : SetAt w b S) (hb : Bt T w w') (hn : b ∉ T) : SetAt w' b S := h.same (hb.block b h.lt hn)
theorem box4' (w : World) (x y z u : Value) (t : Nat) : (w.alloc (.cells #[x, y, z, u] t)).cell? ⟨w.heap.size, 0, none⟩ = some x ∧ (w.alloc (.cells #[x, y, z, u] t)).cell? ⟨w.heap.size, 1, none⟩ = some y ∧ (w.alloc (.cells #[x, y, z, u] t)).cell? ⟨w.heap.size, 2, none⟩ = some z ∧ (w.alloc (.cells #[x, y, z, u] t)).cell? ⟨w.heap.size, 3, none⟩ = some u := by
  refine ⟨?_, ?_, ?_, ?_⟩ <;> rw [World.cell?_alloc_new] <;> simp

set_option maxHeartbeats 1600000 in
theorem nhas_any {w : World} {A : Nat} {S : List Nat} (hS : SetAt w A S) (k : Int) (h1 : -1000 ≤ k) (h2 : k ≤ 1000) :
    Calls Tryz.prog 50 #[.map (some A), .int .i64 k] w fun e w' => e = .returned (.bool (decide (0 ≤ k ∧ k.toNat ∈ S))) ∧ Below w.heap.size w w' := by
  have hlook := hS.look k h1 h2
  generalize decide (0 ≤ k ∧ k.toNat ∈ S) = q at *
  clear hS
  go_enter Tryz.func50, Tryz.ntmps50
  go_wp2_with fail
  go_ret
  exact ⟨rfl, (Below.refl _ _).alloc (Nat.le_refl _) _⟩

set_option maxHeartbeats 1600000 in
theorem nmay_any {w : World} {b o c : Nat} {rs : List Raw} {d : Tn.Dc} (hd : DocAt w b o c rs d) {A : Nat} {L : Option Nat} {S : List Nat} (hS : SetAt w A S) (p : Option Addr) (n1 c1 : Nat) (k : Int) (h1 : -1000 ≤ k) (h2 : k ≤ 1000) :
    Calls Tryz.prog 87 #[.agg #[.slice (some ⟨b, o, none⟩) rs.length c, .slice p n1 c1, .map (some A), .map L], .int .i64 k] w fun e w' => e = .returned (.bool (!decide (0 ≤ k ∧ k.toNat ∈ S) && Tn.isN d k false)) ∧ Below w.heap.size w w' := by
  have B1 := (Below.refl w.heap.size w).alloc (Nat.le_refl _) (.cells #[.slice (some ⟨b, o, none⟩) rs.length c, .slice p n1 c1, .map (some A), .map L] 66)
  have hH := nhas_any (hS.below B1) k h1 h2
  have HD : Hid (DocAt w b o c rs d) := hd
  generalize decide (0 ≤ k ∧ k.toNat ∈ S) = q at *
  have hI : ∀ W, Below w.heap.size w W → Calls Tryz.prog 27 #[.slice (some ⟨b, o, none⟩) rs.length c, .int .i64 k, .bool false] W fun e w' => e = .returned (.bool (Tn.isN d k false)) ∧ w' = W := fun W hb => dis_any (HD.out.keeps (keeps_below hb (Nat.le_refl _))) k false
  generalize Tn.isN d k false = r at *
  clear hS hd
  have C0 := box4' w (.slice (some ⟨b, o, none⟩) rs.length c) (.slice p n1 c1) (.map (some A)) (.map L) 66
  cases q with
  | true =>
    go_enter Tryz.func87, Tryz.ntmps87
    go_wp2_with (go_at_call 50; refine hH.mono ?_; rintro e w2 ⟨rfl, hb2⟩)
    go_ret
    exact ⟨rfl, B1.trans (hb2.mono B1.size)⟩
  | false =>
    obtain ⟨q0, q1, q2, q3⟩ := C0
    go_enter Tryz.func87, Tryz.ntmps87
    go_wp2_with (first
      | (go_at_call 50; refine hH.mono ?_; rintro e w2 ⟨rfl, hb2⟩; have K2 := keeps_below hb2 (Nat.le_refl _); have b0 := K2 _ _ q0; have B2 := B1.trans (hb2.mono B1.size))
      | (go_at_call 27; refine (hI _ B2).mono ?_; rintro e w3 ⟨rfl, hww⟩; subst hww))
    go_ret
    exact ⟨by simp, B2⟩

set_option maxHeartbeats 1600000 in
theorem nsaid_any {w : World} {b o c : Nat} {rs : List Raw} {d : Tn.Dc} (hx : Cx w b o c rs d) (A L : Option Nat) (p : Option Addr) (n1 c1 : Nat) (n : Int) (name : ByteArray) :
    Calls Tryz.prog 55 #[.agg #[.slice (some ⟨b, o, none⟩) rs.length c, .slice p n1 c1, .map A, .map L], .int .i64 n, .string name] w fun e w' => e = .returned (.string (saidN d n name)) ∧ Below w.heap.size w w' := by
  have B1 := (Below.refl w.heap.size w).alloc (Nat.le_refl _) (.cells #[.slice (some ⟨b, o, none⟩) rs.length c, .slice p n1 c1, .map A, .map L] 66)
  have hS := osaid_any (hx.below B1).doc hx.fine.okd hx.vn n name
  generalize saidN d n name = r at *
  go_enter Tryz.func55, Tryz.ntmps55
  go_wp2_with (go_at_call 89; refine hS.mono ?_; rintro e w2 ⟨rfl, hb2⟩)
  go_ret
  exact ⟨rfl, B1.trans (hb2.mono B1.size)⟩
theorem SetAt.set {w : World} {b : Nat} {S : List Nat} (h : SetAt w b S) {a : Addr} (ha : b ≠ a.block) (u : Value) : SetAt (w.setCell a u) b S := by
  obtain ⟨D, h1, h2⟩ := h
  exact ⟨D, h1.setCell ha u, h2⟩

theorem PreAt.set {w : World} {b n : Nat} {S : List Nat} (h : PreAt w b S n) {a : Addr} (ha : b ≠ a.block) (u : Value) : PreAt (w.setCell a u) b S n := by
  obtain ⟨D, h1, h2⟩ := h
  exact ⟨D, h1.setCell ha u, h2⟩

set_option maxHeartbeats 1600000 in
theorem nbegin_any {w : World} (p : Option Addr) (l1 c1 : Nat) (q : Option Addr) (l2 c2 : Nat) (n : Nat) (hn : n ≤ 1000) :
    Calls Tryz.prog 28 #[.slice p l1 c1, .slice q l2 c2, .int .i64 (n : Int)] w fun e w' => ∃ A L, e = .returned (.agg #[.slice p l1 c1, .slice q l2 c2, .map (some A), .map (some L)]) ∧ w.heap.size ≤ A ∧ A < L ∧ (SetAt w' A [n] ∧ PreAt w' A [] n) ∧ SetAt w' L [] ∧ Below w.heap.size w w' := by
  have hmm := @run_makeMap Tryz.prog
  have B0 := (Below.refl w.heap.size w).alloc (Nat.le_refl _) (.cells #[.slice none 0 0, .slice none 0 0, .map none, .map none] 66)
  have z0 : (w.alloc (.cells #[.slice none 0 0, .slice none 0 0, .map none, .map none] 66)).heap.size = w.heap.size + 1 := by simp
  obtain ⟨w1, hrun, r1, r2⟩ := (World.ownsMap_made (w.alloc (.cells #[.slice none 0 0, .slice none 0 0, .map none, .map none] 66)) Tryz.prog 3 (unitElem (H := Unit))).update (t := 64) (e := 82) keyU Tryz.underlying64 (by unfold maxLen; omega) (keyOf_int_mk Tryz.underlying3 (WalkArith.wf_i64 (n := (n : Int)) (by omega))) (unitElem_mk (H := Unit))
  have hz1 : w.heap.size + 2 ≤ w1.heap.size := by have := r2.size; simp at this; omega
  have b1 : w1.heap[w.heap.size]? = some (.cells #[.slice none 0 0, .slice none 0 0, .map none, .map none] 66) := by
    rw [r2.block _ (by simp; omega) (by simp), (MapKept.heap_alloc _ _).2 _ (by simp)]
    exact (MapKept.heap_alloc w _).1
  have b2 : (w1.alloc (.map #[] 0)).heap[w.heap.size]? = some (.cells #[.slice none 0 0, .slice none 0 0, .map none, .map none] 66) := by
    rw [(MapKept.heap_alloc _ _).2 _ (by omega)]
    exact b1
  have P1 : Hid (PreAt (w1.alloc (.map #[] 0)) (w.heap.size + 1) [] n) := by
    have h : PreAt w1 (w.heap.size + 1) [] n := by
      rw [z0] at r1
      refine ⟨_, r1, fun kl hk => ?_, fun k hk => by simp at hk⟩
      rw [has_put ⟨_, rfl⟩] at hk
      exact ⟨n, Or.inr rfl, by simpa [Maps.has] using hk⟩
    exact h.below ((Below.refl _ _).alloc (Nat.le_refl _) _)
  have H1 : Hid (SetAt (w1.alloc (.map #[] 0)) (w.heap.size + 1) [n]) := by
    have h : SetAt w1 (w.heap.size + 1) [n] := by
      rw [z0] at r1
      refine ⟨_, r1.mono (by simp), fun kl => ?_⟩
      rw [has_put ⟨_, rfl⟩]
      simp [Maps.has]
    exact h.below ((Below.refl _ _).alloc (Nat.le_refl _) _)
  have H2 : Hid (SetAt (w1.alloc (.map #[] 0)) w1.heap.size []) := set_made w1
  have G2 : Hid (Below w.heap.size w (w1.alloc (.map #[] 0))) := ((B0.alloc (by simp) (.map #[] 0)).grown r2 (by simp; omega) (fun j hj => by simp at hj; omega)).alloc (by omega) _
  rw [z0] at hrun
  have A1 : ∀ t, (Instr.makeMap t none).run Tryz.prog (w.alloc (.cells #[.slice none 0 0, .slice none 0 0, .map none, .map none] 66)) = .ok (.map (some (w.heap.size + 1))) ((w.alloc (.cells #[.slice none 0 0, .slice none 0 0, .map none, .map none] 66)).alloc (.map #[] 0)) := fun t => by rw [hmm]; simp
  have A2 : ∀ t, (Instr.makeMap t none).run Tryz.prog w1 = .ok (.map (some w1.heap.size)) (w1.alloc (.map #[] 0)) := fun t => hmm t w1
  generalize hw2 : w1.alloc (.map #[] 0) = w2 at *
  have c0 : w2.cell? ⟨w.heap.size, 0, none⟩ = some (.slice none 0 0) := by simp [World.cell?, b2]
  have c1' : w2.cell? ⟨w.heap.size, 1, none⟩ = some (.slice none 0 0) := by simp [World.cell?, b2]
  have c2' : w2.cell? ⟨w.heap.size, 2, none⟩ = some (.map none) := by simp [World.cell?, b2]
  have c3' : w2.cell? ⟨w.heap.size, 3, none⟩ = some (.map none) := by simp [World.cell?, b2]
  have fz : ∀ k, w2.frozen? ⟨w.heap.size, k, none⟩ = false := fun k => by simp [World.frozen?, b2]
  have f0 := fz 0
  have f1 := fz 1
  have f2 := fz 2
  have f3 := fz 3
  clear r1 r2 b1 b2 B0 hmm hw2
  go_enter Tryz.func28, Tryz.ntmps28
  go_wp2_with (fail)
  refine bodyPost_ret (v := .agg #[.slice p l1 c1, .slice q l2 c2, .map (some (w.heap.size + 1)), .map (some w1.heap.size)]) (by simp [results, Tryz.results28, go_sem, c0, c1', c2', c3']) rfl ⟨w.heap.size + 1, w1.heap.size, rfl, by omega, by omega, ⟨?_, ?_⟩, ?_, ?_⟩
  · exact (((H1.out.set (by simp) _).set (by simp) _).set (by simp) _).set (by simp) _
  · exact (((P1.out.set (by simp) _).set (by simp) _).set (by simp) _).set (by simp) _
  · exact (((H2.out.set (by simp; omega) _).set (by simp; omega) _).set (by simp; omega) _).set (by simp; omega) _
  · exact (((G2.out.setCell (p := ⟨w.heap.size, 0, none⟩) (Nat.le_refl _) _).setCell (p := ⟨w.heap.size, 1, none⟩) (Nat.le_refl _) _).setCell (p := ⟨w.heap.size, 2, none⟩) (Nat.le_refl _) _).setCell (p := ⟨w.heap.size, 3, none⟩) (Nat.le_refl _) _
end Go.Proofs.YtcinjbolflhjmadGreatDoor

/-
  PLAIN MATHEMATICS: what tnlaw6's ahead tells; lists of claims, step by step.
-/
namespace Go.Proofs.YtcinjbolflhjmadGreatDoor
open Tn

def askT (d : Dc) (n : Nat) (t : List UInt8) : Int := findD d (n : Int) (Tx.bs t)
theorem asks_toks (d : Dc) (n : Nat) : asksD d n = (Wd.toksOf (valN d (n : Int) ⟨#[97, 114, 105, 97, 45, 111, 119, 110, 115]⟩)).map (askT d n) := rfl

theorem idx_here {α : Type} [BEq α] [LawfulBEq α] {l : List α} {x : α} {j : Nat} (hj : j < l.length) (he : l[j] = x) (hn : ∀ y ∈ l.take j, y ≠ x) : l.idxOf x = j := by
  induction l generalizing j with
  | nil => simp at hj
  | cons a l ih =>
    cases j with
    | zero =>
      have : a = x := he
      rw [this, List.idxOf_cons_self]
    | succ j =>
      have ha : a ≠ x := hn a (by simp)
      rw [List.idxOf_cons, beq_eq_false_iff_ne.mpr ha]
      simp only [cond_false]
      rw [ih (j := j) (by simpa using hj) (by simpa using he) (fun y hy => hn y (by simp [hy]))]
theorem idx_off {α : Type} [BEq α] [LawfulBEq α] {l : List α} {x : α} (hn : ∀ y ∈ l, y ≠ x) : l.idxOf x = l.length := List.idxOf_eq_length (fun h => hn x h rfl)

/-- claims of m, of a list's first so many -/
theorem take_filter {α : Type} (p : α → Bool) (l : List α) (j : Nat) (h : j < l.length) : (l.take (j + 1)).filter p = (l.take j).filter p ++ (if p l[j] then [l[j]] else []) := by
  rw [List.take_succ_eq_append_getElem h, List.filter_append]
  congr 1
  cases hp : p l[j] <;> simp [hp]

def byO (c : List Cl) (m : Nat) : List Cl := c.filter (fun x => decide (x.1 = m))
def byOK (c : List Cl) (n : Nat) (k : Int) : List Cl := c.filter (fun x => decide (x.1 = n) && decide ((x.2 : Int) = k))
theorem ahead_def (c : List Cl) (pre : List Nat) (n : Nat) (ws : List Int) : aheadD c pre n ws = pre.flatMap (byO c) ++ ws.flatMap (byOK c n) := rfl

theorem flat_le {α β : Type} (f : α → List β) (m : Nat) (hf : ∀ a, (f a).length ≤ m) : ∀ l : List α, (l.flatMap f).length ≤ l.length * m
  | [] => by simp
  | a :: l => by
    rw [List.flatMap_cons, List.length_append, List.length_cons, Nat.succ_mul]
    have := flat_le f m hf l
    have := hf a
    omega
theorem byO_le (c : List Cl) (m : Nat) : (byO c m).length ≤ c.length := List.length_filter_le _ _
theorem byOK_le (c : List Cl) (n : Nat) (k : Int) : (byOK c n k).length ≤ c.length := List.length_filter_le _ _

/-- tnlaw6's ahead -/
def aheadW (d : Dc) (sh : List Nat) (c : List Cl) (n : Nat) (t : List UInt8) : List Cl :=
  (sh.take (sh.idxOf n)).flatMap (byO c) ++ (((Wd.toksOf (valN d (n : Int) ⟨#[97, 114, 105, 97, 45, 111, 119, 110, 115]⟩)).take ((Wd.toksOf (valN d (n : Int) ⟨#[97, 114, 105, 97, 45, 111, 119, 110, 115]⟩)).idxOf t)).map (askT d n)).flatMap (byOK c n)

theorem first_law {d : Dc} (h : Fine d) {i : Nat} (hi : i < (shD d).length) {q : Nat} (hq : q < (Wd.toksOf (valN d ((shD d)[i] : Int) ⟨#[97, 114, 105, 97, 45, 111, 119, 110, 115]⟩)).length) {k : Nat}
    (hk : askT d (shD d)[i] (Wd.toksOf (valN d ((shD d)[i] : Int) ⟨#[97, 114, 105, 97, 45, 111, 119, 110, 115]⟩))[q] = (k : Int)) (h1 : 1 ≤ k) (hs : k ∈ shD d) (hno : ∀ c ∈ claimsD d, c.2 ≠ k) :
    seenD d (aheadW d (shD d) (claimsD d) (shD d)[i] (Wd.toksOf (valN d ((shD d)[i] : Int) ⟨#[97, 114, 105, 97, 45, 111, 119, 110, 115]⟩))[q]) (k : Int) (d.length + 1) ((shD d)[i] : Int) = true := by
  have hnd := sh_nodup h
  have e1 : (shD d).idxOf (shD d)[i] = i := List.Nodup.idxOf_getElem hnd i hi
  unfold aheadW
  rw [e1, List.map_take]
  have hm := List.getElem_mem hq
  have hlt := List.idxOf_lt_length_of_mem hm
  have hx := asks_toks d (shD d)[i]
  have he := List.getElem_idxOf hlt
  generalize hQ : (Wd.toksOf (valN d ((shD d)[i] : Int) ⟨#[97, 114, 105, 97, 45, 111, 119, 110, 115]⟩)).idxOf (Wd.toksOf (valN d ((shD d)[i] : Int) ⟨#[97, 114, 105, 97, 45, 111, 119, 110, 115]⟩))[q] = Q at *
  rw [← hx]
  refine first_in h hi (q := Q) (by rw [hx, List.length_map]; exact hlt) ?_ h1 hs hno
  simp only [hx, List.getElem_map]
  rw [he]
  exact hk

/-! ### the claims, turn by turn -/

def accD (d : Dc) (i : Nat) : List Cl := ((shD d).take i).foldl (claimN d) []
theorem acc_zero (d : Dc) : accD d 0 = [] := rfl
theorem acc_succ {d : Dc} {i : Nat} (hi : i < (shD d).length) : accD d (i + 1) = claimN d (accD d i) (shD d)[i] := by
  unfold accD
  rw [List.take_succ_eq_append_getElem hi, List.foldl_append]
  rfl
theorem acc_full (d : Dc) : accD d (shD d).length = claimsD d := by
  unfold accD claimsD
  rw [List.take_length]
theorem out_zero (d : Dc) (i n : Nat) : outD d i n 0 = accD d i := rfl
theorem out_succ {d : Dc} {i n q : Nat} (hq : q < (Wd.toksOf (valN d (n : Int) ⟨#[97, 114, 105, 97, 45, 111, 119, 110, 115]⟩)).length) : outD d i n (q + 1) = claim1 d n (outD d i n q) (askT d n (Wd.toksOf (valN d (n : Int) ⟨#[97, 114, 105, 97, 45, 111, 119, 110, 115]⟩))[q]) := by
  have hq2 : q < (asksD d n).length := by rw [asks_toks, List.length_map]; exact hq
  unfold outD
  rw [List.take_succ_eq_append_getElem hq2, List.foldl_append]
  simp [asks_toks]
theorem out_full (d : Dc) (i n : Nat) : outD d i n (Wd.toksOf (valN d (n : Int) ⟨#[97, 114, 105, 97, 45, 111, 119, 110, 115]⟩)).length = claimN d (accD d i) n := by
  have e : (asksD d n).take (Wd.toksOf (valN d (n : Int) ⟨#[97, 114, 105, 97, 45, 111, 119, 110, 115]⟩)).length = asksD d n := List.take_of_length_le (by rw [asks_toks, List.length_map]; exact Nat.le_refl _)
  unfold outD
  rw [e]
  rfl
theorem way_asks {d : Dc} {n : Nat} : ∀ (ks : List Int) (l : List Cl), wayD d (ks.foldl (claim1 d n) l) (n : Int) = wayD d l (n : Int)
  | [], _ => rfl
  | k :: ks, l => by rw [List.foldl_cons, way_asks ks, way_claim]
theorem way_out (d : Dc) (i n q : Nat) : wayD d (outD d i n q) (n : Int) = wayD d (accD d i) (n : Int) := way_asks _ _
def freeD (sh : List Nat) (l : List Cl) (k : Int) : Bool := decide (1 ≤ k) && sh.contains k.toNat && decide (ownerD l k < 0)
theorem takes_free (d : Dc) (i n q : Nat) (k : Int) : takes d (outD d i n q) n k = (freeD (shD d) (outD d i n q) k && !(wayD d (accD d i) (n : Int)).contains k.toNat) := by
  unfold takes freeD
  rw [way_out]
theorem free_nat {sh : List Nat} {l : List Cl} {k : Int} (h : freeD sh l k = true) : ∃ m : Nat, k = (m : Int) := by
  unfold freeD at h
  simp at h
  exact ⟨k.toNat, by omega⟩
theorem claim_yes {d : Dc} {n : Nat} {l : List Cl} {k : Nat} (h : takes d l n (k : Int) = true) : claim1 d n l (k : Int) = l ++ [(n, k)] := by
  unfold claim1
  rw [if_pos h, Int.toNat_natCast]
theorem claim_no {d : Dc} {n : Nat} {l : List Cl} {k : Int} (h : takes d l n k = false) : claim1 d n l k = l := by
  unfold claim1
  rw [if_neg (by simp [h])]
theorem acc_few {d : Dc} (h : Fine d) (i : Nat) : (accD d i).length ≤ 60 := forest_few h (forest_at h i)
theorem out_few {d : Dc} (h : Fine d) {i : Nat} (hi : i < (shD d).length) (q : Nat) : (outD d i (shD d)[i] q).length ≤ 60 := forest_few h (forest_out h hi q)
end Go.Proofs.YtcinjbolflhjmadGreatDoor

/-
  THE WALKS of owns.Owner and owns.Up, and of the reference's Owner and In.
-/
namespace Go.Proofs.YtcinjbolflhjmadGreatDoor
open Go.RowKit

theorem find_first {α : Type} {p : α → Bool} {l : List α} {j : Nat} (hj : j < l.length) (hp : p l[j] = true) (hn : ∀ k ∈ l.take j, p k = false) : l.find? p = some l[j] := by
  have e : l = l.take j ++ l[j] :: l.drop (j + 1) := by rw [← List.drop_eq_getElem_cons hj, List.take_append_drop]
  have e1 : (l.take j).find? p = none := List.find?_eq_none.mpr (fun x hx => by simp [hn x hx])
  conv => lhs; rw [e]
  rw [List.find?_append, e1, Option.none_or, List.find?_cons, hp]

theorem owner_at {l : List Cl} {n : Int} {j : Nat} (hj : j < l.length) (he : (l[j].2 : Int) = n) (hn : ∀ c ∈ l.take j, (c.2 : Int) ≠ n) : ownerD l n = (l[j].1 : Int) := by
  unfold ownerD
  rw [find_first hj (by simpa using he) (fun c hc => by simpa using hn c hc)]

theorem notyet {l : List Cl} {n : Int} {j : Nat} (hj : j < l.length) (he : (l[j].2 : Int) ≠ n) (hn : ∀ c ∈ l.take j, (c.2 : Int) ≠ n) : ∀ c ∈ l.take (j + 1), (c.2 : Int) ≠ n := by
  intro c hc
  rw [List.take_succ_eq_append_getElem hj, List.mem_append, List.mem_singleton] at hc
  rcases hc with hc | rfl
  · exact hn c hc
  · exact he

set_option maxHeartbeats 800000 in
theorem owner1_any {w : World} {K : Nat} {n : Int} (hK : w.cell? ⟨K, 0, none⟩ = some (.int .i64 n)) (a b : Nat) :
    Calls Tryz.prog 134 #[.agg #[.int .i64 (a : Int), .int .i64 (b : Int)], .pointer (some ⟨K, 0, none⟩)] w fun e w' => e = .returned (.bool ((b : Int) == n)) ∧ Below w.heap.size w w' := by
  have hK2 := keeps_alloc w (.cells #[.int .i64 (a : Int), .int .i64 (b : Int)] 62) _ _ hK
  go_enter Tryz.func134, Tryz.ntmps134
  go_wp2_with fail
  go_ret
  exact ⟨by simp, (Below.refl _ _).alloc (Nat.le_refl _) _⟩

set_option maxHeartbeats 1600000 in
theorem idxC_any {w : World} {vl : Value} {l : List Cl} (hl : ClsAt w vl l) {K : Nat} {n : Int} (hK : w.cell? ⟨K, 0, none⟩ = some (.int .i64 n)) :
    Calls Tryz.prog 133 #[vl, .func (.func 134) #[] #[.pointer (some ⟨K, 0, none⟩)]] w fun e w' => (∃ i : Int, e = .returned (.int .i64 i) ∧ ((i = -1 ∧ ownerD l n = -1) ∨ ∃ j : Nat, ∃ hj : j < l.length, i = (j : Int) ∧ ownerD l n = (l[j].1 : Int))) ∧ Below w.heap.size w w' := by
  obtain ⟨q, cc, rfl, h1, h2, _, hat⟩ := hl.at
  have T : Hid (∀ j (hj : j < l.length), ∃ b o, q = some ⟨b, o, none⟩ ∧ w.cell? ⟨b, o + j * 2, none⟩ = some (.int .i64 (l[j].1 : Int)) ∧ w.cell? ⟨b, o + j * 2 + 1, none⟩ = some (.int .i64 (l[j].2 : Int))) := hat
  have HK : Hid (w.cell? ⟨K, 0, none⟩ = some (.int .i64 n)) := hK
  clear hat hl hK
  go_enter Tryz.func133, Tryz.ntmps133
  go_wp2_with fail
  go_loopw [8] (fun i wr => ∃ j : Nat, j ≤ l.length ∧ i = .int .i64 j ∧ Hid (∀ c ∈ l.take j, (c.2 : Int) ≠ n) ∧ Below w.heap.size w wr) (fun i _ => l.length - (intOf i).toNat)
  case atStart => exact ⟨0, Nat.zero_le _, rfl, fun k hk => by simp at hk, Below.refl _ _⟩
  case round =>
    obtain ⟨j, hj, rfl, NO, hnx⟩ := hrel
    by_cases hlt : j < l.length
    · obtain ⟨e1, o1, rfl, k1, k2⟩ := T.out j hlt
      have y1 := keeps_below hnx (Nat.le_refl _) _ _ k1
      have y2 := keeps_below hnx (Nat.le_refl _) _ _ k2
      clear k1 k2
      have hF := owner1_any (keeps_below hnx (Nat.le_refl _) _ _ HK.out) l[j].1 l[j].2
      have OA := fun he => owner_at (n := n) hlt he NO.out
      have ON := fun he => notyet (n := n) hlt he NO.out
      by_cases hh : (l[j].2 : Int) = n
      · have E : Hid (ownerD l n = (l[j].1 : Int)) := OA hh
        rw [show ((l[j].2 : Int) == n) = true by simpa using hh] at hF
        clear hh OA ON
        generalize hx : l[j].1 = x at *
        generalize l[j].2 = z at *
        go_wp2_with (go_at_call 134; refine hF.mono ?_; rintro e w9 ⟨rfl, hb9⟩)
        go_ret
        exact ⟨⟨_, rfl, Or.inr ⟨j, hlt, rfl, by rw [hx]; exact E.out⟩⟩, hnx.trans (hb9.mono hnx.size)⟩
      · have N2 : Hid (∀ c ∈ l.take (j + 1), (c.2 : Int) ≠ n) := ON hh
        rw [show ((l[j].2 : Int) == n) = false by simpa using hh] at hF
        clear hh OA ON
        generalize l[j].1 = x at *
        generalize l[j].2 = z at *
        go_wp2_with (go_at_call 134; refine hF.mono ?_; rintro e w9 ⟨rfl, hb9⟩)
        go_roundw
        case rel => exact ⟨j + 1, by omega, by go_num, N2, hnx.trans (hb9.mono hnx.size)⟩
        case measure => simp [intOf]; omega
    · obtain rfl : j = l.length := by omega
      have E : Hid (ownerD l n = -1) := owner_none (fun c hc => NO.out c (by rw [List.take_length]; exact hc))
      go_wp2_with fail
      go_ret
      exact ⟨⟨_, rfl, Or.inl ⟨rfl, E.out⟩⟩, hnx⟩

set_option maxHeartbeats 1600000 in
theorem vowner_any {w : World} {vl : Value} {l : List Cl} (hl : ClsAt w vl l) (n : Int) :
    Calls Tryz.prog 114 #[vl, .int .i64 n] w fun e w' => e = .returned (.int .i64 (ownerD l n)) ∧ Below w.heap.size w w' := by
  have B1 := (Below.refl w.heap.size w).alloc (Nat.le_refl _) (.cells #[.int .i64 n] 3)
  have hI := idxC_any (hl.keeps (keeps_alloc w (.cells #[.int .i64 n] 3))) (cell_box w (.int .i64 n) (t := 3))
  obtain ⟨q, cc, rfl, h1, h2, _, hat⟩ := (hl.keeps (keeps_alloc w (.cells #[.int .i64 n] 3))).at
  have T : Hid (∀ j (hj : j < l.length), ∃ b o, q = some ⟨b, o, none⟩ ∧ (w.alloc (.cells #[.int .i64 n] 3)).cell? ⟨b, o + j * 2, none⟩ = some (.int .i64 (l[j].1 : Int)) ∧ (w.alloc (.cells #[.int .i64 n] 3)).cell? ⟨b, o + j * 2 + 1, none⟩ = some (.int .i64 (l[j].2 : Int))) := hat
  clear hat hl
  go_enter Tryz.func114, Tryz.ntmps114
  go_upto_region 1 with fail
  generalize hG : w.heap.size = G at *
  generalize w.alloc (.cells #[.int .i64 n] 3) = w1 at *
  go_upto_region 2 with (go_at_call 133; refine hI.mono ?_; rintro e w9 ⟨⟨i, rfl, hi⟩, hb9⟩)
  rcases hi with ⟨rfl, hi⟩ | ⟨j, hj, rfl, hi⟩
  · have E : Hid (ownerD l n = -1) := hi
    clear hi
    go_wp2_with fail
    go_ret
    exact ⟨by rw [E.out]; rfl, by rw [hG]; exact B1.trans (hb9.mono (by have := B1.size; omega))⟩
  · have E : Hid (ownerD l n = (l[j].1 : Int)) := hi
    obtain ⟨e1, o1, rfl, k1, k2⟩ := T.out j hj
    have y1 := keeps_below hb9 (Nat.le_refl _) _ _ k1
    clear hi k1 k2
    generalize l[j].1 = x at *
    go_wp2_with fail
    go_ret
    exact ⟨by rw [E.out]; rfl, by rw [hG]; exact B1.trans (hb9.mono (by have := B1.size; omega))⟩

set_option maxHeartbeats 1600000 in
theorem qowner_any {w : World} {vl : Value} {l : List Cl} (hl : ClsAt w vl l) (n : Int) :
    Calls Tryz.prog 24 #[vl, .int .i64 n] w fun e w' => e = .returned (.int .i64 (ownerD l n)) ∧ Below w.heap.size w w' := by
  obtain ⟨q, cc, rfl, h1, h2, _, hat⟩ := hl.at
  have T : Hid (∀ j (hj : j < l.length), ∃ b o, q = some ⟨b, o, none⟩ ∧ w.cell? ⟨b, o + j * 2, none⟩ = some (.int .i64 (l[j].1 : Int)) ∧ w.cell? ⟨b, o + j * 2 + 1, none⟩ = some (.int .i64 (l[j].2 : Int))) := hat
  clear hat hl
  go_enter Tryz.func24, Tryz.ntmps24
  go_wp2_with fail
  go_loopw [9] (fun i wr => ∃ j : Nat, j ≤ l.length ∧ i = .int .i64 j ∧ Hid (∀ c ∈ l.take j, (c.2 : Int) ≠ n) ∧ Below w.heap.size w wr) (fun i _ => l.length - (intOf i).toNat)
  case atStart => exact ⟨0, Nat.zero_le _, rfl, fun k hk => by simp at hk, Below.refl _ _⟩
  case round =>
    obtain ⟨j, hj, rfl, NO, hnx⟩ := hrel
    have hbz := hnx.size
    by_cases hlt : j < l.length
    · obtain ⟨e1, o1, rfl, k1, k2⟩ := T.out j hlt
      have y1 := keeps_below hnx (Nat.le_refl _) _ _ k1
      have y2 := keeps_below hnx (Nat.le_refl _) _ _ k2
      clear k1 k2
      have OA := fun he => owner_at (n := n) hlt he NO.out
      have ON := fun he => notyet (n := n) hlt he NO.out
      by_cases hh : (l[j].2 : Int) = n
      · have E : Hid (ownerD l n = (l[j].1 : Int)) := OA hh
        have hq : ((l[j].2 : Int) == n) = true := by simpa using hh
        clear hh OA ON
        generalize l[j].1 = x at *
        generalize l[j].2 = z at *
        go_wp2_with fail
        go_ret
        exact ⟨by rw [E.out]; rfl, hnx.alloc hbz _⟩
      · have N2 : Hid (∀ c ∈ l.take (j + 1), (c.2 : Int) ≠ n) := ON hh
        have hq : ((l[j].2 : Int) == n) = false := by simpa using hh
        clear hh OA ON
        generalize l[j].1 = x at *
        generalize l[j].2 = z at *
        go_wp2_with fail
        go_roundw
        case rel => exact ⟨j + 1, by omega, by go_num, N2, hnx.alloc hbz _⟩
        case measure => simp [intOf]; omega
    · obtain rfl : j = l.length := by omega
      have E : Hid (ownerD l n = -1) := owner_none (fun c hc => NO.out c (by rw [List.take_length]; exact hc))
      go_wp2_with fail
      go_ret
      exact ⟨by rw [E.out]; rfl, hnx⟩

set_option maxHeartbeats 1600000 in
theorem qin_any {w : World} {b o c : Nat} {rs : List Raw} {d : Tn.Dc} (hd : DocAt w b o c rs d) (hf : Fine d) {vl : Value} {l : List Cl} (hl : ClsAt w vl l) (n : Int) :
    Calls Tryz.prog 25 #[.slice (some ⟨b, o, none⟩) rs.length c, vl, .int .i64 n] w fun e w' => e = .returned (.int .i64 (inD d l n)) ∧ Below w.heap.size w w' := by
  have hO := qowner_any hl n
  have hU : ∀ W, Below w.heap.size w W → Calls Tryz.prog 34 #[.slice (some ⟨b, o, none⟩) rs.length c, .int .i64 n] W fun e w' => e = .returned (.int .i64 (upF d n)) ∧ Below W.heap.size W w' := fun W hb => qup_any (hd.keeps (keeps_below hb (Nat.le_refl _))) hf n
  have E : Hid (inD d l n = if 0 ≤ ownerD l n then ownerD l n else upF d n) := rfl
  clear hd hl
  generalize inD d l n = res at *
  generalize upF d n = u at *
  generalize ownerD l n = ow at *
  by_cases h0 : 0 ≤ ow
  · have E2 : Hid (res = ow) := by show _ = _; rw [E.out, if_pos h0]
    clear E
    go_enter Tryz.func25, Tryz.ntmps25
    go_wp2_with (go_at_call 24; refine hO.mono ?_; rintro e w1 ⟨rfl, hb1⟩)
    go_ret
    exact ⟨by rw [E2.out]; rfl, hb1⟩
  · have E2 : Hid (res = u) := by show _ = _; rw [E.out, if_neg h0]
    clear E
    go_enter Tryz.func25, Tryz.ntmps25
    go_wp2_with (first
      | (go_at_call 24; refine hO.mono ?_; rintro e w1 ⟨rfl, hb1⟩)
      | (go_at_call 34; refine (hU _ hb1).mono ?_; rintro e w2 ⟨rfl, hb2⟩))
    go_ret
    exact ⟨by rw [E2.out]; rfl, hb1.trans (hb2.mono hb1.size)⟩
end Go.Proofs.YtcinjbolflhjmadGreatDoor

/-
  THE WALKS of owns' lineage, idsOf, Kids, and of the functions in Claims and Kids.
-/
namespace Go.Proofs.YtcinjbolflhjmadGreatDoor
open Go.RowKit

/-- a slice of tokens -/
theorem toks_at {w : World} {B : Nat} {v : Value} {ts : List (List UInt8)} (h : w.ownsRow B 9 1 v ts.length (ts.map Wd.tv)) :
    ∃ p c, v = .slice p ts.length c ∧ ts.length ≤ c ∧ c ≤ 9223372036854775807 ∧ ∀ j (hj : j < ts.length), ∃ b o, p = some ⟨b, o, none⟩ ∧ w.cell? ⟨b, o + j, none⟩ = some (.string (Tx.bs ts[j])) := by
  obtain ⟨p, c, e, h1, h2, _, h4⟩ := cells_of_owns h
  refine ⟨p, c, e, h1, by unfold maxLen at h2; omega, fun j hj => ?_⟩
  obtain ⟨b, o, e1, e2⟩ := h4 j (Wd.tv ts[j]) (by rw [List.getElem?_map, List.getElem?_eq_getElem hj]; rfl)
  exact ⟨b, o, e1, e2⟩

def ownsB : ByteArray := ⟨#[97, 114, 105, 97, 45, 111, 119, 110, 115]⟩

end Go.Proofs.YtcinjbolflhjmadGreatDoor

/-
  THE WALK of owns.Kids.
-/
namespace Go.Proofs.YtcinjbolflhjmadGreatDoor
open Go.RowKit

theorem vkids1_enters : ∀ args w, (callFunc 113 args).run Tryz.prog w = .ok (.enter 113 args) w := enters_of Tryz.func113 (by kernel_rfl) rfl

set_option maxHeartbeats 800000 in
theorem vkids1_any {w : World} {K : Nat} {vl : Value} {l : List Cl} (hl : ClsAt w vl l) (hK : w.cell? ⟨K, 0, none⟩ = some vl) (k : Nat) :
    Calls Tryz.prog 113 #[.int .i64 (k : Int), .pointer (some ⟨K, 0, none⟩)] w fun e w' => e = .returned (.bool (decide (0 ≤ ownerD l (k : Int)))) ∧ Below w.heap.size w w' := by
  have hO := vowner_any hl (k : Int)
  obtain ⟨pl, cl, rfl, _⟩ := hl
  generalize ownerD l (k : Int) = ow at *
  go_enter Tryz.func113, Tryz.ntmps113
  go_wp2_with (go_at_call 114; refine hO.mono ?_; rintro e w1 ⟨rfl, hb1⟩)
  go_ret
  exact ⟨by simp, hb1⟩

theorem vkids1_tests {w : World} {K : Nat} {vl : Value} {l : List Cl} (hl : ClsAt w vl l) (hK : w.cell? ⟨K, 0, none⟩ = some vl) : Tests 113 #[.pointer (some ⟨K, 0, none⟩)] (fun k => decide (0 ≤ ownerD l (k : Int))) w := by
  intro k
  have e : (#[.int .i64 (k : Int)] ++ #[.pointer (some ⟨K, 0, none⟩)] : Array Value) = #[.int .i64 (k : Int), .pointer (some ⟨K, 0, none⟩)] := by simp
  rw [e]
  exact vkids1_any hl hK k

theorem kids_few {d : Tn.Dc} (hg : Okd d) (n : Int) : (kidsD d n).length ≤ 1000 := by
  unfold kidsD
  split
  · split
    · exact hg.small n.toNat true
    · split
      · exact hg.small n.toNat false
      · unfold givenD
        split
        · exact Nat.le_trans (List.length_filter_le _ _) (hg.small _ false)
        · simp
  · simp

def mine (l : List Cl) (n : Int) (j : Nat) : List Nat := ((l.take j).filter (fun c => decide ((c.1 : Int) = n))).map (·.2)
theorem mine_succ (l : List Cl) (n : Int) (j : Nat) (h : j < l.length) : mine l n (j + 1) = mine l n j ++ (if (l[j].1 : Int) = n then [l[j].2] else []) := by
  unfold mine
  rw [take_filter _ l j h, List.map_append]
  congr 1
  by_cases e : (l[j].1 : Int) = n
  · rw [if_pos e, if_pos (by simpa using e)]; rfl
  · rw [if_neg e, if_neg (by simpa using e)]; rfl
theorem mine_len (l : List Cl) (n : Int) (j : Nat) : (mine l n j).length ≤ l.length := by
  unfold mine
  rw [List.length_map]
  have h1 := List.length_filter_le (fun c : Cl => decide ((c.1 : Int) = n)) (l.take j)
  have h2 := List.length_take_le j l
  have h3 : (l.take j).length ≤ l.length := by rw [List.length_take]; omega
  omega
theorem inside_mine (d : Tn.Dc) (l : List Cl) (n : Int) : insideD d l n = (kidsD d n).filter (fun (k : Nat) => !decide (0 ≤ ownerD l (k : Int))) ++ mine l n l.length := by
  unfold insideD mine
  rw [List.take_length]
  congr 1
  apply List.filter_congr
  intro k _
  rw [Bool.eq_iff_iff]
  simp

set_option maxHeartbeats 3200000 in
theorem vkids_any {w : World} {b o c : Nat} {rs : List Raw} {d : Tn.Dc} (hd : DocAt w b o c rs d) (hg : Okd d) {vl : Value} {l : List Cl} (hl : ClsAt w vl l) (hlen : l.length ≤ 1000) (n : Int) :
    Calls Tryz.prog 84 #[.slice (some ⟨b, o, none⟩) rs.length c, vl, .int .i64 n] w fun e w' => ∃ v, e = .returned v ∧ OwnI w' w.heap.size v (insideD d l n) ∧ Below w.heap.size w w' := by
  have B1 := (Below.refl w.heap.size w).alloc (Nat.le_refl _) (.cells #[vl] 26)
  have J1 := keeps_alloc w (.cells #[vl] 26)
  have hK := fkids_any (hd.keeps J1) hg n
  have L1 : Hid (ClsAt (w.alloc (.cells #[vl] 26)) vl l) := hl.keeps J1
  have X1 : Hid ((w.alloc (.cells #[vl] 26)).cell? ⟨w.heap.size, 0, none⟩ = some vl) := cell_box w vl (t := 26)
  have hz1 : (w.alloc (.cells #[vl] 26)).heap.size = w.heap.size + 1 := by simp
  have hkl := kids_few hg n
  have E : Hid (insideD d l n = (kidsD d n).filter (fun (k : Nat) => !decide (0 ≤ ownerD l (k : Int))) ++ mine l n l.length) := inside_mine d l n
  obtain ⟨pl, cl, rfl, k1, k2, _, hat⟩ := hl.at
  have T : Hid (∀ j (hj : j < l.length), ∃ b o, pl = some ⟨b, o, none⟩ ∧ w.cell? ⟨b, o + j * 2, none⟩ = some (.int .i64 (l[j].1 : Int)) ∧ w.cell? ⟨b, o + j * 2 + 1, none⟩ = some (.int .i64 (l[j].2 : Int))) := hat
  clear hat hl hd J1
  generalize insideD d l n = res at *
  generalize kidsD d n = kd at *
  have FL := List.length_filter_le (fun (k : Nat) => !decide (0 ≤ ownerD l (k : Int))) kd
  have hbase : Hid ((kd.filter (fun (k : Nat) => !decide (0 ≤ ownerD l (k : Int)))).length ≤ 1000) := Nat.le_trans FL hkl
  clear FL
  go_enter Tryz.func84, Tryz.ntmps84
  go_upto_region 1 with fail
  generalize w.alloc (.cells #[.slice pl l.length cl] 26) = w1 at *
  generalize hG : w.heap.size = G at *
  go_upto_region 2 with (first
    | (go_at_call 92; refine hK.mono ?_; rintro e w2 ⟨v2, rfl, ho2, hb2⟩; have hD := del_any vkids1_enters ho2 hkl (fun W hgr => vkids1_tests (K := G) (L1.out.keeps (keeps_below (hb2.grown hgr hb2.size (fun j hj => (World.ownsRow.lt ho2 j hj).1)) (Nat.le_refl _))) (keeps_below (hb2.grown hgr hb2.size (fun j hj => (World.ownsRow.lt ho2 j hj).1)) (Nat.le_refl _) _ _ X1.out)))
    | (go_at_call 112; refine hD.mono ?_; rintro e w3 ⟨v3, rfl, ho3, hob3, hg3⟩))
  have B3 : Below w1.heap.size w1 w3 := hb2.grown hg3 hb2.size (fun j hj => (World.ownsRow.lt ho2 j hj).1)
  have X3 := keeps_below B3 (Nat.le_refl _) _ _ X1.out
  have BB : Below G w w3 := B1.trans (B3.mono (by omega))
  have O3 : OwnI w3 G v3 (kd.filter (fun (k : Nat) => !decide (0 ≤ ownerD l (k : Int)))) := OwnI.mono ho3 (by omega)
  clear hK hD ho3 hob3 hg3 ho2 hb2 B3 L1 X1 B1 hz1
  generalize kd.filter (fun (k : Nat) => !decide (0 ≤ ownerD l (k : Int))) = base at *
  go_upto_region 3 with fail
  go_loopw [7, 17] (fun v i wr => ∃ j : Nat, j ≤ l.length ∧ i = .int .i64 j ∧ OwnI wr G v (base ++ mine l n j) ∧ Below G w wr) (fun _ i _ => l.length - (intOf i).toNat)
  case atStart => exact ⟨0, Nat.zero_le _, rfl, by simpa [mine] using O3, BB⟩
  case round =>
    obtain ⟨j, hj, rfl, hown, hnx⟩ := hrel
    have hbz : G ≤ wr.heap.size := by have := hnx.size; omega
    have hml := mine_len l n j
    have hbl := hbase.out
    have hz : (base ++ mine l n j).length ≤ 1000000 := by rw [List.length_append]; omega
    by_cases hlt : j < l.length
    · obtain ⟨e1, o1, rfl, c1, c2⟩ := T.out j hlt
      have y1 := keeps_below hnx (by omega) _ _ c1
      have y2 := keeps_below hnx (by omega) _ _ c2
      have MS : Hid (mine l n (j + 1) = mine l n j ++ (if (l[j].1 : Int) = n then [l[j].2] else [])) := mine_succ l n j hlt
      clear c1 c2 hml hbl
      generalize l[j].1 = x at *
      generalize l[j].2 = z at *
      by_cases e : (x : Int) = n
      · have M2 : Hid (base ++ mine l n (j + 1) = (base ++ mine l n j) ++ [z]) := by show _ = _; rw [MS.out, if_pos e, List.append_assoc]
        have hq : ((x : Int) == n) = true := by simpa using e
        clear MS e
        go_wp2_with (at_builtin; refine append_int1 (w0 := w) rfl _ _ rfl z rfl (by simp [Act.eval]) (hown.alloc _) (hnx.alloc hbz _) (by simp; omega) hz ?_; intro v6 w6 o6 n6 _ _)
        go_roundw
        case rel => exact ⟨j + 1, by omega, by go_num, by rw [M2.out]; exact o6, n6⟩
        case measure => simp [intOf]; omega
      · have M2 : Hid (base ++ mine l n (j + 1) = base ++ mine l n j) := by show _ = _; rw [MS.out, if_neg e, List.append_nil]
        have hq : ((x : Int) == n) = false := by simpa using e
        clear MS e
        go_wp2_with fail
        go_roundw
        case rel => exact ⟨j + 1, by omega, by go_num, by rw [M2.out]; exact hown.alloc _, hnx.alloc hbz _⟩
        case measure => simp [intOf]; omega
    · obtain rfl : j = l.length := by omega
      go_wp2_with fail
      go_ret
      exact ⟨_, rfl, by rw [E.out, hG]; exact hown, by rw [hG]; exact hnx⟩
end Go.Proofs.YtcinjbolflhjmadGreatDoor

/-
  THE WALK of naming's list: what is in a node, and in that, is listed with it.
-/
namespace Go.Proofs.YtcinjbolflhjmadGreatDoor
open Go.RowKit Go.Maps

theorem inside_cap {d : Tn.Dc} (h : Fine d) {l : List Cl} (hl : Forest d l) (n : Int) : (insideD d l n).length ≤ 1060 := by
  rw [inside_mine, List.length_append]
  have h1 := kids_few h.okd n
  have h2 := mine_len l n l.length
  have h3 := forest_few h hl
  have h4 := List.length_filter_le (fun (k : Nat) => !decide (0 ≤ ownerD l (k : Int))) (kidsD d n)
  omega

/-- what list does, with as much fuel as that -/
def ListC (b o c : Nat) (rs : List Raw) (d : Tn.Dc) (p : Option Addr) (cc : Nat) (cl : List Cl) (L f : Nat) : Prop :=
  ∀ (W : World) (A : Option Nat) (l : List Nat) (n : Nat), Nx W b o c rs d (.slice p cl.length cc) cl → SetAt W L l → OkL d l → 61 ≤ f + l.length → Tn.lvD d n = true →
    Calls Tryz.prog 88 #[.agg #[.slice (some ⟨b, o, none⟩) rs.length c, .slice p cl.length cc, .map A, .map (some L)], .int .i64 (n : Int)] W fun e w' =>
      e = .returned (.tuple #[]) ∧ SetAt w' L (markF f d cl n l) ∧ Bt [L] W w'

set_option maxHeartbeats 3200000 in
set_option maxRecDepth 100000 in
theorem nlist_step {b o c : Nat} {rs : List Raw} {d : Tn.Dc} {p : Option Addr} {cc : Nat} {cl : List Cl} {L f : Nat} (H : ListC b o c rs d p cc cl L f) : ListC b o c rs d p cc cl L (f + 1) := by
  intro W A l n hx hS ho hf hn
  have hF := hx.cx.fine
  have hdl := hF.good.len.2
  have hnn := Tn.lv_lt hn
  have hll := ho.few hF
  have B1 := (Below.refl W.heap.size W).alloc (Nat.le_refl _) (.cells #[.slice (some ⟨b, o, none⟩) rs.length c, .slice p cl.length cc, .map A, .map (some L)] 66)
  have C0 := box4' W (.slice (some ⟨b, o, none⟩) rs.length c) (.slice p cl.length cc) (.map A) (.map (some L)) 66
  have hH := nhas_any (hS.below B1) (n : Int) (by omega) (by omega)
  have e0 : decide (0 ≤ (n : Int) ∧ (n : Int).toNat ∈ l) = l.contains n := by
    rw [Bool.eq_iff_iff]
    simp
  rw [e0] at hH
  have NX : Hid (Nx W b o c rs d (.slice p cl.length cc) cl) := hx
  have S0 : Hid (SetAt W L l) := hS
  by_cases hc : l.contains n = true
  · have E : Hid (markF (f + 1) d cl n l = l) := by show _ = _; rw [markF, if_pos hc]
    rw [E.out]
    rw [hc] at hH
    clear hx hS E hc e0
    go_enter Tryz.func88, Tryz.ntmps88
    go_wp2_with (go_at_call 50; refine hH.mono ?_; rintro e w2 ⟨rfl, hb2⟩)
    refine bodyPost_ret (results_none rfl _ _ _) rfl ?_
    have B2 := B1.trans (hb2.mono B1.size)
    exact ⟨rfl, S0.out.below B2, Bt.below B2⟩
  · have hnot : n ∉ l := by simpa using hc
    have E : Hid (markF (f + 1) d cl n l = (insideD d cl (n : Int)).foldl (fun l k => markF f d cl k l) (l ++ [n])) := by show _ = _; rw [markF, if_neg hc]
    have hc' : l.contains n = false := by simpa using hc
    rw [hc'] at hH
    have VK : Hid (∀ w2, Nx w2 b o c rs d (.slice p cl.length cc) cl → Calls Tryz.prog 84 #[.slice (some ⟨b, o, none⟩) rs.length c, .slice p cl.length cc, .int .i64 (n : Int)] w2 fun e w' => ∃ v, e = .returned v ∧ OwnI w' w2.heap.size v (insideD d cl (n : Int)) ∧ Below w2.heap.size w2 w') := fun w2 h => vkids_any h.cx.doc h.cx.fine.okd h.cls (by have := forest_few hF h.forest; omega) (n : Int)
    have OK1 : OkL d (l ++ [n]) := ho.add hn hnot
    have HL : Hid (∀ k ∈ insideD d cl (n : Int), Tn.lvD d k = true) := fun k hk => inside_lv hF hx.forest hk
    have MK : Hid (∀ j, Marked d (l ++ [n]) (((insideD d cl (n : Int)).take j).foldl (fun l k => markF f d cl k l) (l ++ [n]))) := fun j => fold_mark (fun l k ol hk => mark_ok hF hx.forest f k l ol hk) _ _ (fun k hk => HL.out k (List.mem_of_mem_take hk)) OK1
    have FU : Hid (61 ≤ f + (l ++ [n]).length) := by show _ ≤ _; rw [List.length_append]; simp; omega
    clear hx hS hc hc' e0 hnot ho OK1 hf
    generalize insideD d cl (n : Int) = zs at *
    have EJ : Hid (∀ j (h : j < zs.length), ((zs.take (j + 1)).foldl (fun l k => markF f d cl k l) (l ++ [n])) = markF f d cl zs[j] ((zs.take j).foldl (fun l k => markF f d cl k l) (l ++ [n]))) := fun j h => by
      rw [List.take_succ_eq_append_getElem h, List.foldl_append]
      rfl
    have E0 : Hid ((zs.take 0).foldl (fun l k => markF f d cl k l) (l ++ [n]) = l ++ [n]) := rfl
    have EZ : Hid (markF (f + 1) d cl n l = (zs.take zs.length).foldl (fun l k => markF f d cl k l) (l ++ [n])) := by show _ = _; rw [List.take_length]; exact E.out
    generalize hE : (fun j => (zs.take j).foldl (fun l k => markF f d cl k l) (l ++ [n])) = G
    have eE : ∀ j, (zs.take j).foldl (fun l k => markF f d cl k l) (l ++ [n]) = G j := fun j => by rw [← hE]
    simp only [eE] at MK EJ E0 EZ
    rw [EZ.out]
    clear eE hE E EZ
    have z1 : (W.alloc (.cells #[.slice (some ⟨b, o, none⟩) rs.length c, .slice p cl.length cc, .map A, .map (some L)] 66)).heap.size = W.heap.size + 1 := by simp
    have hLl := S0.out.lt
    go_enter Tryz.func88, Tryz.ntmps88
    obtain ⟨q0, q1, q2, q3⟩ := C0
    go_upto_region 4 with (first
      | (go_at_call 50; refine hH.mono ?_; rintro e w2 ⟨rfl, hb2⟩; have K2 := keeps_below hb2 (Nat.le_refl _); have b0 := K2 _ _ q0; have b1 := K2 _ _ q1; have b2 := K2 _ _ q2; have b3 := K2 _ _ q3; have B2 := B1.trans (hb2.mono B1.size); have S2 : Hid (SetAt w2 L l) := S0.out.below B2)
      | (at_mapUpdate; refine set_put rfl _ _ _ rfl L l n (by omega) (by omega) rfl (S2.out.pre n) rfl rfl ?_; intro w3 hS3 hg3; have G3 : Bt [L] w2 w3 := Bt.grow1 hg3 (by simp); have K3 := G3.keeps S2.out.maps; have d0 := K3 _ _ b0; have d1 := K3 _ _ b1; have d2 := K3 _ _ b2; have d3 := K3 _ _ b3; have N3 : Hid (Nx w3 b o c rs d (.slice p cl.length cc) cl) := (NX.out.below B2).keeps K3 G3.size; have VK3 := VK.out w3 N3.out; have S3 : Hid (SetAt w3 L (l ++ [n])) := hS3; clear hS3; go_frame)
      | (go_at_call 84; refine VK3.mono ?_; rintro e w4 ⟨v4, rfl, ho4, hb4⟩; have K4 := keeps_below hb4 (Nat.le_refl _); have e0 := K4 _ _ d0; have e1 := K4 _ _ d1; have e2 := K4 _ _ d2; have e3 := K4 _ _ d3; obtain ⟨pz, cz, rfl, y1, y2, _, hat⟩ := (ints_of_owns ho4).at))
    have T : Hid (∀ j (hj : j < zs.length), ∃ b o, pz = some ⟨b, o, none⟩ ∧ w4.cell? ⟨b, o + j, none⟩ = some (.int .i64 (zs[j] : Int))) := hat
    have S4 : Hid (SetAt w4 L (l ++ [n])) := S3.out.below hb4
    have M4 : Hid (AreMaps [L] w4) := S4.out.maps
    have N4 : Hid (Nx w4 b o c rs d (.slice p cl.length cc) cl) := N3.out.below hb4
    have BT4 : Hid (Bt [L] W w4) := ((Bt.below B2).trans G3).trans (Bt.below hb4)
    clear hat ho4 VK3 VK K2 K3 K4 b0 b1 b2 b3 d0 d1 d2 d3 q0 q1 q2 q3 hb2 hb4 hg3 G3 S2 S3 N3 B1 B2 hH NX S0
    go_loopw [21] (fun iv wr => ∃ j : Nat, j ≤ zs.length ∧ iv = .int .i64 j ∧ Hid (SetAt wr L (G j)) ∧ Bt [L] w4 wr) (fun iv _ => zs.length - (intOf iv).toNat)
    case atStart => exact ⟨0, Nat.zero_le _, rfl, by show SetAt _ _ _; rw [E0.out]; exact S4.out, Bt.refl _ _⟩
    case round =>
      obtain ⟨j, hj, rfl, hSr, hbt⟩ := hrel
      have KR : Keeps w4 wr := hbt.keeps M4.out
      have a0 := KR _ _ e0
      have a1 := KR _ _ e1
      have a2 := KR _ _ e2
      have a3 := KR _ _ e3
      by_cases hlt : j < zs.length
      · obtain ⟨bz, oz, rfl, hc⟩ := T.out j hlt
        have hc1 := KR _ _ hc
        have HC := H wr A (G j) zs[j] (N4.out.keeps KR hbt.size) hSr.out (MK.out j).ok (Nat.le_trans FU.out (Nat.add_le_add_left (MK.out j).len f)) (HL.out _ (List.getElem_mem hlt))
        rw [← EJ.out j hlt] at HC
        clear hc
        generalize zs[j] = k at *
        go_wp2_with (go_at_call 88; refine HC.mono ?_; rintro e w5 ⟨rfl, hS5, hb5⟩)
        go_roundw
        case rel => exact ⟨j + 1, by omega, by go_num, hS5, hbt.trans hb5⟩
        case measure => simp [intOf]; omega
      · obtain rfl : j = zs.length := by omega
        go_wp2_with fail
        go_end0
        exact ⟨rfl, hSr.out, BT4.out.trans hbt⟩

theorem nlist_all {b o c : Nat} {rs : List Raw} {d : Tn.Dc} {p : Option Addr} {cc : Nat} {cl : List Cl} {L : Nat} : ∀ f, ListC b o c rs d p cc cl L f
  | 0 => fun W A l n hx hS ho hf hn => absurd (ho.few hx.cx.fine) (by omega)
  | f + 1 => nlist_step (nlist_all f)
end Go.Proofs.YtcinjbolflhjmadGreatDoor

/-
  THE WALK of tnlaw5's RoleAsked; a slice of strings that came in, as it reads.
-/
namespace Go.Proofs.YtcinjbolflhjmadGreatDoor
open Go.RowKit

def StrsAt (w : World) (v : Value) (l : List ByteArray) : Prop :=
  ∃ p c, v = .slice p l.length c ∧ l.length ≤ c ∧ c ≤ 9223372036854775807 ∧ ∀ j (h : j < l.length), ∃ b o, p = some ⟨b, o, none⟩ ∧ w.cell? ⟨b, o + j, none⟩ = some (.string l[j])
theorem StrsAt.keeps {w w' : World} {v : Value} {l : List ByteArray} (h : StrsAt w v l) (k : Keeps w w') : StrsAt w' v l := by
  obtain ⟨p, c, e, h1, h2, h4⟩ := h
  refine ⟨p, c, e, h1, h2, fun j hj => ?_⟩
  obtain ⟨b, o, e1, e2⟩ := h4 j hj
  exact ⟨b, o, e1, k _ _ e2⟩


section
open Go.ChangeShapes Go.WideShapes Go.ChangeAt
theorem open_strs {H : Type} {enc : TypeId × Value → H} {W : World} {a0 : Option Addr} {len cap : Nat} {d : DataW H} {ps : List MemPlace} (h : DataW.Trod enc Tryz.prog W 0 (fun _ => true) true 35 (.slice a0 len cap) d ps) :
    ∃ l : List ByteArray, StrsAt W (.slice a0 len cap) l ∧ (l = [] ∨ ∃ spare, d = .slice (l.map fun s => .lit (.string s.data.toList)) spare) := by
  obtain ⟨fuel, hf⟩ := h
  rcases Deep.open_strs Tryz.underlying35 Tryz.underlying9 cellsS hf with ⟨hcs, hx⟩ | ⟨a, len', cap', m, Sx, hcs, _, hl, hmx, hm, hx, hall⟩
  · simp [Value.cells] at hcs
    obtain ⟨rfl, rfl, rfl⟩ := hcs
    exact ⟨[], ⟨none, 0, rfl, Nat.le_refl _, by decide, fun j h => absurd h (by simp)⟩, Or.inl rfl⟩
  · simp [Value.cells] at hcs
    obtain ⟨rfl, rfl, rfl⟩ := hcs
    simp only [if_true] at hm
    subst hm
    simp only [Prod.mk.injEq] at hx
    refine ⟨(List.range len).map Sx, ⟨some a, m, by simp, by simpa using hl, hmx, fun j hj => ?_⟩, Or.inr ⟨_, by rw [hx.1, List.map_map]; rfl⟩⟩
    have hj' : j < len := by simpa using hj
    have h1 := (hall j (by omega)).1
    obtain ⟨b, o, spot⟩ := a
    have hs : spot = none := by
      have := World.cell?_spot (hall 0 (by omega)).1
      simpa [Addr.add] using this
    subst hs
    refine ⟨b, o, rfl, ?_⟩
    rw [← add_at]
    simpa using h1

theorem bulk_app {H : Type} : ∀ (a b : List (DataW H)), Rows.uptoBulkAll (a ++ b) = Rows.uptoBulkAll a + Rows.uptoBulkAll b
  | [], b => by simp [Rows.uptoBulkAll]
  | x :: a, b => by rw [List.cons_append, Rows.uptoBulkAll, Rows.uptoBulkAll, bulk_app a b]; omega

theorem joined_bulk {H : Type} : ∀ (l : List ByteArray), (Tx.joined (txs l)).length ≤ Rows.uptoBulkAll (l.map fun s => (.lit (.string s.data.toList) : DataW H)) ∧ l.length ≤ Rows.uptoBulkAll (l.map fun s => (.lit (.string s.data.toList) : DataW H))
  | [] => ⟨Nat.zero_le _, Nat.zero_le _⟩
  | [a] => by
    have e : Tx.joined (txs [a]) = a.data.toList := Tx.joined_one _
    rw [e, List.map_cons, Rows.uptoBulkAll, Rows.uptoBulk]
    simp
    omega
  | a :: b :: l => by
    obtain ⟨h1, h2⟩ := joined_bulk (b :: l)
    have e : Tx.joined (txs (a :: b :: l)) = a.data.toList ++ 32 :: Tx.joined (txs (b :: l)) := Tx.joined_cons _ _ _
    rw [e, List.map_cons, Rows.uptoBulkAll, Rows.uptoBulk]
    simp only [List.length_append, List.length_cons] at *
    omega

theorem bulk_strs_bound {H : Type} {l : List ByteArray} {d : DataW H} {pre post : List (DataW H)} (hd : l = [] ∨ ∃ spare, d = .slice (l.map fun s => .lit (.string s.data.toList)) spare) (hk : Rows.uptoSmall H (pre ++ d :: post) = true) :
    (Tx.joined (txs l)).length ≤ 4194304 ∧ l.length ≤ 4194304 := by
  have h : Rows.uptoBulkAll (pre ++ d :: post) ≤ 1048576 := of_decide_eq_true hk
  rw [bulk_app, Rows.uptoBulkAll] at h
  rcases hd with rfl | ⟨spare, rfl⟩
  · exact ⟨Nat.zero_le _, Nat.zero_le _⟩
  · rw [Rows.uptoBulk] at h
    obtain ⟨h1, h2⟩ := joined_bulk (H := H) l
    omega
end

theorem bs_self (s : ByteArray) : Tx.bs s.data.toList = s := rfl

set_option maxHeartbeats 800000 in
set_option maxRecDepth 100000 in
theorem rjoin_strs_big {w : World} {v : Value} {l : List ByteArray} (h : StrsAt w v l) (hlen : (Tx.joined (txs l)).length ≤ 1073741824) (hN : l.length ≤ 1073741824) :
    Calls Tryz.prog 39 #[v] w fun e w' => e = .returned (.string (joinB l)) ∧ w' = w := by
  obtain ⟨p, c, rfl, hc1, hc2, hat⟩ := h
  have HW : Hid (∀ j (h : j < l.length), ∃ b o, p = some ⟨b, o, none⟩ ∧ w.cell? ⟨b, o + j, none⟩ = some (.string l[j])) := hat
  have TL : Hid ((txs l).length = l.length) := by show _ = _; simp [txs]
  have E0 : Hid (joinB l = Tx.bs (Tx.joined ((txs l).take l.length))) := by show _ = _; rw [List.take_of_length_le (by rw [TL.out]; exact Nat.le_refl _)]; rfl
  have TT : Hid (∀ j (h : j < l.length), (txs l)[j]? = some l[j].data.toList) := fun j h => by simp [txs, h]
  have JF : Hid (∀ t, (txs l)[0]? = some t → Tx.bs (Tx.joined []) ++ Tx.bs t = Tx.bs (Tx.joined ((txs l).take 1))) := fun t h => Wd.join_first (txs l) t h
  have JN : Hid (∀ k t, 0 < k → (txs l)[k]? = some t → Tx.bs (Tx.joined ((txs l).take k)) ++ ⟨#[32]⟩ ++ Tx.bs t = Tx.bs (Tx.joined ((txs l).take (k + 1)))) := fun k t hk h => Wd.join_next (txs l) k t hk h
  have JR : Hid (∀ k t, (txs l)[k]? = some t → (Tx.bs (Tx.joined ((txs l).take k))).size + (Tx.bs t).size ≤ (Tx.joined (txs l)).length) := fun k t h => Wd.join_room (txs l) k t h
  clear hat
  generalize joinB l = res at *
  generalize hts : txs l = ts at *
  clear hts
  go_enter Tryz.func39, Tryz.ntmps39
  go_wp2
  go_loop [3, 8] (fun st i => ∃ k : Nat, k ≤ l.length ∧ i = .int .i64 k ∧ st = .string (Tx.bs (Tx.joined (ts.take k)))) (fun _ i => l.length - (intOf i).toNat)
  case atStart => exact ⟨0, Nat.zero_le _, rfl, rfl⟩
  case round =>
    obtain ⟨k, hk, rfl, rfl⟩ := hrel
    by_cases hlt : k < l.length
    · obtain ⟨b, o, rfl, hcell⟩ := HW.out k hlt
      have ht := TT.out k hlt
      have hroom := JR.out k _ ht
      rw [bs_self] at hroom
      cases k with
      | zero =>
        have E : Hid (Tx.bs (Tx.joined []) ++ l[0] = Tx.bs (Tx.joined (ts.take 1))) := JF.out _ ht
        have hroom0 : (Tx.bs (Tx.joined [])).size + l[0].size ≤ (Tx.joined ts).length := hroom
        have hcell0 : w.cell? ⟨b, o, none⟩ = some (.string l[0]) := hcell
        clear ht hroom hcell
        generalize l[0] = tb at *
        go_wp2
        go_round
        case rel => exact ⟨1, by omega, rfl, by rw [E.out]⟩
        case measure => simp [intOf]; omega
      | succ k =>
        have E : Hid (Tx.bs (Tx.joined (ts.take (k + 1))) ++ ⟨#[32]⟩ ++ l[k + 1] = Tx.bs (Tx.joined (ts.take (k + 1 + 1)))) := JN.out (k + 1) _ (by omega) ht
        clear ht
        generalize l[k + 1] = tb at *
        go_wp2
        go_round
        case rel => exact ⟨k + 1 + 1, by omega, by go_num, by rw [E.out]⟩
        case measure => simp [intOf]; omega
    · obtain rfl : k = l.length := by omega
      go_wp2
      go_ret
      exact ⟨by rw [E0.out]; rfl, rfl⟩
theorem rjoin_strs {w : World} {v : Value} {l : List ByteArray} (h : StrsAt w v l) (hlen : (Tx.joined (txs l)).length ≤ 4194304) (hN : l.length ≤ 4194304) :
    Calls Tryz.prog 39 #[v] w fun e w' => e = .returned (.string (joinB l)) ∧ w' = w := rjoin_strs_big h (Nat.le_trans hlen (by decide)) (Nat.le_trans hN (by decide))
end Go.Proofs.YtcinjbolflhjmadGreatDoor

/-
  ROWS of the call's own: texts, and numbers that may be below zero; append, with all other blocks as they were.
-/
namespace Go.Proofs.YtcinjbolflhjmadGreatDoor
open Go.RowKit

def sv (s : ByteArray) : Value := .string s
def zv (k : Int) : Value := .int .i64 k
def OwnS (w : World) (B : Nat) (v : Value) (l : List ByteArray) : Prop := w.ownsRow B 9 1 v l.length (l.map sv)
def OwnZ (w : World) (B : Nat) (v : Value) (l : List Int) : Prop := w.ownsRow B 3 1 v l.length (l.map zv)
def ZsAt (w : World) (v : Value) (l : List Int) : Prop := CellsAt w v l.length (l.map zv)
theorem OwnS.nil (w : World) (B : Nat) : OwnS w B (.slice none 0 0) [] := World.ownsRow_nil _ _ _ _
theorem OwnZ.nil (w : World) (B : Nat) : OwnZ w B (.slice none 0 0) [] := World.ownsRow_nil _ _ _ _
theorem zs_of_owns {w : World} {B : Nat} {v : Value} {l : List Int} (h : OwnZ w B v l) : ZsAt w v l := cells_of_owns h
theorem zs_of_ints {w : World} {v : Value} {l : List Nat} (h : IntsAt w v l) : ZsAt w v (l.map Int.ofNat) := by
  unfold ZsAt
  unfold IntsAt at h
  rw [List.length_map, List.map_map]
  exact h
theorem ZsAt.keeps {w w' : World} {v : Value} {l : List Int} (h : ZsAt w v l) (k : Keeps w w') : ZsAt w' v l := CellsAt.keeps h k
theorem ZsAt.at {w : World} {v : Value} {l : List Int} (h : ZsAt w v l) : ∃ p c, v = .slice p l.length c ∧ l.length ≤ c ∧ c ≤ 9223372036854775807 ∧
    ∀ j (hj : j < l.length), ∃ b o, p = some ⟨b, o, none⟩ ∧ w.cell? ⟨b, o + j, none⟩ = some (.int .i64 l[j]) := by
  obtain ⟨p, c, e, h1, h2, h3, h4⟩ := h
  refine ⟨p, c, e, h1, by unfold maxLen at h2; omega, fun j hj => ?_⟩
  obtain ⟨b, o, e1, e2⟩ := h4 j (zv l[j]) (by simp [hj])
  exact ⟨b, o, e1, e2⟩
theorem strs_of_owns {w : World} {B : Nat} {v : Value} {l : List ByteArray} (h : OwnS w B v l) : StrsAt w v l := by
  obtain ⟨p, c, e, h1, h2, h3, h4⟩ := cells_of_owns h
  refine ⟨p, c, e, h1, by unfold maxLen at h2; omega, fun j hj => ?_⟩
  obtain ⟨b, o, e1, e2⟩ := h4 j (sv l[j]) (by simp [hj])
  exact ⟨b, o, e1, e2⟩

theorem box2 (w : World) (x y : Value) (t : Nat) : (w.alloc (.cells #[x, y] t)).cell? ⟨w.heap.size, 0, none⟩ = some x ∧ (w.alloc (.cells #[x, y] t)).cell? ⟨w.heap.size, 1, none⟩ = some y := by
  constructor <;> rw [World.cell?_alloc_new] <;> simp
theorem box3' (w : World) (x y z : Value) (t : Nat) : (w.alloc (.cells #[x, y, z] t)).cell? ⟨w.heap.size, 0, none⟩ = some x ∧ (w.alloc (.cells #[x, y, z] t)).cell? ⟨w.heap.size, 1, none⟩ = some y ∧ (w.alloc (.cells #[x, y, z] t)).cell? ⟨w.heap.size, 2, none⟩ = some z := by
  refine ⟨?_, ?_, ?_⟩ <;> rw [World.cell?_alloc_new] <;> simp
theorem box3 (w : World) (x y z : Value) (t : Nat) (o : Obj) : ((w.alloc (.cells #[x, y, z] t)).alloc o).cell? ⟨w.heap.size, 0, none⟩ = some x ∧ ((w.alloc (.cells #[x, y, z] t)).alloc o).cell? ⟨w.heap.size, 1, none⟩ = some y ∧ ((w.alloc (.cells #[x, y, z] t)).alloc o).cell? ⟨w.heap.size, 2, none⟩ = some z := by
  have h := box3' w x y z t
  exact ⟨keeps_alloc _ _ _ _ h.1, keeps_alloc _ _ _ _ h.2.1, keeps_alloc _ _ _ _ h.2.2⟩

theorem append_str {wr : World} {ops : Array Oper} {rest : List Oper} {o : Oper} {a : Act} {Q : Exit → Act → World → Prop} (hgd : o.guard = none)
    (s x : Operand) (ho : o.op = Op.call { callee := Callee.builtin Builtin.append, args := #[s, x], argTypes := #[35, 35] }) {B : Nat} {v : Value} {l : List ByteArray} (t : ByteArray)
    (hs : a.eval s = v) (hx : a.eval x = .slice (some ⟨wr.heap.size, 0, none⟩) 1 1) (hown : OwnS wr B v l) (hB : B ≤ wr.heap.size) (hsz : l.length ≤ 1000000000)
    (h : ∀ v' w1, OwnS w1 B v' (l ++ [t]) → Below B wr w1 → wpList Tryz.prog ops Q rest (a.put o.dst v') w1) :
    wpList Tryz.prog ops Q (o :: rest) a (wr.alloc (.cells #[.string t] 9)) := by
  obtain ⟨i0, hi, hz0, hz1, hz2⟩ := info_parts Wd.info9
  unfold OwnS at hown h
  refine wpList_append_own _ hgd s x 35 ho B 9 i0 (.string ⟨#[]⟩) 1 16 Tryz.underlying35 hi hz0 hz1 hz2 rfl (by decide) v _ _ hs (hown.alloc _) ⟨_, 0, none⟩ 1 1 [sv t] hx rfl ?_ ?_ ?_ ?_ ?_ ?_
  · exact cell_one_new _ _ _
  · intro u hu; simp at hu; subst hu; rfl
  · unfold maxLen; omega
  · omega
  · simp; omega
  · intro v' w1 h1 h2 _
    exact h v' w1 (by simpa using h1) (((Below.refl B wr).alloc hB (.cells #[.string t] 9)).grown h2 (by simp; omega) (fun j hj => (hown.lt j hj).1))
theorem append_z {wr : World} {ops : Array Oper} {rest : List Oper} {o : Oper} {a : Act} {Q : Exit → Act → World → Prop} (hgd : o.guard = none)
    (s x : Operand) (ho : o.op = Op.call { callee := Callee.builtin Builtin.append, args := #[s, x], argTypes := #[29, 29] }) {B : Nat} {v : Value} {l : List Int} (t : Int)
    (hs : a.eval s = v) (hx : a.eval x = .slice (some ⟨wr.heap.size, 0, none⟩) 1 1) (hown : OwnZ wr B v l) (hB : B ≤ wr.heap.size) (hsz : l.length ≤ 1000000000)
    (h : ∀ v' w1, OwnZ w1 B v' (l ++ [t]) → Below B wr w1 → wpList Tryz.prog ops Q rest (a.put o.dst v') w1) :
    wpList Tryz.prog ops Q (o :: rest) a (wr.alloc (.cells #[.int .i64 t] 3)) := by
  obtain ⟨i0, hi, hz0, hz1, hz2⟩ := info_parts infoI
  unfold OwnZ at hown h
  refine wpList_append_own _ hgd s x 29 ho B 3 i0 (.int .i64 0) 1 8 Tryz.underlying29 hi hz0 hz1 hz2 rfl (by decide) v _ _ hs (hown.alloc _) ⟨_, 0, none⟩ 1 1 [zv t] hx rfl ?_ ?_ ?_ ?_ ?_ ?_
  · exact cell_one_new _ _ _
  · intro u hu; simp at hu; subst hu; rfl
  · unfold maxLen; omega
  · omega
  · simp; omega
  · intro v' w1 h1 h2 _
    exact h v' w1 (by simpa using h1) (((Below.refl B wr).alloc hB (.cells #[.int .i64 t] 3)).grown h2 (by simp; omega) (fun j hj => (hown.lt j hj).1))

/-- strings.Join of a row of the call's own -/
theorem gjoin_owns {w : World} {B : Nat} {v : Value} {l : List ByteArray} (h : OwnS w B v l) (hN : l.length ≤ 1073741824) (hlen : (Tx.joined (txs l)).length ≤ 1073741824) :
    Calls Tryz.prog 80 #[v, .string ⟨#[32]⟩] w fun e w' => e = .returned (.string (joinB l)) ∧ Below w.heap.size w w' := by
  by_cases hne : l = []
  · subst hne
    rcases h.2 with ⟨rfl, _⟩ | ⟨g, cap, cur, rfl, _⟩
    · refine (Tryz.strings_Join_none none 0 _ w).mono ?_
      rintro e w' ⟨rfl, rfl⟩
      exact ⟨rfl, Below.refl _ _⟩
    · refine (Tryz.strings_Join_none _ cap _ w).mono ?_
      rintro e w' ⟨rfl, rfl⟩
      exact ⟨rfl, Below.refl _ _⟩
  · have h' : w.ownsRow B 9 1 v (txs l).length ((txs l).map Wd.tv) := by
      have e : (txs l).map Wd.tv = l.map sv := by
        unfold txs
        rw [List.map_map]
        rfl
      rw [e]
      unfold OwnS at h
      simpa [txs] using h
    obtain ⟨g, c, rfl, hW⟩ := Wd.words_of h' (by
      intro e
      apply hne
      have : (txs l).length = 0 := by rw [e]; rfl
      simpa [txs] using this)
    exact Wd.join_words (txs l) B g c w hW (by simpa [txs] using hN) hlen
end Go.Proofs.YtcinjbolflhjmadGreatDoor
