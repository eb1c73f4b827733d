/-
  OWN WORK: Nma, Owa, Olo, Ona, Qfi.
-/
import Derived.Test.YtcinjbolflhjmadGreatDoorP9
/-
  PLAIN MATHEMATICS: names; who was not asked does not matter.
-/
namespace Go.Proofs.YtcinjbolflhjmadGreatDoor
open Tn

/-- who was had, who was asked, and who was listed -/
structure St where
  had : List Nat
  asked : List Nat
  lst : List Nat

def emB : ByteArray := ⟨#[]⟩
def full (s : ByteArray) : Bool := !s.toList.isEmpty
def contentI (r : Int) : Bool := (Kn.ofD r).content
def namedI (r : Int) : Bool := (Kn.ofD r).named

/-- what an attribute lists -/
def refsD (d : Dc) (n : Int) (name : ByteArray) : List Int := (Wd.toksOf (valN d n name)).map (fun t => findD d n (Tx.bs t))

abbrev Nmr := St → Nat → Bool → ByteArray × St

/-- what is in a node, and in that, is listed with it -/
def markF : Nat → Dc → List Cl → Nat → List Nat → List Nat
  | 0, _, _, _, l => l
  | f + 1, d, c, n, l => if l.contains n then l else (insideD d c (n : Int)).foldl (fun l k => markF f d c k l) (l ++ [n])
def markS (d : Dc) (c : List Cl) (k : Nat) (s : St) : St := ⟨s.had, s.asked, markF 64 d c k s.lst⟩
/-- asked for another one's name, and listed -/
def tagN (nm : Nmr) (d : Dc) (c : List Cl) (s : St) (k : Nat) : ByteArray × St := nm (markS d c k s) k true

/-- one by one, those that were not had yet -/
def eachF (nm : St → Nat → ByteArray × St) : List Int → List ByteArray × St → List ByteArray × St
  | [], s => s
  | k :: ks, s => eachF nm ks (if 0 ≤ k ∧ s.2.had.contains k.toNat = false then (s.1 ++ [(nm s.2 k.toNat).1], (nm s.2 k.toNat).2) else s)
def joinF (r : List ByteArray × St) : ByteArray × St := (Wd.sqz (joinB r.1), r.2)

def labelP (d : Dc) (n : Int) (had : List Nat) (k : Nat) : Bool := isA (nd d k).tag [108, 97, 98, 101, 108] && ((valN d (k : Int) ⟨#[102, 111, 114]⟩).toList == (valN d n ⟨#[105, 100]⟩).toList) && (scopeD d (k : Int) == scopeD d n) && !had.contains k
def labelFor (d : Dc) (n : Int) (had : List Nat) : Option Nat :=
  if isA (nd d n.toNat).tag [105, 110, 112, 117, 116] && full (valN d n ⟨#[105, 100]⟩) && decide (findD d n (valN d n ⟨#[105, 100]⟩) = n) then (all fuel d 0).find? (labelP d n had) else none

def listD (nm : Nmr) (d : Dc) (c : List Cl) (n : Int) (name : ByteArray) (st : St) : ByteArray × St := joinF (eachF (tagN nm d c) (refsD d n name) ([], st))
def stepA (nm : Nmr) (d : Dc) (c : List Cl) (n : Nat) (within : Bool) (st : St) : ByteArray × St := if within then (emB, st) else listD nm d c (n : Int) ⟨#[97, 114, 105, 97, 45, 108, 97, 98, 101, 108, 108, 101, 100, 98, 121]⟩ st
def stepB (nm : Nmr) (d : Dc) (n : Nat) (st : St) : ByteArray × St :=
  if isA (nd d n).tag [105, 109, 103] then (saidN d (n : Int) ⟨#[97, 108, 116]⟩, st) else match labelFor d (n : Int) st.had with | some k => nm st k true | none => (emB, st)
def stepC (nm : Nmr) (d : Dc) (c : List Cl) (n : Nat) (within : Bool) (st : St) : ByteArray × St :=
  if within || contentI (roleD d (n : Int)) then joinF (eachF (fun s k => nm s k true) ((insideD d c (n : Int)).map Int.ofNat) ([], st)) else (emB, st)
def st1 (d : Dc) (n : Nat) (st : St) : St := ⟨st.had ++ [n], st.asked ++ lineD d (n : Int), st.lst⟩
def tailC (d : Dc) (n : Nat) (e : ByteArray × St) : ByteArray × St := if full e.1 then e else (saidN d (n : Int) ⟨#[116, 105, 116, 108, 101]⟩, e.2)
def tailB (nm : Nmr) (d : Dc) (c : List Cl) (n : Nat) (within : Bool) (b : ByteArray × St) : ByteArray × St := if full b.1 then b else tailC d n (stepC nm d c n within b.2)
def tailA (nm : Nmr) (d : Dc) (c : List Cl) (n : Nat) (within : Bool) (a : ByteArray × St) : ByteArray × St :=
  if full a.1 then a
  else if full (saidN d (n : Int) ⟨#[97, 114, 105, 97, 45, 108, 97, 98, 101, 108]⟩) then (saidN d (n : Int) ⟨#[97, 114, 105, 97, 45, 108, 97, 98, 101, 108]⟩, a.2)
  else if roleD d (n : Int) = 12 ∧ within = true then (saidN d (n : Int) ⟨#[118, 97, 108, 117, 101]⟩, a.2)
  else tailB nm d c n within (stepB nm d n a.2)
/-- a node's name, and who was asked for it -/
def nameG (nm : Nmr) (d : Dc) (c : List Cl) (st : St) (n : Nat) (within : Bool) : ByteArray × St :=
  if hidD d (n : Int) && !st.lst.contains n then (emB, st1 d n st)
  else if has (nd d n).tag = false then (Wd.sqz (nd d n).text, st1 d n st)
  else tailA nm d c n within (stepA nm d c n within (st1 d n st))
def nameF : Nat → Dc → List Cl → Nmr
  | 0, _, _ => fun st _ _ => (emB, st)
  | f + 1, d, c => nameG (nameF f d c) d c

structure Mem where
  name : ByteArray
  about : ByteArray
  uses : List Nat

def nameM (d : Dc) (c : List Cl) (n : Nat) : ByteArray × St := if !has (nd d n).tag || namedI (roleD d (n : Int)) then nameF 64 d c ⟨[], lineD d (n : Int), []⟩ n false else (emB, ⟨[], lineD d (n : Int), []⟩)
def aboutT (d : Dc) (n : Nat) (name : ByteArray) (t : ByteArray × St) : ByteArray × St := if !full t.1 && !eqS (saidN d (n : Int) ⟨#[116, 105, 116, 108, 101]⟩) name then (saidN d (n : Int) ⟨#[116, 105, 116, 108, 101]⟩, t.2) else t
def aboutM (d : Dc) (c : List Cl) (n : Nat) (r : ByteArray × St) : ByteArray × St :=
  if has (nd d n).tag && full r.1 then aboutT d n r.1 (listD (nameF 64 d c) d c (n : Int) ⟨#[97, 114, 105, 97, 45, 100, 101, 115, 99, 114, 105, 98, 101, 100, 98, 121]⟩ ⟨[n], r.2.asked, []⟩) else (emB, r.2)
def usesD (d : Dc) (l : List Nat) : List Nat := (List.range d.length).filter (fun k => l.contains k)
def memoD (d : Dc) (c : List Cl) (n : Int) : Mem :=
  if isN d n false then ⟨(nameM d c n.toNat).1, (aboutM d c n.toNat (nameM d c n.toNat)).1, usesD d (aboutM d c n.toNat (nameM d c n.toNat)).2.asked⟩ else ⟨emB, emB, []⟩

/-! ### what was asked stays asked -/

/-- it asks more and more -/
def More (nm : St → Nat → ByteArray × St) : Prop := ∀ st n, ∀ x ∈ st.asked, x ∈ (nm st n).2.asked

theorem each_more {nm : St → Nat → ByteArray × St} (h : More nm) : ∀ (ks : List Int) (s : List ByteArray × St), ∀ x ∈ s.2.asked, x ∈ (eachF nm ks s).2.asked
  | [], _, _, hx => hx
  | k :: ks, s, x, hx => by
    rw [eachF]
    refine each_more h ks _ x ?_
    split
    · exact h _ _ x hx
    · exact hx
theorem tag_more {nm : Nmr} (h : ∀ w, More (fun s k => nm s k w)) (d : Dc) (c : List Cl) : More (tagN nm d c) := fun st n x hx => h true (markS d c n st) n x hx
theorem list_more {nm : Nmr} (h : ∀ w, More (fun s k => nm s k w)) (d : Dc) (c : List Cl) (n : Int) (name : ByteArray) (st : St) : ∀ x ∈ st.asked, x ∈ (listD nm d c n name st).2.asked := each_more (tag_more h d c) (refsD d n name) ([], st)
theorem stepA_more {nm : Nmr} (h : ∀ w, More (fun s k => nm s k w)) (d : Dc) (c : List Cl) (n : Nat) (within : Bool) (st : St) : ∀ x ∈ st.asked, x ∈ (stepA nm d c n within st).2.asked := by
  unfold stepA
  split
  · exact fun x hx => hx
  · exact list_more h d c _ _ st
theorem stepB_more {nm : Nmr} (h : ∀ w, More (fun s k => nm s k w)) (d : Dc) (n : Nat) (st : St) : ∀ x ∈ st.asked, x ∈ (stepB nm d n st).2.asked := by
  unfold stepB
  split
  · exact fun x hx => hx
  · split
    · exact h true st _
    · exact fun x hx => hx
theorem stepC_more {nm : Nmr} (h : ∀ w, More (fun s k => nm s k w)) (d : Dc) (c : List Cl) (n : Nat) (within : Bool) (st : St) : ∀ x ∈ st.asked, x ∈ (stepC nm d c n within st).2.asked := by
  unfold stepC
  split
  · exact each_more (h true) ((insideD d c (n : Int)).map Int.ofNat) ([], st)
  · exact fun x hx => hx
theorem tailC_st (d : Dc) (n : Nat) (e : ByteArray × St) : (tailC d n e).2 = e.2 := by
  unfold tailC
  split <;> rfl
theorem tailB_more {nm : Nmr} (h : ∀ w, More (fun s k => nm s k w)) (d : Dc) (c : List Cl) (n : Nat) (within : Bool) (b : ByteArray × St) : ∀ x ∈ b.2.asked, x ∈ (tailB nm d c n within b).2.asked := by
  unfold tailB
  split
  · exact fun x hx => hx
  · rw [tailC_st]
    exact stepC_more h d c n within b.2
theorem tailA_more {nm : Nmr} (h : ∀ w, More (fun s k => nm s k w)) (d : Dc) (c : List Cl) (n : Nat) (within : Bool) (a : ByteArray × St) : ∀ x ∈ a.2.asked, x ∈ (tailA nm d c n within a).2.asked := by
  unfold tailA
  split
  · exact fun x hx => hx
  · split
    · exact fun x hx => hx
    · split
      · exact fun x hx => hx
      · exact fun x hx => tailB_more h d c n within _ x (stepB_more h d n a.2 x hx)
theorem nameG_st1 {nm : Nmr} (h : ∀ w, More (fun s k => nm s k w)) (d : Dc) (c : List Cl) (st : St) (n : Nat) (within : Bool) : ∀ x ∈ (st1 d n st).asked, x ∈ (nameG nm d c st n within).2.asked := by
  unfold nameG
  split
  · exact fun x hx => hx
  · split
    · exact fun x hx => hx
    · exact fun x hx => tailA_more h d c n within _ x (stepA_more h d c n within _ x hx)
theorem name_more (d : Dc) (c : List Cl) : ∀ (f : Nat) (w : Bool), More (fun s k => nameF f d c s k w)
  | 0, _ => fun _ _ _ hx => hx
  | f + 1, w => fun st n x hx => nameG_st1 (name_more d c f) d c st n w x (by unfold st1; simp [hx])

/-! ### who was not asked does not matter -/

section
variable {d y : Dc} {k : Nat}

/-- two namers that say the same wherever k is not asked -/
def Agree (k : Nat) (a b : St → Nat → ByteArray × St) : Prop := ∀ st n, k ∉ (b st n).2.asked → a st n = b st n

theorem each_agree {a b : St → Nat → ByteArray × St} (h : Agree k a b) (hm : More b) : ∀ (ks : List Int) (s : List ByteArray × St), k ∉ (eachF b ks s).2.asked → eachF a ks s = eachF b ks s
  | [], _, _ => rfl
  | x :: ks, s, hk => by
    rw [eachF] at hk ⊢
    rw [eachF]
    by_cases q : 0 ≤ x ∧ s.2.had.contains x.toNat = false
    · rw [if_pos q] at hk ⊢
      rw [if_pos q]
      have e := h s.2 x.toNat (fun hx => hk (each_more hm ks _ k hx))
      rw [e]
      exact each_agree h hm ks _ hk
    · rw [if_neg q] at hk ⊢
      rw [if_neg q]
      exact each_agree h hm ks _ hk

theorem Alike.refsD (h : Alike d y k) {n : Nat} (hn : n ≠ k) (name : ByteArray) : YtcinjbolflhjmadGreatDoor.refsD y (n : Int) name = YtcinjbolflhjmadGreatDoor.refsD d (n : Int) name := by
  unfold YtcinjbolflhjmadGreatDoor.refsD
  have e : (fun t => YtcinjbolflhjmadGreatDoor.findD y (n : Int) (Tx.bs t)) = (fun t => YtcinjbolflhjmadGreatDoor.findD d (n : Int) (Tx.bs t)) := funext fun t => h.findD _ _
  rw [h.valN' hn, e]
theorem Alike.labelFor (h : Alike d y k) (n : Int) (had : List Nat) : YtcinjbolflhjmadGreatDoor.labelFor y n had = YtcinjbolflhjmadGreatDoor.labelFor d n had := by
  have e : labelP y n had = labelP d n had := by
    funext x
    unfold labelP
    rw [h.tag, h.valN _ (a := ⟨#[102, 111, 114]⟩) (by decide +kernel), h.valN _ (a := ⟨#[105, 100]⟩) (by decide +kernel), h.scopeD, h.scopeD]
  unfold YtcinjbolflhjmadGreatDoor.labelFor
  rw [h.tag, h.valN _ (a := ⟨#[105, 100]⟩) (by decide +kernel), h.findD, h.all, e]

theorem Alike.markF (h : Alike d y k) (c : List Cl) : ∀ (f n : Nat) (l : List Nat), YtcinjbolflhjmadGreatDoor.markF f y c n l = YtcinjbolflhjmadGreatDoor.markF f d c n l
  | 0, _, _ => rfl
  | f + 1, n, l => by
    have e : (fun l j => YtcinjbolflhjmadGreatDoor.markF f y c j l) = (fun l j => YtcinjbolflhjmadGreatDoor.markF f d c j l) := funext fun l => funext fun j => h.markF c f j l
    rw [YtcinjbolflhjmadGreatDoor.markF, YtcinjbolflhjmadGreatDoor.markF, h.insideD, e]
theorem Alike.tag_agree (h : Alike d y k) (c : List Cl) {a b : Nmr} (hab : ∀ w, Agree k (fun s j => a s j w) (fun s j => b s j w)) : Agree k (tagN a y c) (tagN b d c) := fun st n hk => by
  unfold tagN at *
  have e : markS y c n st = markS d c n st := by unfold markS; rw [h.markF]
  rw [e]
  exact hab true _ n hk
theorem list_agree (h : Alike d y k) (c : List Cl) {a b : Nmr} (hab : ∀ w, Agree k (fun s j => a s j w) (fun s j => b s j w)) (hm : ∀ w, More (fun s j => b s j w)) {n : Nat} (hn : n ≠ k) (name : ByteArray) (st : St) (hk : k ∉ (listD b d c (n : Int) name st).2.asked) : listD a y c (n : Int) name st = listD b d c (n : Int) name st := by
  unfold listD joinF at *
  rw [h.refsD hn, each_agree (h.tag_agree c hab) (tag_more hm d c) _ _ hk]

theorem nameG_agree (h : Alike d y k) (c : List Cl) {a b : Nmr} (hab : ∀ w, Agree k (fun s j => a s j w) (fun s j => b s j w)) (hm : ∀ w, More (fun s j => b s j w)) (st : St) (n : Nat) (hn : n ≠ k) (within : Bool) (hk : k ∉ (nameG b d c st n within).2.asked) :
    nameG a y c st n within = nameG b d c st n within := by
  have hl : k ∉ lineD d (n : Int) := fun hx => hk (nameG_st1 hm d c st n within k (by unfold st1; simp [hx]))
  have e1 : st1 y n st = st1 d n st := by unfold st1; rw [h.lineD]
  have er := h.roleD' (n := (n : Int)) hl
  unfold nameG at *
  rw [h.hidD, e1, h.tag, h.other n hn]
  by_cases q1 : (hidD d (n : Int) && !st.lst.contains n) = true
  · rw [if_pos q1, if_pos q1]
  rw [if_neg q1] at hk ⊢
  rw [if_neg q1]
  by_cases q2 : has (nd d n).tag = false
  · rw [if_pos q2, if_pos q2]
  rw [if_neg q2] at hk ⊢
  rw [if_neg q2]
  have eA : stepA a y c n within (st1 d n st) = stepA b d c n within (st1 d n st) := by
    have hk2 : k ∉ (stepA b d c n within (st1 d n st)).2.asked := fun hx => hk (tailA_more hm d c n within _ k hx)
    unfold stepA at *
    split
    · rfl
    · rename_i q
      rw [if_neg q] at hk2
      exact list_agree h c hab hm hn _ _ hk2
  rw [eA]
  generalize stepA b d c n within (st1 d n st) = sa at *
  unfold tailA at *
  rw [h.saidN' hn, h.saidN' hn, er]
  by_cases q3 : full sa.1 = true
  · rw [if_pos q3, if_pos q3]
  rw [if_neg q3] at hk ⊢
  rw [if_neg q3]
  by_cases q4 : full (saidN d (n : Int) ⟨#[97, 114, 105, 97, 45, 108, 97, 98, 101, 108]⟩) = true
  · rw [if_pos q4, if_pos q4]
  rw [if_neg q4] at hk ⊢
  rw [if_neg q4]
  by_cases q5 : roleD d (n : Int) = 12 ∧ within = true
  · rw [if_pos q5, if_pos q5]
  rw [if_neg q5] at hk ⊢
  rw [if_neg q5]
  have eB : stepB a y n sa.2 = stepB b d n sa.2 := by
    have hk2 : k ∉ (stepB b d n sa.2).2.asked := fun hx => hk (tailB_more hm d c n within _ k hx)
    unfold stepB at *
    rw [h.tag, h.saidN' hn, h.labelFor]
    split
    · rfl
    · rename_i q
      rw [if_neg q] at hk2
      split
      · rename_i j hj
        rw [hj] at hk2
        exact hab true sa.2 j hk2
      · rfl
  rw [eB]
  generalize stepB b d n sa.2 = sb at *
  unfold tailB at *
  by_cases q6 : full sb.1 = true
  · rw [if_pos q6, if_pos q6]
  rw [if_neg q6] at hk ⊢
  rw [if_neg q6]
  have eC : stepC a y c n within sb.2 = stepC b d c n within sb.2 := by
    rw [tailC_st] at hk
    unfold stepC at *
    rw [er, h.insideD]
    split
    · rename_i q
      rw [if_pos q] at hk
      unfold joinF at *
      rw [each_agree (hab true) (hm true) _ _ hk]
    · rfl
  rw [eC]
  unfold tailC
  rw [h.saidN' hn]

theorem line_self {d : Dc} {n : Nat} (h : lvD d n = true) : n ∈ lineD d (n : Int) := by
  unfold lineD
  rw [show (64 : Nat) = 63 + 1 from rfl, lineF, if_pos (by rw [isN_iff]; exact h), Int.toNat_natCast]
  simp

theorem name_agree (h : Alike d y k) (hk : lvD d k = true) (c : List Cl) : ∀ (f : Nat) (w : Bool), Agree k (fun s j => nameF f y c s j w) (fun s j => nameF f d c s j w)
  | 0, _ => fun _ _ _ => rfl
  | f + 1, w => fun st n hn => by
    have hne : n ≠ k := fun e => by
      subst e
      exact hn (nameG_st1 (name_more d c f) d c st n w n (by unfold st1; simp [line_self hk]))
    exact nameG_agree h c (name_agree h hk c f) (name_more d c f) st n hne w hn

theorem memo_alike (h : Alike d y k) (hk : lvD d k = true) (c : List Cl) (n : Int) (hu : k ∉ (memoD d c n).uses) : memoD y c n = memoD d c n := by
  unfold memoD at *
  rw [h.isN]
  by_cases hi : isN d n false = true
  · rw [if_pos hi] at hu ⊢
    rw [if_pos hi]
    obtain ⟨m, rfl, _, hlv⟩ := isN_nat hi
    rw [Int.toNat_natCast] at *
    have hno : k ∉ (aboutM d c m (nameM d c m)).2.asked := fun hx => hu (by
      unfold usesD
      rw [List.mem_filter]
      exact ⟨List.mem_range.mpr (lv_lt hk), by simpa using hx⟩)
    have hno2 : k ∉ (nameM d c m).2.asked := fun hx => hno (by
      unfold aboutM
      split
      · unfold aboutT
        have hx2 := list_more (fun w => name_more d c 64 w) d c (m : Int) ⟨#[97, 114, 105, 97, 45, 100, 101, 115, 99, 114, 105, 98, 101, 100, 98, 121]⟩ ⟨[m], (nameM d c m).2.asked, []⟩ k hx
        split
        · exact hx2
        · exact hx2
      · exact hx)
    have hl : k ∉ lineD d (m : Int) := fun hx => hno2 (by
      unfold nameM
      split
      · exact name_more d c 64 false ⟨[], lineD d (m : Int), []⟩ m k hx
      · exact hx)
    have hmk : m ≠ k := fun e => hl (by rw [← e]; exact line_self hlv)
    have eN : nameM y c m = nameM d c m := by
      unfold nameM at *
      rw [h.tag, h.roleD' hl, h.lineD]
      split
      · rename_i q
        rw [if_pos q] at hno2
        exact name_agree h hk c 64 false _ _ hno2
      · rfl
    have eA : aboutM y c m (nameM d c m) = aboutM d c m (nameM d c m) := by
      unfold aboutM at *
      rw [h.tag]
      split
      · rename_i q
        rw [if_pos q] at hno
        have hno3 : k ∉ (listD (nameF 64 d c) d c (m : Int) ⟨#[97, 114, 105, 97, 45, 100, 101, 115, 99, 114, 105, 98, 101, 100, 98, 121]⟩ ⟨[m], (nameM d c m).2.asked, []⟩).2.asked := fun hx => hno (by
          unfold aboutT
          split
          · exact hx
          · exact hx)
        rw [list_agree h c (name_agree h hk c 64) (fun w => name_more d c 64 w) hmk _ _ hno3]
        unfold aboutT
        rw [h.saidN' hmk]
      · rfl
    rw [eN, eA]
    unfold usesD
    rw [h.len]
  · rw [if_neg hi, if_neg hi]
end
end Go.Proofs.YtcinjbolflhjmadGreatDoor

/-
  THE WALK of role.wanted.
-/
namespace Go.Proofs.YtcinjbolflhjmadGreatDoor
open Go.RowKit

theorem tok_len : ∀ (ts : List (List UInt8)) (t : List UInt8), t ∈ ts → t.length ≤ (Tx.joined ts).length
  | [], t, h => by simp at h
  | [a], t, h => by
    rw [List.mem_singleton] at h
    rw [h, Tx.joined_one]
    exact Nat.le_refl _
  | a :: b :: r, t, h => by
    rw [Tx.joined_cons]
    rw [List.mem_cons] at h
    rcases h with rfl | h
    · simp
    · have := tok_len (b :: r) t h
      simp
      omega

theorem tok_size {s : ByteArray} (hs : s.size ≤ 4194304) {t : List UInt8} (ht : t ∈ Wd.toksOf s) : t.length ≤ 4194304 := by
  have := tok_len _ t ht
  have := Wd.joined_len s
  omega

theorem find_cases (s : List UInt8) : Kn.findD s = -1 ∨ ∃ r : Nat, Kn.findD s = (r : Int) := by
  unfold Kn.findD
  cases Kn.lk (Kn.nmL 19) s with
  | none => exact Or.inl rfl
  | some r => exact Or.inr ⟨r, rfl⟩

theorem want_at (lab : Bool) (ts : List (List UInt8)) (j : Nat) (h : j < ts.length) : wantL lab (ts.drop j) = if Kn.findD (Wd.lowL ts[j]) = 0 ∧ lab = true then -1 else if 0 ≤ Kn.findD (Wd.lowL ts[j]) then Kn.findD (Wd.lowL ts[j]) else wantL lab (ts.drop (j + 1)) := by
  rw [List.drop_eq_getElem_cons h, wantL]

set_option maxHeartbeats 1600000 in
set_option maxRecDepth 100000 in
theorem owant_any {w : World} {b o c : Nat} {rs : List Raw} {d : Tn.Dc} (hc : Cx w b o c rs d) (n : Int) :
    Calls Tryz.prog 75 #[.slice (some ⟨b, o, none⟩) rs.length c, .int .i64 n] w fun e w' => e = .returned (.int .i64 (wantD d n)) ∧ Below w.heap.size w w' := by
  have C : Hid (Cx w b o c rs d) := hc
  have hA := dattr_all hc.doc hc.fine.okd n ⟨#[114, 111, 108, 101]⟩
  have hz := val_size hc.vn n ⟨#[114, 111, 108, 101]⟩
  have E : Hid (wantD d n = wantL (labD d n) (Wd.toksOf (valN d n ⟨#[114, 111, 108, 101]⟩))) := rfl
  have HL : Hid (∀ W, Below w.heap.size w W → Calls Tryz.prog 101 #[.slice (some ⟨b, o, none⟩) rs.length c, .int .i64 n] W fun e w' => e = .returned (.bool (labD d n)) ∧ Below W.heap.size W w') := fun W hb => olab_any (hc.below hb).doc hc.fine.okd hc.vn n
  have HF : Hid (∀ W s, Below w.heap.size w W → s.size ≤ 4194304 → Calls Tryz.prog 99 #[.string s] W fun e w' => e = .returned (.int .i64 (Kn.findD s.data.toList)) ∧ Below W.heap.size W w') := fun W s hb hs => Kn.find_any (hc.below hb).tab s (by unfold maxLen; omega)
  clear hc
  generalize labD d n = lab at *
  generalize wantD d n = res at *
  generalize valN d n ⟨#[114, 111, 108, 101]⟩ = v at *
  generalize (attrN d n ⟨#[114, 111, 108, 101]⟩).isSome = q at *
  by_cases hne : Wd.toksOf v = []
  · have E2 : Hid (res = -1) := by show _ = _; rw [E.out, hne]; rfl
    have hT : ∀ W, Calls Tryz.prog 81 #[.string v] W fun e w' => e = .returned (.slice none 0 0) ∧ Below W.heap.size W w' := fun W => Wd.tokens_none v W hz hne
    clear E HL HF hne
    go_enter Tryz.func75, Tryz.ntmps75
    go_wp2_with (first
      | (go_at_call 85; refine hA.mono ?_; rintro e w1 ⟨rfl, hb1⟩)
      | (go_at_call 81; refine (hT _).mono ?_; rintro e w2 ⟨rfl, hb2⟩))
    refine wp_loop_rounds 1 ?_
    rw [rounds_succ]
    go_wp2_with fail
    go_ret
    exact ⟨by rw [E2.out]; rfl, hb1.trans (hb2.mono hb1.size)⟩
  · have hT : ∀ W, Calls Tryz.prog 81 #[.string v] W fun e w' => ∃ g c, e = .returned (.slice (some ⟨g, 0, none⟩) (Wd.toksOf v).length c) ∧ Wd.Words W.heap.size (Wd.toksOf v) g c w' ∧ Below W.heap.size W w' := fun W => Wd.tokens_some v W hz hne
    have hl := Wd.toksOf_len v
    have TS : Hid (∀ t ∈ Wd.toksOf v, t.length ≤ 4194304) := fun t ht => tok_size hz ht
    have hlen : (Wd.toksOf v).length ≤ 4194304 := by omega
    clear hne hl
    generalize Wd.toksOf v = ts at *
    go_enter Tryz.func75, Tryz.ntmps75
    go_wp2_with (first
      | (go_at_call 85; refine hA.mono ?_; rintro e w1 ⟨rfl, hb1⟩)
      | (go_at_call 81; refine (hT _).mono ?_; rintro e w2 ⟨g2, c2, rfl, hW2, hb2⟩))
    have TW : Hid (∀ j t, ts[j]? = some t → w2.cell? ⟨g2, j, none⟩ = some (.string (Tx.bs t))) := hW2.2.2.2
    have hcap := hW2.2.2.1
    have B2 : Below w.heap.size w w2 := hb1.trans (hb2.mono hb1.size)
    clear hW2 hT hA
    go_loopw [19] (fun i wr => ∃ j : Nat, j ≤ ts.length ∧ i = .int .i64 j ∧ Hid (res = wantL lab (ts.drop j)) ∧ Below w2.heap.size w2 wr) (fun i _ => ts.length - (intOf i).toNat)
    case atStart => exact ⟨0, Nat.zero_le _, rfl, by show _ = _; rw [E.out]; rfl, Below.refl _ _⟩
    case round =>
      obtain ⟨j, hj, rfl, R, hnx⟩ := hrel
      have BR : Below w.heap.size w wr := B2.trans (hnx.mono B2.size)
      by_cases hlt : j < ts.length
      · have hjt := List.getElem?_eq_getElem hlt
        have hc1 := keeps_below hnx (Nat.le_refl _) _ _ (TW.out j _ hjt)
        have hts := TS.out ts[j] (List.getElem_mem hlt)
        have R1 : Hid (res = if Kn.findD (Wd.lowL ts[j]) = 0 ∧ lab = true then -1 else if 0 ≤ Kn.findD (Wd.lowL ts[j]) then Kn.findD (Wd.lowL ts[j]) else wantL lab (ts.drop (j + 1))) := by
          show _ = _
          rw [R.out, want_at lab ts j hlt]
        have hLo : Calls Tryz.prog 100 #[.string (Tx.bs ts[j])] wr fun e w' => e = .returned (.string (Tx.bs (Wd.lowL ts[j]))) ∧ Below wr.heap.size wr w' := Wd.lower_any (Tx.bs ts[j]) wr hts
        have hFi : ∀ W, Below w.heap.size w W → Calls Tryz.prog 99 #[.string (Tx.bs (Wd.lowL ts[j]))] W fun e w' => e = .returned (.int .i64 (Kn.findD (Wd.lowL ts[j]))) ∧ Below W.heap.size W w' := fun W hb => HF.out W (Tx.bs (Wd.lowL ts[j])) hb (by show (Wd.lowL ts[j]).length ≤ _; rw [Wd.lowL_len]; exact hts)
        have fc := find_cases (Wd.lowL ts[j])
        clear R hjt hts
        generalize Tx.bs ts[j] = tb at *
        generalize Tx.bs (Wd.lowL ts[j]) = lb at *
        generalize Kn.findD (Wd.lowL ts[j]) = f at *
        rcases fc with rfl | ⟨r, rfl⟩
        · have R2 : Hid (res = wantL lab (ts.drop (j + 1))) := by show _ = _; rw [R1.out, if_neg (by omega), if_neg (by omega)]
          clear R1
          go_wp2_with (first
            | (go_at_call 100; refine hLo.mono ?_; rintro e w3 ⟨rfl, hb3⟩; have B3 := BR.trans (hb3.mono BR.size))
            | (go_at_call 99; refine (hFi _ B3).mono ?_; rintro e w4 ⟨rfl, hb4⟩))
          go_roundw
          case rel => exact ⟨j + 1, by omega, by go_num, R2, (hnx.trans (hb3.mono hnx.size)).trans (hb4.mono (Nat.le_trans hnx.size hb3.size))⟩
          case measure => simp [intOf]; omega
        · cases r with
          | zero =>
            cases lab with
            | true =>
              have R2 : Hid (res = -1) := by show _ = _; rw [R1.out, if_pos ⟨rfl, rfl⟩]
              clear R1
              go_wp2_with (first
                | (go_at_call 100; refine hLo.mono ?_; rintro e w3 ⟨rfl, hb3⟩; have B3 := BR.trans (hb3.mono BR.size))
                | (go_at_call 99; refine (hFi _ B3).mono ?_; rintro e w4 ⟨rfl, hb4⟩; have B4 := B3.trans (hb4.mono B3.size))
                | (go_at_call 101; refine (HL.out _ B4).mono ?_; rintro e w5 ⟨rfl, hb5⟩))
              go_ret
              exact ⟨by rw [R2.out]; rfl, B4.trans (hb5.mono B4.size)⟩
            | false =>
              have R2 : Hid (res = 0) := by show _ = _; rw [R1.out, if_neg (by simp), if_pos (by omega)]; rfl
              clear R1
              go_wp2_with (first
                | (go_at_call 100; refine hLo.mono ?_; rintro e w3 ⟨rfl, hb3⟩; have B3 := BR.trans (hb3.mono BR.size))
                | (go_at_call 99; refine (hFi _ B3).mono ?_; rintro e w4 ⟨rfl, hb4⟩; have B4 := B3.trans (hb4.mono B3.size))
                | (go_at_call 101; refine (HL.out _ B4).mono ?_; rintro e w5 ⟨rfl, hb5⟩))
              go_ret
              exact ⟨by rw [R2.out]; rfl, B4.trans (hb5.mono B4.size)⟩
          | succ r =>
            have R2 : Hid (res = ((r + 1 : Nat) : Int)) := by show _ = _; rw [R1.out, if_neg (by omega), if_pos (by omega)]
            have hq : ((((r + 1 : Nat) : Int)) == 0) = false := by simp; omega
            clear R1
            generalize hr : r + 1 = r1 at *
            have hr1 : 0 < r1 := by omega
            clear hr
            go_wp2_with (first
              | (go_at_call 100; refine hLo.mono ?_; rintro e w3 ⟨rfl, hb3⟩; have B3 := BR.trans (hb3.mono BR.size))
              | (go_at_call 99; refine (hFi _ B3).mono ?_; rintro e w4 ⟨rfl, hb4⟩; have B4 := B3.trans (hb4.mono B3.size)))
            go_ret
            exact ⟨by rw [R2.out]; rfl, B4⟩
      · obtain rfl : j = ts.length := by omega
        have R2 : Hid (res = -1) := by show _ = _; rw [R.out, List.drop_length]; rfl
        go_wp2_with fail
        go_ret
        exact ⟨by rw [R2.out]; rfl, BR⟩
end Go.Proofs.YtcinjbolflhjmadGreatDoor

/-
  PLAIN MATHEMATICS: the words of a text, lowered, are its words, each lowered.
-/
namespace Go.Proofs.YtcinjbolflhjmadGreatDoor
open Go.RowKit

theorem blank_low (c : UInt8) : Tx.blank (Wd.lowB c) = Tx.blank c := by
  by_cases h : 65 ≤ c.toNat ∧ c.toNat ≤ 90
  · have h2 := Wd.lowB_yes c h
    have no : ∀ x : UInt8, 33 ≤ x.toNat → Tx.blank x = false := by
      intro x hx
      unfold Tx.blank
      have n1 : (x == 32) = false := by simp; intro e; subst e; simp at hx
      have n2 : (x == 9) = false := by simp; intro e; subst e; simp at hx
      have n3 : (x == 10) = false := by simp; intro e; subst e; simp at hx
      have n4 : (x == 13) = false := by simp; intro e; subst e; simp at hx
      rw [n1, n2, n3, n4]
      rfl
    rw [no c (by omega), no _ (by omega)]
  · rw [Wd.lowB_no c h]

theorem fin_low (a : List (List UInt8)) (c : List UInt8) : Tx.fin (a.map Wd.lowL) (Wd.lowL c) = (Tx.fin a c).map Wd.lowL := by
  cases c with
  | nil => simp [Tx.fin, Wd.lowL]
  | cons x r => simp [Tx.fin, Wd.lowL]

theorem scan_low : ∀ (l : List UInt8) (a : List (List UInt8)) (c : List UInt8), (Wd.lowL l).foldl Tx.step (a.map Wd.lowL, Wd.lowL c) = ((l.foldl Tx.step (a, c)).1.map Wd.lowL, Wd.lowL (l.foldl Tx.step (a, c)).2)
  | [], a, c => rfl
  | x :: l, a, c => by
    have e : Tx.step (a.map Wd.lowL, Wd.lowL c) (Wd.lowB x) = ((Tx.step (a, c) x).1.map Wd.lowL, Wd.lowL (Tx.step (a, c) x).2) := by
      unfold Tx.step
      rw [blank_low]
      split
      · exact congrArg (fun z => (z, ([] : List UInt8))) (fin_low a c)
      · simp [Wd.lowL]
    have e2 : Wd.lowL (x :: l) = Wd.lowB x :: Wd.lowL l := rfl
    rw [e2, List.foldl_cons, List.foldl_cons, e, scan_low l]

theorem toks_low (l : List UInt8) : Tx.toks (Wd.lowL l) = (Tx.toks l).map Wd.lowL := by
  have := scan_low l [] []
  unfold Tx.toks Tx.scan
  rw [show (Wd.lowL l).foldl Tx.step ([], []) = (Wd.lowL l).foldl Tx.step (([] : List (List UInt8)).map Wd.lowL, Wd.lowL []) from rfl, this]
  exact fin_low _ _

theorem toks_said (v : ByteArray) : Wd.toksOf (lowS (Wd.sqz v)) = (Wd.toksOf v).map Wd.lowL := by
  show Tx.toks (Wd.lowL (Tx.squeeze v.data.toList)) = _
  rw [toks_low, Tx.toks_squeeze]
  rfl

/-- the first one that is asked for, of words that are lowered -/
def refL (lab : Bool) : List (List UInt8) → Int
  | [] => -1
  | t :: ts => if Kn.findD t = 0 ∧ lab = true then -1 else if 0 ≤ Kn.findD t then Kn.findD t else refL lab ts
theorem ref_want (lab : Bool) : ∀ ts, refL lab (ts.map Wd.lowL) = wantL lab ts
  | [] => rfl
  | t :: ts => by rw [List.map_cons, refL, wantL, ref_want lab ts]
theorem ref_at (lab : Bool) (ts : List (List UInt8)) (j : Nat) (h : j < ts.length) : refL lab (ts.drop j) = if Kn.findD ts[j] = 0 ∧ lab = true then -1 else if 0 ≤ Kn.findD ts[j] then Kn.findD ts[j] else refL lab (ts.drop (j + 1)) := by
  rw [List.drop_eq_getElem_cons h, refL]
theorem want_ref (d : Tn.Dc) (n : Int) : wantD d n = refL (labD d n) (Wd.toksOf (lowS (saidN d n ⟨#[114, 111, 108, 101]⟩))) := by
  unfold wantD saidN
  rw [toks_said, ref_want]
theorem low_size (s : ByteArray) : (lowS s).size = s.size := by
  show (Wd.lowL s.data.toList).length = s.size
  rw [Wd.lowL_len]
  rfl
end Go.Proofs.YtcinjbolflhjmadGreatDoor

/-
  THE WALKS of role.native and role.alone.
-/
namespace Go.Proofs.YtcinjbolflhjmadGreatDoor
open Go.RowKit

theorem isA_one {s : ByteArray} {a b : List UInt8} (h : isA s a = true) (hab : a ≠ b) : isA s b = false := by
  unfold isA at *
  have : s.toList = a := by simpa using h
  rw [this]
  simpa using hab

set_option maxHeartbeats 3200000 in
set_option maxRecDepth 100000 in
theorem onat_any {w : World} {b o c : Nat} {rs : List Raw} {d : Tn.Dc} (hc : Cx w b o c rs d) (k : Nat) (hk : Tn.isN d (k : Int) true = true) :
    Calls Tryz.prog 76 #[.slice (some ⟨b, o, none⟩) rs.length c, .int .i64 (k : Int)] w fun e w' => e = .returned (.int .i64 (natD d (k : Int))) ∧ Below w.heap.size w w' := by
  have hd := hc.doc
  have hg := hc.fine.okd
  have hkl : k < d.length := by obtain ⟨k', e, h, _⟩ := isN_nat (isN_true hk); omega
  have hk' : k < rs.length := by rw [hd.len]; exact hkl
  have h1 := hd.row.c1 k hk'
  have ht : rs[k].tag = (Tn.nd d k).tag := by rw [(hd.nds k hk' hkl).tag, nd_at hkl]
  rw [ht] at h1
  have tz := (hc.vn k).2
  have SH : ∀ W, Below w.heap.size w W → Calls Tryz.prog 102 #[.slice (some ⟨b, o, none⟩) rs.length c, .int .i64 (k : Int), .string ⟨#[104, 114, 101, 102]⟩] W fun e w' => e = .returned (.bool (hasN d (k : Int) ⟨#[104, 114, 101, 102]⟩)) ∧ Below W.heap.size W w' := fun W hb => ohas_any (hc.below hb).doc hg _ _
  have SA : ∀ W, Below w.heap.size w W → Calls Tryz.prog 102 #[.slice (some ⟨b, o, none⟩) rs.length c, .int .i64 (k : Int), .string ⟨#[97, 108, 116]⟩] W fun e w' => e = .returned (.bool (hasN d (k : Int) ⟨#[97, 108, 116]⟩)) ∧ Below W.heap.size W w' := fun W hb => ohas_any (hc.below hb).doc hg _ _
  have SY : ∀ W, Below w.heap.size w W → Calls Tryz.prog 89 #[.slice (some ⟨b, o, none⟩) rs.length c, .int .i64 (k : Int), .string ⟨#[116, 121, 112, 101]⟩] W fun e w' => e = .returned (.string (saidN d (k : Int) ⟨#[116, 121, 112, 101]⟩)) ∧ Below W.heap.size W w' := fun W hb => osaid_any (hc.below hb).doc hg hc.vn _ _
  have SB : ∀ W, Below w.heap.size w W → Calls Tryz.prog 89 #[.slice (some ⟨b, o, none⟩) rs.length c, .int .i64 (k : Int), .string ⟨#[97, 108, 116]⟩] W fun e w' => e = .returned (.string (saidN d (k : Int) ⟨#[97, 108, 116]⟩)) ∧ Below W.heap.size W w' := fun W hb => osaid_any (hc.below hb).doc hg hc.vn _ _
  have ST : ∀ W, Below w.heap.size w W → Calls Tryz.prog 89 #[.slice (some ⟨b, o, none⟩) rs.length c, .int .i64 (k : Int), .string ⟨#[116, 105, 116, 108, 101]⟩] W fun e w' => e = .returned (.string (saidN d (k : Int) ⟨#[116, 105, 116, 108, 101]⟩)) ∧ Below W.heap.size W w' := fun W hb => osaid_any (hc.below hb).doc hg hc.vn _ _
  have yz := said_size hc.vn (k : Int) ⟨#[116, 121, 112, 101]⟩
  have SW : ∀ W, Calls Tryz.prog 100 #[.string (saidN d (k : Int) ⟨#[116, 121, 112, 101]⟩)] W fun e w' => e = .returned (.string (lowS (saidN d (k : Int) ⟨#[116, 121, 112, 101]⟩))) ∧ Below W.heap.size W w' := fun W => Wd.lower_any _ W yz
  have SL : ∀ W, Below w.heap.size w W → Calls Tryz.prog 101 #[.slice (some ⟨b, o, none⟩) rs.length c, .int .i64 (k : Int)] W fun e w' => e = .returned (.bool (labD d (k : Int))) ∧ Below W.heap.size W w' := fun W hb => olab_any (hc.below hb).doc hg hc.vn _
  have SG : ∀ W, Calls Tryz.prog 103 #[.string (Tn.nd d k).tag] W fun e w' => e = .returned (.int .i64 (Kn.tagD (Tn.nd d k).tag.data.toList)) ∧ Below W.heap.size W w' := fun W => Kn.tag_any W _ (by unfold maxLen; omega)
  have E : Hid (natD d (k : Int) = natT (labD d (k : Int)) (hasN d (k : Int) ⟨#[104, 114, 101, 102]⟩) ((lowS (saidN d (k : Int) ⟨#[116, 121, 112, 101]⟩)).toList == [99, 104, 101, 99, 107, 98, 111, 120]) (hasN d (k : Int) ⟨#[97, 108, 116]⟩ && (saidN d (k : Int) ⟨#[97, 108, 116]⟩).toList.isEmpty) (!(saidN d (k : Int) ⟨#[116, 105, 116, 108, 101]⟩).toList.isEmpty) (Tn.nd d k).tag) := rfl
  clear hc hd hg hk hkl ht yz tz
  generalize natD d (k : Int) = res at *
  generalize labD d (k : Int) = lab at *
  generalize hasN d (k : Int) ⟨#[104, 114, 101, 102]⟩ = hr at *
  generalize hasN d (k : Int) ⟨#[97, 108, 116]⟩ = al at *
  generalize lowS (saidN d (k : Int) ⟨#[116, 121, 112, 101]⟩) = ylow at *
  generalize saidN d (k : Int) ⟨#[116, 121, 112, 101]⟩ = ysay at *
  generalize saidN d (k : Int) ⟨#[97, 108, 116]⟩ = asay at *
  generalize saidN d (k : Int) ⟨#[116, 105, 116, 108, 101]⟩ = tsay at *
  generalize (Tn.nd d k).tag = tag at *
  generalize hTG : Kn.tagD tag.data.toList = tg at *
  cases ha : isA tag [97] with
  | true =>
    have hi := isA_one ha (b := [105, 110, 112, 117, 116]) (by decide)
    have hm := isA_one ha (b := [105, 109, 103]) (by decide)
    have hs := isA_one ha (b := [115, 101, 99, 116, 105, 111, 110]) (by decide)
    cases hr with
    | true =>
      have E2 : Hid (res = 7) := by show _ = _; rw [E.out]; unfold natT; simp [ha]
      clear E hTG
      have B0 := Below.refl w.heap.size w
      simp only [isA] at *
      go_enter Tryz.func76, Tryz.ntmps76
      go_wp2_with (go_at_call 102; refine ((SH _ B0)).mono ?_; clear SH; rintro e w1 ⟨rfl, hb1⟩; have B1 := B0.trans (hb1.mono B0.size))
      go_ret
      exact ⟨by rw [E2.out]; rfl, B1⟩
    | false =>
      have E2 : Hid (res = tg) := by show _ = _; rw [E.out]; unfold natT; simp [ha, hi, hm, hs, hTG]
      clear E hTG
      have B0 := Below.refl w.heap.size w
      simp only [isA] at *
      go_enter Tryz.func76, Tryz.ntmps76
      go_wp2_with (first
        | (go_at_call 102; refine ((SH _ B0)).mono ?_; clear SH; rintro e w1 ⟨rfl, hb1⟩; have B1 := B0.trans (hb1.mono B0.size))
        | (go_at_call 103; refine ((SG _)).mono ?_; rintro e w2 ⟨rfl, hb2⟩; have B2 := B1.trans (hb2.mono B1.size)))
      go_ret
      exact ⟨by rw [E2.out]; rfl, B2⟩
  | false =>
    cases hi : isA tag [105, 110, 112, 117, 116] with
    | true =>
      cases hy : (ylow.toList == [99, 104, 101, 99, 107, 98, 111, 120]) with
      | true =>
        have E2 : Hid (res = 9) := by show _ = _; rw [E.out]; unfold natT; simp [ha, hi, hy]
        clear E hTG
        have B0 := Below.refl w.heap.size w
        simp only [isA] at *
        go_enter Tryz.func76, Tryz.ntmps76
        go_wp2_with (first
          | (go_at_call 89; refine ((SY _ B0)).mono ?_; clear SY; rintro e w1 ⟨rfl, hb1⟩; have B1 := B0.trans (hb1.mono B0.size))
          | (go_at_call 100; refine ((SW _)).mono ?_; clear SW; rintro e w2 ⟨rfl, hb2⟩; have B2 := B1.trans (hb2.mono B1.size)))
        go_ret
        exact ⟨by rw [E2.out]; rfl, B2⟩
      | false =>
        have E2 : Hid (res = 12) := by show _ = _; rw [E.out]; unfold natT; simp [ha, hi, hy]
        clear E hTG
        have B0 := Below.refl w.heap.size w
        simp only [isA] at *
        go_enter Tryz.func76, Tryz.ntmps76
        go_wp2_with (first
          | (go_at_call 89; refine ((SY _ B0)).mono ?_; clear SY; rintro e w1 ⟨rfl, hb1⟩; have B1 := B0.trans (hb1.mono B0.size))
          | (go_at_call 100; refine ((SW _)).mono ?_; clear SW; rintro e w2 ⟨rfl, hb2⟩; have B2 := B1.trans (hb2.mono B1.size)))
        go_ret
        exact ⟨by rw [E2.out]; rfl, B2⟩
    | false =>
      cases hm : isA tag [105, 109, 103] with
      | true =>
        cases al with
        | false =>
          have E2 : Hid (res = 11) := by show _ = _; rw [E.out]; unfold natT; simp [ha, hi, hm]
          clear E hTG
          have B0 := Below.refl w.heap.size w
          simp only [isA] at *
          go_enter Tryz.func76, Tryz.ntmps76
          go_wp2_with (go_at_call 102; refine ((SA _ B0)).mono ?_; clear SA; rintro e w1 ⟨rfl, hb1⟩; have B1 := B0.trans (hb1.mono B0.size))
          go_ret
          exact ⟨by rw [E2.out]; rfl, B1⟩
        | true =>
          cases he : asay.toList.isEmpty with
          | false =>
            have E2 : Hid (res = 11) := by show _ = _; rw [E.out]; unfold natT; simp [ha, hi, hm, he]
            clear E hTG
            have B0 := Below.refl w.heap.size w
            simp only [isA] at *
            go_enter Tryz.func76, Tryz.ntmps76
            go_wp2_with (first
              | (go_at_call 102; refine ((SA _ B0)).mono ?_; clear SA; rintro e w1 ⟨rfl, hb1⟩; have B1 := B0.trans (hb1.mono B0.size))
              | (go_at_call 89; refine ((SB _ B1)).mono ?_; clear SB; rintro e w2 ⟨rfl, hb2⟩; have B2 := B1.trans (hb2.mono B1.size)))
            go_ret
            exact ⟨by rw [E2.out]; rfl, B2⟩
          | true =>
            cases lab with
            | true =>
              have E2 : Hid (res = 11) := by show _ = _; rw [E.out]; unfold natT; simp [ha, hi, hm, he]
              clear E hTG
              have B0 := Below.refl w.heap.size w
              simp only [isA] at *
              go_enter Tryz.func76, Tryz.ntmps76
              go_wp2_with (first
                | (go_at_call 102; refine ((SA _ B0)).mono ?_; clear SA; rintro e w1 ⟨rfl, hb1⟩; have B1 := B0.trans (hb1.mono B0.size))
                | (go_at_call 89; refine ((SB _ B1)).mono ?_; clear SB; rintro e w2 ⟨rfl, hb2⟩; have B2 := B1.trans (hb2.mono B1.size))
                | (go_at_call 101; refine ((SL _ B2)).mono ?_; clear SL; rintro e w3 ⟨rfl, hb3⟩; have B3 := B2.trans (hb3.mono B2.size)))
              go_ret
              exact ⟨by rw [E2.out]; rfl, B3⟩
            | false =>
              have E2 : Hid (res = 0) := by show _ = _; rw [E.out]; unfold natT; simp [ha, hi, hm, he]
              clear E hTG
              have B0 := Below.refl w.heap.size w
              simp only [isA] at *
              go_enter Tryz.func76, Tryz.ntmps76
              go_wp2_with (first
                | (go_at_call 102; refine ((SA _ B0)).mono ?_; clear SA; rintro e w1 ⟨rfl, hb1⟩; have B1 := B0.trans (hb1.mono B0.size))
                | (go_at_call 89; refine ((SB _ B1)).mono ?_; clear SB; rintro e w2 ⟨rfl, hb2⟩; have B2 := B1.trans (hb2.mono B1.size))
                | (go_at_call 101; refine ((SL _ B2)).mono ?_; clear SL; rintro e w3 ⟨rfl, hb3⟩; have B3 := B2.trans (hb3.mono B2.size)))
              go_ret
              exact ⟨by rw [E2.out]; rfl, B3⟩
      | false =>
        cases hs : isA tag [115, 101, 99, 116, 105, 111, 110] with
        | false =>
          have E2 : Hid (res = tg) := by show _ = _; rw [E.out]; unfold natT; simp [ha, hi, hm, hs, hTG]
          clear E hTG
          have B0 := Below.refl w.heap.size w
          simp only [isA] at *
          go_enter Tryz.func76, Tryz.ntmps76
          go_wp2_with (go_at_call 103; refine ((SG _)).mono ?_; rintro e w1 ⟨rfl, hb1⟩; have B1 := B0.trans (hb1.mono B0.size))
          go_ret
          exact ⟨by rw [E2.out]; rfl, B1⟩
        | true =>
          cases lab with
          | true =>
            have E2 : Hid (res = 16) := by show _ = _; rw [E.out]; unfold natT; simp [ha, hi, hm, hs]
            clear E hTG
            have B0 := Below.refl w.heap.size w
            simp only [isA] at *
            go_enter Tryz.func76, Tryz.ntmps76
            go_wp2_with (go_at_call 101; refine ((SL _ B0)).mono ?_; clear SL; rintro e w1 ⟨rfl, hb1⟩; have B1 := B0.trans (hb1.mono B0.size))
            go_ret
            exact ⟨by rw [E2.out]; rfl, B1⟩
          | false =>
            cases he : tsay.toList.isEmpty with
            | false =>
              have E2 : Hid (res = 16) := by show _ = _; rw [E.out]; unfold natT; simp [ha, hi, hm, hs, he]
              clear E hTG
              have B0 := Below.refl w.heap.size w
              simp only [isA] at *
              go_enter Tryz.func76, Tryz.ntmps76
              go_wp2_with (first
                | (go_at_call 101; refine ((SL _ B0)).mono ?_; clear SL; rintro e w1 ⟨rfl, hb1⟩; have B1 := B0.trans (hb1.mono B0.size))
                | (go_at_call 89; refine ((ST _ B1)).mono ?_; clear ST; rintro e w2 ⟨rfl, hb2⟩; have B2 := B1.trans (hb2.mono B1.size)))
              go_ret
              exact ⟨by rw [E2.out]; rfl, B2⟩
            | true =>
              have E2 : Hid (res = tg) := by show _ = _; rw [E.out]; unfold natT; simp [ha, hi, hm, hs, he, hTG]
              clear E hTG
              have B0 := Below.refl w.heap.size w
              simp only [isA] at *
              go_enter Tryz.func76, Tryz.ntmps76
              go_wp2_with (first
                | (go_at_call 101; refine ((SL _ B0)).mono ?_; clear SL; rintro e w1 ⟨rfl, hb1⟩; have B1 := B0.trans (hb1.mono B0.size))
                | (go_at_call 89; refine ((ST _ B1)).mono ?_; clear ST; rintro e w2 ⟨rfl, hb2⟩; have B2 := B1.trans (hb2.mono B1.size))
                | (go_at_call 103; refine ((SG _)).mono ?_; rintro e w3 ⟨rfl, hb3⟩; have B3 := B2.trans (hb3.mono B2.size)))
              go_ret
              exact ⟨by rw [E2.out]; rfl, B3⟩

set_option maxHeartbeats 800000 in
theorem oalone_any {w : World} {b o c : Nat} {rs : List Raw} {d : Tn.Dc} (hc : Cx w b o c rs d) (n : Int) :
    Calls Tryz.prog 49 #[.slice (some ⟨b, o, none⟩) rs.length c, .int .i64 n] w fun e w' => e = .returned (.int .i64 (aloneD d n)) ∧ Below w.heap.size w w' := by
  have SI := dis_any hc.doc n true
  cases ht : Tn.isN d n true with
  | false =>
    have E : Hid (aloneD d n = 10) := alone_text ht
    rw [ht] at SI
    clear hc ht
    go_enter Tryz.func49, Tryz.ntmps49
    go_wp2_with (go_at_call 27; refine SI.mono ?_; rintro e w1 ⟨rfl, hw1⟩; subst hw1)
    go_ret
    exact ⟨by rw [E.out]; rfl, Below.refl _ _⟩
  | true =>
    obtain ⟨k, rfl, _, _⟩ := isN_nat (isN_true ht)
    have SW := owant_any hc (k : Int)
    have SN : ∀ W, Below w.heap.size w W → Calls Tryz.prog 76 #[.slice (some ⟨b, o, none⟩) rs.length c, .int .i64 (k : Int)] W fun e w' => e = .returned (.int .i64 (natD d (k : Int))) ∧ Below W.heap.size W w' := fun W hb => onat_any (hc.below hb) k ht
    have E : Hid (aloneD d (k : Int) = if 0 ≤ wantD d (k : Int) then wantD d (k : Int) else natD d (k : Int)) := by show _ = _; unfold aloneD; rw [ht]; rfl
    rw [ht] at SI
    clear hc ht
    generalize aloneD d (k : Int) = res at *
    generalize wantD d (k : Int) = wt at *
    generalize natD d (k : Int) = nt at *
    by_cases hw : 0 ≤ wt
    · have E2 : Hid (res = wt) := by show _ = _; rw [E.out, if_pos hw]
      clear E
      go_enter Tryz.func49, Tryz.ntmps49
      go_wp2_with (first
        | (go_at_call 27; refine SI.mono ?_; rintro e w1 ⟨rfl, hw1⟩; subst hw1)
        | (go_at_call 75; refine SW.mono ?_; rintro e w2 ⟨rfl, hb2⟩))
      go_ret
      exact ⟨by rw [E2.out]; rfl, hb2⟩
    · have E2 : Hid (res = nt) := by show _ = _; rw [E.out, if_neg hw]
      clear E
      go_enter Tryz.func49, Tryz.ntmps49
      go_wp2_with (first
        | (go_at_call 27; refine SI.mono ?_; rintro e w1 ⟨rfl, hw1⟩; subst hw1)
        | (go_at_call 75; refine SW.mono ?_; rintro e w2 ⟨rfl, hb2⟩)
        | (go_at_call 76; refine (SN _ hb2).mono ?_; rintro e w3 ⟨rfl, hb3⟩))
      go_ret
      exact ⟨by rw [E2.out]; rfl, hb2.trans (hb3.mono hb2.size)⟩
end Go.Proofs.YtcinjbolflhjmadGreatDoor

/-
  THE WALK of the reference's first.
-/
namespace Go.Proofs.YtcinjbolflhjmadGreatDoor
open Go.RowKit

set_option maxHeartbeats 6400000 in
set_option maxRecDepth 100000 in
theorem qfirst_any {w : World} {b o c : Nat} {rs : List Raw} {d : Tn.Dc} (hc : Cx w b o c rs d) (k : Nat) (hk : Tn.isN d (k : Int) true = true) :
    Calls Tryz.prog 41 #[.slice (some ⟨b, o, none⟩) rs.length c, .int .i64 (k : Int)] w fun e w' => e = .returned (.int .i64 (aloneD d (k : Int))) ∧ Below w.heap.size w w' := by
  have hd := hc.doc
  have hkl : k < d.length := by obtain ⟨k', e, h, _⟩ := isN_nat (isN_true hk); omega
  have hk' : k < rs.length := by rw [hd.len]; exact hkl
  have h1 := hd.row.c1 k hk'
  have ht : rs[k].tag = (Tn.nd d k).tag := by rw [(hd.nds k hk' hkl).tag, nd_at hkl]
  rw [ht] at h1
  have HT : Hid (∀ W, Below w.heap.size w W → W.cell? ⟨b, o + k * 9 + 1, none⟩ = some (.string (Tn.nd d k).tag)) := fun W hb => keeps_below hb (Nat.le_refl _) _ _ h1
  have SR := qsaid_any hd hc.vn (k : Int) ⟨#[114, 111, 108, 101]⟩
  have rz := said_size hc.vn (k : Int) ⟨#[114, 111, 108, 101]⟩
  have SRL : ∀ W, Calls Tryz.prog 40 #[.string (saidN d (k : Int) ⟨#[114, 111, 108, 101]⟩)] W fun e w' => e = .returned (.string (lowS (saidN d (k : Int) ⟨#[114, 111, 108, 101]⟩))) ∧ Below W.heap.size W w' := fun W => Wd.rlower_any _ W rz
  have lz : (lowS (saidN d (k : Int) ⟨#[114, 111, 108, 101]⟩)).size ≤ 4194304 := by rw [low_size]; exact rz
  have SH : ∀ W, Below w.heap.size w W → Calls Tryz.prog 18 #[.slice (some ⟨b, o, none⟩) rs.length c, .int .i64 (k : Int), .string ⟨#[104, 114, 101, 102]⟩] W fun e w' => e = .returned (.tuple #[.string (valN d (k : Int) ⟨#[104, 114, 101, 102]⟩), .bool (hasN d (k : Int) ⟨#[104, 114, 101, 102]⟩)]) ∧ Below W.heap.size W w' := fun W hb => rattr_all (hc.below hb).doc _ _
  have SA : ∀ W, Below w.heap.size w W → Calls Tryz.prog 18 #[.slice (some ⟨b, o, none⟩) rs.length c, .int .i64 (k : Int), .string ⟨#[97, 108, 116]⟩] W fun e w' => e = .returned (.tuple #[.string (valN d (k : Int) ⟨#[97, 108, 116]⟩), .bool (hasN d (k : Int) ⟨#[97, 108, 116]⟩)]) ∧ Below W.heap.size W w' := fun W hb => rattr_all (hc.below hb).doc _ _
  have az := val_size hc.vn (k : Int) ⟨#[97, 108, 116]⟩
  have SQ : ∀ W, Calls Tryz.prog 14 #[.string (valN d (k : Int) ⟨#[97, 108, 116]⟩)] W fun e w' => e = .returned (.string (saidN d (k : Int) ⟨#[97, 108, 116]⟩)) ∧ Below W.heap.size W w' := fun W => Wd.rsqueeze_any _ W az
  have SY : ∀ W, Below w.heap.size w W → Calls Tryz.prog 37 #[.slice (some ⟨b, o, none⟩) rs.length c, .int .i64 (k : Int), .string ⟨#[116, 121, 112, 101]⟩] W fun e w' => e = .returned (.string (saidN d (k : Int) ⟨#[116, 121, 112, 101]⟩)) ∧ Below W.heap.size W w' := fun W hb => qsaid_any (hc.below hb).doc hc.vn _ _
  have ST : ∀ W, Below w.heap.size w W → Calls Tryz.prog 37 #[.slice (some ⟨b, o, none⟩) rs.length c, .int .i64 (k : Int), .string ⟨#[116, 105, 116, 108, 101]⟩] W fun e w' => e = .returned (.string (saidN d (k : Int) ⟨#[116, 105, 116, 108, 101]⟩)) ∧ Below W.heap.size W w' := fun W hb => qsaid_any (hc.below hb).doc hc.vn _ _
  have yz := said_size hc.vn (k : Int) ⟨#[116, 121, 112, 101]⟩
  have SW : ∀ W, Calls Tryz.prog 40 #[.string (saidN d (k : Int) ⟨#[116, 121, 112, 101]⟩)] W fun e w' => e = .returned (.string (lowS (saidN d (k : Int) ⟨#[116, 121, 112, 101]⟩))) ∧ Below W.heap.size W w' := fun W => Wd.rlower_any _ W yz
  have SL : ∀ W, Below w.heap.size w W → Calls Tryz.prog 70 #[.slice (some ⟨b, o, none⟩) rs.length c, .int .i64 (k : Int)] W fun e w' => e = .returned (.bool (labD d (k : Int))) ∧ Below W.heap.size W w' := fun W hb => qlab_any (hc.below hb).doc hc.vn _
  have SG : ∀ W, Calls Tryz.prog 71 #[.string (Tn.nd d k).tag] W fun e w' => e = .returned (.int .i64 (Kn.tagD (Tn.nd d k).tag.data.toList)) ∧ Below W.heap.size W w' := fun W => Kn.qtag_any _
  have HS : Hid (∀ W s, Calls Tryz.prog 69 #[.string s] W fun e w' => e = .returned (.int .i64 (Kn.findD s.data.toList)) ∧ Below W.heap.size W w') := fun W s => by rw [Kn.ask_find]; exact Kn.qasked_any s
  have E0 : Hid (aloneD d (k : Int) = if 0 ≤ refL (labD d (k : Int)) (Wd.toksOf (lowS (saidN d (k : Int) ⟨#[114, 111, 108, 101]⟩))) then refL (labD d (k : Int)) (Wd.toksOf (lowS (saidN d (k : Int) ⟨#[114, 111, 108, 101]⟩))) else natD d (k : Int)) := by
    show _ = _
    rw [← want_ref]
    unfold aloneD
    rw [hk]
    rfl
  have EN : Hid (natD d (k : Int) = natT (labD d (k : Int)) (hasN d (k : Int) ⟨#[104, 114, 101, 102]⟩) ((lowS (saidN d (k : Int) ⟨#[116, 121, 112, 101]⟩)).toList == [99, 104, 101, 99, 107, 98, 111, 120]) (hasN d (k : Int) ⟨#[97, 108, 116]⟩ && (saidN d (k : Int) ⟨#[97, 108, 116]⟩).toList.isEmpty) (!(saidN d (k : Int) ⟨#[116, 105, 116, 108, 101]⟩).toList.isEmpty) (Tn.nd d k).tag) := rfl
  clear hc hd hk hkl ht yz h1 rz az
  generalize aloneD d (k : Int) = res at *
  generalize natD d (k : Int) = nat at *
  generalize labD d (k : Int) = lab at *
  generalize hasN d (k : Int) ⟨#[104, 114, 101, 102]⟩ = hr at *
  generalize hasN d (k : Int) ⟨#[97, 108, 116]⟩ = al at *
  generalize valN d (k : Int) ⟨#[104, 114, 101, 102]⟩ = vh at *
  generalize valN d (k : Int) ⟨#[97, 108, 116]⟩ = va at *
  generalize lowS (saidN d (k : Int) ⟨#[116, 121, 112, 101]⟩) = ylow at *
  generalize saidN d (k : Int) ⟨#[116, 121, 112, 101]⟩ = ysay at *
  generalize saidN d (k : Int) ⟨#[97, 108, 116]⟩ = asay at *
  generalize saidN d (k : Int) ⟨#[116, 105, 116, 108, 101]⟩ = tsay at *
  generalize lowS (saidN d (k : Int) ⟨#[114, 111, 108, 101]⟩) = rlow at *
  generalize saidN d (k : Int) ⟨#[114, 111, 108, 101]⟩ = rsay at *
  generalize (Tn.nd d k).tag = tag at *
  generalize hTG : Kn.tagD tag.data.toList = tg at *
  by_cases hne : Wd.toksOf rlow = []
  · have E1 : Hid (res = nat) := by show _ = _; rw [E0.out, hne]; rfl
    have hT : ∀ W, Calls Tryz.prog 21 #[.string rlow] W fun e w' => e = .returned (.slice none 0 0) ∧ Below W.heap.size W w' := fun W => Wd.rtokens_none rlow W lz hne
    clear E0 hne lz HS
    go_enter Tryz.func41, Tryz.ntmps41
    go_wp2_with (first
      | (go_at_call 37; refine SR.mono ?_; rintro e x1 ⟨rfl, hx1⟩)
      | (go_at_call 40; refine (SRL _).mono ?_; rintro e x2 ⟨rfl, hx2⟩)
      | (go_at_call 21; refine (hT _).mono ?_; rintro e x3 ⟨rfl, hx3⟩))
    have A2 := hx1.trans (hx2.mono hx1.size)
    have B0 := A2.trans (hx3.mono A2.size)
    have htag := HT.out _ B0
    clear HT SR SRL hT hx1 hx2 hx3 A2
    refine wp_loop_rounds 1 ?_
    rw [rounds_succ]
    cases ha : isA tag [97] with
    | true =>
      have hi := isA_one ha (b := [105, 110, 112, 117, 116]) (by decide)
      have hm := isA_one ha (b := [105, 109, 103]) (by decide)
      have hs := isA_one ha (b := [115, 101, 99, 116, 105, 111, 110]) (by decide)
      cases hr with
      | true =>
        have E2 : Hid (res = 7) := by show _ = _; rw [E1.out, EN.out]; unfold natT; simp [ha]
        clear E1 EN hTG
        simp only [isA] at *
        go_wp2_with (first
          | (go_at_call 18; refine (SH _ B0).mono ?_; clear SH; rintro e w1 ⟨rfl, hb1⟩; have B1 := B0.trans (hb1.mono B0.size))
          | (go_at_call 18; refine (SA _ B1).mono ?_; clear SA; rintro e w2 ⟨rfl, hb2⟩; have B2 := B1.trans (hb2.mono B1.size)))
        go_ret
        exact ⟨by rw [E2.out]; rfl, B2⟩
      | false =>
        have E2 : Hid (res = tg) := by show _ = _; rw [E1.out, EN.out]; unfold natT; simp [ha, hi, hm, hs, hTG]
        clear E1 EN hTG
        simp only [isA] at *
        go_wp2_with (first
          | (go_at_call 18; refine (SH _ B0).mono ?_; clear SH; rintro e w1 ⟨rfl, hb1⟩; have B1 := B0.trans (hb1.mono B0.size))
          | (go_at_call 18; refine (SA _ B1).mono ?_; clear SA; rintro e w2 ⟨rfl, hb2⟩; have B2 := B1.trans (hb2.mono B1.size))
          | (go_at_call 71; refine (SG _).mono ?_; rintro e w3 ⟨rfl, hb3⟩; have B3 := B2.trans (hb3.mono B2.size)))
        go_ret
        exact ⟨by rw [E2.out]; rfl, B3⟩
    | false =>
      cases hi : isA tag [105, 110, 112, 117, 116] with
      | true =>
        cases hy : (ylow.toList == [99, 104, 101, 99, 107, 98, 111, 120]) with
        | true =>
          have E2 : Hid (res = 9) := by show _ = _; rw [E1.out, EN.out]; unfold natT; simp [ha, hi, hy]
          clear E1 EN hTG
          simp only [isA] at *
          go_wp2_with (first
            | (go_at_call 18; refine (SH _ B0).mono ?_; clear SH; rintro e w1 ⟨rfl, hb1⟩; have B1 := B0.trans (hb1.mono B0.size))
            | (go_at_call 18; refine (SA _ B1).mono ?_; clear SA; rintro e w2 ⟨rfl, hb2⟩; have B2 := B1.trans (hb2.mono B1.size))
            | (go_at_call 37; refine (SY _ B2).mono ?_; clear SY; rintro e w3 ⟨rfl, hb3⟩; have B3 := B2.trans (hb3.mono B2.size))
            | (go_at_call 40; refine (SW _).mono ?_; clear SW; rintro e w4 ⟨rfl, hb4⟩; have B4 := B3.trans (hb4.mono B3.size)))
          go_ret
          exact ⟨by rw [E2.out]; rfl, B4⟩
        | false =>
          have E2 : Hid (res = 12) := by show _ = _; rw [E1.out, EN.out]; unfold natT; simp [ha, hi, hy]
          clear E1 EN hTG
          simp only [isA] at *
          go_wp2_with (first
            | (go_at_call 18; refine (SH _ B0).mono ?_; clear SH; rintro e w1 ⟨rfl, hb1⟩; have B1 := B0.trans (hb1.mono B0.size))
            | (go_at_call 18; refine (SA _ B1).mono ?_; clear SA; rintro e w2 ⟨rfl, hb2⟩; have B2 := B1.trans (hb2.mono B1.size))
            | (go_at_call 37; refine (SY _ B2).mono ?_; clear SY; rintro e w3 ⟨rfl, hb3⟩; have B3 := B2.trans (hb3.mono B2.size))
            | (go_at_call 40; refine (SW _).mono ?_; clear SW; rintro e w4 ⟨rfl, hb4⟩; have B4 := B3.trans (hb4.mono B3.size)))
          go_ret
          exact ⟨by rw [E2.out]; rfl, B4⟩
      | false =>
        cases hm : isA tag [105, 109, 103] with
        | true =>
          cases al with
          | false =>
            have E2 : Hid (res = 11) := by show _ = _; rw [E1.out, EN.out]; unfold natT; simp [ha, hi, hm]
            clear E1 EN hTG
            simp only [isA] at *
            go_wp2_with (first
              | (go_at_call 18; refine (SH _ B0).mono ?_; clear SH; rintro e w1 ⟨rfl, hb1⟩; have B1 := B0.trans (hb1.mono B0.size))
              | (go_at_call 18; refine (SA _ B1).mono ?_; clear SA; rintro e w2 ⟨rfl, hb2⟩; have B2 := B1.trans (hb2.mono B1.size)))
            go_ret
            exact ⟨by rw [E2.out]; rfl, B2⟩
          | true =>
            cases he : asay.toList.isEmpty with
            | false =>
              have E2 : Hid (res = 11) := by show _ = _; rw [E1.out, EN.out]; unfold natT; simp [ha, hi, hm, he]
              clear E1 EN hTG
              simp only [isA] at *
              go_wp2_with (first
                | (go_at_call 18; refine (SH _ B0).mono ?_; clear SH; rintro e w1 ⟨rfl, hb1⟩; have B1 := B0.trans (hb1.mono B0.size))
                | (go_at_call 18; refine (SA _ B1).mono ?_; clear SA; rintro e w2 ⟨rfl, hb2⟩; have B2 := B1.trans (hb2.mono B1.size))
                | (go_at_call 14; refine (SQ _).mono ?_; clear SQ; rintro e w3 ⟨rfl, hb3⟩; have B3 := B2.trans (hb3.mono B2.size)))
              go_ret
              exact ⟨by rw [E2.out]; rfl, B3⟩
            | true =>
              cases lab with
              | true =>
                have E2 : Hid (res = 11) := by show _ = _; rw [E1.out, EN.out]; unfold natT; simp [ha, hi, hm, he]
                clear E1 EN hTG
                simp only [isA] at *
                go_wp2_with (first
                  | (go_at_call 18; refine (SH _ B0).mono ?_; clear SH; rintro e w1 ⟨rfl, hb1⟩; have B1 := B0.trans (hb1.mono B0.size))
                  | (go_at_call 18; refine (SA _ B1).mono ?_; clear SA; rintro e w2 ⟨rfl, hb2⟩; have B2 := B1.trans (hb2.mono B1.size))
                  | (go_at_call 14; refine (SQ _).mono ?_; clear SQ; rintro e w3 ⟨rfl, hb3⟩; have B3 := B2.trans (hb3.mono B2.size))
                  | (go_at_call 70; refine (SL _ B3).mono ?_; clear SL; rintro e w4 ⟨rfl, hb4⟩; have B4 := B3.trans (hb4.mono B3.size)))
                go_ret
                exact ⟨by rw [E2.out]; rfl, B4⟩
              | false =>
                have E2 : Hid (res = 0) := by show _ = _; rw [E1.out, EN.out]; unfold natT; simp [ha, hi, hm, he]
                clear E1 EN hTG
                simp only [isA] at *
                go_wp2_with (first
                  | (go_at_call 18; refine (SH _ B0).mono ?_; clear SH; rintro e w1 ⟨rfl, hb1⟩; have B1 := B0.trans (hb1.mono B0.size))
                  | (go_at_call 18; refine (SA _ B1).mono ?_; clear SA; rintro e w2 ⟨rfl, hb2⟩; have B2 := B1.trans (hb2.mono B1.size))
                  | (go_at_call 14; refine (SQ _).mono ?_; clear SQ; rintro e w3 ⟨rfl, hb3⟩; have B3 := B2.trans (hb3.mono B2.size))
                  | (go_at_call 70; refine (SL _ B3).mono ?_; clear SL; rintro e w4 ⟨rfl, hb4⟩; have B4 := B3.trans (hb4.mono B3.size)))
                go_ret
                exact ⟨by rw [E2.out]; rfl, B4⟩
        | false =>
          cases hs : isA tag [115, 101, 99, 116, 105, 111, 110] with
          | false =>
            have E2 : Hid (res = tg) := by show _ = _; rw [E1.out, EN.out]; unfold natT; simp [ha, hi, hm, hs, hTG]
            clear E1 EN hTG
            simp only [isA] at *
            go_wp2_with (first
              | (go_at_call 18; refine (SH _ B0).mono ?_; clear SH; rintro e w1 ⟨rfl, hb1⟩; have B1 := B0.trans (hb1.mono B0.size))
              | (go_at_call 18; refine (SA _ B1).mono ?_; clear SA; rintro e w2 ⟨rfl, hb2⟩; have B2 := B1.trans (hb2.mono B1.size))
              | (go_at_call 71; refine (SG _).mono ?_; rintro e w3 ⟨rfl, hb3⟩; have B3 := B2.trans (hb3.mono B2.size)))
            go_ret
            exact ⟨by rw [E2.out]; rfl, B3⟩
          | true =>
            cases lab with
            | true =>
              have E2 : Hid (res = 16) := by show _ = _; rw [E1.out, EN.out]; unfold natT; simp [ha, hi, hm, hs]
              clear E1 EN hTG
              simp only [isA] at *
              go_wp2_with (first
                | (go_at_call 18; refine (SH _ B0).mono ?_; clear SH; rintro e w1 ⟨rfl, hb1⟩; have B1 := B0.trans (hb1.mono B0.size))
                | (go_at_call 18; refine (SA _ B1).mono ?_; clear SA; rintro e w2 ⟨rfl, hb2⟩; have B2 := B1.trans (hb2.mono B1.size))
                | (go_at_call 70; refine (SL _ B2).mono ?_; clear SL; rintro e w3 ⟨rfl, hb3⟩; have B3 := B2.trans (hb3.mono B2.size)))
              go_ret
              exact ⟨by rw [E2.out]; rfl, B3⟩
            | false =>
              cases he : tsay.toList.isEmpty with
              | false =>
                have E2 : Hid (res = 16) := by show _ = _; rw [E1.out, EN.out]; unfold natT; simp [ha, hi, hm, hs, he]
                clear E1 EN hTG
                simp only [isA] at *
                go_wp2_with (first
                  | (go_at_call 18; refine (SH _ B0).mono ?_; clear SH; rintro e w1 ⟨rfl, hb1⟩; have B1 := B0.trans (hb1.mono B0.size))
                  | (go_at_call 18; refine (SA _ B1).mono ?_; clear SA; rintro e w2 ⟨rfl, hb2⟩; have B2 := B1.trans (hb2.mono B1.size))
                  | (go_at_call 70; refine (SL _ B2).mono ?_; clear SL; rintro e w3 ⟨rfl, hb3⟩; have B3 := B2.trans (hb3.mono B2.size))
                  | (go_at_call 37; refine (ST _ B3).mono ?_; clear ST; rintro e w4 ⟨rfl, hb4⟩; have B4 := B3.trans (hb4.mono B3.size)))
                go_ret
                exact ⟨by rw [E2.out]; rfl, B4⟩
              | true =>
                have E2 : Hid (res = tg) := by show _ = _; rw [E1.out, EN.out]; unfold natT; simp [ha, hi, hm, hs, he, hTG]
                clear E1 EN hTG
                simp only [isA] at *
                go_wp2_with (first
                  | (go_at_call 18; refine (SH _ B0).mono ?_; clear SH; rintro e w1 ⟨rfl, hb1⟩; have B1 := B0.trans (hb1.mono B0.size))
                  | (go_at_call 18; refine (SA _ B1).mono ?_; clear SA; rintro e w2 ⟨rfl, hb2⟩; have B2 := B1.trans (hb2.mono B1.size))
                  | (go_at_call 70; refine (SL _ B2).mono ?_; clear SL; rintro e w3 ⟨rfl, hb3⟩; have B3 := B2.trans (hb3.mono B2.size))
                  | (go_at_call 37; refine (ST _ B3).mono ?_; clear ST; rintro e w4 ⟨rfl, hb4⟩; have B4 := B3.trans (hb4.mono B3.size))
                  | (go_at_call 71; refine (SG _).mono ?_; rintro e w5 ⟨rfl, hb5⟩; have B5 := B4.trans (hb5.mono B4.size)))
                go_ret
                exact ⟨by rw [E2.out]; rfl, B5⟩
  · have hT : ∀ W, Calls Tryz.prog 21 #[.string rlow] W fun e w' => ∃ g c, e = .returned (.slice (some ⟨g, 0, none⟩) (Wd.toksOf rlow).length c) ∧ Wd.Words W.heap.size (Wd.toksOf rlow) g c w' ∧ Below W.heap.size W w' := fun W => Wd.rtokens_some rlow W lz hne
    have hl := Wd.toksOf_len rlow
    have hlen : (Wd.toksOf rlow).length ≤ 4194304 := by omega
    clear hne hl lz
    generalize Wd.toksOf rlow = ts at *
    go_enter Tryz.func41, Tryz.ntmps41
    go_wp2_with (first
      | (go_at_call 37; refine SR.mono ?_; rintro e x1 ⟨rfl, hx1⟩)
      | (go_at_call 40; refine (SRL _).mono ?_; rintro e x2 ⟨rfl, hx2⟩)
      | (go_at_call 21; refine (hT _).mono ?_; rintro e x3 ⟨g2, c2, rfl, hW2, hx3⟩))
    have TW : Hid (∀ j t, ts[j]? = some t → x3.cell? ⟨g2, j, none⟩ = some (.string (Tx.bs t))) := hW2.2.2.2
    have hcap := hW2.2.2.1
    have A2 := hx1.trans (hx2.mono hx1.size)
    have B2 := A2.trans (hx3.mono A2.size)
    clear hW2 hT SR SRL hx1 hx2 hx3 A2
    go_loopw [19] (fun i wr => ∃ j : Nat, j ≤ ts.length ∧ i = .int .i64 j ∧ Hid (refL lab ts = refL lab (ts.drop j)) ∧ Below x3.heap.size x3 wr) (fun i _ => ts.length - (intOf i).toNat)
    case atStart => exact ⟨0, Nat.zero_le _, rfl, by show _ = _; rfl, Below.refl _ _⟩
    case round =>
      obtain ⟨j, hj, rfl, R, hnx⟩ := hrel
      have BR : Below w.heap.size w wr := B2.trans (hnx.mono B2.size)
      by_cases hlt : j < ts.length
      · have hjt := List.getElem?_eq_getElem hlt
        have hc1 := keeps_below hnx (Nat.le_refl _) _ _ (TW.out j _ hjt)
        have R1 : Hid (refL lab ts = if Kn.findD ts[j] = 0 ∧ lab = true then -1 else if 0 ≤ Kn.findD ts[j] then Kn.findD ts[j] else refL lab (ts.drop (j + 1))) := by
          show _ = _
          rw [R.out, ref_at lab ts j hlt]
        have hFi : Calls Tryz.prog 69 #[.string (Tx.bs ts[j])] wr fun e w' => e = .returned (.int .i64 (Kn.findD ts[j])) ∧ Below wr.heap.size wr w' := HS.out wr (Tx.bs ts[j])
        have fc := find_cases ts[j]
        clear R hjt HS
        generalize Tx.bs ts[j] = tb at *
        generalize Kn.findD ts[j] = f at *
        rcases fc with rfl | ⟨r, rfl⟩
        · have R2 : Hid (refL lab ts = refL lab (ts.drop (j + 1))) := by show _ = _; rw [R1.out, if_neg (by omega), if_neg (by omega)]
          clear R1
          go_wp2_with (go_at_call 69; refine hFi.mono ?_; rintro e w4 ⟨rfl, hb4⟩)
          go_roundw
          case rel => exact ⟨j + 1, by omega, by go_num, R2, hnx.trans (hb4.mono hnx.size)⟩
          case measure => simp [intOf]; omega
        · cases r with
          | zero =>
            cases lab with
            | true =>
              have R9 : refL true ts = -1 := by rw [R1.out, if_pos ⟨rfl, rfl⟩]
              have E1 : Hid (res = nat) := by show _ = _; rw [E0.out, R9]; rfl
              clear R9
              clear R1 E0
              have SL2 := SL
              go_upto_region 9 with (first
                | (go_at_call 69; refine hFi.mono ?_; rintro e w4 ⟨rfl, hb4⟩; have A4 := BR.trans (hb4.mono BR.size))
                | (go_at_call 70; refine (SL2 _ A4).mono ?_; rintro e w5 ⟨rfl, hb5⟩; have B0 := A4.trans (hb5.mono A4.size)))
              have htag := HT.out _ B0
              clear HT hc1 TW SL2
              cases ha : isA tag [97] with
              | true =>
                have hi := isA_one ha (b := [105, 110, 112, 117, 116]) (by decide)
                have hm := isA_one ha (b := [105, 109, 103]) (by decide)
                have hs := isA_one ha (b := [115, 101, 99, 116, 105, 111, 110]) (by decide)
                cases hr with
                | true =>
                  have E2 : Hid (res = 7) := by show _ = _; rw [E1.out, EN.out]; unfold natT; simp [ha]
                  clear E1 EN hTG
                  simp only [isA] at *
                  go_wp2_with (first
                    | (go_at_call 18; refine (SH _ B0).mono ?_; clear SH; rintro e w1 ⟨rfl, hb1⟩; have B1 := B0.trans (hb1.mono B0.size))
                    | (go_at_call 18; refine (SA _ B1).mono ?_; clear SA; rintro e w2 ⟨rfl, hb2⟩; have B2 := B1.trans (hb2.mono B1.size)))
                  go_ret
                  exact ⟨by rw [E2.out]; rfl, B2⟩
                | false =>
                  have E2 : Hid (res = tg) := by show _ = _; rw [E1.out, EN.out]; unfold natT; simp [ha, hi, hm, hs, hTG]
                  clear E1 EN hTG
                  simp only [isA] at *
                  go_wp2_with (first
                    | (go_at_call 18; refine (SH _ B0).mono ?_; clear SH; rintro e w1 ⟨rfl, hb1⟩; have B1 := B0.trans (hb1.mono B0.size))
                    | (go_at_call 18; refine (SA _ B1).mono ?_; clear SA; rintro e w2 ⟨rfl, hb2⟩; have B2 := B1.trans (hb2.mono B1.size))
                    | (go_at_call 71; refine (SG _).mono ?_; rintro e w3 ⟨rfl, hb3⟩; have B3 := B2.trans (hb3.mono B2.size)))
                  go_ret
                  exact ⟨by rw [E2.out]; rfl, B3⟩
              | false =>
                cases hi : isA tag [105, 110, 112, 117, 116] with
                | true =>
                  cases hy : (ylow.toList == [99, 104, 101, 99, 107, 98, 111, 120]) with
                  | true =>
                    have E2 : Hid (res = 9) := by show _ = _; rw [E1.out, EN.out]; unfold natT; simp [ha, hi, hy]
                    clear E1 EN hTG
                    simp only [isA] at *
                    go_wp2_with (first
                      | (go_at_call 18; refine (SH _ B0).mono ?_; clear SH; rintro e w1 ⟨rfl, hb1⟩; have B1 := B0.trans (hb1.mono B0.size))
                      | (go_at_call 18; refine (SA _ B1).mono ?_; clear SA; rintro e w2 ⟨rfl, hb2⟩; have B2 := B1.trans (hb2.mono B1.size))
                      | (go_at_call 37; refine (SY _ B2).mono ?_; clear SY; rintro e w3 ⟨rfl, hb3⟩; have B3 := B2.trans (hb3.mono B2.size))
                      | (go_at_call 40; refine (SW _).mono ?_; clear SW; rintro e w4 ⟨rfl, hb4⟩; have B4 := B3.trans (hb4.mono B3.size)))
                    go_ret
                    exact ⟨by rw [E2.out]; rfl, B4⟩
                  | false =>
                    have E2 : Hid (res = 12) := by show _ = _; rw [E1.out, EN.out]; unfold natT; simp [ha, hi, hy]
                    clear E1 EN hTG
                    simp only [isA] at *
                    go_wp2_with (first
                      | (go_at_call 18; refine (SH _ B0).mono ?_; clear SH; rintro e w1 ⟨rfl, hb1⟩; have B1 := B0.trans (hb1.mono B0.size))
                      | (go_at_call 18; refine (SA _ B1).mono ?_; clear SA; rintro e w2 ⟨rfl, hb2⟩; have B2 := B1.trans (hb2.mono B1.size))
                      | (go_at_call 37; refine (SY _ B2).mono ?_; clear SY; rintro e w3 ⟨rfl, hb3⟩; have B3 := B2.trans (hb3.mono B2.size))
                      | (go_at_call 40; refine (SW _).mono ?_; clear SW; rintro e w4 ⟨rfl, hb4⟩; have B4 := B3.trans (hb4.mono B3.size)))
                    go_ret
                    exact ⟨by rw [E2.out]; rfl, B4⟩
                | false =>
                  cases hm : isA tag [105, 109, 103] with
                  | true =>
                    cases al with
                    | false =>
                      have E2 : Hid (res = 11) := by show _ = _; rw [E1.out, EN.out]; unfold natT; simp [ha, hi, hm]
                      clear E1 EN hTG
                      simp only [isA] at *
                      go_wp2_with (first
                        | (go_at_call 18; refine (SH _ B0).mono ?_; clear SH; rintro e w1 ⟨rfl, hb1⟩; have B1 := B0.trans (hb1.mono B0.size))
                        | (go_at_call 18; refine (SA _ B1).mono ?_; clear SA; rintro e w2 ⟨rfl, hb2⟩; have B2 := B1.trans (hb2.mono B1.size)))
                      go_ret
                      exact ⟨by rw [E2.out]; rfl, B2⟩
                    | true =>
                      cases he : asay.toList.isEmpty with
                      | false =>
                        have E2 : Hid (res = 11) := by show _ = _; rw [E1.out, EN.out]; unfold natT; simp [ha, hi, hm, he]
                        clear E1 EN hTG
                        simp only [isA] at *
                        go_wp2_with (first
                          | (go_at_call 18; refine (SH _ B0).mono ?_; clear SH; rintro e w1 ⟨rfl, hb1⟩; have B1 := B0.trans (hb1.mono B0.size))
                          | (go_at_call 18; refine (SA _ B1).mono ?_; clear SA; rintro e w2 ⟨rfl, hb2⟩; have B2 := B1.trans (hb2.mono B1.size))
                          | (go_at_call 14; refine (SQ _).mono ?_; clear SQ; rintro e w3 ⟨rfl, hb3⟩; have B3 := B2.trans (hb3.mono B2.size)))
                        go_ret
                        exact ⟨by rw [E2.out]; rfl, B3⟩
                      | true =>
                        have E2 : Hid (res = 11) := by show _ = _; rw [E1.out, EN.out]; unfold natT; simp [ha, hi, hm, he]
                        clear E1 EN hTG
                        simp only [isA] at *
                        go_wp2_with (first
                          | (go_at_call 18; refine (SH _ B0).mono ?_; clear SH; rintro e w1 ⟨rfl, hb1⟩; have B1 := B0.trans (hb1.mono B0.size))
                          | (go_at_call 18; refine (SA _ B1).mono ?_; clear SA; rintro e w2 ⟨rfl, hb2⟩; have B2 := B1.trans (hb2.mono B1.size))
                          | (go_at_call 14; refine (SQ _).mono ?_; clear SQ; rintro e w3 ⟨rfl, hb3⟩; have B3 := B2.trans (hb3.mono B2.size))
                          | (go_at_call 70; refine (SL _ B3).mono ?_; clear SL; rintro e w4 ⟨rfl, hb4⟩; have B4 := B3.trans (hb4.mono B3.size)))
                        go_ret
                        exact ⟨by rw [E2.out]; rfl, B4⟩
                  | false =>
                    cases hs : isA tag [115, 101, 99, 116, 105, 111, 110] with
                    | false =>
                      have E2 : Hid (res = tg) := by show _ = _; rw [E1.out, EN.out]; unfold natT; simp [ha, hi, hm, hs, hTG]
                      clear E1 EN hTG
                      simp only [isA] at *
                      go_wp2_with (first
                        | (go_at_call 18; refine (SH _ B0).mono ?_; clear SH; rintro e w1 ⟨rfl, hb1⟩; have B1 := B0.trans (hb1.mono B0.size))
                        | (go_at_call 18; refine (SA _ B1).mono ?_; clear SA; rintro e w2 ⟨rfl, hb2⟩; have B2 := B1.trans (hb2.mono B1.size))
                        | (go_at_call 71; refine (SG _).mono ?_; rintro e w3 ⟨rfl, hb3⟩; have B3 := B2.trans (hb3.mono B2.size)))
                      go_ret
                      exact ⟨by rw [E2.out]; rfl, B3⟩
                    | true =>
                      have E2 : Hid (res = 16) := by show _ = _; rw [E1.out, EN.out]; unfold natT; simp [ha, hi, hm, hs]
                      clear E1 EN hTG
                      simp only [isA] at *
                      go_wp2_with (first
                        | (go_at_call 18; refine (SH _ B0).mono ?_; clear SH; rintro e w1 ⟨rfl, hb1⟩; have B1 := B0.trans (hb1.mono B0.size))
                        | (go_at_call 18; refine (SA _ B1).mono ?_; clear SA; rintro e w2 ⟨rfl, hb2⟩; have B2 := B1.trans (hb2.mono B1.size))
                        | (go_at_call 70; refine (SL _ B2).mono ?_; clear SL; rintro e w3 ⟨rfl, hb3⟩; have B3 := B2.trans (hb3.mono B2.size)))
                      go_ret
                      exact ⟨by rw [E2.out]; rfl, B3⟩
            | false =>
              have R9 : refL false ts = 0 := by rw [R1.out, if_neg (by simp), if_pos (by omega)]; rfl
              have R2 : Hid (res = 0) := by show _ = _; rw [E0.out, R9]; rfl
              clear R9
              clear R1
              go_wp2_with (first
                | (go_at_call 69; refine hFi.mono ?_; rintro e w4 ⟨rfl, hb4⟩; have B4 := BR.trans (hb4.mono BR.size))
                | (go_at_call 70; refine (SL _ B4).mono ?_; rintro e w5 ⟨rfl, hb5⟩))
              go_ret
              exact ⟨by rw [R2.out]; rfl, B4.trans (hb5.mono B4.size)⟩
          | succ r =>
            have R9 : refL lab ts = ((r + 1 : Nat) : Int) := by rw [R1.out, if_neg (by omega), if_pos (by omega)]
            have R2 : Hid (res = ((r + 1 : Nat) : Int)) := by show _ = _; rw [E0.out, R9, if_pos (by omega)]
            clear R9
            clear R1
            generalize hr1 : r + 1 = r1 at *
            have hr2 : 0 < r1 := by omega
            have hq : ((r1 : Int) == 0) = false := by simp; omega
            clear hr1
            go_wp2_with (go_at_call 69; refine hFi.mono ?_; rintro e w4 ⟨rfl, hb4⟩; have B4 := BR.trans (hb4.mono BR.size))
            go_ret
            exact ⟨by rw [R2.out]; rfl, B4⟩
      · obtain rfl : j = ts.length := by omega
        have E1 : Hid (res = nat) := by show _ = _; rw [E0.out, R.out, List.drop_length]; rfl
        have B0 := BR
        have htag := HT.out _ B0
        clear HT E0 R HS TW
        cases ha : isA tag [97] with
        | true =>
          have hi := isA_one ha (b := [105, 110, 112, 117, 116]) (by decide)
          have hm := isA_one ha (b := [105, 109, 103]) (by decide)
          have hs := isA_one ha (b := [115, 101, 99, 116, 105, 111, 110]) (by decide)
          cases hr with
          | true =>
            have E2 : Hid (res = 7) := by show _ = _; rw [E1.out, EN.out]; unfold natT; simp [ha]
            clear E1 EN hTG
            simp only [isA] at *
            go_wp2_with (first
              | (go_at_call 18; refine (SH _ B0).mono ?_; clear SH; rintro e w1 ⟨rfl, hb1⟩; have B1 := B0.trans (hb1.mono B0.size))
              | (go_at_call 18; refine (SA _ B1).mono ?_; clear SA; rintro e w2 ⟨rfl, hb2⟩; have B2 := B1.trans (hb2.mono B1.size)))
            go_ret
            exact ⟨by rw [E2.out]; rfl, B2⟩
          | false =>
            have E2 : Hid (res = tg) := by show _ = _; rw [E1.out, EN.out]; unfold natT; simp [ha, hi, hm, hs, hTG]
            clear E1 EN hTG
            simp only [isA] at *
            go_wp2_with (first
              | (go_at_call 18; refine (SH _ B0).mono ?_; clear SH; rintro e w1 ⟨rfl, hb1⟩; have B1 := B0.trans (hb1.mono B0.size))
              | (go_at_call 18; refine (SA _ B1).mono ?_; clear SA; rintro e w2 ⟨rfl, hb2⟩; have B2 := B1.trans (hb2.mono B1.size))
              | (go_at_call 71; refine (SG _).mono ?_; rintro e w3 ⟨rfl, hb3⟩; have B3 := B2.trans (hb3.mono B2.size)))
            go_ret
            exact ⟨by rw [E2.out]; rfl, B3⟩
        | false =>
          cases hi : isA tag [105, 110, 112, 117, 116] with
          | true =>
            cases hy : (ylow.toList == [99, 104, 101, 99, 107, 98, 111, 120]) with
            | true =>
              have E2 : Hid (res = 9) := by show _ = _; rw [E1.out, EN.out]; unfold natT; simp [ha, hi, hy]
              clear E1 EN hTG
              simp only [isA] at *
              go_wp2_with (first
                | (go_at_call 18; refine (SH _ B0).mono ?_; clear SH; rintro e w1 ⟨rfl, hb1⟩; have B1 := B0.trans (hb1.mono B0.size))
                | (go_at_call 18; refine (SA _ B1).mono ?_; clear SA; rintro e w2 ⟨rfl, hb2⟩; have B2 := B1.trans (hb2.mono B1.size))
                | (go_at_call 37; refine (SY _ B2).mono ?_; clear SY; rintro e w3 ⟨rfl, hb3⟩; have B3 := B2.trans (hb3.mono B2.size))
                | (go_at_call 40; refine (SW _).mono ?_; clear SW; rintro e w4 ⟨rfl, hb4⟩; have B4 := B3.trans (hb4.mono B3.size)))
              go_ret
              exact ⟨by rw [E2.out]; rfl, B4⟩
            | false =>
              have E2 : Hid (res = 12) := by show _ = _; rw [E1.out, EN.out]; unfold natT; simp [ha, hi, hy]
              clear E1 EN hTG
              simp only [isA] at *
              go_wp2_with (first
                | (go_at_call 18; refine (SH _ B0).mono ?_; clear SH; rintro e w1 ⟨rfl, hb1⟩; have B1 := B0.trans (hb1.mono B0.size))
                | (go_at_call 18; refine (SA _ B1).mono ?_; clear SA; rintro e w2 ⟨rfl, hb2⟩; have B2 := B1.trans (hb2.mono B1.size))
                | (go_at_call 37; refine (SY _ B2).mono ?_; clear SY; rintro e w3 ⟨rfl, hb3⟩; have B3 := B2.trans (hb3.mono B2.size))
                | (go_at_call 40; refine (SW _).mono ?_; clear SW; rintro e w4 ⟨rfl, hb4⟩; have B4 := B3.trans (hb4.mono B3.size)))
              go_ret
              exact ⟨by rw [E2.out]; rfl, B4⟩
          | false =>
            cases hm : isA tag [105, 109, 103] with
            | true =>
              cases al with
              | false =>
                have E2 : Hid (res = 11) := by show _ = _; rw [E1.out, EN.out]; unfold natT; simp [ha, hi, hm]
                clear E1 EN hTG
                simp only [isA] at *
                go_wp2_with (first
                  | (go_at_call 18; refine (SH _ B0).mono ?_; clear SH; rintro e w1 ⟨rfl, hb1⟩; have B1 := B0.trans (hb1.mono B0.size))
                  | (go_at_call 18; refine (SA _ B1).mono ?_; clear SA; rintro e w2 ⟨rfl, hb2⟩; have B2 := B1.trans (hb2.mono B1.size)))
                go_ret
                exact ⟨by rw [E2.out]; rfl, B2⟩
              | true =>
                cases he : asay.toList.isEmpty with
                | false =>
                  have E2 : Hid (res = 11) := by show _ = _; rw [E1.out, EN.out]; unfold natT; simp [ha, hi, hm, he]
                  clear E1 EN hTG
                  simp only [isA] at *
                  go_wp2_with (first
                    | (go_at_call 18; refine (SH _ B0).mono ?_; clear SH; rintro e w1 ⟨rfl, hb1⟩; have B1 := B0.trans (hb1.mono B0.size))
                    | (go_at_call 18; refine (SA _ B1).mono ?_; clear SA; rintro e w2 ⟨rfl, hb2⟩; have B2 := B1.trans (hb2.mono B1.size))
                    | (go_at_call 14; refine (SQ _).mono ?_; clear SQ; rintro e w3 ⟨rfl, hb3⟩; have B3 := B2.trans (hb3.mono B2.size)))
                  go_ret
                  exact ⟨by rw [E2.out]; rfl, B3⟩
                | true =>
                  cases lab with
                  | true =>
                    have E2 : Hid (res = 11) := by show _ = _; rw [E1.out, EN.out]; unfold natT; simp [ha, hi, hm, he]
                    clear E1 EN hTG
                    simp only [isA] at *
                    go_wp2_with (first
                      | (go_at_call 18; refine (SH _ B0).mono ?_; clear SH; rintro e w1 ⟨rfl, hb1⟩; have B1 := B0.trans (hb1.mono B0.size))
                      | (go_at_call 18; refine (SA _ B1).mono ?_; clear SA; rintro e w2 ⟨rfl, hb2⟩; have B2 := B1.trans (hb2.mono B1.size))
                      | (go_at_call 14; refine (SQ _).mono ?_; clear SQ; rintro e w3 ⟨rfl, hb3⟩; have B3 := B2.trans (hb3.mono B2.size))
                      | (go_at_call 70; refine (SL _ B3).mono ?_; clear SL; rintro e w4 ⟨rfl, hb4⟩; have B4 := B3.trans (hb4.mono B3.size)))
                    go_ret
                    exact ⟨by rw [E2.out]; rfl, B4⟩
                  | false =>
                    have E2 : Hid (res = 0) := by show _ = _; rw [E1.out, EN.out]; unfold natT; simp [ha, hi, hm, he]
                    clear E1 EN hTG
                    simp only [isA] at *
                    go_wp2_with (first
                      | (go_at_call 18; refine (SH _ B0).mono ?_; clear SH; rintro e w1 ⟨rfl, hb1⟩; have B1 := B0.trans (hb1.mono B0.size))
                      | (go_at_call 18; refine (SA _ B1).mono ?_; clear SA; rintro e w2 ⟨rfl, hb2⟩; have B2 := B1.trans (hb2.mono B1.size))
                      | (go_at_call 14; refine (SQ _).mono ?_; clear SQ; rintro e w3 ⟨rfl, hb3⟩; have B3 := B2.trans (hb3.mono B2.size))
                      | (go_at_call 70; refine (SL _ B3).mono ?_; clear SL; rintro e w4 ⟨rfl, hb4⟩; have B4 := B3.trans (hb4.mono B3.size)))
                    go_ret
                    exact ⟨by rw [E2.out]; rfl, B4⟩
            | false =>
              cases hs : isA tag [115, 101, 99, 116, 105, 111, 110] with
              | false =>
                have E2 : Hid (res = tg) := by show _ = _; rw [E1.out, EN.out]; unfold natT; simp [ha, hi, hm, hs, hTG]
                clear E1 EN hTG
                simp only [isA] at *
                go_wp2_with (first
                  | (go_at_call 18; refine (SH _ B0).mono ?_; clear SH; rintro e w1 ⟨rfl, hb1⟩; have B1 := B0.trans (hb1.mono B0.size))
                  | (go_at_call 18; refine (SA _ B1).mono ?_; clear SA; rintro e w2 ⟨rfl, hb2⟩; have B2 := B1.trans (hb2.mono B1.size))
                  | (go_at_call 71; refine (SG _).mono ?_; rintro e w3 ⟨rfl, hb3⟩; have B3 := B2.trans (hb3.mono B2.size)))
                go_ret
                exact ⟨by rw [E2.out]; rfl, B3⟩
              | true =>
                cases lab with
                | true =>
                  have E2 : Hid (res = 16) := by show _ = _; rw [E1.out, EN.out]; unfold natT; simp [ha, hi, hm, hs]
                  clear E1 EN hTG
                  simp only [isA] at *
                  go_wp2_with (first
                    | (go_at_call 18; refine (SH _ B0).mono ?_; clear SH; rintro e w1 ⟨rfl, hb1⟩; have B1 := B0.trans (hb1.mono B0.size))
                    | (go_at_call 18; refine (SA _ B1).mono ?_; clear SA; rintro e w2 ⟨rfl, hb2⟩; have B2 := B1.trans (hb2.mono B1.size))
                    | (go_at_call 70; refine (SL _ B2).mono ?_; clear SL; rintro e w3 ⟨rfl, hb3⟩; have B3 := B2.trans (hb3.mono B2.size)))
                  go_ret
                  exact ⟨by rw [E2.out]; rfl, B3⟩
                | false =>
                  cases he : tsay.toList.isEmpty with
                  | false =>
                    have E2 : Hid (res = 16) := by show _ = _; rw [E1.out, EN.out]; unfold natT; simp [ha, hi, hm, hs, he]
                    clear E1 EN hTG
                    simp only [isA] at *
                    go_wp2_with (first
                      | (go_at_call 18; refine (SH _ B0).mono ?_; clear SH; rintro e w1 ⟨rfl, hb1⟩; have B1 := B0.trans (hb1.mono B0.size))
                      | (go_at_call 18; refine (SA _ B1).mono ?_; clear SA; rintro e w2 ⟨rfl, hb2⟩; have B2 := B1.trans (hb2.mono B1.size))
                      | (go_at_call 70; refine (SL _ B2).mono ?_; clear SL; rintro e w3 ⟨rfl, hb3⟩; have B3 := B2.trans (hb3.mono B2.size))
                      | (go_at_call 37; refine (ST _ B3).mono ?_; clear ST; rintro e w4 ⟨rfl, hb4⟩; have B4 := B3.trans (hb4.mono B3.size)))
                    go_ret
                    exact ⟨by rw [E2.out]; rfl, B4⟩
                  | true =>
                    have E2 : Hid (res = tg) := by show _ = _; rw [E1.out, EN.out]; unfold natT; simp [ha, hi, hm, hs, he, hTG]
                    clear E1 EN hTG
                    simp only [isA] at *
                    go_wp2_with (first
                      | (go_at_call 18; refine (SH _ B0).mono ?_; clear SH; rintro e w1 ⟨rfl, hb1⟩; have B1 := B0.trans (hb1.mono B0.size))
                      | (go_at_call 18; refine (SA _ B1).mono ?_; clear SA; rintro e w2 ⟨rfl, hb2⟩; have B2 := B1.trans (hb2.mono B1.size))
                      | (go_at_call 70; refine (SL _ B2).mono ?_; clear SL; rintro e w3 ⟨rfl, hb3⟩; have B3 := B2.trans (hb3.mono B2.size))
                      | (go_at_call 37; refine (ST _ B3).mono ?_; clear ST; rintro e w4 ⟨rfl, hb4⟩; have B4 := B3.trans (hb4.mono B3.size))
                      | (go_at_call 71; refine (SG _).mono ?_; rintro e w5 ⟨rfl, hb5⟩; have B5 := B4.trans (hb5.mono B4.size)))
                    go_ret
                    exact ⟨by rw [E2.out]; rfl, B5⟩
end Go.Proofs.YtcinjbolflhjmadGreatDoor
