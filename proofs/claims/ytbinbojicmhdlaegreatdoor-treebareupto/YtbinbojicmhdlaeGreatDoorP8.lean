/-
  OWN WORK: Nal, Npl, Jma, Nma, Qsc, Qsl, Qgi, Qup, Qsh, Neq, Rsa, Fal, Fte, Osa, Owa, Olo, Ona, Qfi, Oli, Ohi, Oba, Oof, Qro, Qhi, Ote, Oal, Oat, Nmb.
-/
import Derived.Test.YtbinbojicmhdlaeGreatDoorP7
import Derived.Test.YtbinbojicmhdlaeGreatDoorP6
import Derived.Test.YtbinbojicmhdlaeGreatDoorP1
import Derived.Laws.StructEq
import Derived.Deep.QuietTactic
import Derived.BigQuiet
import Derived.Deep.RegionHeld3
import Derived.RangeFuncNested
import Derived.RangeFuncBound
import Derived.RangeFuncCalls
import Derived.RangeFuncLeaves
import Derived.RangeFuncBox
import Derived.Shelf.Abstract
import Derived.Shelf.RegionOpen
import Derived.WalkKit
import Derived.OwnWalkIn
import Derived.TacticsInMore
import Derived.LoopNIn
import Derived.LoopIn
/-
  PLAIN MATHEMATICS: documents that differ in what is plain, at one node: all but that node's words is the same.
-/
namespace Go.Proofs.YtbinbojicmhdlaeGreatDoor
open Tn

def plainN : List ByteArray := [⟨#[97, 108, 116]⟩, ⟨#[97, 114, 105, 97, 45, 108, 97, 98, 101, 108]⟩, ⟨#[116, 105, 116, 108, 101]⟩, ⟨#[118, 97, 108, 117, 101]⟩, ⟨#[97, 114, 105, 97, 45, 108, 101, 118, 101, 108]⟩, ⟨#[97, 114, 105, 97, 45, 99, 104, 101, 99, 107, 101, 100]⟩, ⟨#[97, 114, 105, 97, 45, 100, 105, 115, 97, 98, 108, 101, 100]⟩, ⟨#[99, 104, 101, 99, 107, 101, 100]⟩]
def plainA (a : ByteArray) : Bool := plainN.any (fun p => eqS p a)

/-- the nodes of two documents stand alike, and but for what is plain at node k say the same -/
structure Alike (d y : Dc) (k : Nat) : Prop where
  len : y.length = d.length
  live : ∀ j, (nd y j).live = (nd d j).live
  tag : ∀ j, (nd y j).tag = (nd d j).tag
  up : ∀ j, (nd y j).up = (nd d j).up
  kids : ∀ j, (nd y j).kids = (nd d j).kids
  hasS : ∀ j, (nd y j).hasS = (nd d j).hasS
  shadow : ∀ j, (nd y j).shadow = (nd d j).shadow
  inS : ∀ j, (nd y j).inS = (nd d j).inS
  attr : ∀ j a, plainA a = false → attrOf (nd y j).attrs a = attrOf (nd d j).attrs a
  other : ∀ j, j ≠ k → nd y j = nd d j

namespace Alike
variable {d y : Dc} {k : Nat}

theorem isN (h : Alike d y k) (n : Int) (el : Bool) : Tn.isN y n el = Tn.isN d n el := by
  unfold Tn.isN
  rw [h.len, h.live, h.tag]
theorem path (h : Alike d y k) : ∀ (f : Nat) (n : Int), Tn.path f y n = Tn.path f d n
  | 0, _ => rfl
  | f + 1, n => by rw [Tn.path, Tn.path, h.isN, h.up, h.path f]
theorem scopeL (h : Alike d y k) : ∀ l : List Nat, YtbinbojicmhdlaeGreatDoor.scopeL y l = YtbinbojicmhdlaeGreatDoor.scopeL d l
  | [] => rfl
  | x :: l => by rw [YtbinbojicmhdlaeGreatDoor.scopeL, YtbinbojicmhdlaeGreatDoor.scopeL, h.inS, h.up, h.scopeL l]
theorem scopeD (h : Alike d y k) (n : Int) : YtbinbojicmhdlaeGreatDoor.scopeD y n = YtbinbojicmhdlaeGreatDoor.scopeD d n := by
  unfold YtbinbojicmhdlaeGreatDoor.scopeD pathOf
  rw [h.len, h.path, h.scopeL]
theorem all (h : Alike d y k) : ∀ (f n : Nat), Tn.all f y n = Tn.all f d n
  | 0, _ => rfl
  | f + 1, n => by
    have e : Tn.all f y = Tn.all f d := funext (h.all f)
    rw [Tn.all, Tn.all, h.isN, h.shadow, h.kids, e]
theorem attrN (h : Alike d y k) (n : Int) {a : ByteArray} (ha : plainA a = false) : YtbinbojicmhdlaeGreatDoor.attrN y n a = YtbinbojicmhdlaeGreatDoor.attrN d n a := by
  unfold YtbinbojicmhdlaeGreatDoor.attrN
  rw [h.isN, h.attr _ _ ha]
theorem valN (h : Alike d y k) (n : Int) {a : ByteArray} (ha : plainA a = false) : YtbinbojicmhdlaeGreatDoor.valN y n a = YtbinbojicmhdlaeGreatDoor.valN d n a := by
  unfold YtbinbojicmhdlaeGreatDoor.valN
  rw [h.attrN n ha]
theorem slotB : plainA YtbinbojicmhdlaeGreatDoor.slotB = false := by decide +kernel
theorem nameB : plainA YtbinbojicmhdlaeGreatDoor.nameB = false := by decide +kernel
theorem isSlotD (h : Alike d y k) (n : Int) : YtbinbojicmhdlaeGreatDoor.isSlotD y n = YtbinbojicmhdlaeGreatDoor.isSlotD d n := by
  unfold YtbinbojicmhdlaeGreatDoor.isSlotD
  rw [h.isN, h.tag]
theorem slottedD (h : Alike d y k) (n : Int) : YtbinbojicmhdlaeGreatDoor.slottedD y n = YtbinbojicmhdlaeGreatDoor.slottedD d n := by
  unfold YtbinbojicmhdlaeGreatDoor.slottedD
  rw [h.isN, h.inS, h.up, h.isN, h.hasS]
theorem fitsD (h : Alike d y k) (want : ByteArray) (host : Int) : YtbinbojicmhdlaeGreatDoor.fitsD y want host = YtbinbojicmhdlaeGreatDoor.fitsD d want host := by
  funext x
  unfold YtbinbojicmhdlaeGreatDoor.fitsD
  rw [h.isSlotD, h.valN _ nameB, h.scopeD]
theorem slotD (h : Alike d y k) (n : Int) : YtbinbojicmhdlaeGreatDoor.slotD y n = YtbinbojicmhdlaeGreatDoor.slotD d n := by
  unfold YtbinbojicmhdlaeGreatDoor.slotD
  rw [h.slottedD, h.up, h.all, h.valN _ slotB, h.fitsD]
theorem givenD (h : Alike d y k) (n : Int) : YtbinbojicmhdlaeGreatDoor.givenD y n = YtbinbojicmhdlaeGreatDoor.givenD d n := by
  unfold YtbinbojicmhdlaeGreatDoor.givenD
  have e : (fun (x : Nat) => YtbinbojicmhdlaeGreatDoor.slotD y (x : Int) == n) = (fun (x : Nat) => YtbinbojicmhdlaeGreatDoor.slotD d (x : Int) == n) := funext fun x => by rw [h.slotD]
  rw [h.isSlotD, h.scopeD, h.kids, e]
theorem kidsD (h : Alike d y k) (n : Int) : YtbinbojicmhdlaeGreatDoor.kidsD y n = YtbinbojicmhdlaeGreatDoor.kidsD d n := by
  unfold YtbinbojicmhdlaeGreatDoor.kidsD
  rw [h.isN, h.hasS, h.shadow, h.givenD, h.kids]
theorem upF (h : Alike d y k) (n : Int) : YtbinbojicmhdlaeGreatDoor.upF y n = YtbinbojicmhdlaeGreatDoor.upF d n := by
  unfold YtbinbojicmhdlaeGreatDoor.upF
  rw [h.isN, h.up, h.kidsD, h.slotD, h.kidsD]
theorem shownF (h : Alike d y k) : ∀ (f n : Nat), YtbinbojicmhdlaeGreatDoor.shownF f y n = YtbinbojicmhdlaeGreatDoor.shownF f d n
  | 0, _ => rfl
  | f + 1, n => by
    have e : YtbinbojicmhdlaeGreatDoor.shownF f y = YtbinbojicmhdlaeGreatDoor.shownF f d := funext (h.shownF f)
    rw [YtbinbojicmhdlaeGreatDoor.shownF, YtbinbojicmhdlaeGreatDoor.shownF, h.kidsD, e]
theorem shD (h : Alike d y k) : YtbinbojicmhdlaeGreatDoor.shD y = YtbinbojicmhdlaeGreatDoor.shD d := h.shownF _ _
theorem lineF (h : Alike d y k) : ∀ (f : Nat) (n : Int), YtbinbojicmhdlaeGreatDoor.lineF f y n = YtbinbojicmhdlaeGreatDoor.lineF f d n
  | 0, _ => rfl
  | f + 1, n => by rw [YtbinbojicmhdlaeGreatDoor.lineF, YtbinbojicmhdlaeGreatDoor.lineF, h.isN, h.upF, h.lineF f]
theorem lineD (h : Alike d y k) (n : Int) : YtbinbojicmhdlaeGreatDoor.lineD y n = YtbinbojicmhdlaeGreatDoor.lineD d n := h.lineF _ _
theorem concD (h : Alike d y k) (n : Int) : YtbinbojicmhdlaeGreatDoor.concD y n = YtbinbojicmhdlaeGreatDoor.concD d n := by
  unfold YtbinbojicmhdlaeGreatDoor.concD hasN saidN
  rw [h.attrN n (a := ⟨#[104, 105, 100, 100, 101, 110]⟩) (by decide +kernel), h.valN n (a := ⟨#[97, 114, 105, 97, 45, 104, 105, 100, 100, 101, 110]⟩) (by decide +kernel)]
theorem hidD (h : Alike d y k) (n : Int) : YtbinbojicmhdlaeGreatDoor.hidD y n = YtbinbojicmhdlaeGreatDoor.hidD d n := by
  unfold YtbinbojicmhdlaeGreatDoor.hidD hidL
  have e : (fun (x : Nat) => YtbinbojicmhdlaeGreatDoor.concD y (x : Int)) = (fun (x : Nat) => YtbinbojicmhdlaeGreatDoor.concD d (x : Int)) := funext fun x => h.concD _
  rw [h.lineD, e]
theorem idOf (h : Alike d y k) (j : Nat) : YtbinbojicmhdlaeGreatDoor.idOf y j = YtbinbojicmhdlaeGreatDoor.idOf d j := by
  unfold YtbinbojicmhdlaeGreatDoor.idOf
  rw [h.isN, h.attr _ _ (by decide +kernel)]
theorem hitD (h : Alike d y k) (id : ByteArray) (sc : Int) : YtbinbojicmhdlaeGreatDoor.hitD y id sc = YtbinbojicmhdlaeGreatDoor.hitD d id sc := by
  funext x
  unfold YtbinbojicmhdlaeGreatDoor.hitD
  rw [h.idOf, h.scopeD]
theorem findD (h : Alike d y k) (n : Int) (id : ByteArray) : YtbinbojicmhdlaeGreatDoor.findD y n id = YtbinbojicmhdlaeGreatDoor.findD d n id := by
  unfold YtbinbojicmhdlaeGreatDoor.findD
  rw [h.isN, h.all, h.scopeD, h.hitD]
theorem inD (h : Alike d y k) (l : List Cl) (n : Int) : YtbinbojicmhdlaeGreatDoor.inD y l n = YtbinbojicmhdlaeGreatDoor.inD d l n := by
  unfold YtbinbojicmhdlaeGreatDoor.inD
  rw [h.upF]
theorem wayF (h : Alike d y k) (l : List Cl) : ∀ (f : Nat) (n : Int), YtbinbojicmhdlaeGreatDoor.wayF f y l n = YtbinbojicmhdlaeGreatDoor.wayF f d l n
  | 0, _ => rfl
  | f + 1, n => by rw [YtbinbojicmhdlaeGreatDoor.wayF, YtbinbojicmhdlaeGreatDoor.wayF, h.inD, h.wayF l f]
theorem claim1 (h : Alike d y k) (n : Nat) : YtbinbojicmhdlaeGreatDoor.claim1 y n = YtbinbojicmhdlaeGreatDoor.claim1 d n := by
  funext l x
  unfold YtbinbojicmhdlaeGreatDoor.claim1 takes wayD
  rw [h.shD, h.wayF]
theorem asksD (h : Alike d y k) (n : Nat) : YtbinbojicmhdlaeGreatDoor.asksD y n = YtbinbojicmhdlaeGreatDoor.asksD d n := by
  unfold YtbinbojicmhdlaeGreatDoor.asksD
  have e : (fun t => YtbinbojicmhdlaeGreatDoor.findD y (n : Int) (Tx.bs t)) = (fun t => YtbinbojicmhdlaeGreatDoor.findD d (n : Int) (Tx.bs t)) := funext fun t => h.findD _ _
  rw [h.valN _ (by decide +kernel), e]
theorem claimN (h : Alike d y k) : YtbinbojicmhdlaeGreatDoor.claimN y = YtbinbojicmhdlaeGreatDoor.claimN d := by
  funext l n
  unfold YtbinbojicmhdlaeGreatDoor.claimN
  rw [h.asksD, h.claim1]
theorem claimsD (h : Alike d y k) : YtbinbojicmhdlaeGreatDoor.claimsD y = YtbinbojicmhdlaeGreatDoor.claimsD d := by
  unfold YtbinbojicmhdlaeGreatDoor.claimsD
  rw [h.shD, h.claimN]
theorem insideD (h : Alike d y k) (l : List Cl) (n : Int) : YtbinbojicmhdlaeGreatDoor.insideD y l n = YtbinbojicmhdlaeGreatDoor.insideD d l n := by
  unfold YtbinbojicmhdlaeGreatDoor.insideD
  rw [h.kidsD]

/-! ### of other nodes all is the same -/
theorem attrN' (h : Alike d y k) {j : Nat} (hj : j ≠ k) (a : ByteArray) : YtbinbojicmhdlaeGreatDoor.attrN y (j : Int) a = YtbinbojicmhdlaeGreatDoor.attrN d (j : Int) a := by
  unfold YtbinbojicmhdlaeGreatDoor.attrN
  rw [h.isN, Int.toNat_natCast, h.other j hj]
theorem valN' (h : Alike d y k) {j : Nat} (hj : j ≠ k) (a : ByteArray) : YtbinbojicmhdlaeGreatDoor.valN y (j : Int) a = YtbinbojicmhdlaeGreatDoor.valN d (j : Int) a := by
  unfold YtbinbojicmhdlaeGreatDoor.valN
  rw [h.attrN' hj]
end Alike

/-! ### plain changes -/

theorem eqS_trans {a b c : ByteArray} (h1 : eqS a b = true) : eqS a c = eqS b c := by
  unfold eqS at *
  rw [beq_iff_eq.mp h1]
/-- an attribute that is set tells nothing else of the others -/
theorem fold_not {name value a : ByteArray} (ha : eqS name a = false) : ∀ (l out : List At) (dn : Bool), (l.foldl (aStep name value) (out, dn)).1.find? (fun x => eqS x.1 a) = (out ++ l).find? (fun x => eqS x.1 a)
  | [], out, _ => by rw [List.append_nil]; rfl
  | x :: l, out, dn => by
    have key : ∀ (o2 : List At) (dn2 : Bool), o2.find? (fun z => eqS z.1 a) = (out ++ [x]).find? (fun z => eqS z.1 a) → (l.foldl (aStep name value) (o2, dn2)).1.find? (fun z => eqS z.1 a) = (out ++ x :: l).find? (fun z => eqS z.1 a) := by
      intro o2 dn2 ho
      rw [fold_not ha l o2 dn2, List.find?_append, ho, ← List.find?_append, List.append_assoc]
      rfl
    rw [List.foldl_cons]
    show (l.foldl (aStep name value) (aStep name value (out, dn) x)).1.find? _ = _
    unfold aStep
    split
    · rename_i hx
      refine key _ _ ?_
      have h1 : eqS x.1 a = false := by rw [eqS_trans hx]; exact ha
      rw [List.find?_append, List.find?_append]
      simp [h1]
    · split
      · refine key _ _ ?_
        rw [List.append_assoc, List.find?_append, List.find?_append]
        simp [ha]
      · exact key _ _ rfl
end Go.Proofs.YtbinbojicmhdlaeGreatDoor

/-
  PLAIN MATHEMATICS: behind a plain change the documents stand alike.
-/
namespace Go.Proofs.YtbinbojicmhdlaeGreatDoor
open Tn

end Go.Proofs.YtbinbojicmhdlaeGreatDoor

/-
  PLAIN MATHEMATICS: texts, joined.
-/
namespace Go.Proofs.YtbinbojicmhdlaeGreatDoor

def txs (l : List ByteArray) : List (List UInt8) := l.map (·.data.toList)
def joinB (l : List ByteArray) : ByteArray := Tx.bs (Tx.joined (txs l))
end Go.Proofs.YtbinbojicmhdlaeGreatDoor

/-
  PLAIN MATHEMATICS: names; who was not asked does not matter.
-/
namespace Go.Proofs.YtbinbojicmhdlaeGreatDoor
open Tn

/-- who was had, who was asked, and who was listed -/
structure St where
  had : List Nat
  asked : List Nat
  lst : List Nat

def emB : ByteArray := ⟨#[]⟩
def full (s : ByteArray) : Bool := !s.toList.isEmpty
def contentI (r : Int) : Bool := (Kn.ofD r).content
def namedI (r : Int) : Bool := (Kn.ofD r).named

/-- what an attribute lists -/
def refsD (d : Dc) (n : Int) (name : ByteArray) : List Int := (Wd.toksOf (valN d n name)).map (fun t => findD d n (Tx.bs t))

abbrev Nmr := St → Nat → Bool → ByteArray × St

/-- what is in a node, and in that, is listed with it -/
def markF : Nat → Dc → List Cl → Nat → List Nat → List Nat
  | 0, _, _, _, l => l
  | f + 1, d, c, n, l => if l.contains n then l else (insideD d c (n : Int)).foldl (fun l k => markF f d c k l) (l ++ [n])
def markS (d : Dc) (c : List Cl) (k : Nat) (s : St) : St := ⟨s.had, s.asked, markF 64 d c k s.lst⟩
/-- asked for another one's name, and listed -/
def tagN (nm : Nmr) (d : Dc) (c : List Cl) (s : St) (k : Nat) : ByteArray × St := nm (markS d c k s) k true

/-- one by one, those that were not had yet -/
def eachF (nm : St → Nat → ByteArray × St) : List Int → List ByteArray × St → List ByteArray × St
  | [], s => s
  | k :: ks, s => eachF nm ks (if 0 ≤ k ∧ s.2.had.contains k.toNat = false then (s.1 ++ [(nm s.2 k.toNat).1], (nm s.2 k.toNat).2) else s)
def joinF (r : List ByteArray × St) : ByteArray × St := (Wd.sqz (joinB r.1), r.2)

def labelP (d : Dc) (n : Int) (had : List Nat) (k : Nat) : Bool := isA (nd d k).tag [108, 97, 98, 101, 108] && ((valN d (k : Int) ⟨#[102, 111, 114]⟩).toList == (valN d n ⟨#[105, 100]⟩).toList) && (scopeD d (k : Int) == scopeD d n) && !had.contains k
def labelFor (d : Dc) (n : Int) (had : List Nat) : Option Nat :=
  if isA (nd d n.toNat).tag [105, 110, 112, 117, 116] && full (valN d n ⟨#[105, 100]⟩) && decide (findD d n (valN d n ⟨#[105, 100]⟩) = n) then (all fuel d 0).find? (labelP d n had) else none

def listD (nm : Nmr) (d : Dc) (c : List Cl) (n : Int) (name : ByteArray) (st : St) : ByteArray × St := joinF (eachF (tagN nm d c) (refsD d n name) ([], st))
def stepA (nm : Nmr) (d : Dc) (c : List Cl) (n : Nat) (within : Bool) (st : St) : ByteArray × St := if within then (emB, st) else listD nm d c (n : Int) ⟨#[97, 114, 105, 97, 45, 108, 97, 98, 101, 108, 108, 101, 100, 98, 121]⟩ st
def stepB (nm : Nmr) (d : Dc) (n : Nat) (st : St) : ByteArray × St :=
  if isA (nd d n).tag [105, 109, 103] then (saidN d (n : Int) ⟨#[97, 108, 116]⟩, st) else match labelFor d (n : Int) st.had with | some k => nm st k true | none => (emB, st)
def stepC (nm : Nmr) (d : Dc) (c : List Cl) (n : Nat) (within : Bool) (st : St) : ByteArray × St :=
  if within || contentI (roleD d (n : Int)) then joinF (eachF (fun s k => nm s k true) ((insideD d c (n : Int)).map Int.ofNat) ([], st)) else (emB, st)
def st1 (d : Dc) (n : Nat) (st : St) : St := ⟨st.had ++ [n], st.asked ++ lineD d (n : Int), st.lst⟩
def tailC (d : Dc) (n : Nat) (e : ByteArray × St) : ByteArray × St := if full e.1 then e else (saidN d (n : Int) ⟨#[116, 105, 116, 108, 101]⟩, e.2)
def tailB (nm : Nmr) (d : Dc) (c : List Cl) (n : Nat) (within : Bool) (b : ByteArray × St) : ByteArray × St := if full b.1 then b else tailC d n (stepC nm d c n within b.2)
def tailA (nm : Nmr) (d : Dc) (c : List Cl) (n : Nat) (within : Bool) (a : ByteArray × St) : ByteArray × St :=
  if full a.1 then a
  else if full (saidN d (n : Int) ⟨#[97, 114, 105, 97, 45, 108, 97, 98, 101, 108]⟩) then (saidN d (n : Int) ⟨#[97, 114, 105, 97, 45, 108, 97, 98, 101, 108]⟩, a.2)
  else if roleD d (n : Int) = 12 ∧ within = true then (saidN d (n : Int) ⟨#[118, 97, 108, 117, 101]⟩, a.2)
  else tailB nm d c n within (stepB nm d n a.2)
/-- a node's name, and who was asked for it -/
def nameG (nm : Nmr) (d : Dc) (c : List Cl) (st : St) (n : Nat) (within : Bool) : ByteArray × St :=
  if hidD d (n : Int) && !st.lst.contains n then (emB, st1 d n st)
  else if has (nd d n).tag = false then (Wd.sqz (nd d n).text, st1 d n st)
  else tailA nm d c n within (stepA nm d c n within (st1 d n st))
def nameF : Nat → Dc → List Cl → Nmr
  | 0, _, _ => fun st _ _ => (emB, st)
  | f + 1, d, c => nameG (nameF f d c) d c

structure Mem where
  name : ByteArray
  about : ByteArray
  uses : List Nat

def nameM (d : Dc) (c : List Cl) (n : Nat) : ByteArray × St := if !has (nd d n).tag || namedI (roleD d (n : Int)) then nameF 64 d c ⟨[], lineD d (n : Int), []⟩ n false else (emB, ⟨[], lineD d (n : Int), []⟩)
def aboutT (d : Dc) (n : Nat) (name : ByteArray) (t : ByteArray × St) : ByteArray × St := if !full t.1 && !eqS (saidN d (n : Int) ⟨#[116, 105, 116, 108, 101]⟩) name then (saidN d (n : Int) ⟨#[116, 105, 116, 108, 101]⟩, t.2) else t
def aboutM (d : Dc) (c : List Cl) (n : Nat) (r : ByteArray × St) : ByteArray × St :=
  if has (nd d n).tag && full r.1 then aboutT d n r.1 (listD (nameF 64 d c) d c (n : Int) ⟨#[97, 114, 105, 97, 45, 100, 101, 115, 99, 114, 105, 98, 101, 100, 98, 121]⟩ ⟨[n], r.2.asked, []⟩) else (emB, r.2)
def usesD (d : Dc) (l : List Nat) : List Nat := (List.range d.length).filter (fun k => l.contains k)
def memoD (d : Dc) (c : List Cl) (n : Int) : Mem :=
  if isN d n false then ⟨(nameM d c n.toNat).1, (aboutM d c n.toNat (nameM d c n.toNat)).1, usesD d (aboutM d c n.toNat (nameM d c n.toNat)).2.asked⟩ else ⟨emB, emB, []⟩

/-! ### what was asked stays asked -/

/-! ### who was not asked does not matter -/

section
variable {d y : Dc} {k : Nat}

theorem Alike.refsD (h : Alike d y k) {n : Nat} (hn : n ≠ k) (name : ByteArray) : YtbinbojicmhdlaeGreatDoor.refsD y (n : Int) name = YtbinbojicmhdlaeGreatDoor.refsD d (n : Int) name := by
  unfold YtbinbojicmhdlaeGreatDoor.refsD
  have e : (fun t => YtbinbojicmhdlaeGreatDoor.findD y (n : Int) (Tx.bs t)) = (fun t => YtbinbojicmhdlaeGreatDoor.findD d (n : Int) (Tx.bs t)) := funext fun t => h.findD _ _
  rw [h.valN' hn, e]
theorem Alike.labelFor (h : Alike d y k) (n : Int) (had : List Nat) : YtbinbojicmhdlaeGreatDoor.labelFor y n had = YtbinbojicmhdlaeGreatDoor.labelFor d n had := by
  have e : labelP y n had = labelP d n had := by
    funext x
    unfold labelP
    rw [h.tag, h.valN _ (a := ⟨#[102, 111, 114]⟩) (by decide +kernel), h.valN _ (a := ⟨#[105, 100]⟩) (by decide +kernel), h.scopeD, h.scopeD]
  unfold YtbinbojicmhdlaeGreatDoor.labelFor
  rw [h.tag, h.valN _ (a := ⟨#[105, 100]⟩) (by decide +kernel), h.findD, h.all, e]

theorem Alike.markF (h : Alike d y k) (c : List Cl) : ∀ (f n : Nat) (l : List Nat), YtbinbojicmhdlaeGreatDoor.markF f y c n l = YtbinbojicmhdlaeGreatDoor.markF f d c n l
  | 0, _, _ => rfl
  | f + 1, n, l => by
    have e : (fun l j => YtbinbojicmhdlaeGreatDoor.markF f y c j l) = (fun l j => YtbinbojicmhdlaeGreatDoor.markF f d c j l) := funext fun l => funext fun j => h.markF c f j l
    rw [YtbinbojicmhdlaeGreatDoor.markF, YtbinbojicmhdlaeGreatDoor.markF, h.insideD, e]
end
end Go.Proofs.YtbinbojicmhdlaeGreatDoor

/-
  THE WALKS of the reference's Attr at whatever node, and Scope.
-/
namespace Go.Proofs.YtbinbojicmhdlaeGreatDoor
open Go.RowKit

end Go.Proofs.YtbinbojicmhdlaeGreatDoor

/-
  THE WALK of the reference's Slot.
-/
namespace Go.Proofs.YtbinbojicmhdlaeGreatDoor
open Go.RowKit

end Go.Proofs.YtbinbojicmhdlaeGreatDoor

/-
  THE WALKS of the reference's Given, Kids, Up.
-/
namespace Go.Proofs.YtbinbojicmhdlaeGreatDoor
open Go.RowKit

end Go.Proofs.YtbinbojicmhdlaeGreatDoor

/-
  THE WALK of the reference's Up.
-/
namespace Go.Proofs.YtbinbojicmhdlaeGreatDoor
open Go.RowKit

end Go.Proofs.YtbinbojicmhdlaeGreatDoor

/-
  THE WALK of the reference's Shown.
-/
namespace Go.Proofs.YtbinbojicmhdlaeGreatDoor
open Go.RowKit

end Go.Proofs.YtbinbojicmhdlaeGreatDoor

/-
  TWO ATTRIBUTES THAT ARE ONE ARE NOT UNLIKE.
-/
namespace Go.Proofs.YtbinbojicmhdlaeGreatDoor
open Go.RowKit
end Go.Proofs.YtbinbojicmhdlaeGreatDoor

/-
  THE WALKS of the reference's SameInts and Same, at what reads the same.
-/
namespace Go.Proofs.YtbinbojicmhdlaeGreatDoor
open Go.RowKit

end Go.Proofs.YtbinbojicmhdlaeGreatDoor

/-
  THE WALKS of tnlaw3's host and alive.
-/
namespace Go.Proofs.YtbinbojicmhdlaeGreatDoor
open Go.RowKit

theorem chgs_new (w : World) (l : List Tn.Chg) (hl : l.length ≤ 1000) : ChgsAt (w.alloc (.cells (l.flatMap chc).toArray 53)) (.slice (some ⟨w.heap.size, 0, none⟩) l.length l.length) l := by
  refine ⟨_, _, rfl, Nat.le_refl _, by unfold maxLen; omega, fun j x hx => ⟨_, 0, rfl, ?_⟩⟩
  rw [Nat.zero_add, World.cell?_alloc_new, ← hx]
  simp

theorem ChgsAt.keeps {w w' : World} {v : Value} {l : List Tn.Chg} (h : ChgsAt w v l) (k : Keeps w w') : ChgsAt w' v l := by
  obtain ⟨p, c, e, h1, h2, h4⟩ := h
  refine ⟨p, c, e, h1, h2, fun j x hx => ?_⟩
  obtain ⟨b, o, e1, e2⟩ := h4 j x hx
  exact ⟨b, o, e1, k _ _ e2⟩

end Go.Proofs.YtbinbojicmhdlaeGreatDoor

/-
  THE WALK of tnlaw3's FlatTells.
-/
namespace Go.Proofs.YtbinbojicmhdlaeGreatDoor
open Go.RowKit

end Go.Proofs.YtbinbojicmhdlaeGreatDoor

/-
  THE WALKS of role.Said, has, Labelled, conceals, fitting; of the reference's said and Labelled.
-/
namespace Go.Proofs.YtbinbojicmhdlaeGreatDoor
open Go.RowKit

set_option maxHeartbeats 800000 in
theorem osaid_any {w : World} {b o c : Nat} {rs : List Raw} {d : Tn.Dc} (hd : DocAt w b o c rs d) (hg : Okd d) (hv : ∀ j, Vn (Tn.nd d j)) (n : Int) (name : ByteArray) :
    Calls Tryz.prog 43 #[.slice (some ⟨b, o, none⟩) rs.length c, .int .i64 n, .string name] w fun e w' => e = .returned (.string (saidN d n name)) ∧ Below w.heap.size w w' := by
  have hA := dattr_all hd hg n name
  have hz := val_size hv n name
  have hS : ∀ W, Calls Tryz.prog 82 #[.string (valN d n name)] W fun e w' => e = .returned (.string (saidN d n name)) ∧ Below W.heap.size W w' := fun W => Wd.squeeze_any _ W hz
  clear hd hg hv hz
  generalize saidN d n name = r at *
  generalize valN d n name = v at *
  generalize (attrN d n name).isSome = q at *
  go_enter Tryz.func43, Tryz.ntmps43
  go_wp2_with (first
    | (go_at_call 48; refine hA.mono ?_; rintro e w1 ⟨rfl, hb1⟩)
    | (go_at_call 82; refine (hS _).mono ?_; rintro e w2 ⟨rfl, hb2⟩))
  go_ret
  exact ⟨rfl, hb1.trans (hb2.mono hb1.size)⟩

set_option maxHeartbeats 800000 in
theorem ohas_any {w : World} {b o c : Nat} {rs : List Raw} {d : Tn.Dc} (hd : DocAt w b o c rs d) (hg : Okd d) (n : Int) (name : ByteArray) :
    Calls Tryz.prog 154 #[.slice (some ⟨b, o, none⟩) rs.length c, .int .i64 n, .string name] w fun e w' => e = .returned (.bool (hasN d n name)) ∧ Below w.heap.size w w' := by
  have hA := dattr_all hd hg n name
  clear hd hg
  unfold hasN
  generalize valN d n name = v at *
  generalize (attrN d n name).isSome = q at *
  go_enter Tryz.func154, Tryz.ntmps154
  go_wp2_with (go_at_call 48; refine hA.mono ?_; rintro e w1 ⟨rfl, hb1⟩)
  go_ret
  exact ⟨rfl, hb1⟩

set_option maxHeartbeats 800000 in
theorem olab_any {w : World} {b o c : Nat} {rs : List Raw} {d : Tn.Dc} (hd : DocAt w b o c rs d) (hg : Okd d) (hv : ∀ j, Vn (Tn.nd d j)) (n : Int) :
    Calls Tryz.prog 153 #[.slice (some ⟨b, o, none⟩) rs.length c, .int .i64 n] w fun e w' => e = .returned (.bool (labD d n)) ∧ Below w.heap.size w w' := by
  have S1 := osaid_any hd hg hv n ⟨#[97, 114, 105, 97, 45, 108, 97, 98, 101, 108]⟩
  have S2 : ∀ W, Keeps w W → Calls Tryz.prog 43 #[.slice (some ⟨b, o, none⟩) rs.length c, .int .i64 n, .string ⟨#[97, 114, 105, 97, 45, 108, 97, 98, 101, 108, 108, 101, 100, 98, 121]⟩] W fun e w' => e = .returned (.string (saidN d n ⟨#[97, 114, 105, 97, 45, 108, 97, 98, 101, 108, 108, 101, 100, 98, 121]⟩)) ∧ Below W.heap.size W w' := fun W hk => osaid_any (hd.keeps hk) hg hv n _
  have E : Hid (labD d n = (!(saidN d n ⟨#[97, 114, 105, 97, 45, 108, 97, 98, 101, 108]⟩).toList.isEmpty || !(saidN d n ⟨#[97, 114, 105, 97, 45, 108, 97, 98, 101, 108, 108, 101, 100, 98, 121]⟩).toList.isEmpty)) := rfl
  clear hd hg hv
  generalize saidN d n ⟨#[97, 114, 105, 97, 45, 108, 97, 98, 101, 108]⟩ = x at *
  generalize saidN d n ⟨#[97, 114, 105, 97, 45, 108, 97, 98, 101, 108, 108, 101, 100, 98, 121]⟩ = y at *
  generalize labD d n = res at *
  cases hx : x.toList.isEmpty with
  | false =>
    rw [hx] at E
    have E2 : Hid (res = true) := E.out
    clear E
    go_enter Tryz.func153, Tryz.ntmps153
    go_wp2_with (go_at_call 43; refine S1.mono ?_; rintro e w1 ⟨rfl, hb1⟩)
    go_ret
    exact ⟨by rw [E2.out]; rfl, hb1⟩
  | true =>
    cases hy : y.toList.isEmpty with
    | false =>
      rw [hx, hy] at E
      have E2 : Hid (res = true) := E.out
      clear E
      go_enter Tryz.func153, Tryz.ntmps153
      go_wp2_with (first
        | (go_at_call 43; refine S1.mono ?_; clear S1; rintro e w1 ⟨rfl, hb1⟩; have S3 := S2 w1 (keeps_below hb1 (Nat.le_refl _)))
        | (go_at_call 43; refine S3.mono ?_; rintro e w2 ⟨rfl, hb2⟩))
      go_ret
      exact ⟨by rw [E2.out]; rfl, hb1.trans (hb2.mono hb1.size)⟩
    | true =>
      rw [hx, hy] at E
      have E2 : Hid (res = false) := E.out
      clear E
      go_enter Tryz.func153, Tryz.ntmps153
      go_wp2_with (first
        | (go_at_call 43; refine S1.mono ?_; clear S1; rintro e w1 ⟨rfl, hb1⟩; have S3 := S2 w1 (keeps_below hb1 (Nat.le_refl _)))
        | (go_at_call 43; refine S3.mono ?_; rintro e w2 ⟨rfl, hb2⟩))
      go_ret
      exact ⟨by rw [E2.out]; rfl, hb1.trans (hb2.mono hb1.size)⟩

set_option maxHeartbeats 800000 in
theorem oconc_any {w : World} {b o c : Nat} {rs : List Raw} {d : Tn.Dc} (hd : DocAt w b o c rs d) (hg : Okd d) (hv : ∀ j, Vn (Tn.nd d j)) (n : Int) :
    Calls Tryz.prog 139 #[.slice (some ⟨b, o, none⟩) rs.length c, .int .i64 n] w fun e w' => e = .returned (.bool (concD d n)) ∧ Below w.heap.size w w' := by
  have S1 := ohas_any hd hg n ⟨#[104, 105, 100, 100, 101, 110]⟩
  have S2 : ∀ W, Keeps w W → Calls Tryz.prog 43 #[.slice (some ⟨b, o, none⟩) rs.length c, .int .i64 n, .string ⟨#[97, 114, 105, 97, 45, 104, 105, 100, 100, 101, 110]⟩] W fun e w' => e = .returned (.string (saidN d n ⟨#[97, 114, 105, 97, 45, 104, 105, 100, 100, 101, 110]⟩)) ∧ Below W.heap.size W w' := fun W hk => osaid_any (hd.keeps hk) hg hv n _
  have hz := said_size hv n ⟨#[97, 114, 105, 97, 45, 104, 105, 100, 100, 101, 110]⟩
  have S4 : ∀ W, Calls Tryz.prog 47 #[.string (saidN d n ⟨#[97, 114, 105, 97, 45, 104, 105, 100, 100, 101, 110]⟩)] W fun e w' => e = .returned (.string (lowS (saidN d n ⟨#[97, 114, 105, 97, 45, 104, 105, 100, 100, 101, 110]⟩))) ∧ Below W.heap.size W w' := fun W => Wd.lower_any _ W hz
  have E : Hid (concD d n = (hasN d n ⟨#[104, 105, 100, 100, 101, 110]⟩ || ((lowS (saidN d n ⟨#[97, 114, 105, 97, 45, 104, 105, 100, 100, 101, 110]⟩)).toList == [116, 114, 117, 101]))) := rfl
  clear hd hg hv hz
  generalize hasN d n ⟨#[104, 105, 100, 100, 101, 110]⟩ = x at *
  generalize lowS (saidN d n ⟨#[97, 114, 105, 97, 45, 104, 105, 100, 100, 101, 110]⟩) = z at *
  generalize saidN d n ⟨#[97, 114, 105, 97, 45, 104, 105, 100, 100, 101, 110]⟩ = y at *
  generalize concD d n = res at *
  cases x with
  | true =>
    have E2 : Hid (res = true) := E.out
    clear E
    go_enter Tryz.func139, Tryz.ntmps139
    go_wp2_with (go_at_call 154; refine S1.mono ?_; rintro e w1 ⟨rfl, hb1⟩)
    go_ret
    exact ⟨by rw [E2.out]; rfl, hb1⟩
  | false =>
    have E2 : Hid (res = (z.toList == [116, 114, 117, 101])) := E.out
    clear E
    go_enter Tryz.func139, Tryz.ntmps139
    go_wp2_with (first
      | (go_at_call 154; refine S1.mono ?_; rintro e w1 ⟨rfl, hb1⟩; have S3 := S2 w1 (keeps_below hb1 (Nat.le_refl _)))
      | (go_at_call 43; refine S3.mono ?_; rintro e w2 ⟨rfl, hb2⟩)
      | (go_at_call 47; refine (S4 _).mono ?_; rintro e w3 ⟨rfl, hb3⟩))
    go_ret
    have B2 := hb1.trans (hb2.mono hb1.size)
    exact ⟨by rw [E2.out]; simp, B2.trans (hb3.mono B2.size)⟩

theorem ofD_agg (r : Int) : ∃ (a0 : ByteArray) (a1 a2 a3 a4 a5 : Bool), Kn.kval (Kn.ofD r) = .agg #[.string a0, .bool a1, .bool a2, .bool a3, .bool a4, .bool a5, .int .i64 (needI r)] := ⟨_, _, _, _, _, _, rfl⟩

set_option maxHeartbeats 800000 in
theorem ofit_any {w : World} (T : Kn.TabAt w) (r a : Int) :
    Calls Tryz.prog 78 #[.int .i64 r, .int .i64 a] w fun e w' => e = .returned (.int .i64 (fitD r a)) ∧ Below w.heap.size w w' := by
  have S1 := Kn.of_any T r
  obtain ⟨a0, a1, a2, a3, a4, a5, hk⟩ := ofD_agg r
  rw [hk] at S1
  have hfl := Kn.field_need
  have E : Hid (fitD r a = if needI r ≠ 0 ∧ needI r ≠ a then 18 else r) := rfl
  clear hk
  generalize fitD r a = res at *
  generalize needI r = nd at *
  by_cases h1 : nd = 0
  · have E2 : Hid (res = r) := by show _ = _; rw [E.out, if_neg (by simp [h1])]
    subst h1
    clear E
    go_enter Tryz.func78, Tryz.ntmps78
    go_wp2_with (go_at_call 41; refine S1.mono ?_; rintro e w1 ⟨rfl, hb1⟩)
    go_ret
    exact ⟨by rw [E2.out]; rfl, hb1⟩
  · have h1b : (nd != 0) = true := by simpa using h1
    by_cases h2 : nd = a
    · have E2 : Hid (res = r) := by show _ = _; rw [E.out, if_neg (by simp [h2])]
      subst h2
      clear E
      go_enter Tryz.func78, Tryz.ntmps78
      go_wp2_with (go_at_call 41; refine S1.mono ?_; rintro e w1 ⟨rfl, hb1⟩)
      go_ret
      exact ⟨by rw [E2.out]; rfl, hb1⟩
    · have h2b : (nd != a) = true := by simpa using h2
      have E2 : Hid (res = 18) := by show _ = _; rw [E.out, if_pos ⟨h1, h2⟩]
      clear E
      go_enter Tryz.func78, Tryz.ntmps78
      go_wp2_with (go_at_call 41; refine S1.mono ?_; rintro e w1 ⟨rfl, hb1⟩)
      go_ret
      exact ⟨by rw [E2.out]; rfl, hb1⟩

/-- a document, and the table of kinds -/
structure Cx (w : World) (b o c : Nat) (rs : List Raw) (d : Tn.Dc) : Prop where
  doc : DocAt w b o c rs d
  tab : Kn.TabAt w
  fine : Fine d
  vn : ∀ j, Vn (Tn.nd d j)
theorem Cx.below {w w' : World} {b o c : Nat} {rs : List Raw} {d : Tn.Dc} (h : Cx w b o c rs d) (hb : Below w.heap.size w w') : Cx w' b o c rs d := ⟨h.doc.keeps (keeps_below hb (Nat.le_refl _)), h.tab.below hb, h.fine, h.vn⟩
theorem Cx.to {w w' : World} {b o c : Nat} {rs : List Raw} {d : Tn.Dc} (h : Cx w b o c rs d) {B : Nat} (hB : w.heap.size ≤ B) (hb : Below B w w') : Cx w' b o c rs d := h.below (hb.mono hB)

end Go.Proofs.YtbinbojicmhdlaeGreatDoor

/-
  THE WALK of role.wanted.
-/
namespace Go.Proofs.YtbinbojicmhdlaeGreatDoor
open Go.RowKit

theorem tok_len : ∀ (ts : List (List UInt8)) (t : List UInt8), t ∈ ts → t.length ≤ (Tx.joined ts).length
  | [], t, h => by simp at h
  | [a], t, h => by
    rw [List.mem_singleton] at h
    rw [h, Tx.joined_one]
    exact Nat.le_refl _
  | a :: b :: r, t, h => by
    rw [Tx.joined_cons]
    rw [List.mem_cons] at h
    rcases h with rfl | h
    · simp
    · have := tok_len (b :: r) t h
      simp
      omega

theorem tok_size {s : ByteArray} (hs : s.size ≤ 4194304) {t : List UInt8} (ht : t ∈ Wd.toksOf s) : t.length ≤ 4194304 := by
  have := tok_len _ t ht
  have := Wd.joined_len s
  omega

theorem find_cases (s : List UInt8) : Kn.findD s = -1 ∨ ∃ r : Nat, Kn.findD s = (r : Int) := by
  unfold Kn.findD
  cases Kn.lk (Kn.nmL 19) s with
  | none => exact Or.inl rfl
  | some r => exact Or.inr ⟨r, rfl⟩

theorem want_at (lab : Bool) (ts : List (List UInt8)) (j : Nat) (h : j < ts.length) : wantL lab (ts.drop j) = if Kn.findD (Wd.lowL ts[j]) = 0 ∧ lab = true then -1 else if 0 ≤ Kn.findD (Wd.lowL ts[j]) then Kn.findD (Wd.lowL ts[j]) else wantL lab (ts.drop (j + 1)) := by
  rw [List.drop_eq_getElem_cons h, wantL]

set_option maxHeartbeats 1600000 in
set_option maxRecDepth 100000 in
theorem owant_any {w : World} {b o c : Nat} {rs : List Raw} {d : Tn.Dc} (hc : Cx w b o c rs d) (n : Int) :
    Calls Tryz.prog 122 #[.slice (some ⟨b, o, none⟩) rs.length c, .int .i64 n] w fun e w' => e = .returned (.int .i64 (wantD d n)) ∧ Below w.heap.size w w' := by
  have C : Hid (Cx w b o c rs d) := hc
  have hA := dattr_all hc.doc hc.fine.okd n ⟨#[114, 111, 108, 101]⟩
  have hz := val_size hc.vn n ⟨#[114, 111, 108, 101]⟩
  have E : Hid (wantD d n = wantL (labD d n) (Wd.toksOf (valN d n ⟨#[114, 111, 108, 101]⟩))) := rfl
  have HL : Hid (∀ W, Below w.heap.size w W → Calls Tryz.prog 153 #[.slice (some ⟨b, o, none⟩) rs.length c, .int .i64 n] W fun e w' => e = .returned (.bool (labD d n)) ∧ Below W.heap.size W w') := fun W hb => olab_any (hc.below hb).doc hc.fine.okd hc.vn n
  have HF : Hid (∀ W s, Below w.heap.size w W → s.size ≤ 4194304 → Calls Tryz.prog 152 #[.string s] W fun e w' => e = .returned (.int .i64 (Kn.findD s.data.toList)) ∧ Below W.heap.size W w') := fun W s hb hs => Kn.find_any (hc.below hb).tab s (by unfold maxLen; omega)
  clear hc
  generalize labD d n = lab at *
  generalize wantD d n = res at *
  generalize valN d n ⟨#[114, 111, 108, 101]⟩ = v at *
  generalize (attrN d n ⟨#[114, 111, 108, 101]⟩).isSome = q at *
  by_cases hne : Wd.toksOf v = []
  · have E2 : Hid (res = -1) := by show _ = _; rw [E.out, hne]; rfl
    have hT : ∀ W, Calls Tryz.prog 80 #[.string v] W fun e w' => e = .returned (.slice none 0 0) ∧ Below W.heap.size W w' := fun W => Wd.tokens_none v W hz hne
    clear E HL HF hne
    go_enter Tryz.func122, Tryz.ntmps122
    go_wp2_with (first
      | (go_at_call 48; refine hA.mono ?_; rintro e w1 ⟨rfl, hb1⟩)
      | (go_at_call 80; refine (hT _).mono ?_; rintro e w2 ⟨rfl, hb2⟩))
    refine wp_loop_rounds 1 ?_
    rw [rounds_succ]
    go_wp2_with fail
    go_ret
    exact ⟨by rw [E2.out]; rfl, hb1.trans (hb2.mono hb1.size)⟩
  · have hT : ∀ W, Calls Tryz.prog 80 #[.string v] W fun e w' => ∃ g c, e = .returned (.slice (some ⟨g, 0, none⟩) (Wd.toksOf v).length c) ∧ Wd.Words W.heap.size (Wd.toksOf v) g c w' ∧ Below W.heap.size W w' := fun W => Wd.tokens_some v W hz hne
    have hl := Wd.toksOf_len v
    have TS : Hid (∀ t ∈ Wd.toksOf v, t.length ≤ 4194304) := fun t ht => tok_size hz ht
    have hlen : (Wd.toksOf v).length ≤ 4194304 := by omega
    clear hne hl
    generalize Wd.toksOf v = ts at *
    go_enter Tryz.func122, Tryz.ntmps122
    go_wp2_with (first
      | (go_at_call 48; refine hA.mono ?_; rintro e w1 ⟨rfl, hb1⟩)
      | (go_at_call 80; refine (hT _).mono ?_; rintro e w2 ⟨g2, c2, rfl, hW2, hb2⟩))
    have TW : Hid (∀ j t, ts[j]? = some t → w2.cell? ⟨g2, j, none⟩ = some (.string (Tx.bs t))) := hW2.2.2.2
    have hcap := hW2.2.2.1
    have B2 : Below w.heap.size w w2 := hb1.trans (hb2.mono hb1.size)
    clear hW2 hT hA
    go_loopw [19] (fun i wr => ∃ j : Nat, j ≤ ts.length ∧ i = .int .i64 j ∧ Hid (res = wantL lab (ts.drop j)) ∧ Below w2.heap.size w2 wr) (fun i _ => ts.length - (intOf i).toNat)
    case atStart => exact ⟨0, Nat.zero_le _, rfl, by show _ = _; rw [E.out]; rfl, Below.refl _ _⟩
    case round =>
      obtain ⟨j, hj, rfl, R, hnx⟩ := hrel
      have BR : Below w.heap.size w wr := B2.trans (hnx.mono B2.size)
      by_cases hlt : j < ts.length
      · have hjt := List.getElem?_eq_getElem hlt
        have hc1 := keeps_below hnx (Nat.le_refl _) _ _ (TW.out j _ hjt)
        have hts := TS.out ts[j] (List.getElem_mem hlt)
        have R1 : Hid (res = if Kn.findD (Wd.lowL ts[j]) = 0 ∧ lab = true then -1 else if 0 ≤ Kn.findD (Wd.lowL ts[j]) then Kn.findD (Wd.lowL ts[j]) else wantL lab (ts.drop (j + 1))) := by
          show _ = _
          rw [R.out, want_at lab ts j hlt]
        have hLo : Calls Tryz.prog 47 #[.string (Tx.bs ts[j])] wr fun e w' => e = .returned (.string (Tx.bs (Wd.lowL ts[j]))) ∧ Below wr.heap.size wr w' := Wd.lower_any (Tx.bs ts[j]) wr hts
        have hFi : ∀ W, Below w.heap.size w W → Calls Tryz.prog 152 #[.string (Tx.bs (Wd.lowL ts[j]))] W fun e w' => e = .returned (.int .i64 (Kn.findD (Wd.lowL ts[j]))) ∧ Below W.heap.size W w' := fun W hb => HF.out W (Tx.bs (Wd.lowL ts[j])) hb (by show (Wd.lowL ts[j]).length ≤ _; rw [Wd.lowL_len]; exact hts)
        have fc := find_cases (Wd.lowL ts[j])
        clear R hjt hts
        generalize Tx.bs ts[j] = tb at *
        generalize Tx.bs (Wd.lowL ts[j]) = lb at *
        generalize Kn.findD (Wd.lowL ts[j]) = f at *
        rcases fc with rfl | ⟨r, rfl⟩
        · have R2 : Hid (res = wantL lab (ts.drop (j + 1))) := by show _ = _; rw [R1.out, if_neg (by omega), if_neg (by omega)]
          clear R1
          go_wp2_with (first
            | (go_at_call 47; refine hLo.mono ?_; rintro e w3 ⟨rfl, hb3⟩; have B3 := BR.trans (hb3.mono BR.size))
            | (go_at_call 152; refine (hFi _ B3).mono ?_; rintro e w4 ⟨rfl, hb4⟩))
          go_roundw
          case rel => exact ⟨j + 1, by omega, by go_num, R2, (hnx.trans (hb3.mono hnx.size)).trans (hb4.mono (Nat.le_trans hnx.size hb3.size))⟩
          case measure => simp [intOf]; omega
        · cases r with
          | zero =>
            cases lab with
            | true =>
              have R2 : Hid (res = -1) := by show _ = _; rw [R1.out, if_pos ⟨rfl, rfl⟩]
              clear R1
              go_wp2_with (first
                | (go_at_call 47; refine hLo.mono ?_; rintro e w3 ⟨rfl, hb3⟩; have B3 := BR.trans (hb3.mono BR.size))
                | (go_at_call 152; refine (hFi _ B3).mono ?_; rintro e w4 ⟨rfl, hb4⟩; have B4 := B3.trans (hb4.mono B3.size))
                | (go_at_call 153; refine (HL.out _ B4).mono ?_; rintro e w5 ⟨rfl, hb5⟩))
              go_ret
              exact ⟨by rw [R2.out]; rfl, B4.trans (hb5.mono B4.size)⟩
            | false =>
              have R2 : Hid (res = 0) := by show _ = _; rw [R1.out, if_neg (by simp), if_pos (by omega)]; rfl
              clear R1
              go_wp2_with (first
                | (go_at_call 47; refine hLo.mono ?_; rintro e w3 ⟨rfl, hb3⟩; have B3 := BR.trans (hb3.mono BR.size))
                | (go_at_call 152; refine (hFi _ B3).mono ?_; rintro e w4 ⟨rfl, hb4⟩; have B4 := B3.trans (hb4.mono B3.size))
                | (go_at_call 153; refine (HL.out _ B4).mono ?_; rintro e w5 ⟨rfl, hb5⟩))
              go_ret
              exact ⟨by rw [R2.out]; rfl, B4.trans (hb5.mono B4.size)⟩
          | succ r =>
            have R2 : Hid (res = ((r + 1 : Nat) : Int)) := by show _ = _; rw [R1.out, if_neg (by omega), if_pos (by omega)]
            have hq : ((((r + 1 : Nat) : Int)) == 0) = false := by simp; omega
            clear R1
            generalize hr : r + 1 = r1 at *
            have hr1 : 0 < r1 := by omega
            clear hr
            go_wp2_with (first
              | (go_at_call 47; refine hLo.mono ?_; rintro e w3 ⟨rfl, hb3⟩; have B3 := BR.trans (hb3.mono BR.size))
              | (go_at_call 152; refine (hFi _ B3).mono ?_; rintro e w4 ⟨rfl, hb4⟩; have B4 := B3.trans (hb4.mono B3.size)))
            go_ret
            exact ⟨by rw [R2.out]; rfl, B4⟩
      · obtain rfl : j = ts.length := by omega
        have R2 : Hid (res = -1) := by show _ = _; rw [R.out, List.drop_length]; rfl
        go_wp2_with fail
        go_ret
        exact ⟨by rw [R2.out]; rfl, BR⟩
end Go.Proofs.YtbinbojicmhdlaeGreatDoor

/-
  PLAIN MATHEMATICS: the words of a text, lowered, are its words, each lowered.
-/
namespace Go.Proofs.YtbinbojicmhdlaeGreatDoor
open Go.RowKit

end Go.Proofs.YtbinbojicmhdlaeGreatDoor

/-
  THE WALKS of role.native and role.alone.
-/
namespace Go.Proofs.YtbinbojicmhdlaeGreatDoor
open Go.RowKit

theorem isA_one {s : ByteArray} {a b : List UInt8} (h : isA s a = true) (hab : a ≠ b) : isA s b = false := by
  unfold isA at *
  have : s.toList = a := by simpa using h
  rw [this]
  simpa using hab

set_option maxHeartbeats 3200000 in
set_option maxRecDepth 100000 in
theorem onat_any {w : World} {b o c : Nat} {rs : List Raw} {d : Tn.Dc} (hc : Cx w b o c rs d) (k : Nat) (hk : Tn.isN d (k : Int) true = true) :
    Calls Tryz.prog 123 #[.slice (some ⟨b, o, none⟩) rs.length c, .int .i64 (k : Int)] w fun e w' => e = .returned (.int .i64 (natD d (k : Int))) ∧ Below w.heap.size w w' := by
  have hd := hc.doc
  have hg := hc.fine.okd
  have hkl : k < d.length := by obtain ⟨k', e, h, _⟩ := isN_nat (isN_true hk); omega
  have hk' : k < rs.length := by rw [hd.len]; exact hkl
  have h1 := hd.row.c1 k hk'
  have ht : rs[k].tag = (Tn.nd d k).tag := by rw [(hd.nds k hk' hkl).tag, nd_at hkl]
  rw [ht] at h1
  have tz := (hc.vn k).2
  have SH : ∀ W, Below w.heap.size w W → Calls Tryz.prog 154 #[.slice (some ⟨b, o, none⟩) rs.length c, .int .i64 (k : Int), .string ⟨#[104, 114, 101, 102]⟩] W fun e w' => e = .returned (.bool (hasN d (k : Int) ⟨#[104, 114, 101, 102]⟩)) ∧ Below W.heap.size W w' := fun W hb => ohas_any (hc.below hb).doc hg _ _
  have SA : ∀ W, Below w.heap.size w W → Calls Tryz.prog 154 #[.slice (some ⟨b, o, none⟩) rs.length c, .int .i64 (k : Int), .string ⟨#[97, 108, 116]⟩] W fun e w' => e = .returned (.bool (hasN d (k : Int) ⟨#[97, 108, 116]⟩)) ∧ Below W.heap.size W w' := fun W hb => ohas_any (hc.below hb).doc hg _ _
  have SY : ∀ W, Below w.heap.size w W → Calls Tryz.prog 43 #[.slice (some ⟨b, o, none⟩) rs.length c, .int .i64 (k : Int), .string ⟨#[116, 121, 112, 101]⟩] W fun e w' => e = .returned (.string (saidN d (k : Int) ⟨#[116, 121, 112, 101]⟩)) ∧ Below W.heap.size W w' := fun W hb => osaid_any (hc.below hb).doc hg hc.vn _ _
  have SB : ∀ W, Below w.heap.size w W → Calls Tryz.prog 43 #[.slice (some ⟨b, o, none⟩) rs.length c, .int .i64 (k : Int), .string ⟨#[97, 108, 116]⟩] W fun e w' => e = .returned (.string (saidN d (k : Int) ⟨#[97, 108, 116]⟩)) ∧ Below W.heap.size W w' := fun W hb => osaid_any (hc.below hb).doc hg hc.vn _ _
  have ST : ∀ W, Below w.heap.size w W → Calls Tryz.prog 43 #[.slice (some ⟨b, o, none⟩) rs.length c, .int .i64 (k : Int), .string ⟨#[116, 105, 116, 108, 101]⟩] W fun e w' => e = .returned (.string (saidN d (k : Int) ⟨#[116, 105, 116, 108, 101]⟩)) ∧ Below W.heap.size W w' := fun W hb => osaid_any (hc.below hb).doc hg hc.vn _ _
  have yz := said_size hc.vn (k : Int) ⟨#[116, 121, 112, 101]⟩
  have SW : ∀ W, Calls Tryz.prog 47 #[.string (saidN d (k : Int) ⟨#[116, 121, 112, 101]⟩)] W fun e w' => e = .returned (.string (lowS (saidN d (k : Int) ⟨#[116, 121, 112, 101]⟩))) ∧ Below W.heap.size W w' := fun W => Wd.lower_any _ W yz
  have SL : ∀ W, Below w.heap.size w W → Calls Tryz.prog 153 #[.slice (some ⟨b, o, none⟩) rs.length c, .int .i64 (k : Int)] W fun e w' => e = .returned (.bool (labD d (k : Int))) ∧ Below W.heap.size W w' := fun W hb => olab_any (hc.below hb).doc hg hc.vn _
  have SG : ∀ W, Calls Tryz.prog 155 #[.string (Tn.nd d k).tag] W fun e w' => e = .returned (.int .i64 (Kn.tagD (Tn.nd d k).tag.data.toList)) ∧ Below W.heap.size W w' := fun W => Kn.tag_any W _ (by unfold maxLen; omega)
  have E : Hid (natD d (k : Int) = natT (labD d (k : Int)) (hasN d (k : Int) ⟨#[104, 114, 101, 102]⟩) ((lowS (saidN d (k : Int) ⟨#[116, 121, 112, 101]⟩)).toList == [99, 104, 101, 99, 107, 98, 111, 120]) (hasN d (k : Int) ⟨#[97, 108, 116]⟩ && (saidN d (k : Int) ⟨#[97, 108, 116]⟩).toList.isEmpty) (!(saidN d (k : Int) ⟨#[116, 105, 116, 108, 101]⟩).toList.isEmpty) (Tn.nd d k).tag) := rfl
  clear hc hd hg hk hkl ht yz tz
  generalize natD d (k : Int) = res at *
  generalize labD d (k : Int) = lab at *
  generalize hasN d (k : Int) ⟨#[104, 114, 101, 102]⟩ = hr at *
  generalize hasN d (k : Int) ⟨#[97, 108, 116]⟩ = al at *
  generalize lowS (saidN d (k : Int) ⟨#[116, 121, 112, 101]⟩) = ylow at *
  generalize saidN d (k : Int) ⟨#[116, 121, 112, 101]⟩ = ysay at *
  generalize saidN d (k : Int) ⟨#[97, 108, 116]⟩ = asay at *
  generalize saidN d (k : Int) ⟨#[116, 105, 116, 108, 101]⟩ = tsay at *
  generalize (Tn.nd d k).tag = tag at *
  generalize hTG : Kn.tagD tag.data.toList = tg at *
  cases ha : isA tag [97] with
  | true =>
    have hi := isA_one ha (b := [105, 110, 112, 117, 116]) (by decide)
    have hm := isA_one ha (b := [105, 109, 103]) (by decide)
    have hs := isA_one ha (b := [115, 101, 99, 116, 105, 111, 110]) (by decide)
    cases hr with
    | true =>
      have E2 : Hid (res = 7) := by show _ = _; rw [E.out]; unfold natT; simp [ha]
      clear E hTG
      have B0 := Below.refl w.heap.size w
      simp only [isA] at *
      go_enter Tryz.func123, Tryz.ntmps123
      go_wp2_with (go_at_call 154; refine ((SH _ B0)).mono ?_; clear SH; rintro e w1 ⟨rfl, hb1⟩; have B1 := B0.trans (hb1.mono B0.size))
      go_ret
      exact ⟨by rw [E2.out]; rfl, B1⟩
    | false =>
      have E2 : Hid (res = tg) := by show _ = _; rw [E.out]; unfold natT; simp [ha, hi, hm, hs, hTG]
      clear E hTG
      have B0 := Below.refl w.heap.size w
      simp only [isA] at *
      go_enter Tryz.func123, Tryz.ntmps123
      go_wp2_with (first
        | (go_at_call 154; refine ((SH _ B0)).mono ?_; clear SH; rintro e w1 ⟨rfl, hb1⟩; have B1 := B0.trans (hb1.mono B0.size))
        | (go_at_call 155; refine ((SG _)).mono ?_; rintro e w2 ⟨rfl, hb2⟩; have B2 := B1.trans (hb2.mono B1.size)))
      go_ret
      exact ⟨by rw [E2.out]; rfl, B2⟩
  | false =>
    cases hi : isA tag [105, 110, 112, 117, 116] with
    | true =>
      cases hy : (ylow.toList == [99, 104, 101, 99, 107, 98, 111, 120]) with
      | true =>
        have E2 : Hid (res = 9) := by show _ = _; rw [E.out]; unfold natT; simp [ha, hi, hy]
        clear E hTG
        have B0 := Below.refl w.heap.size w
        simp only [isA] at *
        go_enter Tryz.func123, Tryz.ntmps123
        go_wp2_with (first
          | (go_at_call 43; refine ((SY _ B0)).mono ?_; clear SY; rintro e w1 ⟨rfl, hb1⟩; have B1 := B0.trans (hb1.mono B0.size))
          | (go_at_call 47; refine ((SW _)).mono ?_; clear SW; rintro e w2 ⟨rfl, hb2⟩; have B2 := B1.trans (hb2.mono B1.size)))
        go_ret
        exact ⟨by rw [E2.out]; rfl, B2⟩
      | false =>
        have E2 : Hid (res = 12) := by show _ = _; rw [E.out]; unfold natT; simp [ha, hi, hy]
        clear E hTG
        have B0 := Below.refl w.heap.size w
        simp only [isA] at *
        go_enter Tryz.func123, Tryz.ntmps123
        go_wp2_with (first
          | (go_at_call 43; refine ((SY _ B0)).mono ?_; clear SY; rintro e w1 ⟨rfl, hb1⟩; have B1 := B0.trans (hb1.mono B0.size))
          | (go_at_call 47; refine ((SW _)).mono ?_; clear SW; rintro e w2 ⟨rfl, hb2⟩; have B2 := B1.trans (hb2.mono B1.size)))
        go_ret
        exact ⟨by rw [E2.out]; rfl, B2⟩
    | false =>
      cases hm : isA tag [105, 109, 103] with
      | true =>
        cases al with
        | false =>
          have E2 : Hid (res = 11) := by show _ = _; rw [E.out]; unfold natT; simp [ha, hi, hm]
          clear E hTG
          have B0 := Below.refl w.heap.size w
          simp only [isA] at *
          go_enter Tryz.func123, Tryz.ntmps123
          go_wp2_with (go_at_call 154; refine ((SA _ B0)).mono ?_; clear SA; rintro e w1 ⟨rfl, hb1⟩; have B1 := B0.trans (hb1.mono B0.size))
          go_ret
          exact ⟨by rw [E2.out]; rfl, B1⟩
        | true =>
          cases he : asay.toList.isEmpty with
          | false =>
            have E2 : Hid (res = 11) := by show _ = _; rw [E.out]; unfold natT; simp [ha, hi, hm, he]
            clear E hTG
            have B0 := Below.refl w.heap.size w
            simp only [isA] at *
            go_enter Tryz.func123, Tryz.ntmps123
            go_wp2_with (first
              | (go_at_call 154; refine ((SA _ B0)).mono ?_; clear SA; rintro e w1 ⟨rfl, hb1⟩; have B1 := B0.trans (hb1.mono B0.size))
              | (go_at_call 43; refine ((SB _ B1)).mono ?_; clear SB; rintro e w2 ⟨rfl, hb2⟩; have B2 := B1.trans (hb2.mono B1.size)))
            go_ret
            exact ⟨by rw [E2.out]; rfl, B2⟩
          | true =>
            cases lab with
            | true =>
              have E2 : Hid (res = 11) := by show _ = _; rw [E.out]; unfold natT; simp [ha, hi, hm, he]
              clear E hTG
              have B0 := Below.refl w.heap.size w
              simp only [isA] at *
              go_enter Tryz.func123, Tryz.ntmps123
              go_wp2_with (first
                | (go_at_call 154; refine ((SA _ B0)).mono ?_; clear SA; rintro e w1 ⟨rfl, hb1⟩; have B1 := B0.trans (hb1.mono B0.size))
                | (go_at_call 43; refine ((SB _ B1)).mono ?_; clear SB; rintro e w2 ⟨rfl, hb2⟩; have B2 := B1.trans (hb2.mono B1.size))
                | (go_at_call 153; refine ((SL _ B2)).mono ?_; clear SL; rintro e w3 ⟨rfl, hb3⟩; have B3 := B2.trans (hb3.mono B2.size)))
              go_ret
              exact ⟨by rw [E2.out]; rfl, B3⟩
            | false =>
              have E2 : Hid (res = 0) := by show _ = _; rw [E.out]; unfold natT; simp [ha, hi, hm, he]
              clear E hTG
              have B0 := Below.refl w.heap.size w
              simp only [isA] at *
              go_enter Tryz.func123, Tryz.ntmps123
              go_wp2_with (first
                | (go_at_call 154; refine ((SA _ B0)).mono ?_; clear SA; rintro e w1 ⟨rfl, hb1⟩; have B1 := B0.trans (hb1.mono B0.size))
                | (go_at_call 43; refine ((SB _ B1)).mono ?_; clear SB; rintro e w2 ⟨rfl, hb2⟩; have B2 := B1.trans (hb2.mono B1.size))
                | (go_at_call 153; refine ((SL _ B2)).mono ?_; clear SL; rintro e w3 ⟨rfl, hb3⟩; have B3 := B2.trans (hb3.mono B2.size)))
              go_ret
              exact ⟨by rw [E2.out]; rfl, B3⟩
      | false =>
        cases hs : isA tag [115, 101, 99, 116, 105, 111, 110] with
        | false =>
          have E2 : Hid (res = tg) := by show _ = _; rw [E.out]; unfold natT; simp [ha, hi, hm, hs, hTG]
          clear E hTG
          have B0 := Below.refl w.heap.size w
          simp only [isA] at *
          go_enter Tryz.func123, Tryz.ntmps123
          go_wp2_with (go_at_call 155; refine ((SG _)).mono ?_; rintro e w1 ⟨rfl, hb1⟩; have B1 := B0.trans (hb1.mono B0.size))
          go_ret
          exact ⟨by rw [E2.out]; rfl, B1⟩
        | true =>
          cases lab with
          | true =>
            have E2 : Hid (res = 16) := by show _ = _; rw [E.out]; unfold natT; simp [ha, hi, hm, hs]
            clear E hTG
            have B0 := Below.refl w.heap.size w
            simp only [isA] at *
            go_enter Tryz.func123, Tryz.ntmps123
            go_wp2_with (go_at_call 153; refine ((SL _ B0)).mono ?_; clear SL; rintro e w1 ⟨rfl, hb1⟩; have B1 := B0.trans (hb1.mono B0.size))
            go_ret
            exact ⟨by rw [E2.out]; rfl, B1⟩
          | false =>
            cases he : tsay.toList.isEmpty with
            | false =>
              have E2 : Hid (res = 16) := by show _ = _; rw [E.out]; unfold natT; simp [ha, hi, hm, hs, he]
              clear E hTG
              have B0 := Below.refl w.heap.size w
              simp only [isA] at *
              go_enter Tryz.func123, Tryz.ntmps123
              go_wp2_with (first
                | (go_at_call 153; refine ((SL _ B0)).mono ?_; clear SL; rintro e w1 ⟨rfl, hb1⟩; have B1 := B0.trans (hb1.mono B0.size))
                | (go_at_call 43; refine ((ST _ B1)).mono ?_; clear ST; rintro e w2 ⟨rfl, hb2⟩; have B2 := B1.trans (hb2.mono B1.size)))
              go_ret
              exact ⟨by rw [E2.out]; rfl, B2⟩
            | true =>
              have E2 : Hid (res = tg) := by show _ = _; rw [E.out]; unfold natT; simp [ha, hi, hm, hs, he, hTG]
              clear E hTG
              have B0 := Below.refl w.heap.size w
              simp only [isA] at *
              go_enter Tryz.func123, Tryz.ntmps123
              go_wp2_with (first
                | (go_at_call 153; refine ((SL _ B0)).mono ?_; clear SL; rintro e w1 ⟨rfl, hb1⟩; have B1 := B0.trans (hb1.mono B0.size))
                | (go_at_call 43; refine ((ST _ B1)).mono ?_; clear ST; rintro e w2 ⟨rfl, hb2⟩; have B2 := B1.trans (hb2.mono B1.size))
                | (go_at_call 155; refine ((SG _)).mono ?_; rintro e w3 ⟨rfl, hb3⟩; have B3 := B2.trans (hb3.mono B2.size)))
              go_ret
              exact ⟨by rw [E2.out]; rfl, B3⟩

set_option maxHeartbeats 800000 in
theorem oalone_any {w : World} {b o c : Nat} {rs : List Raw} {d : Tn.Dc} (hc : Cx w b o c rs d) (n : Int) :
    Calls Tryz.prog 79 #[.slice (some ⟨b, o, none⟩) rs.length c, .int .i64 n] w fun e w' => e = .returned (.int .i64 (aloneD d n)) ∧ Below w.heap.size w w' := by
  have SI := dis_any hc.doc n true
  cases ht : Tn.isN d n true with
  | false =>
    have E : Hid (aloneD d n = 10) := alone_text ht
    rw [ht] at SI
    clear hc ht
    go_enter Tryz.func79, Tryz.ntmps79
    go_wp2_with (go_at_call 69; refine SI.mono ?_; rintro e w1 ⟨rfl, hw1⟩; subst hw1)
    go_ret
    exact ⟨by rw [E.out]; rfl, Below.refl _ _⟩
  | true =>
    obtain ⟨k, rfl, _, _⟩ := isN_nat (isN_true ht)
    have SW := owant_any hc (k : Int)
    have SN : ∀ W, Below w.heap.size w W → Calls Tryz.prog 123 #[.slice (some ⟨b, o, none⟩) rs.length c, .int .i64 (k : Int)] W fun e w' => e = .returned (.int .i64 (natD d (k : Int))) ∧ Below W.heap.size W w' := fun W hb => onat_any (hc.below hb) k ht
    have E : Hid (aloneD d (k : Int) = if 0 ≤ wantD d (k : Int) then wantD d (k : Int) else natD d (k : Int)) := by show _ = _; unfold aloneD; rw [ht]; rfl
    rw [ht] at SI
    clear hc ht
    generalize aloneD d (k : Int) = res at *
    generalize wantD d (k : Int) = wt at *
    generalize natD d (k : Int) = nt at *
    by_cases hw : 0 ≤ wt
    · have E2 : Hid (res = wt) := by show _ = _; rw [E.out, if_pos hw]
      clear E
      go_enter Tryz.func79, Tryz.ntmps79
      go_wp2_with (first
        | (go_at_call 69; refine SI.mono ?_; rintro e w1 ⟨rfl, hw1⟩; subst hw1)
        | (go_at_call 122; refine SW.mono ?_; rintro e w2 ⟨rfl, hb2⟩))
      go_ret
      exact ⟨by rw [E2.out]; rfl, hb2⟩
    · have E2 : Hid (res = nt) := by show _ = _; rw [E.out, if_neg hw]
      clear E
      go_enter Tryz.func79, Tryz.ntmps79
      go_wp2_with (first
        | (go_at_call 69; refine SI.mono ?_; rintro e w1 ⟨rfl, hw1⟩; subst hw1)
        | (go_at_call 122; refine SW.mono ?_; rintro e w2 ⟨rfl, hb2⟩)
        | (go_at_call 123; refine (SN _ hb2).mono ?_; rintro e w3 ⟨rfl, hb3⟩))
      go_ret
      exact ⟨by rw [E2.out]; rfl, hb2.trans (hb3.mono hb2.size)⟩
end Go.Proofs.YtbinbojicmhdlaeGreatDoor

/-
  THE WALK of the reference's first.
-/
namespace Go.Proofs.YtbinbojicmhdlaeGreatDoor
open Go.RowKit

end Go.Proofs.YtbinbojicmhdlaeGreatDoor

/-
  THE WALKS of role.lineage, and of role.Hidden.
-/
namespace Go.Proofs.YtbinbojicmhdlaeGreatDoor
open Go.RowKit

theorem lineF_len (d : Tn.Dc) : ∀ (f : Nat) (n : Int), (lineF f d n).length ≤ f
  | 0, _ => Nat.le_refl _
  | f + 1, n => by
    rw [lineF]
    split
    · have := lineF_len d f (upF d n)
      simp
      omega
    · simp
theorem line_len (d : Tn.Dc) (n : Int) : (lineD d n).length ≤ 64 := lineF_len d 64 n

set_option maxHeartbeats 1600000 in
theorem oline_any {w : World} {b o c : Nat} {rs : List Raw} {d : Tn.Dc} (hc : Cx w b o c rs d) (n : Int) :
    Calls Tryz.prog 77 #[.slice (some ⟨b, o, none⟩) rs.length c, .int .i64 n] w fun e w' => ∃ v, e = .returned v ∧ OwnI w' w.heap.size v (lineD d n) ∧ Below w.heap.size w w' := by
  have C : Hid (Cx w b o c rs d) := hc
  have hF := hc.fine
  have SU : Hid (∀ W m, Below w.heap.size w W → Calls Tryz.prog 116 #[.slice (some ⟨b, o, none⟩) rs.length c, .int .i64 m] W fun e w' => e = .returned (.int .i64 (upF d m)) ∧ Below W.heap.size W w') := fun W m hb => fup_any (hc.below hb).doc hc.fine.okd m
  have SI : Hid (∀ W m, Below w.heap.size w W → Calls Tryz.prog 69 #[.slice (some ⟨b, o, none⟩) rs.length c, .int .i64 m, .bool false] W fun e w' => e = .returned (.bool (Tn.isN d m false)) ∧ w' = W) := fun W m hb => dis_any (hc.below hb).doc m false
  clear hc
  go_enter Tryz.func77, Tryz.ntmps77
  go_wp2_with fail
  go_loopw [1, 5] (fun nv v wr => ∃ (m : Int) (l : List Nat), nv = .int .i64 m ∧ Hid (lineD d n = l ++ lineD d m) ∧ OwnI wr w.heap.size v l ∧ Below w.heap.size w wr) (fun _ v _ => 64 - slen v)
  case atStart => exact ⟨n, [], rfl, rfl, OwnI.nil _ _, Below.refl _ _⟩
  case round =>
    obtain ⟨m, l, rfl, P, hown, hnx⟩ := hrel
    have hbz := hnx.size
    obtain ⟨p, cc, rfl⟩ := hown.shape
    have hI := SI.out wr m hnx
    cases his : Tn.isN d m false with
    | false =>
      have E : Hid (lineD d n = l) := by show _ = _; rw [P.out, line_nil hF his, List.append_nil]
      rw [his] at hI
      go_wp2_with (go_at_call 69; refine hI.mono ?_; rintro e w' ⟨rfl, hww⟩; subst hww)
      go_ret
      exact ⟨_, rfl, by rw [E.out]; exact hown, hnx⟩
    | true =>
      obtain ⟨k, rfl, hk, hlv⟩ := isN_nat his
      have E : Hid (lineD d n = (l ++ [k]) ++ lineD d (upF d (k : Int))) := by show _ = _; rw [P.out, line_cons hF his]; simp
      have hlen : l.length + 1 ≤ 64 := by
        have h1 := line_len d n
        have h2 := congrArg List.length E.out
        simp at h2
        omega
      rw [his] at hI
      have SU2 := fun W hb => SU.out W (k : Int) hb
      clear P his
      generalize upF d (k : Int) = u at *
      go_wp2_with (first
        | (go_at_call 69; refine hI.mono ?_; rintro e w' ⟨rfl, hww⟩; subst hww)
        | (at_builtin; refine append_int1 rfl _ _ rfl k rfl rfl hown hnx hbz (by omega) ?_))
      intro v' w1 hown' hnx' hbz' _
      obtain ⟨p', cc', rfl⟩ := hown'.shape
      have hU := SU2 w1 hnx'
      go_wp2_with (go_at_call 116; refine hU.mono ?_; rintro e w2 ⟨rfl, hb2⟩)
      go_roundw
      case rel => exact ⟨u, l ++ [k], rfl, E, by simpa using hown'.below hb2 (Nat.le_refl _), hnx'.trans (hb2.mono hnx'.size)⟩
      case measure => simp [slen]; omega

set_option maxHeartbeats 800000 in
theorem ohid1_any {w : World} {b o c D : Nat} {rs : List Raw} {d : Tn.Dc} (hc : Cx w b o c rs d) (hD : w.cell? ⟨D, 0, none⟩ = some (.slice (some ⟨b, o, none⟩) rs.length c)) (n : Int) :
    Calls Tryz.prog 138 #[.int .i64 n, .pointer (some ⟨D, 0, none⟩)] w fun e w' => e = .returned (.bool (concD d n)) ∧ Below w.heap.size w w' := by
  have S := oconc_any hc.doc hc.fine.okd hc.vn n
  clear hc
  go_enter Tryz.func138, Tryz.ntmps138
  go_wp2_with (go_at_call 139; refine S.mono ?_; rintro e w1 ⟨rfl, hb1⟩)
  go_ret
  exact ⟨rfl, hb1⟩

def cl (d : Tn.Dc) (k : Nat) : Bool := concD d (k : Int)

set_option maxHeartbeats 1600000 in
theorem oidx_any {w : World} {b o c D : Nat} {rs : List Raw} {d : Tn.Dc} (hc : Cx w b o c rs d) (hD : w.cell? ⟨D, 0, none⟩ = some (.slice (some ⟨b, o, none⟩) rs.length c)) {vl : Value} {l : List Nat} (hl : IntsAt w vl l) :
    Calls Tryz.prog 105 #[vl, .func (.func 138) #[] #[.pointer (some ⟨D, 0, none⟩)]] w fun e w' => e = .returned (.int .i64 (idxI (cl d) l)) ∧ Below w.heap.size w w' := by
  obtain ⟨p, cc, rfl, h1, h2, _, hat⟩ := hl.at
  have T : Hid (∀ j (hj : j < l.length), ∃ b o, p = some ⟨b, o, none⟩ ∧ w.cell? ⟨b, o + j, none⟩ = some (.int .i64 (l[j] : Int))) := hat
  clear hat hl
  have HA : Hid (∀ W (k : Nat), Below w.heap.size w W → Calls Tryz.prog 138 #[.int .i64 (k : Int), .pointer (some ⟨D, 0, none⟩)] W fun e w' => e = .returned (.bool (cl d k)) ∧ Below W.heap.size W w') :=
    fun W k hb => ohid1_any (hc.below hb) (keeps_below hb (Nat.le_refl _) _ _ hD) (k : Int)
  clear hc hD
  go_enter Tryz.func105, Tryz.ntmps105
  go_wp2_with fail
  go_loopw [8] (fun i wr => ∃ j : Nat, j ≤ l.length ∧ i = .int .i64 j ∧ Hid (∀ k ∈ l.take j, cl d k = false) ∧ Below w.heap.size w wr) (fun i _ => l.length - (intOf i).toNat)
  case atStart => exact ⟨0, Nat.zero_le _, rfl, fun k hk => by simp at hk, Below.refl _ _⟩
  case round =>
    obtain ⟨j, hj, rfl, NO, hnx⟩ := hrel
    by_cases hlt : j < l.length
    · obtain ⟨e1, o1, rfl, k1⟩ := T.out j hlt
      have JR := keeps_below hnx (Nat.le_refl _)
      have y1 := JR _ _ k1
      clear k1
      have hF := HA.out wr l[j] hnx
      cases hh : cl d l[j] with
      | true =>
        have E : Hid (idxI (cl d) l = (j : Int)) := idxI_some hlt hh NO.out
        rw [hh] at hF
        clear hh
        generalize l[j] = x at *
        go_wp2_with (go_at_call 138; refine hF.mono ?_; rintro e w9 ⟨rfl, hb9⟩)
        go_ret
        exact ⟨by rw [E.out]; rfl, hnx.trans (hb9.mono hnx.size)⟩
      | false =>
        have N2 : Hid (∀ k ∈ l.take (j + 1), cl d k = false) := by
          intro k hk
          rw [List.take_succ_eq_append_getElem hlt, List.mem_append, List.mem_singleton] at hk
          rcases hk with hk | rfl
          · exact NO.out k hk
          · exact hh
        rw [hh] at hF
        clear hh
        generalize l[j] = x at *
        go_wp2_with (go_at_call 138; refine hF.mono ?_; rintro e w9 ⟨rfl, hb9⟩)
        go_roundw
        case rel => exact ⟨j + 1, by omega, by go_num, N2, hnx.trans (hb9.mono hnx.size)⟩
        case measure => simp [intOf]; omega
    · obtain rfl : j = l.length := by omega
      have E : Hid (idxI (cl d) l = -1) := idxI_none (fun k hk => NO.out k (by rw [List.take_length]; exact hk))
      go_wp2_with fail
      go_ret
      exact ⟨by rw [E.out]; rfl, hnx⟩

set_option maxHeartbeats 800000 in
theorem ocont_any {w : World} {b o c D : Nat} {rs : List Raw} {d : Tn.Dc} (hc : Cx w b o c rs d) (hD : w.cell? ⟨D, 0, none⟩ = some (.slice (some ⟨b, o, none⟩) rs.length c)) {vl : Value} {l : List Nat} (hl : IntsAt w vl l) :
    Calls Tryz.prog 137 #[vl, .func (.func 138) #[] #[.pointer (some ⟨D, 0, none⟩)]] w fun e w' => e = .returned (.bool (l.any (cl d))) ∧ Below w.heap.size w w' := by
  have hI := oidx_any hc hD hl
  obtain ⟨p, cc, rfl, _, _, _, _⟩ := hl.at
  clear hl hc hD
  rcases idx_cases2 (cl d) l with ⟨e1, e2⟩ | ⟨j, hj, e1, e2, _⟩
  · have E : Hid (l.any (cl d) = false) := by
      show _ = _
      rw [List.any_eq_false]
      intro x hx
      simp [e2 x hx]
    rw [e1] at hI
    clear e1 e2
    go_enter Tryz.func137, Tryz.ntmps137
    go_wp2_with (go_at_call 105; refine hI.mono ?_; rintro e w9 ⟨rfl, hb9⟩)
    go_ret
    exact ⟨by rw [E.out]; rfl, hb9⟩
  · have E : Hid (l.any (cl d) = true) := by
      show _ = _
      rw [List.any_eq_true]
      exact ⟨l[j], List.getElem_mem hj, e2⟩
    rw [e1] at hI
    clear e1 e2
    go_enter Tryz.func137, Tryz.ntmps137
    go_wp2_with (go_at_call 105; refine hI.mono ?_; rintro e w9 ⟨rfl, hb9⟩)
    go_ret
    exact ⟨by rw [E.out]; simp, hb9⟩
end Go.Proofs.YtbinbojicmhdlaeGreatDoor

/-
  THE WALK of role.Hidden.
-/
namespace Go.Proofs.YtbinbojicmhdlaeGreatDoor
open Go.RowKit

set_option maxHeartbeats 1600000 in
theorem ohid_any {w : World} {b o c : Nat} {rs : List Raw} {d : Tn.Dc} (hc : Cx w b o c rs d) (n : Int) :
    Calls Tryz.prog 107 #[.slice (some ⟨b, o, none⟩) rs.length c, .int .i64 n] w fun e w' => e = .returned (.bool (hidD d n)) ∧ Below w.heap.size w w' := by
  have BA : Below w.heap.size w (w.alloc (.cells #[.slice (some ⟨b, o, none⟩) rs.length c] 24)) := (Below.refl _ w).alloc (Nat.le_refl _) _
  have gD : (w.alloc (.cells #[.slice (some ⟨b, o, none⟩) rs.length c] 24)).cell? ⟨w.heap.size, 0, none⟩ = some (.slice (some ⟨b, o, none⟩) rs.length c) := by rw [World.cell?_alloc_new]; rfl
  have SL := oline_any (hc.below BA) n
  have SC : Hid (∀ W (p : Option Addr) (k cc : Nat) (l : List Nat), Below (w.alloc (.cells #[.slice (some ⟨b, o, none⟩) rs.length c] 24)).heap.size (w.alloc (.cells #[.slice (some ⟨b, o, none⟩) rs.length c] 24)) W → IntsAt W (.slice p k cc) l →
      Calls Tryz.prog 137 #[.slice p k cc, .func (.func 138) #[] #[.pointer (some ⟨w.heap.size, 0, none⟩)]] W fun e w' => e = .returned (.bool (l.any (cl d))) ∧ Below W.heap.size W w') :=
    fun W p k cc l hb hi => ocont_any (hc.below (BA.trans (hb.mono (by simp)))) (keeps_below hb (Nat.le_refl _) _ _ gD) hi
  have E : Hid (hidD d n = hidL d (lineD d n)) := rfl
  have hll := line_len d n
  clear hc
  generalize hidD d n = res at *
  generalize lineD d n = l at *
  by_cases h0 : l = []
  · subst h0
    have E2 : Hid (res = true) := E.out
    clear E SC
    go_enter Tryz.func107, Tryz.ntmps107
    go_wp2_with (go_at_call 77; refine SL.mono ?_; rintro e w1 ⟨v1, rfl, ho1, hb1⟩; obtain ⟨p1, c1, rfl⟩ := ho1.shape)
    go_ret
    exact ⟨by rw [E2.out]; rfl, BA.trans (hb1.mono BA.size)⟩
  · have hpos : 0 < l.length := List.length_pos_iff.mpr h0
    have hE : hidL d l = (decide (l[l.length - 1]'(by omega) ≠ 0) || l.any (cl d)) := by
      unfold hidL
      rw [List.getLast?_eq_getElem?, List.getElem?_eq_getElem (by omega)]
      cases l with
      | nil => exact absurd rfl h0
      | cons a r => rfl
    by_cases hz : l[l.length - 1]'(by omega) = 0
    · have E2 : Hid (res = l.any (cl d)) := by show _ = _; rw [E.out, hE, hz]; rfl
      clear E hE
      go_enter Tryz.func107, Tryz.ntmps107
      go_wp2_with (first
        | (go_at_call 77; refine SL.mono ?_; rintro e w1 ⟨v1, rfl, ho1, hb1⟩; obtain ⟨p1, c1, rfl, z1, z2, _, hat⟩ := (ints_of_owns ho1).at; obtain ⟨b1, o1, rfl, k0⟩ := hat (l.length - 1) (by omega); rw [hz] at k0; clear hat; have hS := SC.out w1 _ _ _ _ hb1 (ints_of_owns ho1))
        | (go_at_call 137; refine hS.mono ?_; rintro e w2 ⟨rfl, hb2⟩))
      go_ret
      exact ⟨by rw [E2.out]; rfl, (BA.trans (hb1.mono BA.size)).trans (hb2.mono (Nat.le_trans BA.size hb1.size))⟩
    · have E2 : Hid (res = true) := by show _ = _; rw [E.out, hE]; simp [hz]
      obtain ⟨z, hzz⟩ : ∃ z, l[l.length - 1]'(by omega) = z := ⟨_, rfl⟩
      have hzb : ((z : Int) != 0) = true := by rw [hzz] at hz; simp; omega
      have hl0 : ((l.length : Int) == 0) = false := by simp; omega
      clear E hE SC hz
      go_enter Tryz.func107, Tryz.ntmps107
      go_wp2_with (go_at_call 77; refine SL.mono ?_; rintro e w1 ⟨v1, rfl, ho1, hb1⟩; obtain ⟨p1, c1, rfl, z1, z2, _, hat⟩ := (ints_of_owns ho1).at; obtain ⟨b1, o1, rfl, k0⟩ := hat (l.length - 1) (by omega); rw [hzz] at k0; clear hat hzz)
      go_ret
      exact ⟨by rw [E2.out]; rfl, BA.trans (hb1.mono BA.size)⟩
end Go.Proofs.YtbinbojicmhdlaeGreatDoor

/-
  THE WALKS of slices.Backward over ints, and of role.Of.
-/
namespace Go.Proofs.YtbinbojicmhdlaeGreatDoor
open Go.RowKit Go.Shelf

attribute [local go_sem] Oper.semAt_some

/-- what has come when k rounds are over: the last ones, from behind -/
def backL (zs : List Nat) (k : Nat) : List (Nat × Nat) := (List.range k).map fun j => (zs.length - 1 - j, zs[zs.length - 1 - j]?.getD 0)
theorem backL_succ (zs : List Nat) (k : Nat) : backL zs (k + 1) = backL zs k ++ [(zs.length - 1 - k, zs[zs.length - 1 - k]?.getD 0)] := by simp [backL, List.range_succ]
theorem backL_length (zs : List Nat) (k : Nat) : (backL zs k).length = k := by simp [backL]

/-- the cells of some blocks are as they were -/
def KpB (S : Nat → Prop) (A B : World) : Prop := ∀ p v, S p.block → A.cell? p = some v → B.cell? p = some v
theorem KpB.refl (S : Nat → Prop) (A : World) : KpB S A A := fun _ _ _ h => h
theorem KpB.trans {S : Nat → Prop} {A B C : World} (h : KpB S A B) (k : KpB S B C) : KpB S A C := fun p v hs x => k p v hs (h p v hs x)
theorem KpB.below {S : Nat → Prop} {A B : World} (h : Below A.heap.size A B) : KpB S A B := fun _ _ _ x => keeps_below h (Nat.le_refl _) _ _ x
theorem KpB.put {S : Nat → Prop} (W : World) (l : Nat) (o o' : Obj) (ho : W.heap[l]? = some o) (hc : o.isCells = false) : KpB S W (W.putObj l o') :=
  fun _ _ _ h => cell_kept h (grownBy_putObj' W l o') (fun r e => by cases e; exact ⟨_, ho, hc⟩)

set_option maxRecDepth 100000 in
set_option maxHeartbeats 2000000 in
theorem back1_in (F : Fence) (n : Nat) (h7 : F.fn 121) (hro : F.round = none) (hn : 1 ≤ n) (l Bs b off cap : Nat) (S : Nat → Prop) (zs : List Nat) (hreach : zs.length ≤ 1000) (hb : S b) (hBn : S Bs) (J Jx : List (Nat × Nat) → World → Prop)
    (hY : ∀ pre x W, J pre W → pre.length < zs.length → YieldAt F (n - 1) Tryz.prog l #[.int .i64 (x.1 : Int), .int .i64 (x.2 : Int)] W fun e W' =>
      (e = .returned (.bool true) ∧ J (pre ++ [x]) W' ∧ KpB S W W') ∨ (e = .returned (.bool false) ∧ Jx (pre ++ [x]) W'))
    (W : World) (hBs : W.cell? ⟨Bs, 0, none⟩ = some (.slice (some ⟨b, off, none⟩) zs.length cap)) (hc : ∀ j (h : j < zs.length), W.cell? ⟨b, off + j, none⟩ = some (.int .i64 (zs[j] : Int))) (h0 : J [] W) :
    CallsIn F n Tryz.prog 121 #[.func (.yield l) #[] #[], .pointer (some ⟨Bs, 0, none⟩)] W fun e W' => (∃ v, e = .returned v) ∧
      ((∃ ys, ys = backL zs zs.length ∧ J ys W') ∨ (∃ pre, (∃ k, k ≤ zs.length ∧ pre = backL zs k) ∧ Jx pre W')) := by
  refine callsIn_of_wp Tryz.func121 rfl h7 ?_ hro
  simp only [Tryz.ntmps121, List.size_toArray, List.length_cons, List.length_nil, Nat.reduceAdd, Nat.reduceSub, Array.replicate_succ, Array.replicate_zero, List.push_toArray, List.append_toArray, List.nil_append, List.cons_append]
  gi_wp2
  gi_loopw [3] (fun i wr => ∃ k : Nat, k ≤ zs.length ∧ i = .int .i64 ((zs.length : Int) - 1 - (k : Int)) ∧ J (backL zs k) wr ∧ KpB S W wr)
    (fun i _ => (intOf i + 1).toNat)
  case atStart => exact ⟨0, Nat.zero_le _, by simp, h0, KpB.refl _ _⟩
  case round =>
    obtain ⟨k, hk, rfl, hJs, hnx⟩ := hrel
    have hBs' := hnx ⟨Bs, 0, none⟩ _ hBn hBs
    by_cases hlt : k < zs.length
    · obtain ⟨m, hm⟩ : ∃ m : Nat, m + 1 + k = zs.length := ⟨zs.length - 1 - k, by omega⟩
      have hml : m < zs.length := by omega
      have hi : ((zs.length : Int) - 1 - (k : Int)) = (m : Int) := by omega
      have hcx : wr.cell? ⟨b, off + m, none⟩ = some (.int .i64 (zs[m] : Int)) := hnx ⟨b, off + m, none⟩ _ hb (hc m hml)
      have hS : Hid (backL zs (k + 1) = backL zs k ++ [(m, zs[m])]) := by
        show _ = _
        rw [backL_succ, show zs.length - 1 - k = m by omega, List.getElem?_eq_getElem hml]
        rfl
      obtain ⟨fn, tmps, assign, body, hy, hR⟩ := hY _ (m, zs[m]) wr hJs (by rw [backL_length]; exact hlt)
      dsimp only at hy
      rw [hi]
      have HM : Hid ((zs.length : Int) - 1 - ((k + 1 : Nat) : Int) = (m : Int) - 1) := by show _ = _; omega
      generalize zs[m] = z at *
      have hml2 : (m : Int) < (zs.length : Int) := by omega
      clear hi hm hY hc hBs
      gi_wp2
      refine hR.mono ?_
      rintro e W3 (⟨rfl, hJ3, hk3⟩ | ⟨rfl, hJx3⟩)
      · gi_wp2
        go_roundw
        case rel => exact ⟨k + 1, by omega, by rw [HM.out], by rw [hS.out]; exact hJ3, hnx.trans hk3⟩
        case measure => simp [intOf]
      · gi_wp2
        refine bodyPost_ret (results_none rfl _ _ _) rfl ?_
        exact ⟨⟨_, rfl⟩, .inr ⟨_, ⟨k + 1, by omega, hS.out.symm⟩, hJx3⟩⟩
    · obtain rfl : k = zs.length := by omega
      rw [show ((zs.length : Int) - 1 - (zs.length : Int)) = -1 by omega]
      gi_wp2
      go_end0
      exact ⟨⟨_, rfl⟩, .inl ⟨_, rfl, hJs⟩⟩

set_option maxRecDepth 100000 in
set_option maxHeartbeats 1000000 in
theorem back1_nil_in (F : Fence) (n : Nat) (h7 : F.fn 121) (hro : F.round = none) (l Bs : Nat) (J : List (Nat × Nat) → World → Prop) (W : World) (hBs : W.cell? ⟨Bs, 0, none⟩ = some (.slice none 0 0)) (h0 : J [] W) :
    CallsIn F n Tryz.prog 121 #[.func (.yield l) #[] #[], .pointer (some ⟨Bs, 0, none⟩)] W fun e W' => (∃ v, e = .returned v) ∧ J [] W' := by
  refine callsIn_of_wp Tryz.func121 rfl h7 ?_ hro
  simp only [Tryz.ntmps121, List.size_toArray, List.length_cons, List.length_nil, Nat.reduceAdd, Nat.reduceSub, Array.replicate_succ, Array.replicate_zero, List.push_toArray, List.append_toArray, List.nil_append, List.cons_append]
  gi_wp2
  gi_loopw [3] (fun i wr => i = .int .i64 (-1) ∧ J [] wr) (fun _ _ => 0)
  case atStart => exact ⟨rfl, h0⟩
  case round =>
    obtain ⟨rfl, hJs⟩ := hrel
    gi_wp2
    go_end0
    exact ⟨⟨_, rfl⟩, hJs⟩

set_option maxHeartbeats 1000000 in
theorem back_in (F : Fence) (n : Nat) (h5 : F.fn 76) (hro : F.round = none) (a : Option Addr) (len cap : Nat) (w : World) :
    CallsIn F n Tryz.prog 76 #[.slice a len cap] w fun e w' => e = .returned (.func (.func 121) #[] #[.pointer (some ⟨w.heap.size, 0, none⟩)]) ∧ w' = w.alloc (.cells #[.slice a len cap] 33) := by
  refine callsIn_of_wp Tryz.func76 rfl h5 ?_ hro
  simp only [Tryz.ntmps76, List.size_toArray, List.length_cons, List.length_nil, Nat.reduceAdd, Nat.reduceSub, Array.replicate_succ, Array.replicate_zero, List.push_toArray, List.append_toArray, List.nil_append, List.cons_append]
  gi_wp2
  go_ret
  exact ⟨rfl, rfl⟩

theorem back_stops (F : Fence) (n : Nat) (h7 : F.fn 121) (hro : F.round = none) (hn : 1 ≤ n) (Bs : Nat) (S : Nat → Prop) (p : Option Addr) (cc : Nat) (zs : List Nat) (hreach : zs.length ≤ 1000) (w : World) (hBs : S Bs) (hSb : ∀ a, p = some a → S a.block)
    (hc : w.cell? ⟨Bs, 0, none⟩ = some (.slice p zs.length cc)) (hI : IntsAt w (.slice p zs.length cc) zs) :
    SeqStopsK F n Tryz.prog 121 #[.pointer (some ⟨Bs, 0, none⟩)] (fun x : Nat × Nat => #[Value.int .i64 (x.1 : Int), Value.int .i64 (x.2 : Int)]) (KpB S) (fun ys => ys = backL zs zs.length) (fun _ => True) zs.length w := fun l J Jx W hW _ _ hY h0 => by
  have hc' := keeps_below hW (Nat.le_refl _) _ _ hc
  obtain ⟨p', cc', e, h1, h2, h3, hat⟩ := (hI.keeps (keeps_below hW (Nat.le_refl _))).at
  cases e
  cases p with
  | none =>
    have hz : zs = [] := by
      rcases h3 with ⟨_, h3⟩ | ⟨_, _, h3⟩
      · exact List.length_eq_zero_iff.mp (by omega)
      · cases h3
    have hcc : cc = 0 := by
      rcases h3 with ⟨_, h3⟩ | ⟨_, _, h3⟩
      · exact h3
      · cases h3
    subst hz hcc
    exact (back1_nil_in F n h7 hro l Bs J W hc' h0).mono fun e W' ⟨he, hj⟩ => ⟨he, .inl ⟨_, rfl, hj⟩⟩
  | some a =>
    obtain ⟨b, off, hba⟩ : ∃ b off, a = ⟨b, off, none⟩ := by
      rcases h3 with ⟨h3, _⟩ | ⟨b, off, h3⟩
      · cases h3
      · cases h3; exact ⟨b, off, rfl⟩
    subst hba
    refine (back1_in F n h7 hro hn l Bs b off cc S zs hreach (hSb _ rfl) hBs J Jx hY W hc' (fun j hj => by obtain ⟨b', o', e1, e2⟩ := hat j hj; cases e1; exact e2) h0).mono ?_
    rintro e W' ⟨he, ⟨ys, rfl, hj⟩ | ⟨pre, _, hj⟩⟩
    · exact ⟨he, .inl ⟨_, rfl, hj⟩⟩
    · exact ⟨he, .inr ⟨_, trivial, hj⟩⟩

/-- the roles of what has come -/
def roleS (d : Tn.Dc) (s : Int × Int) (k : Nat) : Int × Int := (fitD (aloneD d (k : Int)) s.2, keepA (fitD (aloneD d (k : Int)) s.2) s.2)
def roleP (d : Tn.Dc) (pre : List (Nat × Nat)) : Int × Int := pre.foldl (fun s x => roleS d s x.2) (0, 0)
theorem roleP_snoc (d : Tn.Dc) (pre : List (Nat × Nat)) (x : Nat × Nat) : roleP d (pre ++ [x]) = roleS d (roleP d pre) x.2 := by simp [roleP]
theorem roleL_foldr (d : Tn.Dc) : ∀ l, roleL d l = l.foldr (fun k s => roleS d s k) (0, 0)
  | [] => rfl
  | k :: ks => by rw [roleL, List.foldr_cons, ← roleL_foldr d ks]; rfl
theorem back_snd (zs : List Nat) : (backL zs zs.length).map (·.2) = zs.reverse := by
  apply List.ext_getElem
  · simp [backL]
  · intro i h1 h2
    have hi : i < zs.length := by simpa [backL] using h1
    have : zs.length - 1 - i < zs.length := by omega
    simp [backL, this]
theorem roleP_all (d : Tn.Dc) (zs : List Nat) : roleP d (backL zs zs.length) = roleL d zs := by
  rw [roleL_foldr, ← List.foldl_reverse, ← back_snd, List.foldl_map]
  rfl
end Go.Proofs.YtbinbojicmhdlaeGreatDoor

/-
  THE WALK of role.Of.
-/
namespace Go.Proofs.YtbinbojicmhdlaeGreatDoor
open Go.RowKit Go.Shelf

attribute [local go_sem] Oper.semAt_some

theorem keepsOthers_below {A B : World} (h : Below A.heap.size A B) : KeepsOthers A B :=
  ⟨h.size, fun k _ hk _ => (h.block k (Array.getElem?_eq_some_iff.1 hk).1).trans hk⟩

/-- a box of the call's own -/
def Bx (W : World) (C : Nat) (v : Value) : Prop := W.cell? ⟨C, 0, none⟩ = some v ∧ W.frozen? ⟨C, 0, none⟩ = false
theorem Bx.below {w w' : World} {C : Nat} {v : Value} (h : Bx w C v) (hb : Below w.heap.size w w') : Bx w' C v := bx_old hb h.1 h.2
theorem Bx.alloc {w : World} {C : Nat} {v : Value} (h : Bx w C v) (o : Obj) : Bx (w.alloc o) C v := h.below ((Below.refl _ w).alloc (Nat.le_refl _) o)
theorem Bx.new (w : World) (v : Value) (t : Nat) : Bx (w.alloc (.cells #[v] t)) w.heap.size v := ⟨cell_box _ _, box_frozen _ _ _ _⟩
theorem Bx.kept {W W' : World} {C : Nat} {v : Value} (h : Bx W C v) {row : Option Nat} (hg : W.grownBy W' row) (hr : ∀ r, row = some r → ∃ o : Obj, W.heap[r]? = some o ∧ o.isCells = false) : Bx W' C v := ⟨cell_kept h.1 hg hr, (frozen_kept h.1 hg hr).trans h.2⟩
theorem Bx.set {W : World} {C : Nat} {v : Value} (h : Bx W C v) (u : Value) : Bx (W.setCell ⟨C, 0, none⟩ u) C u := ⟨World.cell?_setCell_same _ _ _ h.1, by rw [World.frozen?_setCell]; exact h.2⟩
theorem Bx.other {W : World} {C K : Nat} {v : Value} (h : Bx W C v) (ne : K ≠ C) (u : Value) : Bx (W.setCell ⟨K, 0, none⟩ u) C v := ⟨by rw [World.cell?_setCell_other _ _ _ _ (by intro e; exact ne (congrArg Addr.block e))]; exact h.1, by rw [World.frozen?_setCell]; exact h.2⟩

theorem KpB.set {S : Nat → Prop} {C : Nat} (hne : ∀ g, S g → g ≠ C) (W : World) (v : Value) : KpB S W (W.setCell ⟨C, 0, none⟩ v) :=
  fun p _ hs h => by rw [World.cell?_setCell_other _ _ _ _ (by intro e; exact hne _ hs (congrArg Addr.block e).symm)]; exact h
theorem KpB.drew (S : Nat → Prop) (W : World) : KpB S W W.drew := fun _ _ _ h => h

set_option maxRecDepth 100000 in
set_option maxHeartbeats 4000000 in
theorem oof_any {w : World} {b o c : Nat} {rs : List Raw} {d : Tn.Dc} (hc : Cx w b o c rs d) (n : Int) :
    Calls Tryz.prog 40 #[.slice (some ⟨b, o, none⟩) rs.length c, .int .i64 n] w fun e w' => e = .returned (.int .i64 (roleD d n)) ∧ Below w.heap.size w w' := by
  have SL : Hid (∀ W, Below w.heap.size w W → Calls Tryz.prog 77 #[.slice (some ⟨b, o, none⟩) rs.length c, .int .i64 n] W fun e w' => ∃ v, e = .returned v ∧ OwnI w' W.heap.size v (lineD d n) ∧ Below W.heap.size W w') := fun W hb => oline_any (hc.below hb) n
  have SA : Hid (∀ W (k : Nat), Below w.heap.size w W → Calls Tryz.prog 79 #[.slice (some ⟨b, o, none⟩) rs.length c, .int .i64 (k : Int)] W fun e w' => e = .returned (.int .i64 (aloneD d (k : Int))) ∧ Below W.heap.size W w') := fun W k hb => oalone_any (hc.below hb) k
  have SF : Hid (∀ W r a, Below w.heap.size w W → Calls Tryz.prog 78 #[.int .i64 r, .int .i64 a] W fun e w' => e = .returned (.int .i64 (fitD r a)) ∧ Below W.heap.size W w') := fun W r a hb => ofit_any (hc.below hb).tab r a
  have E : Hid (roleD d n = (roleP d (backL (lineD d n) (lineD d n).length)).1) := by show _ = _; rw [roleP_all]; rfl
  have hll := line_len d n
  clear hc
  generalize roleD d n = res at *
  generalize lineD d n = zs at *
  refine (callsIn_wide (n := 3)).1 ?_
  refine callsIn_of_wp_marks Tryz.func40 rfl trivial ?_ rfl
  simp only [Tryz.ntmps40, List.size_toArray, List.length_cons, List.length_nil, Nat.reduceAdd, Nat.reduceSub, Array.replicate_succ, Array.replicate_zero, List.push_toArray, List.append_toArray, List.nil_append, List.cons_append]
  have BA : Below w.heap.size w (((w.alloc (.cells #[.slice (some ⟨b, o, none⟩) rs.length c] 24)).alloc (.cells #[.int .i64 0] 3)).alloc (.cells #[.int .i64 0] 3)) :=
    (((Below.refl _ w).alloc (Nat.le_refl _) _).alloc (by simp) _).alloc (by simp; omega) _
  have x0 : Bx (((w.alloc (.cells #[.slice (some ⟨b, o, none⟩) rs.length c] 24)).alloc (.cells #[.int .i64 0] 3)).alloc (.cells #[.int .i64 0] 3)) w.heap.size (.slice (some ⟨b, o, none⟩) rs.length c) := ((Bx.new w _ _).alloc _).alloc _
  have x1 : Bx (((w.alloc (.cells #[.slice (some ⟨b, o, none⟩) rs.length c] 24)).alloc (.cells #[.int .i64 0] 3)).alloc (.cells #[.int .i64 0] 3)) (w.heap.size + 1) (.int .i64 0) := by
    have := (Bx.new (w.alloc (.cells #[.slice (some ⟨b, o, none⟩) rs.length c] 24)) (.int .i64 0) 3).alloc (.cells #[.int .i64 0] 3)
    rwa [World.size_alloc] at this
  have x2 : Bx (((w.alloc (.cells #[.slice (some ⟨b, o, none⟩) rs.length c] 24)).alloc (.cells #[.int .i64 0] 3)).alloc (.cells #[.int .i64 0] 3)) (w.heap.size + 1 + 1) (.int .i64 0) := by
    have := Bx.new ((w.alloc (.cells #[.slice (some ⟨b, o, none⟩) rs.length c] 24)).alloc (.cells #[.int .i64 0] 3)) (.int .i64 0) 3
    rwa [World.size_alloc, World.size_alloc] at this
  gi_wp2_with (first
    | (refine ⟨trivial, ?_⟩; gi_at_call 77; refine (callsIn_wide.2 (SL.out _ BA)).mono ?_; rintro e w1 ⟨v1, rfl, ho1, hb1⟩; obtain ⟨p1, cc1, rfl⟩ := ho1.shape)
    | (refine ⟨trivial, ?_⟩; gi_at_call 76; refine (back_in Fence.wide _ trivial rfl _ _ _ _).mono ?_; rintro e w2 ⟨rfl, rfl⟩))
  have hz3 : (((w.alloc (.cells #[.slice (some ⟨b, o, none⟩) rs.length c] 24)).alloc (.cells #[.int .i64 0] 3)).alloc (.cells #[.int .i64 0] 3)).heap.size = w.heap.size + 3 := by simp
  generalize ((w.alloc (.cells #[.slice (some ⟨b, o, none⟩) rs.length c] 24)).alloc (.cells #[.int .i64 0] 3)).alloc (.cells #[.int .i64 0] 3) = W3 at *
  have y0 := x0.below hb1
  have y1 := x1.below hb1
  have y2 := x2.below hb1
  have BB : Below w.heap.size w w1 := BA.trans (hb1.mono BA.size)
  have hz1 := hb1.size
  have BC : Below w.heap.size w (w1.alloc (.cells #[.slice p1 zs.length cc1] 33)) := BB.alloc BB.size _
  have hIn : IntsAt (w1.alloc (.cells #[.slice p1 zs.length cc1] 33)) (.slice p1 zs.length cc1) zs := (ints_of_owns ho1).keeps (keeps_alloc _ _)
  have hSb : ∀ a : Addr, p1 = some a → w.heap.size + 1 + 1 < a.block := fun a ha => by
    have := (ho1.lt a.block (by rw [ha]; rfl)).1
    omega
  refine wpIn_rangeFunc_ownF rfl (by omega) (gf := 121) (lb := #[.pointer (some ⟨w1.heap.size, 0, none⟩)]) rfl trivial (enters_of Tryz.func121 (by kernel_rfl) rfl)
    (back_stops Fence.wide (3 - 1) trivial rfl (by omega) w1.heap.size (fun g => w.heap.size + 1 + 1 < g) p1 cc1 zs (by omega) _ (by omega) hSb (cell_box _ _) hIn) (fun h k => KpB.trans h k) (fun W l o o' _ ho hc _ => KpB.put W l o o' ho hc) (Below.refl _ _) (fun _ => rfl)
    (fun pre W => (Bx W w.heap.size (.slice (some ⟨b, o, none⟩) rs.length c) ∧ Bx W (w.heap.size + 1) (.int .i64 (roleP d pre).1) ∧ Bx W (w.heap.size + 1 + 1) (.int .i64 (roleP d pre).2)) ∧ Below w.heap.size w W)
    (fun _ _ _ => False)
    (OwnFrom.and (Own.from (fun s A B row hs hg hr => ⟨hs.1.kept hg hr, hs.2.1.kept hg hr, hs.2.2.kept hg hr⟩) _) (ownFrom_below (Nat.le_refl _) (by simp; omega)))
    (fun _ _ _ _ _ hs _ _ => hs)
    ⟨⟨y0.alloc _, y1.alloc _, y2.alloc _⟩, BC⟩
    (fun x => { tmps := #[.slice (some ⟨b, o, none⟩) rs.length c, .int .i64 n, .pointer (some ⟨w.heap.size, 0, none⟩), undef, .int .i64 0, .pointer (some ⟨w.heap.size + 1, 0, none⟩), .pointer (some ⟨w.heap.size + 1 + 1, 0, none⟩), undef, .int .i64 (x.2 : Int), .slice (some ⟨b, o, none⟩) rs.length c, .int .i64 n, .slice p1 zs.length cc1, .func (.func 121) #[] #[.pointer (some ⟨w1.heap.size, 0, none⟩)], .int .i64 (x.1 : Int), .int .i64 (x.2 : Int), undef, undef, undef, undef, undef, undef, undef, undef, undef, undef, undef, undef, undef], defers := [] }) ?assign ?body ?done ?stop
  case assign =>
    intro l x W K hK
    gi_wp2
    exact hK
  case body =>
    rintro l pre x W ⟨⟨hx0, hx1, hx2⟩, hB⟩ _
    have hmx : Tryz.prog.follows .mixedOrders = true := by kernel_rfl
    obtain ⟨e0, f0⟩ := hx0
    obtain ⟨e1, f1⟩ := hx1
    obtain ⟨e2, f2⟩ := hx2
    have SA2 := SA.out
    have SF2 := SF.out
    clear SA SF SL
    gi_wp2
    gi_region_with_o (first
      | (refine ⟨trivial, ?_⟩; gi_at_call 79; refine (CallsIn.inRound l (callsIn_wide.2 (SA2 _ x.2 (by first | exact hB | exact hB.drew)))).mono ?_; rintro e w5 ⟨rfl, hb5⟩; have g1 := bx_old hb5 e1 f1; have g2 := bx_old hb5 e2 f2; obtain ⟨g1, k1⟩ := g1; obtain ⟨g2, k2⟩ := g2; have hB5 := hB.drew.trans (hb5.mono hB.drew.size))
      | (refine ⟨trivial, ?_⟩; gi_at_call 78; refine (CallsIn.inRound l (callsIn_wide.2 (SF2 _ _ _ hB5))).mono ?_; rintro e w6 ⟨rfl, hb6⟩; have m1 := bx_old hb6 g1 k1; obtain ⟨m1, n1⟩ := m1; have m2 := bx_old hb6 g2 k2; obtain ⟨m2, n2⟩ := m2))
    all_goals
      have XD : Bx w6 w.heap.size (.slice (some ⟨b, o, none⟩) rs.length c) := Bx.below (Bx.below (w := W.drew) ⟨e0, f0⟩ hb5) hb6
      have D7 := XD.other (K := w.heap.size + 1) (by omega) (.int .i64 (fitD (aloneD d (x.2 : Int)) (roleP d pre).2))
      have R7 := Bx.set (W := w6) ⟨m1, n1⟩ (.int .i64 (fitD (aloneD d (x.2 : Int)) (roleP d pre).2))
      have A7 := Bx.other (W := w6) (K := w.heap.size + 1) ⟨m2, n2⟩ (by omega) (.int .i64 (fitD (aloneD d (x.2 : Int)) (roleP d pre).2))
      have B6 : Below w.heap.size w w6 := hB5.trans (hb6.mono hB5.size)
      have B7 := B6.setCell (p := ⟨w.heap.size + 1, 0, none⟩) (by simp) (.int .i64 (fitD (aloneD d (x.2 : Int)) (roleP d pre).2))
      have K7 := (((KeepsOthers.drew W).trans (keepsOthers_below hb5)).trans (keepsOthers_below hb6)).trans (KeepsOthers.setCell w6 ⟨w.heap.size + 1, 0, none⟩ (.int .i64 (fitD (aloneD d (x.2 : Int)) (roleP d pre).2)))
      have P7 := (((KpB.drew (fun g => w.heap.size + 1 + 1 < g) W).trans (KpB.below hb5)).trans (KpB.below hb6)).trans (KpB.set (C := w.heap.size + 1) (fun g hg => by omega) w6 (.int .i64 (fitD (aloneD d (x.2 : Int)) (roleP d pre).2)))
      have T1 : Hid ((roleP d (pre ++ [x])).1 = fitD (aloneD d (x.2 : Int)) (roleP d pre).2) := by show _ = _; rw [roleP_snoc]; rfl
      have T2 : Hid ((roleP d (pre ++ [x])).2 = keepA (fitD (aloneD d (x.2 : Int)) (roleP d pre).2) (roleP d pre).2) := by show _ = _; rw [roleP_snoc]; rfl
      clear XD m1 n1 m2 n2 g1 k1 g2 k2 e0 f0 e1 f1 e2 f2 hb5 hb6 hB5 B6
      generalize fitD (aloneD d (x.2 : Int)) (roleP d pre).2 = r at *
      generalize (roleP d pre).2 = a at *
      generalize (w6.setCell ⟨w.heap.size + 1, 0, none⟩ (.int .i64 r)) = w7 at *
      have r7 := R7.1
      have a7 := A7.1
      have z7 := A7.2
      by_cases h0 : r = 0
      · have T3 : Hid ((roleP d (pre ++ [x])).2 = a) := by show _ = _; rw [T2.out, h0]; rfl
        have hq : (r != 0) = false := by simp [h0]
        clear h0 T2
        gi_wp2
        exact ⟨K7, P7, ⟨D7, by rw [T1.out]; exact R7, by rw [T3.out]; exact A7⟩, B7⟩
      · have hq : (r != 0) = true := by simp [h0]
        by_cases h1 : r = 18
        · have T3 : Hid ((roleP d (pre ++ [x])).2 = a) := by show _ = _; rw [T2.out, h1]; rfl
          have hq2 : (r != 18) = false := by simp [h1]
          clear h0 h1 T2
          gi_wp2
          exact ⟨K7, P7, ⟨D7, by rw [T1.out]; exact R7, by rw [T3.out]; exact A7⟩, B7⟩
        · have T3 : Hid ((roleP d (pre ++ [x])).2 = r) := by show _ = _; rw [T2.out]; unfold keepA; rw [if_pos ⟨h0, h1⟩]
          have hq2 : (r != 18) = true := by simp [h1]
          clear h0 h1 T2
          gi_wp2
          exact ⟨K7.trans (KeepsOthers.setCell _ _ _), P7.trans (KpB.set (fun g hg => by omega) _ _), ⟨D7.other (by omega) _, by rw [T1.out]; exact R7.other (by omega) _, by rw [T3.out]; exact A7.set _⟩, B7.setCell (p := ⟨w.heap.size + 1 + 1, 0, none⟩) (by simp; omega) _⟩
  case done =>
    rintro D ys W hD rfl ⟨⟨_, hx1, _⟩, hB⟩ hK
    have e1 := hx1.1
    have E2 := E.out
    generalize (roleP d (backL zs zs.length)).1 = rr at *
    gi_wp2
    refine ⟨by simp, .inl ⟨_, _, rfl, run_takeDeferred hK, ?_⟩⟩
    exact ⟨_, results_tmp rfl _ _ _, by rw [E2]; rfl, hB.trans (belowK_b (w := w) (Nat.le_refl _) W D _ _ (by simp at hD; omega) hK rfl rfl)⟩
  case stop =>
    rintro D c pre W _ _ h _
    exact h.elim
end Go.Proofs.YtbinbojicmhdlaeGreatDoor

/-
  THE WALK of the reference's Role.
-/
namespace Go.Proofs.YtbinbojicmhdlaeGreatDoor
open Go.RowKit

theorem isN_el {d : Tn.Dc} {k : Nat} (h : Tn.isN d (k : Int) false = true) : Tn.isN d (k : Int) true = Tn.has (Tn.nd d k).tag := by
  unfold Tn.isN at *
  simp at h
  simp [h]

end Go.Proofs.YtbinbojicmhdlaeGreatDoor

/-
  THE WALK of the reference's Hidden.
-/
namespace Go.Proofs.YtbinbojicmhdlaeGreatDoor
open Go.RowKit

end Go.Proofs.YtbinbojicmhdlaeGreatDoor

/-
  THE WALKS of RoleTells, and of tnlaw5.alive.
-/
namespace Go.Proofs.YtbinbojicmhdlaeGreatDoor
open Go.RowKit

theorem cx_build {w : World} {g c : Nat} {rs : List Raw} {l : List Tn.Chg} (hd : DocAt w g 0 c rs (Tn.build l)) (T : Kn.TabAt w) (hsz : ∀ x ∈ l, x.value.size ≤ 4194304 ∧ x.name.size ≤ 4194304) : Cx w g 0 c rs (Tn.build l) := ⟨hd, T, build_fine l, build_vn hsz⟩

end Go.Proofs.YtbinbojicmhdlaeGreatDoor

/-
  THE WALK of tnlaw5.alive.
-/
namespace Go.Proofs.YtbinbojicmhdlaeGreatDoor
open Go.RowKit

end Go.Proofs.YtbinbojicmhdlaeGreatDoor

/-
  PLAIN MATHEMATICS: who asks for a role that needs nothing has it.
-/
namespace Go.Proofs.YtbinbojicmhdlaeGreatDoor
open Tn

end Go.Proofs.YtbinbojicmhdlaeGreatDoor

/-
  PLAIN MATHEMATICS: names are plain; what is said outright is said.
-/
namespace Go.Proofs.YtbinbojicmhdlaeGreatDoor
open Tn

theorem em_full : full emB = false := by decide +kernel

end Go.Proofs.YtbinbojicmhdlaeGreatDoor
