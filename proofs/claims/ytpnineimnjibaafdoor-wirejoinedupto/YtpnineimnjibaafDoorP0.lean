/-
  OWN WORK: Mod, Rd, Ap, Rta, Rt2, Rcm, Frm, Wsh, Jnu, Tre2, Dal, Dal2, Dfi, Dfi2, Fmo, Sdl, Fgi, Fsh, Had, Qsh, Vca, Nfr, Jbs, Jsc, Jlt, Trm, Tma.
-/
import Derived.Lib.Strings
import Derived.Test.YtpnineimnjibaafDoorProg
import Derived.WalkKit
import Derived.WalkSpells
import Derived.WalkLawsBesides
import Derived.Laws.AppendOwnNone
import Derived.Deep.RegionWith
import Derived.Deep.RegionLaw
import Derived.Deep.Cut
import Derived.Deep.RegionHeld3
import Derived.Test.YtpnineimnjibaafDoorRows
import Derived.Deep.Slices
import Derived.ProofKit
import Derived.OpenShut
import Derived.JoinedCond
import Derived.Carry
import Derived.Shelf.Strconv.AppendIntPublic10
import Derived.Shelf.Strconv.Itoa3
import Derived.Shelf.Strconv.ErrVarAll
import Derived.Shelf.Bytes.SlIndexAt
import Derived.Lib.AtoiAllCases
import Derived.Lib.ItoaLen
import Derived.Shelf.RegionOpenPlain
import Derived.Lib.SliceRun
import Derived.Maps.OwnOps
import Derived.Maps.Views
import Derived.Maps.OwnSet
import Derived.Lib.AppendStr
import Derived.Lib.OthersKept
import Derived.Lib.UnsafeStr
import Derived.Laws.IdiomStrings
import Derived.Laws.BytesArg
import Derived.Lib.BufferRead
import Derived.Lib.AppendIntMem
import Derived.Lib.IndexLaws
import Derived.OwnWalk
import Derived.Lib.LaidTab
import Derived.Stop.LaidErr
import Derived.MakeChecks
import Derived.Deep.DeepHandedRow
/-
  PLAIN MATHEMATICS: documents as lists of nodes, and what the reference's functions make of them.
-/
namespace Go.Proofs.YtpnineimnjibaafDoor
namespace Tn

structure Nd where
  live : Bool
  tag : ByteArray
  text : ByteArray
  attrs : List (ByteArray × ByteArray)
  up : Int
  kids : List Nat
  hasS : Bool
  shadow : List Nat
  inS : Bool

abbrev Dc := List Nd

def zero : Nd := ⟨false, ⟨#[]⟩, ⟨#[]⟩, [], 0, [], false, [], false⟩

def nd (d : Dc) (k : Nat) : Nd := (d[k]?).getD zero

def has (s : ByteArray) : Bool := !s.toList.isEmpty

def isN (d : Dc) (n : Int) (el : Bool) : Bool := decide (0 ≤ n) && decide (n < d.length) && (nd d n.toNat).live && (!el || has (nd d n.toNat).tag)

def path : Nat → Dc → Int → List Nat
  | 0, _, _ => []
  | f + 1, d, n => if isN d n false then n.toNat :: path f d (nd d n.toNat).up else []

def pathOf (d : Dc) (n : Int) : List Nat := path (d.length + 1) d n

def within (d : Dc) (n m : Int) : Bool := (pathOf d n).any fun k => decide ((k : Int) = m)

def all : Nat → Dc → Nat → List Nat
  | 0, _, _ => []
  | f + 1, d, n => if isN d n false then n :: ((nd d n).shadow.flatMap (all f d) ++ (nd d n).kids.flatMap (all f d)) else []

def deepL (g : Nat → Nat) (l : List Nat) (m : Nat) : Nat := l.foldl (fun m k => max m (1 + g k)) m

def deepest : Nat → Dc → Nat → Nat
  | 0, _, _ => 0
  | f + 1, d, n => deepL (deepest f d) (nd d n).kids (deepL (deepest f d) (nd d n).shadow 0)

def withd (d : Dc) (k : Nat) (n : Nd) : Dc := if k = d.length then d ++ [n] else d.set k n

def without (l : List Nat) (k : Nat) : List Nat := l.filter fun x => x != k

def lastAt (l : List Nat) (b : Int) : Nat → Int
  | 0 => -1
  | k + 1 => if ((l[k]?.getD 0 : Nat) : Int) = b then (k : Int) else lastAt l b k

def listOf (n : Nd) (s : Bool) : List Nat := if s then n.shadow else n.kids

def setList (n : Nd) (s : Bool) (l : List Nat) : Nd := if s then { n with shadow := l } else { n with kids := l }

def place (l : List Nat) (b : Int) : Int := if 0 ≤ b then lastAt l b l.length else l.length

def insertAt (l : List Nat) (i k : Nat) : List Nat := l.take i ++ [k] ++ l.drop i

def put1 (d : Dc) (k m : Nat) (b : Int) (s : Bool) : Dc := withd d m (setList (nd d m) s (insertAt (listOf (nd d m) s) (place (listOf (nd d m) s) b).toNat k))

/-- the steps of a fixed recursion -/
def fuel : Nat := 64

def putE (d : Dc) (k m : Nat) (b : Int) (s : Bool) : Int :=
  if place (listOf (nd d m) s) b < 0 then 8
  else if 12 ≤ (listOf (nd d m) s).length then 5
  else if (16 : Int) < ((pathOf (put1 d k m b s) k).length : Int) - 1 + (deepest fuel (put1 d k m b s) k : Int) then 3 else 0

def freeAt (d : Dc) : Nat → Nat
  | 0 => d.length
  | f + 1 => if (nd d (d.length - (f + 1))).live then freeAt d f else d.length - (f + 1)

def free (d : Dc) : Nat := freeAt d d.length

def made (x : Nd) (m : Nat) (s : Bool) : Nd := { x with live := true, up := (m : Int), inS := s }

def takeD (d : Dc) (k : Nat) : Dc :=
  withd d (nd d k).up.toNat { nd d (nd d k).up.toNat with kids := without (nd d (nd d k).up.toNat).kids k, shadow := without (nd d (nd d k).up.toNat).shadow k }


abbrev At := ByteArray × ByteArray

def eqS (a b : ByteArray) : Bool := a.toList == b.toList
def lessS (a b : ByteArray) : Bool := decide (a.toList < b.toList)

def aStep (name value : ByteArray) (s : List At × Bool) (a : At) : List At × Bool :=
  if eqS a.1 name then (s.1 ++ [(a.1, value)], true)
  else if lessS name a.1 && !s.2 then (s.1 ++ [(name, value)] ++ [a], true)
  else (s.1 ++ [a], s.2)

def aFold (name value : ByteArray) (l : List At) : List At × Bool := l.foldl (aStep name value) ([], false)

def attrsD (l : List At) (name value : ByteArray) : List At :=
  if (aFold name value l).2 then (aFold name value l).1 else (aFold name value l).1 ++ [(name, value)]

def attrOf (l : List At) (name : ByteArray) : Option ByteArray := (l.find? fun a => eqS a.1 name).map (·.2)

def attrsOff (l : List At) (name : ByteArray) : List At := l.filter fun a => !eqS a.1 name

def digitB (c : UInt8) : Bool := decide (48 ≤ c.toNat) && decide (c.toNat ≤ 57)
def letterB (c : UInt8) : Bool := decide (97 ≤ c.toNat) && decide (c.toNat ≤ 122)
def okB (c : UInt8) : Bool := letterB c || digitB c || c == 45
def nameL (l : List UInt8) : Bool := !l.isEmpty && decide (l.length ≤ 20) && letterB (l.headD 0) && l.all okB
def okName (s : ByteArray) : Bool := nameL s.data.toList

structure Chg where
  kind : Int
  node : Int
  to : Int
  before : Int
  name : ByteArray
  value : ByteArray

def slotT : List UInt8 := [115, 108, 111, 116]

/-- what a change makes of a document, not yet without its last nodes; the error, the node -/
def moveE (d : Dc) (x : Chg) : Int :=
  if x.node = 0 ∨ isN d x.to true = false then 8
  else if within d x.to x.node then 9
  else if x.before = x.node then 8
  else putE (withd (takeD d x.node.toNat) x.node.toNat { nd d x.node.toNat with up := x.to, inS := false }) x.node.toNat x.to.toNat x.before false

def moveD (d : Dc) (x : Chg) : Dc :=
  put1 (withd (takeD d x.node.toNat) x.node.toNat { nd d x.node.toNat with up := x.to, inS := false }) x.node.toNat x.to.toNat x.before false

def removeD (d : Dc) (x : Chg) : Dc := (all fuel d x.node.toNat).foldl (fun d k => withd d k zero) (takeD d x.node.toNat)

def sayE (d : Dc) (x : Chg) : Int := if has (nd d x.node.toNat).tag ∨ 60 < x.value.size then 8 else 0
def sayD (d : Dc) (x : Chg) : Dc := withd d x.node.toNat { nd d x.node.toNat with text := x.value }

def attrE (d : Dc) (x : Chg) : Int :=
  if okName x.name = false then 7
  else if 60 < x.value.size then 4
  else if 8 < (attrsD (nd d x.node.toNat).attrs x.name x.value).length then 5 else 0
def attrD (d : Dc) (x : Chg) : Dc := withd d x.node.toNat { nd d x.node.toNat with attrs := attrsD (nd d x.node.toNat).attrs x.name x.value }

def clearE (d : Dc) (x : Chg) : Int := if (attrOf (nd d x.node.toNat).attrs x.name).isSome then 0 else 6
def clearD (d : Dc) (x : Chg) : Dc := withd d x.node.toNat { nd d x.node.toNat with attrs := attrsOff (nd d x.node.toNat).attrs x.name }

def shadE (d : Dc) (x : Chg) : Int := if x.node = 0 ∨ (nd d x.node.toNat).hasS = true ∨ (nd d x.node.toNat).tag.toList = slotT then 8 else 0
def shadD (d : Dc) (x : Chg) : Dc := withd d x.node.toNat { nd d x.node.toNat with hasS := true }

def isText (x : Chg) : Bool := x.kind == 2 || x.kind == 10
def isSh (x : Chg) : Bool := x.kind == 9 || x.kind == 10
def newN (x : Chg) : Nd := if isText x then { zero with text := x.value } else { zero with tag := x.name }
def bef (x : Chg) : Int := if isSh x then -1 else x.before

def mk1 (d : Dc) (x : Chg) : Dc := withd d (free d) (made (newN x) x.node.toNat (isSh x))
def makeE (d : Dc) (x : Chg) : Int :=
  if isText x = true ∧ 60 < x.value.size then 4
  else if isText x = false ∧ okName x.name = false then 7
  else if isSh x = true ∧ (nd d x.node.toNat).hasS = false then 8
  else if 60 ≤ free d then 5
  else putE (mk1 d x) (free d) x.node.toNat (bef x) (isSh x)
def makeD (d : Dc) (x : Chg) : Dc := put1 (mk1 d x) (free d) x.node.toNat (bef x) (isSh x)

def chgE (d : Dc) (x : Chg) : Int :=
  if x.kind = 3 then moveE d x
  else if x.kind = 4 then (if x.node = 0 then 8 else 0)
  else if x.kind = 7 then sayE d x
  else if has (nd d x.node.toNat).tag = false then 8
  else if x.kind = 5 then attrE d x
  else if x.kind = 6 then clearE d x
  else if x.kind = 8 then shadE d x
  else makeE d x

def chgD (d : Dc) (x : Chg) : Dc :=
  if x.kind = 3 then moveD d x
  else if x.kind = 4 then removeD d x
  else if x.kind = 7 then sayD d x
  else if x.kind = 5 then attrD d x
  else if x.kind = 6 then clearD d x
  else if x.kind = 8 then shadD d x
  else makeD d x

def lastLive (d : Dc) : Nat → Nat
  | 0 => 1
  | k + 1 => if (nd d k).live ∧ lastLive d k ≤ k then k + 1 else lastLive d k

def trimD (d : Dc) : Dc := d.take (lastLive d d.length)

def applyE (d : Dc) (x : Chg) : Int :=
  if x.kind < 1 ∨ 10 < x.kind then 1
  else if isN d x.node false = false then 6
  else chgE d x
def applyD (d : Dc) (x : Chg) : Dc := trimD (chgD d x)

def step (d : Dc) (x : Chg) : Dc := if applyE d x = 0 then applyD d x else d
end Tn
end Go.Proofs.YtpnineimnjibaafDoor

/-
  HOW DOCUMENTS LIE IN MEMORY: rows of cells, nodes as they lie, nodes as they read.
-/
namespace Go.Proofs.YtpnineimnjibaafDoor
open Go.RowKit

theorem infoI : (Tryd.prog.info? 3).map (fun i => (i.zero, i.size, i.bytes)) = some (some (.int .i64 0), 1, 8) := by kernel_rfl
/-- a slice v of n elements of k cells each; its cells hold xs -/
def CellsAt (w : World) (v : Value) (n : Nat) (xs : List Value) : Prop :=
  ∃ p c, v = .slice p n c ∧ n ≤ c ∧ c ≤ maxLen ∧ ((p = none ∧ c = 0) ∨ ∃ b o, p = some ⟨b, o, none⟩) ∧ ∀ j x, xs[j]? = some x → ∃ b o, p = some ⟨b, o, none⟩ ∧ w.cell? ⟨b, o + j, none⟩ = some x

def iv (k : Nat) : Value := .int .i64 (k : Int)
def av (a : ByteArray × ByteArray) : List Value := [.string a.1, .string a.2]

def IntsAt (w : World) (v : Value) (l : List Nat) : Prop := CellsAt w v l.length (l.map iv)
def AttrsAt (w : World) (v : Value) (l : List (ByteArray × ByteArray)) : Prop := CellsAt w v l.length (l.flatMap av)

/-- a slice as it lies -/
structure Sl where
  p : Option Addr
  n : Nat
  c : Nat

/-- a node as it lies -/
structure Raw where
  live : Bool
  tag : ByteArray
  text : ByteArray
  a : Sl
  up : Int
  k : Sl
  hasS : Bool
  s : Sl
  inS : Bool

def Raw.cells (r : Raw) : List Value := [.bool r.live, .string r.tag, .string r.text, (.slice r.a.p r.a.n r.a.c), .int .i64 r.up, (.slice r.k.p r.k.n r.k.c), .bool r.hasS, (.slice r.s.p r.s.n r.s.c), .bool r.inS]

structure NdAt (w : World) (r : Raw) (n : Tn.Nd) : Prop where
  live : r.live = n.live
  tag : r.tag = n.tag
  text : r.text = n.text
  up : r.up = n.up
  hasS : r.hasS = n.hasS
  inS : r.inS = n.inS
  attrs : AttrsAt w (.slice r.a.p r.a.n r.a.c) n.attrs
  kids : IntsAt w (.slice r.k.p r.k.n r.k.c) n.kids
  shadow : IntsAt w (.slice r.s.p r.s.n r.s.c) n.shadow

/-- the row of nodes at b, o -/
structure RowOf (w : World) (b o : Nat) (rs : List Raw) : Prop where
  c0 : ∀ k (h : k < rs.length), w.cell? ⟨b, o + k * 9, none⟩ = some (.bool rs[k].live)
  c1 : ∀ k (h : k < rs.length), w.cell? ⟨b, o + k * 9 + 1, none⟩ = some (.string rs[k].tag)
  c2 : ∀ k (h : k < rs.length), w.cell? ⟨b, o + k * 9 + 2, none⟩ = some (.string rs[k].text)
  c3 : ∀ k (h : k < rs.length), w.cell? ⟨b, o + k * 9 + 3, none⟩ = some (.slice rs[k].a.p rs[k].a.n rs[k].a.c)
  c4 : ∀ k (h : k < rs.length), w.cell? ⟨b, o + k * 9 + 4, none⟩ = some (.int .i64 rs[k].up)
  c5 : ∀ k (h : k < rs.length), w.cell? ⟨b, o + k * 9 + 5, none⟩ = some (.slice rs[k].k.p rs[k].k.n rs[k].k.c)
  c6 : ∀ k (h : k < rs.length), w.cell? ⟨b, o + k * 9 + 6, none⟩ = some (.bool rs[k].hasS)
  c7 : ∀ k (h : k < rs.length), w.cell? ⟨b, o + k * 9 + 7, none⟩ = some (.slice rs[k].s.p rs[k].s.n rs[k].s.c)
  c8 : ∀ k (h : k < rs.length), w.cell? ⟨b, o + k * 9 + 8, none⟩ = some (.bool rs[k].inS)

/-- a document that is not nil -/
structure DocAt (w : World) (b o c : Nat) (rs : List Raw) (d : Tn.Dc) : Prop where
  cap : rs.length ≤ c
  capM : c ≤ maxLen
  len : rs.length = d.length
  row : RowOf w b o rs
  nds : ∀ k (h : k < rs.length) (h' : k < d.length), NdAt w rs[k] d[k]

theorem lt_of_cell {w : World} {a : Addr} {v : Value} (h : w.cell? a = some v) : a.block < w.heap.size := by
  apply Classical.byContradiction
  intro hn
  have e : w.heap[a.block]? = none := by simp; omega
  simp [World.cell?, e] at h

/-- all cells that there were hold what they held -/
def Keeps (w w' : World) : Prop := ∀ a v, w.cell? a = some v → w'.cell? a = some v

theorem Keeps.refl (w : World) : Keeps w w := fun _ _ h => h
theorem Keeps.trans {a b c : World} (h : Keeps a b) (k : Keeps b c) : Keeps a c := fun _ _ x => k _ _ (h _ _ x)
theorem keeps_below {B : Nat} {w w' : World} (hb : Below B w w') (hB : w.heap.size ≤ B) : Keeps w w' := by
  intro a v h
  rw [hb.cell (Nat.lt_of_lt_of_le (lt_of_cell h) hB)]
  exact h
theorem keeps_alloc (w : World) (o : Obj) : Keeps w (w.alloc o) := keeps_below ((Below.refl w.heap.size w).alloc (Nat.le_refl _) o) (Nat.le_refl _)

theorem CellsAt.keeps {w w' : World} {v : Value} {n : Nat} {xs : List Value} (h : CellsAt w v n xs) (k : Keeps w w') : CellsAt w' v n xs := by
  obtain ⟨p, c, e, h1, h2, h3, h4⟩ := h
  refine ⟨p, c, e, h1, h2, h3, fun j x hx => ?_⟩
  obtain ⟨b, o, e1, e2⟩ := h4 j x hx
  exact ⟨b, o, e1, k _ _ e2⟩
theorem IntsAt.keeps {w w' : World} {v : Value} {l : List Nat} (h : IntsAt w v l) (k : Keeps w w') : IntsAt w' v l := CellsAt.keeps h k
theorem AttrsAt.keeps {w w' : World} {v : Value} {l : List (ByteArray × ByteArray)} (h : AttrsAt w v l) (k : Keeps w w') : AttrsAt w' v l := CellsAt.keeps h k
theorem NdAt.keeps {w w' : World} {r : Raw} {n : Tn.Nd} (h : NdAt w r n) (k : Keeps w w') : NdAt w' r n :=
  ⟨h.live, h.tag, h.text, h.up, h.hasS, h.inS, h.attrs.keeps k, h.kids.keeps k, h.shadow.keeps k⟩
theorem RowOf.keeps {w w' : World} {b o : Nat} {rs : List Raw} (h : RowOf w b o rs) (k : Keeps w w') : RowOf w' b o rs :=
  ⟨fun i hi => k _ _ (h.c0 i hi), fun i hi => k _ _ (h.c1 i hi), fun i hi => k _ _ (h.c2 i hi), fun i hi => k _ _ (h.c3 i hi), fun i hi => k _ _ (h.c4 i hi),
    fun i hi => k _ _ (h.c5 i hi), fun i hi => k _ _ (h.c6 i hi), fun i hi => k _ _ (h.c7 i hi), fun i hi => k _ _ (h.c8 i hi)⟩
theorem DocAt.keeps {w w' : World} {b o c : Nat} {rs : List Raw} {d : Tn.Dc} (h : DocAt w b o c rs d) (k : Keeps w w') : DocAt w' b o c rs d :=
  ⟨h.cap, h.capM, h.len, h.row.keeps k, fun i hi hi' => (h.nds i hi hi').keeps k⟩

theorem add_at (g o j : Nat) : Addr.add ⟨g, o, none⟩ j = ⟨g, o + j, none⟩ := by
  by_cases h : j = 0 <;> simp [Addr.add, h]
theorem owns_shape {w : World} {B e k n : Nat} {v : Value} {xs : List Value} (h : w.ownsRow B e k v n xs) : ∃ p c, v = .slice p n c := by
  obtain ⟨hl, h2⟩ := h
  rcases h2 with ⟨rfl, rfl⟩ | ⟨g, cap, cur, rfl, _⟩
  · exact ⟨none, 0, rfl⟩
  · exact ⟨_, _, rfl⟩
theorem cells_of_owns {w : World} {B e k n : Nat} {v : Value} {xs : List Value} (h : w.ownsRow B e k v n xs) : CellsAt w v n xs := by
  have hc := fun g hg => World.ownsRow.cells h (g := g) hg
  obtain ⟨hl, h2⟩ := h
  rcases h2 with ⟨rfl, rfl⟩ | ⟨g, cap, cur, rfl, h3, h4, h5, h6, h7, h8⟩
  · exact ⟨none, 0, rfl, Nat.le_refl _, by decide, Or.inl ⟨rfl, rfl⟩, fun j x hx => by have : xs = [] := List.length_eq_zero_iff.mp (by omega); subst this; simp at hx⟩
  · refine ⟨_, cap, rfl, h5, h6, Or.inr ⟨g, 0, rfl⟩, fun j x hx => ⟨g, 0, rfl, ?_⟩⟩
    rw [← add_at]; exact hc g rfl j x hx
/-- a slice of ints of the call's own -/
def OwnI (w : World) (B : Nat) (v : Value) (l : List Nat) : Prop := w.ownsRow B 3 1 v l.length (l.map iv)
theorem OwnI.nil (w : World) (B : Nat) : OwnI w B (.slice none 0 0) [] := World.ownsRow_nil _ _ _ _
theorem OwnI.shape {w : World} {B : Nat} {v : Value} {l : List Nat} (h : OwnI w B v l) : ∃ p c, v = .slice p l.length c := owns_shape h
/-- an element of a slice of ints, in the walk's own form -/
theorem IntsAt.at {w : World} {v : Value} {l : List Nat} (h : IntsAt w v l) : ∃ p c, v = .slice p l.length c ∧ l.length ≤ c ∧ c ≤ 9223372036854775807 ∧ ((p = none ∧ c = 0) ∨ ∃ b o, p = some ⟨b, o, none⟩) ∧
    ∀ j (hj : j < l.length), ∃ b o, p = some ⟨b, o, none⟩ ∧ w.cell? ⟨b, o + j, none⟩ = some (.int .i64 (l[j] : Int)) := by
  obtain ⟨p, c, e, h1, h2, h3, h4⟩ := h
  refine ⟨p, c, e, h1, by unfold maxLen at h2; omega, h3, fun j hj => ?_⟩
  exact h4 j _ (by simp [List.getElem?_eq_getElem hj, iv])

theorem flat_at {α : Type} (f : α → List Value) (k : Nat) (hf : ∀ a, (f a).length = k) : ∀ (l : List α) (i j : Nat), j < k → (l.flatMap f)[i * k + j]? = (l[i]?).bind fun a => (f a)[j]?
  | [], i, j, _ => by simp
  | a :: l, 0, j, hj => by
    rw [List.flatMap_cons, List.getElem?_append_left (by rw [hf]; omega)]
    simp
  | a :: l, i + 1, j, hj => by
    rw [List.flatMap_cons, List.getElem?_append_right (by rw [hf, Nat.succ_mul]; omega), hf]
    have e : (i + 1) * k + j - k = i * k + j := by rw [Nat.succ_mul]; omega
    rw [e, flat_at f k hf l i j hj]
    simp

theorem flat_len {α : Type} (f : α → List Value) (k : Nat) (hf : ∀ a, (f a).length = k) (l : List α) : (l.flatMap f).length = l.length * k := by
  induction l with
  | nil => simp
  | cons a l ih => rw [List.flatMap_cons, List.length_append, ih, hf, List.length_cons, Nat.succ_mul]; omega

end Go.Proofs.YtpnineimnjibaafDoor

/-
  LAWS ON append, in the form that the walks take.
-/
namespace Go.Proofs.YtpnineimnjibaafDoor
open Go.RowKit

/-- blocks of other types than int's are as they were -/
def Others (w w' : World) : Prop := ∀ (g : Nat) (cs : Array Value) (t : TypeId), w.heap[g]? = some (Obj.cells cs t) → t ≠ 3 → w'.heap[g]? = some (Obj.cells cs t)
theorem Others.trans {a b c : World} (h : Others a b) (k : Others b c) : Others a c := fun g cs t x hx => k g cs t (h g cs t x hx) hx
def Raw.agg (r : Raw) : Value := .agg #[.bool r.live, .string r.tag, .string r.text, (.slice r.a.p r.a.n r.a.c), .int .i64 r.up, (.slice r.k.p r.k.n r.k.c), .bool r.hasS, (.slice r.s.p r.s.n r.s.c), .bool r.inS]
/-- a node in a block of its own -/
structure BoxAt (w : World) (g : Nat) (r : Raw) : Prop where
  c0 : w.cell? ⟨g, 0, none⟩ = some (.bool r.live)
  c1 : w.cell? ⟨g, 1, none⟩ = some (.string r.tag)
  c2 : w.cell? ⟨g, 2, none⟩ = some (.string r.text)
  c3 : w.cell? ⟨g, 3, none⟩ = some (.slice r.a.p r.a.n r.a.c)
  c4 : w.cell? ⟨g, 4, none⟩ = some (.int .i64 r.up)
  c5 : w.cell? ⟨g, 5, none⟩ = some (.slice r.k.p r.k.n r.k.c)
  c6 : w.cell? ⟨g, 6, none⟩ = some (.bool r.hasS)
  c7 : w.cell? ⟨g, 7, none⟩ = some (.slice r.s.p r.s.n r.s.c)
  c8 : w.cell? ⟨g, 8, none⟩ = some (.bool r.inS)

theorem BoxAt.keeps {w w' : World} {g : Nat} {r : Raw} (h : BoxAt w g r) (k : Keeps w w') : BoxAt w' g r :=
  ⟨k _ _ h.c0, k _ _ h.c1, k _ _ h.c2, k _ _ h.c3, k _ _ h.c4, k _ _ h.c5, k _ _ h.c6, k _ _ h.c7, k _ _ h.c8⟩
theorem BoxAt.grown {w w' : World} {g : Nat} {r : Raw} (h : BoxAt w g r) {row : Option Nat} (hg : w.grownBy w' row) (hne : some g ≠ row) : BoxAt w' g r :=
  ⟨hg.cell h.c0 hne, hg.cell h.c1 hne, hg.cell h.c2 hne, hg.cell h.c3 hne, hg.cell h.c4 hne, hg.cell h.c5 hne, hg.cell h.c6 hne, hg.cell h.c7 hne, hg.cell h.c8 hne⟩
theorem OwnI.below {w w' : World} {B C : Nat} {v : Value} {l : List Nat} (h : OwnI w B v l) (hb : Below C w w') (hC : w.heap.size ≤ C) : OwnI w' B v l := by
  obtain ⟨hl, hz⟩ := h
  refine ⟨hl, ?_⟩
  rcases hz with h5 | ⟨g, cap, cur, e, h3, h6, h7⟩
  · exact Or.inl h5
  · refine Or.inr ⟨g, cap, cur, e, h3, ?_, h7⟩
    have hlt : g < w.heap.size := by
      apply Classical.byContradiction
      intro hn
      rw [Array.getElem?_eq_none (by omega)] at h6
      cases h6
    rw [hb.block g (by omega)]
    exact h6
theorem OwnI.alloc {w : World} {B : Nat} {v : Value} {l : List Nat} (h : OwnI w B v l) (o : Obj) : OwnI (w.alloc o) B v l := World.ownsRow.alloc h o

theorem keeps_drew {a w : World} (h : Keeps a w) : Keeps a w.drew := fun p v x => by simpa using h p v x
theorem keeps_alloc' {a w : World} (o : Obj) (h : Keeps a w) : Keeps a (w.alloc o) := h.trans (keeps_alloc w o)
end Go.Proofs.YtpnineimnjibaafDoor

/-
  THE WALKS of the reference's Take.
-/
namespace Go.Proofs.YtpnineimnjibaafDoor
open Go.RowKit

theorem hl_of {w : World} {p : Option Addr} {n c : Nat} {l : List Nat} (h : IntsAt w (.slice p n c) l) : n = l.length := by
  obtain ⟨_, _, e, _⟩ := h
  cases e
  rfl

end Go.Proofs.YtpnineimnjibaafDoor

/-
  THE WALK of the reference's Take, once more: what it answers lies in no block that there was, but for what there was.
-/
namespace Go.Proofs.YtpnineimnjibaafDoor
open Go.RowKit

def SlOff (g0 : Nat) (s : Sl) : Prop := ∀ ad, s.p = some ad → s.n ≠ 0 → ad.block ≠ g0
def RawOff (g0 : Nat) (r : Raw) : Prop := SlOff g0 r.a ∧ SlOff g0 r.k ∧ SlOff g0 r.s
theorem al_of {w : World} {p : Option Addr} {n c : Nat} {l : List Tn.At} (h : AttrsAt w (.slice p n c) l) : n = l.length := by
  obtain ⟨_, _, e, _⟩ := h
  cases e
  rfl

theorem OwnI.off {w : World} {B : Nat} {p : Option Addr} {n c : Nat} {l : List Nat} (h : OwnI w B (.slice p n c) l) : ∀ ad, p = some ad → B ≤ ad.block := by
  intro ad e
  obtain ⟨_, hz⟩ := h
  rcases hz with ⟨h5, _⟩ | ⟨g, cap, cur, e', h3, _⟩
  · cases h5; cases e
  · cases e'; cases e; exact h3
end Go.Proofs.YtpnineimnjibaafDoor

/-
  THE WALKS of the reference's change: move.
-/
namespace Go.Proofs.YtpnineimnjibaafDoor
open Go.RowKit

end Go.Proofs.YtpnineimnjibaafDoor

/-
  ARGUMENTS: a slice of changes that came in, as it reads.
-/
namespace Go.Proofs.YtpnineimnjibaafDoor
open Go.ChangeShapes Go.WideShapes Go.ChangeAt Go.RowKit

theorem cellsI : Tryd.prog.cellsOf 3 = 1 := by kernel_rfl
theorem cellsS : Tryd.prog.cellsOf 9 = 1 := by kernel_rfl
theorem own_knob : ownKnob Tryd.prog.godebug = none := by kernel_rfl
theorem laid_out : laidOutB Tryd.prog = true := by kernel_rfl

end Go.Proofs.YtpnineimnjibaafDoor

/-
  THE LIBRARY's CONTRACTS of strconv.AppendInt, strconv.Itoa, strconv.Atoi and bytes.Index, laid at this program's own numbers (by program, out of the kit's shelf).
-/
namespace Go.Proofs
open Go.Shelf
def Tryd.laysM171_ren : Go.Shelf.Ren := ⟨fun | 171 => 28 | 243 => 36 | 246 => 42 | 283 => 53 | 284 => 54 | 285 => 55 | 286 => 56 | 129 => 63 | 317 => 62 | 318 => 64 | 319 => 65 | 320 => 66 | 337 => 69 | 338 => 70 | n => n, fun | 3 => 3 | 9 => 9 | 2 => 2 | 4 => 4 | 171 => 83 | 0 => 0 | 53 => 70 | 37 => 23 | 5 => 5 | 173 => 86 | 212 => 97 | 51 => 88 | 20 => 20 | 213 => 98 | 46 => 76 | 232 => 108 | 233 => 109 | n => n, fun | 17 => 3 | 18 => 4 | 19 => 5 | n => n⟩
theorem Tryd.laysM171 : Go.Proofs.LaysM.n171 Tryd.prog Tryd.laysM171_ren := {
  mixed := by kernel_rfl
  f129 := Tryd.func63.trans (congrArg some (by kernel_rfl))
  f171 := Tryd.func28.trans (congrArg some (by kernel_rfl))
  f243 := Tryd.func36.trans (congrArg some (by kernel_rfl))
  f246 := Tryd.func42.trans (congrArg some (by kernel_rfl))
  f283 := Tryd.func53.trans (congrArg some (by kernel_rfl))
  f284 := Tryd.func54.trans (congrArg some (by kernel_rfl))
  f285 := Tryd.func55.trans (congrArg some (by kernel_rfl))
  f286 := Tryd.func56.trans (congrArg some (by kernel_rfl))
  f317 := Tryd.func62.trans (congrArg some (by kernel_rfl))
  f318 := Tryd.func64.trans (congrArg some (by kernel_rfl))
  f319 := Tryd.func65.trans (congrArg some (by kernel_rfl))
  f320 := Tryd.func66.trans (congrArg some (by kernel_rfl))
  f337 := Tryd.func69.trans (congrArg some (by kernel_rfl))
  f338 := Tryd.func70.trans (congrArg some (by kernel_rfl))
  t0 := Tryd.underlying0
  a0 := Tryd.isAgg0
  z0 := Tryd.sizeOf0
  v0 := Tryd.zeroValue0
  t2 := Tryd.underlying2
  a2 := Tryd.isAgg2
  z2 := Tryd.sizeOf2
  v2 := Tryd.zeroValue2
  t3 := Tryd.underlying3
  a3 := Tryd.isAgg3
  z3 := Tryd.sizeOf3
  v3 := Tryd.zeroValue3
  t4 := Tryd.underlying4
  a4 := Tryd.isAgg4
  z4 := Tryd.sizeOf4
  v4 := Tryd.zeroValue4
  t5 := Tryd.underlying5
  a5 := Tryd.isAgg5
  z5 := Tryd.sizeOf5
  v5 := Tryd.zeroValue5
  t9 := Tryd.underlying9
  a9 := Tryd.isAgg9
  z9 := Tryd.sizeOf9
  v9 := Tryd.zeroValue9
  t20 := Tryd.underlying20
  a20 := Tryd.isAgg20
  z20 := Tryd.sizeOf20
  v20 := Tryd.zeroValue20
  t37 := Tryd.underlying23
  a37 := Tryd.isAgg23
  z37 := Tryd.sizeOf23
  v37 := Tryd.zeroValue23
  t46 := Tryd.underlying76
  a46 := Tryd.isAgg76
  z46 := Tryd.sizeOf76
  v46 := Tryd.zeroValue76
  t51 := Tryd.underlying88
  a51 := Tryd.isAgg88
  z51 := Tryd.sizeOf88
  v51 := Tryd.zeroValue88
  t53 := Tryd.underlying70
  a53 := Tryd.isAgg70
  z53 := Tryd.sizeOf70
  v53 := Tryd.zeroValue70
  t171 := Tryd.underlying83
  a171 := Tryd.isAgg83
  z171 := Tryd.sizeOf83
  v171 := Tryd.zeroValue83
  t173 := Tryd.underlying86
  a173 := Tryd.isAgg86
  z173 := Tryd.sizeOf86
  v173 := Tryd.zeroValue86
  t212 := Tryd.underlying97
  a212 := Tryd.isAgg97
  z212 := Tryd.sizeOf97
  v212 := Tryd.zeroValue97
  t213 := Tryd.underlying98
  a213 := Tryd.isAgg98
  z213 := Tryd.sizeOf98
  t232 := Tryd.underlying108
  a232 := Tryd.isAgg108
  z232 := Tryd.sizeOf108
  v232 := Tryd.zeroValue108
  t233 := Tryd.underlying109
  a233 := Tryd.isAgg109
  z233 := Tryd.sizeOf109
  v233 := Tryd.zeroValue109
  g17 := by kernel_rfl
  g18 := by kernel_rfl
  g19 := by kernel_rfl
  i0 := by kernel_rfl
  i2 := by kernel_rfl
  i3 := by kernel_rfl
  i4 := by kernel_rfl
  i5 := by kernel_rfl
  i9 := by kernel_rfl
  i20 := by kernel_rfl
  i37 := by kernel_rfl
  i46 := by kernel_rfl
  i51 := by kernel_rfl
  i53 := by kernel_rfl
  i171 := by kernel_rfl
  i173 := by kernel_rfl
  i212 := by kernel_rfl
  i232 := by kernel_rfl
  i233 := by kernel_rfl
  m17 := by kernel_rfl
  m18 := by kernel_rfl
  m19 := by kernel_rfl }
open Go.RowKit Go.Sort Go.Lib in
theorem Tryd.strconv_Itoa (n : Int) (h0 : -9223372036854775808 ≤ n) (h1 : n ≤ 9223372036854775807) (w : World) (htab : Lib.TabIs Tryd.prog w "internal/strconv.uint64pow10" .u64 Lib.pow10Tab) :
    Calls Tryd.prog 28 #[.int .i64 n] w fun e w' => e = .returned (.string ⟨(Lib.itoa n).toArray⟩) ∧ ∃ k os, w' = grow (w.drewN k) os := Any.strconv_Itoa Tryd.laysM171 n h0 h1 w htab
def Tryd.laysC172_ren : Go.Shelf.Ren := ⟨fun | 172 => 30 | 244 => 38 | 245 => 39 | 247 => 48 | 279 => 49 | 280 => 50 | 281 => 51 | 282 => 52 | 287 => 59 | 316 => 60 | 171 => 28 | 205 => 61 | 321 => 67 | 322 => 68 | 243 => 36 | 246 => 42 | 283 => 53 | 284 => 54 | 285 => 55 | 286 => 56 | 129 => 63 | 317 => 62 | 318 => 64 | 319 => 65 | 320 => 66 | 337 => 69 | 338 => 70 | n => n, fun | 9 => 9 | 3 => 3 | 75 => 63 | 76 => 64 | 4 => 4 | 5 => 5 | 167 => 77 | 37 => 23 | 0 => 0 | 85 => 78 | 2 => 2 | 168 => 80 | 53 => 70 | 175 => 91 | 46 => 76 | 210 => 95 | 127 => 103 | 145 => 106 | 143 => 104 | 21 => 21 | 171 => 83 | 173 => 86 | 212 => 97 | 51 => 88 | 20 => 20 | 213 => 98 | 232 => 108 | 233 => 109 | 80 => 66 | n => n, fun | 15 => 1 | 16 => 2 | 17 => 3 | 18 => 4 | 19 => 5 | n => n⟩
theorem Tryd.laysC172 : Go.Proofs.LaysC.n172 Tryd.prog Tryd.laysC172_ren := {
  mixed := by kernel_rfl
  f129 := Tryd.func63.trans (congrArg some (by kernel_rfl))
  f171 := Tryd.func28.trans (congrArg some (by kernel_rfl))
  f172 := Tryd.func30.trans (congrArg some (by kernel_rfl))
  f205 := Tryd.func61.trans (congrArg some (by kernel_rfl))
  f243 := Tryd.func36.trans (congrArg some (by kernel_rfl))
  f244 := Tryd.func38.trans (congrArg some (by kernel_rfl))
  f245 := Tryd.func39.trans (congrArg some (by kernel_rfl))
  f246 := Tryd.func42.trans (congrArg some (by kernel_rfl))
  f247 := Tryd.func48.trans (congrArg some (by kernel_rfl))
  f279 := Tryd.func49.trans (congrArg some (by kernel_rfl))
  f280 := Tryd.func50.trans (congrArg some (by kernel_rfl))
  f281 := Tryd.func51.trans (congrArg some (by kernel_rfl))
  f282 := Tryd.func52.trans (congrArg some (by kernel_rfl))
  f283 := Tryd.func53.trans (congrArg some (by kernel_rfl))
  f284 := Tryd.func54.trans (congrArg some (by kernel_rfl))
  f285 := Tryd.func55.trans (congrArg some (by kernel_rfl))
  f286 := Tryd.func56.trans (congrArg some (by kernel_rfl))
  f287 := Tryd.func59.trans (congrArg some (by kernel_rfl))
  f316 := Tryd.func60.trans (congrArg some (by kernel_rfl))
  f317 := Tryd.func62.trans (congrArg some (by kernel_rfl))
  f318 := Tryd.func64.trans (congrArg some (by kernel_rfl))
  f319 := Tryd.func65.trans (congrArg some (by kernel_rfl))
  f320 := Tryd.func66.trans (congrArg some (by kernel_rfl))
  f321 := Tryd.func67.trans (congrArg some (by kernel_rfl))
  f322 := Tryd.func68.trans (congrArg some (by kernel_rfl))
  f337 := Tryd.func69.trans (congrArg some (by kernel_rfl))
  f338 := Tryd.func70.trans (congrArg some (by kernel_rfl))
  t0 := Tryd.underlying0
  a0 := Tryd.isAgg0
  z0 := Tryd.sizeOf0
  v0 := Tryd.zeroValue0
  t2 := Tryd.underlying2
  a2 := Tryd.isAgg2
  z2 := Tryd.sizeOf2
  v2 := Tryd.zeroValue2
  t3 := Tryd.underlying3
  a3 := Tryd.isAgg3
  z3 := Tryd.sizeOf3
  v3 := Tryd.zeroValue3
  t4 := Tryd.underlying4
  a4 := Tryd.isAgg4
  z4 := Tryd.sizeOf4
  v4 := Tryd.zeroValue4
  t5 := Tryd.underlying5
  a5 := Tryd.isAgg5
  z5 := Tryd.sizeOf5
  v5 := Tryd.zeroValue5
  t9 := Tryd.underlying9
  a9 := Tryd.isAgg9
  z9 := Tryd.sizeOf9
  v9 := Tryd.zeroValue9
  t20 := Tryd.underlying20
  a20 := Tryd.isAgg20
  z20 := Tryd.sizeOf20
  v20 := Tryd.zeroValue20
  t21 := Tryd.underlying21
  a21 := Tryd.isAgg21
  z21 := Tryd.sizeOf21
  v21 := Tryd.zeroValue21
  t37 := Tryd.underlying23
  a37 := Tryd.isAgg23
  z37 := Tryd.sizeOf23
  v37 := Tryd.zeroValue23
  t46 := Tryd.underlying76
  a46 := Tryd.isAgg76
  z46 := Tryd.sizeOf76
  v46 := Tryd.zeroValue76
  t51 := Tryd.underlying88
  a51 := Tryd.isAgg88
  z51 := Tryd.sizeOf88
  v51 := Tryd.zeroValue88
  t53 := Tryd.underlying70
  a53 := Tryd.isAgg70
  z53 := Tryd.sizeOf70
  v53 := Tryd.zeroValue70
  t75 := Tryd.underlying63
  a75 := Tryd.isAgg63
  z75 := Tryd.sizeOf63
  v75 := Tryd.zeroValue63
  t76 := Tryd.underlying64
  a76 := Tryd.isAgg64
  z76 := Tryd.sizeOf64
  v76 := Tryd.zeroValue64
  t85 := Tryd.underlying78
  a85 := Tryd.isAgg78
  z85 := Tryd.sizeOf78
  v85 := Tryd.zeroValue78
  t127 := Tryd.underlying103
  a127 := Tryd.isAgg103
  z127 := Tryd.sizeOf103
  v127 := Tryd.zeroValue103
  t143 := Tryd.underlying104
  a143 := Tryd.isAgg104
  z143 := Tryd.sizeOf104
  v143 := Tryd.zeroValue104
  t145 := Tryd.underlying106
  a145 := Tryd.isAgg106
  z145 := Tryd.sizeOf106
  v145 := Tryd.zeroValue106
  t167 := Tryd.underlying77
  a167 := Tryd.isAgg77
  z167 := Tryd.sizeOf77
  v167 := Tryd.zeroValue77
  t168 := Tryd.underlying80
  a168 := Tryd.isAgg80
  z168 := Tryd.sizeOf80
  v168 := Tryd.zeroValue80
  t171 := Tryd.underlying83
  a171 := Tryd.isAgg83
  z171 := Tryd.sizeOf83
  v171 := Tryd.zeroValue83
  t173 := Tryd.underlying86
  a173 := Tryd.isAgg86
  z173 := Tryd.sizeOf86
  v173 := Tryd.zeroValue86
  t175 := Tryd.underlying91
  a175 := Tryd.isAgg91
  z175 := Tryd.sizeOf91
  v175 := Tryd.zeroValue91
  t210 := Tryd.underlying95
  a210 := Tryd.isAgg95
  z210 := Tryd.sizeOf95
  v210 := Tryd.zeroValue95
  t212 := Tryd.underlying97
  a212 := Tryd.isAgg97
  z212 := Tryd.sizeOf97
  v212 := Tryd.zeroValue97
  t213 := Tryd.underlying98
  a213 := Tryd.isAgg98
  z213 := Tryd.sizeOf98
  t232 := Tryd.underlying108
  a232 := Tryd.isAgg108
  z232 := Tryd.sizeOf108
  v232 := Tryd.zeroValue108
  t233 := Tryd.underlying109
  a233 := Tryd.isAgg109
  z233 := Tryd.sizeOf109
  v233 := Tryd.zeroValue109
  g15 := by kernel_rfl
  g16 := by kernel_rfl
  g17 := by kernel_rfl
  g18 := by kernel_rfl
  g19 := by kernel_rfl
  t80 := Tryd.underlying66
  a80 := Tryd.isAgg66
  z80 := Tryd.sizeOf66
  v80 := Tryd.zeroValue66
  i0 := by kernel_rfl
  i2 := by kernel_rfl
  i3 := by kernel_rfl
  i4 := by kernel_rfl
  i5 := by kernel_rfl
  i9 := by kernel_rfl
  i20 := by kernel_rfl
  i21 := by kernel_rfl
  i37 := by kernel_rfl
  i46 := by kernel_rfl
  i51 := by kernel_rfl
  i53 := by kernel_rfl
  i75 := by kernel_rfl
  i76 := by kernel_rfl
  i80 := by kernel_rfl
  i85 := by kernel_rfl
  i127 := by kernel_rfl
  i143 := by kernel_rfl
  i145 := by kernel_rfl
  i167 := by kernel_rfl
  i168 := by kernel_rfl
  i171 := by kernel_rfl
  i173 := by kernel_rfl
  i175 := by kernel_rfl
  i210 := by kernel_rfl
  i212 := by kernel_rfl
  i232 := by kernel_rfl
  i233 := by kernel_rfl
  m15 := by kernel_rfl
  m16 := by kernel_rfl
  m17 := by kernel_rfl
  m18 := by kernel_rfl
  m19 := by kernel_rfl
  c0 := by kernel_rfl
  c2 := by kernel_rfl
  c3 := by kernel_rfl
  c4 := by kernel_rfl
  c5 := by kernel_rfl
  c9 := by kernel_rfl
  c20 := by kernel_rfl
  c21 := by kernel_rfl
  c37 := by kernel_rfl
  c46 := by kernel_rfl
  c51 := by kernel_rfl
  c53 := by kernel_rfl
  c75 := by kernel_rfl
  c76 := by kernel_rfl
  c80 := by kernel_rfl
  c85 := by kernel_rfl
  c127 := by kernel_rfl
  c143 := by kernel_rfl
  c145 := by kernel_rfl
  c167 := by kernel_rfl
  c168 := by kernel_rfl
  c171 := by kernel_rfl
  c173 := by kernel_rfl
  c175 := by kernel_rfl
  c210 := by kernel_rfl
  c212 := by kernel_rfl
  c213 := by kernel_rfl
  c232 := by kernel_rfl
  c233 := by kernel_rfl }
open Go.RowKit in
theorem Tryd.strconv_Atoi_ok (s : ByteArray) (hmax : s.size ≤ 9223372036854775806) (v : Int) (h : Lib.atoiAll s.data.toList = .ok v) (w : World) :
    Calls Tryd.prog 30 #[.string s] w fun e w' => e = .returned (.tuple #[.int .i64 v, .nilIface]) ∧ (w' = w ∨ ∃ t, w' = Lib.bytesWorld w 5 t) := Any.strconv_Atoi_ok Tryd.laysC172 s hmax v h w
open Go.RowKit in
theorem Tryd.strconv_Atoi_syntax_var (s : ByteArray) (hlim : s.size ≤ 281474976710656) (h : Lib.atoiAll s.data.toList = .«syntax») (tp : TypeId) (p : Value) (w : World) (hvar : w.var? Tryd.prog "strconv.ErrSyntax" = some #[.iface tp p]) :
    Calls Tryd.prog 30 #[.string s] w fun e w' => ∃ N, e = .returned (.tuple #[.int .i64 0, .iface 80 (.pointer (some ⟨N, 0, none⟩))]) ∧ w.heap.size ≤ N ∧ w'.heap[N]? = some (.cells #[.string ⟨#[65, 116, 111, 105]⟩, .string s, .iface tp p] 95 (0, 0)) ∧ Below w.heap.size w w' := Any.strconv_Atoi_syntax_var Tryd.laysC172 s hlim h tp p w hvar
open Go.RowKit in
theorem Tryd.strconv_Atoi_range_var (s : ByteArray) (hlim : s.size ≤ 281474976710656) (h : Lib.atoiAll s.data.toList = .range) (tp : TypeId) (p : Value) (w : World) (hvar : w.var? Tryd.prog "strconv.ErrRange" = some #[.iface tp p]) :
    Calls Tryd.prog 30 #[.string s] w fun e w' => ∃ N, e = .returned (.tuple #[.int .i64 (Lib.atoiSat s.data.toList), .iface 80 (.pointer (some ⟨N, 0, none⟩))]) ∧ w.heap.size ≤ N ∧ w'.heap[N]? = some (.cells #[.string ⟨#[65, 116, 111, 105]⟩, .string s, .iface tp p] 95 (0, 0)) ∧ Below w.heap.size w w' := Any.strconv_Atoi_range_var Tryd.laysC172 s hlim h tp p w hvar
def Tryd.laysM176_ren : Go.Shelf.Ren := ⟨fun | 176 => 25 | 249 => 35 | 288 => 41 | 283 => 53 | 284 => 54 | 285 => 55 | 286 => 56 | 129 => 63 | 317 => 62 | 318 => 64 | 319 => 65 | 320 => 66 | 337 => 69 | 338 => 70 | n => n, fun | 37 => 23 | 2 => 2 | 3 => 3 | 53 => 70 | 4 => 4 | 9 => 9 | 171 => 83 | 0 => 0 | 173 => 86 | 212 => 97 | 51 => 88 | 5 => 5 | 20 => 20 | 213 => 98 | 46 => 76 | 232 => 108 | 233 => 109 | n => n, fun | 17 => 3 | 18 => 4 | 19 => 5 | n => n⟩
theorem Tryd.laysM176 : Go.Proofs.LaysM.n176 Tryd.prog Tryd.laysM176_ren := {
  mixed := by kernel_rfl
  f129 := Tryd.func63.trans (congrArg some (by kernel_rfl))
  f176 := Tryd.func25.trans (congrArg some (by kernel_rfl))
  f249 := Tryd.func35.trans (congrArg some (by kernel_rfl))
  f283 := Tryd.func53.trans (congrArg some (by kernel_rfl))
  f284 := Tryd.func54.trans (congrArg some (by kernel_rfl))
  f285 := Tryd.func55.trans (congrArg some (by kernel_rfl))
  f286 := Tryd.func56.trans (congrArg some (by kernel_rfl))
  f288 := Tryd.func41.trans (congrArg some (by kernel_rfl))
  f317 := Tryd.func62.trans (congrArg some (by kernel_rfl))
  f318 := Tryd.func64.trans (congrArg some (by kernel_rfl))
  f319 := Tryd.func65.trans (congrArg some (by kernel_rfl))
  f320 := Tryd.func66.trans (congrArg some (by kernel_rfl))
  f337 := Tryd.func69.trans (congrArg some (by kernel_rfl))
  f338 := Tryd.func70.trans (congrArg some (by kernel_rfl))
  t0 := Tryd.underlying0
  a0 := Tryd.isAgg0
  z0 := Tryd.sizeOf0
  v0 := Tryd.zeroValue0
  t2 := Tryd.underlying2
  a2 := Tryd.isAgg2
  z2 := Tryd.sizeOf2
  v2 := Tryd.zeroValue2
  t3 := Tryd.underlying3
  a3 := Tryd.isAgg3
  z3 := Tryd.sizeOf3
  v3 := Tryd.zeroValue3
  t4 := Tryd.underlying4
  a4 := Tryd.isAgg4
  z4 := Tryd.sizeOf4
  v4 := Tryd.zeroValue4
  t5 := Tryd.underlying5
  a5 := Tryd.isAgg5
  z5 := Tryd.sizeOf5
  v5 := Tryd.zeroValue5
  t9 := Tryd.underlying9
  a9 := Tryd.isAgg9
  z9 := Tryd.sizeOf9
  v9 := Tryd.zeroValue9
  t20 := Tryd.underlying20
  a20 := Tryd.isAgg20
  z20 := Tryd.sizeOf20
  v20 := Tryd.zeroValue20
  t37 := Tryd.underlying23
  a37 := Tryd.isAgg23
  z37 := Tryd.sizeOf23
  v37 := Tryd.zeroValue23
  t46 := Tryd.underlying76
  a46 := Tryd.isAgg76
  z46 := Tryd.sizeOf76
  v46 := Tryd.zeroValue76
  t51 := Tryd.underlying88
  a51 := Tryd.isAgg88
  z51 := Tryd.sizeOf88
  v51 := Tryd.zeroValue88
  t53 := Tryd.underlying70
  a53 := Tryd.isAgg70
  z53 := Tryd.sizeOf70
  v53 := Tryd.zeroValue70
  t171 := Tryd.underlying83
  a171 := Tryd.isAgg83
  z171 := Tryd.sizeOf83
  v171 := Tryd.zeroValue83
  t173 := Tryd.underlying86
  a173 := Tryd.isAgg86
  z173 := Tryd.sizeOf86
  v173 := Tryd.zeroValue86
  t212 := Tryd.underlying97
  a212 := Tryd.isAgg97
  z212 := Tryd.sizeOf97
  v212 := Tryd.zeroValue97
  t213 := Tryd.underlying98
  a213 := Tryd.isAgg98
  z213 := Tryd.sizeOf98
  t232 := Tryd.underlying108
  a232 := Tryd.isAgg108
  z232 := Tryd.sizeOf108
  v232 := Tryd.zeroValue108
  t233 := Tryd.underlying109
  a233 := Tryd.isAgg109
  z233 := Tryd.sizeOf109
  v233 := Tryd.zeroValue109
  g17 := by kernel_rfl
  g18 := by kernel_rfl
  g19 := by kernel_rfl
  i0 := by kernel_rfl
  i2 := by kernel_rfl
  i3 := by kernel_rfl
  i4 := by kernel_rfl
  i5 := by kernel_rfl
  i9 := by kernel_rfl
  i20 := by kernel_rfl
  i37 := by kernel_rfl
  i46 := by kernel_rfl
  i51 := by kernel_rfl
  i53 := by kernel_rfl
  i171 := by kernel_rfl
  i173 := by kernel_rfl
  i212 := by kernel_rfl
  i232 := by kernel_rfl
  i233 := by kernel_rfl
  m17 := by kernel_rfl
  m18 := by kernel_rfl
  m19 := by kernel_rfl }
open Go.RowKit Go.Sort Go.Lib in
theorem Tryd.strconv_AppendInt_10 (B n : Nat) (i : Int) (h0 : -9223372036854775808 ≤ i) (h1 : i ≤ 9223372036854775807) (sv : Value) (xs : List Value) (w : World) (hown : w.ownsRow B 5 1 sv n xs) (hBw : B ≤ w.heap.size) (hlim : n + 21 ≤ 140737488355328) (htab : Lib.TabBelow Tryd.prog B w "internal/strconv.uint64pow10" .u64 Lib.pow10Tab) :
    Calls Tryd.prog 25 #[sv, .int .i64 i, .int .i64 10] w fun e w' => ∃ v', e = .returned v' ∧ w'.ownsRow B 5 1 v' (n + (Lib.itoa i).length) (xs ++ Lib.byteCells (Lib.itoa i)) ∧ Below B w w' ∧ Lib.OthersKept 5 none w w' := Any.strconv_AppendInt_10 Tryd.laysM176 B n i h0 h1 sv xs w hown hBw hlim htab
def Tryd.lays185_ren : Go.Shelf.Ren := ⟨fun | 185 => 37 | 187 => 43 | 115 => 44 | 253 => 45 | 224 => 46 | 254 => 47 | 255 => 57 | 291 => 58 | n => n, fun | 37 => 23 | 3 => 3 | 4 => 4 | 0 => 0 | 5 => 5 | 46 => 76 | 9 => 9 | 146 => 89 | 51 => 88 | n => n, fun | 1 => 0 | n => n⟩
theorem Tryd.lays185 : Go.Proofs.Lays.n185 Tryd.prog Tryd.lays185_ren := {
  mixed := by kernel_rfl
  f115 := Tryd.func44.trans (congrArg some (by kernel_rfl))
  f185 := Tryd.func37.trans (congrArg some (by kernel_rfl))
  f187 := Tryd.func43.trans (congrArg some (by kernel_rfl))
  f224 := Tryd.func46.trans (congrArg some (by kernel_rfl))
  f253 := Tryd.func45.trans (congrArg some (by kernel_rfl))
  f254 := Tryd.func47.trans (congrArg some (by kernel_rfl))
  f255 := Tryd.func57.trans (congrArg some (by kernel_rfl))
  f291 := Tryd.func58.trans (congrArg some (by kernel_rfl))
  t0 := Tryd.underlying0
  a0 := Tryd.isAgg0
  z0 := Tryd.sizeOf0
  v0 := Tryd.zeroValue0
  t3 := Tryd.underlying3
  a3 := Tryd.isAgg3
  z3 := Tryd.sizeOf3
  v3 := Tryd.zeroValue3
  t4 := Tryd.underlying4
  a4 := Tryd.isAgg4
  z4 := Tryd.sizeOf4
  v4 := Tryd.zeroValue4
  t5 := Tryd.underlying5
  a5 := Tryd.isAgg5
  z5 := Tryd.sizeOf5
  v5 := Tryd.zeroValue5
  t9 := Tryd.underlying9
  a9 := Tryd.isAgg9
  z9 := Tryd.sizeOf9
  v9 := Tryd.zeroValue9
  t37 := Tryd.underlying23
  a37 := Tryd.isAgg23
  z37 := Tryd.sizeOf23
  v37 := Tryd.zeroValue23
  t46 := Tryd.underlying76
  a46 := Tryd.isAgg76
  z46 := Tryd.sizeOf76
  v46 := Tryd.zeroValue76
  t51 := Tryd.underlying88
  a51 := Tryd.isAgg88
  z51 := Tryd.sizeOf88
  v51 := Tryd.zeroValue88
  t146 := Tryd.underlying89
  a146 := Tryd.isAgg89
  z146 := Tryd.sizeOf89
  v146 := Tryd.zeroValue89
  g1 := by kernel_rfl }
open Go.RowKit Go.Lib in
open Go.RowKit Go.Lib in
theorem Tryd.bytes_Index_one_nil (b2 o2 d : Nat) (cv : Int) (w : World) (hc2 : w.cell? ⟨b2, o2, none⟩ = some (.int .u8 cv)) :
    Calls Tryd.prog 37 #[.slice none 0 0, .slice (some ⟨b2, o2, none⟩) 1 d] w fun e w' => e = .returned (.int .i64 (-1)) ∧ w' = w := Any.bytes_Index_one_nil Tryd.lays185 b2 o2 d cv w hc2
open Go.RowKit Go.Lib in
theorem Tryd.bytes_Index_one_at (a : Addr) (n c b2 o2 d : Nat) (xs : List Int) (cv : Int) (w : World) (hx : xs.length = n) (hc : ∀ i, i < n → w.cell? (a.add i) = some (.int .u8 (xs.getD i 0))) (hc2 : w.cell? ⟨b2, o2, none⟩ = some (.int .u8 cv)) :
    Calls Tryd.prog 37 #[.slice (some a) n c, .slice (some ⟨b2, o2, none⟩) 1 d] w fun e w' => e = .returned (.int .i64 (Lib.indexByte (Lib.bytesOf xs) cv.toNat.toUInt8)) ∧ w' = w := Any.bytes_Index_one_at Tryd.lays185 a n c b2 o2 d xs cv w hx hc hc2
end Go.Proofs

/-
  PLAIN MATHEMATICS: a number as text, with a blank behind it; the number that stands first in bytes.
-/
namespace Go.Proofs.YtpnineimnjibaafDoor
open Go.Lib

abbrev Bs := List UInt8
/-- a number of 64 bits -/
def I6 (z : Int) : Prop := -9223372036854775808 ≤ z ∧ z ≤ 9223372036854775807

theorem digit_of {c : UInt8} {k : Nat} (hk : k < 10) (h : c = UInt8.ofNat (48 + k)) : c.toNat = 48 + k := by
  subst h
  rw [UInt8.toNat_ofNat']
  omega
theorem dec_digits (u : Nat) : ∀ c ∈ decDigits u, 48 ≤ c.toNat ∧ c.toNat ≤ 57 := by
  induction u using Nat.strongRecOn with
  | _ u ih =>
    rw [decDigits]
    split
    · rename_i h
      intro c hc
      rw [List.mem_singleton] at hc
      rw [digit_of h hc]
      omega
    · rename_i h
      intro c hc
      rcases List.mem_append.mp hc with hc | hc
      · exact ih _ (by omega) c hc
      · rw [List.mem_singleton] at hc
        rw [digit_of (Nat.mod_lt _ (by decide)) hc]
        omega
theorem dec_ne (u : Nat) : decDigits u ≠ [] := by
  rw [decDigits]
  split
  · simp
  · simp
theorem parse_dec (u : Nat) (h : u < 18446744073709551616) : ∀ r : Bs, parseUint10 0 (decDigits u ++ r) = parseUint10 u r := by
  induction u using Nat.strongRecOn with
  | _ u ih =>
    intro r
    rw [decDigits]
    split
    · rename_i h1
      rw [List.singleton_append, parseUint10, digit_of h1 rfl, if_pos (by omega), if_neg (by omega), if_neg (by omega)]
      congr 1
      omega
    · rename_i h1
      rw [List.append_assoc, ih (u / 10) (by omega) (by omega), List.singleton_append, parseUint10, digit_of (Nat.mod_lt _ (by decide)) rfl, if_pos (by omega), if_neg (by omega), if_neg (by omega)]
      congr 1
      omega
theorem mag_dec (u : Nat) (h : u < 18446744073709551616) : parseMag (decDigits u) = .ok u := by
  unfold parseMag
  rw [if_neg (dec_ne u)]
  have := parse_dec u h []
  rw [List.append_nil] at this
  rw [this, parseUint10]
/-- what Itoa writes Atoi reads -/
theorem atoi_itoa {n : Int} (h : I6 n) : atoiAll (itoa n) = .ok n := by
  obtain ⟨h0, h1⟩ := h
  by_cases hn : n < 0
  · obtain ⟨u, rfl⟩ : ∃ u : Nat, n = -(u : Int) := ⟨n.natAbs, by omega⟩
    rw [itoa_neg u (by omega), atoiAll_minus, mag_dec u (by omega), signed, if_neg (by omega)]
  · obtain ⟨u, rfl⟩ : ∃ u : Nat, n = u := ⟨n.toNat, by omega⟩
    rw [itoa_nonneg]
    cases hd : decDigits u with
    | nil => exact absurd hd (dec_ne u)
    | cons c t =>
      have hc := dec_digits u c (by rw [hd]; simp)
      rw [atoiAll_plain c t (by omega) (by omega), ← hd, mag_dec u (by omega), signless, if_neg (by omega)]
theorem itoa_noblank (n : Int) : ∀ c ∈ itoa n, c ≠ 32 := by
  intro c hc
  unfold itoa at hc
  have key : ∀ u, c ∈ decDigits u → c ≠ 32 := fun u h e => by
    have := dec_digits u c h
    rw [e] at this
    have e2 : (32 : UInt8).toNat = 32 := rfl
    omega
  split at hc
  · rcases List.mem_cons.mp hc with rfl | hc
    · decide
    · exact key _ hc
  · exact key _ hc
theorem itoa_len1 (n : Int) : 1 ≤ (itoa n).length := by
  unfold itoa
  have h : ∀ u, 1 ≤ (decDigits u).length := fun u => List.length_pos_iff.mpr (dec_ne u)
  split
  · rw [List.length_cons]; omega
  · exact h _
theorem itoa_le20 {n : Int} (h : I6 n) : (itoa n).length ≤ 20 := by
  obtain ⟨h0, h1⟩ := h
  have few : ∀ k u, u < 10 ^ k → 1 ≤ k → nDigits u ≤ k := by
    intro k
    induction k with
    | zero => intro u _ h; omega
    | succ k ih =>
      intro u hu _
      by_cases h10 : u < 10
      · rw [nDigits_small h10]; omega
      · rw [nDigits_big h10]
        rw [Nat.pow_succ] at hu
        rcases Nat.eq_zero_or_pos k with rfl | hk
        · omega
        · have := ih (u / 10) (by omega) hk
          omega
  have e19 : (10 : Nat) ^ 19 = 10000000000000000000 := by decide
  by_cases hn : n < 0
  · obtain ⟨u, rfl⟩ : ∃ u : Nat, n = -(u : Int) := ⟨n.natAbs, by omega⟩
    rw [itoa_neg u (by omega), List.length_cons, decDigits_length]
    have := few 19 u (by omega) (by decide)
    omega
  · obtain ⟨u, rfl⟩ : ∃ u : Nat, n = u := ⟨n.toNat, by omega⟩
    rw [itoa_nonneg, decDigits_length]
    have := few 19 u (by omega) (by decide)
    omega

/-! ### what stands ahead of the first blank -/
def cutB : Bs → Option (Bs × Bs)
  | [] => none
  | c :: r => if c = 32 then some ([], r) else (cutB r).map fun p => (c :: p.1, p.2)
theorem cut_app : ∀ (s r : Bs), (∀ c ∈ s, c ≠ 32) → cutB (s ++ 32 :: r) = some (s, r)
  | [], r, _ => by rw [List.nil_append, cutB, if_pos rfl]
  | c :: s, r, h => by rw [List.cons_append, cutB, if_neg (h c (by simp)), cut_app s r (fun d hd => h d (by simp [hd]))]; rfl
theorem cut_some : ∀ {l s r : Bs}, cutB l = some (s, r) → l = s ++ 32 :: r ∧ ∀ c ∈ s, c ≠ 32
  | [], s, r, h => by rw [cutB] at h; cases h
  | c :: l, s, r, h => by
    rw [cutB] at h
    split at h
    · rename_i e
      cases h
      exact ⟨by rw [e]; rfl, fun d hd => by simp at hd⟩
    · rename_i e
      cases hc : cutB l with
      | none => rw [hc] at h; cases h
      | some p =>
        rw [hc] at h
        cases h
        obtain ⟨e1, e2⟩ := cut_some (s := p.1) (r := p.2) hc
        exact ⟨by rw [List.cons_append, ← e1], fun d hd => by
          rcases List.mem_cons.mp hd with rfl | hd
          · exact e
          · exact e2 d hd⟩
/-! ### a number that stands first -/
def numB (n : Int) : Bs := itoa n ++ [32]
theorem numB_le {n : Int} (h : I6 n) : (numB n).length ≤ 21 := by
  have := itoa_le20 h
  rw [numB, List.length_append]
  simp only [List.length_cons, List.length_nil]
  omega
theorem numB_ge (n : Int) : 2 ≤ (numB n).length := by
  have := itoa_len1 n
  rw [numB, List.length_append]
  simp only [List.length_cons, List.length_nil]
  omega
def takeNum (l : Bs) : Option (Int × Bs) :=
  match cutB l with
  | none => none
  | some (s, r) => match atoiAll s with
    | .ok n => if itoa n = s then some (n, r) else none
    | _ => none
theorem takeNum_iff {l r : Bs} {n : Int} : takeNum l = some (n, r) ↔ l = numB n ++ r ∧ I6 n := by
  constructor
  · intro h
    unfold takeNum at h
    cases hc : cutB l with
    | none => rw [hc] at h; cases h
    | some p =>
      obtain ⟨s, r'⟩ := p
      rw [hc] at h
      obtain ⟨e1, _⟩ := cut_some hc
      cases ha : atoiAll s with
      | «syntax» => simp only [ha] at h; cases h
      | range => simp only [ha] at h; cases h
      | ok m =>
        simp only [ha] at h
        split at h
        · rename_i hi
          cases h
          refine ⟨?_, atoiAll_bounds ha⟩
          rw [e1, numB, hi, List.append_assoc]
          rfl
        · cases h
  · rintro ⟨rfl, h⟩
    have e : cutB (numB n ++ r) = some (itoa n, r) := by
      rw [numB, List.append_assoc]
      exact cut_app _ _ (itoa_noblank n)
    unfold takeNum
    rw [e]
    simp only [atoi_itoa h, if_true]
theorem takeNum_num {n : Int} (h : I6 n) (r : Bs) : takeNum (numB n ++ r) = some (n, r) := takeNum_iff.mpr ⟨rfl, h⟩
theorem takeNum_nil : takeNum [] = none := rfl
theorem takeNum_lt {l r : Bs} {n : Int} (h : takeNum l = some (n, r)) : r.length + 2 ≤ l.length := by
  have := numB_ge n
  rw [(takeNum_iff.mp h).1, List.length_append]
  omega
/-- nobody writes a number with more than 20 bytes -/
theorem takeNum_short {l s r : Bs} (hc : cutB l = some (s, r)) (hs : 20 < s.length) : takeNum l = none := by
  cases h : takeNum l with
  | none => rfl
  | some p =>
    obtain ⟨n, r'⟩ := p
    obtain ⟨e1, e2⟩ := takeNum_iff.mp h
    have e : cutB l = some (itoa n, r') := by
      rw [e1, numB, List.append_assoc]
      exact cut_app _ _ (itoa_noblank n)
    rw [hc] at e
    cases e
    have := itoa_le20 e2
    omega
end Go.Proofs.YtpnineimnjibaafDoor

/-
  PLAIN MATHEMATICS: what the changes make of a tree is a tree.
-/
namespace Go.Proofs.YtpnineimnjibaafDoor
namespace Tn

variable {lv : Nat → Bool} {up : Nat → Nat} {ins : Nat → Bool} {li : Nat → Bool → List Nat} {r : Nat → Nat}

end Tn
end Go.Proofs.YtpnineimnjibaafDoor

/-
  THE WALK of dom.All, and of the function in it that calls itself.
-/
namespace Go.Proofs.YtpnineimnjibaafDoor
open Go.RowKit

/-- below B all is as it was, but for block A -/
structure But (B A : Nat) (w w' : World) : Prop where
  os : w'.os = w.os
  tape : w'.tape = w.tape
  output : w'.output = w.output
  size : w.heap.size ≤ w'.heap.size
  block : ∀ k, k < B → k ≠ A → w'.heap[k]? = w.heap[k]?

theorem But.refl (B A : Nat) (w : World) : But B A w w := ⟨rfl, rfl, rfl, Nat.le_refl _, fun _ _ _ => rfl⟩
theorem But.trans {B A : Nat} {a b c : World} (h : But B A a b) (k : But B A b c) : But B A a c :=
  ⟨k.os.trans h.os, k.tape.trans h.tape, k.output.trans h.output, Nat.le_trans h.size k.size, fun i hi hn => (k.block i hi hn).trans (h.block i hi hn)⟩
theorem But.of {B A C : Nat} {w w' : World} (h : Below C w w') (hC : B ≤ C) : But B A w w' := ⟨h.os, h.tape, h.output, h.size, fun i hi _ => h.block i (by omega)⟩
theorem But.set {B A : Nat} {w w' : World} (h : But B A w w') (u : Value) : But B A w (w'.setCell ⟨A, 0, none⟩ u) := by
  have hb := (Below.refl 0 w').setCell (p := ⟨A, 0, none⟩) (Nat.zero_le _) u
  exact ⟨hb.os.trans h.os, hb.tape.trans h.tape, hb.output.trans h.output, Nat.le_trans h.size hb.size, fun i hi hn => by rw [heap_setCell_other _ _ _ _ hn]; exact h.block i hi hn⟩
theorem But.drew {B A : Nat} {w w' : World} (h : But B A w w') : But B A w w'.drew := ⟨h.os, h.tape, h.output, h.size, h.block⟩
theorem But.cell {B A : Nat} {w w' : World} (h : But B A w w') {p : Addr} {v : Value} (hv : w.cell? p = some v) (hB : w.heap.size ≤ B) (hp : p.block ≠ A) : w'.cell? p = some v := by
  have hl := lt_of_cell hv
  rw [← hv]
  exact World.cell?_of_block (h.block p.block (by omega) hp)
theorem But.below {B A : Nat} {w w' : World} (h : But B A w w') {C : Nat} (hC : C ≤ B) (hA : C ≤ A) : Below C w w' := ⟨h.os, h.tape, h.output, h.size, fun i hi => h.block i (by omega) (by omega)⟩

theorem But.cells {B A : Nat} {w w' : World} (h : But B A w w') (hB : w.heap.size ≤ B) {p : Option Addr} {n c : Nat} {xs : List Value} (hc : CellsAt w (.slice p n c) n xs) (ho : SlOff A ⟨p, n, c⟩) (hx : n = 0 → xs = []) : CellsAt w' (.slice p n c) n xs := by
  obtain ⟨p', c', e, h1, h2, h3, h4⟩ := hc
  cases e
  refine ⟨p, c, rfl, h1, h2, h3, fun i x hi => ?_⟩
  obtain ⟨b, o, e1, e2⟩ := h4 i x hi
  refine ⟨b, o, e1, h.cell e2 hB ?_⟩
  have hn : n ≠ 0 := by
    intro hn
    rw [hx hn] at hi
    simp at hi
  exact ho ⟨b, o, none⟩ e1 hn
theorem But.nd {B A : Nat} {w w' : World} (h : But B A w w') (hB : w.heap.size ≤ B) {r : Raw} {n : Tn.Nd} (hn : NdAt w r n) (ho : RawOff A r) : NdAt w' r n := by
  have e1 : r.a.n = n.attrs.length := al_of hn.attrs
  have e2 : r.k.n = n.kids.length := hl_of hn.kids
  have e3 : r.s.n = n.shadow.length := hl_of hn.shadow
  refine ⟨hn.live, hn.tag, hn.text, hn.up, hn.hasS, hn.inS, ?_, ?_, ?_⟩
  · have h9 := hn.attrs
    unfold AttrsAt at h9 ⊢
    rw [← e1] at h9 ⊢
    exact h.cells hB h9 ho.1 (fun hz => by rw [hz] at e1; have : n.attrs = [] := List.length_eq_zero_iff.mp e1.symm; rw [this]; rfl)
  · have h9 := hn.kids
    unfold IntsAt at h9 ⊢
    rw [← e2] at h9 ⊢
    exact h.cells hB h9 ho.2.1 (fun hz => by rw [hz] at e2; have : n.kids = [] := List.length_eq_zero_iff.mp e2.symm; rw [this]; rfl)
  · have h9 := hn.shadow
    unfold IntsAt at h9 ⊢
    rw [← e3] at h9 ⊢
    exact h.cells hB h9 ho.2.2 (fun hz => by rw [hz] at e3; have : n.shadow = [] := List.length_eq_zero_iff.mp e3.symm; rw [this]; rfl)
theorem OwnI.set {w : World} {B A : Nat} {v : Value} {l : List Nat} (h : OwnI w B v l) (hA : A < B) (u : Value) : OwnI (w.setCell ⟨A, 0, none⟩ u) B v l := ownsRow_setCell_below h (a := ⟨A, 0, none⟩) hA u

end Go.Proofs.YtpnineimnjibaafDoor

/-
  THE WALK of dom.All.
-/
namespace Go.Proofs.YtpnineimnjibaafDoor
open Go.RowKit

end Go.Proofs.YtpnineimnjibaafDoor

/-
  THE WALKS of dom.Find: its own function, the search, and itself.
-/
namespace Go.Proofs.YtpnineimnjibaafDoor
open Go.RowKit

def idT : ByteArray := ⟨#[105, 100]⟩
/-- the attribute id of a node -/
def idOf (d : Tn.Dc) (k : Nat) : Option ByteArray := if Tn.isN d (k : Int) true then Tn.attrOf (Tn.nd d k).attrs idT else none

end Go.Proofs.YtpnineimnjibaafDoor

/-
  THE WALKS of the search in dom.Find, and of dom.Find.
-/
namespace Go.Proofs.YtpnineimnjibaafDoor
open Go.RowKit

end Go.Proofs.YtpnineimnjibaafDoor

/-
  WHAT package flat tells, in plain mathematics; the walks of flat.isSlotted, isSlot.
-/
namespace Go.Proofs.YtpnineimnjibaafDoor
open Go.RowKit

/-- an attribute of a node -/
def attrN (d : Tn.Dc) (k : Int) (name : ByteArray) : Option ByteArray := if Tn.isN d k true then Tn.attrOf (Tn.nd d k.toNat).attrs name else none
end Go.Proofs.YtpnineimnjibaafDoor

/-
  THE WALKS of slices.IndexFunc and slices.DeleteFunc at ints, whatever the function.
-/
namespace Go.Proofs.YtpnineimnjibaafDoor
open Go.RowKit

end Go.Proofs.YtpnineimnjibaafDoor

/-
  THE WALKS of flat.copyOf, Given, Kids.
-/
namespace Go.Proofs.YtpnineimnjibaafDoor
open Go.RowKit

theorem OwnI.mono {w : World} {B C : Nat} {v : Value} {l : List Nat} (h : OwnI w B v l) (hc : C ≤ B) : OwnI w C v l := by
  obtain ⟨hl, hz⟩ := h
  refine ⟨hl, ?_⟩
  rcases hz with h5 | ⟨g, cap, cur, e, h3, h6⟩
  · exact Or.inl h5
  · exact Or.inr ⟨g, cap, cur, e, by omega, h6⟩

end Go.Proofs.YtpnineimnjibaafDoor

/-
  THE WALK of the function in flat.Shown that calls itself.
-/
namespace Go.Proofs.YtpnineimnjibaafDoor
open Go.RowKit

end Go.Proofs.YtpnineimnjibaafDoor

/-
  A SET OF NODES, AS A MAP OF THE CALL's OWN: what was put in is there, nothing else is.
-/
namespace Go.Proofs.YtpnineimnjibaafDoor
open Go.RowKit Go.Maps

/-- how a bool reads -/
def rb : Value → Option (DataW Unit × List MemPlace)
  | .bool x => some (.lit (.bool x), [])
  | _ => none

/-- block b is a map in which just the nodes of acc are true -/
def HadAt (w : World) (b : Nat) (acc : List Nat) : Prop :=
  ∃ D, w.ownsMap Tryd.prog 3 rb b acc.length D ∧ IsMap D ∧ ∀ k : Nat, D.atKey (.int .i64 (k : Int)) (.lit (.bool false)) = .lit (.bool (acc.contains k))

theorem HadAt.same {w w' : World} {b : Nat} {acc : List Nat} (h : HadAt w b acc) (hb : w'.heap[b]? = w.heap[b]?) : HadAt w' b acc := by
  obtain ⟨D, ⟨es, clock, h1, h2⟩, h3, h4⟩ := h
  exact ⟨D, ⟨es, clock, by rw [hb]; exact h1, h2⟩, h3, h4⟩
theorem HadAt.lt {w : World} {b : Nat} {acc : List Nat} (h : HadAt w b acc) : b < w.heap.size := by
  obtain ⟨D, h1, _⟩ := h
  exact h1.lt
theorem HadAt.below {w w' : World} {b : Nat} {acc : List Nat} (h : HadAt w b acc) (hb : Below w.heap.size w w') : HadAt w' b acc := h.same (hb.block b h.lt)

end Go.Proofs.YtpnineimnjibaafDoor

/-
  THE WALK of the reference's Shown.
-/
namespace Go.Proofs.YtpnineimnjibaafDoor
open Go.RowKit

end Go.Proofs.YtpnineimnjibaafDoor

/-
  CLAIMS in memory: how a slice of them reads, one of the call's own, append.
-/
namespace Go.Proofs.YtpnineimnjibaafDoor
open Go.RowKit

theorem But.owns {A B : Nat} {w w' : World} (h : But B A w w') (hB : w.heap.size ≤ B) {C e k n : Nat} {v : Value} {xs : List Value} (ho : w.ownsRow C e k v n xs) (hA : A < C) : w'.ownsRow C e k v n xs := by
  have hlt := ho.lt
  obtain ⟨hl, hz⟩ := ho
  refine ⟨hl, ?_⟩
  rcases hz with h5 | ⟨g, cap, cur, rfl, h3, h6, h7⟩
  · exact Or.inl h5
  · refine Or.inr ⟨g, cap, cur, rfl, h3, ?_, h7⟩
    rw [h.block g (by have := (hlt g rfl).2; omega) (by omega)]
    exact h6
end Go.Proofs.YtpnineimnjibaafDoor

/-
  FRAMES: all blocks are as they were, but some that are maps; sets of nodes, as maps of the call's own.
-/
namespace Go.Proofs.YtpnineimnjibaafDoor
open Go.RowKit Go.Maps

/-- all blocks are as they were, but those of S -/
structure Bt (S : List Nat) (w w' : World) : Prop where
  os : w'.os = w.os
  tape : w'.tape = w.tape
  output : w'.output = w.output
  size : w.heap.size ≤ w'.heap.size
  block : ∀ k, k < w.heap.size → k ∉ S → w'.heap[k]? = w.heap[k]?
theorem Bt.refl (S : List Nat) (w : World) : Bt S w w := ⟨rfl, rfl, rfl, Nat.le_refl _, fun _ _ _ => rfl⟩
theorem Bt.trans {S : List Nat} {a b c : World} (h : Bt S a b) (k : Bt S b c) : Bt S a c :=
  ⟨k.os.trans h.os, k.tape.trans h.tape, k.output.trans h.output, Nat.le_trans h.size k.size, fun i hi hn => (k.block i (Nat.lt_of_lt_of_le hi h.size) hn).trans (h.block i hi hn)⟩
theorem Bt.of {S : List Nat} {w w' : World} {C : Nat} (h : Below C w w') (hC : w.heap.size ≤ C) : Bt S w w' := ⟨h.os, h.tape, h.output, h.size, fun i hi _ => h.block i (by omega)⟩
theorem Bt.below {S : List Nat} {w w' : World} (h : Below w.heap.size w w') : Bt S w w' := Bt.of h (Nat.le_refl _)
theorem Bt.grow {S : List Nat} {w w' w'' : World} {A : Nat} (h : Bt S w w') (g : w'.grownBy w'' (some A)) (hA : A ∈ S) : Bt S w w'' :=
  ⟨g.os.trans h.os, g.tape.trans h.tape, g.output.trans h.output, Nat.le_trans h.size g.size, fun k hk hn => (g.block k (Nat.lt_of_lt_of_le hk h.size) (fun e => hn (by injection e with e; rw [e]; exact hA))).trans (h.block k hk hn)⟩
theorem Bt.drew {S : List Nat} {w w' : World} (h : Bt S w w') : Bt S w w'.drew := ⟨h.os, h.tape, h.output, h.size, h.block⟩
theorem Bt.low {S : List Nat} {w w' : World} (h : Bt S w w') {C : Nat} (hC : C ≤ w.heap.size) (hS : ∀ k ∈ S, C ≤ k) : Below C w w' :=
  ⟨h.os, h.tape, h.output, h.size, fun k hk => h.block k (by omega) (fun hx => by have := hS k hx; omega)⟩
theorem Bt.high {S : List Nat} {w w' w'' : World} (h : Bt S w w') {C : Nat} (k : Below C w' w'') (hC : w.heap.size ≤ C) : Bt S w w'' :=
  ⟨k.os.trans h.os, k.tape.trans h.tape, k.output.trans h.output, Nat.le_trans h.size k.size, fun i hi hn => (k.block i (by omega)).trans (h.block i hi hn)⟩
theorem Bt.cell {S : List Nat} {w w' : World} (h : Bt S w w') {p : Addr} {v : Value} (hv : w.cell? p = some v) (hp : p.block ∉ S) : w'.cell? p = some v := by
  rw [← hv]
  exact World.cell?_of_block (h.block p.block (lt_of_cell hv) hp)
theorem Bt.owns {S : List Nat} {w w' : World} (h : Bt S w w') {C e k n : Nat} {v : Value} {xs : List Value} (ho : w.ownsRow C e k v n xs) (hS : ∀ x ∈ S, x < C) : w'.ownsRow C e k v n xs := by
  have hlt := ho.lt
  obtain ⟨hl, hz⟩ := ho
  refine ⟨hl, ?_⟩
  rcases hz with h5 | ⟨g, cap, cur, rfl, h3, h6, h7⟩
  · exact Or.inl h5
  · refine Or.inr ⟨g, cap, cur, rfl, h3, ?_, h7⟩
    rw [h.block g (hlt g rfl).2 (fun hx => by have := hS g hx; omega)]
    exact h6

/-- these blocks are maps -/
def AreMaps (S : List Nat) (w : World) : Prop := ∀ k ∈ S, ∃ es c, w.heap[k]? = some (.map es c)
theorem AreMaps.below {S : List Nat} {w w' : World} (h : AreMaps S w) (hb : Below w.heap.size w w') : AreMaps S w' := fun k hk => by
  obtain ⟨es, c, e⟩ := h k hk
  exact ⟨es, c, by rw [hb.block k (Array.getElem?_eq_some_iff.1 e).1]; exact e⟩
theorem Bt.keeps {S : List Nat} {w w' : World} (h : Bt S w w') (hm : AreMaps S w) : Keeps w w' := by
  intro a v hv
  refine h.cell hv (fun hx => ?_)
  obtain ⟨es, c, e⟩ := hm _ hx
  simp [World.cell?, e] at hv
/-! ### sets -/
/-- block b is a set that holds just the nodes of S -/
def SetAt (w : World) (b : Nat) (S : List Nat) : Prop :=
  ∃ D, w.ownsMap Tryd.prog 3 (unitElem (H := Unit)) b (S.length + 1) D ∧ ∀ kl, Maps.has D kl = true ↔ ∃ k ∈ S, kl = .int .i64 (k : Int)
/-- it holds those, and n at most -/
def PreAt (w : World) (b : Nat) (S : List Nat) (n : Nat) : Prop :=
  ∃ D, w.ownsMap Tryd.prog 3 (unitElem (H := Unit)) b (S.length + 1) D ∧ (∀ kl, Maps.has D kl = true → ∃ k, (k ∈ S ∨ k = n) ∧ kl = .int .i64 (k : Int)) ∧ ∀ k ∈ S, Maps.has D (.int .i64 (k : Int)) = true

theorem SetAt.same {w w' : World} {b : Nat} {S : List Nat} (h : SetAt w b S) (hb : w'.heap[b]? = w.heap[b]?) : SetAt w' b S := by
  obtain ⟨D, ⟨es, clock, h1, h2⟩, h4⟩ := h
  exact ⟨D, ⟨es, clock, by rw [hb]; exact h1, h2⟩, h4⟩
theorem PreAt.same {w w' : World} {b n : Nat} {S : List Nat} (h : PreAt w b S n) (hb : w'.heap[b]? = w.heap[b]?) : PreAt w' b S n := by
  obtain ⟨D, ⟨es, clock, h1, h2⟩, h4⟩ := h
  exact ⟨D, ⟨es, clock, by rw [hb]; exact h1, h2⟩, h4⟩
theorem SetAt.lt {w : World} {b : Nat} {S : List Nat} (h : SetAt w b S) : b < w.heap.size := by
  obtain ⟨D, h1, _⟩ := h
  exact h1.lt
theorem PreAt.lt {w : World} {b n : Nat} {S : List Nat} (h : PreAt w b S n) : b < w.heap.size := by
  obtain ⟨D, h1, _⟩ := h
  exact h1.lt
theorem SetAt.below {w w' : World} {b : Nat} {S : List Nat} (h : SetAt w b S) (hb : Below w.heap.size w w') : SetAt w' b S := h.same (hb.block b h.lt)
theorem PreAt.below {w w' : World} {b n : Nat} {S : List Nat} (h : PreAt w b S n) (hb : Below w.heap.size w w') : PreAt w' b S n := h.same (hb.block b h.lt)
end Go.Proofs.YtpnineimnjibaafDoor

/-
  BYTES in memory: how a slice of them reads; a row of the call's own; what is appended to it; as text.
-/
namespace Go.Proofs.YtpnineimnjibaafDoor
open Go.RowKit Go.Lib

theorem infoU : (Tryd.prog.info? 5).map (fun i => (i.zero, i.size, i.bytes)) = some (some (.int .u8 0), 1, 1) := by kernel_rfl
/-- a byte -/
def u8v (c : UInt8) : Value := .int .u8 (c.toNat : Int)
theorem byteCells_at (l : Bs) (j : Nat) (h : j < l.length) : (byteCells l)[j]? = some (u8v l[j]) := by
  simp [byteCells, u8v, List.getElem?_eq_getElem h]
/-- bytes as they read; they lie in blocks of P -/
def BsAt (w : World) (P : Nat → Prop) (v : Value) (l : Bs) : Prop :=
  ∃ p c, v = .slice p l.length c ∧ l.length ≤ c ∧ c ≤ maxLen ∧ (p = none → c = 0) ∧ ∀ j (h : j < l.length), ∃ b o, p = some ⟨b, o, none⟩ ∧ P b ∧ w.cell? ⟨b, o + j, none⟩ = some (u8v l[j])
theorem BsAt.shape {w : World} {P : Nat → Prop} {v : Value} {l : Bs} (h : BsAt w P v l) : ∃ p c, v = .slice p l.length c := by
  obtain ⟨p, c, e, _⟩ := h
  exact ⟨p, c, e⟩
theorem BsAt.nil (w : World) (P : Nat → Prop) : BsAt w P (.slice none 0 0) [] := ⟨none, 0, rfl, Nat.le_refl _, by decide, fun _ => rfl, fun j h => by simp at h⟩
theorem BsAt.frame {w w' : World} {P Q : Nat → Prop} {v : Value} {l : Bs} (h : BsAt w P v l) (hf : ∀ g, P g → g < w.heap.size → w'.heap[g]? = w.heap[g]? ∧ Q g) : BsAt w' Q v l := by
  obtain ⟨p, c, e, h1, h2, h3, h4⟩ := h
  refine ⟨p, c, e, h1, h2, h3, fun j hj => ?_⟩
  obtain ⟨b, o, e1, hb, e2⟩ := h4 j hj
  obtain ⟨e3, hq⟩ := hf b hb (lt_of_cell e2)
  exact ⟨b, o, e1, hq, by rw [← e2]; exact World.cell?_of_block e3⟩
theorem BsAt.under {w w' : World} {P : Nat → Prop} {v : Value} {l : Bs} (h : BsAt w P v l) (hb : Below w.heap.size w w') : BsAt w' P v l := h.frame (fun g hg hlt => ⟨hb.block g hlt, hg⟩)
theorem BsAt.at {w : World} {P : Nat → Prop} {v : Value} {l : Bs} (h : BsAt w P v l) : ∃ p c, v = .slice p l.length c ∧ l.length ≤ c ∧ c ≤ 9223372036854775807 ∧ (p = none → c = 0) ∧
    ∀ j (hj : j < l.length), ∃ b o, p = some ⟨b, o, none⟩ ∧ P b ∧ w.cell? ⟨b, o + j, none⟩ = some (.int .u8 (l[j].toNat : Int)) := by
  obtain ⟨p, c, e, h1, h2, h3, h4⟩ := h
  exact ⟨p, c, e, h1, by unfold maxLen at h2; omega, h3, h4⟩
/-- 's[:k]', at the very address -/
theorem BsAt.take {w : World} {P : Nat → Prop} {p : Option Addr} {c n : Nat} {l : Bs} (h : BsAt w P (.slice p n c) l) (k : Nat) (hk : k ≤ l.length) : BsAt w P (.slice p k c) (l.take k) := by
  obtain ⟨p', c', e, h1, h2, h3, h4⟩ := h
  cases e
  have hl : (l.take k).length = k := by rw [List.length_take]; omega
  refine ⟨p, c, by rw [hl], by omega, h2, h3, fun j hj => ?_⟩
  obtain ⟨b, o, e1, hb, e2⟩ := h4 j (by omega)
  refine ⟨b, o, e1, hb, ?_⟩
  rw [e2, List.getElem_take]
/-- 's[k:]': at the very capacity the address stays -/
theorem BsAt.drop {w : World} {P : Nat → Prop} {p : Option Addr} {c n : Nat} {l : Bs} (h : BsAt w P (.slice p n c) l) (k : Nat) (hk : k ≤ l.length) :
    BsAt w P (.slice (if c = k then p else p.map (fun x => x.add k)) (n - k) (c - k)) (l.drop k) := by
  obtain ⟨p', c', e, h1, h2, h3, h4⟩ := h
  cases e
  have hl : (l.drop k).length = l.length - k := List.length_drop
  by_cases hc : c = k
  · rw [if_pos hc]
    exact ⟨p, c - k, by rw [hl], by omega, by omega, fun e => by have := h3 e; omega, fun j hj => by omega⟩
  · rw [if_neg hc]
    refine ⟨p.map (fun x => x.add k), c - k, by rw [hl], by omega, by omega, ?_, fun j hj => ?_⟩
    · intro e
      have hp : p = none := by
        cases p with
        | none => rfl
        | some a => cases e
      rw [h3 hp]
      omega
    · obtain ⟨b, o, e1, hb, e2⟩ := h4 (k + j) (by omega)
      refine ⟨b, o + k, by rw [e1, Option.map_some, add_at], hb, ?_⟩
      rw [List.getElem_drop, Nat.add_assoc]
      exact e2
/-- as text -/
theorem BsAt.text {w : World} {P : Nat → Prop} {v : Value} {l : Bs} (h : BsAt w P v l) : (convert 23 9 v).run Tryd.prog w = .ok (.string ⟨l.toArray⟩) w := by
  obtain ⟨p, c, rfl, h1, h2, h3, h4⟩ := h
  cases p with
  | none =>
    have hl : l = [] := by have := h3 rfl; exact List.length_eq_zero_iff.mp (by omega)
    subst hl
    exact run_convert_nil_bytes w 23 9 5 c Tryd.underlying23 Tryd.underlying5 Tryd.underlying9
  | some a =>
    exact run_convert_bytes_back w 23 9 5 a c l Tryd.underlying23 Tryd.underlying5 Tryd.underlying9 (fun j hj => by
      obtain ⟨b, o, e1, _, e2⟩ := h4 j hj
      cases e1
      rw [add_at]
      exact e2)

/-- a row of bytes of the call's own -/
def OwnB (w : World) (B : Nat) (v : Value) (l : Bs) : Prop := w.ownsRow B 5 1 v l.length (byteCells l)
theorem OwnB.nil (w : World) (B : Nat) : OwnB w B (.slice none 0 0) [] := World.ownsRow_nil _ _ _ _
theorem OwnB.shape {w : World} {B : Nat} {v : Value} {l : Bs} (h : OwnB w B v l) : ∃ p c, v = .slice p l.length c := owns_shape h
theorem OwnB.bs {w : World} {B : Nat} {v : Value} {l : Bs} (h : OwnB w B v l) : BsAt w (fun g => B ≤ g) v l := by
  have hlt := World.ownsRow.lt h
  obtain ⟨p, c, e, h1, h2, h3, h4⟩ := cells_of_owns h
  refine ⟨p, c, e, h1, h2, fun ep => ?_, fun j hj => ?_⟩
  · rcases h3 with h3 | ⟨b, o, h3⟩
    · exact h3.2
    · rw [h3] at ep; cases ep
  · obtain ⟨b, o, e1, e2⟩ := h4 j _ (byteCells_at l j hj)
    exact ⟨b, o, e1, (hlt b (by rw [e, e1]; rfl)).1, e2⟩
theorem OwnB.alloc {w : World} {B : Nat} {v : Value} {l : Bs} (h : OwnB w B v l) (o : Obj) : OwnB (w.alloc o) B v l := World.ownsRow.alloc h o
theorem OwnB.drew {w : World} {B : Nat} {v : Value} {l : Bs} (h : OwnB w B v l) : OwnB w.drew B v l := h
theorem OwnB.below {w w' : World} {B : Nat} {v : Value} {l : Bs} (h : OwnB w B v l) (hb : Below w.heap.size w w') : OwnB w' B v l := (Bt.below (S := []) hb).owns h (by simp)
theorem OwnB.mono {w : World} {B C : Nat} {v : Value} {l : Bs} (h : OwnB w B v l) (hC : C ≤ B) : OwnB w C v l := by
  obtain ⟨h1, h2⟩ := h
  refine ⟨h1, ?_⟩
  rcases h2 with h2 | ⟨g, cap, cur, e, h3, h4⟩
  · exact Or.inl h2
  · exact Or.inr ⟨g, cap, cur, e, Nat.le_trans hC h3, h4⟩
/-- a frame for what writes bytes: below B all is as it was; what is no row of bytes is kept -/
structure Wb (B : Nat) (w w' : World) : Prop where
  bel : Below B w w'
  kept : OthersKept 5 none w w'
theorem Wb.refl (B : Nat) (w : World) : Wb B w w := ⟨Below.refl _ _, OthersKept.refl _ _ _⟩
theorem Wb.trans {B : Nat} {a b c : World} (h : Wb B a b) (k : Wb B b c) : Wb B a c := ⟨h.bel.trans k.bel, h.kept.trans k.kept⟩
theorem Wb.alloc {B : Nat} {a w : World} (h : Wb B a w) (hB : B ≤ w.heap.size) (o : Obj) : Wb B a (w.alloc o) := ⟨h.bel.alloc hB o, h.kept.alloc o⟩
theorem Wb.drew {B : Nat} {a w : World} (h : Wb B a w) : Wb B a w.drew := ⟨h.bel.drew, h.kept.drew⟩
theorem Wb.size {B : Nat} {a w : World} (h : Wb B a w) : a.heap.size ≤ w.heap.size := h.bel.size
theorem Wb.grown {B : Nat} {a w w' : World} {v : Value} {l : Bs} (h : Wb B a w) (ho : OwnB w B v l) (hg : w.grownBy w' v.ownBlock) (hB : B ≤ w.heap.size) : Wb B a w' :=
  ⟨h.bel.grown hg hB (fun j hj => (World.ownsRow.lt ho j hj).1), h.kept.grown hg (fun g hg => by
    obtain ⟨_, hz⟩ := ho
    rcases hz with ⟨rfl, _⟩ | ⟨g', cap, cur, rfl, _, h6, _⟩
    · simp [Value.ownBlock] at hg
    · simp [Value.ownBlock] at hg
      subst hg
      exact ⟨_, _, h6⟩)⟩
/-- what holds no bytes is kept -/
theorem Wb.held {B : Nat} {w w' : World} (h : Wb B w w') {g : Nat} {cs : Array Value} {t : TypeId} {fz : Nat × Nat} (hg : w.heap[g]? = some (.cells cs t fz)) (ht : t ≠ 5) : w'.heap[g]? = some (.cells cs t fz) :=
  h.kept g _ hg (by simp) (fun c f e => by cases e; exact ht rfl)

/-- append of a blank, in a block that was made for it -/
theorem append_blank {wr : World} {ops : Array Oper} {rest : List Oper} {o : Oper} {a : Act} {Q : Exit → Act → World → Prop} (hgd : o.guard = none)
    (s x : Operand) (ho : o.op = Op.call { callee := Callee.builtin Builtin.append, args := #[s, x], argTypes := #[23, 23] }) {B : Nat} {v : Value} {l : Bs}
    (hs : a.eval s = v) (hx : a.eval x = .slice (some ⟨wr.heap.size, 0, none⟩) 1 1) (hown : OwnB wr B v l) (hB : B ≤ wr.heap.size) (hsz : l.length ≤ 1000000000)
    (h : ∀ v' w1, OwnB w1 B v' (l ++ [32]) → Wb B wr w1 → wpList Tryd.prog ops Q rest (a.put o.dst v') w1) :
    wpList Tryd.prog ops Q (o :: rest) a (wr.alloc (.cells #[.int .u8 32] 5)) := by
  obtain ⟨i0, hi, hz0, hz1, hz2⟩ := info_parts infoU
  refine wpList_append_own _ hgd s x 23 ho B 5 i0 (.int .u8 0) 1 1 Tryd.underlying23 hi hz0 hz1 hz2 rfl (by decide) v _ _ hs (hown.alloc _) ⟨_, 0, none⟩ 1 1 [.int .u8 32] hx rfl ?_ ?_ ?_ ?_ ?_ ?_
  · exact cell_one_new _ _ _
  · intro u hu; simp at hu; subst hu; rfl
  · unfold maxLen; omega
  · omega
  · simp; omega
  · intro v' w1 h1 h2 _
    refine h v' w1 ?_ (((Wb.refl B wr).alloc hB _).grown (hown.alloc _) h2 (by simp; omega))
    unfold OwnB
    rw [byteCells_append, List.length_append]
    exact h1
/-- append of a text -/
theorem append_text {wr : World} {ops : Array Oper} {rest : List Oper} {o : Oper} {a : Act} {Q : Exit → Act → World → Prop} (hgd : o.guard = none)
    (s x : Operand) (ho : o.op = Op.call { callee := Callee.builtin Builtin.append, args := #[s, x], argTypes := #[23, 9] }) {B : Nat} {v : Value} {l : Bs} {t : ByteArray}
    (hs : a.eval s = v) (hx : a.eval x = .string t) (hown : OwnB wr B v l) (hB : B ≤ wr.heap.size) (hsz : l.length + t.size ≤ 1000000000)
    (h : ∀ v' w1, OwnB w1 B v' (l ++ t.data.toList) → Wb B wr w1 → wpList Tryd.prog ops Q rest (a.put o.dst v') w1) :
    wpList Tryd.prog ops Q (o :: rest) a wr := by
  obtain ⟨i0, hi, hz0, hz1, hz2⟩ := info_parts infoU
  refine wpList_append_own_string wr hgd s x 23 9 ho B 5 i0 Tryd.underlying23 Tryd.underlying9 hi hz0 hz1 hz2 v _ _ hs hown t hx ?_ ?_ hB ?_
  · unfold maxLen; omega
  · omega
  · intro v' w1 h1 h2 _
    refine h v' w1 ?_ ((Wb.refl B wr).grown hown h2 hB)
    unfold OwnB
    rw [byteCells_append, List.length_append]
    exact h1
end Go.Proofs.YtpnineimnjibaafDoor

/-
  strconv's AppendInt, Itoa and Atoi, and bytes.Cut at a blank, in this place's own words.
-/
namespace Go.Proofs.YtpnineimnjibaafDoor
open Go.RowKit Go.Lib Go.Sort

/-- what strconv's tables and errors hold -/
structure Lt (w : World) : Prop where
  pow : TabIs Tryd.prog w "internal/strconv.uint64pow10" .u64 pow10Tab
  syn : ∃ tp p, w.var? Tryd.prog "strconv.ErrSyntax" = some #[.iface tp p]
  ran : ∃ tp p, w.var? Tryd.prog "strconv.ErrRange" = some #[.iface tp p]
/-- whatever is done from block B on -/
def LtB (B : Nat) (w : World) : Prop := ∀ w', Below B w w' → Lt w'
theorem LtB.here {B : Nat} {w : World} (h : LtB B w) : Lt w := h w (Below.refl _ _)
theorem LtB.on {B : Nat} {w w1 : World} (h : LtB B w) (hb : Below B w w1) : LtB B w1 := fun w' h' => h w' (hb.trans h')
theorem LtB.up {B C : Nat} {w : World} (h : LtB B w) (hC : B ≤ C) : LtB C w := fun w' h' => h w' (h'.mono hC)

theorem yappendint {w : World} {B : Nat} {v : Value} {l : Bs} (ho : OwnB w B v l) (hB : B ≤ w.heap.size) (hl : l.length ≤ 1000000000) (hL : LtB B w) {i : Int} (hi : I6 i) :
    Calls Tryd.prog 25 #[v, .int .i64 i, .int .i64 10] w fun e w' => ∃ v', e = .returned v' ∧ OwnB w' B v' (l ++ itoa i) ∧ Wb B w w' :=
  (Tryd.strconv_AppendInt_10 B l.length i hi.1 hi.2 v _ w ho hB (by omega) (fun w' h => (hL w' h).pow)).mono fun e w' ⟨v', e1, h1, h2, h3⟩ =>
    ⟨v', e1, by unfold OwnB; rw [byteCells_append, List.length_append]; exact h1, h2, h3⟩
theorem yitoa {w : World} (hL : Lt w) {n : Int} (hn : I6 n) : Calls Tryd.prog 28 #[.int .i64 n] w fun e w' => e = .returned (.string ⟨(itoa n).toArray⟩) ∧ Below w.heap.size w w' :=
  (Tryd.strconv_Itoa n hn.1 hn.2 w hL.pow).mono fun e w' ⟨e1, k, os, e2⟩ => ⟨e1, by rw [e2]; exact below_grow _ _ (Nat.le_refl _) _ _⟩
theorem yatoi_ok {w : World} {s : ByteArray} (hs : s.size ≤ 1000000000) {v : Int} (h : atoiAll s.data.toList = .ok v) :
    Calls Tryd.prog 30 #[.string s] w fun e w' => e = .returned (.tuple #[.int .i64 v, .nilIface]) ∧ Below w.heap.size w w' :=
  (Tryd.strconv_Atoi_ok s (by omega) v h w).mono fun e w' ⟨e1, h1⟩ => ⟨e1, by
    rcases h1 with rfl | ⟨t, rfl⟩
    · exact Below.refl _ _
    · exact bytesWorld_below _ _ _⟩
theorem yatoi_bad {w : World} (hL : Lt w) {s : ByteArray} (hs : s.size ≤ 1000000000) (h : ∀ v, atoiAll s.data.toList ≠ .ok v) :
    Calls Tryd.prog 30 #[.string s] w fun e w' => ∃ n t p, e = .returned (.tuple #[.int .i64 n, .iface t p]) ∧ I6 n ∧ Below w.heap.size w w' := by
  obtain ⟨tp, p, hv⟩ := hL.syn
  obtain ⟨tr, q, hr⟩ := hL.ran
  cases e : atoiAll s.data.toList with
  | ok v => exact absurd e (h v)
  | «syntax» => exact (Tryd.strconv_Atoi_syntax_var s (by omega) e tp p w hv).mono fun e w' ⟨N, e1, _, _, h3⟩ => ⟨_, _, _, e1, ⟨by decide, by decide⟩, h3⟩
  | range => exact (Tryd.strconv_Atoi_range_var s (by omega) e tr q w hr).mono fun e w' ⟨N, e1, _, _, h3⟩ => ⟨_, _, _, e1, atoiSat_bounds _, h3⟩

/-! ### bytes.Cut at a blank -/
theorem bytesOf_nums (l : Bs) : bytesOf (l.map fun c => (c.toNat : Int)) = l := by
  unfold bytesOf
  rw [List.map_map]
  have : ((fun n : Int => UInt8.ofNat n.toNat) ∘ fun c : UInt8 => (c.toNat : Int)) = id := by
    funext c
    simp
  rw [this, List.map_id]
theorem cut_index : ∀ {l s r : Bs}, cutB l = some (s, r) → indexByte l 32 = (s.length : Int)
  | [], s, r, h => by rw [cutB] at h; cases h
  | c :: l, s, r, h => by
    rw [cutB] at h
    rw [indexByte]
    split at h
    · rename_i e
      cases h
      rw [e]
      rfl
    · rename_i e
      cases hc : cutB l with
      | none => rw [hc] at h; cases h
      | some p =>
        rw [hc] at h
        cases h
        have ih := cut_index (s := p.1) (r := p.2) hc
        have e1 : (c == (32 : UInt8)) = false := beq_false_of_ne e
        rw [e1, ih, List.length_cons]
        have e2 : (((p.1.length : Nat) : Int) == -1) = false := by
          rw [beq_eq_false_iff_ne]
          omega
        rw [e2]
        simp
theorem cut_no_index : ∀ {l : Bs}, cutB l = none → indexByte l 32 = -1
  | [], _ => rfl
  | c :: l, h => by
    rw [cutB] at h
    rw [indexByte]
    split at h
    · cases h
    · rename_i e
      have hl : cutB l = none := by
        cases hc : cutB l with
        | none => rfl
        | some p => rw [hc] at h; cases h
      have e1 : (c == (32 : UInt8)) = false := beq_false_of_ne e
      rw [e1, cut_no_index hl]
      rfl
theorem yindex {w : World} {P : Nat → Prop} {v : Value} {l : Bs} (h : BsAt w P v l) {g d : Nat} (hg : w.cell? ⟨g, 0, none⟩ = some (.int .u8 32)) :
    Calls Tryd.prog 37 #[v, .slice (some ⟨g, 0, none⟩) 1 d] w fun e w' => e = .returned (.int .i64 (indexByte l 32)) ∧ w' = w := by
  obtain ⟨p, c, rfl, h1, h2, h3, h4⟩ := h
  cases p with
  | none =>
    have hc := h3 rfl
    obtain rfl : l = [] := List.length_eq_zero_iff.mp (by omega)
    subst hc
    exact Tryd.bytes_Index_one_nil g 0 d 32 w hg
  | some a =>
    have hx : (l.map fun c => (c.toNat : Int)).length = l.length := List.length_map _
    have := Tryd.bytes_Index_one_at a l.length c g 0 d (l.map fun c => (c.toNat : Int)) 32 w hx (fun i hi => by
      obtain ⟨b, o, e1, _, e2⟩ := h4 i hi
      cases e1
      rw [add_at, e2]
      simp [u8v, List.getD, List.getElem?_eq_getElem hi]) hg
    rw [bytesOf_nums] at this
    exact this
set_option maxHeartbeats 1600000 in
theorem ycut_none {w : World} {P : Nat → Prop} {v : Value} {l : Bs} (h : BsAt w P v l) {g : Nat} (hg : w.cell? ⟨g, 0, none⟩ = some (.int .u8 32)) (hc : cutB l = none) :
    Calls Tryd.prog 29 #[v, .slice (some ⟨g, 0, none⟩) 1 1] w fun e w' => e = .returned (.tuple #[v, .slice none 0 0, .bool false]) ∧ w' = w := by
  have C := yindex (d := 1) h hg
  rw [cut_no_index hc] at C
  obtain ⟨p, c, rfl⟩ := h.shape
  clear hc hg h
  generalize l.length = n at *
  go_enter Tryd.func29, Tryd.ntmps29
  go_wp2_with (go_at_call 37; refine C.mono ?_; rintro e w' ⟨rfl, rfl⟩)
  go_ret3
  exact ⟨rfl, rfl⟩
set_option maxHeartbeats 1600000 in
theorem ycut_some {w : World} {P : Nat → Prop} {v : Value} {l s r : Bs} (h : BsAt w P v l) {g : Nat} (hg : w.cell? ⟨g, 0, none⟩ = some (.int .u8 32)) (hc : cutB l = some (s, r)) :
    Calls Tryd.prog 29 #[v, .slice (some ⟨g, 0, none⟩) 1 1] w fun e w' => ∃ v1 v2, e = .returned (.tuple #[v1, v2, .bool true]) ∧ BsAt w' P v1 s ∧ BsAt w' P v2 r ∧ Below w.heap.size w w' := by
  have C := yindex (d := 1) h hg
  rw [cut_index hc] at C
  obtain ⟨el, _⟩ := cut_some hc
  have hll : l.length = s.length + (1 + r.length) := by rw [el, List.length_append, List.length_cons]; omega
  obtain ⟨p, c, rfl, h1, h2, h3, h4⟩ := h.at
  have E1 := h.take s.length (by omega)
  have E2 := h.drop (s.length + 1) (by omega)
  rw [show l.take s.length = s by rw [el, List.take_left]] at E1
  rw [show l.drop (s.length + 1) = r by
    rw [el, show s ++ 32 :: r = (s ++ [32]) ++ r by simp, show s.length + 1 = (s ++ [32]).length by simp, List.drop_left]] at E2
  have HE1 : Hid (BsAt w P (.slice p s.length c) s) := E1
  have HE2 : Hid (BsAt w P (.slice (if c = s.length + 1 then p else p.map (fun x => x.add (s.length + 1))) (l.length - (s.length + 1)) (c - (s.length + 1))) r) := E2
  clear E1 E2 hc hg el h4 h h3
  generalize l.length = n at *
  generalize s.length = k at *
  generalize r.length = m at *
  subst hll
  have mixed : Tryd.prog.follows .mixedOrders = true := by kernel_rfl
  go_enter Tryd.func29, Tryd.ntmps29
  go_wp2_with (go_at_call 37; refine C.mono ?_; rintro e w' ⟨rfl, rfl⟩)
  go_region_o
  all_goals go_wp2
  all_goals go_ret3
  all_goals exact ⟨_, _, rfl, BsAt.under (by simpa [*] using HE1.out) (Below.refl _ _).drew, BsAt.under (by simpa [*, Addr.add] using HE2.out) (Below.refl _ _).drew, (Below.refl _ _).drew⟩
end Go.Proofs.YtpnineimnjibaafDoor

/-
  WHAT THE ROW's LIST GIVES: strconv's table and errors.
-/
namespace Go.Proofs.YtpnineimnjibaafDoor
open Go.ChangeShapes Go.WideShapes Go.ChangeAt Go.RowKit

theorem gPow : Tryd.prog.globalNamed "internal/strconv.uint64pow10" = some 3 := by kernel_rfl
theorem gPowType : (Tryd.prog.globals[3]?).map (·.type) = some 97 := by kernel_rfl
theorem gSyn : Tryd.prog.globalNamed "strconv.ErrSyntax" = some 1 := by kernel_rfl
theorem gSynType : (Tryd.prog.globals[1]?).map (·.type) = some 63 := by kernel_rfl
theorem gRan : Tryd.prog.globalNamed "strconv.ErrRange" = some 2 := by kernel_rfl
theorem gRanType : (Tryd.prog.globals[2]?).map (·.type) = some 63 := by kernel_rfl
theorem cellsPow : Tryd.prog.cellsOf 97 = 20 := by kernel_rfl
theorem cellsU64 : Tryd.prog.cellsOf 70 = 1 := by kernel_rfl
theorem cellsErrs : Tryd.prog.cellsOf 106 = 1 := by kernel_rfl
theorem cellsStr : Tryd.prog.cellsOf 9 = 1 := by kernel_rfl
theorem starErr : "*" ++ "errors.errorString" = "*errors.errorString" := by decide
/-- THE ONE ROW OF THAT NAME. -/
theorem rowErr (u : TypeId) (h : Tryd.prog.typeName? 3 u = some "*errors.errorString") : u = 104 :=
  typeName_ptr_named (nm := "errors.errorString") (by rw [starErr]; kernel_rfl) (by kernel_rfl) (by decide) u (by rw [starErr]; exact h)
theorem pow_data : Rows.laid_internal_strconv_uint64pow10 = (Lib.tabData .u64 Lib.pow10Tab : DataW Unit) := by kernel_rfl
theorem lt_of_laid {W : World} (h : laidMetH Tryd.prog [("math/bits.deBruijn32tab", Rows.laid_math_bits_deBruijn32tab), ("math/bits.deBruijn64tab", Rows.laid_math_bits_deBruijn64tab), ("internal/strconv.uint64pow10", Rows.laid_internal_strconv_uint64pow10), ("strconv.ErrRange", Rows.laid_strconv_ErrRange), ("strconv.ErrSyntax", Rows.laid_strconv_ErrSyntax)] W) : Lt W := by
  rw [MakeChecks.laidMetH_plain _ _ _ (by kernel_rfl)] at h
  have h2 := h.tail.tail
  rw [pow_data] at h2
  have h3 := h2.tail
  obtain ⟨a1, s1, e1, _⟩ := laid_sentinel h3 gRan gRanType Tryd.underlying63 rowErr Tryd.underlying104 Tryd.underlying106 rfl rfl Tryd.underlying9 cellsErrs cellsStr
  obtain ⟨a2, s2, e2, _⟩ := laid_sentinel h3.tail gSyn gSynType Tryd.underlying63 rowErr Tryd.underlying104 Tryd.underlying106 rfl rfl Tryd.underlying9 cellsErrs cellsStr
  exact ⟨Lib.tabIs_of_head gPow gPowType Tryd.underlying97 Tryd.underlying70 cellsU64 cellsPow h2, ⟨_, _, e2⟩, ⟨_, _, e1⟩⟩
theorem var_below {W W' : World} {B : Nat} {n : String} {g : Nat} {cs : Array Value} (hg : Tryd.prog.globalNamed n = some g) (hgB : g < B) (hb : Below B W W') (h : W.var? Tryd.prog n = some cs) : W'.var? Tryd.prog n = some cs := by
  unfold World.var? at h ⊢
  rw [hg] at h ⊢
  simp only [Option.bind_some] at h ⊢
  rw [hb.block g hgB]
  exact h
/-- whatever the call does beyond what there was -/
theorem ltb_of_laid {W : World} (h : Lt W) : LtB W.heap.size W := fun W' hb => by
  have lt : ∀ {n : String} {g : Nat} {cs : Array Value}, Tryd.prog.globalNamed n = some g → W.var? Tryd.prog n = some cs → g < W.heap.size := fun {n g cs} hg hv => by
    unfold World.var? at hv
    rw [hg] at hv
    simp only [Option.bind_some] at hv
    rcases Nat.lt_or_ge g W.heap.size with h' | h'
    · exact h'
    · simp [Array.getElem?_eq_none h'] at hv
  obtain ⟨tp, p, e1⟩ := h.syn
  obtain ⟨tq, q, e2⟩ := h.ran
  exact ⟨var_below gPow (lt gPow h.pow) hb h.pow, ⟨tp, p, var_below gSyn (lt gSyn e1) hb e1⟩, ⟨tq, q, var_below gRan (lt gRan e2) hb e2⟩⟩
end Go.Proofs.YtpnineimnjibaafDoor

/-
  PLAIN MATHEMATICS: what is told of a document: each once, nothing hidden, nothing forgotten, nothing bare.
-/
namespace Go.Proofs.YtpnineimnjibaafDoor
open Tn

/-- an item -/
inductive It where
  | mk (node : Nat) (role : Int) (name about : ByteArray) (level checked : Int) (off : Bool) (kids : List It) : It

mutual
def nodes1 : It → List Nat
  | .mk n _ _ _ _ _ _ ks => n :: nodesL ks
def nodesL : List It → List Nat
  | [] => []
  | x :: xs => nodes1 x ++ nodesL xs
end

/-! ### who is in whom -/

/-! ### the way up -/

/-! ### each once, and nothing hidden -/

/-! ### nothing is forgotten -/

/-! ### nothing bare -/

end Go.Proofs.YtpnineimnjibaafDoor

/-
  PLAIN MATHEMATICS: levels, what is checked, what else is told of a node; how much is told.
-/
namespace Go.Proofs.YtpnineimnjibaafDoor
open Tn

/-! ### the parts of an item -/
def It.node : It → Nat | .mk n _ _ _ _ _ _ _ => n
def It.role : It → Int | .mk _ r _ _ _ _ _ _ => r
def It.name : It → ByteArray | .mk _ _ a _ _ _ _ _ => a
def It.about : It → ByteArray | .mk _ _ _ a _ _ _ _ => a
def It.level : It → Int | .mk _ _ _ _ l _ _ _ => l
def It.checked : It → Int | .mk _ _ _ _ _ c _ _ => c
def It.off : It → Bool | .mk _ _ _ _ _ _ o _ => o
def It.kids : It → List It | .mk _ _ _ _ _ _ _ k => k

theorem nodes_pos (x : It) : 1 ≤ (nodes1 x).length := by cases x with | mk => rw [nodes1]; simp
theorem nodes1_eq (x : It) : nodes1 x = x.node :: nodesL x.kids := by cases x with | mk => rw [nodes1]; rfl
theorem top_few : ∀ l : List It, l.length ≤ (nodesL l).length
  | [] => Nat.zero_le _
  | x :: l => by
    rw [nodesL, List.length_append, List.length_cons]
    have h1 := nodes_pos x
    have h2 := top_few l
    omega

/-! ### how deep it goes -/
end Go.Proofs.YtpnineimnjibaafDoor
