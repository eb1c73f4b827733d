/-
  OWN WORK: Mod, Rd, Ap, Ris, Rwi, Ral, Rta.
-/
import Derived.Lib.Strings
import Derived.Test.YtbinbojicmhdlaeGreatDoorProg
import Derived.WalkKit
import Derived.WalkSpells
import Derived.WalkLawsBesides
import Derived.Laws.AppendOwnNone
import Derived.Deep.RegionWith
import Derived.Deep.RegionLaw
import Derived.Deep.Cut
/-
  PLAIN MATHEMATICS: documents as lists of nodes, and what the reference's functions make of them.
-/
namespace Go.Proofs.YtbinbojicmhdlaeGreatDoor
namespace Tn

structure Nd where
  live : Bool
  tag : ByteArray
  text : ByteArray
  attrs : List (ByteArray × ByteArray)
  up : Int
  kids : List Nat
  hasS : Bool
  shadow : List Nat
  inS : Bool

abbrev Dc := List Nd

def zero : Nd := ⟨false, ⟨#[]⟩, ⟨#[]⟩, [], 0, [], false, [], false⟩

def nd (d : Dc) (k : Nat) : Nd := (d[k]?).getD zero

def has (s : ByteArray) : Bool := !s.toList.isEmpty

def isN (d : Dc) (n : Int) (el : Bool) : Bool := decide (0 ≤ n) && decide (n < d.length) && (nd d n.toNat).live && (!el || has (nd d n.toNat).tag)

def path : Nat → Dc → Int → List Nat
  | 0, _, _ => []
  | f + 1, d, n => if isN d n false then n.toNat :: path f d (nd d n.toNat).up else []

def pathOf (d : Dc) (n : Int) : List Nat := path (d.length + 1) d n

def within (d : Dc) (n m : Int) : Bool := (pathOf d n).any fun k => decide ((k : Int) = m)

def all : Nat → Dc → Nat → List Nat
  | 0, _, _ => []
  | f + 1, d, n => if isN d n false then n :: ((nd d n).shadow.flatMap (all f d) ++ (nd d n).kids.flatMap (all f d)) else []

def deepL (g : Nat → Nat) (l : List Nat) (m : Nat) : Nat := l.foldl (fun m k => max m (1 + g k)) m

def deepest : Nat → Dc → Nat → Nat
  | 0, _, _ => 0
  | f + 1, d, n => deepL (deepest f d) (nd d n).kids (deepL (deepest f d) (nd d n).shadow 0)

/-- the recursion from n down ends within f calls, at nodes of the document -/
def Ends : Nat → Dc → Nat → Prop
  | 0, _, _ => False
  | f + 1, d, n => n < d.length ∧ (∀ k ∈ (nd d n).shadow, Ends f d k) ∧ (∀ k ∈ (nd d n).kids, Ends f d k)

def withd (d : Dc) (k : Nat) (n : Nd) : Dc := if k = d.length then d ++ [n] else d.set k n

def without (l : List Nat) (k : Nat) : List Nat := l.filter fun x => x != k

def lastAt (l : List Nat) (b : Int) : Nat → Int
  | 0 => -1
  | k + 1 => if ((l[k]?.getD 0 : Nat) : Int) = b then (k : Int) else lastAt l b k

def listOf (n : Nd) (s : Bool) : List Nat := if s then n.shadow else n.kids

def setList (n : Nd) (s : Bool) (l : List Nat) : Nd := if s then { n with shadow := l } else { n with kids := l }

def place (l : List Nat) (b : Int) : Int := if 0 ≤ b then lastAt l b l.length else l.length

def insertAt (l : List Nat) (i k : Nat) : List Nat := l.take i ++ [k] ++ l.drop i

def put1 (d : Dc) (k m : Nat) (b : Int) (s : Bool) : Dc := withd d m (setList (nd d m) s (insertAt (listOf (nd d m) s) (place (listOf (nd d m) s) b).toNat k))

/-- the steps of a fixed recursion -/
def fuel : Nat := 64

def putE (d : Dc) (k m : Nat) (b : Int) (s : Bool) : Int :=
  if place (listOf (nd d m) s) b < 0 then 8
  else if 12 ≤ (listOf (nd d m) s).length then 5
  else if (16 : Int) < ((pathOf (put1 d k m b s) k).length : Int) - 1 + (deepest fuel (put1 d k m b s) k : Int) then 3 else 0

def freeAt (d : Dc) : Nat → Nat
  | 0 => d.length
  | f + 1 => if (nd d (d.length - (f + 1))).live then freeAt d f else d.length - (f + 1)

def free (d : Dc) : Nat := freeAt d d.length

def made (x : Nd) (m : Nat) (s : Bool) : Nd := { x with live := true, up := (m : Int), inS := s }

def takeD (d : Dc) (k : Nat) : Dc :=
  withd d (nd d k).up.toNat { nd d (nd d k).up.toNat with kids := without (nd d (nd d k).up.toNat).kids k, shadow := without (nd d (nd d k).up.toNat).shadow k }


abbrev At := ByteArray × ByteArray

def eqS (a b : ByteArray) : Bool := a.toList == b.toList
def lessS (a b : ByteArray) : Bool := decide (a.toList < b.toList)

def aStep (name value : ByteArray) (s : List At × Bool) (a : At) : List At × Bool :=
  if eqS a.1 name then (s.1 ++ [(a.1, value)], true)
  else if lessS name a.1 && !s.2 then (s.1 ++ [(name, value)] ++ [a], true)
  else (s.1 ++ [a], s.2)

def aFold (name value : ByteArray) (l : List At) : List At × Bool := l.foldl (aStep name value) ([], false)

def attrsD (l : List At) (name value : ByteArray) : List At :=
  if (aFold name value l).2 then (aFold name value l).1 else (aFold name value l).1 ++ [(name, value)]

def attrOf (l : List At) (name : ByteArray) : Option ByteArray := (l.find? fun a => eqS a.1 name).map (·.2)

def attrsOff (l : List At) (name : ByteArray) : List At := l.filter fun a => !eqS a.1 name

def digitB (c : UInt8) : Bool := decide (48 ≤ c.toNat) && decide (c.toNat ≤ 57)
def letterB (c : UInt8) : Bool := decide (97 ≤ c.toNat) && decide (c.toNat ≤ 122)
def okB (c : UInt8) : Bool := letterB c || digitB c || c == 45
def nameL (l : List UInt8) : Bool := !l.isEmpty && decide (l.length ≤ 20) && letterB (l.headD 0) && l.all okB
def okName (s : ByteArray) : Bool := nameL s.data.toList

structure Chg where
  kind : Int
  node : Int
  to : Int
  before : Int
  name : ByteArray
  value : ByteArray

def slotT : List UInt8 := [115, 108, 111, 116]

/-- what a change makes of a document, not yet without its last nodes; the error, the node -/
def moveE (d : Dc) (x : Chg) : Int :=
  if x.node = 0 ∨ isN d x.to true = false then 8
  else if within d x.to x.node then 9
  else if x.before = x.node then 8
  else putE (withd (takeD d x.node.toNat) x.node.toNat { nd d x.node.toNat with up := x.to, inS := false }) x.node.toNat x.to.toNat x.before false

def moveD (d : Dc) (x : Chg) : Dc :=
  put1 (withd (takeD d x.node.toNat) x.node.toNat { nd d x.node.toNat with up := x.to, inS := false }) x.node.toNat x.to.toNat x.before false

def removeD (d : Dc) (x : Chg) : Dc := (all fuel d x.node.toNat).foldl (fun d k => withd d k zero) (takeD d x.node.toNat)

def sayE (d : Dc) (x : Chg) : Int := if has (nd d x.node.toNat).tag ∨ 60 < x.value.size then 8 else 0
def sayD (d : Dc) (x : Chg) : Dc := withd d x.node.toNat { nd d x.node.toNat with text := x.value }

def attrE (d : Dc) (x : Chg) : Int :=
  if okName x.name = false then 7
  else if 60 < x.value.size then 4
  else if 8 < (attrsD (nd d x.node.toNat).attrs x.name x.value).length then 5 else 0
def attrD (d : Dc) (x : Chg) : Dc := withd d x.node.toNat { nd d x.node.toNat with attrs := attrsD (nd d x.node.toNat).attrs x.name x.value }

def clearE (d : Dc) (x : Chg) : Int := if (attrOf (nd d x.node.toNat).attrs x.name).isSome then 0 else 6
def clearD (d : Dc) (x : Chg) : Dc := withd d x.node.toNat { nd d x.node.toNat with attrs := attrsOff (nd d x.node.toNat).attrs x.name }

def shadE (d : Dc) (x : Chg) : Int := if x.node = 0 ∨ (nd d x.node.toNat).hasS = true ∨ (nd d x.node.toNat).tag.toList = slotT then 8 else 0
def shadD (d : Dc) (x : Chg) : Dc := withd d x.node.toNat { nd d x.node.toNat with hasS := true }

def isText (x : Chg) : Bool := x.kind == 2 || x.kind == 10
def isSh (x : Chg) : Bool := x.kind == 9 || x.kind == 10
def newN (x : Chg) : Nd := if isText x then { zero with text := x.value } else { zero with tag := x.name }
def bef (x : Chg) : Int := if isSh x then -1 else x.before

def mk1 (d : Dc) (x : Chg) : Dc := withd d (free d) (made (newN x) x.node.toNat (isSh x))
def makeE (d : Dc) (x : Chg) : Int :=
  if isText x = true ∧ 60 < x.value.size then 4
  else if isText x = false ∧ okName x.name = false then 7
  else if isSh x = true ∧ (nd d x.node.toNat).hasS = false then 8
  else if 60 ≤ free d then 5
  else putE (mk1 d x) (free d) x.node.toNat (bef x) (isSh x)
def makeD (d : Dc) (x : Chg) : Dc := put1 (mk1 d x) (free d) x.node.toNat (bef x) (isSh x)

def chgE (d : Dc) (x : Chg) : Int :=
  if x.kind = 3 then moveE d x
  else if x.kind = 4 then (if x.node = 0 then 8 else 0)
  else if x.kind = 7 then sayE d x
  else if has (nd d x.node.toNat).tag = false then 8
  else if x.kind = 5 then attrE d x
  else if x.kind = 6 then clearE d x
  else if x.kind = 8 then shadE d x
  else makeE d x

def chgD (d : Dc) (x : Chg) : Dc :=
  if x.kind = 3 then moveD d x
  else if x.kind = 4 then removeD d x
  else if x.kind = 7 then sayD d x
  else if x.kind = 5 then attrD d x
  else if x.kind = 6 then clearD d x
  else if x.kind = 8 then shadD d x
  else makeD d x

def chgN (d : Dc) (x : Chg) : Int :=
  if x.kind = 3 ∨ x.kind = 4 ∨ x.kind = 5 ∨ x.kind = 6 ∨ x.kind = 7 ∨ x.kind = 8 then x.node else free d

def lastLive (d : Dc) : Nat → Nat
  | 0 => 1
  | k + 1 => if (nd d k).live ∧ lastLive d k ≤ k then k + 1 else lastLive d k

def trimD (d : Dc) : Dc := d.take (lastLive d d.length)

def applyE (d : Dc) (x : Chg) : Int :=
  if x.kind < 1 ∨ 10 < x.kind then 1
  else if isN d x.node false = false then 6
  else chgE d x
def applyD (d : Dc) (x : Chg) : Dc := trimD (chgD d x)

def root : Nd := ⟨true, ⟨#[109, 97, 105, 110]⟩, ⟨#[]⟩, [], -1, [], false, [], false⟩

def step (d : Dc) (x : Chg) : Dc := if applyE d x = 0 then applyD d x else d
def build (l : List Chg) : Dc := l.foldl step [root]

end Tn
end Go.Proofs.YtbinbojicmhdlaeGreatDoor

/-
  HOW DOCUMENTS LIE IN MEMORY: rows of cells, nodes as they lie, nodes as they read.
-/
namespace Go.Proofs.YtbinbojicmhdlaeGreatDoor
open Go.RowKit

theorem infoI : (Tryz.prog.info? 3).map (fun i => (i.zero, i.size, i.bytes)) = some (some (.int .i64 0), 1, 8) := by kernel_rfl
theorem infoA : (Tryz.prog.info? 83).map (fun i => (i.zero, i.size, i.bytes)) = some (some (.agg #[.string ⟨#[]⟩, .string ⟨#[]⟩]), 2, 32) := by kernel_rfl
theorem infoN : (Tryz.prog.info? 46).map (fun i => (i.zero, i.size, i.bytes)) = some (some (.agg #[.bool false, .string ⟨#[]⟩, .string ⟨#[]⟩, .slice none 0 0, .int .i64 0, .slice none 0 0, .bool false, .slice none 0 0, .bool false]), 9, 136) := by kernel_rfl

/-- a slice v of n elements of k cells each; its cells hold xs -/
def CellsAt (w : World) (v : Value) (n : Nat) (xs : List Value) : Prop :=
  ∃ p c, v = .slice p n c ∧ n ≤ c ∧ c ≤ maxLen ∧ ((p = none ∧ c = 0) ∨ ∃ b o, p = some ⟨b, o, none⟩) ∧ ∀ j x, xs[j]? = some x → ∃ b o, p = some ⟨b, o, none⟩ ∧ w.cell? ⟨b, o + j, none⟩ = some x

def iv (k : Nat) : Value := .int .i64 (k : Int)
def av (a : ByteArray × ByteArray) : List Value := [.string a.1, .string a.2]

def IntsAt (w : World) (v : Value) (l : List Nat) : Prop := CellsAt w v l.length (l.map iv)
def AttrsAt (w : World) (v : Value) (l : List (ByteArray × ByteArray)) : Prop := CellsAt w v l.length (l.flatMap av)

/-- a slice as it lies -/
structure Sl where
  p : Option Addr
  n : Nat
  c : Nat

/-- a node as it lies -/
structure Raw where
  live : Bool
  tag : ByteArray
  text : ByteArray
  a : Sl
  up : Int
  k : Sl
  hasS : Bool
  s : Sl
  inS : Bool

def Raw.cells (r : Raw) : List Value := [.bool r.live, .string r.tag, .string r.text, (.slice r.a.p r.a.n r.a.c), .int .i64 r.up, (.slice r.k.p r.k.n r.k.c), .bool r.hasS, (.slice r.s.p r.s.n r.s.c), .bool r.inS]

structure NdAt (w : World) (r : Raw) (n : Tn.Nd) : Prop where
  live : r.live = n.live
  tag : r.tag = n.tag
  text : r.text = n.text
  up : r.up = n.up
  hasS : r.hasS = n.hasS
  inS : r.inS = n.inS
  attrs : AttrsAt w (.slice r.a.p r.a.n r.a.c) n.attrs
  kids : IntsAt w (.slice r.k.p r.k.n r.k.c) n.kids
  shadow : IntsAt w (.slice r.s.p r.s.n r.s.c) n.shadow

/-- the row of nodes at b, o -/
structure RowOf (w : World) (b o : Nat) (rs : List Raw) : Prop where
  c0 : ∀ k (h : k < rs.length), w.cell? ⟨b, o + k * 9, none⟩ = some (.bool rs[k].live)
  c1 : ∀ k (h : k < rs.length), w.cell? ⟨b, o + k * 9 + 1, none⟩ = some (.string rs[k].tag)
  c2 : ∀ k (h : k < rs.length), w.cell? ⟨b, o + k * 9 + 2, none⟩ = some (.string rs[k].text)
  c3 : ∀ k (h : k < rs.length), w.cell? ⟨b, o + k * 9 + 3, none⟩ = some (.slice rs[k].a.p rs[k].a.n rs[k].a.c)
  c4 : ∀ k (h : k < rs.length), w.cell? ⟨b, o + k * 9 + 4, none⟩ = some (.int .i64 rs[k].up)
  c5 : ∀ k (h : k < rs.length), w.cell? ⟨b, o + k * 9 + 5, none⟩ = some (.slice rs[k].k.p rs[k].k.n rs[k].k.c)
  c6 : ∀ k (h : k < rs.length), w.cell? ⟨b, o + k * 9 + 6, none⟩ = some (.bool rs[k].hasS)
  c7 : ∀ k (h : k < rs.length), w.cell? ⟨b, o + k * 9 + 7, none⟩ = some (.slice rs[k].s.p rs[k].s.n rs[k].s.c)
  c8 : ∀ k (h : k < rs.length), w.cell? ⟨b, o + k * 9 + 8, none⟩ = some (.bool rs[k].inS)

/-- a document that is not nil -/
structure DocAt (w : World) (b o c : Nat) (rs : List Raw) (d : Tn.Dc) : Prop where
  cap : rs.length ≤ c
  capM : c ≤ maxLen
  len : rs.length = d.length
  row : RowOf w b o rs
  nds : ∀ k (h : k < rs.length) (h' : k < d.length), NdAt w rs[k] d[k]

theorem lt_of_cell {w : World} {a : Addr} {v : Value} (h : w.cell? a = some v) : a.block < w.heap.size := by
  apply Classical.byContradiction
  intro hn
  have e : w.heap[a.block]? = none := by simp; omega
  simp [World.cell?, e] at h

/-- all cells that there were hold what they held -/
def Keeps (w w' : World) : Prop := ∀ a v, w.cell? a = some v → w'.cell? a = some v

theorem Keeps.refl (w : World) : Keeps w w := fun _ _ h => h
theorem Keeps.trans {a b c : World} (h : Keeps a b) (k : Keeps b c) : Keeps a c := fun _ _ x => k _ _ (h _ _ x)
theorem keeps_below {B : Nat} {w w' : World} (hb : Below B w w') (hB : w.heap.size ≤ B) : Keeps w w' := by
  intro a v h
  rw [hb.cell (Nat.lt_of_lt_of_le (lt_of_cell h) hB)]
  exact h
theorem keeps_alloc (w : World) (o : Obj) : Keeps w (w.alloc o) := keeps_below ((Below.refl w.heap.size w).alloc (Nat.le_refl _) o) (Nat.le_refl _)

theorem CellsAt.keeps {w w' : World} {v : Value} {n : Nat} {xs : List Value} (h : CellsAt w v n xs) (k : Keeps w w') : CellsAt w' v n xs := by
  obtain ⟨p, c, e, h1, h2, h3, h4⟩ := h
  refine ⟨p, c, e, h1, h2, h3, fun j x hx => ?_⟩
  obtain ⟨b, o, e1, e2⟩ := h4 j x hx
  exact ⟨b, o, e1, k _ _ e2⟩
theorem IntsAt.keeps {w w' : World} {v : Value} {l : List Nat} (h : IntsAt w v l) (k : Keeps w w') : IntsAt w' v l := CellsAt.keeps h k
theorem AttrsAt.keeps {w w' : World} {v : Value} {l : List (ByteArray × ByteArray)} (h : AttrsAt w v l) (k : Keeps w w') : AttrsAt w' v l := CellsAt.keeps h k
theorem NdAt.keeps {w w' : World} {r : Raw} {n : Tn.Nd} (h : NdAt w r n) (k : Keeps w w') : NdAt w' r n :=
  ⟨h.live, h.tag, h.text, h.up, h.hasS, h.inS, h.attrs.keeps k, h.kids.keeps k, h.shadow.keeps k⟩
theorem RowOf.keeps {w w' : World} {b o : Nat} {rs : List Raw} (h : RowOf w b o rs) (k : Keeps w w') : RowOf w' b o rs :=
  ⟨fun i hi => k _ _ (h.c0 i hi), fun i hi => k _ _ (h.c1 i hi), fun i hi => k _ _ (h.c2 i hi), fun i hi => k _ _ (h.c3 i hi), fun i hi => k _ _ (h.c4 i hi),
    fun i hi => k _ _ (h.c5 i hi), fun i hi => k _ _ (h.c6 i hi), fun i hi => k _ _ (h.c7 i hi), fun i hi => k _ _ (h.c8 i hi)⟩
theorem DocAt.keeps {w w' : World} {b o c : Nat} {rs : List Raw} {d : Tn.Dc} (h : DocAt w b o c rs d) (k : Keeps w w') : DocAt w' b o c rs d :=
  ⟨h.cap, h.capM, h.len, h.row.keeps k, fun i hi hi' => (h.nds i hi hi').keeps k⟩

theorem ints_nil (w : World) : IntsAt w (.slice none 0 0) [] := ⟨none, 0, rfl, Nat.le_refl _, by decide, Or.inl ⟨rfl, rfl⟩, fun j x h => by simp at h⟩

theorem add_at (g o j : Nat) : Addr.add ⟨g, o, none⟩ j = ⟨g, o + j, none⟩ := by
  by_cases h : j = 0 <;> simp [Addr.add, h]
def slen : Value → Nat
  | .slice _ n _ => n
  | _ => 0
theorem owns_shape {w : World} {B e k n : Nat} {v : Value} {xs : List Value} (h : w.ownsRow B e k v n xs) : ∃ p c, v = .slice p n c := by
  obtain ⟨hl, h2⟩ := h
  rcases h2 with ⟨rfl, rfl⟩ | ⟨g, cap, cur, rfl, _⟩
  · exact ⟨none, 0, rfl⟩
  · exact ⟨_, _, rfl⟩
theorem cells_of_owns {w : World} {B e k n : Nat} {v : Value} {xs : List Value} (h : w.ownsRow B e k v n xs) : CellsAt w v n xs := by
  have hc := fun g hg => World.ownsRow.cells h (g := g) hg
  obtain ⟨hl, h2⟩ := h
  rcases h2 with ⟨rfl, rfl⟩ | ⟨g, cap, cur, rfl, h3, h4, h5, h6, h7, h8⟩
  · exact ⟨none, 0, rfl, Nat.le_refl _, by decide, Or.inl ⟨rfl, rfl⟩, fun j x hx => by have : xs = [] := List.length_eq_zero_iff.mp (by omega); subst this; simp at hx⟩
  · refine ⟨_, cap, rfl, h5, h6, Or.inr ⟨g, 0, rfl⟩, fun j x hx => ⟨g, 0, rfl, ?_⟩⟩
    rw [← add_at]; exact hc g rfl j x hx
/-- a slice of ints of the call's own -/
def OwnI (w : World) (B : Nat) (v : Value) (l : List Nat) : Prop := w.ownsRow B 3 1 v l.length (l.map iv)
theorem OwnI.nil (w : World) (B : Nat) : OwnI w B (.slice none 0 0) [] := World.ownsRow_nil _ _ _ _
theorem OwnI.shape {w : World} {B : Nat} {v : Value} {l : List Nat} (h : OwnI w B v l) : ∃ p c, v = .slice p l.length c := owns_shape h
theorem ints_of_owns {w : World} {B : Nat} {v : Value} {l : List Nat} (h : OwnI w B v l) : IntsAt w v l := cells_of_owns h

/-- an element of a slice of ints, in the walk's own form -/
theorem IntsAt.at {w : World} {v : Value} {l : List Nat} (h : IntsAt w v l) : ∃ p c, v = .slice p l.length c ∧ l.length ≤ c ∧ c ≤ 9223372036854775807 ∧ ((p = none ∧ c = 0) ∨ ∃ b o, p = some ⟨b, o, none⟩) ∧
    ∀ j (hj : j < l.length), ∃ b o, p = some ⟨b, o, none⟩ ∧ w.cell? ⟨b, o + j, none⟩ = some (.int .i64 (l[j] : Int)) := by
  obtain ⟨p, c, e, h1, h2, h3, h4⟩ := h
  refine ⟨p, c, e, h1, by unfold maxLen at h2; omega, h3, fun j hj => ?_⟩
  exact h4 j _ (by simp [List.getElem?_eq_getElem hj, iv])

theorem flat_at {α : Type} (f : α → List Value) (k : Nat) (hf : ∀ a, (f a).length = k) : ∀ (l : List α) (i j : Nat), j < k → (l.flatMap f)[i * k + j]? = (l[i]?).bind fun a => (f a)[j]?
  | [], i, j, _ => by simp
  | a :: l, 0, j, hj => by
    rw [List.flatMap_cons, List.getElem?_append_left (by rw [hf]; omega)]
    simp
  | a :: l, i + 1, j, hj => by
    rw [List.flatMap_cons, List.getElem?_append_right (by rw [hf, Nat.succ_mul]; omega), hf]
    have e : (i + 1) * k + j - k = i * k + j := by rw [Nat.succ_mul]; omega
    rw [e, flat_at f k hf l i j hj]
    simp

theorem flat_len {α : Type} (f : α → List Value) (k : Nat) (hf : ∀ a, (f a).length = k) (l : List α) : (l.flatMap f).length = l.length * k := by
  induction l with
  | nil => simp
  | cons a l ih => rw [List.flatMap_cons, List.length_append, ih, hf, List.length_cons, Nat.succ_mul]; omega

theorem raw_len (r : Raw) : r.cells.length = 9 := rfl
theorem av_len (a : ByteArray × ByteArray) : (av a).length = 2 := rfl

theorem row_of_cells {w : World} {b o : Nat} {rs : List Raw} (h : ∀ j x, (rs.flatMap Raw.cells)[j]? = some x → w.cell? ⟨b, o + j, none⟩ = some x) : RowOf w b o rs := by
  have e : ∀ k (hk : k < rs.length) i, i < 9 → ∀ x, rs[k].cells[i]? = some x → w.cell? ⟨b, o + k * 9 + i, none⟩ = some x := by
    intro k hk i hi x hx
    have := h (k * 9 + i) x (by rw [flat_at Raw.cells 9 raw_len rs k i hi, List.getElem?_eq_getElem hk]; exact hx)
    rw [← Nat.add_assoc] at this
    exact this
  exact ⟨fun k hk => e k hk 0 (by decide) _ rfl, fun k hk => e k hk 1 (by decide) _ rfl, fun k hk => e k hk 2 (by decide) _ rfl, fun k hk => e k hk 3 (by decide) _ rfl, fun k hk => e k hk 4 (by decide) _ rfl,
    fun k hk => e k hk 5 (by decide) _ rfl, fun k hk => e k hk 6 (by decide) _ rfl, fun k hk => e k hk 7 (by decide) _ rfl, fun k hk => e k hk 8 (by decide) _ rfl⟩

theorem cells_of_row {w : World} {b o : Nat} {rs : List Raw} (h : RowOf w b o rs) : ∀ j x, (rs.flatMap Raw.cells)[j]? = some x → w.cell? ⟨b, o + j, none⟩ = some x := by
  intro j x hx
  have hj : j / 9 * 9 + j % 9 = j := by omega
  have hm : j % 9 < 9 := by omega
  rw [← hj, flat_at Raw.cells 9 raw_len rs _ _ hm] at hx
  by_cases hk : j / 9 < rs.length
  · rw [List.getElem?_eq_getElem hk] at hx
    rw [← hj, ← Nat.add_assoc]
    generalize j % 9 = m at *
    generalize j / 9 = k at *
    simp only [Option.bind_some] at hx
    have : m = 0 ∨ m = 1 ∨ m = 2 ∨ m = 3 ∨ m = 4 ∨ m = 5 ∨ m = 6 ∨ m = 7 ∨ m = 8 := by omega
    rcases this with rfl | rfl | rfl | rfl | rfl | rfl | rfl | rfl | rfl <;> simp [Raw.cells] at hx <;> subst hx
    · exact h.c0 k hk
    · exact h.c1 k hk
    · exact h.c2 k hk
    · exact h.c3 k hk
    · exact h.c4 k hk
    · exact h.c5 k hk
    · exact h.c6 k hk
    · exact h.c7 k hk
    · exact h.c8 k hk
  · rw [List.getElem?_eq_none (by omega)] at hx
    simp at hx

theorem row_of_owns {w : World} {B : Nat} {v : Value} {rs : List Raw} (h : w.ownsRow B 46 9 v rs.length (rs.flatMap Raw.cells)) (hn : 0 < rs.length) :
    ∃ g c, v = .slice (some ⟨g, 0, none⟩) rs.length c ∧ rs.length ≤ c ∧ c ≤ maxLen ∧ B ≤ g ∧ RowOf w g 0 rs := by
  have hc := fun g hg => World.ownsRow.cells h (g := g) hg
  obtain ⟨hl, h2⟩ := h
  rcases h2 with ⟨rfl, hz⟩ | ⟨g, cap, cur, rfl, h3, h4, h5, h6, h7, h8⟩
  · omega
  · exact ⟨g, cap, rfl, h5, h6, h3, row_of_cells (fun j x hx => by rw [← add_at]; exact hc g rfl j x hx)⟩
end Go.Proofs.YtbinbojicmhdlaeGreatDoor

/-
  LAWS ON append, in the form that the walks take.
-/
namespace Go.Proofs.YtbinbojicmhdlaeGreatDoor
open Go.RowKit

/-- blocks of other types than int's are as they were -/
def Others (w w' : World) : Prop := ∀ (g : Nat) (cs : Array Value) (t : TypeId), w.heap[g]? = some (Obj.cells cs t) → t ≠ 3 → w'.heap[g]? = some (Obj.cells cs t)
theorem Others.trans {a b c : World} (h : Others a b) (k : Others b c) : Others a c := fun g cs t x hx => k g cs t (h g cs t x hx) hx
theorem others_alloc (w : World) (o : Obj) : Others w (w.alloc o) := by
  intro g cs t h _
  have hlt : g < w.heap.size := by
    apply Classical.byContradiction
    intro hn
    rw [Array.getElem?_eq_none (by omega)] at h
    cases h
  rw [heap_alloc_old w o hlt]
  exact h
theorem others_below {w w' : World} {B : Nat} (hb : Below B w w') (hB : w.heap.size ≤ B) : Others w w' := by
  intro g cs t h _
  have hlt : g < w.heap.size := by
    apply Classical.byContradiction
    intro hn
    rw [Array.getElem?_eq_none (by omega)] at h
    cases h
  rw [hb.block g (by omega)]
  exact h
theorem others_grown {w w' : World} {B k n : Nat} {v : Value} {xs : List Value} (hown : w.ownsRow B 3 k v n xs) (hg : w.grownBy w' v.ownBlock) : Others w w' := by
  intro g cs t h ht
  have hlt : g < w.heap.size := by
    apply Classical.byContradiction
    intro hn
    rw [Array.getElem?_eq_none (by omega)] at h
    cases h
  rw [hg.block g hlt ?_]
  · exact h
  · intro he
    obtain ⟨_, hz⟩ := hown
    rcases hz with ⟨rfl, _⟩ | ⟨g', cap, cur, rfl, h3, h6, h7⟩
    · simp [Value.ownBlock] at he
    · simp [Value.ownBlock] at he
      subst he
      rw [h6] at h
      cases h
      exact ht rfl

theorem append_int1 {w0 wr : World} {ops : Array Oper} {rest : List Oper} {o : Oper} {a : Act} {Q : Exit → Act → World → Prop} (hgd : o.guard = none)
    (s x : Operand) (ho : o.op = Op.call { callee := Callee.builtin Builtin.append, args := #[s, x], argTypes := #[33, 33] }) {B : Nat} {v : Value} {l : List Nat} (k : Nat)
    (hs : a.eval s = v) (hx : a.eval x = .slice (some ⟨wr.heap.size, 0, none⟩) 1 1) (hown : OwnI wr B v l) (hnx : Below B w0 wr) (hB : B ≤ wr.heap.size) (hsz : l.length ≤ 1000000)
    (h : ∀ v' w1, OwnI w1 B v' (l ++ [k]) → Below B w0 w1 → w1.heap.size ≥ B → Others wr w1 → wpList Tryz.prog ops Q rest (a.put o.dst v') w1) :
    wpList Tryz.prog ops Q (o :: rest) a (wr.alloc (.cells #[.int .i64 (k : Int)] 3)) := by
  obtain ⟨i0, hi, hz0, hz1, hz2⟩ := info_parts infoI
  unfold OwnI at hown h
  refine wpList_append_own _ hgd s x 33 ho B 3 i0 (.int .i64 0) 1 8 Tryz.underlying33 hi hz0 hz1 hz2 rfl (by decide) v _ _ hs (hown.alloc _) ⟨_, 0, none⟩ 1 1 [iv k] hx rfl ?_ ?_ ?_ ?_ ?_ ?_
  · exact cell_one_new _ _ _
  · intro u hu; simp at hu; subst hu; rfl
  · unfold maxLen; omega
  · omega
  · simp; omega
  · intro v' w1 h1 h2 _
    have hn := (hnx.alloc hB (.cells #[.int .i64 (k : Int)] 3)).grown h2 (by simp; omega) (fun j hj => (hown.lt j hj).1)
    exact h v' w1 (by simpa using h1) hn (by have h5 := h2.size; have : (wr.alloc (.cells #[.int .i64 (k : Int)] 3)).heap.size = wr.heap.size + 1 := by simp
                                             omega) ((others_alloc _ _).trans (others_grown (hown.alloc _) h2))

theorem grown_refl (w : World) (row : Option Nat) : w.grownBy w row := ⟨rfl, rfl, rfl, Nat.le_refl _, fun _ _ _ => rfl⟩

theorem wp_append_ints {w0 wr : World} {o : Oper} {a : Act} {K : Act → World → Prop} {Q : Exit → Act → World → Prop}
    (s x : Operand) (ho : o.op = Op.call { callee := Callee.builtin Builtin.append, args := #[s, x], argTypes := #[33, 33] }) {B : Nat} {v u : Value} {l m : List Nat}
    (hs : a.eval s = v) (hx : a.eval x = u) (hown : OwnI wr B v l) (hm : IntsAt wr u m) (hnx : Below B w0 wr) (hB : B ≤ wr.heap.size) (hsz : l.length + m.length ≤ 1000000)
    (h : ∀ v' w1, OwnI w1 B v' (l ++ m) → Below B w0 w1 → w1.heap.size ≥ B → Others wr w1 → wr.grownBy w1 v.ownBlock → K (a.put o.dst v') w1) : o.wp Tryz.prog a wr K Q := by
  obtain ⟨i0, hi, hz0, hz1, hz2⟩ := info_parts infoI
  unfold OwnI at hown h
  obtain ⟨p, c, rfl, h1, h2, h3, h4⟩ := hm
  cases p with
  | none =>
    have hc : c = 0 := by
      rcases h3 with h3 | ⟨_, _, h3⟩
      · exact h3.2
      · cases h3
    subst hc
    have hl : m = [] := List.length_eq_zero_iff.mp (by omega)
    subst hl
    have hrun := run_append_owned_none (P := Tryz.prog) (w := wr) B 33 o.type 3 i0 1 Tryz.underlying33 hi v _ _ hown
    have hk := h v wr (by simpa using hown) hnx hB (fun _ _ _ h _ => h) (grown_refl _ _)
    unfold Oper.wp
    simp [execOp, ho, resolve, invoke, builtin, hs, hx, hrun, Result.andThen]
    exact hk
  | some ad =>
    by_cases hm0 : m = []
    · subst hm0
      refine wp_append_own _ s x 33 ho B 3 i0 (.int .i64 0) 1 8 Tryz.underlying33 hi hz0 hz1 hz2 rfl (by decide) v _ _ hs hown ad 0 c [] hx rfl ?_ ?_ ?_ ?_ ?_ ?_
      · intro j u hu; simp at hu
      · intro u hu; simp at hu
      · unfold maxLen; omega
      · omega
      · exact hB
      · intro v' w1 k1 k2 _
        exact h v' w1 (by simpa using k1) (hnx.grown k2 hB (fun j hj => (hown.lt j hj).1)) (by have := k2.size; omega) (others_grown hown k2) k2
    · obtain ⟨b, off, e, _⟩ := h4 0 (iv (m[0]'(by cases m with | nil => exact absurd rfl hm0 | cons a t => simp))) (by cases m with | nil => exact absurd rfl hm0 | cons a t => simp)
      cases e
      refine wp_append_own _ s x 33 ho B 3 i0 (.int .i64 0) 1 8 Tryz.underlying33 hi hz0 hz1 hz2 rfl (by decide) v _ _ hs hown ⟨b, off, none⟩ m.length c (m.map iv) hx (by simp) ?_ ?_ ?_ ?_ ?_ ?_
      · intro j u hu
        obtain ⟨b', o', e1, e2⟩ := h4 j u hu
        cases e1
        rw [add_at]
        exact e2
      · intro u hu
        simp at hu
        obtain ⟨q, _, rfl⟩ := hu
        rfl
      · unfold maxLen; omega
      · omega
      · exact hB
      · intro v' w1 k1 k2 _
        exact h v' w1 (by simpa using k1) (hnx.grown k2 hB (fun j hj => (hown.lt j hj).1)) (by have := k2.size; omega) (others_grown hown k2) k2

theorem append_ints {w0 wr : World} {ops : Array Oper} {rest : List Oper} {o : Oper} {a : Act} {Q : Exit → Act → World → Prop} (hgd : o.guard = none)
    (s x : Operand) (ho : o.op = Op.call { callee := Callee.builtin Builtin.append, args := #[s, x], argTypes := #[33, 33] }) {B : Nat} {v u : Value} {l m : List Nat}
    (hs : a.eval s = v) (hx : a.eval x = u) (hown : OwnI wr B v l) (hm : IntsAt wr u m) (hnx : Below B w0 wr) (hB : B ≤ wr.heap.size) (hsz : l.length + m.length ≤ 1000000)
    (h : ∀ v' w1, OwnI w1 B v' (l ++ m) → Below B w0 w1 → w1.heap.size ≥ B → Others wr w1 → wpList Tryz.prog ops Q rest (a.put o.dst v') w1) :
    wpList Tryz.prog ops Q (o :: rest) a wr :=
  wpList_plain hgd fun _ hK => wp_append_ints s x ho hs hx hown hm hnx hB hsz fun v' w1 h2 h3 h4 h5 _ => hK _ _ (h v' w1 h2 h3 h4 h5)

theorem step_append_ints {w0 wr : World} {ops : Array Oper} {o : Oper} {a : Act} {K : Act → World → Prop} {Q : Exit → Act → World → Prop} {E : Prop} (hgd : o.guard = none)
    (s x : Operand) (ho : o.op = Op.call { callee := Callee.builtin Builtin.append, args := #[s, x], argTypes := #[33, 33] }) {B : Nat} {v u : Value} {l m : List Nat}
    (hs : a.eval s = v) (hx : a.eval x = u) (hown : OwnI wr B v l) (hm : IntsAt wr u m) (hnx : Below B w0 wr) (hB : B ≤ wr.heap.size) (hsz : l.length + m.length ≤ 1000000)
    (h : ∀ v' w1, OwnI w1 B v' (l ++ m) → Below B w0 w1 → w1.heap.size ≥ B → Others wr w1 → wr.grownBy w1 v.ownBlock → K (a.put o.dst v') w1) :
    if Region.wanted o (yielded ops a.tmps) = true then Oper.wp Tryz.prog o a wr K Q else E := by
  have hw : Region.wanted o (yielded ops a.tmps) = true := by simp [Region.wanted, hgd]
  rw [if_pos hw]
  exact wp_append_ints s x ho hs hx hown hm hnx hB hsz h

/-- a row of nodes of the call's own -/
def OwnN (w : World) (B : Nat) (v : Value) (rs : List Raw) : Prop := w.ownsRow B 46 9 v rs.length (rs.flatMap Raw.cells)
def Raw.agg (r : Raw) : Value := .agg #[.bool r.live, .string r.tag, .string r.text, (.slice r.a.p r.a.n r.a.c), .int .i64 r.up, (.slice r.k.p r.k.n r.k.c), .bool r.hasS, (.slice r.s.p r.s.n r.s.c), .bool r.inS]
def zeroN : Value := .agg #[.bool false, .string ⟨#[]⟩, .string ⟨#[]⟩, .slice none 0 0, .int .i64 0, .slice none 0 0, .bool false, .slice none 0 0, .bool false]

theorem oneCells_mem (rs : List Raw) : ∀ u ∈ rs.flatMap Raw.cells, u.oneCell' = true := by
  intro u hu
  rw [List.mem_flatMap] at hu
  obtain ⟨r, hr, hm⟩ := hu
  simp only [Raw.cells, List.mem_cons, List.not_mem_nil, or_false] at hm
  rcases hm with rfl | rfl | rfl | rfl | rfl | rfl | rfl | rfl | rfl <;> rfl

theorem own_empty (w : World) (B : Nat) (hB : B ≤ w.heap.size) : OwnN (w.alloc (.cells #[] 46)) B (.slice (some ⟨w.heap.size, 0, none⟩) 0 0) [] :=
  World.ownsRow_made w #[] 0 hB (by unfold maxLen; omega) rfl

theorem own_empty2 (w : World) (o : Obj) (B : Nat) (hB : B ≤ w.heap.size) : OwnN ((w.alloc o).alloc (.cells #[] 46)) B (.slice (some ⟨w.heap.size + 1, 0, none⟩) 0 0) [] := by
  have h := own_empty (w.alloc o) B (by simp; omega)
  simpa using h

theorem append_nodes {w0 wr : World} {ops : Array Oper} {rest : List Oper} {o : Oper} {a : Act} {Q : Exit → Act → World → Prop} (hgd : o.guard = none)
    (s x : Operand) (ho : o.op = Op.call { callee := Callee.builtin Builtin.append, args := #[s, x], argTypes := #[24, 24] }) {B : Nat} {v : Value} {rs ts : List Raw} {b f c : Nat}
    (hs : a.eval s = v) (hx : a.eval x = .slice (some ⟨b, f, none⟩) ts.length c) (hown : OwnN wr B v rs) (hrow : RowOf wr b f ts) (hnx : Below B w0 wr) (hB : B ≤ wr.heap.size) (hsz : rs.length + ts.length ≤ 1000000)
    (h : ∀ v' w1, OwnN w1 B v' (rs ++ ts) → Below B w0 w1 → wr.grownBy w1 v.ownBlock → wpList Tryz.prog ops Q rest (a.put o.dst v') w1) :
    wpList Tryz.prog ops Q (o :: rest) a wr := by
  obtain ⟨i0, hi, hz0, hz1, hz2⟩ := info_parts infoN
  unfold OwnN at hown h
  refine wpList_append_own _ hgd s x 24 ho B 46 i0 zeroN 9 136 Tryz.underlying24 hi hz0 hz1 hz2 rfl (by decide) v _ _ hs hown ⟨b, f, none⟩ ts.length c (ts.flatMap Raw.cells) hx (flat_len _ 9 raw_len _) ?_ ?_ ?_ ?_ ?_ ?_
  · intro j u hu
    rw [add_at]
    exact cells_of_row hrow j u hu
  · exact oneCells_mem ts
  · unfold maxLen; omega
  · omega
  · exact hB
  · intro v' w1 k1 k2 _
    exact h v' w1 (by simpa using k1) (hnx.grown k2 hB (fun j hj => (hown.lt j hj).1)) k2


/-- a node in a block of its own -/
structure BoxAt (w : World) (g : Nat) (r : Raw) : Prop where
  c0 : w.cell? ⟨g, 0, none⟩ = some (.bool r.live)
  c1 : w.cell? ⟨g, 1, none⟩ = some (.string r.tag)
  c2 : w.cell? ⟨g, 2, none⟩ = some (.string r.text)
  c3 : w.cell? ⟨g, 3, none⟩ = some (.slice r.a.p r.a.n r.a.c)
  c4 : w.cell? ⟨g, 4, none⟩ = some (.int .i64 r.up)
  c5 : w.cell? ⟨g, 5, none⟩ = some (.slice r.k.p r.k.n r.k.c)
  c6 : w.cell? ⟨g, 6, none⟩ = some (.bool r.hasS)
  c7 : w.cell? ⟨g, 7, none⟩ = some (.slice r.s.p r.s.n r.s.c)
  c8 : w.cell? ⟨g, 8, none⟩ = some (.bool r.inS)

theorem BoxAt.keeps {w w' : World} {g : Nat} {r : Raw} (h : BoxAt w g r) (k : Keeps w w') : BoxAt w' g r :=
  ⟨k _ _ h.c0, k _ _ h.c1, k _ _ h.c2, k _ _ h.c3, k _ _ h.c4, k _ _ h.c5, k _ _ h.c6, k _ _ h.c7, k _ _ h.c8⟩
theorem BoxAt.grown {w w' : World} {g : Nat} {r : Raw} (h : BoxAt w g r) {row : Option Nat} (hg : w.grownBy w' row) (hne : some g ≠ row) : BoxAt w' g r :=
  ⟨hg.cell h.c0 hne, hg.cell h.c1 hne, hg.cell h.c2 hne, hg.cell h.c3 hne, hg.cell h.c4 hne, hg.cell h.c5 hne, hg.cell h.c6 hne, hg.cell h.c7 hne, hg.cell h.c8 hne⟩
theorem box_new (w : World) (r : Raw) (t : Nat) : BoxAt (w.alloc (.cells #[.bool r.live, .string r.tag, .string r.text, (.slice r.a.p r.a.n r.a.c), .int .i64 r.up, (.slice r.k.p r.k.n r.k.c), .bool r.hasS, (.slice r.s.p r.s.n r.s.c), .bool r.inS] t)) w.heap.size r := by
  constructor <;> rw [World.cell?_alloc_new] <;> rfl

/-- a row of the call's own at its place k: what the walk wants for a store -/
theorem own_at {w : World} {B : Nat} {v : Value} {rs : List Raw} (h : OwnN w B v rs) (hn : 0 < rs.length) :
    ∃ g c, v = .slice (some ⟨g, 0, none⟩) rs.length c ∧ rs.length ≤ c ∧ c ≤ maxLen ∧ B ≤ g ∧ g < w.heap.size ∧ RowOf w g 0 rs ∧ (∀ j, w.frozen? ⟨g, j, none⟩ = false) := by
  have hc := row_of_owns h hn
  obtain ⟨g, c, rfl, h1, h2, h3, h4⟩ := hc
  have hlt := (World.ownsRow.lt h g rfl).2
  obtain ⟨hl, hz⟩ := h
  rcases hz with ⟨h5, _⟩ | ⟨g', cap, cur, e, _, h6, _⟩
  · cases h5
  · cases e
    exact ⟨g, c, rfl, h1, h2, h3, hlt, h4, fun j => by simp [World.frozen?, h6]⟩


theorem owns_set {w : World} {B e k n g c : Nat} {xs : List Value} (h : w.ownsRow B e k (.slice (some ⟨g, 0, none⟩) n c) n xs) (i : Nat) (x : Value) :
    (w.setCell ⟨g, i, none⟩ x).ownsRow B e k (.slice (some ⟨g, 0, none⟩) n c) n (xs.set i x) := by
  obtain ⟨hl, hz⟩ := h
  rcases hz with ⟨h5, _⟩ | ⟨g', cap, cur, e, h3, h6, h7, h8, h9, h10⟩
  · cases h5
  · cases e
    refine ⟨by simpa using hl, Or.inr ⟨g, c, cur.setIfInBounds i x, rfl, h3, heap_setCell_same _ _ _ _ _ _ h6, h7, h8, by simpa using h9, ?_⟩⟩
    rw [← h10, Array.toList_setIfInBounds, List.take_set]

theorem flat_set (r : Raw) : ∀ (rs : List Raw) (k : Nat), k < rs.length →
    (((((((((rs.flatMap Raw.cells).set (k * 9) (.bool r.live)).set (k * 9 + 1) (.string r.tag)).set (k * 9 + 2) (.string r.text)).set (k * 9 + 3) (.slice r.a.p r.a.n r.a.c)).set (k * 9 + 4) (.int .i64 r.up)).set (k * 9 + 5) (.slice r.k.p r.k.n r.k.c)).set (k * 9 + 6) (.bool r.hasS)).set (k * 9 + 7) (.slice r.s.p r.s.n r.s.c)).set (k * 9 + 8) (.bool r.inS)
      = (rs.set k r).flatMap Raw.cells
  | [], k, h => by simp at h
  | a :: l, 0, _ => by simp [Raw.cells]
  | a :: l, k + 1, h => by
    have ih := flat_set r l k (by simpa using h)
    have e : ∀ (xs : List Value) (j : Nat) (x : Value), (a.cells ++ xs).set ((k + 1) * 9 + j) x = a.cells ++ xs.set (k * 9 + j) x := by
      intro xs j x
      rw [List.set_append_right _ _ (by rw [raw_len]; omega), raw_len]
      congr 2
      omega
    have e0 : ∀ (xs : List Value) (x : Value), (a.cells ++ xs).set ((k + 1) * 9) x = a.cells ++ xs.set (k * 9) x := fun xs x => e xs 0 x
    rw [List.flatMap_cons, e0, e, e, e, e, e, e, e, e, ih, List.set_cons_succ, List.flatMap_cons]

theorem own_setN {w : World} {B g n c : Nat} {rs : List Raw} (hn : n = rs.length) (h : OwnN w B (.slice (some ⟨g, 0, none⟩) n c) rs) (r : Raw) (k : Nat) (hk : k < rs.length) :
    OwnN (((((((((w.setCell ⟨g, k * 9, none⟩ (.bool r.live)).setCell ⟨g, k * 9 + 1, none⟩ (.string r.tag)).setCell ⟨g, k * 9 + 2, none⟩ (.string r.text)).setCell ⟨g, k * 9 + 3, none⟩ (.slice r.a.p r.a.n r.a.c)).setCell ⟨g, k * 9 + 4, none⟩ (.int .i64 r.up)).setCell
      ⟨g, k * 9 + 5, none⟩ (.slice r.k.p r.k.n r.k.c)).setCell ⟨g, k * 9 + 6, none⟩ (.bool r.hasS)).setCell ⟨g, k * 9 + 7, none⟩ (.slice r.s.p r.s.n r.s.c)).setCell ⟨g, k * 9 + 8, none⟩ (.bool r.inS)) B (.slice (some ⟨g, 0, none⟩) n c) (rs.set k r) := by
  subst hn
  unfold OwnN at *
  have := owns_set (owns_set (owns_set (owns_set (owns_set (owns_set (owns_set (owns_set (owns_set h (k * 9) (.bool r.live)) (k * 9 + 1) (.string r.tag)) (k * 9 + 2) (.string r.text)) (k * 9 + 3) (.slice r.a.p r.a.n r.a.c)) (k * 9 + 4) (.int .i64 r.up)) (k * 9 + 5) (.slice r.k.p r.k.n r.k.c)) (k * 9 + 6) (.bool r.hasS)) (k * 9 + 7) (.slice r.s.p r.s.n r.s.c)) (k * 9 + 8) (.bool r.inS)
  rw [flat_set r rs k hk] at this
  rw [List.length_set]
  exact this

theorem below_setN {w w0 : World} {B g : Nat} (h : Below B w0 w) (hg : B ≤ g) (r : Raw) (k : Nat) :
    Below B w0 (((((((((w.setCell ⟨g, k * 9, none⟩ (.bool r.live)).setCell ⟨g, k * 9 + 1, none⟩ (.string r.tag)).setCell ⟨g, k * 9 + 2, none⟩ (.string r.text)).setCell ⟨g, k * 9 + 3, none⟩ (.slice r.a.p r.a.n r.a.c)).setCell ⟨g, k * 9 + 4, none⟩ (.int .i64 r.up)).setCell
      ⟨g, k * 9 + 5, none⟩ (.slice r.k.p r.k.n r.k.c)).setCell ⟨g, k * 9 + 6, none⟩ (.bool r.hasS)).setCell ⟨g, k * 9 + 7, none⟩ (.slice r.s.p r.s.n r.s.c)).setCell ⟨g, k * 9 + 8, none⟩ (.bool r.inS)) :=
  ((((((((h.setCell hg _).setCell hg _).setCell hg _).setCell hg _).setCell hg _).setCell hg _).setCell hg _).setCell hg _).setCell hg _


theorem append_node1 {w0 wr : World} {ops : Array Oper} {rest : List Oper} {o : Oper} {a : Act} {Q : Exit → Act → World → Prop} (hgd : o.guard = none)
    (s x : Operand) (ho : o.op = Op.call { callee := Callee.builtin Builtin.append, args := #[s, x], argTypes := #[24, 24] }) {B : Nat} {v : Value} {rs : List Raw} (r : Raw)
    (hs : a.eval s = v) (hx : a.eval x = .slice (some ⟨wr.heap.size, 0, none⟩) 1 1) (hown : OwnN wr B v rs) (hnx : Below B w0 wr) (hB : B ≤ wr.heap.size) (hsz : rs.length < 1000000)
    (h : ∀ v' w1, OwnN w1 B v' (rs ++ [r]) → Below B w0 w1 → wpList Tryz.prog ops Q rest (a.put o.dst v') w1) :
    wpList Tryz.prog ops Q (o :: rest) a (wr.alloc (.cells #[.bool r.live, .string r.tag, .string r.text, .slice r.a.p r.a.n r.a.c, .int .i64 r.up, .slice r.k.p r.k.n r.k.c, .bool r.hasS, .slice r.s.p r.s.n r.s.c, .bool r.inS] 46)) := by
  have hb := box_new wr r 46
  refine append_nodes hgd s x ho (ts := [r]) hs hx (World.ownsRow.alloc hown _) ?_ (hnx.alloc hB _) (by simp; omega) (by simp; omega) (fun v' w1 h1 h2 _ => h v' w1 h1 h2)
  obtain ⟨c0, c1, c2, c3, c4, c5, c6, c7, c8⟩ := hb
  constructor <;> (intro k hk; have hk0 : k = 0 := by simp at hk; omega; ) <;> subst hk0 <;> simp

theorem own_one (w : World) (k : Nat) : OwnI (w.alloc (.cells #[.int .i64 (k : Int)] 3)) w.heap.size (.slice (some ⟨w.heap.size, 0, none⟩) 1 1) [k] :=
  ⟨rfl, Or.inr ⟨w.heap.size, 1, #[.int .i64 (k : Int)], rfl, Nat.le_refl _, heap_alloc_new _ _, Nat.le_refl _, by decide, rfl, rfl⟩⟩

theorem OwnI.below {w w' : World} {B C : Nat} {v : Value} {l : List Nat} (h : OwnI w B v l) (hb : Below C w w') (hC : w.heap.size ≤ C) : OwnI w' B v l := by
  obtain ⟨hl, hz⟩ := h
  refine ⟨hl, ?_⟩
  rcases hz with h5 | ⟨g, cap, cur, e, h3, h6, h7⟩
  · exact Or.inl h5
  · refine Or.inr ⟨g, cap, cur, e, h3, ?_, h7⟩
    have hlt : g < w.heap.size := by
      apply Classical.byContradiction
      intro hn
      rw [Array.getElem?_eq_none (by omega)] at h6
      cases h6
    rw [hb.block g (by omega)]
    exact h6
theorem OwnI.alloc {w : World} {B : Nat} {v : Value} {l : List Nat} (h : OwnI w B v l) (o : Obj) : OwnI (w.alloc o) B v l := World.ownsRow.alloc h o

theorem keeps_drew {a w : World} (h : Keeps a w) : Keeps a w.drew := fun p v x => by simpa using h p v x
theorem keeps_alloc' {a w : World} (o : Obj) (h : Keeps a w) : Keeps a (w.alloc o) := h.trans (keeps_alloc w o)
theorem keeps_set {a w : World} (h : Keeps a w) (p : Addr) (u : Value) (hp : a.heap.size ≤ p.block) : Keeps a (w.setCell p u) := by
  intro q v x
  rw [World.cell?_setCell_other _ _ _ _ (by intro e; subst e; have := lt_of_cell x; omega)]
  exact h q v x
theorem below_frozen {w w' : World} {B g : Nat} (hb : Below B w w') (hg : g < B) (h : ∀ j, w.frozen? ⟨g, j, none⟩ = false) : ∀ j, w'.frozen? ⟨g, j, none⟩ = false := by
  intro j
  rw [hb.frozen (p := ⟨g, j, none⟩) hg]
  exact h j
theorem box_frozen (w : World) (cs : Array Value) (t : Nat) : ∀ j, (w.alloc (.cells cs t)).frozen? ⟨w.heap.size, j, none⟩ = false := by
  intro j
  unfold World.frozen?
  rw [heap_alloc_new]
  simp

theorem own_emptyI {w : World} {B g : Nat} (h : w.heap[g]? = some (Obj.cells #[] 3)) (hB : B ≤ g) : OwnI w B (.slice (some ⟨g, 0, none⟩) 0 0) [] :=
  ⟨rfl, Or.inr ⟨g, 0, #[], rfl, hB, h, Nat.le_refl _, by decide, rfl, rfl⟩⟩
theorem ints_one {w : World} {g k : Nat} (h : w.heap[g]? = some (Obj.cells #[.int .i64 (k : Int)] 3)) : IntsAt w (.slice (some ⟨g, 0, none⟩) 1 1) [k] := by
  refine ⟨_, 1, rfl, Nat.le_refl _, by decide, Or.inr ⟨g, 0, rfl⟩, fun j x hx => ⟨g, 0, rfl, ?_⟩⟩
  have hj : j = 0 := by
    cases j with
    | zero => rfl
    | succ j => simp at hx
  subst hj
  simp at hx
  subst hx
  simp [World.cell?, h, iv]
theorem ints_take {w : World} {b o c : Nat} {l : List Nat} (h : IntsAt w (.slice (some ⟨b, o, none⟩) l.length c) l) (a : Nat) (ha : a ≤ l.length) : IntsAt w (.slice (some ⟨b, o, none⟩) a c) (l.take a) := by
  obtain ⟨p, c', e, h1, h2, h3, h4⟩ := h
  cases e
  refine ⟨_, c, by simp; omega, by simp; omega, h2, Or.inr ⟨b, o, rfl⟩, fun j x hx => ?_⟩
  refine h4 j x ?_
  have hj : j < a := by
    apply Classical.byContradiction
    intro hn
    rw [List.getElem?_eq_none (by simp; omega)] at hx
    cases hx
  rw [List.getElem?_map] at hx ⊢
  rw [List.getElem?_take_of_lt hj] at hx
  exact hx
theorem ints_drop {w : World} {b o c : Nat} {l : List Nat} (h : IntsAt w (.slice (some ⟨b, o, none⟩) l.length c) l) (a : Nat) (ha : a ≤ l.length) :
    IntsAt w (.slice (if c = a then some ⟨b, o, none⟩ else some ⟨b, o + a, none⟩) (l.length - a) (c - a)) (l.drop a) := by
  obtain ⟨p, c', e, h1, h2, h3, h4⟩ := h
  cases e
  by_cases hc : c = a
  · rw [if_pos hc]
    refine ⟨_, c - a, by simp, by simp; omega, by omega, Or.inr ⟨b, o, rfl⟩, fun j x hx => ?_⟩
    rw [List.getElem?_eq_none (by simp; omega)] at hx
    cases hx
  · rw [if_neg hc]
    refine ⟨_, c - a, by simp, by simp; omega, by omega, Or.inr ⟨b, o + a, rfl⟩, fun j x hx => ?_⟩
    rw [List.getElem?_map, List.getElem?_drop] at hx
    obtain ⟨b', o', e1, e2⟩ := h4 (a + j) x (by rw [List.getElem?_map]; exact hx)
    cases e1
    exact ⟨b, o + a, rfl, by rw [Nat.add_assoc]; exact e2⟩

/-- a row of attributes of the call's own -/
def OwnA (w : World) (B : Nat) (v : Value) (l : List Tn.At) : Prop := w.ownsRow B 83 2 v l.length (l.flatMap av)
theorem OwnA.nil (w : World) (B : Nat) : OwnA w B (.slice none 0 0) [] := World.ownsRow_nil _ _ _ _
theorem OwnA.shape {w : World} {B : Nat} {v : Value} {l : List Tn.At} (h : OwnA w B v l) : ∃ p c, v = .slice p l.length c := owns_shape h
theorem OwnA.alloc {w : World} {B : Nat} {v : Value} {l : List Tn.At} (h : OwnA w B v l) (o : Obj) : OwnA (w.alloc o) B v l := World.ownsRow.alloc h o
theorem attrs_of_owns {w : World} {B : Nat} {v : Value} {l : List Tn.At} (h : OwnA w B v l) : AttrsAt w v l := cells_of_owns h

theorem append_attr1 {w0 wr : World} {ops : Array Oper} {rest : List Oper} {o : Oper} {a : Act} {Q : Exit → Act → World → Prop} (hgd : o.guard = none)
    (s x : Operand) (ho : o.op = Op.call { callee := Callee.builtin Builtin.append, args := #[s, x], argTypes := #[44, 44] }) {B : Nat} {v : Value} {l : List Tn.At} (n u : ByteArray)
    (hs : a.eval s = v) (hx : a.eval x = .slice (some ⟨wr.heap.size, 0, none⟩) 1 1) (hown : OwnA wr B v l) (hnx : Below B w0 wr) (hB : B ≤ wr.heap.size) (hsz : l.length < 1000000)
    (h : ∀ v' w1, OwnA w1 B v' (l ++ [(n, u)]) → Below B w0 w1 → w1.heap.size ≥ B → (wr.alloc (.cells #[.string n, .string u] 83)).grownBy w1 v.ownBlock → wpList Tryz.prog ops Q rest (a.put o.dst v') w1) :
    wpList Tryz.prog ops Q (o :: rest) a (wr.alloc (.cells #[.string n, .string u] 83)) := by
  obtain ⟨i0, hi, hz0, hz1, hz2⟩ := info_parts infoA
  unfold OwnA at hown h
  refine wpList_append_own _ hgd s x 44 ho B 83 i0 (.agg #[.string ⟨#[]⟩, .string ⟨#[]⟩]) 2 32 Tryz.underlying44 hi hz0 hz1 hz2 rfl (by decide) v _ _ hs (hown.alloc _) ⟨_, 0, none⟩ 1 1 [.string n, .string u] hx rfl ?_ ?_ ?_ ?_ ?_ ?_
  · intro j y hy
    rw [add_at, Nat.zero_add, World.cell?_alloc_new]
    rw [← hy]
    simp
  · intro y hy; simp at hy; rcases hy with rfl | rfl <;> rfl
  · unfold maxLen; omega
  · omega
  · simp; omega
  · intro v' w1 h1 h2 _
    have hn := (hnx.alloc hB (.cells #[.string n, .string u] 83)).grown h2 (by simp; omega) (fun j hj => (hown.lt j hj).1)
    refine h v' w1 (by simpa [av] using h1) hn ?_ h2
    have h5 := h2.size
    have : (wr.alloc (.cells #[.string n, .string u] 83)).heap.size = wr.heap.size + 1 := by simp
    omega
theorem ownA_lt {w : World} {B : Nat} {v : Value} {l : List Tn.At} (h : OwnA w B v l) : v.ownBlock ≠ some w.heap.size := by
  intro he
  have := (World.ownsRow.lt h w.heap.size he).2
  omega
end Go.Proofs.YtbinbojicmhdlaeGreatDoor

/-
  THE WALKS of the reference's Is, Path, Within, Without.
-/
namespace Go.Proofs.YtbinbojicmhdlaeGreatDoor
open Go.RowKit

theorem nd_at {d : Tn.Dc} {k : Nat} (h : k < d.length) : Tn.nd d k = d[k] := by
  simp [Tn.nd, List.getElem?_eq_getElem h]

set_option maxHeartbeats 800000 in
theorem ris_any {w : World} {b o c : Nat} {rs : List Raw} {d : Tn.Dc} (hd : DocAt w b o c rs d) (n : Int) (el : Bool) :
    Calls Tryz.prog 52 #[.slice (some ⟨b, o, none⟩) rs.length c, .int .i64 n, .bool el] w fun e w' => e = .returned (.bool (Tn.isN d n el)) ∧ w' = w := by
  have H : Hid (DocAt w b o c rs d) := hd
  clear hd
  by_cases hn : 0 ≤ n
  · obtain ⟨k, rfl⟩ := Int.eq_ofNat_of_zero_le hn
    by_cases hk : k < rs.length
    · have h0 := H.out.row.c0 k hk
      have h1 := H.out.row.c1 k hk
      have hk' : k < d.length := by rw [← H.out.len]; exact hk
      have E : Hid (Tn.isN d (k : Int) el = (rs[k].live && (!el || !rs[k].tag.toList.isEmpty))) := by
        unfold Tn.isN
        rw [Int.toNat_natCast, nd_at hk', (H.out.nds k hk hk').live, (H.out.nds k hk hk').tag]
        simp [hk', Tn.has, Hid]
      generalize rs[k].live = lv at *
      generalize rs[k].tag = tg at *
      go_enter Tryz.func52, Tryz.ntmps52
      cases lv <;> cases el <;> go_wp2 <;> go_ret <;> exact ⟨by rw [E.out]; simp, rfl⟩
    · have E : Hid (Tn.isN d (k : Int) el = false) := by
        unfold Tn.isN
        have := H.out.len
        simp [Hid]
        omega
      go_enter Tryz.func52, Tryz.ntmps52
      go_wp2
      go_ret
      exact ⟨by rw [E.out]; rfl, rfl⟩
  · have E : Hid (Tn.isN d n el = false) := by
      unfold Tn.isN
      simp [hn, Hid]
    go_enter Tryz.func52, Tryz.ntmps52
    go_wp2
    go_ret
    exact ⟨by rw [E.out]; rfl, rfl⟩

theorem path_succ_yes (f : Nat) (d : Tn.Dc) (n : Nat) (h : Tn.isN d (n : Int) false = true) : Tn.path (f + 1) d (n : Int) = n :: Tn.path f d (Tn.nd d n).up := by
  rw [Tn.path, if_pos h, Int.toNat_natCast]
theorem path_succ_no (f : Nat) (d : Tn.Dc) (n : Int) (h : Tn.isN d n false = false) : Tn.path (f + 1) d n = [] := by
  rw [Tn.path, if_neg (by simp [h])]
theorem isN_nat {d : Tn.Dc} {n : Int} {el : Bool} (h : Tn.isN d n el = true) : ∃ k : Nat, n = (k : Int) ∧ k < d.length ∧ (Tn.nd d k).live = true := by
  unfold Tn.isN at h
  simp at h
  exact ⟨n.toNat, by omega, by omega, h.1.2⟩

set_option maxHeartbeats 800000 in
set_option maxRecDepth 100000 in
theorem rpath_own {w : World} {b o c : Nat} {rs : List Raw} {d : Tn.Dc} (hd : DocAt w b o c rs d) (hs : rs.length ≤ 1000) (n : Int) :
    Calls Tryz.prog 97 #[.slice (some ⟨b, o, none⟩) rs.length c, .int .i64 n] w fun e w' =>
      ∃ v, e = .returned v ∧ OwnI w' w.heap.size v (Tn.pathOf d n) ∧ Below w.heap.size w w' := by
  obtain ⟨i0, hi, hz0, hz1, hz2⟩ := info_parts infoI
  have H : Hid (DocAt w b o c rs d) := hd
  clear hd
  go_enter Tryz.func97, Tryz.ntmps97
  go_wp2_with fail
  go_loopw [1, 5] (fun nv v wr => ∃ (m : Int) (l : List Nat) (f : Nat), nv = .int .i64 m ∧ l.length + f = d.length + 1 ∧ Tn.pathOf d n = l ++ Tn.path f d m ∧
      OwnI wr w.heap.size v l ∧ Below w.heap.size w wr)
    (fun _ v _ => d.length + 1 - slen v)
  case atStart => exact ⟨n, [], d.length + 1, rfl, by simp, rfl, OwnI.nil _ _, Below.refl _ _⟩
  case round =>
    obtain ⟨m, l, f, rfl, hl, hp, hown, hnx⟩ := hrel
    have P : Hid (Tn.pathOf d n = l ++ Tn.path f d m) := hp
    clear hp
    have hbz := hnx.size
    have L : Hid (rs.length = d.length) := H.out.len
    obtain ⟨p, cc, rfl⟩ := hown.shape
    cases his : Tn.isN d m false with
    | false =>
      have E : Hid (Tn.pathOf d n = l) := by
        have := P.out
        cases f with
        | zero => rw [Tn.path] at this; simpa [Hid] using this
        | succ f => rw [path_succ_no _ _ _ his] at this; simpa [Hid] using this
      go_wp2_with (go_at_call 52; refine (ris_any (H.out.keeps (keeps_below hnx (Nat.le_refl _))) _ _).mono ?_; rintro e w' ⟨rfl, hww⟩; subst hww; rw [his])
      go_ret
      exact ⟨_, rfl, by rw [E.out]; exact hown, hnx⟩
    | true =>
      obtain ⟨k, rfl, hk, hlv⟩ := isN_nat his
      have hk' : k < rs.length := by have := L.out; omega
      by_cases hf : l.length ≤ rs.length
      · obtain ⟨g, rfl⟩ : ∃ g, f = g + 1 := ⟨f - 1, by have := L.out; omega⟩
        have E : Hid (Tn.pathOf d n = (l ++ [k]) ++ Tn.path g d (rs[k].up)) := by
          have := P.out
          rw [path_succ_yes _ _ _ his, nd_at hk, ← (H.out.nds k hk' hk).up] at this
          simpa [Hid] using this
        go_wp2_with (first
          | (go_at_call 52; refine (ris_any (H.out.keeps (keeps_below hnx (Nat.le_refl _))) _ _).mono ?_; rintro e w' ⟨rfl, hww⟩; subst hww; rw [his])
          | (at_builtin; refine append_int1 rfl _ _ rfl k rfl rfl hown hnx hbz (by omega) ?_))
        intro v' w1 hown' hnx' hbz' _
        have h4 := (H.out.row.keeps (keeps_below hnx' (Nat.le_refl _))).c4 k hk'
        obtain ⟨p', cc', rfl⟩ := hown'.shape
        go_wp2
        go_roundw
        case rel => exact ⟨_, l ++ [k], g, rfl, by simp; omega, E.out, hown', hnx'⟩
        case measure => simp [slen]; omega
      · have E : Hid (Tn.pathOf d n = l) := by
          have := P.out
          have hf0 : f = 0 := by have := L.out; omega
          subst hf0
          rw [Tn.path] at this
          simpa [Hid] using this
        go_wp2_with (go_at_call 52; refine (ris_any (H.out.keeps (keeps_below hnx (Nat.le_refl _))) _ _).mono ?_; rintro e w' ⟨rfl, hww⟩; subst hww; rw [his])
        go_ret
        exact ⟨_, rfl, by rw [E.out]; exact hown, hnx⟩

theorem any_take_succ (l : List Nat) (m : Int) (k : Nat) (h : k < l.length) : (l.take (k + 1)).any (fun x => decide ((x : Int) = m)) = ((l.take k).any (fun x => decide ((x : Int) = m)) || decide ((l[k] : Int) = m)) := by
  rw [List.take_succ_eq_append_getElem h, List.any_append]
  simp

set_option maxHeartbeats 800000 in
set_option maxRecDepth 100000 in
theorem rwithin_any {w : World} {b o c : Nat} {rs : List Raw} {d : Tn.Dc} (hd : DocAt w b o c rs d) (hs : rs.length ≤ 1000) (n m : Int) :
    Calls Tryz.prog 90 #[.slice (some ⟨b, o, none⟩) rs.length c, .int .i64 n, .int .i64 m] w fun e w' =>
      e = .returned (.bool (Tn.within d n m)) ∧ Below w.heap.size w w' := by
  go_enter Tryz.func90, Tryz.ntmps90
  go_wp2_with (go_at_call 97; refine (rpath_own hd hs _).mono ?_; rintro e w1 ⟨v, rfl, hown, hb⟩; obtain ⟨p, cc, rfl, _, _, _, hat⟩ := (ints_of_owns hown).at)
  have T : Hid (∀ j (hj : j < (Tn.pathOf d n).length), ∃ b o, p = some ⟨b, o, none⟩ ∧ w1.cell? ⟨b, o + j, none⟩ = some (.int .i64 ((Tn.pathOf d n)[j] : Int))) := hat
  have W : Hid (Tn.within d n m = (Tn.pathOf d n).any fun x => decide ((x : Int) = m)) := rfl
  clear hat hown
  generalize Tn.pathOf d n = l at *
  go_loop [13] (fun i => ∃ k : Nat, k ≤ l.length ∧ i = .int .i64 k ∧ Hid ((l.take k).any (fun x => decide ((x : Int) = m)) = false)) (fun i => l.length - (intOf i).toNat)
  case atStart => exact ⟨0, Nat.zero_le _, rfl, by simp [Hid]⟩
  case round =>
    obtain ⟨k, hk, rfl, hno⟩ := hrel
    by_cases hlt : k < l.length
    · obtain ⟨b1, o1, rfl, hc⟩ := T.out k hlt
      by_cases he : (l[k] : Int) = m
      · have E : Hid (Tn.within d n m = true) := by
          rw [W.out]
          exact List.any_eq_true.mpr ⟨l[k], List.getElem_mem _, by simp [he]⟩
        have hq : ((l[k] : Int) == m) = true := by simp [he]
        go_wp2
        go_ret
        exact ⟨by rw [E.out]; rfl, hb⟩
      · have hq : ((l[k] : Int) == m) = false := by simp [he]
        go_wp2
        go_round
        case rel => exact ⟨k + 1, by omega, by go_num, by show _ = false; rw [any_take_succ l m k hlt, hno.out]; simp [he]⟩
        case measure => simp [intOf]; omega
    · obtain rfl : k = l.length := by omega
      have E : Hid (Tn.within d n m = false) := by rw [W.out]; simpa [Hid] using hno.out
      go_wp2
      go_ret
      exact ⟨by rw [E.out]; rfl, hb⟩

set_option maxHeartbeats 800000 in
set_option maxRecDepth 100000 in
theorem rwithout_own {w : World} {vl : Value} {l : List Nat} (hl : IntsAt w vl l) (hs : l.length ≤ 1000) (k : Nat) :
    Calls Tryz.prog 130 #[vl, .int .i64 (k : Int)] w fun e w' =>
      ∃ v, e = .returned v ∧ OwnI w' w.heap.size v (Tn.without l k) ∧ Below w.heap.size w w' := by
  obtain ⟨p, cc, rfl, h1, h2, _, hat⟩ := hl.at
  have T : Hid (∀ j (hj : j < l.length), ∃ b o, p = some ⟨b, o, none⟩ ∧ w.cell? ⟨b, o + j, none⟩ = some (.int .i64 (l[j] : Int))) := hat
  clear hat hl
  go_enter Tryz.func130, Tryz.ntmps130
  go_wp2
  go_loopw [5, 10] (fun v i wr => ∃ (j : Nat), j ≤ l.length ∧ i = .int .i64 j ∧ OwnI wr w.heap.size v (Tn.without (l.take j) k) ∧ Below w.heap.size w wr)
    (fun _ i _ => l.length - (intOf i).toNat)
  case atStart => exact ⟨0, Nat.zero_le _, rfl, OwnI.nil _ _, Below.refl _ _⟩
  case round =>
    obtain ⟨j, hj, rfl, hown, hnx⟩ := hrel
    have hbz := hnx.size
    by_cases hlt : j < l.length
    · obtain ⟨b1, o1, rfl, hc⟩ := T.out j hlt
      have hc' := keeps_below hnx (Nat.le_refl _) _ _ hc
      have hle : (Tn.without (l.take j) k).length ≤ 1000 := by
        have h3 := List.length_filter_le (fun x => x != k) (l.take j)
        rw [List.length_take] at h3
        unfold Tn.without
        omega
      by_cases he : l[j] = k
      · have E : Hid (Tn.without (l.take (j + 1)) k = Tn.without (l.take j) k) := by
          unfold Tn.without
          rw [List.take_succ_eq_append_getElem hlt, List.filter_append]
          simp [he, Hid]
        have hq : (((l[j] : Nat) : Int) == (k : Int)) = true := by simp [he]
        generalize l[j] = x at *
        go_wp2
        go_roundw
        case rel => exact ⟨j + 1, by omega, by go_num, by rw [E.out]; exact hown, hnx⟩
        case measure => simp [intOf]; omega
      · have E : Hid (Tn.without (l.take (j + 1)) k = Tn.without (l.take j) k ++ [l[j]]) := by
          unfold Tn.without
          rw [List.take_succ_eq_append_getElem hlt, List.filter_append]
          simp [he, Hid]
        have hq : (((l[j] : Nat) : Int) == (k : Int)) = false := by simp; omega
        generalize l[j] = x at *
        go_wp2_with (at_builtin; refine append_int1 rfl _ _ rfl x rfl rfl hown hnx hbz (by omega) ?_)
        intro v' w1 hown' hnx' hbz' _
        clear hown hnx
        go_wp2
        go_roundw
        case rel => exact ⟨j + 1, by omega, by go_num, by rw [E.out]; exact hown', hnx'⟩
        case measure => simp [intOf]; omega
    · obtain rfl : j = l.length := by omega
      have hl : l.take l.length = l := List.take_length
      rw [hl] at hown
      go_wp2
      go_ret
      exact ⟨_, rfl, hown, hnx⟩
end Go.Proofs.YtbinbojicmhdlaeGreatDoor

/-
  THE WALK of the reference's With.
-/
namespace Go.Proofs.YtbinbojicmhdlaeGreatDoor
open Go.RowKit

def withR (rs : List Raw) (k : Nat) (r : Raw) : List Raw := if k = rs.length then rs ++ [r] else rs.set k r
theorem withR_len {rs : List Raw} {k : Nat} {r : Raw} : (withR rs k r).length = if k = rs.length then rs.length + 1 else rs.length := by
  unfold withR
  split <;> simp

set_option maxHeartbeats 800000 in
theorem rwith_row {w : World} {b o c : Nat} {rs : List Raw} (hrow : RowOf w b o rs) (hs : rs.length ≤ 1000) (h0 : 0 < rs.length) (r : Raw) (k : Nat) (hk : k ≤ rs.length) :
    Calls Tryz.prog 93 #[.slice (some ⟨b, o, none⟩) rs.length c, .int .i64 (k : Int), r.agg] w fun e w' =>
      ∃ v, e = .returned v ∧ OwnN w' w.heap.size v (withR rs k r) ∧ Below w.heap.size w w' := by
  have H : Hid (RowOf w b o rs) := hrow
  clear hrow
  unfold Raw.agg
  go_enter Tryz.func93, Tryz.ntmps93
  go_wp2_with (at_builtin; refine append_nodes rfl _ _ rfl rfl rfl (own_empty2 _ _ w.heap.size (Nat.le_refl _)) (H.out.keeps ((keeps_alloc _ _).trans (keeps_alloc _ _))) (((Below.refl w.heap.size w).alloc (Nat.le_refl _) _).alloc (by simp) _) (by simp; omega) (by simp; omega) ?_)
  intro v' w1 hown hb hg
  have hbx := ((box_new w r 46).keeps (keeps_alloc _ (.cells #[] 46))).grown hg (by simp [Value.ownBlock])
  clear hg
  obtain ⟨b0, b1, b2, b3, b4, b5, b6, b7, b8⟩ := hbx
  have hbz := hb.size
  by_cases hk1 : k < rs.length
  · obtain ⟨g, cc, rfl, e1, e2, e3, e4, e5, e6⟩ := own_at hown h0
    have r0 := e5.c0 k hk1
    have r1 := e5.c1 k hk1
    have r2 := e5.c2 k hk1
    have r3 := e5.c3 k hk1
    have r4 := e5.c4 k hk1
    have r5 := e5.c5 k hk1
    have r6 := e5.c6 k hk1
    have r7 := e5.c7 k hk1
    have r8 := e5.c8 k hk1
    simp only [Nat.zero_add] at r0 r1 r2 r3 r4 r5 r6 r7 r8
    have hq : ((k : Int) == (rs.length : Int)) = false := by simp; omega
    have O : Hid (OwnN w1 w.heap.size (.slice (some ⟨g, 0, none⟩) rs.length cc) rs) := hown
    clear hown e5
    go_wp2
    go_ret
    refine ⟨_, rfl, ?_, below_setN hb e3 r k⟩
    unfold withR
    rw [if_neg (by omega)]
    exact own_setN rfl O.out r k hk1
  · obtain rfl : k = rs.length := by omega
    obtain ⟨p, cc, rfl⟩ := owns_shape hown
    have hq : ((rs.length : Int) == (rs.length : Int)) = true := by simp
    go_wp2_with (at_builtin; refine append_node1 rfl _ _ rfl r rfl rfl hown hb hbz (by omega) ?_)
    intro v' w2 hown2 hb2
    go_wp2
    go_ret
    refine ⟨_, rfl, ?_, hb2⟩
    unfold withR
    rw [if_pos rfl]
    exact hown2

theorem nds_with {w : World} {rs : List Raw} {d : Tn.Dc} (hl : rs.length = d.length) (h : ∀ k (h : k < rs.length) (h' : k < d.length), NdAt w rs[k] d[k]) {r : Raw} {n : Tn.Nd} (hr : NdAt w r n) (k : Nat) :
    (withR rs k r).length = (Tn.withd d k n).length ∧ ∀ i (h : i < (withR rs k r).length) (h' : i < (Tn.withd d k n).length), NdAt w (withR rs k r)[i] (Tn.withd d k n)[i] := by
  unfold withR Tn.withd
  by_cases hk : k = rs.length
  · rw [if_pos hk, if_pos (by omega)]
    refine ⟨by simp [hl], fun i h1 h2 => ?_⟩
    by_cases hi : i < rs.length
    · rw [List.getElem_append_left hi, List.getElem_append_left (by omega)]
      exact h i hi (by omega)
    · have : i = rs.length := by simp at h1; omega
      subst this
      simp [hl]
      exact hr
  · rw [if_neg hk, if_neg (by omega)]
    refine ⟨by simp [hl], fun i h1 h2 => ?_⟩
    rw [List.getElem_set, List.getElem_set]
    split
    · exact hr
    · exact h i (by simpa using h1) (by simpa using h2)

theorem rwith_doc {w : World} {b o c : Nat} {rs : List Raw} {d : Tn.Dc} (hd : DocAt w b o c rs d) (hs : rs.length ≤ 1000) (h0 : 0 < rs.length) {r : Raw} {n : Tn.Nd} (hr : NdAt w r n) (k : Nat) (hk : k ≤ rs.length) :
    Calls Tryz.prog 93 #[.slice (some ⟨b, o, none⟩) rs.length c, .int .i64 (k : Int), r.agg] w fun e w' =>
      ∃ g c' rs', e = .returned (.slice (some ⟨g, 0, none⟩) rs'.length c') ∧ DocAt w' g 0 c' rs' (Tn.withd d k n) ∧ Below w.heap.size w w' ∧ Hid (rs' = withR rs k r) := by
  refine (rwith_row (c := c) hd.row hs h0 r k hk).mono ?_
  rintro e w' ⟨v, rfl, hown, hb⟩
  have hlen : 0 < (withR rs k r).length := by rw [withR_len]; split <;> omega
  obtain ⟨g, c', rfl, h1, h2, h3, h4⟩ := row_of_owns hown hlen
  have hn := nds_with hd.len hd.nds hr k
  exact ⟨g, c', _, rfl, ⟨h1, h2, hn.1, h4, fun i hi hi' => (hn.2 i hi hi').keeps (keeps_below hb (Nat.le_refl _))⟩, hb, rfl⟩
end Go.Proofs.YtbinbojicmhdlaeGreatDoor

/-
  THE WALKS of the reference's All and Deepest.
-/
namespace Go.Proofs.YtbinbojicmhdlaeGreatDoor
open Go.RowKit

theorem take_flat_len (l : List Nat) (g : Nat → List Nat) (j : Nat) : ((l.take j).flatMap g).length ≤ (l.flatMap g).length := by
  rw [← List.take_append_drop j l, List.flatMap_append, List.length_append, List.take_append_drop]
  omega


def part (S K : List Nat) : Nat → List Nat
  | 0 => []
  | 1 => S
  | _ => S ++ K

theorem cell_of_block {w : World} {g : Nat} {cs : Array Value} {t : TypeId} (h : w.heap[g]? = some (Obj.cells cs t)) (i : Nat) : w.cell? ⟨g, i, none⟩ = cs[i]? := by
  simp [World.cell?, h]

set_option maxHeartbeats 800000 in
set_option maxRecDepth 100000 in
theorem rall_own {b o c : Nat} {rs : List Raw} {d : Tn.Dc} (hF : ∀ f n, (Tn.all f d n).length ≤ 1000) (f : Nat) : ∀ (n : Nat) (w : World), DocAt w b o c rs d → Tn.Ends f d n →
    Calls Tryz.prog 59 #[.slice (some ⟨b, o, none⟩) rs.length c, .int .i64 (n : Int)] w fun e w' =>
      ∃ v, e = .returned v ∧ OwnI w' w.heap.size v (Tn.all f d n) ∧ Below w.heap.size w w' := by
  induction f with
  | zero => intro n w _ h; exact absurd h (by simp [Tn.Ends])
  | succ f ih =>
    intro n w hd hE
    have H : Hid (DocAt w b o c rs d) := hd
    clear hd
    cases his : Tn.isN d (n : Int) false with
    | false =>
      have E : Hid (Tn.all (f + 1) d n = []) := by show _ = _; rw [Tn.all, if_neg (by simp [his])]
      go_enter Tryz.func59, Tryz.ntmps59
      go_wp2_with (go_at_call 52; refine (ris_any H.out _ _).mono ?_; rintro e w' ⟨rfl, hww⟩; subst hww; rw [his])
      go_ret
      exact ⟨_, rfl, by rw [E.out]; exact OwnI.nil _ _, Below.refl _ _⟩
    | true =>
      have E : Hid (Tn.all (f + 1) d n = n :: ((Tn.nd d n).shadow.flatMap (Tn.all f d) ++ (Tn.nd d n).kids.flatMap (Tn.all f d))) := by show _ = _; rw [Tn.all, if_pos his]
      obtain ⟨hn, hEs, hEk⟩ := hE
      have L : Hid (rs.length = d.length) := H.out.len
      have hn' : n < rs.length := by have := L.out; omega
      have h5 := H.out.row.c5 n hn'
      have h7 := H.out.row.c7 n hn'
      go_enter Tryz.func59, Tryz.ntmps59
      go_wp2_with (go_at_call 52; refine (ris_any H.out _ _).mono ?_; rintro e w' ⟨rfl, hww⟩; subst hww; rw [his])
      have h5' := keeps_alloc w' (.cells #[.int .i64 (n : Int)] 3) _ _ h5
      have h7' := keeps_alloc w' (.cells #[.int .i64 (n : Int)] 3) _ _ h7
      have hnd := H.out.nds n hn' hn
      have hS : IntsAt w' (.slice rs[n].s.p rs[n].s.n rs[n].s.c) (Tn.nd d n).shadow := by rw [nd_at hn]; exact hnd.shadow
      have hK : IntsAt w' (.slice rs[n].k.p rs[n].k.n rs[n].k.c) (Tn.nd d n).kids := by rw [nd_at hn]; exact hnd.kids
      have Z : Hid ((n :: ((Tn.nd d n).shadow.flatMap (Tn.all f d) ++ (Tn.nd d n).kids.flatMap (Tn.all f d))).length ≤ 1000) := by have := hF (f + 1) n; rw [E.out] at this; exact this
      generalize hSd : (Tn.nd d n).shadow = S at *
      generalize hKd : (Tn.nd d n).kids = K at *
      clear hSd hKd hnd h5' h7'
      have h5' := keeps_alloc w' (.cells #[.int .i64 (n : Int)] 3) _ _ h5
      have h7' := keeps_alloc w' (.cells #[.int .i64 (n : Int)] 3) _ _ h7
      go_region
      go_wp2
      clear h5' h7' h5 h7
      go_loopw [5, 28] (fun v iv wr => ∃ i : Nat, i ≤ 2 ∧ iv = .int .i64 i ∧ OwnI wr w'.heap.size v (n :: part (S.flatMap (Tn.all f d)) (K.flatMap (Tn.all f d)) i) ∧ Below w'.heap.size w' wr ∧
          wr.heap[w'.heap.size + 1]? = some (Obj.cells #[.slice rs[n].s.p rs[n].s.n rs[n].s.c, .slice rs[n].k.p rs[n].k.n rs[n].k.c] 33))
        (fun _ i _ => 2 - (intOf i).toNat)
      case atStart => exact ⟨0, by omega, rfl, (own_one w' n).alloc _, (((Below.refl w'.heap.size w').alloc (Nat.le_refl _) _).alloc (by simp) _).drew, heap_alloc2_new _ _ _⟩
      case round =>
        obtain ⟨i, hi, rfl, hown, hnx, hblk⟩ := hrel
        by_cases hlt : i < 2
        · obtain ⟨sl, LL, hc, hI, hEL, hpt⟩ : ∃ (sl : Sl) (LL : List Nat), wr.cell? ⟨w'.heap.size + 1, i, none⟩ = some (.slice sl.p sl.n sl.c) ∧ IntsAt w' (.slice sl.p sl.n sl.c) LL ∧ (∀ k ∈ LL, Tn.Ends f d k) ∧
              Hid (part (S.flatMap (Tn.all f d)) (K.flatMap (Tn.all f d)) (i + 1) = part (S.flatMap (Tn.all f d)) (K.flatMap (Tn.all f d)) i ++ LL.flatMap (Tn.all f d)) := by
            have h2 : i = 0 ∨ i = 1 := by omega
            rcases h2 with rfl | rfl
            · exact ⟨_, S, by rw [cell_of_block hblk]; rfl, hS, hEs, by show _ = _; simp [part]⟩
            · exact ⟨_, K, by rw [cell_of_block hblk]; rfl, hK, hEk, by show _ = _; simp [part]⟩
          have hz : ((n :: part (S.flatMap (Tn.all f d)) (K.flatMap (Tn.all f d)) i) ++ LL.flatMap (Tn.all f d)).length ≤ 1000 := by
            have h1 := Z.out
            rw [List.cons_append, ← hpt.out]
            have h2 : i = 0 ∨ i = 1 := by omega
            rcases h2 with rfl | rfl <;> simp [part] at h1 ⊢ <;> omega
          have ZZ : Hid (((n :: part (S.flatMap (Tn.all f d)) (K.flatMap (Tn.all f d)) i) ++ LL.flatMap (Tn.all f d)).length ≤ 1000) := hz
          clear hz
          have PP : Hid (n :: part (S.flatMap (Tn.all f d)) (K.flatMap (Tn.all f d)) (i + 1) = (n :: part (S.flatMap (Tn.all f d)) (K.flatMap (Tn.all f d)) i) ++ LL.flatMap (Tn.all f d)) := by show _ = _; rw [hpt.out]; rfl
          clear hpt
          generalize n :: part (S.flatMap (Tn.all f d)) (K.flatMap (Tn.all f d)) i = base at *
          obtain ⟨p, cc, he, hle, hcb, _, hat⟩ := hI.at
          obtain ⟨sp, sn, sc⟩ := sl
          cases he
          have T : Hid (∀ j (hj : j < LL.length), ∃ b o, sp = some ⟨b, o, none⟩ ∧ w'.cell? ⟨b, o + j, none⟩ = some (.int .i64 (LL[j] : Int))) := hat
          clear hat hI
          go_wp2
          go_loopw [5, 34] (fun v jv wq => ∃ j : Nat, j ≤ LL.length ∧ jv = .int .i64 j ∧ OwnI wq w'.heap.size v (base ++ (LL.take j).flatMap (Tn.all f d)) ∧ Below w'.heap.size w' wq ∧
              wq.heap[w'.heap.size + 1]? = some (Obj.cells #[.slice rs[n].s.p rs[n].s.n rs[n].s.c, .slice rs[n].k.p rs[n].k.n rs[n].k.c] 33))
            (fun _ j _ => LL.length - (intOf j).toNat)
          case atStart => exact ⟨0, Nat.zero_le _, rfl, by simpa using hown, hnx, hblk⟩
          case round =>
            clear hown hnx hblk
            obtain ⟨j, hj, rfl, hown, hnx, hblk⟩ := hrel
            have hbz := hnx.size
            by_cases hjl : j < LL.length
            · obtain ⟨b1, o1, rfl, hcj⟩ := T.out j hjl
              have hcj' := keeps_below hnx (Nat.le_refl _) _ _ hcj
              have hEj := hEL _ (List.getElem_mem hjl)
              have F : Hid (base ++ (LL.take (j + 1)).flatMap (Tn.all f d) = (base ++ (LL.take j).flatMap (Tn.all f d)) ++ Tn.all f d LL[j]) := by
                show _ = _
                rw [List.take_succ_eq_append_getElem hjl, List.flatMap_append]
                simp
              have hsz : (base ++ (LL.take j).flatMap (Tn.all f d)).length + (Tn.all f d LL[j]).length ≤ 1000000 := by
                have h1 := ZZ.out
                have h2 := take_flat_len LL (Tn.all f d) (j + 1)
                have h3 := congrArg List.length F.out
                rw [List.length_append] at h1 h3
                rw [List.length_append (bs := Tn.all f d LL[j])] at h3
                omega
              have ZS : Hid ((base ++ (LL.take j).flatMap (Tn.all f d)).length + (Tn.all f d LL[j]).length ≤ 1000000) := hsz
              clear hsz hcj
              generalize LL[j] = x at *
              generalize base ++ (LL.take j).flatMap (Tn.all f d) = sofar at *
              go_wp2_with (first
                | (go_at_call 59; refine (ih x _ (H.out.keeps (keeps_below hnx (Nat.le_refl _))) hEj).mono ?_; rintro e w2 ⟨u, rfl, hown2, hb2⟩)
                | (at_builtin; refine append_ints rfl _ _ rfl rfl rfl (hown.below hb2 (Nat.le_refl _)) (ints_of_owns hown2) (hnx.trans (hb2.mono hbz)) (Nat.le_trans hbz hb2.size) ZS.out ?_))
              intro v3 w3 hown3 hnx3 hbz3 hoth
              have hblk3 := hoth _ _ _ (others_below hb2 (Nat.le_refl _) _ _ _ hblk (by decide)) (by decide)
              clear hown2 hb2 hown hnx hblk hoth hcj'
              go_wp2
              go_roundw
              case rel => exact ⟨j + 1, by omega, by go_num, by rw [F.out]; exact hown3, hnx3, hblk3⟩
              case measure => simp [intOf]; omega
            · obtain rfl : j = LL.length := by omega
              rw [List.take_length] at hown
              clear T
              go_wp2
              go_roundw
              case rel => exact ⟨i + 1, by omega, by go_num, by rw [PP.out]; exact hown, hnx, hblk⟩
              case measure => simp [intOf]; omega
        · obtain rfl : i = 2 := by omega
          have hfin : OwnI wr w'.heap.size u5 (Tn.all (f + 1) d n) := by rw [E.out]; exact hown
          clear hown
          go_wp2
          go_ret
          exact ⟨_, rfl, hfin, hnx⟩

theorem deepL_le (g : Nat → Nat) (f : Nat) (hg : ∀ k, g k ≤ f) : ∀ (l : List Nat) (m : Nat), m ≤ f + 1 → Tn.deepL g l m ≤ f + 1
  | [], m, h => h
  | k :: l, m, h => deepL_le g f hg l (max m (1 + g k)) (by have := hg k; omega)
theorem deepest_le : ∀ (f : Nat) (d : Tn.Dc) (n : Nat), Tn.deepest f d n ≤ f
  | 0, _, _ => Nat.le_refl _
  | f + 1, d, _ => deepL_le _ f (deepest_le f d) _ _ (deepL_le _ f (deepest_le f d) _ _ (by omega))
theorem deepL_succ (g : Nat → Nat) (l : List Nat) (m j : Nat) (h : j < l.length) : Tn.deepL g (l.take (j + 1)) m = max (Tn.deepL g (l.take j) m) (1 + g l[j]) := by
  unfold Tn.deepL
  rw [List.take_succ_eq_append_getElem h, List.foldl_append]
  rfl

def dpart (g : Nat → Nat) (S K : List Nat) : Nat → Nat
  | 0 => 0
  | 1 => Tn.deepL g S 0
  | _ => Tn.deepL g K (Tn.deepL g S 0)

set_option maxHeartbeats 800000 in
set_option maxRecDepth 100000 in
theorem rdeepest_any {b o c : Nat} {rs : List Raw} {d : Tn.Dc} (f : Nat) : f ≤ 1000 → ∀ (n : Nat) (w : World), DocAt w b o c rs d → Tn.Ends f d n →
    Calls Tryz.prog 131 #[.slice (some ⟨b, o, none⟩) rs.length c, .int .i64 (n : Int)] w fun e w' =>
      e = .returned (.int .i64 (Tn.deepest f d n : Int)) ∧ Below w.heap.size w w' := by
  induction f with
  | zero => intro _ n w _ h; exact absurd h (by simp [Tn.Ends])
  | succ f ih =>
    intro hf1 n w hd hE
    have ih := ih (by omega)
    have H : Hid (DocAt w b o c rs d) := hd
    clear hd
    have hle := deepest_le f d
    have E : Hid (Tn.deepest (f + 1) d n = Tn.deepL (Tn.deepest f d) (Tn.nd d n).kids (Tn.deepL (Tn.deepest f d) (Tn.nd d n).shadow 0)) := rfl
    obtain ⟨hn, hEs, hEk⟩ := hE
    have L : Hid (rs.length = d.length) := H.out.len
    have hn' : n < rs.length := by have := L.out; omega
    have h5 := H.out.row.c5 n hn'
    have h7 := H.out.row.c7 n hn'
    have hnd := H.out.nds n hn' hn
    have hS : IntsAt w (.slice rs[n].s.p rs[n].s.n rs[n].s.c) (Tn.nd d n).shadow := by rw [nd_at hn]; exact hnd.shadow
    have hK : IntsAt w (.slice rs[n].k.p rs[n].k.n rs[n].k.c) (Tn.nd d n).kids := by rw [nd_at hn]; exact hnd.kids
    generalize hSd : (Tn.nd d n).shadow = S at *
    generalize hKd : (Tn.nd d n).kids = K at *
    clear hSd hKd hnd
    go_enter Tryz.func131, Tryz.ntmps131
    go_wp2_with fail
    go_region
    go_wp2_with fail
    clear h5 h7
    go_loopw [5, 23] (fun v iv wr => ∃ i : Nat, i ≤ 2 ∧ iv = .int .i64 i ∧ v = .int .i64 (dpart (Tn.deepest f d) S K i : Int) ∧ Below w.heap.size w wr ∧
        wr.heap[w.heap.size]? = some (Obj.cells #[.slice rs[n].s.p rs[n].s.n rs[n].s.c, .slice rs[n].k.p rs[n].k.n rs[n].k.c] 33))
      (fun _ i _ => 2 - (intOf i).toNat)
    case atStart => exact ⟨0, by omega, rfl, rfl, ((Below.refl w.heap.size w).alloc (Nat.le_refl _) _).drew, heap_alloc_new _ _⟩
    case round =>
      obtain ⟨i, hi, rfl, rfl, hnx, hblk⟩ := hrel
      by_cases hlt : i < 2
      · obtain ⟨sl, LL, hc, hI, hEL, hpt⟩ : ∃ (sl : Sl) (LL : List Nat), wr.cell? ⟨w.heap.size, i, none⟩ = some (.slice sl.p sl.n sl.c) ∧ IntsAt w (.slice sl.p sl.n sl.c) LL ∧ (∀ k ∈ LL, Tn.Ends f d k) ∧
            Hid (dpart (Tn.deepest f d) S K (i + 1) = Tn.deepL (Tn.deepest f d) LL (dpart (Tn.deepest f d) S K i)) := by
          have h2 : i = 0 ∨ i = 1 := by omega
          rcases h2 with rfl | rfl
          · exact ⟨_, S, by rw [cell_of_block hblk]; rfl, hS, hEs, rfl⟩
          · exact ⟨_, K, by rw [cell_of_block hblk]; rfl, hK, hEk, rfl⟩
        have hbase : dpart (Tn.deepest f d) S K i ≤ f + 1 := by
          have h2 : i = 0 ∨ i = 1 := by omega
          rcases h2 with rfl | rfl
          · exact Nat.zero_le _
          · exact deepL_le _ f hle _ _ (by omega)
        generalize dpart (Tn.deepest f d) S K i = base at *
        obtain ⟨p, cc, he, hlc, hcb, _, hat⟩ := hI.at
        obtain ⟨sp, sn, sc⟩ := sl
        cases he
        have T : Hid (∀ j (hj : j < LL.length), ∃ b o, sp = some ⟨b, o, none⟩ ∧ w.cell? ⟨b, o + j, none⟩ = some (.int .i64 (LL[j] : Int))) := hat
        clear hat hI
        go_wp2_with fail
        go_loopw [5, 29] (fun v jv wq => ∃ j : Nat, j ≤ LL.length ∧ jv = .int .i64 j ∧ v = .int .i64 (Tn.deepL (Tn.deepest f d) (LL.take j) base : Int) ∧ Below w.heap.size w wq ∧
            wq.heap[w.heap.size]? = some (Obj.cells #[.slice rs[n].s.p rs[n].s.n rs[n].s.c, .slice rs[n].k.p rs[n].k.n rs[n].k.c] 33))
          (fun _ j _ => LL.length - (intOf j).toNat)
        case atStart => exact ⟨0, Nat.zero_le _, rfl, rfl, hnx, hblk⟩
        case round =>
          clear hnx hblk
          obtain ⟨j, hj, rfl, rfl, hnx, hblk⟩ := hrel
          have hbz := hnx.size
          by_cases hjl : j < LL.length
          · obtain ⟨b1, o1, rfl, hcj⟩ := T.out j hjl
            have hcj' := keeps_below hnx (Nat.le_refl _) _ _ hcj
            have hEj := hEL _ (List.getElem_mem hjl)
            have F : Hid (Tn.deepL (Tn.deepest f d) (LL.take (j + 1)) base = max (Tn.deepL (Tn.deepest f d) (LL.take j) base) (1 + Tn.deepest f d LL[j])) := deepL_succ _ _ _ _ hjl
            have hcur : Tn.deepL (Tn.deepest f d) (LL.take j) base ≤ f + 1 := deepL_le _ f hle _ _ hbase
            have hx := hle LL[j]
            clear hcj
            generalize LL[j] = x at *
            generalize Tn.deepL (Tn.deepest f d) (LL.take j) base = cur at *
            generalize hv : Tn.deepest f d x = dx at *
            go_wp2_with (go_at_call 131; refine (ih x _ (H.out.keeps (keeps_below hnx (Nat.le_refl _))) hEj).mono ?_; rintro e w2 ⟨rfl, hb2⟩)
            all_goals
              go_roundw
              case rel => exact ⟨j + 1, by omega, by go_num, by rw [F.out]; congr 1; omega, hnx.trans (hb2.mono hbz), others_below hb2 (Nat.le_refl _) _ _ _ hblk (by decide)⟩
              case measure => simp [intOf]; omega
          · obtain rfl : j = LL.length := by omega
            rw [List.take_length]
            clear T
            go_wp2_with fail
            go_roundw
            case rel => exact ⟨i + 1, by omega, by go_num, by rw [hpt.out], hnx, hblk⟩
            case measure => simp [intOf]; omega
      · obtain rfl : i = 2 := by omega
        go_wp2_with fail
        go_ret
        exact ⟨by rw [E.out]; rfl, hnx⟩
end Go.Proofs.YtbinbojicmhdlaeGreatDoor

/-
  THE WALKS of the reference's Take.
-/
namespace Go.Proofs.YtbinbojicmhdlaeGreatDoor
open Go.RowKit

theorem hl_of {w : World} {p : Option Addr} {n c : Nat} {l : List Nat} (h : IntsAt w (.slice p n c) l) : n = l.length := by
  obtain ⟨_, _, e, _⟩ := h
  cases e
  rfl

theorem ints_set {w : World} {v : Value} {l : List Nat} (h : IntsAt w v l) {p : Addr} {u x : Value} (hp : w.cell? p = some x) (hx : ∀ k : Nat, x ≠ .int .i64 (k : Int)) : IntsAt (w.setCell p u) v l := by
  obtain ⟨q, c, e, h1, h2, h3, h4⟩ := h
  refine ⟨q, c, e, h1, h2, h3, fun j y hy => ?_⟩
  obtain ⟨b, o, e1, e2⟩ := h4 j y hy
  refine ⟨b, o, e1, ?_⟩
  rw [World.cell?_setCell_other _ _ _ _ ?_]
  · exact e2
  · intro hh
    subst hh
    rw [e2] at hp
    cases hp
    simp at hy
    obtain ⟨m, _, hm⟩ := hy
    exact hx m hm.symm

/-- a node in a box of the call's own, and how it reads -/
structure Mid (w W : World) (r : Raw) (n : Tn.Nd) : Prop where
  box : BoxAt W w.heap.size r
  nd : NdAt W r n
  keeps : Keeps w W
  below : Below w.heap.size w W

theorem take_mid {w w3 : World} {r : Raw} {n : Tn.Nd} (hN : NdAt w r n) (hb : BoxAt w3 w.heap.size r) (hk : Keeps w w3) (hB : Below w.heap.size w w3)
    {kp sp : Option Addr} {kc sc : Nat} {K S : List Nat} (h1 : IntsAt w3 (.slice kp K.length kc) K) (h2 : IntsAt w3 (.slice sp S.length sc) S) :
    Mid w ((w3.setCell ⟨w.heap.size, 5, none⟩ (.slice kp K.length kc)).setCell ⟨w.heap.size, 7, none⟩ (.slice sp S.length sc))
      { r with k := ⟨kp, K.length, kc⟩, s := ⟨sp, S.length, sc⟩ } { n with kids := K, shadow := S } := by
  have c7 : (w3.setCell ⟨w.heap.size, 5, none⟩ (.slice kp K.length kc)).cell? ⟨w.heap.size, 7, none⟩ = some (.slice r.s.p r.s.n r.s.c) := by
    rw [World.cell?_setCell_other _ _ _ _ (by simp)]
    exact hb.c7
  have hk2 : Keeps w ((w3.setCell ⟨w.heap.size, 5, none⟩ (.slice kp K.length kc)).setCell ⟨w.heap.size, 7, none⟩ (.slice sp S.length sc)) := keeps_set (keeps_set hk _ _ (Nat.le_refl _)) _ _ (Nat.le_refl _)
  have o : ∀ j v, j ≠ 5 → j ≠ 7 → w3.cell? ⟨w.heap.size, j, none⟩ = some v → ((w3.setCell ⟨w.heap.size, 5, none⟩ (.slice kp K.length kc)).setCell ⟨w.heap.size, 7, none⟩ (.slice sp S.length sc)).cell? ⟨w.heap.size, j, none⟩ = some v := by
    intro j v h5 h7 h
    rw [World.cell?_setCell_other _ _ _ _ (by intro e; cases e; omega), World.cell?_setCell_other _ _ _ _ (by intro e; cases e; omega)]
    exact h
  refine ⟨⟨o 0 _ (by decide) (by decide) hb.c0, o 1 _ (by decide) (by decide) hb.c1, o 2 _ (by decide) (by decide) hb.c2, o 3 _ (by decide) (by decide) hb.c3, o 4 _ (by decide) (by decide) hb.c4, ?_,
    o 6 _ (by decide) (by decide) hb.c6, ?_, o 8 _ (by decide) (by decide) hb.c8⟩, ⟨hN.live, hN.tag, hN.text, hN.up, hN.hasS, hN.inS, hN.attrs.keeps hk2, ?_, ?_⟩, hk2, (hB.setCell (Nat.le_refl _) _).setCell (Nat.le_refl _) _⟩
  · rw [World.cell?_setCell_other _ _ _ _ (by simp)]
    exact World.cell?_setCell_same _ _ _ hb.c5
  · exact World.cell?_setCell_same _ _ _ c7
  · exact ints_set (ints_set h1 hb.c5 (fun _ h => by cases h)) c7 (fun _ h => by cases h)
  · exact ints_set (ints_set h2 hb.c5 (fun _ h => by cases h)) c7 (fun _ h => by cases h)

set_option maxHeartbeats 1600000 in
set_option maxRecDepth 100000 in
theorem rtake_doc {w : World} {b o c : Nat} {rs : List Raw} {d : Tn.Dc} (hd : DocAt w b o c rs d) (hs : rs.length ≤ 1000) (k u : Nat) (hk : k < d.length) (hu : (Tn.nd d k).up = (u : Int)) (hud : u < d.length)
    (hkl : (Tn.nd d u).kids.length ≤ 1000) (hsl : (Tn.nd d u).shadow.length ≤ 1000) :
    Calls Tryz.prog 91 #[.slice (some ⟨b, o, none⟩) rs.length c, .int .i64 (k : Int)] w fun e w' =>
      ∃ g c' rs', e = .returned (.slice (some ⟨g, 0, none⟩) rs'.length c') ∧ DocAt w' g 0 c' rs' (Tn.takeD d k) ∧ Below w.heap.size w w' ∧ Hid (rs'.length = rs.length) := by
  have H : Hid (DocAt w b o c rs d) := hd
  have L : Hid (rs.length = d.length) := hd.len
  have hk' : k < rs.length := by rw [L.out]; exact hk
  have hu' : u < rs.length := by rw [L.out]; exact hud
  have h4 : w.cell? ⟨b, o + k * 9 + 4, none⟩ = some (.int .i64 (u : Int)) := by
    rw [hd.row.c4 k hk', (hd.nds k hk' hk).up, ← nd_at hk, hu]
  have r0 := hd.row.c0 u hu'
  have r1 := hd.row.c1 u hu'
  have r2 := hd.row.c2 u hu'
  have r3 := hd.row.c3 u hu'
  have r4 := hd.row.c4 u hu'
  have r5 := hd.row.c5 u hu'
  have r6 := hd.row.c6 u hu'
  have r7 := hd.row.c7 u hu'
  have r8 := hd.row.c8 u hu'
  have hN := hd.nds u hu' hud
  have E : Hid (Tn.takeD d k = Tn.withd d u { Tn.nd d u with kids := Tn.without (Tn.nd d u).kids k, shadow := Tn.without (Tn.nd d u).shadow k }) := by
    show _ = _
    unfold Tn.takeD
    rw [hu, Int.toNat_natCast]
  rw [← nd_at hud] at hN
  clear hd
  generalize rs[u] = r at *
  have NN : Hid (NdAt w r (Tn.nd d u)) := hN
  clear hN
  clear hu
  go_enter Tryz.func91, Tryz.ntmps91
  go_wp2_with fail
  have bx := box_new w r 46
  have bf := box_frozen w #[.bool r.live, .string r.tag, .string r.text, .slice r.a.p r.a.n r.a.c, .int .i64 r.up, .slice r.k.p r.k.n r.k.c, .bool r.hasS, .slice r.s.p r.s.n r.s.c, .bool r.inS] 46
  have hsz : (w.alloc (.cells #[.bool r.live, .string r.tag, .string r.text, .slice r.a.p r.a.n r.a.c, .int .i64 r.up, .slice r.k.p r.k.n r.k.c, .bool r.hasS, .slice r.s.p r.s.n r.s.c, .bool r.inS] 46)).heap.size = w.heap.size + 1 := by simp
  have K1 := keeps_alloc w (.cells #[.bool r.live, .string r.tag, .string r.text, .slice r.a.p r.a.n r.a.c, .int .i64 r.up, .slice r.k.p r.k.n r.k.c, .bool r.hasS, .slice r.s.p r.s.n r.s.c, .bool r.inS] 46)
  have B1 := (Below.refl w.heap.size w).alloc (Nat.le_refl _) (.cells #[.bool r.live, .string r.tag, .string r.text, .slice r.a.p r.a.n r.a.c, .int .i64 r.up, .slice r.k.p r.k.n r.k.c, .bool r.hasS, .slice r.s.p r.s.n r.s.c, .bool r.inS] 46)
  generalize w.alloc (.cells #[.bool r.live, .string r.tag, .string r.text, .slice r.a.p r.a.n r.a.c, .int .i64 r.up, .slice r.k.p r.k.n r.k.c, .bool r.hasS, .slice r.s.p r.s.n r.s.c, .bool r.inS] 46) = w1 at *
  have b5 := bx.c5
  have b7 := bx.c7
  have H4 : Hid (w.cell? ⟨b, o + k * 9 + 4, none⟩ = some (.int .i64 (u : Int))) := h4
  clear h4 r0 r1 r2 r3 r4 r5 r6 r7 r8
  go_region_with (first
    | (go_at_call_of 130 r.k.n; refine (rwithout_own (l := (Tn.nd d u).kids) ?_ hkl k).mono ?_; exact NN.out.kids.keeps (K1.trans (by first | exact KS | exact keeps_drew KS))
       rintro e w3 ⟨vk, rfl, hownk, hbk⟩; obtain ⟨kp, kc, rfl⟩ := hownk.shape
       have KK : Keeps w2 w3 := by first | exact keeps_below hbk (Nat.le_refl _) | exact (keeps_drew (Keeps.refl _)).trans (keeps_below hbk (Nat.le_refl _))
       have BK : Below w2.heap.size w2 w3 := by first | exact hbk | exact ((Below.refl _ w2).drew).trans hbk
       have d5 := (bx2.keeps KK).c5
       have d7 := (bx2.keeps KK).c7
       have bf3 := below_frozen BK (Nat.lt_of_lt_of_le (by omega) BS.size) bf2)
    | (go_at_call_of 130 r.s.n; refine (rwithout_own (l := (Tn.nd d u).shadow) ?_ hsl k).mono ?_; exact NN.out.shadow.keeps (K1.trans (by first | exact KK | exact keeps_drew KK))
       rintro e w3 ⟨vs, rfl, howns, hbs⟩; obtain ⟨sp, sc, rfl⟩ := howns.shape
       have KS : Keeps w2 w3 := by first | exact keeps_below hbs (Nat.le_refl _) | exact (keeps_drew (Keeps.refl _)).trans (keeps_below hbs (Nat.le_refl _))
       have BS : Below w2.heap.size w2 w3 := by first | exact hbs | exact ((Below.refl _ w2).drew).trans hbs
       have d5 := (bx2.keeps KS).c5
       have d7 := (bx2.keeps KS).c7
       have bf3 := below_frozen BS (Nat.lt_of_lt_of_le (by omega) BK.size) bf2)
    | (go_at_call_of 130 r.k.n; refine (rwithout_own (l := (Tn.nd d u).kids) ?_ hkl k).mono ?_; exact NN.out.kids.keeps (by first | exact K1 | exact keeps_drew K1)
       rintro e w2 ⟨vk, rfl, hownk, hbk⟩; obtain ⟨kp, kc, rfl⟩ := hownk.shape
       have KK : Keeps w1 w2 := by first | exact keeps_below hbk (Nat.le_refl _) | exact (keeps_drew (Keeps.refl _)).trans (keeps_below hbk (Nat.le_refl _))
       have BK : Below w1.heap.size w1 w2 := by first | exact hbk | exact ((Below.refl _ w1).drew).trans hbk
       have bx2 := bx.keeps KK
       have c5 := bx2.c5
       have c7 := bx2.c7
       have bf2 := below_frozen BK (by omega) bf)
    | (go_at_call_of 130 r.s.n; refine (rwithout_own (l := (Tn.nd d u).shadow) ?_ hsl k).mono ?_; exact NN.out.shadow.keeps (by first | exact K1 | exact keeps_drew K1)
       rintro e w2 ⟨vs, rfl, howns, hbs⟩; obtain ⟨sp, sc, rfl⟩ := howns.shape
       have KS : Keeps w1 w2 := by first | exact keeps_below hbs (Nat.le_refl _) | exact (keeps_drew (Keeps.refl _)).trans (keeps_below hbs (Nat.le_refl _))
       have BS : Below w1.heap.size w1 w2 := by first | exact hbs | exact ((Below.refl _ w1).drew).trans hbs
       have bx2 := bx.keeps KS
       have c5 := bx2.c5
       have c7 := bx2.c7
       have bf2 := below_frozen BS (by omega) bf))
  all_goals first
    | have M := take_mid NN.out (bx2.keeps KS) (K1.trans (KK.trans KS)) ((B1.trans (BK.mono (by omega))).trans (BS.mono (by have := BK.size; omega))) ((ints_of_owns hownk).keeps KS) (ints_of_owns howns)
    | have M := take_mid NN.out (bx2.keeps KK) (K1.trans (KS.trans KK)) ((B1.trans (BS.mono (by omega))).trans (BK.mono (by have := BS.size; omega))) (ints_of_owns hownk) ((ints_of_owns howns).keeps KK)
  all_goals
    generalize hWe : (w3.setCell _ _).setCell _ _ = W at M ⊢
    clear hWe hownk howns hbk hbs KK KS BK BS bx2 c5 c7 bf2 d5 d7 bf3 b5 b7 bx bf K1 B1 hsz
    clear w2 w3 w1
    generalize (Tn.without (Tn.nd d u).kids k).length = kn at *
    generalize (Tn.without (Tn.nd d u).shadow k).length = sn at *
    have h4 := M.keeps _ _ H4.out
    obtain ⟨m0, m1, m2, m3, m4, m5, m6, m7, m8⟩ := M.box
    have hle : u ≤ rs.length := by omega
    have h0 : 0 < rs.length := by omega
    have hbz := M.below.size
    go_wp2_with fail
    go_region_with (go_at_call 93; refine (rwith_doc (w := W.drew) (H.out.keeps (keeps_drew M.keeps)) hs h0 (M.nd.keeps (keeps_drew (Keeps.refl W))) u hle).mono ?_; rintro e w9 ⟨g9, c9, rs9, rfl, hd9, hb9, hrs9⟩)
    all_goals
      go_wp2_with fail
      go_ret
      refine ⟨_, _, _, rfl, by rw [E.out]; exact hd9, M.below.trans (((Below.refl _ W).drew).trans (hb9.mono (by exact hbz))), ?_⟩
      show _ = _
      rw [hrs9.out, withR_len, if_neg (by omega)]
end Go.Proofs.YtbinbojicmhdlaeGreatDoor
