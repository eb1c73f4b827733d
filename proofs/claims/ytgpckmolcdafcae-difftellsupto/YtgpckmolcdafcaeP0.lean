/-
  OWN WORK: Mod, Rd, Ap, Rta, Rt2, Rcm, Frm, Tre2, Dal, Dal2, Dfi, Dfi2, Fmo, Sdl, Fgi, Fsh, Trm, Qsh, Tma, Xma, Xmb.
-/
import Derived.Lib.Strings
import Derived.Test.YtgpckmolcdafcaeProg
import Derived.WalkKit
import Derived.WalkSpells
import Derived.WalkLawsBesides
import Derived.Laws.AppendOwnNone
import Derived.Deep.RegionWith
import Derived.Deep.RegionLaw
import Derived.Deep.Cut
import Derived.Deep.RegionHeld3
import Derived.Test.YtgpckmolcdafcaeRows
import Derived.Deep.Slices
import Derived.ProofKit
import Derived.OpenShut
import Derived.JoinedCond
import Derived.Carry
import Derived.Shelf.RegionOpenPlain
import Derived.Lib.SliceRun
/-
  PLAIN MATHEMATICS: documents as lists of nodes, and what the reference's functions make of them.
-/
namespace Go.Proofs.Ytgpckmolcdafcae
namespace Tn

structure Nd where
  live : Bool
  tag : ByteArray
  text : ByteArray
  attrs : List (ByteArray × ByteArray)
  up : Int
  kids : List Nat
  hasS : Bool
  shadow : List Nat
  inS : Bool

abbrev Dc := List Nd

def zero : Nd := ⟨false, ⟨#[]⟩, ⟨#[]⟩, [], 0, [], false, [], false⟩

def nd (d : Dc) (k : Nat) : Nd := (d[k]?).getD zero

def has (s : ByteArray) : Bool := !s.toList.isEmpty

def isN (d : Dc) (n : Int) (el : Bool) : Bool := decide (0 ≤ n) && decide (n < d.length) && (nd d n.toNat).live && (!el || has (nd d n.toNat).tag)

def path : Nat → Dc → Int → List Nat
  | 0, _, _ => []
  | f + 1, d, n => if isN d n false then n.toNat :: path f d (nd d n.toNat).up else []

def pathOf (d : Dc) (n : Int) : List Nat := path (d.length + 1) d n

def within (d : Dc) (n m : Int) : Bool := (pathOf d n).any fun k => decide ((k : Int) = m)

def all : Nat → Dc → Nat → List Nat
  | 0, _, _ => []
  | f + 1, d, n => if isN d n false then n :: ((nd d n).shadow.flatMap (all f d) ++ (nd d n).kids.flatMap (all f d)) else []

def deepL (g : Nat → Nat) (l : List Nat) (m : Nat) : Nat := l.foldl (fun m k => max m (1 + g k)) m

def deepest : Nat → Dc → Nat → Nat
  | 0, _, _ => 0
  | f + 1, d, n => deepL (deepest f d) (nd d n).kids (deepL (deepest f d) (nd d n).shadow 0)

def withd (d : Dc) (k : Nat) (n : Nd) : Dc := if k = d.length then d ++ [n] else d.set k n

def without (l : List Nat) (k : Nat) : List Nat := l.filter fun x => x != k

def lastAt (l : List Nat) (b : Int) : Nat → Int
  | 0 => -1
  | k + 1 => if ((l[k]?.getD 0 : Nat) : Int) = b then (k : Int) else lastAt l b k

def listOf (n : Nd) (s : Bool) : List Nat := if s then n.shadow else n.kids

def setList (n : Nd) (s : Bool) (l : List Nat) : Nd := if s then { n with shadow := l } else { n with kids := l }

def place (l : List Nat) (b : Int) : Int := if 0 ≤ b then lastAt l b l.length else l.length

def insertAt (l : List Nat) (i k : Nat) : List Nat := l.take i ++ [k] ++ l.drop i

def put1 (d : Dc) (k m : Nat) (b : Int) (s : Bool) : Dc := withd d m (setList (nd d m) s (insertAt (listOf (nd d m) s) (place (listOf (nd d m) s) b).toNat k))

/-- the steps of a fixed recursion -/
def fuel : Nat := 64

def putE (d : Dc) (k m : Nat) (b : Int) (s : Bool) : Int :=
  if place (listOf (nd d m) s) b < 0 then 8
  else if 12 ≤ (listOf (nd d m) s).length then 5
  else if (16 : Int) < ((pathOf (put1 d k m b s) k).length : Int) - 1 + (deepest fuel (put1 d k m b s) k : Int) then 3 else 0

def freeAt (d : Dc) : Nat → Nat
  | 0 => d.length
  | f + 1 => if (nd d (d.length - (f + 1))).live then freeAt d f else d.length - (f + 1)

def free (d : Dc) : Nat := freeAt d d.length

def made (x : Nd) (m : Nat) (s : Bool) : Nd := { x with live := true, up := (m : Int), inS := s }

def takeD (d : Dc) (k : Nat) : Dc :=
  withd d (nd d k).up.toNat { nd d (nd d k).up.toNat with kids := without (nd d (nd d k).up.toNat).kids k, shadow := without (nd d (nd d k).up.toNat).shadow k }


abbrev At := ByteArray × ByteArray

def eqS (a b : ByteArray) : Bool := a.toList == b.toList
def lessS (a b : ByteArray) : Bool := decide (a.toList < b.toList)

def aStep (name value : ByteArray) (s : List At × Bool) (a : At) : List At × Bool :=
  if eqS a.1 name then (s.1 ++ [(a.1, value)], true)
  else if lessS name a.1 && !s.2 then (s.1 ++ [(name, value)] ++ [a], true)
  else (s.1 ++ [a], s.2)

def aFold (name value : ByteArray) (l : List At) : List At × Bool := l.foldl (aStep name value) ([], false)

def attrsD (l : List At) (name value : ByteArray) : List At :=
  if (aFold name value l).2 then (aFold name value l).1 else (aFold name value l).1 ++ [(name, value)]

def attrOf (l : List At) (name : ByteArray) : Option ByteArray := (l.find? fun a => eqS a.1 name).map (·.2)

def attrsOff (l : List At) (name : ByteArray) : List At := l.filter fun a => !eqS a.1 name

def digitB (c : UInt8) : Bool := decide (48 ≤ c.toNat) && decide (c.toNat ≤ 57)
def letterB (c : UInt8) : Bool := decide (97 ≤ c.toNat) && decide (c.toNat ≤ 122)
def okB (c : UInt8) : Bool := letterB c || digitB c || c == 45
def nameL (l : List UInt8) : Bool := !l.isEmpty && decide (l.length ≤ 20) && letterB (l.headD 0) && l.all okB
def okName (s : ByteArray) : Bool := nameL s.data.toList

structure Chg where
  kind : Int
  node : Int
  to : Int
  before : Int
  name : ByteArray
  value : ByteArray

def slotT : List UInt8 := [115, 108, 111, 116]

/-- what a change makes of a document, not yet without its last nodes; the error, the node -/
def moveE (d : Dc) (x : Chg) : Int :=
  if x.node = 0 ∨ isN d x.to true = false then 8
  else if within d x.to x.node then 9
  else if x.before = x.node then 8
  else putE (withd (takeD d x.node.toNat) x.node.toNat { nd d x.node.toNat with up := x.to, inS := false }) x.node.toNat x.to.toNat x.before false

def moveD (d : Dc) (x : Chg) : Dc :=
  put1 (withd (takeD d x.node.toNat) x.node.toNat { nd d x.node.toNat with up := x.to, inS := false }) x.node.toNat x.to.toNat x.before false

def removeD (d : Dc) (x : Chg) : Dc := (all fuel d x.node.toNat).foldl (fun d k => withd d k zero) (takeD d x.node.toNat)

def sayE (d : Dc) (x : Chg) : Int := if has (nd d x.node.toNat).tag ∨ 60 < x.value.size then 8 else 0
def sayD (d : Dc) (x : Chg) : Dc := withd d x.node.toNat { nd d x.node.toNat with text := x.value }

def attrE (d : Dc) (x : Chg) : Int :=
  if okName x.name = false then 7
  else if 60 < x.value.size then 4
  else if 8 < (attrsD (nd d x.node.toNat).attrs x.name x.value).length then 5 else 0
def attrD (d : Dc) (x : Chg) : Dc := withd d x.node.toNat { nd d x.node.toNat with attrs := attrsD (nd d x.node.toNat).attrs x.name x.value }

def clearE (d : Dc) (x : Chg) : Int := if (attrOf (nd d x.node.toNat).attrs x.name).isSome then 0 else 6
def clearD (d : Dc) (x : Chg) : Dc := withd d x.node.toNat { nd d x.node.toNat with attrs := attrsOff (nd d x.node.toNat).attrs x.name }

def shadE (d : Dc) (x : Chg) : Int := if x.node = 0 ∨ (nd d x.node.toNat).hasS = true ∨ (nd d x.node.toNat).tag.toList = slotT then 8 else 0
def shadD (d : Dc) (x : Chg) : Dc := withd d x.node.toNat { nd d x.node.toNat with hasS := true }

def isText (x : Chg) : Bool := x.kind == 2 || x.kind == 10
def isSh (x : Chg) : Bool := x.kind == 9 || x.kind == 10
def newN (x : Chg) : Nd := if isText x then { zero with text := x.value } else { zero with tag := x.name }
def bef (x : Chg) : Int := if isSh x then -1 else x.before

def mk1 (d : Dc) (x : Chg) : Dc := withd d (free d) (made (newN x) x.node.toNat (isSh x))
def makeE (d : Dc) (x : Chg) : Int :=
  if isText x = true ∧ 60 < x.value.size then 4
  else if isText x = false ∧ okName x.name = false then 7
  else if isSh x = true ∧ (nd d x.node.toNat).hasS = false then 8
  else if 60 ≤ free d then 5
  else putE (mk1 d x) (free d) x.node.toNat (bef x) (isSh x)
def makeD (d : Dc) (x : Chg) : Dc := put1 (mk1 d x) (free d) x.node.toNat (bef x) (isSh x)

def chgE (d : Dc) (x : Chg) : Int :=
  if x.kind = 3 then moveE d x
  else if x.kind = 4 then (if x.node = 0 then 8 else 0)
  else if x.kind = 7 then sayE d x
  else if has (nd d x.node.toNat).tag = false then 8
  else if x.kind = 5 then attrE d x
  else if x.kind = 6 then clearE d x
  else if x.kind = 8 then shadE d x
  else makeE d x

def chgD (d : Dc) (x : Chg) : Dc :=
  if x.kind = 3 then moveD d x
  else if x.kind = 4 then removeD d x
  else if x.kind = 7 then sayD d x
  else if x.kind = 5 then attrD d x
  else if x.kind = 6 then clearD d x
  else if x.kind = 8 then shadD d x
  else makeD d x

def lastLive (d : Dc) : Nat → Nat
  | 0 => 1
  | k + 1 => if (nd d k).live ∧ lastLive d k ≤ k then k + 1 else lastLive d k

def trimD (d : Dc) : Dc := d.take (lastLive d d.length)

def applyE (d : Dc) (x : Chg) : Int :=
  if x.kind < 1 ∨ 10 < x.kind then 1
  else if isN d x.node false = false then 6
  else chgE d x
def applyD (d : Dc) (x : Chg) : Dc := trimD (chgD d x)

def root : Nd := ⟨true, ⟨#[109, 97, 105, 110]⟩, ⟨#[]⟩, [], -1, [], false, [], false⟩

def step (d : Dc) (x : Chg) : Dc := if applyE d x = 0 then applyD d x else d
end Tn
end Go.Proofs.Ytgpckmolcdafcae

/-
  HOW DOCUMENTS LIE IN MEMORY: rows of cells, nodes as they lie, nodes as they read.
-/
namespace Go.Proofs.Ytgpckmolcdafcae
open Go.RowKit

theorem infoI : (Try.prog.info? 3).map (fun i => (i.zero, i.size, i.bytes)) = some (some (.int .i64 0), 1, 8) := by kernel_rfl
/-- a slice v of n elements of k cells each; its cells hold xs -/
def CellsAt (w : World) (v : Value) (n : Nat) (xs : List Value) : Prop :=
  ∃ p c, v = .slice p n c ∧ n ≤ c ∧ c ≤ maxLen ∧ ((p = none ∧ c = 0) ∨ ∃ b o, p = some ⟨b, o, none⟩) ∧ ∀ j x, xs[j]? = some x → ∃ b o, p = some ⟨b, o, none⟩ ∧ w.cell? ⟨b, o + j, none⟩ = some x

def iv (k : Nat) : Value := .int .i64 (k : Int)
def av (a : ByteArray × ByteArray) : List Value := [.string a.1, .string a.2]

def IntsAt (w : World) (v : Value) (l : List Nat) : Prop := CellsAt w v l.length (l.map iv)
def AttrsAt (w : World) (v : Value) (l : List (ByteArray × ByteArray)) : Prop := CellsAt w v l.length (l.flatMap av)

/-- a slice as it lies -/
structure Sl where
  p : Option Addr
  n : Nat
  c : Nat

/-- a node as it lies -/
structure Raw where
  live : Bool
  tag : ByteArray
  text : ByteArray
  a : Sl
  up : Int
  k : Sl
  hasS : Bool
  s : Sl
  inS : Bool

def Raw.cells (r : Raw) : List Value := [.bool r.live, .string r.tag, .string r.text, (.slice r.a.p r.a.n r.a.c), .int .i64 r.up, (.slice r.k.p r.k.n r.k.c), .bool r.hasS, (.slice r.s.p r.s.n r.s.c), .bool r.inS]

structure NdAt (w : World) (r : Raw) (n : Tn.Nd) : Prop where
  live : r.live = n.live
  tag : r.tag = n.tag
  text : r.text = n.text
  up : r.up = n.up
  hasS : r.hasS = n.hasS
  inS : r.inS = n.inS
  attrs : AttrsAt w (.slice r.a.p r.a.n r.a.c) n.attrs
  kids : IntsAt w (.slice r.k.p r.k.n r.k.c) n.kids
  shadow : IntsAt w (.slice r.s.p r.s.n r.s.c) n.shadow

/-- the row of nodes at b, o -/
structure RowOf (w : World) (b o : Nat) (rs : List Raw) : Prop where
  c0 : ∀ k (h : k < rs.length), w.cell? ⟨b, o + k * 9, none⟩ = some (.bool rs[k].live)
  c1 : ∀ k (h : k < rs.length), w.cell? ⟨b, o + k * 9 + 1, none⟩ = some (.string rs[k].tag)
  c2 : ∀ k (h : k < rs.length), w.cell? ⟨b, o + k * 9 + 2, none⟩ = some (.string rs[k].text)
  c3 : ∀ k (h : k < rs.length), w.cell? ⟨b, o + k * 9 + 3, none⟩ = some (.slice rs[k].a.p rs[k].a.n rs[k].a.c)
  c4 : ∀ k (h : k < rs.length), w.cell? ⟨b, o + k * 9 + 4, none⟩ = some (.int .i64 rs[k].up)
  c5 : ∀ k (h : k < rs.length), w.cell? ⟨b, o + k * 9 + 5, none⟩ = some (.slice rs[k].k.p rs[k].k.n rs[k].k.c)
  c6 : ∀ k (h : k < rs.length), w.cell? ⟨b, o + k * 9 + 6, none⟩ = some (.bool rs[k].hasS)
  c7 : ∀ k (h : k < rs.length), w.cell? ⟨b, o + k * 9 + 7, none⟩ = some (.slice rs[k].s.p rs[k].s.n rs[k].s.c)
  c8 : ∀ k (h : k < rs.length), w.cell? ⟨b, o + k * 9 + 8, none⟩ = some (.bool rs[k].inS)

/-- a document that is not nil -/
structure DocAt (w : World) (b o c : Nat) (rs : List Raw) (d : Tn.Dc) : Prop where
  cap : rs.length ≤ c
  capM : c ≤ maxLen
  len : rs.length = d.length
  row : RowOf w b o rs
  nds : ∀ k (h : k < rs.length) (h' : k < d.length), NdAt w rs[k] d[k]

theorem lt_of_cell {w : World} {a : Addr} {v : Value} (h : w.cell? a = some v) : a.block < w.heap.size := by
  apply Classical.byContradiction
  intro hn
  have e : w.heap[a.block]? = none := by simp; omega
  simp [World.cell?, e] at h

/-- all cells that there were hold what they held -/
def Keeps (w w' : World) : Prop := ∀ a v, w.cell? a = some v → w'.cell? a = some v

theorem Keeps.refl (w : World) : Keeps w w := fun _ _ h => h
theorem Keeps.trans {a b c : World} (h : Keeps a b) (k : Keeps b c) : Keeps a c := fun _ _ x => k _ _ (h _ _ x)
theorem keeps_below {B : Nat} {w w' : World} (hb : Below B w w') (hB : w.heap.size ≤ B) : Keeps w w' := by
  intro a v h
  rw [hb.cell (Nat.lt_of_lt_of_le (lt_of_cell h) hB)]
  exact h
theorem keeps_alloc (w : World) (o : Obj) : Keeps w (w.alloc o) := keeps_below ((Below.refl w.heap.size w).alloc (Nat.le_refl _) o) (Nat.le_refl _)

theorem CellsAt.keeps {w w' : World} {v : Value} {n : Nat} {xs : List Value} (h : CellsAt w v n xs) (k : Keeps w w') : CellsAt w' v n xs := by
  obtain ⟨p, c, e, h1, h2, h3, h4⟩ := h
  refine ⟨p, c, e, h1, h2, h3, fun j x hx => ?_⟩
  obtain ⟨b, o, e1, e2⟩ := h4 j x hx
  exact ⟨b, o, e1, k _ _ e2⟩
theorem IntsAt.keeps {w w' : World} {v : Value} {l : List Nat} (h : IntsAt w v l) (k : Keeps w w') : IntsAt w' v l := CellsAt.keeps h k
theorem AttrsAt.keeps {w w' : World} {v : Value} {l : List (ByteArray × ByteArray)} (h : AttrsAt w v l) (k : Keeps w w') : AttrsAt w' v l := CellsAt.keeps h k
theorem NdAt.keeps {w w' : World} {r : Raw} {n : Tn.Nd} (h : NdAt w r n) (k : Keeps w w') : NdAt w' r n :=
  ⟨h.live, h.tag, h.text, h.up, h.hasS, h.inS, h.attrs.keeps k, h.kids.keeps k, h.shadow.keeps k⟩
theorem RowOf.keeps {w w' : World} {b o : Nat} {rs : List Raw} (h : RowOf w b o rs) (k : Keeps w w') : RowOf w' b o rs :=
  ⟨fun i hi => k _ _ (h.c0 i hi), fun i hi => k _ _ (h.c1 i hi), fun i hi => k _ _ (h.c2 i hi), fun i hi => k _ _ (h.c3 i hi), fun i hi => k _ _ (h.c4 i hi),
    fun i hi => k _ _ (h.c5 i hi), fun i hi => k _ _ (h.c6 i hi), fun i hi => k _ _ (h.c7 i hi), fun i hi => k _ _ (h.c8 i hi)⟩
theorem DocAt.keeps {w w' : World} {b o c : Nat} {rs : List Raw} {d : Tn.Dc} (h : DocAt w b o c rs d) (k : Keeps w w') : DocAt w' b o c rs d :=
  ⟨h.cap, h.capM, h.len, h.row.keeps k, fun i hi hi' => (h.nds i hi hi').keeps k⟩

theorem add_at (g o j : Nat) : Addr.add ⟨g, o, none⟩ j = ⟨g, o + j, none⟩ := by
  by_cases h : j = 0 <;> simp [Addr.add, h]
theorem owns_shape {w : World} {B e k n : Nat} {v : Value} {xs : List Value} (h : w.ownsRow B e k v n xs) : ∃ p c, v = .slice p n c := by
  obtain ⟨hl, h2⟩ := h
  rcases h2 with ⟨rfl, rfl⟩ | ⟨g, cap, cur, rfl, _⟩
  · exact ⟨none, 0, rfl⟩
  · exact ⟨_, _, rfl⟩
theorem cells_of_owns {w : World} {B e k n : Nat} {v : Value} {xs : List Value} (h : w.ownsRow B e k v n xs) : CellsAt w v n xs := by
  have hc := fun g hg => World.ownsRow.cells h (g := g) hg
  obtain ⟨hl, h2⟩ := h
  rcases h2 with ⟨rfl, rfl⟩ | ⟨g, cap, cur, rfl, h3, h4, h5, h6, h7, h8⟩
  · exact ⟨none, 0, rfl, Nat.le_refl _, by decide, Or.inl ⟨rfl, rfl⟩, fun j x hx => by have : xs = [] := List.length_eq_zero_iff.mp (by omega); subst this; simp at hx⟩
  · refine ⟨_, cap, rfl, h5, h6, Or.inr ⟨g, 0, rfl⟩, fun j x hx => ⟨g, 0, rfl, ?_⟩⟩
    rw [← add_at]; exact hc g rfl j x hx
/-- a slice of ints of the call's own -/
def OwnI (w : World) (B : Nat) (v : Value) (l : List Nat) : Prop := w.ownsRow B 3 1 v l.length (l.map iv)
theorem OwnI.nil (w : World) (B : Nat) : OwnI w B (.slice none 0 0) [] := World.ownsRow_nil _ _ _ _
theorem OwnI.shape {w : World} {B : Nat} {v : Value} {l : List Nat} (h : OwnI w B v l) : ∃ p c, v = .slice p l.length c := owns_shape h
theorem ints_of_owns {w : World} {B : Nat} {v : Value} {l : List Nat} (h : OwnI w B v l) : IntsAt w v l := cells_of_owns h

/-- an element of a slice of ints, in the walk's own form -/
theorem IntsAt.at {w : World} {v : Value} {l : List Nat} (h : IntsAt w v l) : ∃ p c, v = .slice p l.length c ∧ l.length ≤ c ∧ c ≤ 9223372036854775807 ∧ ((p = none ∧ c = 0) ∨ ∃ b o, p = some ⟨b, o, none⟩) ∧
    ∀ j (hj : j < l.length), ∃ b o, p = some ⟨b, o, none⟩ ∧ w.cell? ⟨b, o + j, none⟩ = some (.int .i64 (l[j] : Int)) := by
  obtain ⟨p, c, e, h1, h2, h3, h4⟩ := h
  refine ⟨p, c, e, h1, by unfold maxLen at h2; omega, h3, fun j hj => ?_⟩
  exact h4 j _ (by simp [List.getElem?_eq_getElem hj, iv])

theorem flat_at {α : Type} (f : α → List Value) (k : Nat) (hf : ∀ a, (f a).length = k) : ∀ (l : List α) (i j : Nat), j < k → (l.flatMap f)[i * k + j]? = (l[i]?).bind fun a => (f a)[j]?
  | [], i, j, _ => by simp
  | a :: l, 0, j, hj => by
    rw [List.flatMap_cons, List.getElem?_append_left (by rw [hf]; omega)]
    simp
  | a :: l, i + 1, j, hj => by
    rw [List.flatMap_cons, List.getElem?_append_right (by rw [hf, Nat.succ_mul]; omega), hf]
    have e : (i + 1) * k + j - k = i * k + j := by rw [Nat.succ_mul]; omega
    rw [e, flat_at f k hf l i j hj]
    simp

theorem flat_len {α : Type} (f : α → List Value) (k : Nat) (hf : ∀ a, (f a).length = k) (l : List α) : (l.flatMap f).length = l.length * k := by
  induction l with
  | nil => simp
  | cons a l ih => rw [List.flatMap_cons, List.length_append, ih, hf, List.length_cons, Nat.succ_mul]; omega

end Go.Proofs.Ytgpckmolcdafcae

/-
  LAWS ON append, in the form that the walks take.
-/
namespace Go.Proofs.Ytgpckmolcdafcae
open Go.RowKit

/-- blocks of other types than int's are as they were -/
def Others (w w' : World) : Prop := ∀ (g : Nat) (cs : Array Value) (t : TypeId), w.heap[g]? = some (Obj.cells cs t) → t ≠ 3 → w'.heap[g]? = some (Obj.cells cs t)
theorem Others.trans {a b c : World} (h : Others a b) (k : Others b c) : Others a c := fun g cs t x hx => k g cs t (h g cs t x hx) hx
theorem grown_refl (w : World) (row : Option Nat) : w.grownBy w row := ⟨rfl, rfl, rfl, Nat.le_refl _, fun _ _ _ => rfl⟩

def Raw.agg (r : Raw) : Value := .agg #[.bool r.live, .string r.tag, .string r.text, (.slice r.a.p r.a.n r.a.c), .int .i64 r.up, (.slice r.k.p r.k.n r.k.c), .bool r.hasS, (.slice r.s.p r.s.n r.s.c), .bool r.inS]
/-- a node in a block of its own -/
structure BoxAt (w : World) (g : Nat) (r : Raw) : Prop where
  c0 : w.cell? ⟨g, 0, none⟩ = some (.bool r.live)
  c1 : w.cell? ⟨g, 1, none⟩ = some (.string r.tag)
  c2 : w.cell? ⟨g, 2, none⟩ = some (.string r.text)
  c3 : w.cell? ⟨g, 3, none⟩ = some (.slice r.a.p r.a.n r.a.c)
  c4 : w.cell? ⟨g, 4, none⟩ = some (.int .i64 r.up)
  c5 : w.cell? ⟨g, 5, none⟩ = some (.slice r.k.p r.k.n r.k.c)
  c6 : w.cell? ⟨g, 6, none⟩ = some (.bool r.hasS)
  c7 : w.cell? ⟨g, 7, none⟩ = some (.slice r.s.p r.s.n r.s.c)
  c8 : w.cell? ⟨g, 8, none⟩ = some (.bool r.inS)

theorem BoxAt.keeps {w w' : World} {g : Nat} {r : Raw} (h : BoxAt w g r) (k : Keeps w w') : BoxAt w' g r :=
  ⟨k _ _ h.c0, k _ _ h.c1, k _ _ h.c2, k _ _ h.c3, k _ _ h.c4, k _ _ h.c5, k _ _ h.c6, k _ _ h.c7, k _ _ h.c8⟩
theorem BoxAt.grown {w w' : World} {g : Nat} {r : Raw} (h : BoxAt w g r) {row : Option Nat} (hg : w.grownBy w' row) (hne : some g ≠ row) : BoxAt w' g r :=
  ⟨hg.cell h.c0 hne, hg.cell h.c1 hne, hg.cell h.c2 hne, hg.cell h.c3 hne, hg.cell h.c4 hne, hg.cell h.c5 hne, hg.cell h.c6 hne, hg.cell h.c7 hne, hg.cell h.c8 hne⟩
theorem owns_set {w : World} {B e k n g c : Nat} {xs : List Value} (h : w.ownsRow B e k (.slice (some ⟨g, 0, none⟩) n c) n xs) (i : Nat) (x : Value) :
    (w.setCell ⟨g, i, none⟩ x).ownsRow B e k (.slice (some ⟨g, 0, none⟩) n c) n (xs.set i x) := by
  obtain ⟨hl, hz⟩ := h
  rcases hz with ⟨h5, _⟩ | ⟨g', cap, cur, e, h3, h6, h7, h8, h9, h10⟩
  · cases h5
  · cases e
    refine ⟨by simpa using hl, Or.inr ⟨g, c, cur.setIfInBounds i x, rfl, h3, heap_setCell_same _ _ _ _ _ _ h6, h7, h8, by simpa using h9, ?_⟩⟩
    rw [← h10, Array.toList_setIfInBounds, List.take_set]

theorem OwnI.below {w w' : World} {B C : Nat} {v : Value} {l : List Nat} (h : OwnI w B v l) (hb : Below C w w') (hC : w.heap.size ≤ C) : OwnI w' B v l := by
  obtain ⟨hl, hz⟩ := h
  refine ⟨hl, ?_⟩
  rcases hz with h5 | ⟨g, cap, cur, e, h3, h6, h7⟩
  · exact Or.inl h5
  · refine Or.inr ⟨g, cap, cur, e, h3, ?_, h7⟩
    have hlt : g < w.heap.size := by
      apply Classical.byContradiction
      intro hn
      rw [Array.getElem?_eq_none (by omega)] at h6
      cases h6
    rw [hb.block g (by omega)]
    exact h6
theorem OwnI.alloc {w : World} {B : Nat} {v : Value} {l : List Nat} (h : OwnI w B v l) (o : Obj) : OwnI (w.alloc o) B v l := World.ownsRow.alloc h o

theorem keeps_drew {a w : World} (h : Keeps a w) : Keeps a w.drew := fun p v x => by simpa using h p v x
theorem keeps_alloc' {a w : World} (o : Obj) (h : Keeps a w) : Keeps a (w.alloc o) := h.trans (keeps_alloc w o)
end Go.Proofs.Ytgpckmolcdafcae

/-
  THE WALKS of the reference's Take.
-/
namespace Go.Proofs.Ytgpckmolcdafcae
open Go.RowKit

theorem hl_of {w : World} {p : Option Addr} {n c : Nat} {l : List Nat} (h : IntsAt w (.slice p n c) l) : n = l.length := by
  obtain ⟨_, _, e, _⟩ := h
  cases e
  rfl

end Go.Proofs.Ytgpckmolcdafcae

/-
  THE WALK of the reference's Take, once more: what it answers lies in no block that there was, but for what there was.
-/
namespace Go.Proofs.Ytgpckmolcdafcae
open Go.RowKit

def SlOff (g0 : Nat) (s : Sl) : Prop := ∀ ad, s.p = some ad → s.n ≠ 0 → ad.block ≠ g0
def RawOff (g0 : Nat) (r : Raw) : Prop := SlOff g0 r.a ∧ SlOff g0 r.k ∧ SlOff g0 r.s
theorem al_of {w : World} {p : Option Addr} {n c : Nat} {l : List Tn.At} (h : AttrsAt w (.slice p n c) l) : n = l.length := by
  obtain ⟨_, _, e, _⟩ := h
  cases e
  rfl

theorem OwnI.off {w : World} {B : Nat} {p : Option Addr} {n c : Nat} {l : List Nat} (h : OwnI w B (.slice p n c) l) : ∀ ad, p = some ad → B ≤ ad.block := by
  intro ad e
  obtain ⟨_, hz⟩ := h
  rcases hz with ⟨h5, _⟩ | ⟨g, cap, cur, e', h3, _⟩
  · cases h5; cases e
  · cases e'; cases e; exact h3
end Go.Proofs.Ytgpckmolcdafcae

/-
  THE WALKS of the reference's change: move.
-/
namespace Go.Proofs.Ytgpckmolcdafcae
open Go.RowKit

end Go.Proofs.Ytgpckmolcdafcae

/-
  ARGUMENTS: a slice of changes that came in, as it reads.
-/
namespace Go.Proofs.Ytgpckmolcdafcae
open Go.ChangeShapes Go.WideShapes Go.ChangeAt Go.RowKit

theorem cellsI : Try.prog.cellsOf 3 = 1 := by kernel_rfl
theorem cellsS : Try.prog.cellsOf 9 = 1 := by kernel_rfl
theorem own_knob : ownKnob Try.prog.godebug = none := by kernel_rfl
theorem laid_out : laidOutB Try.prog = true := by kernel_rfl

end Go.Proofs.Ytgpckmolcdafcae

/-
  PLAIN MATHEMATICS: what the changes make of a tree is a tree.
-/
namespace Go.Proofs.Ytgpckmolcdafcae
namespace Tn

theorem len_insertAt {l : List Nat} {a k : Nat} : (insertAt l a k).length = l.length + 1 := by
  unfold insertAt
  simp
  omega
variable {lv : Nat → Bool} {up : Nat → Nat} {ins : Nat → Bool} {li : Nat → Bool → List Nat} {r : Nat → Nat}

end Tn
end Go.Proofs.Ytgpckmolcdafcae

/-
  THE WALK of dom.All, and of the function in it that calls itself.
-/
namespace Go.Proofs.Ytgpckmolcdafcae
open Go.RowKit

/-- below B all is as it was, but for block A -/
structure But (B A : Nat) (w w' : World) : Prop where
  os : w'.os = w.os
  tape : w'.tape = w.tape
  output : w'.output = w.output
  size : w.heap.size ≤ w'.heap.size
  block : ∀ k, k < B → k ≠ A → w'.heap[k]? = w.heap[k]?

theorem But.refl (B A : Nat) (w : World) : But B A w w := ⟨rfl, rfl, rfl, Nat.le_refl _, fun _ _ _ => rfl⟩
theorem But.trans {B A : Nat} {a b c : World} (h : But B A a b) (k : But B A b c) : But B A a c :=
  ⟨k.os.trans h.os, k.tape.trans h.tape, k.output.trans h.output, Nat.le_trans h.size k.size, fun i hi hn => (k.block i hi hn).trans (h.block i hi hn)⟩
theorem But.of {B A C : Nat} {w w' : World} (h : Below C w w') (hC : B ≤ C) : But B A w w' := ⟨h.os, h.tape, h.output, h.size, fun i hi _ => h.block i (by omega)⟩
theorem But.set {B A : Nat} {w w' : World} (h : But B A w w') (u : Value) : But B A w (w'.setCell ⟨A, 0, none⟩ u) := by
  have hb := (Below.refl 0 w').setCell (p := ⟨A, 0, none⟩) (Nat.zero_le _) u
  exact ⟨hb.os.trans h.os, hb.tape.trans h.tape, hb.output.trans h.output, Nat.le_trans h.size hb.size, fun i hi hn => by rw [heap_setCell_other _ _ _ _ hn]; exact h.block i hi hn⟩
theorem But.drew {B A : Nat} {w w' : World} (h : But B A w w') : But B A w w'.drew := ⟨h.os, h.tape, h.output, h.size, h.block⟩
theorem But.cell {B A : Nat} {w w' : World} (h : But B A w w') {p : Addr} {v : Value} (hv : w.cell? p = some v) (hB : w.heap.size ≤ B) (hp : p.block ≠ A) : w'.cell? p = some v := by
  have hl := lt_of_cell hv
  rw [← hv]
  exact World.cell?_of_block (h.block p.block (by omega) hp)
theorem But.below {B A : Nat} {w w' : World} (h : But B A w w') {C : Nat} (hC : C ≤ B) (hA : C ≤ A) : Below C w w' := ⟨h.os, h.tape, h.output, h.size, fun i hi => h.block i (by omega) (by omega)⟩

theorem But.cells {B A : Nat} {w w' : World} (h : But B A w w') (hB : w.heap.size ≤ B) {p : Option Addr} {n c : Nat} {xs : List Value} (hc : CellsAt w (.slice p n c) n xs) (ho : SlOff A ⟨p, n, c⟩) (hx : n = 0 → xs = []) : CellsAt w' (.slice p n c) n xs := by
  obtain ⟨p', c', e, h1, h2, h3, h4⟩ := hc
  cases e
  refine ⟨p, c, rfl, h1, h2, h3, fun i x hi => ?_⟩
  obtain ⟨b, o, e1, e2⟩ := h4 i x hi
  refine ⟨b, o, e1, h.cell e2 hB ?_⟩
  have hn : n ≠ 0 := by
    intro hn
    rw [hx hn] at hi
    simp at hi
  exact ho ⟨b, o, none⟩ e1 hn
theorem But.nd {B A : Nat} {w w' : World} (h : But B A w w') (hB : w.heap.size ≤ B) {r : Raw} {n : Tn.Nd} (hn : NdAt w r n) (ho : RawOff A r) : NdAt w' r n := by
  have e1 : r.a.n = n.attrs.length := al_of hn.attrs
  have e2 : r.k.n = n.kids.length := hl_of hn.kids
  have e3 : r.s.n = n.shadow.length := hl_of hn.shadow
  refine ⟨hn.live, hn.tag, hn.text, hn.up, hn.hasS, hn.inS, ?_, ?_, ?_⟩
  · have h9 := hn.attrs
    unfold AttrsAt at h9 ⊢
    rw [← e1] at h9 ⊢
    exact h.cells hB h9 ho.1 (fun hz => by rw [hz] at e1; have : n.attrs = [] := List.length_eq_zero_iff.mp e1.symm; rw [this]; rfl)
  · have h9 := hn.kids
    unfold IntsAt at h9 ⊢
    rw [← e2] at h9 ⊢
    exact h.cells hB h9 ho.2.1 (fun hz => by rw [hz] at e2; have : n.kids = [] := List.length_eq_zero_iff.mp e2.symm; rw [this]; rfl)
  · have h9 := hn.shadow
    unfold IntsAt at h9 ⊢
    rw [← e3] at h9 ⊢
    exact h.cells hB h9 ho.2.2 (fun hz => by rw [hz] at e3; have : n.shadow = [] := List.length_eq_zero_iff.mp e3.symm; rw [this]; rfl)
theorem OwnI.set {w : World} {B A : Nat} {v : Value} {l : List Nat} (h : OwnI w B v l) (hA : A < B) (u : Value) : OwnI (w.setCell ⟨A, 0, none⟩ u) B v l := ownsRow_setCell_below h (a := ⟨A, 0, none⟩) hA u

end Go.Proofs.Ytgpckmolcdafcae

/-
  THE WALK of dom.All.
-/
namespace Go.Proofs.Ytgpckmolcdafcae
open Go.RowKit

theorem blk_alloc {w : World} {g : Nat} {x : Obj} (h : w.heap[g]? = some x) (o : Obj) : (w.alloc o).heap[g]? = some x := by
  have hlt : g < w.heap.size := by
    apply Classical.byContradiction
    intro hn
    rw [Array.getElem?_eq_none (by omega)] at h
    cases h
  rw [heap_alloc_old w o hlt]
  exact h
theorem blk_new (w : World) (o : Obj) {n : Nat} (hn : w.heap.size = n) : (w.alloc o).heap[n]? = some o := by
  rw [← hn]
  exact heap_alloc_new w o

end Go.Proofs.Ytgpckmolcdafcae

/-
  THE WALKS of dom.Find: its own function, the search, and itself.
-/
namespace Go.Proofs.Ytgpckmolcdafcae
open Go.RowKit

def idT : ByteArray := ⟨#[105, 100]⟩
/-- the attribute id of a node -/
def idOf (d : Tn.Dc) (k : Nat) : Option ByteArray := if Tn.isN d (k : Int) true then Tn.attrOf (Tn.nd d k).attrs idT else none

end Go.Proofs.Ytgpckmolcdafcae

/-
  THE WALKS of the search in dom.Find, and of dom.Find.
-/
namespace Go.Proofs.Ytgpckmolcdafcae
open Go.RowKit

def idxI (p : Nat → Bool) (l : List Nat) : Int := match l.findIdx? p with
  | some i => (i : Int)
  | none => -1

theorem idxI_some {p : Nat → Bool} {l : List Nat} {j : Nat} (hj : j < l.length) (hp : p l[j] = true) (hn : ∀ k ∈ l.take j, p k = false) : idxI p l = (j : Int) := by
  have : l.findIdx? p = some j := by
    rw [List.findIdx?_eq_some_iff_getElem]
    refine ⟨hj, hp, fun k hk => ?_⟩
    have := hn l[k] (List.mem_take_iff_getElem.mpr ⟨k, by omega, rfl⟩)
    simp [this]
  unfold idxI
  rw [this]
theorem idxI_none {p : Nat → Bool} {l : List Nat} (hn : ∀ k ∈ l, p k = false) : idxI p l = -1 := by
  have : l.findIdx? p = none := by
    rw [List.findIdx?_eq_none_iff]
    intro x hx
    exact hn x hx
  unfold idxI
  rw [this]

theorem cell_box (w : World) (v : Value) {t : Nat} : (w.alloc (.cells #[v] t)).cell? ⟨w.heap.size, 0, none⟩ = some v := by
  rw [World.cell?_alloc_new]; rfl
end Go.Proofs.Ytgpckmolcdafcae

/-
  WHAT package flat tells, in plain mathematics; the walks of flat.isSlotted, isSlot.
-/
namespace Go.Proofs.Ytgpckmolcdafcae
open Go.RowKit

/-- an attribute of a node -/
def attrN (d : Tn.Dc) (k : Int) (name : ByteArray) : Option ByteArray := if Tn.isN d k true then Tn.attrOf (Tn.nd d k.toNat).attrs name else none
end Go.Proofs.Ytgpckmolcdafcae

/-
  THE WALKS of slices.IndexFunc and slices.DeleteFunc at ints, whatever the function.
-/
namespace Go.Proofs.Ytgpckmolcdafcae
open Go.RowKit

theorem grow_below {a w w' : World} {row : Option Nat} (h : a.grownBy w row) (hb : Below w.heap.size w w') : a.grownBy w' row :=
  ⟨hb.os.trans h.os, hb.tape.trans h.tape, hb.output.trans h.output, Nat.le_trans h.size hb.size, fun k hk hr => (hb.block k (Nat.lt_of_lt_of_le hk h.size)).trans (h.block k hk hr)⟩
theorem grow_set {a w : World} {g : Nat} (h : a.grownBy w (some g)) (i : Nat) (u : Value) : a.grownBy (w.setCell ⟨g, i, none⟩ u) (some g) := by
  have hb : Below 0 w (w.setCell ⟨g, i, none⟩ u) := (Below.refl 0 w).setCell (Nat.zero_le _) u
  refine ⟨hb.os.trans h.os, hb.tape.trans h.tape, hb.output.trans h.output, Nat.le_trans h.size hb.size, fun k hk hr => ?_⟩
  have hk' : Below g w (w.setCell ⟨g, i, none⟩ u) := (Below.refl g w).setCell (Nat.le_refl _) u
  rw [← h.block k hk hr]
  exact heap_setCell_other _ _ _ _ (fun e => hr (by rw [e]))

/-- a function value of one int, that answers p, and lays only what is its own -/
def Tests (g : Nat) (lb : Array Value) (p : Nat → Bool) (W : World) : Prop :=
  ∀ k : Nat, Calls Try.prog g (#[.int .i64 (k : Int)] ++ lb) W fun e w' => e = .returned (.bool (p k)) ∧ Below W.heap.size W w'

set_option maxHeartbeats 1600000 in
theorem idxF_any {g : Nat} {lb : Array Value} {p : Nat → Bool} (eg : ∀ args w, (callFunc g args).run Try.prog w = .ok (.enter g args) w) {w : World} {vl : Value} {l : List Nat} (hl : IntsAt w vl l) (hF : ∀ W, Below w.heap.size w W → Tests g lb p W) :
    Calls Try.prog 57 #[vl, .func (.func g) #[] lb] w fun e w' => e = .returned (.int .i64 (idxI p l)) ∧ Below w.heap.size w w' := by
  obtain ⟨q, cc, rfl, h1, h2, _, hat⟩ := hl.at
  have T : Hid (∀ j (hj : j < l.length), ∃ b o, q = some ⟨b, o, none⟩ ∧ w.cell? ⟨b, o + j, none⟩ = some (.int .i64 (l[j] : Int))) := hat
  have HA : Hid (∀ W, Below w.heap.size w W → Tests g lb p W) := hF
  clear hat hl hF
  go_enter Try.func57, Try.ntmps57
  go_wp2_with fail
  go_loopw [8] (fun i wr => ∃ j : Nat, j ≤ l.length ∧ i = .int .i64 j ∧ Hid (∀ k ∈ l.take j, p k = false) ∧ Below w.heap.size w wr) (fun i _ => l.length - (intOf i).toNat)
  case atStart => exact ⟨0, Nat.zero_le _, rfl, fun k hk => by simp at hk, Below.refl _ _⟩
  case round =>
    obtain ⟨j, hj, rfl, NO, hnx⟩ := hrel
    by_cases hlt : j < l.length
    · obtain ⟨e1, o1, rfl, k1⟩ := T.out j hlt
      have y1 := keeps_below hnx (Nat.le_refl _) _ _ k1
      clear k1
      have hF := HA.out wr hnx l[j]
      cases hh : p l[j] with
      | true =>
        have E : Hid (idxI p l = (j : Int)) := idxI_some hlt hh NO.out
        rw [hh] at hF
        clear hh
        generalize l[j] = x at *
        go_wp2_with (go_at_fn g; refine hF.mono ?_; rintro e w9 ⟨rfl, hb9⟩)
        go_ret
        exact ⟨by rw [E.out]; rfl, hnx.trans (hb9.mono hnx.size)⟩
      | false =>
        have N2 : Hid (∀ k ∈ l.take (j + 1), p k = false) := by
          intro k hk
          rw [List.take_succ_eq_append_getElem hlt, List.mem_append, List.mem_singleton] at hk
          rcases hk with hk | rfl
          · exact NO.out k hk
          · exact hh
        rw [hh] at hF
        clear hh
        generalize l[j] = x at *
        go_wp2_with (go_at_fn g; refine hF.mono ?_; rintro e w9 ⟨rfl, hb9⟩)
        go_roundw
        case rel => exact ⟨j + 1, by omega, by go_num, N2, hnx.trans (hb9.mono hnx.size)⟩
        case measure => simp [intOf]; omega
    · obtain rfl : j = l.length := by omega
      have E : Hid (idxI p l = -1) := idxI_none (fun k hk => NO.out k (by rw [List.take_length]; exact hk))
      go_wp2_with fail
      go_ret
      exact ⟨by rw [E.out]; rfl, hnx⟩

theorem take_filter_succ (p : Nat → Bool) (l : List Nat) (j : Nat) (h : j < l.length) : (l.take (j + 1)).filter (fun k => !p k) = (l.take j).filter (fun k => !p k) ++ (if p l[j] then [] else [l[j]]) := by
  rw [List.take_succ_eq_append_getElem h, List.filter_append]
  congr 1
  cases hp : p l[j] <;> simp [hp]

theorem filter_first {p : Nat → Bool} {l : List Nat} {j : Nat} (h : j < l.length) (hp : p l[j] = true) (hn : ∀ k ∈ l.take j, p k = false) : (l.take (j + 1)).filter (fun k => !p k) = l.take j := by
  rw [take_filter_succ p l j h, hp]
  simp only [if_true, List.append_nil]
  rw [List.filter_eq_self]
  intro a ha
  simp [hn a ha]

/-- the row as it stands while it is rewritten -/
structure Kept1 (p : Nat → Bool) (l m : List Nat) (i j : Nat) : Prop where
  len : m.length = l.length
  lt : i < j
  le : j ≤ l.length
  done : m.take i = (l.take j).filter fun k => !p k
  cnt : ((l.take j).filter fun k => !p k).length = i
  rest : ∀ q (h : q < l.length) (h' : q < m.length), j ≤ q → m[q] = l[q]

theorem Kept1.keep {p : Nat → Bool} {l m : List Nat} {i j : Nat} (h : Kept1 p l m i j) (hj : j < l.length) (hp : p l[j] = false) : Kept1 p l (m.set i l[j]) (i + 1) (j + 1) := by
  have e := take_filter_succ p l j hj
  rw [hp] at e
  simp only [Bool.false_eq_true, if_false] at e
  have hl := h.len
  have hlt := h.lt
  refine ⟨by simpa using hl, by omega, by omega, ?_, by rw [e, List.length_append, h.cnt]; rfl, fun q hq hq' hjq => ?_⟩
  · rw [e, ← h.done]
    rw [List.take_succ_eq_append_getElem (by simp; omega)]
    simp
    rw [List.take_set_of_le (Nat.le_refl _)]
  · rw [List.getElem_set_ne (by omega)]
    exact h.rest q hq (by simpa using hq') (by omega)
theorem Kept1.skip {p : Nat → Bool} {l m : List Nat} {i j : Nat} (h : Kept1 p l m i j) (hj : j < l.length) (hp : p l[j] = true) : Kept1 p l m i (j + 1) := by
  have e := take_filter_succ p l j hj
  rw [hp] at e
  simp only [if_true, List.append_nil] at e
  have hlt := h.lt
  exact ⟨h.len, by omega, by omega, by rw [e]; exact h.done, by rw [e]; exact h.cnt, fun q hq hq' hjq => h.rest q hq hq' (by omega)⟩

theorem owns_cut {w : World} {B g c n i : Nat} {l : List Nat} (h : OwnI w B (.slice (some ⟨g, 0, none⟩) n c) l) (hn : n = l.length) (hi : i ≤ l.length) : OwnI w B (.slice (some ⟨g, 0, none⟩) i c) (l.take i) := by
  subst hn
  obtain ⟨hl, hz⟩ := h
  rcases hz with ⟨h5, _⟩ | ⟨g', cap, cur, e, h3, h6, h7, h8, h9, h10⟩
  · cases h5
  · cases e
    refine ⟨by simp, Or.inr ⟨g, c, cur, by simp [Nat.min_eq_left hi], h3, h6, by simp; omega, h8, h9, ?_⟩⟩
    rw [List.map_take, ← h10, List.take_take]
    simp [Nat.min_eq_left hi]

theorem owns_behind {B g c i : Nat} {l : List Nat} (hn : i = l.length) : ∀ (vs : List Value) (w : World) (s : Nat), l.length ≤ s → OwnI w B (.slice (some ⟨g, 0, none⟩) i c) l → OwnI (w.setCells g s vs) B (.slice (some ⟨g, 0, none⟩) i c) l
  | [], _, _, _, h => h
  | x :: vs, w, s, hs, h => by
    subst hn
    refine owns_behind rfl vs (w.setCell ⟨g, s, none⟩ x) (s + 1) (by omega) ?_
    have := owns_set h s x
    unfold OwnI
    rw [List.set_eq_of_length_le (by simpa using hs)] at this
    exact this

theorem grown_setCells {g : Nat} {a : World} : ∀ (vs : List Value) (w : World) (s : Nat), a.grownBy w (some g) → a.grownBy (w.setCells g s vs) (some g)
  | [], _, _, h => h
  | _ :: vs, _, s, h => grown_setCells vs _ (s + 1) (grow_set h s _)

theorem idx_cases2 (p : Nat → Bool) (l : List Nat) : (idxI p l = -1 ∧ ∀ k ∈ l, p k = false) ∨ ∃ j, ∃ hj : j < l.length, idxI p l = (j : Int) ∧ p l[j] = true ∧ ∀ k ∈ l.take j, p k = false := by
  cases h : l.findIdx? p with
  | none => exact Or.inl ⟨by unfold idxI; rw [h], fun k hk => List.findIdx?_eq_none_iff.mp h k hk⟩
  | some j =>
    right
    obtain ⟨hj, hp, hn⟩ := List.findIdx?_eq_some_iff_getElem.mp h
    refine ⟨j, hj, by unfold idxI; rw [h], hp, fun k hk => ?_⟩
    obtain ⟨q, hq, rfl⟩ := List.mem_take_iff_getElem.mp hk
    have := hn q (by omega)
    simpa using this

theorem own_cell {w : World} {B G n c : Nat} {l : List Nat} (h : OwnI w B (.slice (some ⟨G, 0, none⟩) n c) l) (j : Nat) (hj : j < l.length) : w.cell? ⟨G, j, none⟩ = some (.int .i64 (l[j] : Int)) ∧ w.frozen? ⟨G, j, none⟩ = false := by
  have hc := World.ownsRow.cells h (g := G) rfl j (.int .i64 (l[j] : Int)) (by simp [List.getElem?_eq_getElem hj, iv])
  rw [add_at, Nat.zero_add] at hc
  refine ⟨hc, ?_⟩
  obtain ⟨hl, hz⟩ := h
  rcases hz with ⟨h5, _⟩ | ⟨g', cap, cur, e, h3, h6, h7, h8, h9, h10⟩
  · cases h5
  · cases e
    simp [World.frozen?, h6]

theorem own_shape2 {w : World} {B : Nat} {v : Value} {l : List Nat} (h : OwnI w B v l) (hl : 0 < l.length) : ∃ G c, v = .slice (some ⟨G, 0, none⟩) l.length c ∧ B ≤ G ∧ G < w.heap.size ∧ l.length ≤ c ∧ c ≤ 9223372036854775807 := by
  obtain ⟨hl, hz⟩ := h
  rcases hz with ⟨_, h5⟩ | ⟨g', cap, cur, e, h3, h6, h7, h8, h9, h10⟩
  · omega
  · exact ⟨g', cap, e, h3, by rw [Array.getElem?_eq_some_iff] at h6; exact h6.1, h7, by unfold maxLen at h8; omega⟩

set_option maxHeartbeats 1600000 in
theorem del_any {g : Nat} {lb : Array Value} {p : Nat → Bool} (eg : ∀ args w, (callFunc g args).run Try.prog w = .ok (.enter g args) w) {w : World} {B : Nat} {v : Value} {l : List Nat} (hown : OwnI w B v l) (hl : l.length ≤ 500000) (hF : ∀ W, w.grownBy W v.ownBlock → Tests g lb p W) :
    Calls Try.prog 52 #[v, .func (.func g) #[] lb] w fun e w' => ∃ v', e = .returned v' ∧ OwnI w' B v' (l.filter fun k => !p k) ∧ v'.ownBlock = v.ownBlock ∧ w.grownBy w' v.ownBlock := by
  have hI := idxF_any eg (ints_of_owns hown) (fun W hb => hF W (grow_below (grown_refl _ _) hb))
  rcases idx_cases2 p l with ⟨e1, e2⟩ | ⟨j0, hj0, e1, e2, e3⟩
  · have hfil : (l.filter fun k => !p k) = l := by
      rw [List.filter_eq_self]
      intro a ha
      simp [e2 a ha]
    rw [hfil]
    rw [e1] at hI
    obtain ⟨pp, cc, rfl⟩ := hown.shape
    have O : Hid (OwnI w B (.slice pp l.length cc) l) := hown
    clear hown hF e1 e2 hfil
    go_enter Try.func52, Try.ntmps52
    go_wp2_with (go_at_call 57; refine hI.mono ?_; rintro e w9 ⟨rfl, hb9⟩)
    go_ret
    exact ⟨_, rfl, O.out.below hb9 (Nat.le_refl _), rfl, grow_below (grown_refl _ _) hb9⟩
  · rw [e1] at hI
    have hlp : 0 < l.length := by omega
    obtain ⟨G, cap, rfl, hBG, hGs, hlc, hcm⟩ := own_shape2 hown hlp
    have hob : (Value.slice (some ⟨G, 0, none⟩) l.length cap).ownBlock = some G := rfl
    rw [hob] at hF ⊢
    have HA : Hid (∀ W, w.grownBy W (some G) → Tests g lb p W) := hF
    have O : Hid (OwnI w B (.slice (some ⟨G, 0, none⟩) l.length cap) l) := hown
    have K0 : Hid (Kept1 p l l j0 (j0 + 1)) := by
      have hf := filter_first hj0 e2 e3
      exact ⟨rfl, by omega, by omega, hf.symm, by rw [hf]; simp; omega, fun q hq hq' _ => rfl⟩
    clear hown hF e1 e2 e3 hob
    have hne1 : ((j0 : Int) == -1) = false := beq_eq_false_iff_ne.2 (by omega)
    go_enter Try.func52, Try.ntmps52
    go_wp2_with (go_at_call 57; refine hI.mono ?_; rintro e w9 ⟨rfl, hb9⟩)
    go_loopw [5, 6, 7] (fun iv jv _ wr => ∃ (i j : Nat) (m : List Nat), iv = .int .i64 i ∧ jv = .int .i64 j ∧ Hid (Kept1 p l m i j) ∧ Hid (OwnI wr B (.slice (some ⟨G, 0, none⟩) l.length cap) m) ∧ w.grownBy wr (some G)) (fun _ jv _ _ => l.length - (intOf jv).toNat)
    case atStart => exact ⟨j0, j0 + 1, l, rfl, by go_num, K0, (O.out.below hb9 (Nat.le_refl _)), grow_below (grown_refl _ _) hb9⟩
    case round =>
      obtain ⟨i, j, m, rfl, rfl, KP, OW, hgr⟩ := hrel
      have hij := KP.out.lt
      have hjl := KP.out.le
      have hml : m.length = l.length := KP.out.len
      by_cases hlt : j < l.length
      · have hltz : (j : Int) < (l.length : Int) := by omega
        obtain ⟨cj, _⟩ := own_cell OW.out j (by omega)
        rw [KP.out.rest j hlt (by omega) (Nat.le_refl _)] at cj
        obtain ⟨ci, fi⟩ := own_cell OW.out i (by omega)
        have hC := HA.out wr hgr l[j]
        generalize (m[i]'(by omega) : Nat) = old at ci
        cases hh : p l[j] with
        | true =>
          have K2 : Hid (Kept1 p l m i (j + 1)) := KP.out.skip hlt hh
          rw [hh] at hC
          clear hh
          generalize l[j] = x at *
          go_wp2_with (go_at_fn g; refine hC.mono ?_; rintro e wa ⟨rfl, hba⟩)
          go_roundw
          case rel => exact ⟨i, j + 1, m, rfl, by go_num, K2, OW.out.below hba (Nat.le_refl _), grow_below hgr hba⟩
          case measure => simp [intOf]; omega
        | false =>
          have K2 : Hid (Kept1 p l (m.set i l[j]) (i + 1) (j + 1)) := KP.out.keep hlt hh
          rw [hh] at hC
          clear hh
          generalize l[j] = x at *
          go_wp2_with (go_at_fn g; refine hC.mono ?_; rintro e wa ⟨rfl, hba⟩; have c9 := keeps_below hba (Nat.le_refl _) _ _ ci; have f9 := (hba.frozen (p := ⟨G, i, none⟩) (lt_of_cell ci)).trans fi)
          go_roundw
          case rel =>
            refine ⟨i + 1, j + 1, m.set i x, by go_num, by go_num, K2, ?_, grow_set (grow_below hgr hba) _ _⟩
            have h1 : OwnI wa B (.slice (some ⟨G, 0, none⟩) m.length cap) m := by rw [hml]; exact OW.out.below hba (Nat.le_refl _)
            have h2 := owns_set h1 i (iv x)
            show OwnI _ _ _ _
            unfold OwnI
            rw [List.map_set, List.length_set, ← hml]
            exact h2
          case measure => simp [intOf]; omega
      · obtain rfl : j = l.length := by omega
        have hcl : ∀ ty, (Builtin.clear_ #[39] ty #[.slice (some ⟨G, i, none⟩) (l.length - i) (cap - i)]).run Try.prog wr = .ok (.tuple #[]) (wr.setCells G i (List.replicate (l.length - i) (.int .i64 0))) :=
          fun ty => Lib.run_clear_slice wr _ _ ty _ Try.underlying39 Try.zeroValue3 rfl rfl G i _ _ (by omega) (fun t ht => by rw [(own_cell OW.out (i + t) (by omega)).1]; rfl) (fun t ht => (own_cell OW.out (i + t) (by omega)).2)
        have R : Hid (OwnI (wr.setCells G i (List.replicate (l.length - i) (.int .i64 0))) B (.slice (some ⟨G, 0, none⟩) i cap) (l.filter fun k => !p k)) := by
          have h1 := owns_cut (i := i) OW.out (by omega) (by omega)
          rw [KP.out.done, List.take_length] at h1
          exact owns_behind (by have := KP.out.cnt; rw [List.take_length] at this; omega) _ _ _ (by have := KP.out.cnt; rw [List.take_length] at this; omega) h1
        have hgr2 := grown_setCells (List.replicate (l.length - i) (.int .i64 0)) wr i hgr
        go_wp2_with fail
        go_ret
        exact ⟨_, rfl, R.out, rfl, hgr2⟩
end Go.Proofs.Ytgpckmolcdafcae

/-
  THE WALKS of flat.copyOf, Given, Kids.
-/
namespace Go.Proofs.Ytgpckmolcdafcae
open Go.RowKit

theorem OwnI.mono {w : World} {B C : Nat} {v : Value} {l : List Nat} (h : OwnI w B v l) (hc : C ≤ B) : OwnI w C v l := by
  obtain ⟨hl, hz⟩ := h
  refine ⟨hl, ?_⟩
  rcases hz with h5 | ⟨g, cap, cur, e, h3, h6⟩
  · exact Or.inl h5
  · exact Or.inr ⟨g, cap, cur, e, by omega, h6⟩

end Go.Proofs.Ytgpckmolcdafcae

/-
  THE WALK of the function in flat.Shown that calls itself.
-/
namespace Go.Proofs.Ytgpckmolcdafcae
open Go.RowKit

/-- append, and where what comes of it lies -/
theorem append_int2 {w0 wr : World} {ops : Array Oper} {rest : List Oper} {o : Oper} {a : Act} {Q : Exit → Act → World → Prop} (hgd : o.guard = none)
    (s x : Operand) (ho : o.op = Op.call { callee := Callee.builtin Builtin.append, args := #[s, x], argTypes := #[39, 39] }) {B : Nat} {v : Value} {l : List Nat} (k : Nat)
    (hs : a.eval s = v) (hx : a.eval x = .slice (some ⟨wr.heap.size, 0, none⟩) 1 1) (hown : OwnI wr B v l) (hnx : Below B w0 wr) (hB : B ≤ wr.heap.size) (hsz : l.length ≤ 1000000)
    (h : ∀ v' w1, OwnI w1 B v' (l ++ [k]) → Below B w0 w1 → wr.grownBy w1 v.ownBlock → (v'.ownBlock = v.ownBlock ∨ ∃ g, wr.heap.size ≤ g ∧ v'.ownBlock = some g) → wpList Try.prog ops Q rest (a.put o.dst v') w1) :
    wpList Try.prog ops Q (o :: rest) a (wr.alloc (.cells #[.int .i64 (k : Int)] 3)) := by
  obtain ⟨i0, hi, hz0, hz1, hz2⟩ := info_parts infoI
  unfold OwnI at hown h
  have hown' := hown.alloc (.cells #[.int .i64 (k : Int)] 3)
  have hnews : ∀ (j : Nat) (u : Value), ([iv k] : List Value)[j]? = some u → (wr.alloc (.cells #[.int .i64 (k : Int)] 3)).cell? ((⟨wr.heap.size, 0, none⟩ : Addr).add j) = some u := cell_one_new _ _ _
  have h1 : ∀ u ∈ ([iv k] : List Value), u.oneCell' = true := by intro u hu; simp at hu; subst hu; rfl
  refine wpList_plain hgd fun K hK => ?_
  obtain ⟨v', w', hr, h2, h3, _⟩ := run_append_own (P := Try.prog) (wr.alloc (.cells #[.int .i64 (k : Int)] 3)) B 39 o.type 3 i0 (.int .i64 0) 1 8 Try.underlying39 hi hz0 hz1 hz2 rfl (by decide) v _ _ hown' ⟨_, 0, none⟩ 1 1 [iv k] rfl hnews h1 (by unfold maxLen; omega) (by omega) (by simp; omega)
  have hn := (hnx.alloc hB (.cells #[.int .i64 (k : Int)] 3)).grown h3 (by simp; omega) (fun j hj => (hown.lt j hj).1)
  have hg2 : wr.grownBy w' v.ownBlock := by
    have h4 := World.grownBy_alloc wr (.cells #[.int .i64 (k : Int)] 3) v.ownBlock
    exact ⟨h3.os.trans h4.os, h3.tape.trans h4.tape, h3.output.trans h4.output, Nat.le_trans h4.size h3.size, fun q hq hr' => (h3.block q (Nat.lt_of_lt_of_le hq h4.size) hr').trans (h4.block q hq hr')⟩
  have hblk : v'.ownBlock = v.ownBlock ∨ ∃ g, wr.heap.size ≤ g ∧ v'.ownBlock = some g := by
    have hzs : (i0.size : Nat) = 1 := hz1
    rcases hown'.2 with ⟨rfl, hn0⟩ | ⟨g, cap, cur, rfl, hbg, hg, hnc, hcm, hcs, htake⟩
    · have hr2 := run_append_nil (P := Try.prog) (wr.alloc (.cells #[.int .i64 (k : Int)] 3)) 39 o.type 3 i0 (.int .i64 0) Try.underlying39 hi hz0 ⟨wr.heap.size, 0, none⟩ 1 1 [iv k] (by rw [hzs]; rfl) hnews (by decide) (by decide) (by rw [hz2]; decide)
      rw [hr2] at hr
      injection hr with e1 e2
      right
      refine ⟨wr.heap.size + 1, by omega, ?_⟩
      rw [← e1]
      simp [Value.ownBlock]
    · by_cases hroom : l.length + 1 ≤ cap
      · have hr2 := run_append_room (P := Try.prog) (wr.alloc (.cells #[.int .i64 (k : Int)] 3)) 39 o.type 3 i0 Try.underlying39 hi g l.length cap cur hg ⟨wr.heap.size, 0, none⟩ 1 1 [iv k] (by rw [hzs]; rfl) hnews h1 hroom (by rw [hzs, hcs]; simp; omega)
        rw [hr2] at hr
        injection hr with e1 e2
        left
        rw [← e1]
        rfl
      · have hr2 := run_append_grow (P := Try.prog) (wr.alloc (.cells #[.int .i64 (k : Int)] 3)) 39 o.type 3 i0 (.int .i64 0) Try.underlying39 hi hz0 ⟨g, 0, none⟩ l.length cap _ (by rw [hzs]; exact hown'.1) (World.ownsRow.cells hown' (g := g) rfl) ⟨wr.heap.size, 0, none⟩ 1 1 [iv k] (by rw [hzs]; rfl) hnews (by omega) (by omega) (growslice_fits (by omega) (by rw [hz2]; omega))
        rw [hr2] at hr
        injection hr with e1 e2
        right
        refine ⟨wr.heap.size + 1, by omega, ?_⟩
        rw [← e1]
        simp [Value.ownBlock]
  unfold Oper.wp execOp
  simp only [ho, resolve, invoke, builtin, Sem.run_bind, Sem.run_pure, Result.andThen_ok, List.map_toArray, List.map_cons, List.map_nil, hs, hx, hr]
  exact hK _ _ (h v' w' (by simpa using h2) hn hg2 hblk)
end Go.Proofs.Ytgpckmolcdafcae

/-
  PLAIN MATHEMATICS: what is told of a document: each once, nothing hidden, nothing forgotten, nothing bare.
-/
namespace Go.Proofs.Ytgpckmolcdafcae
open Tn

/-- an item -/
inductive It where
  | mk (node : Nat) (role : Int) (name about : ByteArray) (level checked : Int) (off : Bool) (kids : List It) : It

mutual
def nodes1 : It → List Nat
  | .mk n _ _ _ _ _ _ ks => n :: nodesL ks
def nodesL : List It → List Nat
  | [] => []
  | x :: xs => nodes1 x ++ nodesL xs
end

theorem nodesL_app : ∀ (a b : List It), nodesL (a ++ b) = nodesL a ++ nodesL b
  | [], _ => rfl
  | x :: a, b => by rw [List.cons_append, nodesL, nodesL, nodesL_app a b, List.append_assoc]
/-! ### who is in whom -/

/-! ### the way up -/

/-! ### each once, and nothing hidden -/

/-! ### nothing is forgotten -/

/-! ### nothing bare -/

end Go.Proofs.Ytgpckmolcdafcae

/-
  THE WALK of the reference's Shown.
-/
namespace Go.Proofs.Ytgpckmolcdafcae
open Go.RowKit

end Go.Proofs.Ytgpckmolcdafcae

/-
  PLAIN MATHEMATICS: levels, what is checked, what else is told of a node; how much is told.
-/
namespace Go.Proofs.Ytgpckmolcdafcae
open Tn

/-! ### the parts of an item -/
def It.node : It → Nat | .mk n _ _ _ _ _ _ _ => n
def It.role : It → Int | .mk _ r _ _ _ _ _ _ => r
def It.name : It → ByteArray | .mk _ _ a _ _ _ _ _ => a
def It.about : It → ByteArray | .mk _ _ _ a _ _ _ _ => a
def It.level : It → Int | .mk _ _ _ _ l _ _ _ => l
def It.checked : It → Int | .mk _ _ _ _ _ c _ _ => c
def It.off : It → Bool | .mk _ _ _ _ _ _ o _ => o
def It.kids : It → List It | .mk _ _ _ _ _ _ _ k => k

theorem nodes_pos (x : It) : 1 ≤ (nodes1 x).length := by cases x with | mk => rw [nodes1]; simp
theorem nodes1_eq (x : It) : nodes1 x = x.node :: nodesL x.kids := by cases x with | mk => rw [nodes1]; rfl
theorem top_few : ∀ l : List It, l.length ≤ (nodesL l).length
  | [] => Nat.zero_le _
  | x :: l => by
    rw [nodesL, List.length_append, List.length_cons]
    have h1 := nodes_pos x
    have h2 := top_few l
    omega

/-! ### how deep it goes -/
end Go.Proofs.Ytgpckmolcdafcae

/-
  PLAIN MATHEMATICS of events: items in a forest, by their nodes: one taken out, one put in, one told otherwise; a forest is what stands in what, and what is told of each.
-/
namespace Go.Proofs.Ytgpckmolcdafcae

mutual
/-- an item, and all in it, one by one -/
def item1 : It → List It
  | .mk n r a b l c o ks => .mk n r a b l c o ks :: itemL ks
def itemL : List It → List It
  | [] => []
  | x :: xs => item1 x ++ itemL xs
end
theorem item1_eq (x : It) : item1 x = x :: itemL x.kids := by cases x with | mk => rw [item1]; rfl
theorem itemL_app : ∀ a b : List It, itemL (a ++ b) = itemL a ++ itemL b
  | [], _ => rfl
  | x :: a, b => by rw [List.cons_append, itemL, itemL, itemL_app a b, List.append_assoc]

theorem It.ind {P : It → Prop} {Q : List It → Prop} (h1 : ∀ x : It, Q x.kids → P x) (h2 : Q []) (h3 : ∀ x xs, P x → Q xs → Q (x :: xs)) : (∀ x, P x) ∧ ∀ l, Q l := by
  have key : ∀ m, (∀ x : It, (nodes1 x).length ≤ m → P x) ∧ ∀ l : List It, (nodesL l).length ≤ m → Q l := by
    intro m
    induction m with
    | zero =>
      refine ⟨fun x hx => absurd (nodes_pos x) (by omega), fun l hl => ?_⟩
      have : l = [] := by
        have := top_few l
        exact List.length_eq_zero_iff.mp (by omega)
      rw [this]
      exact h2
    | succ m ih =>
      have hP : ∀ x : It, (nodes1 x).length ≤ m + 1 → P x := fun x hx => h1 x (ih.2 x.kids (by rw [nodes1_eq, List.length_cons] at hx; omega))
      refine ⟨hP, fun l => ?_⟩
      induction l with
      | nil => exact fun _ => h2
      | cons x xs ihl =>
        intro hl
        rw [nodesL, List.length_append] at hl
        have := nodes_pos x
        exact h3 x xs (hP x (by omega)) (ihl (by omega))
  exact ⟨fun x => (key _).1 x (Nat.le_refl _), fun l => (key _).2 l (Nat.le_refl _)⟩

theorem nodes_items : (∀ x, nodes1 x = (item1 x).map It.node) ∧ ∀ l, nodesL l = (itemL l).map It.node := by
  refine It.ind (fun x h => ?_) rfl (fun x xs h1 h2 => ?_)
  · rw [nodes1_eq, item1_eq, List.map_cons, h]
  · rw [nodesL, itemL, List.map_append, h1, h2]
theorem nodesL_items (l : List It) : nodesL l = (itemL l).map It.node := nodes_items.2 l
theorem nodes1_items (x : It) : nodes1 x = (item1 x).map It.node := nodes_items.1 x
theorem mem_item1 {x y : It} : y ∈ item1 x ↔ y = x ∨ y ∈ itemL x.kids := by rw [item1_eq, List.mem_cons]
theorem mem_itemL {l : List It} {y : It} : y ∈ itemL l ↔ ∃ x ∈ l, y ∈ item1 x := by
  induction l with
  | nil => simp [itemL]
  | cons x l ih =>
    rw [itemL, List.mem_append, ih]
    constructor
    · rintro (h | ⟨z, h1, h2⟩)
      · exact ⟨x, by simp, h⟩
      · exact ⟨z, by simp [h1], h2⟩
    · rintro ⟨z, h1, h2⟩
      rcases List.mem_cons.mp h1 with rfl | h1
      · exact Or.inl h2
      · exact Or.inr ⟨z, h1, h2⟩
theorem top_item {l : List It} {x : It} (h : x ∈ l) : x ∈ itemL l := mem_itemL.mpr ⟨x, h, mem_item1.mpr (Or.inl rfl)⟩
/-- what is in an item that is there is there -/
theorem item_kids : (∀ x, ∀ y ∈ item1 x, ∀ z ∈ itemL y.kids, z ∈ item1 x) ∧ ∀ l, ∀ y ∈ itemL l, ∀ z ∈ itemL y.kids, z ∈ itemL l := by
  refine It.ind (fun x h y hy z hz => ?_) (fun y hy => by simp [itemL] at hy) (fun x xs h1 h2 y hy z hz => ?_)
  · rcases mem_item1.mp hy with rfl | hy
    · exact mem_item1.mpr (Or.inr hz)
    · exact mem_item1.mpr (Or.inr (h y hy z hz))
  · rw [itemL, List.mem_append] at hy ⊢
    rcases hy with hy | hy
    · exact Or.inl (h1 y hy z hz)
    · exact Or.inr (h2 y hy z hz)
theorem kid_item {l : List It} {y z : It} (hy : y ∈ itemL l) (hz : z ∈ y.kids) : z ∈ itemL l := item_kids.2 l y hy z (top_item hz)

/-- its nodes are unlike -/
def Unlike (l : List It) : Prop := (nodesL l).Nodup
theorem map_inj {α : Type} {f : α → Nat} : ∀ {l : List α}, (l.map f).Nodup → ∀ {x y : α}, x ∈ l → y ∈ l → f x = f y → x = y
  | [], _, _, _, hx, _, _ => by simp at hx
  | a :: l, h, x, y, hx, hy, e => by
    rw [List.map_cons, List.nodup_cons] at h
    rcases List.mem_cons.mp hx with ex | hx1
    · rcases List.mem_cons.mp hy with ey | hy1
      · rw [ex, ey]
      · exact absurd (List.mem_map.mpr ⟨y, hy1, by rw [← e, ex]⟩) h.1
    · rcases List.mem_cons.mp hy with ey | hy1
      · exact absurd (List.mem_map.mpr ⟨x, hx1, by rw [e, ey]⟩) h.1
      · exact map_inj h.2 hx1 hy1 e
theorem unlike_one {l : List It} (h : Unlike l) {x y : It} (hx : x ∈ itemL l) (hy : y ∈ itemL l) (e : x.node = y.node) : x = y := by
  unfold Unlike at h
  rw [nodesL_items] at h
  exact map_inj h hx hy e
theorem unlike_sub {l : List It} (h : Unlike l) {x : It} (hx : x ∈ itemL l) : Unlike x.kids := by
  have key : (∀ x, (nodes1 x).Nodup → ∀ y ∈ item1 x, Unlike y.kids) ∧ ∀ l, Unlike l → ∀ y ∈ itemL l, Unlike y.kids := by
    refine It.ind (fun x h hn y hy => ?_) (fun _ y hy => by simp [itemL] at hy) (fun x xs h1 h2 hn y hy => ?_)
    · rw [nodes1_eq, List.nodup_cons] at hn
      rcases mem_item1.mp hy with rfl | hy
      · exact hn.2
      · exact h hn.2 y hy
    · unfold Unlike at hn
      rw [nodesL, List.nodup_append] at hn
      rw [itemL, List.mem_append] at hy
      rcases hy with hy | hy
      · exact h1 hn.1 y hy
      · exact h2 hn.2.1 y hy
  exact key.2 l h x hx

/-! ### what stands in what -/
def topN (l : List It) : List Nat := l.map It.node
/-- what is told of an item, but for what is in it -/
def It.says (x : It) : Int × ByteArray × ByteArray × Int × Int × Bool := (x.role, x.name, x.about, x.level, x.checked, x.off)
theorem It.same {x y : It} (h1 : x.node = y.node) (h2 : x.says = y.says) (h3 : x.kids = y.kids) : x = y := by
  cases x with
  | mk n r a b l c o ks =>
    cases y with
    | mk n' r' a' b' l' c' o' ks' =>
      simp only [It.node, It.says, It.role, It.name, It.about, It.level, It.checked, It.off, It.kids, Prod.mk.injEq] at h1 h2 h3
      obtain ⟨e1, e2, e3, e4, e5, e6⟩ := h2
      subst h1 h3 e1 e2 e3 e4 e5 e6
      rfl
/-- two forests in which the same stands in the same, and says the same, are one -/
theorem forest_same {A B : List It} (h0 : topN A = topN B)
    (hk : ∀ x ∈ itemL A, ∀ y ∈ itemL B, x.node = y.node → topN x.kids = topN y.kids ∧ x.says = y.says) : A = B := by
  have key : (∀ y : It, y ∈ itemL B → ∀ x ∈ itemL A, x.node = y.node → x = y) ∧ ∀ b : List It, (∀ y ∈ b, y ∈ itemL B) → ∀ a : List It, (∀ x ∈ a, x ∈ itemL A) → topN a = topN b → a = b := by
    refine It.ind (fun y h hy x hx e => ?_) (fun _ a _ e => ?_) (fun y b h1 h2 hb a ha e => ?_)
    · obtain ⟨e1, e2⟩ := hk x hx y hy e
      exact It.same e e2 (h (fun z hz => kid_item hy hz) x.kids (fun z hz => kid_item hx hz) e1)
    · exact List.map_eq_nil_iff.mp e
    · cases a with
      | nil => simp [topN] at e
      | cons x a =>
        simp only [topN, List.map_cons, List.cons.injEq] at e
        rw [h1 (hb y (by simp)) x (ha x (by simp)) e.1, h2 (fun z hz => hb z (by simp [hz])) a (fun z hz => ha z (by simp [hz])) e.2]
  exact key.2 B (fun y hy => top_item hy) A (fun x hx => top_item hx) h0

/-! ### one goes, with all in it -/
mutual
def rm1 (n : Nat) : It → It
  | .mk k r a b l c o ks => .mk k r a b l c o (rmL n ks)
def rmL (n : Nat) : List It → List It
  | [] => []
  | x :: xs => if x.node = n then rmL n xs else rm1 n x :: rmL n xs
end
theorem rm1_node (n : Nat) (x : It) : (rm1 n x).node = x.node := by cases x with | mk => rw [rm1]; rfl
theorem rm1_says (n : Nat) (x : It) : (rm1 n x).says = x.says := by cases x with | mk => rw [rm1]; rfl
theorem rm1_kids (n : Nat) (x : It) : (rm1 n x).kids = rmL n x.kids := by cases x with | mk => rw [rm1]; rfl
theorem rm_top (n : Nat) : ∀ l, topN (rmL n l) = (topN l).filter (fun k => decide (k ≠ n))
  | [] => rfl
  | x :: l => by
    rw [rmL]
    by_cases h : x.node = n
    · rw [if_pos h, rm_top n l]
      simp [topN, h]
    · rw [if_neg h]
      have ih := rm_top n l
      simp only [topN, List.map_cons] at ih ⊢
      rw [rm1_node, ih]
      simp [h]
/-- the nodes of what stands there under n -/
def undN (n : Nat) (l : List It) : List Nat := ((itemL l).filter (fun x => decide (x.node = n))).flatMap nodes1
theorem und_app (n : Nat) (a b : List It) : undN n (a ++ b) = undN n a ++ undN n b := by unfold undN; rw [itemL_app, List.filter_append, List.flatMap_append]
theorem und_kids {n : Nat} {x : It} {xs : List It} {k : Nat} (h : k ∈ undN n x.kids) : k ∈ undN n (x :: xs) := by
  unfold undN at *
  obtain ⟨y, hy, hk⟩ := List.mem_flatMap.mp h
  obtain ⟨h1, h2⟩ := List.mem_filter.mp hy
  exact List.mem_flatMap.mpr ⟨y, List.mem_filter.mpr ⟨by rw [itemL, List.mem_append]; exact Or.inl (mem_item1.mpr (Or.inr h1)), h2⟩, hk⟩
theorem und_tail {n : Nat} {x : It} {xs : List It} {k : Nat} (h : k ∈ undN n xs) : k ∈ undN n (x :: xs) := by
  unfold undN at *
  obtain ⟨y, hy, hk⟩ := List.mem_flatMap.mp h
  obtain ⟨h1, h2⟩ := List.mem_filter.mp hy
  exact List.mem_flatMap.mpr ⟨y, List.mem_filter.mpr ⟨by rw [itemL, List.mem_append]; exact Or.inr h1, h2⟩, hk⟩
theorem und_head {n : Nat} {x : It} {xs : List It} (e : x.node = n) {k : Nat} (h : k ∈ nodes1 x) : k ∈ undN n (x :: xs) := by
  unfold undN
  exact List.mem_flatMap.mpr ⟨x, List.mem_filter.mpr ⟨by rw [itemL, List.mem_append]; exact Or.inl (mem_item1.mpr (Or.inl rfl)), by simpa using e⟩, h⟩
theorem node_in1 {x y : It} (h : y ∈ item1 x) : y.node ∈ nodes1 x := by rw [nodes1_items]; exact List.mem_map.mpr ⟨y, h, rfl⟩
theorem node_inL {l : List It} {y : It} (h : y ∈ itemL l) : y.node ∈ nodesL l := by rw [nodesL_items]; exact List.mem_map.mpr ⟨y, h, rfl⟩
theorem in_node {l : List It} {n : Nat} (h : n ∈ nodesL l) : ∃ y ∈ itemL l, y.node = n := by rw [nodesL_items] at h; obtain ⟨y, h1, h2⟩ := List.mem_map.mp h; exact ⟨y, h1, h2⟩

/-- what is not under it stays -/
theorem rm_stays (n : Nat) : (∀ x, ∀ y ∈ item1 x, x.node ≠ n → y.node ∉ undN n [x] → rm1 n y ∈ item1 (rm1 n x)) ∧ ∀ l, ∀ y ∈ itemL l, y.node ∉ undN n l → rm1 n y ∈ itemL (rmL n l) := by
  refine It.ind (fun x h y hy hx hu => ?_) (fun y hy => by simp [itemL] at hy) (fun x xs h1 h2 y hy hu => ?_)
  · rcases mem_item1.mp hy with rfl | hy
    · exact mem_item1.mpr (Or.inl rfl)
    · refine mem_item1.mpr (Or.inr ?_)
      rw [rm1_kids]
      exact h y hy (fun hm => hu (und_kids hm))
  · rw [rmL]
    rw [itemL, List.mem_append] at hy
    by_cases e : x.node = n
    · rw [if_pos e]
      rcases hy with hy | hy
      · exact absurd (und_head e (node_in1 hy)) hu
      · exact h2 y hy (fun hm => hu (und_tail hm))
    · rw [if_neg e, itemL, List.mem_append]
      rcases hy with hy | hy
      · refine Or.inl (h1 y hy e (fun hm => hu ?_))
        have : x :: xs = [x] ++ xs := rfl
        rw [this, und_app]
        exact List.mem_append.mpr (Or.inl hm)
      · exact Or.inr (h2 y hy (fun hm => hu (und_tail hm)))
/-- and all that stays was there, and is not under it -/
theorem rm_was (n : Nat) : (∀ x, ∀ z ∈ item1 (rm1 n x), x.node ≠ n → ∃ y ∈ item1 x, z = rm1 n y ∧ y.node ≠ n) ∧ ∀ l, ∀ z ∈ itemL (rmL n l), ∃ y ∈ itemL l, z = rm1 n y ∧ y.node ≠ n := by
  refine It.ind (fun x h z hz hx => ?_) (fun z hz => by simp [rmL, itemL] at hz) (fun x xs h1 h2 z hz => ?_)
  · rcases mem_item1.mp hz with rfl | hz
    · exact ⟨x, mem_item1.mpr (Or.inl rfl), rfl, hx⟩
    · rw [rm1_kids] at hz
      obtain ⟨y, hy, e⟩ := h z hz
      exact ⟨y, mem_item1.mpr (Or.inr hy), e⟩
  · rw [rmL] at hz
    by_cases e : x.node = n
    · rw [if_pos e] at hz
      obtain ⟨y, hy, e⟩ := h2 z hz
      exact ⟨y, by rw [itemL, List.mem_append]; exact Or.inr hy, e⟩
    · rw [if_neg e, itemL, List.mem_append] at hz
      rw [itemL]
      rcases hz with hz | hz
      · obtain ⟨y, hy, e⟩ := h1 z hz e
        exact ⟨y, List.mem_append.mpr (Or.inl hy), e⟩
      · obtain ⟨y, hy, e⟩ := h2 z hz
        exact ⟨y, List.mem_append.mpr (Or.inr hy), e⟩
theorem rm_sub (n : Nat) : (∀ x, (nodes1 (rm1 n x)).Sublist (nodes1 x)) ∧ ∀ l, (nodesL (rmL n l)).Sublist (nodesL l) := by
  refine It.ind (fun x h => ?_) (List.Sublist.refl _) (fun x xs h1 h2 => ?_)
  · rw [nodes1_eq, nodes1_eq, rm1_node, rm1_kids]
    exact h.cons_cons _
  · rw [rmL]
    split
    · rw [nodesL]
      exact h2.trans (List.sublist_append_right _ _)
    · rw [nodesL, nodesL]
      exact h1.append h2
theorem rm_unlike {n : Nat} {l : List It} (h : Unlike l) : Unlike (rmL n l) := (rm_sub n).2 l |>.nodup h

/-! ### one comes, in another one -/
mutual
def ins1 (p at_ : Nat) (y : It) : It → It
  | .mk k r a b l c o ks => .mk k r a b l c o (if k = p then (insL p at_ y ks).insertIdx at_ y else insL p at_ y ks)
def insL (p at_ : Nat) (y : It) : List It → List It
  | [] => []
  | x :: xs => ins1 p at_ y x :: insL p at_ y xs
end
theorem ins1_node (p i : Nat) (y x : It) : (ins1 p i y x).node = x.node := by cases x with | mk => rw [ins1]; rfl
theorem ins1_says (p i : Nat) (y x : It) : (ins1 p i y x).says = x.says := by cases x with | mk => rw [ins1]; rfl
theorem ins1_kids (p i : Nat) (y x : It) : (ins1 p i y x).kids = if x.node = p then (insL p i y x.kids).insertIdx i y else insL p i y x.kids := by cases x with | mk => rw [ins1]; rfl
theorem ins_map (p i : Nat) (y : It) : ∀ l, insL p i y l = l.map (ins1 p i y)
  | [] => rfl
  | x :: l => by rw [insL, ins_map p i y l]; rfl
theorem ins_top (p i : Nat) (y : It) (l : List It) : topN (insL p i y l) = topN l := by
  rw [ins_map]
  unfold topN
  rw [List.map_map]
  exact List.map_congr_left (fun x _ => ins1_node p i y x)
theorem map_insert {α β : Type} (f : α → β) : ∀ (l : List α) (i : Nat) (a : α), (l.insertIdx i a).map f = (l.map f).insertIdx i (f a)
  | l, 0, a => by simp
  | [], i + 1, a => by simp
  | x :: l, i + 1, a => by simp [map_insert f l i a]
theorem mem_insert {α : Type} : ∀ (l : List α) (i : Nat) (a b : α), i ≤ l.length → (b ∈ l.insertIdx i a ↔ b = a ∨ b ∈ l)
  | l, 0, a, b, _ => by simp
  | [], i + 1, a, b, h => by simp at h
  | x :: l, i + 1, a, b, h => by
    rw [List.insertIdx_succ_cons, List.mem_cons, mem_insert l i a b (by simpa using h), List.mem_cons]
    constructor
    · rintro (h | h | h)
      · exact Or.inr (Or.inl h)
      · exact Or.inl h
      · exact Or.inr (Or.inr h)
    · rintro (h | h | h)
      · exact Or.inr (Or.inl h)
      · exact Or.inl h
      · exact Or.inr (Or.inr h)
theorem ins1_top (p i : Nat) (y x : It) : topN (ins1 p i y x).kids = if x.node = p then (topN x.kids).insertIdx i y.node else topN x.kids := by
  rw [ins1_kids]
  split
  · have h := ins_top p i y x.kids
    unfold topN at *
    rw [map_insert, h]
  · exact ins_top p i y x.kids
/-- all that was there is there -/
theorem ins_stays (p i : Nat) (y : It) : (∀ x, (∀ z ∈ item1 x, z.node = p → i ≤ z.kids.length) → ∀ z ∈ item1 x, ins1 p i y z ∈ item1 (ins1 p i y x)) ∧ ∀ l, (∀ z ∈ itemL l, z.node = p → i ≤ z.kids.length) → ∀ z ∈ itemL l, ins1 p i y z ∈ itemL (insL p i y l) := by
  refine It.ind (fun x h hi z hz => ?_) (fun _ z hz => by simp [itemL] at hz) (fun x xs h1 h2 hi z hz => ?_)
  · rcases mem_item1.mp hz with rfl | hz
    · exact mem_item1.mpr (Or.inl rfl)
    · refine mem_item1.mpr (Or.inr ?_)
      have hk := h (fun w hw => hi w (mem_item1.mpr (Or.inr hw))) z hz
      rw [ins1_kids]
      split
      · rename_i e
        obtain ⟨w, hw, hz2⟩ := mem_itemL.mp hk
        refine mem_itemL.mpr ⟨w, ?_, hz2⟩
        rw [mem_insert _ _ _ _ (by rw [ins_map, List.length_map]; exact hi x (mem_item1.mpr (Or.inl rfl)) e)]
        exact Or.inr hw
      · exact hk
  · rw [itemL, List.mem_append] at hz
    rw [insL, itemL, List.mem_append]
    rcases hz with hz | hz
    · exact Or.inl (h1 (fun w hw => hi w (by rw [itemL, List.mem_append]; exact Or.inl hw)) z hz)
    · exact Or.inr (h2 (fun w hw => hi w (by rw [itemL, List.mem_append]; exact Or.inr hw)) z hz)
/-- what came is there, with all in it -/
theorem ins_there (p i : Nat) (y : It) : (∀ x, (∃ z ∈ item1 x, z.node = p) → (∀ z ∈ item1 x, z.node = p → i ≤ z.kids.length) → ∀ z ∈ item1 y, z ∈ item1 (ins1 p i y x)) ∧ ∀ l, (∃ z ∈ itemL l, z.node = p) → (∀ z ∈ itemL l, z.node = p → i ≤ z.kids.length) → ∀ z ∈ item1 y, z ∈ itemL (insL p i y l) := by
  refine It.ind (fun x h hp hi z hz => ?_) (fun hp => by obtain ⟨w, hw, _⟩ := hp; simp [itemL] at hw) (fun x xs h1 h2 hp hi z hz => ?_)
  · refine mem_item1.mpr (Or.inr ?_)
    rw [ins1_kids]
    by_cases e : x.node = p
    · rw [if_pos e]
      refine mem_itemL.mpr ⟨y, ?_, hz⟩
      rw [mem_insert _ _ _ _ (by rw [ins_map, List.length_map]; exact hi x (mem_item1.mpr (Or.inl rfl)) e)]
      exact Or.inl rfl
    · rw [if_neg e]
      refine h ?_ (fun w hw => hi w (mem_item1.mpr (Or.inr hw))) z hz
      obtain ⟨w, hw, e2⟩ := hp
      rcases mem_item1.mp hw with rfl | hw
      · exact absurd e2 e
      · exact ⟨w, hw, e2⟩
  · rw [insL, itemL, List.mem_append]
    obtain ⟨w, hw, e2⟩ := hp
    rw [itemL, List.mem_append] at hw
    rcases hw with hw | hw
    · exact Or.inl (h1 ⟨w, hw, e2⟩ (fun v hv => hi v (by rw [itemL, List.mem_append]; exact Or.inl hv)) z hz)
    · exact Or.inr (h2 ⟨w, hw, e2⟩ (fun v hv => hi v (by rw [itemL, List.mem_append]; exact Or.inr hv)) z hz)
/-! ### one is told otherwise -/
def It.with (x : It) (ks : List It) : It := match x with | .mk k r a b l c o _ => .mk k r a b l c o ks
theorem with_node (x : It) (ks : List It) : (x.with ks).node = x.node := by cases x; rfl
theorem with_says (x : It) (ks : List It) : (x.with ks).says = x.says := by cases x; rfl
theorem with_kids (x : It) (ks : List It) : (x.with ks).kids = ks := by cases x; rfl
mutual
def tel1 (n : Nat) (y : It) : It → It
  | .mk k r a b l c o ks => if k = n then y.with (telL n y ks) else .mk k r a b l c o (telL n y ks)
def telL (n : Nat) (y : It) : List It → List It
  | [] => []
  | x :: xs => tel1 n y x :: telL n y xs
end
theorem tel1_node {n : Nat} {y : It} (hy : y.node = n) (x : It) : (tel1 n y x).node = x.node := by
  cases x with
  | mk k r a b l c o ks =>
    rw [tel1]
    split
    · rename_i e
      rw [with_node, hy, ← e]
      rfl
    · rfl
theorem tel1_says (n : Nat) (y x : It) : (tel1 n y x).says = if x.node = n then y.says else x.says := by
  cases x with
  | mk k r a b l c o ks =>
    rw [tel1]
    by_cases e : k = n
    · rw [if_pos e, if_pos (by exact e), with_says]
    · rw [if_neg e, if_neg (by exact e)]
      rfl
theorem tel1_kids (n : Nat) (y x : It) : (tel1 n y x).kids = telL n y x.kids := by
  cases x with
  | mk k r a b l c o ks =>
    rw [tel1]
    split
    · rw [with_kids]; rfl
    · rfl
theorem tel_map (n : Nat) (y : It) : ∀ l, telL n y l = l.map (tel1 n y)
  | [] => rfl
  | x :: l => by rw [telL, tel_map n y l]; rfl
theorem tel_items (n : Nat) (y : It) : (∀ x, item1 (tel1 n y x) = (item1 x).map (tel1 n y)) ∧ ∀ l, itemL (telL n y l) = (itemL l).map (tel1 n y) := by
  refine It.ind (fun x h => ?_) rfl (fun x xs h1 h2 => ?_)
  · rw [item1_eq, item1_eq, List.map_cons, tel1_kids, h]
  · rw [telL, itemL, itemL, List.map_append, h1, h2]
theorem tel_nodes {n : Nat} {y : It} (hy : y.node = n) (l : List It) : nodesL (telL n y l) = nodesL l := by
  rw [nodesL_items, nodesL_items, (tel_items n y).2, List.map_map]
  exact List.map_congr_left (fun x _ => tel1_node hy x)
theorem tel_top {n : Nat} {y : It} (hy : y.node = n) (l : List It) : topN (telL n y l) = topN l := by
  rw [tel_map]
  unfold topN
  rw [List.map_map]
  exact List.map_congr_left (fun x _ => tel1_node hy x)
end Go.Proofs.Ytgpckmolcdafcae

/-
  PLAIN MATHEMATICS of events: what stands in what, behind each event.
-/
namespace Go.Proofs.Ytgpckmolcdafcae

/-- the nodes in p's item, one by one (below 0: among all) -/
def kidsAt (T : List It) (p : Int) : List Nat :=
  if p < 0 then topN T else match (itemL T).find? (fun x => decide ((x.node : Int) = p)) with | some x => topN x.kids | none => []
theorem kids_top (T : List It) : kidsAt T (-1) = topN T := by unfold kidsAt; rw [if_pos (by omega)]
theorem kids_item {T : List It} (h : Unlike T) {x : It} (hx : x ∈ itemL T) : kidsAt T (x.node : Int) = topN x.kids := by
  unfold kidsAt
  rw [if_neg (by omega)]
  cases hf : (itemL T).find? (fun y => decide ((y.node : Int) = (x.node : Int))) with
  | none =>
    have := List.find?_eq_none.mp hf x hx
    simp at this
  | some y =>
    have h1 := List.mem_of_find?_eq_some hf
    have h2 := List.find?_some hf
    have e : y = x := unlike_one h h1 hx (by have h3 : (y.node : Int) = (x.node : Int) := by simpa using h2
                                             omega)
    rw [e]
theorem kids_not {T : List It} {p : Nat} (h : p ∉ nodesL T) : kidsAt T (p : Int) = [] := by
  unfold kidsAt
  rw [if_neg (by omega)]
  cases hf : (itemL T).find? (fun y => decide ((y.node : Int) = (p : Int))) with
  | none => rfl
  | some y =>
    have h1 := List.mem_of_find?_eq_some hf
    have h2 := List.find?_some hf
    have e : y.node = p := by
      have h3 : (y.node : Int) = (p : Int) := by simpa using h2
      omega
    exact absurd (e ▸ node_inL h1) h
/-- p is no node, or is there -/
def Place (T : List It) (p : Int) : Prop := p = -1 ∨ ∃ x ∈ itemL T, p = (x.node : Int)
theorem kids_in {T : List It} {p : Int} {n : Nat} (h : n ∈ kidsAt T p) : n ∈ nodesL T := by
  unfold kidsAt at h
  split at h
  · obtain ⟨x, hx, e⟩ := List.mem_map.mp h
    rw [← e]
    exact node_inL (top_item hx)
  · split at h
    · rename_i x hf
      obtain ⟨y, hy, e⟩ := List.mem_map.mp h
      rw [← e]
      exact node_inL (kid_item (List.mem_of_find?_eq_some hf) hy)
    · simp at h
/-- each node stands in one -/
theorem has_place (T : List It) : ∀ x ∈ itemL T, x ∈ T ∨ ∃ y ∈ itemL T, x ∈ y.kids := by
  have key : (∀ z : It, ∀ x ∈ item1 z, x = z ∨ ∃ y ∈ item1 z, x ∈ y.kids) ∧ ∀ l : List It, ∀ x ∈ itemL l, x ∈ l ∨ ∃ y ∈ itemL l, x ∈ y.kids := by
    refine It.ind (fun z h x hx => ?_) (fun x hx => by simp [itemL] at hx) (fun z zs h1 h2 x hx => ?_)
    · rcases mem_item1.mp hx with e | hx
      · exact Or.inl e
      · rcases h x hx with h | ⟨y, hy, hk⟩
        · exact Or.inr ⟨z, mem_item1.mpr (Or.inl rfl), h⟩
        · exact Or.inr ⟨y, mem_item1.mpr (Or.inr hy), hk⟩
    · rw [itemL, List.mem_append] at hx
      rw [itemL]
      rcases hx with hx | hx
      · rcases h1 x hx with e | ⟨y, hy, hk⟩
        · exact Or.inl (by simp [e])
        · exact Or.inr ⟨y, List.mem_append.mpr (Or.inl hy), hk⟩
      · rcases h2 x hx with e | ⟨y, hy, hk⟩
        · exact Or.inl (by simp [e])
        · exact Or.inr ⟨y, List.mem_append.mpr (Or.inr hy), hk⟩
  exact key.2 T
/-- what is counted: each node in one list alone -/
theorem top_sub : ∀ l : List It, (topN l).Sublist (nodesL l)
  | [] => List.Sublist.refl _
  | x :: l => by
    rw [nodesL, nodes1_eq]
    show (x.node :: topN l).Sublist _
    exact ((top_sub l).trans (List.sublist_append_right _ _)).cons_cons _
theorem kidsAt_nodup {T : List It} (h : Unlike T) (p : Int) : (kidsAt T p).Nodup := by
  unfold kidsAt
  split
  · exact (top_sub T).nodup h
  · split
    · rename_i x hf
      exact (top_sub _).nodup (unlike_sub h (List.mem_of_find?_eq_some hf))
    · simp
/-- a node that stands in an item is not among all, nor in another one -/
theorem one_place {T : List It} (h : Unlike T) : (∀ x ∈ T, ∀ y ∈ itemL T, x.node ∉ topN y.kids) ∧ ∀ y ∈ itemL T, ∀ z ∈ itemL T, ∀ n, n ∈ topN y.kids → n ∈ topN z.kids → y = z := by
  have key : (∀ w : It, (nodes1 w).Nodup → (∀ y ∈ item1 w, w.node ∉ topN y.kids) ∧ ∀ y ∈ item1 w, ∀ z ∈ item1 w, ∀ n, n ∈ topN y.kids → n ∈ topN z.kids → y = z) ∧
      ∀ l : List It, Unlike l → (∀ x ∈ l, ∀ y ∈ itemL l, x.node ∉ topN y.kids) ∧ ∀ y ∈ itemL l, ∀ z ∈ itemL l, ∀ n, n ∈ topN y.kids → n ∈ topN z.kids → y = z := by
    refine It.ind (fun w h hn => ?_) (fun _ => ⟨fun x hx => by simp at hx, fun y hy => by simp [itemL] at hy⟩) (fun w ws h1 h2 hn => ?_)
    · rw [nodes1_eq, List.nodup_cons] at hn
      obtain ⟨g1, g2⟩ := h hn.2
      have self : ∀ y ∈ itemL w.kids, ∀ n, n ∈ topN w.kids → n ∈ topN y.kids → False := fun y hy n hw hk => by
        obtain ⟨x, hx, e⟩ := List.mem_map.mp hw
        exact g1 x hx y hy (by rw [e]; exact hk)
      refine ⟨fun y hy hm => ?_, fun y hy z hz n h1 h2 => ?_⟩
      · rcases mem_item1.mp hy with rfl | hy
        · exact hn.1 ((top_sub _).subset hm)
        · obtain ⟨x, hx, e⟩ := List.mem_map.mp hm
          exact hn.1 (by rw [← e]; exact node_inL (kid_item hy hx))
      · rcases mem_item1.mp hy with rfl | hy
        · rcases mem_item1.mp hz with rfl | hz
          · rfl
          · exact absurd (self z hz n h1 h2) id
        · rcases mem_item1.mp hz with rfl | hz
          · exact absurd (self y hy n h2 h1) id
          · exact g2 y hy z hz n h1 h2
    · unfold Unlike at hn
      rw [nodesL, List.nodup_append] at hn
      obtain ⟨n1, n2, n3⟩ := hn
      obtain ⟨a1, a2⟩ := h1 n1
      obtain ⟨b1, b2⟩ := h2 n2
      have in1 : ∀ y ∈ item1 w, ∀ n ∈ topN y.kids, n ∈ nodes1 w := fun y hy n hm => by
        obtain ⟨x, hx, e⟩ := List.mem_map.mp hm
        rw [← e]
        exact node_in1 (item_kids.1 w y hy x (top_item hx))
      have in2 : ∀ y ∈ itemL ws, ∀ n ∈ topN y.kids, n ∈ nodesL ws := fun y hy n hm => by
        obtain ⟨x, hx, e⟩ := List.mem_map.mp hm
        rw [← e]
        exact node_inL (kid_item hy hx)
      have wn : w.node ∈ nodes1 w := by rw [nodes1_eq]; simp
      refine ⟨fun x hx y hy hm => ?_, fun y hy z hz n g1 g2 => ?_⟩
      · rw [itemL, List.mem_append] at hy
        rcases List.mem_cons.mp hx with rfl | hx
        · rcases hy with hy | hy
          · exact a1 y hy hm
          · exact n3 _ wn _ (in2 y hy _ hm) rfl
        · rcases hy with hy | hy
          · exact n3 _ (in1 y hy _ hm) _ (node_inL (top_item hx)) rfl
          · exact b1 x hx y hy hm
      · rw [itemL, List.mem_append] at hy hz
        rcases hy with hy | hy
        · rcases hz with hz | hz
          · exact a2 y hy z hz n g1 g2
          · exact absurd rfl (n3 _ (in1 y hy n g1) _ (in2 z hz n g2))
        · rcases hz with hz | hz
          · exact absurd rfl (n3 _ (in1 z hz n g2) _ (in2 y hy n g1))
          · exact b2 y hy z hz n g1 g2
  exact key.2 T h
theorem kids_one {T : List It} (h : Unlike T) {p q : Int} (hp : Place T p) (hq : Place T q) {n : Nat} (h1 : n ∈ kidsAt T p) (h2 : n ∈ kidsAt T q) : p = q := by
  obtain ⟨o1, o2⟩ := one_place h
  rcases hp with rfl | ⟨x, hx, rfl⟩
  · rcases hq with rfl | ⟨y, hy, rfl⟩
    · rfl
    · rw [kids_top] at h1
      rw [kids_item h hy] at h2
      obtain ⟨z, hz, e⟩ := List.mem_map.mp h1
      exact absurd (e ▸ h2) (o1 z hz y hy)
  · rw [kids_item h hx] at h1
    rcases hq with rfl | ⟨y, hy, rfl⟩
    · rw [kids_top] at h2
      obtain ⟨z, hz, e⟩ := List.mem_map.mp h2
      exact absurd (e ▸ h1) (o1 z hz x hx)
    · rw [kids_item h hy] at h2
      rw [o2 x hx y hy n h1 h2]
theorem in_place {T : List It} (h : Unlike T) {n : Nat} (hn : n ∈ nodesL T) : ∃ p, Place T p ∧ n ∈ kidsAt T p := by
  obtain ⟨x, hx, e⟩ := in_node hn
  rcases has_place T x hx with hx | ⟨y, hy, hk⟩
  · exact ⟨-1, Or.inl rfl, by rw [kids_top, ← e]; exact List.mem_map.mpr ⟨x, hx, rfl⟩⟩
  · exact ⟨(y.node : Int), Or.inr ⟨y, hy, rfl⟩, by rw [kids_item h hy, ← e]; exact List.mem_map.mpr ⟨x, hk, rfl⟩⟩

/-! ### what goes -/
theorem und_item {T : List It} (h : Unlike T) {x : It} (hx : x ∈ itemL T) (k : Nat) : k ∈ undN x.node T ↔ k ∈ nodes1 x := by
  unfold undN
  constructor
  · intro hk
    obtain ⟨y, hy, hk⟩ := List.mem_flatMap.mp hk
    obtain ⟨h1, h2⟩ := List.mem_filter.mp hy
    rw [← unlike_one h h1 hx (by simpa using h2)]
    exact hk
  · intro hk
    exact List.mem_flatMap.mpr ⟨x, List.mem_filter.mpr ⟨hx, by simp⟩, hk⟩
theorem rm_kids_at {T : List It} (h : Unlike T) {n : Nat} {p : Int} (hp : p = -1 ∨ ∃ q : Nat, p = (q : Int) ∧ q ∉ undN n T) : kidsAt (rmL n T) p = (kidsAt T p).filter (fun k => decide (k ≠ n)) := by
  rcases hp with rfl | ⟨q, rfl, hq⟩
  · rw [kids_top, kids_top, rm_top]
  · by_cases hm : q ∈ nodesL T
    · obtain ⟨x, hx, e⟩ := in_node hm
      subst e
      have h1 := (rm_stays n).2 T x hx hq
      have h2 := kids_item (rm_unlike (n := n) h) h1
      rw [rm1_node, rm1_kids] at h2
      rw [h2, kids_item h hx, rm_top]
    · rw [kids_not hm, kids_not (fun hx => hm ((rm_sub n).2 T |>.subset hx))]
      rfl
theorem rm_nodes {T : List It} {n k : Nat} (hk : k ∈ nodesL T) (hu : k ∉ undN n T) : k ∈ nodesL (rmL n T) := by
  obtain ⟨x, hx, e⟩ := in_node hk
  subst e
  have h1 := node_inL ((rm_stays n).2 T x hx hu)
  rw [rm1_node] at h1
  exact h1
theorem rm_less {T : List It} {n k : Nat} (hk : k ∈ nodesL (rmL n T)) : k ∈ nodesL T ∧ k ≠ n := by
  obtain ⟨z, hz, e⟩ := in_node hk
  obtain ⟨y, hy, e2, e3⟩ := (rm_was n).2 T z hz
  rw [e2, rm1_node] at e
  rw [← e]
  exact ⟨node_inL hy, e3⟩
/-- all in it goes with it -/
theorem rm_und {T : List It} (h : Unlike T) {n k : Nat} (hk : k ∈ undN n T) : k ∉ nodesL (rmL n T) := by
  have key : (∀ x : It, (nodes1 x).Nodup → x.node ≠ n → ∀ k ∈ undN n x.kids, k ∉ nodes1 (rm1 n x)) ∧ ∀ l : List It, Unlike l → ∀ k ∈ undN n l, k ∉ nodesL (rmL n l) := by
    refine It.ind (fun x h hn hx k hk hm => ?_) (fun _ k hk => by simp [undN, itemL] at hk) (fun x xs h1 h2 hn k hk hm => ?_)
    · rw [nodes1_eq, List.nodup_cons] at hn
      rw [nodes1_eq, rm1_node, rm1_kids] at hm
      rcases List.mem_cons.mp hm with e | hm
      · refine hn.1 ?_
        rw [← e]
        unfold undN at hk
        obtain ⟨y, hy, hk⟩ := List.mem_flatMap.mp hk
        rw [nodesL_items]
        rw [nodes1_items] at hk
        obtain ⟨z, hz, ez⟩ := List.mem_map.mp hk
        refine List.mem_map.mpr ⟨z, ?_, ez⟩
        rcases mem_item1.mp hz with e2 | hz
        · rw [e2]; exact (List.mem_filter.mp hy).1
        · exact item_kids.2 _ y (List.mem_filter.mp hy).1 z hz
      · exact h hn.2 k hk hm
    · unfold Unlike at hn
      rw [nodesL, List.nodup_append] at hn
      obtain ⟨n1, n2, n3⟩ := hn
      have cs : x :: xs = [x] ++ xs := rfl
      rw [cs, und_app, List.mem_append] at hk
      have inx : k ∈ undN n [x] → k ∈ nodes1 x := fun hk => by
        unfold undN at hk
        obtain ⟨y, hy, hk⟩ := List.mem_flatMap.mp hk
        have hy1 := (List.mem_filter.mp hy).1
        rw [itemL, itemL, List.append_nil] at hy1
        rw [nodes1_items] at hk ⊢
        obtain ⟨z, hz, ez⟩ := List.mem_map.mp hk
        refine List.mem_map.mpr ⟨z, ?_, ez⟩
        rcases mem_item1.mp hz with e2 | hz
        · rw [e2]; exact hy1
        · exact item_kids.1 x y hy1 z hz
      have ins : k ∈ undN n xs → k ∈ nodesL xs := fun hk => by
        unfold undN at hk
        obtain ⟨y, hy, hk⟩ := List.mem_flatMap.mp hk
        have hy1 := (List.mem_filter.mp hy).1
        rw [nodesL_items]
        rw [nodes1_items] at hk
        obtain ⟨z, hz, ez⟩ := List.mem_map.mp hk
        refine List.mem_map.mpr ⟨z, ?_, ez⟩
        rcases mem_item1.mp hz with e2 | hz
        · rw [e2]; exact hy1
        · exact item_kids.2 _ y hy1 z hz
      rw [rmL] at hm
      by_cases e : x.node = n
      · rw [if_pos e] at hm
        have hm2 := (rm_sub n).2 xs |>.subset hm
        rcases hk with hk | hk
        · exact n3 _ (inx hk) _ hm2 rfl
        · exact h2 n2 k hk hm
      · rw [if_neg e, nodesL, List.mem_append] at hm
        rcases hk with hk | hk
        · rcases hm with hm | hm
          · refine h1 n1 e k ?_ hm
            unfold undN at hk ⊢
            obtain ⟨y, hy, hk⟩ := List.mem_flatMap.mp hk
            obtain ⟨hy1, hy2⟩ := List.mem_filter.mp hy
            rw [itemL, itemL, List.append_nil] at hy1
            rcases mem_item1.mp hy1 with e2 | hy1
            · rw [e2] at hy2
              exact absurd (by simpa using hy2) e
            · exact List.mem_flatMap.mpr ⟨y, List.mem_filter.mpr ⟨hy1, hy2⟩, hk⟩
          · exact n3 _ (inx hk) _ ((rm_sub n).2 xs |>.subset hm) rfl
        · rcases hm with hm | hm
          · exact n3 _ ((rm_sub n).1 x |>.subset hm) _ (ins hk) rfl
          · exact h2 n2 k hk hm
  exact key.2 T h k hk
end Go.Proofs.Ytgpckmolcdafcae
