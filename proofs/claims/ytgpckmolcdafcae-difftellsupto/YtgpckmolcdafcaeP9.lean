/-
  OWN WORK: Xcv, Xct, Hdf.
-/
import Derived.Test.YtgpckmolcdafcaeP8
/-
  THE WALK of the reference's cut. (Laid by mkxcv.py.)
-/
namespace Go.Proofs.Ytgpckmolcdafcae
open Go.RowKit

/-- what was found so far, if anything -/
structure Found (w : World) (F : Nat) (Q : Nat → Prop) (vo : Value) (n : Nat) (l : List It) (X : It) (kx : Value) : Prop where
  box : Box8 F (.int .i64 (X.node : Int)) (.int .i64 X.role) (.string X.name) (.string X.about) (.int .i64 X.level) (.int .i64 X.checked) (.bool X.off) kx w
  fz : ∀ i, w.frozen? ⟨F, i, none⟩ = false
  rd : RdI w (fun g => Q g ∧ some g ≠ vo.ownBlock) kx X.kids
  yes : n ∈ nodesL l → X ∈ itemL l ∧ X.node = n
  no : n ∉ nodesL l → X = item0

theorem Found.frame {w w' : World} {F : Nat} {Q : Nat → Prop} {vo vo' : Value} {n : Nat} {l l' : List It} {X : It} {kx : Value} (h : Found w F Q vo n l X kx) (hb : w'.heap[F]? = w.heap[F]?)
    (hq : ∀ g, Q g → some g ≠ vo.ownBlock → g < w.heap.size → w'.heap[g]? = w.heap[g]? ∧ some g ≠ vo'.ownBlock) (hy : n ∈ nodesL l' → X ∈ itemL l' ∧ X.node = n) (hn : n ∉ nodesL l' → X = item0) : Found w' F Q vo' n l' X kx :=
  ⟨h.box.keeps (fun i v hv => by rw [← hv]; exact World.cell?_of_block (a := ⟨F, i, none⟩) hb), fun i => (World.frozen?_of_block (a := ⟨F, i, none⟩) hb).trans (h.fz i), h.rd.frame (fun g hg hlt => ⟨(hq g hg.1 hg.2 hlt).1, hg.1, (hq g hg.1 hg.2 hlt).2⟩), hy, hn⟩
theorem Found.grown {w w' : World} {F : Nat} {Q : Nat → Prop} {vo vo' : Value} {n : Nat} {l : List It} {X : It} {kx : Value} (h : Found w F Q vo n l X kx) (hF : F < w.heap.size) (hne : vo.ownBlock ≠ some F) (hg : w.grownBy w' vo.ownBlock) (hl : vo'.ownBlock = vo.ownBlock ∨ ∃ q, w.heap.size ≤ q ∧ vo'.ownBlock = some q) : Found w' F Q vo' n l X kx :=
  h.frame (hg.block F hF (fun e => hne e.symm)) (fun g _ h2 h3 => ⟨hg.block g h3 h2, fun e => by
    rcases hl with e2 | ⟨q, h4, e2⟩
    · exact h2 (by rw [e, e2])
    · rw [e2] at e
      have := Option.some.inj e
      omega⟩) h.yes h.no
end Go.Proofs.Ytgpckmolcdafcae

/-
  THE WALK of the reference's Cut.
-/
namespace Go.Proofs.Ytgpckmolcdafcae
open Go.RowKit

end Go.Proofs.Ytgpckmolcdafcae

/-
  THE WALK of DiffFew.
-/
namespace Go.Proofs.Ytgpckmolcdafcae
open Go.RowKit Go.Maps

end Go.Proofs.Ytgpckmolcdafcae
