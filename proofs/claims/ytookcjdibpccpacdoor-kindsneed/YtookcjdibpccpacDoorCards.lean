/-
  DERIVED. GIVEN WITH THE SEED: THE CARDS: each row of YtookcjdibpccpacDoorRows.lean that lists a variable, with what it lists TIED to the program's text (the seventh form; the later family's looks); each row that meets fmt, with fmt's text TOLD by the authors' own Lean function (tested against real Go, not proved from fmt's source: count such statements apart). THE CARD IS WHAT COUNTS. Prove the row's statement (the work); the ties are given (YtookcjdibpccpacDoorTie.lean); close each card by the builder's one call (the guide's Derived/Test/ToyasCard.lean, 'card_holds'). Laid BY PROGRAM, IN A SANDBOX (cutbox-door.mjs). By AI agents, Wed Nov 11 2026. No macro, syntax, notation, axiom, sorry.
-/
import Derived.Test.YtookcjdibpccpacDoorRows
import GoSem.ClaimSeven
namespace Go.Proofs.YtookcjdibpccpacDoor
namespace Rows

/-- THE TIED CARD OF 'tnlaw4.KindsNeed'. -/
def kindsNeedCard : Claim7 := { stood := { row := kindsNeedRow, standIns := [], harness := (true, "7b3a752309690419503732a44dbce9bd4cb1e9a070671245c8bf9ca5645ce09f"), looks := false }, kinds := [], alts := [], laidByText := true, laidKinds := [.data], laidTests := true, laidLooks := .later }
def KindsNeedCardSaid : Prop := Claim7.holds Tryd.pinned (.plain (OpenSpec.ofChange kindsNeedSpec)) kindsNeedCard

/-- THE SECOND FORM's CARD OF 'tnlaw4.KindsNeed'. -/
def kindsNeedUptoCard : Claim7 := { stood := { row := kindsNeedUptoRow, standIns := [], harness := (true, "7b3a752309690419503732a44dbce9bd4cb1e9a070671245c8bf9ca5645ce09f"), looks := false }, kinds := [], alts := [], laidByText := true, laidKinds := [.data], laidTests := true, laidLooks := .later }
def KindsNeedUptoCardSaid : Prop := Claim7.holds Tryd.pinned (.plain (OpenSpec.upto kindsNeedSpec)) kindsNeedUptoCard
end Rows
end Go.Proofs.YtookcjdibpccpacDoor
