/-
  DERIVED. GIVEN WITH THE SEED: THE CARDS: each row of YtookcjdibpccpabDoorRows.lean that lists a variable, with what it lists TIED to the program's text (the seventh form; the later family's looks); each row that meets fmt, with fmt's text TOLD by the authors' own Lean function (tested against real Go, not proved from fmt's source: count such statements apart). THE CARD IS WHAT COUNTS. Prove the row's statement (the work); the ties are given (YtookcjdibpccpabDoorTie.lean); close each card by the builder's one call (the guide's Derived/Test/ToyasCard.lean, 'card_holds'). Laid BY PROGRAM, IN A SANDBOX (cutbox-door.mjs). By AI agents, Wed Nov 11 2026. No macro, syntax, notation, axiom, sorry.
-/
import Derived.Test.YtookcjdibpccpabDoorRows
import GoSem.ClaimSeven
namespace Go.Proofs.YtookcjdibpccpabDoor
namespace Rows

/-- THE TIED CARD OF 'tnlaw4.KindsTells'. -/
def kindsTellsCard : Claim7 := { stood := { row := kindsTellsRow, standIns := [], harness := (true, "e445c96aab319fb69dcaabc2041138dd3323d7189d632ae6d6313cac92e3fc4e"), looks := false }, kinds := [], alts := [], laidByText := true, laidKinds := [.data], laidTests := true, laidLooks := .later }
def KindsTellsCardSaid : Prop := Claim7.holds Tryd.pinned (.plain (OpenSpec.ofChange kindsTellsSpec)) kindsTellsCard

/-- THE TIED CARD OF 'tnlaw4.KindsNamed'. -/
def kindsNamedCard : Claim7 := { stood := { row := kindsNamedRow, standIns := [], harness := (true, "e445c96aab319fb69dcaabc2041138dd3323d7189d632ae6d6313cac92e3fc4e"), looks := false }, kinds := [], alts := [], laidByText := true, laidKinds := [.data], laidTests := true, laidLooks := .later }
def KindsNamedCardSaid : Prop := Claim7.holds Tryd.pinned (.plain (OpenSpec.ofChange kindsNamedSpec)) kindsNamedCard

/-- THE SECOND FORM's CARD OF 'tnlaw4.KindsTells'. -/
def kindsTellsUptoCard : Claim7 := { stood := { row := kindsTellsUptoRow, standIns := [], harness := (true, "e445c96aab319fb69dcaabc2041138dd3323d7189d632ae6d6313cac92e3fc4e"), looks := false }, kinds := [], alts := [], laidByText := true, laidKinds := [.data], laidTests := true, laidLooks := .later }
def KindsTellsUptoCardSaid : Prop := Claim7.holds Tryd.pinned (.plain (OpenSpec.upto kindsTellsSpec)) kindsTellsUptoCard

/-- THE SECOND FORM's CARD OF 'tnlaw4.KindsNamed'. -/
def kindsNamedUptoCard : Claim7 := { stood := { row := kindsNamedUptoRow, standIns := [], harness := (true, "e445c96aab319fb69dcaabc2041138dd3323d7189d632ae6d6313cac92e3fc4e"), looks := false }, kinds := [], alts := [], laidByText := true, laidKinds := [.data], laidTests := true, laidLooks := .later }
def KindsNamedUptoCardSaid : Prop := Claim7.holds Tryd.pinned (.plain (OpenSpec.upto kindsNamedSpec)) kindsNamedUptoCard
end Rows
end Go.Proofs.YtookcjdibpccpabDoor
