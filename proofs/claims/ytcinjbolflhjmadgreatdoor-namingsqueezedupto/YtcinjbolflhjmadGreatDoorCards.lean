/-
  DERIVED. GIVEN WITH THE SEED: THE CARDS: each row of YtcinjbolflhjmadGreatDoorRows.lean that lists a variable, with what it lists TIED to the program's text (the seventh form; the later family's looks); each row that meets fmt, with fmt's text TOLD by the authors' own Lean function (tested against real Go, not proved from fmt's source: count such statements apart). THE CARD IS WHAT COUNTS. Prove the row's statement (the work); the ties are given (YtcinjbolflhjmadGreatDoorTie.lean); close each card by the builder's one call (the guide's Derived/Test/ToyasCard.lean, 'card_holds'). Laid BY PROGRAM, IN A SANDBOX (cutbox-door.mjs). By AI agents, Wed Nov 11 2026. No macro, syntax, notation, axiom, sorry.
-/
import Derived.Test.YtcinjbolflhjmadGreatDoorRows
import GoSem.ClaimSeven
namespace Go.Proofs.YtcinjbolflhjmadGreatDoor
namespace Rows

/-- THE TIED CARD OF 'tnlaw7.NamingTells'. -/
def namingTellsCard : Claim7 := { stood := { row := namingTellsRow, standIns := [], harness := (true, "13b501c5c3fb371711de616667ff1d4d30a6677884e3847400d1a0b6d6ccb90f"), looks := false }, kinds := [], alts := [], laidByText := true, laidKinds := [.data], laidTests := true, laidLooks := .later }
def NamingTellsCardSaid : Prop := Claim7.holds Tryz.pinned (.plain (OpenSpec.ofChange namingTellsSpec)) namingTellsCard

/-- THE TIED CARD OF 'tnlaw7.NamingAsked'. -/
def namingAskedCard : Claim7 := { stood := { row := namingAskedRow, standIns := [], harness := (true, "13b501c5c3fb371711de616667ff1d4d30a6677884e3847400d1a0b6d6ccb90f"), looks := false }, kinds := [], alts := [], laidByText := true, laidKinds := [.data], laidTests := true, laidLooks := .later }
def NamingAskedCardSaid : Prop := Claim7.holds Tryz.pinned (.plain (OpenSpec.ofChange namingAskedSpec)) namingAskedCard

/-- THE TIED CARD OF 'tnlaw7.NamingLabel'. -/
def namingLabelCard : Claim7 := { stood := { row := namingLabelRow, standIns := [], harness := (true, "13b501c5c3fb371711de616667ff1d4d30a6677884e3847400d1a0b6d6ccb90f"), looks := false }, kinds := [], alts := [], laidByText := true, laidKinds := [.data], laidTests := true, laidLooks := .later }
def NamingLabelCardSaid : Prop := Claim7.holds Tryz.pinned (.plain (OpenSpec.ofChange namingLabelSpec)) namingLabelCard

/-- THE TIED CARD OF 'tnlaw7.NamingSqueezed'. -/
def namingSqueezedCard : Claim7 := { stood := { row := namingSqueezedRow, standIns := [], harness := (true, "13b501c5c3fb371711de616667ff1d4d30a6677884e3847400d1a0b6d6ccb90f"), looks := false }, kinds := [], alts := [], laidByText := true, laidKinds := [.data], laidTests := true, laidLooks := .later }
def NamingSqueezedCardSaid : Prop := Claim7.holds Tryz.pinned (.plain (OpenSpec.ofChange namingSqueezedSpec)) namingSqueezedCard

/-- THE SECOND FORM's CARD OF 'tnlaw7.NamingTells'. -/
def namingTellsUptoCard : Claim7 := { stood := { row := namingTellsUptoRow, standIns := [], harness := (true, "13b501c5c3fb371711de616667ff1d4d30a6677884e3847400d1a0b6d6ccb90f"), looks := false }, kinds := [], alts := [], laidByText := true, laidKinds := [.data], laidTests := true, laidLooks := .later }
def NamingTellsUptoCardSaid : Prop := Claim7.holds Tryz.pinned (.plain (OpenSpec.upto namingTellsSpec)) namingTellsUptoCard

/-- THE SECOND FORM's CARD OF 'tnlaw7.NamingAsked'. -/
def namingAskedUptoCard : Claim7 := { stood := { row := namingAskedUptoRow, standIns := [], harness := (true, "13b501c5c3fb371711de616667ff1d4d30a6677884e3847400d1a0b6d6ccb90f"), looks := false }, kinds := [], alts := [], laidByText := true, laidKinds := [.data], laidTests := true, laidLooks := .later }
def NamingAskedUptoCardSaid : Prop := Claim7.holds Tryz.pinned (.plain (OpenSpec.upto namingAskedSpec)) namingAskedUptoCard

/-- THE SECOND FORM's CARD OF 'tnlaw7.NamingLabel'. -/
def namingLabelUptoCard : Claim7 := { stood := { row := namingLabelUptoRow, standIns := [], harness := (true, "13b501c5c3fb371711de616667ff1d4d30a6677884e3847400d1a0b6d6ccb90f"), looks := false }, kinds := [], alts := [], laidByText := true, laidKinds := [.data], laidTests := true, laidLooks := .later }
def NamingLabelUptoCardSaid : Prop := Claim7.holds Tryz.pinned (.plain (OpenSpec.upto namingLabelSpec)) namingLabelUptoCard

/-- THE SECOND FORM's CARD OF 'tnlaw7.NamingSqueezed'. -/
def namingSqueezedUptoCard : Claim7 := { stood := { row := namingSqueezedUptoRow, standIns := [], harness := (true, "13b501c5c3fb371711de616667ff1d4d30a6677884e3847400d1a0b6d6ccb90f"), looks := false }, kinds := [], alts := [], laidByText := true, laidKinds := [.data], laidTests := true, laidLooks := .later }
def NamingSqueezedUptoCardSaid : Prop := Claim7.holds Tryz.pinned (.plain (OpenSpec.upto namingSqueezedSpec)) namingSqueezedUptoCard
end Rows
end Go.Proofs.YtcinjbolflhjmadGreatDoor
