/-
  DERIVED. GIVEN WITH THE SEED: THE CARDS: each row of YtkdmmnpcoegenacDoorRows.lean that lists a variable, with what it lists TIED to the program's text (the seventh form; the later family's looks); each row that meets fmt, with fmt's text TOLD by the authors' own Lean function (tested against real Go, not proved from fmt's source: count such statements apart). THE CARD IS WHAT COUNTS. Prove the row's statement (the work); the ties are given (YtkdmmnpcoegenacDoorTie.lean); close each card by the builder's one call (the guide's Derived/Test/ToyasCard.lean, 'card_holds'). Laid BY PROGRAM, IN A SANDBOX (cutbox-door.mjs). By AI agents, Wed Nov 11 2026. No macro, syntax, notation, axiom, sorry.
-/
import Derived.Test.YtkdmmnpcoegenacDoorRows
import GoSem.ClaimSeven
namespace Go.Proofs.YtkdmmnpcoegenacDoor
namespace Rows

/-- THE TIED CARD OF 'tnlaw4.KindsNeed'. -/
def kindsNeedCard : Claim7 := { stood := { row := kindsNeedRow, standIns := [], harness := (true, "4f767b3e56741bf07bf62c05b7996a4560a24d4f6f1e740b8a2fb5f5f6fab853"), looks := false }, kinds := [], alts := [], laidByText := true, laidKinds := [.data], laidTests := true, laidLooks := .later }
def KindsNeedCardSaid : Prop := Claim7.holds Tryd.pinned (.plain (OpenSpec.ofChange kindsNeedSpec)) kindsNeedCard

/-- THE TIED CARD OF 'tnlaw5.RoleTells'. -/
def roleTellsCard : Claim7 := { stood := { row := roleTellsRow, standIns := [], harness := (true, "4f767b3e56741bf07bf62c05b7996a4560a24d4f6f1e740b8a2fb5f5f6fab853"), looks := false }, kinds := [], alts := [], laidByText := true, laidKinds := [.data], laidTests := true, laidLooks := .later }
def RoleTellsCardSaid : Prop := Claim7.holds Tryd.pinned (.plain (OpenSpec.ofChange roleTellsSpec)) roleTellsCard

/-- THE TIED CARD OF 'tnlaw5.RoleNeed'. -/
def roleNeedCard : Claim7 := { stood := { row := roleNeedRow, standIns := [], harness := (true, "4f767b3e56741bf07bf62c05b7996a4560a24d4f6f1e740b8a2fb5f5f6fab853"), looks := false }, kinds := [], alts := [], laidByText := true, laidKinds := [.data], laidTests := true, laidLooks := .later }
def RoleNeedCardSaid : Prop := Claim7.holds Tryd.pinned (.plain (OpenSpec.ofChange roleNeedSpec)) roleNeedCard

/-- THE TIED CARD OF 'tnlaw5.RoleHidden'. -/
def roleHiddenCard : Claim7 := { stood := { row := roleHiddenRow, standIns := [], harness := (true, "4f767b3e56741bf07bf62c05b7996a4560a24d4f6f1e740b8a2fb5f5f6fab853"), looks := false }, kinds := [], alts := [], laidByText := true, laidKinds := [.data], laidTests := true, laidLooks := .later }
def RoleHiddenCardSaid : Prop := Claim7.holds Tryd.pinned (.plain (OpenSpec.ofChange roleHiddenSpec)) roleHiddenCard

/-- THE TIED CARD OF 'tnlaw5.RoleAsked'. -/
def roleAskedCard : Claim7 := { stood := { row := roleAskedRow, standIns := [], harness := (true, "4f767b3e56741bf07bf62c05b7996a4560a24d4f6f1e740b8a2fb5f5f6fab853"), looks := false }, kinds := [], alts := [], laidByText := true, laidKinds := [.data], laidTests := true, laidLooks := .later }
def RoleAskedCardSaid : Prop := Claim7.holds Tryd.pinned (.plain (OpenSpec.ofChange roleAskedSpec)) roleAskedCard

/-- THE SECOND FORM's CARD OF 'tnlaw4.KindsNeed'. -/
def kindsNeedUptoCard : Claim7 := { stood := { row := kindsNeedUptoRow, standIns := [], harness := (true, "4f767b3e56741bf07bf62c05b7996a4560a24d4f6f1e740b8a2fb5f5f6fab853"), looks := false }, kinds := [], alts := [], laidByText := true, laidKinds := [.data], laidTests := true, laidLooks := .later }
def KindsNeedUptoCardSaid : Prop := Claim7.holds Tryd.pinned (.plain (OpenSpec.upto kindsNeedSpec)) kindsNeedUptoCard

/-- THE SECOND FORM's CARD OF 'tnlaw5.RoleTells'. -/
def roleTellsUptoCard : Claim7 := { stood := { row := roleTellsUptoRow, standIns := [], harness := (true, "4f767b3e56741bf07bf62c05b7996a4560a24d4f6f1e740b8a2fb5f5f6fab853"), looks := false }, kinds := [], alts := [], laidByText := true, laidKinds := [.data], laidTests := true, laidLooks := .later }
def RoleTellsUptoCardSaid : Prop := Claim7.holds Tryd.pinned (.plain (OpenSpec.upto roleTellsSpec)) roleTellsUptoCard

/-- THE SECOND FORM's CARD OF 'tnlaw5.RoleNeed'. -/
def roleNeedUptoCard : Claim7 := { stood := { row := roleNeedUptoRow, standIns := [], harness := (true, "4f767b3e56741bf07bf62c05b7996a4560a24d4f6f1e740b8a2fb5f5f6fab853"), looks := false }, kinds := [], alts := [], laidByText := true, laidKinds := [.data], laidTests := true, laidLooks := .later }
def RoleNeedUptoCardSaid : Prop := Claim7.holds Tryd.pinned (.plain (OpenSpec.upto roleNeedSpec)) roleNeedUptoCard

/-- THE SECOND FORM's CARD OF 'tnlaw5.RoleHidden'. -/
def roleHiddenUptoCard : Claim7 := { stood := { row := roleHiddenUptoRow, standIns := [], harness := (true, "4f767b3e56741bf07bf62c05b7996a4560a24d4f6f1e740b8a2fb5f5f6fab853"), looks := false }, kinds := [], alts := [], laidByText := true, laidKinds := [.data], laidTests := true, laidLooks := .later }
def RoleHiddenUptoCardSaid : Prop := Claim7.holds Tryd.pinned (.plain (OpenSpec.upto roleHiddenSpec)) roleHiddenUptoCard

/-- THE SECOND FORM's CARD OF 'tnlaw5.RoleAsked'. -/
def roleAskedUptoCard : Claim7 := { stood := { row := roleAskedUptoRow, standIns := [], harness := (true, "4f767b3e56741bf07bf62c05b7996a4560a24d4f6f1e740b8a2fb5f5f6fab853"), looks := false }, kinds := [], alts := [], laidByText := true, laidKinds := [.data], laidTests := true, laidLooks := .later }
def RoleAskedUptoCardSaid : Prop := Claim7.holds Tryd.pinned (.plain (OpenSpec.upto roleAskedSpec)) roleAskedUptoCard
end Rows
end Go.Proofs.YtkdmmnpcoegenacDoor
