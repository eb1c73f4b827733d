/-
  NARROWER THAN 'FOR EVERY INPUT', by the rows' own cells (each row's printed sentence says how): KindsNeed: laid · RoleTells: laid · RoleNeed: laid · RoleHidden: laid · RoleAsked: laid.
  DERIVED. THE GIVEN ROWS OF THIS SEAT. 5 by the template 'for every input the law returns true; each argument reads behind the call as it read before'; 0 by the template 'total and deterministic' (their statements: YtkdmmnpcoegenacDoorTotals.lean).
  GIVEN WITH THE SEED: the statements are not yours to turn. If you find one false, say at which input.
  Laid BY PROGRAM, IN A SANDBOX (cutbox-rows.mjs): the forced cells as the released guide's own fill.sh prints them over the translation d77bf60f3c376397… (all of the seat's roots in one cut). By AI agents, Wed Nov 11 2026. No macro, syntax, notation, axiom, sorry.
-/
import Derived.Test.YtkdmmnpcoegenacDoorChecked
import GoSem.Claim
import GoSem.ClaimJoined
import GoSem.ClaimMapViews
import Derived.JoinedTies
import Derived.KernelRfl
namespace Go.Proofs.YtkdmmnpcoegenacDoor
/- THE CELL 'sum', in the pinned program and in every row, IS THE sha256 OF THE DUMP (.gsa) THAT YtkdmmnpcoegenacDoorProg.lean LOADS. Nothing in Lean hashes anything: it is a label: what it is worth is what the hold of that sum in a sandbox is worth. -/
noncomputable def Tryd.pinned : Pinned := { name := "ytkdmmnpcoegenacdoor", sum := "d77bf60f3c376397e468e689dce80a39a7f1556e682069a6609b68b1b68433cf", checked := Tryd.checked }
namespace Rows
def none {H : Type} : Left H := { results := [], args := [] }

/- WHAT THE LISTED PACKAGE-LEVEL VARIABLES READ AS WHEN THE CALL BEGINS. Each datum BY PROGRAM (the guide's laid-datum.mjs) off the statement by which the dump's own 'gosem.cut.vars' lays the variable. In a bare row this is a premise. The card (YtkdmmnpcoegenacDoorCards.lean) ties it to the program's text. -/
def laid_townreader_kinds_byRole {H : Type} : DataW H := .agg [.agg [.lit (.string []), .lit (.bool false), .lit (.bool false), .lit (.bool false), .lit (.bool false), .lit (.bool false), .lit (.int .i64 0)], .agg [.lit (.string [103, 114, 111, 117, 112]), .lit (.bool false), .lit (.bool false), .lit (.bool false), .lit (.bool false), .lit (.bool true), .lit (.int .i64 0)], .agg [.lit (.string [109, 97, 105, 110]), .lit (.bool false), .lit (.bool false), .lit (.bool false), .lit (.bool false), .lit (.bool true), .lit (.int .i64 0)], .agg [.lit (.string [110, 97, 118, 105, 103, 97, 116, 105, 111, 110]), .lit (.bool false), .lit (.bool false), .lit (.bool false), .lit (.bool false), .lit (.bool true), .lit (.int .i64 0)], .agg [.lit (.string [104, 101, 97, 100, 105, 110, 103]), .lit (.bool true), .lit (.bool false), .lit (.bool true), .lit (.bool false), .lit (.bool true), .lit (.int .i64 0)], .agg [.lit (.string [108, 105, 115, 116]), .lit (.bool false), .lit (.bool false), .lit (.bool false), .lit (.bool false), .lit (.bool true), .lit (.int .i64 0)], .agg [.lit (.string [108, 105, 115, 116, 105, 116, 101, 109]), .lit (.bool false), .lit (.bool false), .lit (.bool true), .lit (.bool false), .lit (.bool false), .lit (.int .i64 5)], .agg [.lit (.string [108, 105, 110, 107]), .lit (.bool true), .lit (.bool false), .lit (.bool false), .lit (.bool false), .lit (.bool true), .lit (.int .i64 0)], .agg [.lit (.string [98, 117, 116, 116, 111, 110]), .lit (.bool true), .lit (.bool true), .lit (.bool false), .lit (.bool false), .lit (.bool true), .lit (.int .i64 0)], .agg [.lit (.string [99, 104, 101, 99, 107, 98, 111, 120]), .lit (.bool true), .lit (.bool true), .lit (.bool false), .lit (.bool true), .lit (.bool true), .lit (.int .i64 0)], .agg [.lit (.string [116, 101, 120, 116]), .lit (.bool false), .lit (.bool true), .lit (.bool false), .lit (.bool false), .lit (.bool false), .lit (.int .i64 0)], .agg [.lit (.string [105, 109, 103]), .lit (.bool false), .lit (.bool true), .lit (.bool false), .lit (.bool false), .lit (.bool true), .lit (.int .i64 0)], .agg [.lit (.string [116, 101, 120, 116, 98, 111, 120]), .lit (.bool false), .lit (.bool true), .lit (.bool false), .lit (.bool false), .lit (.bool true), .lit (.int .i64 0)], .agg [.lit (.string [116, 97, 98, 108, 101]), .lit (.bool false), .lit (.bool false), .lit (.bool false), .lit (.bool false), .lit (.bool true), .lit (.int .i64 0)], .agg [.lit (.string [114, 111, 119]), .lit (.bool true), .lit (.bool false), .lit (.bool false), .lit (.bool false), .lit (.bool true), .lit (.int .i64 13)], .agg [.lit (.string [99, 101, 108, 108]), .lit (.bool true), .lit (.bool false), .lit (.bool false), .lit (.bool false), .lit (.bool true), .lit (.int .i64 14)], .agg [.lit (.string [114, 101, 103, 105, 111, 110]), .lit (.bool false), .lit (.bool false), .lit (.bool false), .lit (.bool false), .lit (.bool true), .lit (.int .i64 0)], .agg [.lit (.string [100, 105, 97, 108, 111, 103]), .lit (.bool false), .lit (.bool false), .lit (.bool false), .lit (.bool false), .lit (.bool true), .lit (.int .i64 0)], .agg [.lit (.string [103, 101, 110, 101, 114, 105, 99]), .lit (.bool false), .lit (.bool false), .lit (.bool false), .lit (.bool false), .lit (.bool false), .lit (.int .i64 0)]]

/-- 'tnlaw4.KindsNeed': WHATEVER THE INPUT: true; the input reads as it did. -/
def kindsNeedSpec : ChangeSpec := { name := "kindsNeed", fn := fun _ => fun
  | [d] => { results := [.lit (.bool true)], args := [d] }
  | _ => none }
def kindsNeedRow : OpenClaim := { program := "ytkdmmnpcoegenacdoor", sum := "d77bf60f3c376397e468e689dce80a39a7f1556e682069a6609b68b1b68433cf", func := "townreader/tnlaw4.KindsNeed", spec := "kindsNeed", named := ["townreader/kinds.byRole"], apart := false, laid := [("townreader/kinds.byRole", laid_townreader_kinds_byRole)] }
def KindsNeedSaid : Prop := kindsNeedRow.holds Tryd.pinned (OpenSpec.ofChange kindsNeedSpec)

/-- ITS FALSE NEIGHBOUR: 'it returns false'. Refute it at one input. -/
def kindsNeedWrong : ChangeSpec := { name := "kindsNeed", fn := fun _ => fun
  | [d] => { results := [.lit (.bool false)], args := [d] }
  | _ => none }
def KindsNeedWrongFalsely : Prop := kindsNeedRow.holds Tryd.pinned (OpenSpec.ofChange kindsNeedWrong)

/-- 'tnlaw5.RoleTells': WHATEVER THE INPUT: true; the input reads as it did. -/
def roleTellsSpec : ChangeSpec := { name := "roleTells", fn := fun _ => fun
  | [d1, d2] => { results := [.lit (.bool true)], args := [d1, d2] }
  | _ => none }
def roleTellsRow : OpenClaim := { program := "ytkdmmnpcoegenacdoor", sum := "d77bf60f3c376397e468e689dce80a39a7f1556e682069a6609b68b1b68433cf", func := "townreader/tnlaw5.RoleTells", spec := "roleTells", inPlace := ["internal/abi.NoEscape", "internal/bytealg.MakeNoZero"], unfollowed := true, recurses := true, named := ["townreader/kinds.byRole"], apart := false, laid := [("townreader/kinds.byRole", laid_townreader_kinds_byRole)] }
def RoleTellsSaid : Prop := roleTellsRow.holds Tryd.pinned (OpenSpec.ofChange roleTellsSpec)

/-- ITS FALSE NEIGHBOUR: 'it returns false'. Refute it at one input. -/
def roleTellsWrong : ChangeSpec := { name := "roleTells", fn := fun _ => fun
  | [d1, d2] => { results := [.lit (.bool false)], args := [d1, d2] }
  | _ => none }
def RoleTellsWrongFalsely : Prop := roleTellsRow.holds Tryd.pinned (OpenSpec.ofChange roleTellsWrong)

/-- 'tnlaw5.RoleNeed': WHATEVER THE INPUT: true; the input reads as it did. -/
def roleNeedSpec : ChangeSpec := { name := "roleNeed", fn := fun _ => fun
  | [d] => { results := [.lit (.bool true)], args := [d] }
  | _ => none }
def roleNeedRow : OpenClaim := { program := "ytkdmmnpcoegenacdoor", sum := "d77bf60f3c376397e468e689dce80a39a7f1556e682069a6609b68b1b68433cf", func := "townreader/tnlaw5.RoleNeed", spec := "roleNeed", inPlace := ["internal/abi.NoEscape", "internal/bytealg.MakeNoZero"], unfollowed := true, recurses := true, named := ["townreader/kinds.byRole"], apart := false, laid := [("townreader/kinds.byRole", laid_townreader_kinds_byRole)] }
def RoleNeedSaid : Prop := roleNeedRow.holds Tryd.pinned (OpenSpec.ofChange roleNeedSpec)

/-- ITS FALSE NEIGHBOUR: 'it returns false'. Refute it at one input. -/
def roleNeedWrong : ChangeSpec := { name := "roleNeed", fn := fun _ => fun
  | [d] => { results := [.lit (.bool false)], args := [d] }
  | _ => none }
def RoleNeedWrongFalsely : Prop := roleNeedRow.holds Tryd.pinned (OpenSpec.ofChange roleNeedWrong)

/-- 'tnlaw5.RoleHidden': WHATEVER THE INPUT: true; the input reads as it did. -/
def roleHiddenSpec : ChangeSpec := { name := "roleHidden", fn := fun _ => fun
  | [d] => { results := [.lit (.bool true)], args := [d] }
  | _ => none }
def roleHiddenRow : OpenClaim := { program := "ytkdmmnpcoegenacdoor", sum := "d77bf60f3c376397e468e689dce80a39a7f1556e682069a6609b68b1b68433cf", func := "townreader/tnlaw5.RoleHidden", spec := "roleHidden", inPlace := ["internal/abi.NoEscape", "internal/bytealg.MakeNoZero"], unfollowed := true, recurses := true, named := ["townreader/kinds.byRole"], apart := false, laid := [("townreader/kinds.byRole", laid_townreader_kinds_byRole)] }
def RoleHiddenSaid : Prop := roleHiddenRow.holds Tryd.pinned (OpenSpec.ofChange roleHiddenSpec)

/-- ITS FALSE NEIGHBOUR: 'it returns false'. Refute it at one input. -/
def roleHiddenWrong : ChangeSpec := { name := "roleHidden", fn := fun _ => fun
  | [d] => { results := [.lit (.bool false)], args := [d] }
  | _ => none }
def RoleHiddenWrongFalsely : Prop := roleHiddenRow.holds Tryd.pinned (OpenSpec.ofChange roleHiddenWrong)

/-- 'tnlaw5.RoleAsked': WHATEVER THE INPUT: true; the input reads as it did. -/
def roleAskedSpec : ChangeSpec := { name := "roleAsked", fn := fun _ => fun
  | [d1, d2, d3] => { results := [.lit (.bool true)], args := [d1, d2, d3] }
  | _ => none }
def roleAskedRow : OpenClaim := { program := "ytkdmmnpcoegenacdoor", sum := "d77bf60f3c376397e468e689dce80a39a7f1556e682069a6609b68b1b68433cf", func := "townreader/tnlaw5.RoleAsked", spec := "roleAsked", inPlace := ["internal/abi.NoEscape", "internal/bytealg.MakeNoZero"], unfollowed := true, recurses := true, named := ["townreader/kinds.byRole"], apart := false, laid := [("townreader/kinds.byRole", laid_townreader_kinds_byRole)] }
def RoleAskedSaid : Prop := roleAskedRow.holds Tryd.pinned (OpenSpec.ofChange roleAskedSpec)

/-- ITS FALSE NEIGHBOUR: 'it returns false'. Refute it at one input. -/
def roleAskedWrong : ChangeSpec := { name := "roleAsked", fn := fun _ => fun
  | [d1, d2, d3] => { results := [.lit (.bool false)], args := [d1, d2, d3] }
  | _ => none }
def RoleAskedWrongFalsely : Prop := roleAskedRow.holds Tryd.pinned (OpenSpec.ofChange roleAskedWrong)

/- THE SECOND FORM. 'bulk': how many values and letters a reading holds, each counted each time it is reached (what is shared counts as often as it is met; a slice's spare places count too). A statement '..UptoSaid' is the law's where the arguments, and the package variables that the reading takes, are together of bulk at most 1048576: NARROWER than '..Said'. Prove '..Said' where nothing that the law and all that it calls make is longer than what came in: it says more and counts as full. Else prove '..UptoSaid'. A law counts once. -/
mutual
def uptoBulk {H : Type} : DataW H → Nat
  | .lit (.string bytes) => bytes.length + 1
  | .lit _ => 1
  | .nil => 1
  | .ptr d => uptoBulk d + 1
  | .slice elems spare => uptoBulkAll elems + uptoBulkAll spare + 1
  | .agg parts => uptoBulkAll parts + 1
  | .iface _ d => uptoBulk d + 1
  | .map entries => uptoBulkEntries entries + 1
  | .held _ => 1
def uptoBulkAll {H : Type} : List (DataW H) → Nat
  | [] => 0
  | d :: r => uptoBulk d + uptoBulkAll r
def uptoBulkEntries {H : Type} : List (Lit × DataW H) → Nat
  | [] => 0
  | x :: r => uptoBulkEntry x + uptoBulkEntries r
def uptoBulkEntry {H : Type} : Lit × DataW H → Nat
  | (.string bytes, d) => bytes.length + uptoBulk d + 1
  | (_, d) => uptoBulk d + 1
 end
def uptoSmall : (H : Type) → List (DataW H) → Bool := fun _ ds => decide (uptoBulkAll ds ≤ 1048576)
def OpenSpec.upto (s : _root_.Go.ChangeSpec) : _root_.Go.OpenSpec := { _root_.Go.OpenSpec.ofChange s with cond := some uptoSmall }

/-- 'tnlaw4.KindsNeed', WHERE WHAT IT READS IS OF BULK AT MOST 1048576: true; the input reads as it did. -/
def kindsNeedUptoRow : OpenClaim := { program := "ytkdmmnpcoegenacdoor", sum := "d77bf60f3c376397e468e689dce80a39a7f1556e682069a6609b68b1b68433cf", func := "townreader/tnlaw4.KindsNeed", spec := "kindsNeed", named := ["townreader/kinds.byRole"], apart := false, laid := [("townreader/kinds.byRole", laid_townreader_kinds_byRole)], narrowed := true }
def KindsNeedUptoSaid : Prop := kindsNeedUptoRow.holds Tryd.pinned (OpenSpec.upto kindsNeedSpec)

/-- 'tnlaw5.RoleTells', WHERE WHAT IT READS IS OF BULK AT MOST 1048576: true; the input reads as it did. -/
def roleTellsUptoRow : OpenClaim := { program := "ytkdmmnpcoegenacdoor", sum := "d77bf60f3c376397e468e689dce80a39a7f1556e682069a6609b68b1b68433cf", func := "townreader/tnlaw5.RoleTells", spec := "roleTells", inPlace := ["internal/abi.NoEscape", "internal/bytealg.MakeNoZero"], unfollowed := true, recurses := true, named := ["townreader/kinds.byRole"], apart := false, laid := [("townreader/kinds.byRole", laid_townreader_kinds_byRole)], narrowed := true }
def RoleTellsUptoSaid : Prop := roleTellsUptoRow.holds Tryd.pinned (OpenSpec.upto roleTellsSpec)

/-- 'tnlaw5.RoleNeed', WHERE WHAT IT READS IS OF BULK AT MOST 1048576: true; the input reads as it did. -/
def roleNeedUptoRow : OpenClaim := { program := "ytkdmmnpcoegenacdoor", sum := "d77bf60f3c376397e468e689dce80a39a7f1556e682069a6609b68b1b68433cf", func := "townreader/tnlaw5.RoleNeed", spec := "roleNeed", inPlace := ["internal/abi.NoEscape", "internal/bytealg.MakeNoZero"], unfollowed := true, recurses := true, named := ["townreader/kinds.byRole"], apart := false, laid := [("townreader/kinds.byRole", laid_townreader_kinds_byRole)], narrowed := true }
def RoleNeedUptoSaid : Prop := roleNeedUptoRow.holds Tryd.pinned (OpenSpec.upto roleNeedSpec)

/-- 'tnlaw5.RoleHidden', WHERE WHAT IT READS IS OF BULK AT MOST 1048576: true; the input reads as it did. -/
def roleHiddenUptoRow : OpenClaim := { program := "ytkdmmnpcoegenacdoor", sum := "d77bf60f3c376397e468e689dce80a39a7f1556e682069a6609b68b1b68433cf", func := "townreader/tnlaw5.RoleHidden", spec := "roleHidden", inPlace := ["internal/abi.NoEscape", "internal/bytealg.MakeNoZero"], unfollowed := true, recurses := true, named := ["townreader/kinds.byRole"], apart := false, laid := [("townreader/kinds.byRole", laid_townreader_kinds_byRole)], narrowed := true }
def RoleHiddenUptoSaid : Prop := roleHiddenUptoRow.holds Tryd.pinned (OpenSpec.upto roleHiddenSpec)

/-- 'tnlaw5.RoleAsked', WHERE WHAT IT READS IS OF BULK AT MOST 1048576: true; the input reads as it did. -/
def roleAskedUptoRow : OpenClaim := { program := "ytkdmmnpcoegenacdoor", sum := "d77bf60f3c376397e468e689dce80a39a7f1556e682069a6609b68b1b68433cf", func := "townreader/tnlaw5.RoleAsked", spec := "roleAsked", inPlace := ["internal/abi.NoEscape", "internal/bytealg.MakeNoZero"], unfollowed := true, recurses := true, named := ["townreader/kinds.byRole"], apart := false, laid := [("townreader/kinds.byRole", laid_townreader_kinds_byRole)], narrowed := true }
def RoleAskedUptoSaid : Prop := roleAskedUptoRow.holds Tryd.pinned (OpenSpec.upto roleAskedSpec)

end Rows
end Go.Proofs.YtkdmmnpcoegenacDoor
