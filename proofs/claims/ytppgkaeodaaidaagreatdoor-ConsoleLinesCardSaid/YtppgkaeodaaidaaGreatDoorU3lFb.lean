/-
  Closed facts.
-/
import Derived.Test.YtppgkaeodaaidaaGreatDoorRows
import Derived.Test.YtppgkaeodaaidaaGreatDoorCards
import Derived.Test.YtppgkaeodaaidaaGreatDoorTie
import Derived.OpenShut
import Derived.Lib.Hide
import Derived.WalkKit
import Derived.ProofKit
import Derived.ShutString
import Derived.ChangeOld
import Derived.Below
import Derived.Deep.DeepHandedRow
import Derived.Deep.DeepWitnessRowRef
import Derived.Lib.LaidIn
import Derived.Shelf.Vars
import Derived.Stop.LaidErr
import Derived.SevenTiedAt
namespace Go.Proofs.YtppgkaeodaaidaaGreatDoor.consoleLines
open Go Go.Proofs Go.Proofs.YtppgkaeodaaidaaGreatDoor Go.ChangeShapes Go.WideShapes Go.ChangeAt Go.RowKit
set_option linter.unusedVariables false
theorem fWf : Rows.consoleLinesRow.wfByText (OpenSpec.ofChange Rows.consoleLinesSpec) = true := by kernel_rfl
theorem fMain : Tryz.prog.mainIs = some (true, ("c8971ead518be44c10499fc62d681516014870a13f262c1d68723de1b88f6cca" : String).toList) := by kernel_rfl
theorem fLook : true = Tryz.prog.looks [] := by kernel_rfl
theorem fNamed : Tryz.prog.funcNamed "mortmain/mortmainlaw23.ConsoleLines" = some 3 := by kernel_rfl
theorem fStand : ([9].all fun u => !Tryz.prog.wantsStandIn u) = true := by kernel_rfl
end Go.Proofs.YtppgkaeodaaidaaGreatDoor.consoleLines
