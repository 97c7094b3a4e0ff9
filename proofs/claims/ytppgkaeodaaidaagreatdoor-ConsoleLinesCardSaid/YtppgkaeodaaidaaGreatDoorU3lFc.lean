/-
  A closed fact.
-/
import Derived.Test.YtppgkaeodaaidaaGreatDoorRows
import Derived.Test.YtppgkaeodaaidaaGreatDoorCards
import Derived.Test.YtppgkaeodaaidaaGreatDoorTie
import Derived.OpenShut
import Derived.Lib.Hide
import Derived.WalkKit
import Derived.ProofKit
import Derived.ShutString
import Derived.ChangeOld
import Derived.Below
import Derived.Deep.DeepHandedRow
import Derived.Deep.DeepWitnessRowRef
import Derived.Lib.LaidIn
import Derived.Shelf.Vars
import Derived.Stop.LaidErr
import Derived.SevenTiedAt
namespace Go.Proofs.YtppgkaeodaaidaaGreatDoor.consoleLines
open Go Go.Proofs Go.Proofs.YtppgkaeodaaidaaGreatDoor Go.ChangeShapes Go.WideShapes Go.ChangeAt Go.RowKit
set_option linter.unusedVariables false
theorem fGoes : false = Rows.consoleLinesRow.goesBy Tryz.prog := by kernel_rfl
end Go.Proofs.YtppgkaeodaaidaaGreatDoor.consoleLines
