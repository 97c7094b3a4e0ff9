/-
  Closed facts.
-/
import Derived.Test.YtppgkaeodaaidaaGreatDoorRows
import Derived.Test.YtppgkaeodaaidaaGreatDoorCards
import Derived.Test.YtppgkaeodaaidaaGreatDoorTie
import Derived.OpenShut
import Derived.Lib.Hide
import Derived.WalkKit
import Derived.ProofKit
import Derived.ShutString
import Derived.ChangeOld
import Derived.Below
import Derived.Deep.DeepHandedRow
import Derived.Deep.DeepWitnessRowRef
import Derived.Lib.LaidIn
import Derived.Shelf.Vars
import Derived.Stop.LaidErr
import Derived.SevenTiedAt
namespace Go.Proofs.YtppgkaeodaaidaaGreatDoor.consoleLines
open Go Go.Proofs Go.Proofs.YtppgkaeodaaidaaGreatDoor Go.ChangeShapes Go.WideShapes Go.ChangeAt Go.RowKit
set_option linter.unusedVariables false
theorem laidOut : laidOutB Tryz.prog = true := by kernel_rfl
theorem enters : Tryz.prog.mayEnter = true := by kernel_rfl
theorem lifts : (Rows.consoleLinesRow.lifted == Tryz.prog.liftsFinal) = true := by kernel_rfl
theorem makes : (Tryz.prog.make == some Rows.consoleLinesRow.make) = true := by kernel_rfl
theorem place : (Rows.consoleLinesRow.inPlace == Tryz.prog.inPlace 3) = true := by kernel_rfl
theorem unfol : (Rows.consoleLinesRow.unfollowed == Tryz.prog.unfollowed 3) = true := by kernel_rfl
theorem recur : (Rows.consoleLinesRow.recurses == Tryz.prog.recurses 3) = true := by kernel_rfl
theorem names : (Rows.consoleLinesRow.named == Tryz.prog.varsNamed 3) = true := by kernel_rfl
theorem rowed : mapsRowed Tryz.prog = true := by kernel_rfl
theorem stops : (Tryz.prog.stops == []) = true := by kernel_rfl
theorem knobs : (Tryz.prog.stopKnobs == []) = true := by kernel_rfl
theorem closed : joinedFacts Tryz.prog 3 Tryz.f3 Rows.consoleLinesSpec Rows.consoleLinesRow = true := by
  unfold joinedFacts
  rw [laidOut, enters, lifts, makes, place, unfol, recur, names, rowed, stops, knobs]
  kernel_rfl
end Go.Proofs.YtppgkaeodaaidaaGreatDoor.consoleLines
