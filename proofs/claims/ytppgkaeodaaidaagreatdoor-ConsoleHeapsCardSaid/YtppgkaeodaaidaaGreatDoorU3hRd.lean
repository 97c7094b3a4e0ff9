/- A part. -/
import Derived.Test.YtppgkaeodaaidaaGreatDoorU3hPwL
import Derived.Test.YtppgkaeodaaidaaGreatDoorU3hOk2
set_option linter.unusedVariables false
set_option linter.unusedSimpArgs false
set_option linter.unusedSectionVars false
namespace Go.Proofs.YtppgkaeodaaidaaGreatDoor.Rd
open Go Go.Pw Go.Sh Go.Proofs
set_option maxRecDepth 100000
end Go.Proofs.YtppgkaeodaaidaaGreatDoor.Rd
