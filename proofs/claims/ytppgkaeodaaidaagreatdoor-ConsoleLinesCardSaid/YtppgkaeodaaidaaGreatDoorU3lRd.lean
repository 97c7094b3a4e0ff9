/- A part. -/
import Derived.Test.YtppgkaeodaaidaaGreatDoorU3lPwL
import Derived.Test.YtppgkaeodaaidaaGreatDoorU3lOk4
set_option linter.unusedVariables false
set_option linter.unusedSimpArgs false
set_option linter.unusedSectionVars false
namespace Go.Proofs.YtppgkaeodaaidaaGreatDoor.Rd
open Go Go.Pw Go.Sh Go.Proofs
set_option maxRecDepth 100000
end Go.Proofs.YtppgkaeodaaidaaGreatDoor.Rd
