/-
 How the arguments of the laws are read.
-/
import Derived.Test.YtjpgbnlcefhaiaaGreatW24wPwL
import Derived.Test.YtjpgbnlcefhaiaaGreatW24wOk2
set_option linter.unusedVariables false
set_option linter.unusedSimpArgs false
set_option linter.unusedSectionVars false
namespace Go.Proofs.YtjpgbnlcefhaiaaGreat.Rd
open Go Go.Pw Go.Sh Go.Proofs
set_option maxRecDepth 100000
end Go.Proofs.YtjpgbnlcefhaiaaGreat.Rd
