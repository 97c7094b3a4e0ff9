/- A part. -/
import Derived.Test.YtppgkaeodaaidaaGreatDoorU3rPwL
import Derived.Test.YtppgkaeodaaidaaGreatDoorU3rOk3
set_option linter.unusedVariables false
set_option linter.unusedSimpArgs false
set_option linter.unusedSectionVars false
namespace Go.Proofs.YtppgkaeodaaidaaGreatDoor.Rd
open Go Go.Pw Go.Sh Go.Proofs Tryz
set_option maxRecDepth 100000
theorem YI:Od prog 3 (PV.int .i64) (λ(n:Int)=>(Lit.int .i64 n).wf=true):=HP underlying3 (by kernel_rfl)
theorem Yt:Od prog 43 (Ls (PV.int .i64)) (λ(l:List Int)=>l.length<=maxLen/\∀a∈l,(λ(n:Int)=>(Lit.int .i64 n).wf=true) a):=Aa underlying43 (by kernel_rfl) (Nat.lt_of_lt_of_eq (by decide:0<1) (by kernel_rfl)) YI
theorem rd37:Od prog 37 (Ls (Ls (PV.int .i64))) (λ(l:List (List Int))=>l.length<=maxLen/\∀a∈l,(λ(l:List Int)=>l.length<=maxLen/\∀a∈l,(λ(n:Int)=>(Lit.int .i64 n).wf=true) a) a):=Aa underlying37 (by kernel_rfl) (Nat.lt_of_lt_of_eq (by decide:0<1) (by kernel_rfl)) Yt
end Go.Proofs.YtppgkaeodaaidaaGreatDoor.Rd
