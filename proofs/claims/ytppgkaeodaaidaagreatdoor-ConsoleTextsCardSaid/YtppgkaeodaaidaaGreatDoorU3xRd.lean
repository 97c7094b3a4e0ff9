/-
 How the arguments of the laws are read.
-/
import Derived.Test.YtppgkaeodaaidaaGreatDoorU3xPwL
import Derived.Test.YtppgkaeodaaidaaGreatDoorU3xOk3
set_option linter.unusedVariables false
set_option linter.unusedSimpArgs false
set_option linter.unusedSectionVars false
namespace Go.Proofs.YtppgkaeodaaidaaGreatDoor.Rd
open Go Go.Pw Go.Sh Go.Proofs
set_option maxRecDepth 100000
theorem b7F:Rdr Tryz.prog 27 (PV.int .i64) (λ(n:Int)=>(Lit.int .i64 n).wf=true):=b1P Tryz.underlying27 (by kernel_rfl)
theorem rd3:Rdr Tryz.prog 3 (PV.int .i64) (λ(n:Int)=>(Lit.int .i64 n).wf=true):=b1P Tryz.underlying3 (by kernel_rfl)
theorem rd29:Rdr Tryz.prog 29 r6.Pv (λ(a:r6)=>((λ(n:Int)=>(Lit.int .i64 n).wf=true) a.V)∧(((λ(n:Int)=>(Lit.int .i64 n).wf=true) a.E)∧(True))):=b05 (Pv:=r6.Pv) (λx=>⟨x.1,x.2.1⟩) Tryz.underlying29 (a8T rfl rd3 (a8T rfl b7F b3v)) (by kernel_rfl) (λ_=>rfl) (λa=>⟨(a.V,a.E,()),rfl⟩) (λ_ h=>⟨h.1,h.2.1,trivial⟩)
end Go.Proofs.YtppgkaeodaaidaaGreatDoor.Rd
