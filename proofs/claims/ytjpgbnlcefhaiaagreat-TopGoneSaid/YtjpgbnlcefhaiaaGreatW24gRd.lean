/-
 How the arguments of the laws are read.
-/
import Derived.Test.YtjpgbnlcefhaiaaGreatW24gPwL
import Derived.Test.YtjpgbnlcefhaiaaGreatW24gOk2
set_option linter.unusedVariables false
set_option linter.unusedSimpArgs false
set_option linter.unusedSectionVars false
namespace Go.Proofs.YtjpgbnlcefhaiaaGreat.Rd
open Go Go.Pw Go.Sh Go.Proofs
set_option maxRecDepth 100000
theorem rd3:Rdr Tryz.prog 3 (PV.int .i64) (λ(n:Int)=>(Lit.int .i64 n).wf=true):=c05 Tryz.underlying3 (by kernel_rfl)
theorem d2p:Rdr Tryz.prog 30 (Ls (PV.int .i64)) (λ(l:List Int)=>l.length≤maxLen∧∀a∈l,(λ(n:Int)=>(Lit.int .i64 n).wf=true) a):=a78 Tryz.underlying30 (by kernel_rfl) (Nat.lt_of_lt_of_eq (by decide:0<1) (by kernel_rfl)) rd3
theorem rd22:Rdr Tryz.prog 22 (Ls (Ls (PV.int .i64))) (λ(l:List (List Int))=>l.length≤maxLen∧∀a∈l,(λ(l:List Int)=>l.length≤maxLen∧∀a∈l,(λ(n:Int)=>(Lit.int .i64 n).wf=true) a) a):=a78 Tryz.underlying22 (by kernel_rfl) (Nat.lt_of_lt_of_eq (by decide:0<1) (by kernel_rfl)) d2p
end Go.Proofs.YtjpgbnlcefhaiaaGreat.Rd
