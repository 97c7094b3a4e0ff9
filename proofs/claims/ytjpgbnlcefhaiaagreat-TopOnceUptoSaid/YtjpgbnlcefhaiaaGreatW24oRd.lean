/-
 How the arguments of the laws are read.
-/
import Derived.Test.YtjpgbnlcefhaiaaGreatW24oPwL
import Derived.Test.YtjpgbnlcefhaiaaGreatW24oOk2
set_option linter.unusedVariables false
set_option linter.unusedSimpArgs false
set_option linter.unusedSectionVars false
namespace Go.Proofs.YtjpgbnlcefhaiaaGreat.Rd
open Go Go.Pw Go.Sh Go.Proofs
set_option maxRecDepth 100000
theorem rd3:Rdr Tryz.prog 3 (PV.int .i64) (λ(n:Int)=>(Lit.int .i64 n).wf=true):=c04 Tryz.underlying3 (by kernel_rfl)
theorem d2n:Rdr Tryz.prog 65 c5.Pv (λ(a:c5)=>((λ(n:Int)=>(Lit.int .i64 n).wf=true) a.Kind)∧(((λ(n:Int)=>(Lit.int .i64 n).wf=true) a.A)∧(((λ(n:Int)=>(Lit.int .i64 n).wf=true) a.B)∧(((λ(n:Int)=>(Lit.int .i64 n).wf=true) a.C)∧(True))))):=b9G (Pv:=c5.Pv) (λx=>⟨x.1,x.2.1,x.2.2.1,x.2.2.2.1⟩) Tryz.underlying65 (a8m rfl rd3 (a8m rfl rd3 (a8m rfl rd3 (a8m rfl rd3 c4C)))) (by kernel_rfl) (λ_=>rfl) (λa=>⟨(a.Kind,a.A,a.B,a.C,()),rfl⟩) (λ_ h=>⟨h.1,h.2.1,h.2.2.1,h.2.2.2.1,trivial⟩)
theorem rd63:Rdr Tryz.prog 63 (Ls c5.Pv) (λ(l:List c5)=>l.length≤maxLen∧∀a∈l,(λ(a:c5)=>((λ(n:Int)=>(Lit.int .i64 n).wf=true) a.Kind)∧(((λ(n:Int)=>(Lit.int .i64 n).wf=true) a.A)∧(((λ(n:Int)=>(Lit.int .i64 n).wf=true) a.B)∧(((λ(n:Int)=>(Lit.int .i64 n).wf=true) a.C)∧(True))))) a):=a8n Tryz.underlying63 (by kernel_rfl) (Nat.lt_of_lt_of_eq (by decide:0<4) (by kernel_rfl)) d2n
end Go.Proofs.YtjpgbnlcefhaiaaGreat.Rd
