/-
 How the arguments of the laws are read.
-/
import Derived.Test.YtjpgbnlcefhaiaaGreatW24aPwL
import Derived.Test.YtjpgbnlcefhaiaaGreatW24aOk2
set_option linter.unusedVariables false
set_option linter.unusedSimpArgs false
set_option linter.unusedSectionVars false
namespace Go.Proofs.YtjpgbnlcefhaiaaGreat.Rd
open Go Go.Pw Go.Sh Go.Proofs
set_option maxRecDepth 100000
theorem rd3:Rdr Tryz.prog 3 (PV.int .i64) (λ(n:Int)=>(Lit.int .i64 n).wf=true):=c0V Tryz.underlying3 (by kernel_rfl)
theorem rd30:Rdr Tryz.prog 30 (Ls (PV.int .i64)) (λ(l:List Int)=>l.length≤maxLen∧∀a∈l,(λ(n:Int)=>(Lit.int .i64 n).wf=true) a):=a8f Tryz.underlying30 (by kernel_rfl) (Nat.lt_of_lt_of_eq (by decide:0<1) (by kernel_rfl)) rd3
theorem rd22:Rdr Tryz.prog 22 (Ls (Ls (PV.int .i64))) (λ(l:List (List Int))=>l.length≤maxLen∧∀a∈l,(λ(l:List Int)=>l.length≤maxLen∧∀a∈l,(λ(n:Int)=>(Lit.int .i64 n).wf=true) a) a):=a8f Tryz.underlying22 (by kernel_rfl) (Nat.lt_of_lt_of_eq (by decide:0<1) (by kernel_rfl)) rd30
theorem d1K:Rdr Tryz.prog 65 c9.Pv (λ(a:c9)=>((λ(n:Int)=>(Lit.int .i64 n).wf=true) a.Kind)∧(((λ(n:Int)=>(Lit.int .i64 n).wf=true) a.A)∧(((λ(n:Int)=>(Lit.int .i64 n).wf=true) a.B)∧(((λ(n:Int)=>(Lit.int .i64 n).wf=true) a.C)∧(True))))):=b9z (Pv:=c9.Pv) (λx=>⟨x.1,x.2.1,x.2.2.1,x.2.2.2.1⟩) Tryz.underlying65 (a8e rfl rd3 (a8e rfl rd3 (a8e rfl rd3 (a8e rfl rd3 c4o)))) (by kernel_rfl) (λ_=>rfl) (λa=>⟨(a.Kind,a.A,a.B,a.C,()),rfl⟩) (λ_ h=>⟨h.1,h.2.1,h.2.2.1,h.2.2.2.1,trivial⟩)
theorem d1J:Rdr Tryz.prog 63 (Ls c9.Pv) (λ(l:List c9)=>l.length≤maxLen∧∀a∈l,(λ(a:c9)=>((λ(n:Int)=>(Lit.int .i64 n).wf=true) a.Kind)∧(((λ(n:Int)=>(Lit.int .i64 n).wf=true) a.A)∧(((λ(n:Int)=>(Lit.int .i64 n).wf=true) a.B)∧(((λ(n:Int)=>(Lit.int .i64 n).wf=true) a.C)∧(True))))) a):=a8f Tryz.underlying63 (by kernel_rfl) (Nat.lt_of_lt_of_eq (by decide:0<4) (by kernel_rfl)) d1K
theorem rd38:Rdr Tryz.prog 38 (Ls (Ls c9.Pv)) (λ(l:List (List c9))=>l.length≤maxLen∧∀a∈l,(λ(l:List c9)=>l.length≤maxLen∧∀a∈l,(λ(a:c9)=>((λ(n:Int)=>(Lit.int .i64 n).wf=true) a.Kind)∧(((λ(n:Int)=>(Lit.int .i64 n).wf=true) a.A)∧(((λ(n:Int)=>(Lit.int .i64 n).wf=true) a.B)∧(((λ(n:Int)=>(Lit.int .i64 n).wf=true) a.C)∧(True))))) a) a):=a8f Tryz.underlying38 (by kernel_rfl) (Nat.lt_of_lt_of_eq (by decide:0<1) (by kernel_rfl)) d1J
end Go.Proofs.YtjpgbnlcefhaiaaGreat.Rd
