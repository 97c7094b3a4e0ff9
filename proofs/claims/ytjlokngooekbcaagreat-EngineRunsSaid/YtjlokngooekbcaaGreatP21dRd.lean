/-
 How the arguments of the laws are read.
-/
import Derived.Test.YtjlokngooekbcaaGreatP21dPwL
import Derived.Test.YtjlokngooekbcaaGreatP21dOk4
set_option linter.unusedVariables false
set_option linter.unusedSimpArgs false
set_option linter.unusedSectionVars false
namespace Go.Proofs.YtjlokngooekbcaaGreat.Rd
open Go Go.Pw Go.Sh Go.Proofs
set_option maxRecDepth 100000
theorem rd3:Rdr Tryz.prog 3 (PV.int .i64) (λ(n:Int)=>(Lit.int .i64 n).wf=true):=c4D Tryz.underlying3 (by kernel_rfl)
theorem d6i:Rdr Tryz.prog 110 g8.Pv (λ(a:g8)=>((λ(n:Int)=>(Lit.int .i64 n).wf=true) a.Kind)∧(((λ(n:Int)=>(Lit.int .i64 n).wf=true) a.A)∧(((λ(n:Int)=>(Lit.int .i64 n).wf=true) a.B)∧(((λ(n:Int)=>(Lit.int .i64 n).wf=true) a.C)∧(True))))):=T1 (Pv:=g8.Pv) (λx=>⟨x.1,x.2.1,x.2.2.1,x.2.2.2.1⟩) Tryz.underlying110 (z8 rfl rd3 (z8 rfl rd3 (z8 rfl rd3 (z8 rfl rd3 a1k)))) (by kernel_rfl) (λ_=>rfl) (λa=>⟨(a.Kind,a.A,a.B,a.C,()),rfl⟩) (λ_ h=>⟨h.1,h.2.1,h.2.2.1,h.2.2.2.1,trivial⟩)
theorem d6h:Rdr Tryz.prog 109 (Ls g8.Pv) (λ(l:List g8)=>l.length≤maxLen∧∀a∈l,(λ(a:g8)=>((λ(n:Int)=>(Lit.int .i64 n).wf=true) a.Kind)∧(((λ(n:Int)=>(Lit.int .i64 n).wf=true) a.A)∧(((λ(n:Int)=>(Lit.int .i64 n).wf=true) a.B)∧(((λ(n:Int)=>(Lit.int .i64 n).wf=true) a.C)∧(True))))) a):=a1P Tryz.underlying109 (by kernel_rfl) (Nat.lt_of_lt_of_eq (by decide:0<4) (by kernel_rfl)) d6i
theorem rd22:Rdr Tryz.prog 22 (Ls (Ls g8.Pv)) (λ(l:List (List g8))=>l.length≤maxLen∧∀a∈l,(λ(l:List g8)=>l.length≤maxLen∧∀a∈l,(λ(a:g8)=>((λ(n:Int)=>(Lit.int .i64 n).wf=true) a.Kind)∧(((λ(n:Int)=>(Lit.int .i64 n).wf=true) a.A)∧(((λ(n:Int)=>(Lit.int .i64 n).wf=true) a.B)∧(((λ(n:Int)=>(Lit.int .i64 n).wf=true) a.C)∧(True))))) a) a):=a1P Tryz.underlying22 (by kernel_rfl) (Nat.lt_of_lt_of_eq (by decide:0<1) (by kernel_rfl)) d6h
theorem d4o:Rdr Tryz.prog 30 (Ls (PV.int .i64)) (λ(l:List Int)=>l.length≤maxLen∧∀a∈l,(λ(n:Int)=>(Lit.int .i64 n).wf=true) a):=a1P Tryz.underlying30 (by kernel_rfl) (Nat.lt_of_lt_of_eq (by decide:0<1) (by kernel_rfl)) rd3
theorem rd82:Rdr Tryz.prog 82 (Ls (Ls (PV.int .i64))) (λ(l:List (List Int))=>l.length≤maxLen∧∀a∈l,(λ(l:List Int)=>l.length≤maxLen∧∀a∈l,(λ(n:Int)=>(Lit.int .i64 n).wf=true) a) a):=a1P Tryz.underlying82 (by kernel_rfl) (Nat.lt_of_lt_of_eq (by decide:0<1) (by kernel_rfl)) d4o
end Go.Proofs.YtjlokngooekbcaaGreat.Rd
