/- A part. -/
import Derived.Test.YtbdapcapkocckaaGreatQ22rPwL
import Derived.Test.YtbdapcapkocckaaGreatQ22rOk4
set_option linter.unusedVariables false
set_option linter.unusedSimpArgs false
set_option linter.unusedSectionVars false
namespace Go.Proofs.YtbdapcapkocckaaGreat.Rd
open Go Go.Pw Go.Sh Go.Proofs
set_option maxRecDepth 100000
theorem rd3:LK Tryz.prog 3 (PV.int .i64) (λ(n:Int)=>(Lit.int .i64 n).wf=true):=Nt Tryz.underlying3 Φ
theorem a2k:LK Tryz.prog 65 k8.Pv (λ(a:k8)=>((λ(n:Int)=>(Lit.int .i64 n).wf=true) a.Kind)/\(((λ(n:Int)=>(Lit.int .i64 n).wf=true) a.A)/\(((λ(n:Int)=>(Lit.int .i64 n).wf=true) a.B)/\(((λ(n:Int)=>(Lit.int .i64 n).wf=true) a.C)/\(True))))):=Lm (Pv:=k8.Pv) (λx=>⟨x.1,x.2.1,x.2.2.1,x.2.2.2.1⟩) Tryz.underlying65 (sw rfl rd3 (sw rfl rd3 (sw rfl rd3 (sw rfl rd3 SS)))) Φ (λ_=>rfl) (λa=>⟨(a.Kind,a.A,a.B,a.C,()),rfl⟩) (λ_ h=>⟨h.1,h.2.1,h.2.2.1,h.2.2.2.1,trivial⟩)
theorem a2j:LK Tryz.prog 63 (Ls k8.Pv) (λ(l:List k8)=>l.length<=maxLen/\∀a∈l,(λ(a:k8)=>((λ(n:Int)=>(Lit.int .i64 n).wf=true) a.Kind)/\(((λ(n:Int)=>(Lit.int .i64 n).wf=true) a.A)/\(((λ(n:Int)=>(Lit.int .i64 n).wf=true) a.B)/\(((λ(n:Int)=>(Lit.int .i64 n).wf=true) a.C)/\(True))))) a):=sx Tryz.underlying63 Φ (Nat.lt_of_lt_of_eq (by decide:0<4) Φ) a2k
theorem rd22:LK Tryz.prog 22 (Ls (Ls k8.Pv)) (λ(l:List (List k8))=>l.length<=maxLen/\∀a∈l,(λ(l:List k8)=>l.length<=maxLen/\∀a∈l,(λ(a:k8)=>((λ(n:Int)=>(Lit.int .i64 n).wf=true) a.Kind)/\(((λ(n:Int)=>(Lit.int .i64 n).wf=true) a.A)/\(((λ(n:Int)=>(Lit.int .i64 n).wf=true) a.B)/\(((λ(n:Int)=>(Lit.int .i64 n).wf=true) a.C)/\(True))))) a) a):=sx Tryz.underlying22 Φ (Nat.lt_of_lt_of_eq (by decide:0<1) Φ) a2j
theorem a2i:LK Tryz.prog 28 (Ls (PV.int .i64)) (λ(l:List Int)=>l.length<=maxLen/\∀a∈l,(λ(n:Int)=>(Lit.int .i64 n).wf=true) a):=sx Tryz.underlying28 Φ (Nat.lt_of_lt_of_eq (by decide:0<1) Φ) rd3
theorem rd23:LK Tryz.prog 23 (Ls (Ls (PV.int .i64))) (λ(l:List (List Int))=>l.length<=maxLen/\∀a∈l,(λ(l:List Int)=>l.length<=maxLen/\∀a∈l,(λ(n:Int)=>(Lit.int .i64 n).wf=true) a) a):=sx Tryz.underlying23 Φ (Nat.lt_of_lt_of_eq (by decide:0<1) Φ) a2i
end Go.Proofs.YtbdapcapkocckaaGreat.Rd
