/- A part. -/
import Derived.Test.YtmgbbnfgfmfgaaaGreatQ22bPwL
import Derived.Test.YtmgbbnfgfmfgaaaGreatQ22bOk3
set_option linter.unusedVariables false
set_option linter.unusedSimpArgs false
set_option linter.unusedSectionVars false
namespace Go.Proofs.YtmgbbnfgfmfgaaaGreat.Rd
open Go Go.Pw Go.Sh Go.Proofs
set_option maxRecDepth 100000
theorem Yr:Iy Tryz.prog 3 (PV.int .i64) (λ(n:Int)=>(Lit.int .i64 n).wf=true):=Ke Tryz.underlying3 (by kernel_rfl)
theorem Yq:Iy Tryz.prog 119 g7.Pv (λ(a:g7)=>((λ(n:Int)=>(Lit.int .i64 n).wf=true) a.Kind)/\(((λ(n:Int)=>(Lit.int .i64 n).wf=true) a.A)/\(((λ(n:Int)=>(Lit.int .i64 n).wf=true) a.B)/\(((λ(n:Int)=>(Lit.int .i64 n).wf=true) a.C)/\(True))))):=HX (Pv:=g7.Pv) (λx=>⟨x.1,x.2.1,x.2.2.1,x.2.2.2.1⟩) Tryz.underlying119 (qD rfl Yr (qD rfl Yr (qD rfl Yr (qD rfl Yr Pe)))) (by kernel_rfl) (λ_=>rfl) (λa=>⟨(a.Kind,a.A,a.B,a.C,()),rfl⟩) (λ_ h=>⟨h.1,h.2.1,h.2.2.1,h.2.2.2.1,trivial⟩)
theorem Yp:Iy Tryz.prog 117 (Ls g7.Pv) (λ(l:List g7)=>l.length<=maxLen/\∀a∈l,(λ(a:g7)=>((λ(n:Int)=>(Lit.int .i64 n).wf=true) a.Kind)/\(((λ(n:Int)=>(Lit.int .i64 n).wf=true) a.A)/\(((λ(n:Int)=>(Lit.int .i64 n).wf=true) a.B)/\(((λ(n:Int)=>(Lit.int .i64 n).wf=true) a.C)/\(True))))) a):=qE Tryz.underlying117 (by kernel_rfl) (Nat.lt_of_lt_of_eq (by decide:0<4) (by kernel_rfl)) Yq
theorem rd22:Iy Tryz.prog 22 (Ls (Ls g7.Pv)) (λ(l:List (List g7))=>l.length<=maxLen/\∀a∈l,(λ(l:List g7)=>l.length<=maxLen/\∀a∈l,(λ(a:g7)=>((λ(n:Int)=>(Lit.int .i64 n).wf=true) a.Kind)/\(((λ(n:Int)=>(Lit.int .i64 n).wf=true) a.A)/\(((λ(n:Int)=>(Lit.int .i64 n).wf=true) a.B)/\(((λ(n:Int)=>(Lit.int .i64 n).wf=true) a.C)/\(True))))) a) a):=qE Tryz.underlying22 (by kernel_rfl) (Nat.lt_of_lt_of_eq (by decide:0<1) (by kernel_rfl)) Yp
theorem ZE:Iy Tryz.prog 28 (Ls (PV.int .i64)) (λ(l:List Int)=>l.length<=maxLen/\∀a∈l,(λ(n:Int)=>(Lit.int .i64 n).wf=true) a):=qE Tryz.underlying28 (by kernel_rfl) (Nat.lt_of_lt_of_eq (by decide:0<1) (by kernel_rfl)) Yr
theorem rd23:Iy Tryz.prog 23 (Ls (Ls (PV.int .i64))) (λ(l:List (List Int))=>l.length<=maxLen/\∀a∈l,(λ(l:List Int)=>l.length<=maxLen/\∀a∈l,(λ(n:Int)=>(Lit.int .i64 n).wf=true) a) a):=qE Tryz.underlying23 (by kernel_rfl) (Nat.lt_of_lt_of_eq (by decide:0<1) (by kernel_rfl)) ZE
end Go.Proofs.YtmgbbnfgfmfgaaaGreat.Rd
