/- A part. -/
import Derived.Test.YtmgbbnfgfmfgaaaGreatQ22dPwL
import Derived.Test.YtmgbbnfgfmfgaaaGreatQ22dOk3
set_option linter.unusedVariables false
set_option linter.unusedSimpArgs false
set_option linter.unusedSectionVars false
namespace Go.Proofs.YtmgbbnfgfmfgaaaGreat.Rd
open Go Go.Pw Go.Sh Go.Proofs
set_option maxRecDepth 100000
theorem WV:Hy Tryz.prog 3 (PV.int .i64) (λ(n:Int)=>(Lit.int .i64 n).wf=true):=Jk Tryz.underlying3 (by kernel_rfl)
theorem WU:Hy Tryz.prog 119 g8.Pv (λ(a:g8)=>((λ(n:Int)=>(Lit.int .i64 n).wf=true) a.Kind)/\(((λ(n:Int)=>(Lit.int .i64 n).wf=true) a.A)/\(((λ(n:Int)=>(Lit.int .i64 n).wf=true) a.B)/\(((λ(n:Int)=>(Lit.int .i64 n).wf=true) a.C)/\(True))))):=He (Pv:=g8.Pv) (λx=>⟨x.1,x.2.1,x.2.2.1,x.2.2.2.1⟩) Tryz.underlying119 (pV rfl WV (pV rfl WV (pV rfl WV (pV rfl WV NX)))) (by kernel_rfl) (λ_=>rfl) (λa=>⟨(a.Kind,a.A,a.B,a.C,()),rfl⟩) (λ_ h=>⟨h.1,h.2.1,h.2.2.1,h.2.2.2.1,trivial⟩)
theorem WT:Hy Tryz.prog 117 (Ls g8.Pv) (λ(l:List g8)=>l.length<=maxLen/\∀a∈l,(λ(a:g8)=>((λ(n:Int)=>(Lit.int .i64 n).wf=true) a.Kind)/\(((λ(n:Int)=>(Lit.int .i64 n).wf=true) a.A)/\(((λ(n:Int)=>(Lit.int .i64 n).wf=true) a.B)/\(((λ(n:Int)=>(Lit.int .i64 n).wf=true) a.C)/\(True))))) a):=pW Tryz.underlying117 (by kernel_rfl) (Nat.lt_of_lt_of_eq (by decide:0<4) (by kernel_rfl)) WU
theorem rd22:Hy Tryz.prog 22 (Ls (Ls g8.Pv)) (λ(l:List (List g8))=>l.length<=maxLen/\∀a∈l,(λ(l:List g8)=>l.length<=maxLen/\∀a∈l,(λ(a:g8)=>((λ(n:Int)=>(Lit.int .i64 n).wf=true) a.Kind)/\(((λ(n:Int)=>(Lit.int .i64 n).wf=true) a.A)/\(((λ(n:Int)=>(Lit.int .i64 n).wf=true) a.B)/\(((λ(n:Int)=>(Lit.int .i64 n).wf=true) a.C)/\(True))))) a) a):=pW Tryz.underlying22 (by kernel_rfl) (Nat.lt_of_lt_of_eq (by decide:0<1) (by kernel_rfl)) WT
theorem Yh:Hy Tryz.prog 28 (Ls (PV.int .i64)) (λ(l:List Int)=>l.length<=maxLen/\∀a∈l,(λ(n:Int)=>(Lit.int .i64 n).wf=true) a):=pW Tryz.underlying28 (by kernel_rfl) (Nat.lt_of_lt_of_eq (by decide:0<1) (by kernel_rfl)) WV
theorem rd23:Hy Tryz.prog 23 (Ls (Ls (PV.int .i64))) (λ(l:List (List Int))=>l.length<=maxLen/\∀a∈l,(λ(l:List Int)=>l.length<=maxLen/\∀a∈l,(λ(n:Int)=>(Lit.int .i64 n).wf=true) a) a):=pW Tryz.underlying23 (by kernel_rfl) (Nat.lt_of_lt_of_eq (by decide:0<1) (by kernel_rfl)) Yh
end Go.Proofs.YtmgbbnfgfmfgaaaGreat.Rd
