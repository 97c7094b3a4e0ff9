/- A part. -/
import Derived.Test.YtmgbbnfgfmfgaaaGreatQ22ePwL
import Derived.Test.YtmgbbnfgfmfgaaaGreatQ22eOk3
set_option linter.unusedVariables false
set_option linter.unusedSimpArgs false
set_option linter.unusedSectionVars false
namespace Go.Proofs.YtmgbbnfgfmfgaaaGreat.Rd
open Go Go.Pw Go.Sh Go.Proofs
set_option maxRecDepth 100000
theorem WQ:Ht Tryz.prog 3 (PV.int .i64) (λ(n:Int)=>(Lit.int .i64 n).wf=true):=Jc Tryz.underlying3 (by kernel_rfl)
theorem WO:Ht Tryz.prog 119 j5.Pv (λ(a:j5)=>((λ(n:Int)=>(Lit.int .i64 n).wf=true) a.Kind)/\(((λ(n:Int)=>(Lit.int .i64 n).wf=true) a.A)/\(((λ(n:Int)=>(Lit.int .i64 n).wf=true) a.B)/\(((λ(n:Int)=>(Lit.int .i64 n).wf=true) a.C)/\(True))))):=GY (Pv:=j5.Pv) (λx=>⟨x.1,x.2.1,x.2.2.1,x.2.2.2.1⟩) Tryz.underlying119 (qc rfl WQ (qc rfl WQ (qc rfl WQ (qc rfl WQ NM)))) (by kernel_rfl) (λ_=>rfl) (λa=>⟨(a.Kind,a.A,a.B,a.C,()),rfl⟩) (λ_ h=>⟨h.1,h.2.1,h.2.2.1,h.2.2.2.1,trivial⟩)
theorem WN:Ht Tryz.prog 117 (Ls j5.Pv) (λ(l:List j5)=>l.length<=maxLen/\∀a∈l,(λ(a:j5)=>((λ(n:Int)=>(Lit.int .i64 n).wf=true) a.Kind)/\(((λ(n:Int)=>(Lit.int .i64 n).wf=true) a.A)/\(((λ(n:Int)=>(Lit.int .i64 n).wf=true) a.B)/\(((λ(n:Int)=>(Lit.int .i64 n).wf=true) a.C)/\(True))))) a):=qd Tryz.underlying117 (by kernel_rfl) (Nat.lt_of_lt_of_eq (by decide:0<4) (by kernel_rfl)) WO
theorem rd22:Ht Tryz.prog 22 (Ls (Ls j5.Pv)) (λ(l:List (List j5))=>l.length<=maxLen/\∀a∈l,(λ(l:List j5)=>l.length<=maxLen/\∀a∈l,(λ(a:j5)=>((λ(n:Int)=>(Lit.int .i64 n).wf=true) a.Kind)/\(((λ(n:Int)=>(Lit.int .i64 n).wf=true) a.A)/\(((λ(n:Int)=>(Lit.int .i64 n).wf=true) a.B)/\(((λ(n:Int)=>(Lit.int .i64 n).wf=true) a.C)/\(True))))) a) a):=qd Tryz.underlying22 (by kernel_rfl) (Nat.lt_of_lt_of_eq (by decide:0<1) (by kernel_rfl)) WN
theorem XZ:Ht Tryz.prog 28 (Ls (PV.int .i64)) (λ(l:List Int)=>l.length<=maxLen/\∀a∈l,(λ(n:Int)=>(Lit.int .i64 n).wf=true) a):=qd Tryz.underlying28 (by kernel_rfl) (Nat.lt_of_lt_of_eq (by decide:0<1) (by kernel_rfl)) WQ
theorem rd23:Ht Tryz.prog 23 (Ls (Ls (PV.int .i64))) (λ(l:List (List Int))=>l.length<=maxLen/\∀a∈l,(λ(l:List Int)=>l.length<=maxLen/\∀a∈l,(λ(n:Int)=>(Lit.int .i64 n).wf=true) a) a):=qd Tryz.underlying23 (by kernel_rfl) (Nat.lt_of_lt_of_eq (by decide:0<1) (by kernel_rfl)) XZ
end Go.Proofs.YtmgbbnfgfmfgaaaGreat.Rd
