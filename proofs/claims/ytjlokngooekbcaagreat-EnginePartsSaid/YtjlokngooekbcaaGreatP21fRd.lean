/- A part. -/
import Derived.Test.YtjlokngooekbcaaGreatP21fPwL
import Derived.Test.YtjlokngooekbcaaGreatP21fOk3
set_option linter.unusedVariables false
set_option linter.unusedSimpArgs false
set_option linter.unusedSectionVars false
namespace Go.Proofs.YtjlokngooekbcaaGreat.Rd
open Go Go.Pw Go.Sh Go.Proofs
set_option maxRecDepth 100000
theorem xf:pM Tryz.prog 3 (PV.int .i64) (λ(n:Int)=>(Lit.int .i64 n).wf=true):=HI Tryz.underlying3 (by kernel_rfl)
theorem VG:pM Tryz.prog 110 c9.Pv (λ(a:c9)=>((λ(n:Int)=>(Lit.int .i64 n).wf=true) a.Kind)/\(((λ(n:Int)=>(Lit.int .i64 n).wf=true) a.A)/\(((λ(n:Int)=>(Lit.int .i64 n).wf=true) a.B)/\(((λ(n:Int)=>(Lit.int .i64 n).wf=true) a.C)/\(True))))):=Q3 (Pv:=c9.Pv) (λx=>⟨x.1,x.2.1,x.2.2.1,x.2.2.2.1⟩) Tryz.underlying110 (x8 rfl xf (x8 rfl xf (x8 rfl xf (x8 rfl xf aX)))) (by kernel_rfl) (λ_=>rfl) (λa=>⟨(a.Kind,a.A,a.B,a.C,()),rfl⟩) (λ_ h=>⟨h.1,h.2.1,h.2.2.1,h.2.2.2.1,trivial⟩)
theorem VF:pM Tryz.prog 109 (Ls c9.Pv) (λ(l:List c9)=>l.length<=maxLen/\∀a∈l,(λ(a:c9)=>((λ(n:Int)=>(Lit.int .i64 n).wf=true) a.Kind)/\(((λ(n:Int)=>(Lit.int .i64 n).wf=true) a.A)/\(((λ(n:Int)=>(Lit.int .i64 n).wf=true) a.B)/\(((λ(n:Int)=>(Lit.int .i64 n).wf=true) a.C)/\(True))))) a):=bN Tryz.underlying109 (by kernel_rfl) (Nat.lt_of_lt_of_eq (by decide:0<4) (by kernel_rfl)) VG
theorem rd22:pM Tryz.prog 22 (Ls (Ls c9.Pv)) (λ(l:List (List c9))=>l.length<=maxLen/\∀a∈l,(λ(l:List c9)=>l.length<=maxLen/\∀a∈l,(λ(a:c9)=>((λ(n:Int)=>(Lit.int .i64 n).wf=true) a.Kind)/\(((λ(n:Int)=>(Lit.int .i64 n).wf=true) a.A)/\(((λ(n:Int)=>(Lit.int .i64 n).wf=true) a.B)/\(((λ(n:Int)=>(Lit.int .i64 n).wf=true) a.C)/\(True))))) a) a):=bN Tryz.underlying22 (by kernel_rfl) (Nat.lt_of_lt_of_eq (by decide:0<1) (by kernel_rfl)) VF
theorem TL:pM Tryz.prog 30 (Ls (PV.int .i64)) (λ(l:List Int)=>l.length<=maxLen/\∀a∈l,(λ(n:Int)=>(Lit.int .i64 n).wf=true) a):=bN Tryz.underlying30 (by kernel_rfl) (Nat.lt_of_lt_of_eq (by decide:0<1) (by kernel_rfl)) xf
theorem rd82:pM Tryz.prog 82 (Ls (Ls (PV.int .i64))) (λ(l:List (List Int))=>l.length<=maxLen/\∀a∈l,(λ(l:List Int)=>l.length<=maxLen/\∀a∈l,(λ(n:Int)=>(Lit.int .i64 n).wf=true) a) a):=bN Tryz.underlying82 (by kernel_rfl) (Nat.lt_of_lt_of_eq (by decide:0<1) (by kernel_rfl)) TL
end Go.Proofs.YtjlokngooekbcaaGreat.Rd
