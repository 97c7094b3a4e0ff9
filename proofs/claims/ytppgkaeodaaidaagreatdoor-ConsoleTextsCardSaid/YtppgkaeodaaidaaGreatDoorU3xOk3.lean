/-
 The functions of the program do as the plain functions do.
-/
import Derived.Test.YtppgkaeodaaidaaGreatDoorU3xOk2
set_option linter.unusedVariables false
set_option linter.unusedSimpArgs false
set_option linter.unusedSectionVars false
namespace Go.Proofs.YtppgkaeodaaidaaGreatDoor.Ok
open Go Go.Pw Go.Sh Go.Proofs
set_option maxRecDepth 100000
set_option maxHeartbeats 4000000
theorem w23_ConsoleTexts_ok{a0 a1}:PO Tryz.prog 4 [.str a0,r6.Pv a1] (N4 a0 a1) λr=>.bool r:=by
 refine pO Tryz.func4 λr h _ _=>?_;unfold N4 at h;refine S4 2 J<|c4<|S3 1 J<|y0 J (a7G J C2 J)<|S1 2 J<|l3 J (λhg=>oF J b2y J)<|l3 J (λhg=>oS (ct hg) J J a5y J)<|l3 J (λhg=>A6 (ct hg) J J)<|y0 J (B7 J J J (λq=>eqF q))<|S1 1 J<|s6 h λv1 hv1 h=>l3 J (λhg=>G7 J a5u J (F3 hv1 hg))<|l3 J (λhg=>Z9 (ct hg) J)<|y0 J (B7 J J J (λq=>eqF q))<|yN ?_;refine cN h (λhc h=>?_) λhc h=>?_
 ·refine sR ?_;refine cA h a5u J J λv2 _ h=>S2 1 J<|a7 ?_;cases h;exact f1
 ·refine b3 ?_;refine S3 1 J<|cA h a0R J J λv3 _ h=>S2 5 J<|S3 1 J<|cA h a8m J J λv4 _ h=>S2 5 J<|dr [] p8 (by kernel_rfl) (by kernel_rfl)<|S7 4 J<|a1w J (λhg _ hN=>mB J) J<|a1w J (λhg _ hN=>mB J) J<|a1w J (λhg _ hN=>b6W (ct hg) (ct hg) b6M J) J<|d7 J (λ_ hN=>y3 J J J (λq=>eqT q)) J<|S7 1 J<|a6i J (λhg=>oL J J J a0o P9 nl J) J<|s6 h λv5 hv5 h=>b5h J (λhg=>G7 J a2x (Z3 (ct hg) J) (F3 hv5 hg)) J<|a6i J (λhg=>oL J J J a0o P9 nl J) J<|s6 h λv6 hv6 h=>b5h J (λhg=>G7 J b0n (Z3 (ct hg) J) (F3 hv6 hg)) J<|a1w J (λhg _ hN=>R6 (ct hg) (ct hg) J) J<|d7 J (λ_ hN=>y3 J J J (λq=>eqT q)) J<|S8 1 J<|a7 ?_;cases h;exact f1

end Go.Proofs.YtppgkaeodaaidaaGreatDoor.Ok
