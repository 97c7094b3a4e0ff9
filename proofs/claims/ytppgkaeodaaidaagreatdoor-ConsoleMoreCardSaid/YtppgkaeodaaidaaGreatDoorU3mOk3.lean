/- A part. -/
import Derived.Test.YtppgkaeodaaidaaGreatDoorU3mOk2
set_option linter.unusedVariables false
set_option linter.unusedSimpArgs false
set_option linter.unusedSectionVars false
namespace Go.Proofs.YtppgkaeodaaidaaGreatDoor.Ok
open Go Go.Pw Go.Sh Go.Proofs Tryz
set_option maxRecDepth 100000
set_option maxHeartbeats 4000000
theorem w23_ConsoleMore_ok{a0 a1}:PO prog 5 [.str a0,.str a1] (bN a0 a1) λr=>.bool r:=by
 refine pO func5 λr h _ _=>?_;unfold bN at h;refine S4 1 J<|l6<|S3 1 J<|y0 J (Bq J H7 J)<|S1 2 J<|r7 J (λhg=>om (d:=.str a1) J)<|r7 J (λhg=>Bq (ct hg) H7 J)<|r7 J (λhg=>H4 (ct hg) J J)<|y0 J (J2 J J J (λq=>mn q))<|S1 1 J<|A2 h λv1 hv1 h=>r7 J (λhg=>T4 J sw J (N7 hv1 hg))<|r7 J (λhg=>fH (ct hg) J)<|y0 J (J2 J J J (λq=>mn q))<|yN ?_;refine cN h (λhc h=>?_) λhc h=>?_
 .refine sR ?_;refine cA h sw J J λv2 _ h=>S2 1 J<|b9 ?_;cases h;exact f1
 .refine j5 ?_;refine S3 1 J<|cF h aY J J λv3 _ h=>S2 1 J<|S3 1 J<|A2 h λv4 hv4 h=>y0 J (jt hv4 J J H7)<|S1 1 J<|A2 h λv5 hv5 h=>y0 J (jt hv5 J J H7)<|cF h aY J J λv6 _ h=>S2 1 J<|S4 1 J ?_;refine jq h (λj29=>St.of [(5,.L PV.str v3),(6,.L PV.str v6),(7,.str j29)] []) (λj29 h=>?_) λκ28 h=>?_
  .refine S3 1 J ?_;refine nL J D5<|S1 1 J<|nL J D5<|S1 2 J<|r7 J (λhg=>om (d:=.L PV.str v3) J)<|r7 J (λhg=>om (d:=.L PV.str v6) J)<|r7 J (λhg=>om (d:=.L PV.str v3) J)<|r7 J (λhg=>mA (f:=PV.str) (ct hg) D5)<|A2 h λv30 hv26 h=>r7 J (λhg=>wE (f:=PV.str) (N7 hv26 hg) (ct hg) J ⟨_,(ct hg)⟩ D5 Q1 (λ_=>J))<|A2 h λv31 hv27 h=>r7 J (λhg=>T4 J sx (cV (ct hg) (cV (ct hg) J)) (N7 hv27 hg))<|y0 J (E7 J J J (λq=>mL q))<|S1 1 J<|r7 J (λhg=>om (d:=.L PV.str v3) J)<|r7 J (λhg=>om (d:=.str j29) J)<|A2 h λv32 hv28 h=>r7 J (λhg=>jt (N7 hv28 hg) (ct hg) J H7)<|A2 h λv33 hv29 h=>WZ J (λhg=>C0 J aY (cV (ct hg) J) (N7 hv29 hg))<|A2 h λv34 hv30 h=>r7 J (λhg=>T4 J sx (cV (ct hg) (cV (ct hg) J)) (N7 hv30 hg))<|y0 J (E7 J J J (λq=>mL q))<|S2 1 J<|b9 ?_;cases h;exact f1
  .refine S4 1 J ?_;refine n0<|lq h (λq=>St.of [(0,.str a0),(5,.L PV.str v3),(6,.L PV.str v6),(7,.str q.1),(8,.I q.2)] []) W λq39 x38 h hx33=>?_;obtain⟨s36,s37⟩:=q39;refine l6<|S3 2 J<|y0 J (Bq J H7 J)<|S2 1 J ?_;refine cN h (λhc h=>?_) λhc h=>?_
   .refine j5 ?_;refine jq h (λj48=>St.of [(0,.str a0),(5,.L PV.str v3),(6,.L PV.str v6),(7,.str j48),(8,.I s37)] []) (λj48 h=>?_) λκ47 h=>?_
    .refine S6 3 J ?_;exact eL h W
    .refine n0 ?_;refine S3 2 J<|A2 h λv49 hv42 h=>y0 J (RJ hv42 J J H7)<|S1 2 J<|r7 J (λhg=>om (d:=.str a0) J)<|r7 J (λhg=>mI J)<|r7 J (λhg=>RJ hv42 (ct hg) (ct hg) H7)<|r7 J (λhg=>H4 (ct hg) J J)<|y0 J (J2 J J J (λq=>mn q))<|yN ?_;refine cN h (λhc h=>?_) λhc h=>?_
     .refine S5 1 J ?_;obtain⟨v50,hv43,h⟩:=C4 h;refine y0 J (jt hv43 J J H7)<|S1 4 J<|A2 h λv51 hv44 h=>y0 J (Fo hv44 J ⟨_,J⟩ ⟨_,J⟩ H7)<|A2 h λv52 hv45 h=>y0 J (jt hv45 J J H7)<|A2 h λv53 hv46 h=>y0 J (jt hv46 J J H7)<|S2 1 J ?_;exact eJ h W
     .refine S5 5 J ?_;obtain⟨v54,hv47,h⟩:=C4 h;refine y0 J (Fo hv47 J ⟨_,J⟩ ⟨_,J⟩ H7)<|A2 h λv55 hv48 h=>y0 J (jt hv48 J J H7)<|S2 1 J ?_;exact eJ h W
   .refine y3 ?_;refine l5<|l5<|r8 ?_;have h:=xL hx33 h;exact eJ h W
end Go.Proofs.YtppgkaeodaaidaaGreatDoor.Ok
