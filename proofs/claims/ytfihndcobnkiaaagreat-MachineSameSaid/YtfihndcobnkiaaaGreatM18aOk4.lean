/-
 The functions of the program do as the plain functions do.
-/
import Derived.Test.YtfihndcobnkiaaaGreatM18aOk3
set_option linter.unusedVariables false
set_option linter.unusedSimpArgs false
set_option linter.unusedSectionVars false
namespace Go.Proofs.YtfihndcobnkiaaaGreat.Ok
open Go Go.Pw Go.Sh Go.Proofs
set_option maxRecDepth 100000
set_option maxHeartbeats 4000000
theorem b7A{a0 a1}:PO Tryz.prog 55 [.L g8.Pv a0,.L g8.Pv a1] (a9T a0 a1) λr=>.bool r:=by
 refine pO Tryz.func55 λr h _ _=>?_
 refine S4 1 J<|b9<|S3 1 J<|nL J Ty.e45<|S1 1 J<|nL J Ty.e45<|S2 1 J ?_
 refine cN h (λhc h=>?_) λhc h=>?_
 ·refine S4 1 J ?_
  refine a7 ?_
  cases h
  exact f1
 ·refine a8 ?_
  refine jq h (λ_=>St.of [] []) (λq7 h=>?_) λκ6 h=>?_
  ·refine S4 1 J ?_
   refine a7 ?_
   cases h
   exact f1
  ·refine S4 1 J ?_
   refine c7<|lq h (λs9=>St.of [(0,.L g8.Pv a0),(1,.L g8.Pv a1),(5,.I s9)] []) W λs9 x10 h hx9=>b9<|S3 2 J<|nL J Ty.e45<|S2 1 J ?_
   refine cN h (λhc h=>?_) λhc h=>?_
   ·refine a8 ?_
    refine b9<|c7<|dr [] Ty.N3 (by kernel_rfl) (by kernel_rfl)<|S7 2 J<|n9 h λv11 hv10 h=>d0 J (p7 (f:=g8.Pv) (cs:=g8.Pc v11) hv10 J J Ty.e45 Ty.a4R J J) J<|S7 3 J<|n9 h λv12 hv11 h=>d0 J (p7 (f:=g8.Pv) (cs:=g8.Pc v12) hv11 J J Ty.e45 Ty.a4R J J) J<|S7 1 J<|d7 J (λ_ hN=>c2T (xs:=g8.Pc v11) (ys:=g8.Pc v12) Ty.d0s J J J J) J<|L5 ?_
    refine cN h (λhc h=>?_) λhc h=>?_
    ·refine S4 1 J ?_
     refine a7 ?_
     have h:=xL hx9 h
     cases h
     exact f1
    ·refine a8 ?_
     refine S6 3 J ?_
     exact eL h W
   ·refine j8 ?_
    refine b7<|b7<|c8 ?_
    have h:=xL hx9 h
    exact eJ h W

theorem b7C{a0 a1}:PO Tryz.prog 56 [.L g5.Pv a0,.L g5.Pv a1] (a9W a0 a1) λr=>.bool r:=by
 refine pO Tryz.func56 λr h _ _=>?_
 refine S4 1 J<|b9<|S3 1 J<|nL J Ty.e46<|S1 1 J<|nL J Ty.e46<|S2 1 J ?_
 refine cN h (λhc h=>?_) λhc h=>?_
 ·refine S4 1 J ?_
  refine a7 ?_
  cases h
  exact f1
 ·refine a8 ?_
  refine jq h (λ_=>St.of [] []) (λq7 h=>?_) λκ6 h=>?_
  ·refine S4 1 J ?_
   refine a7 ?_
   cases h
   exact f1
  ·refine S4 1 J ?_
   refine c7<|lq h (λs9=>St.of [(0,.L g5.Pv a0),(1,.L g5.Pv a1),(5,.I s9)] []) W λs9 x10 h hx9=>b9<|S3 2 J<|nL J Ty.e46<|S2 1 J ?_
   refine cN h (λhc h=>?_) λhc h=>?_
   ·refine a8 ?_
    refine b9<|c7<|dr [] Ty.N3 (by kernel_rfl) (by kernel_rfl)<|S7 2 J<|n9 h λv11 hv10 h=>d0 J (p7 (f:=g5.Pv) (cs:=g5.Pc v11) hv10 J J Ty.e46 Ty.a6h J J) J<|S7 3 J<|n9 h λv12 hv11 h=>d0 J (p7 (f:=g5.Pv) (cs:=g5.Pc v12) hv11 J J Ty.e46 Ty.a6h J J) J<|S7 1 J<|d7 J (λ_ hN=>c2T (xs:=g5.Pc v11) (ys:=g5.Pc v12) Ty.d0t J J J J) J<|L5 ?_
    refine cN h (λhc h=>?_) λhc h=>?_
    ·refine S4 1 J ?_
     refine a7 ?_
     have h:=xL hx9 h
     cases h
     exact f1
    ·refine a8 ?_
     refine S6 3 J ?_
     exact eL h W
   ·refine j8 ?_
    refine b7<|b7<|c8 ?_
    have h:=xL hx9 h
    exact eJ h W

theorem b7G{a0 a1}:PO Tryz.prog 57 [p6.Pv a0,p6.Pv a1] (a91 a0 a1) λr=>.bool r:=by
 refine pO Tryz.func57 λr h _ _=>?_
 refine S4 3 J<|b9<|S3 6 J<|b8 J (λhg=>oF J Ty.b6S J)<|b8 J (λhg=>oS (ct hg) J J Ty.a47 J)<|b8 J (λhg=>H7 (f:=l7.Pv) (ct hg) Ty.e47)<|b8 J (λhg=>oF J Ty.b6S J)<|b8 J (λhg=>oS (ct hg) J J Ty.a47 J)<|b8 J (λhg=>H7 (f:=l7.Pv) (ct hg) Ty.e47)<|b8 J (λhg=>j2 (ct hg) (ct hg) J)<|y0 J (n0 J J J (λq=>H0 q))<|yN ?_
 refine cN h (λhc h=>?_) λhc h=>?_
 ·refine S4 1 J ?_
  refine a7 ?_
  cases h
  exact f1
 ·refine a8 ?_
  refine jq h (λ_=>St.of [] []) (λq7 h=>?_) λκ6 h=>?_
  ·refine S4 1 J ?_
   refine a7 ?_
   cases h
   exact f1
  ·refine S4 1 J ?_
   refine c7<|lq h (λs9=>St.of [(2,.ptr 2 0 0),(3,.ptr 3 0 0),(5,.I s9)] [(3,vR (p6.Pv a1) 2),(2,vR (p6.Pv a0) 2)]) W λs9 x10 h hx9=>b9<|S3 3 J<|nL J Ty.e47<|S2 1 J ?_
   refine cN h (λhc h=>?_) λhc h=>?_
   ·refine a8 ?_
    refine b9<|c7<|dr [] Ty.N3 (by kernel_rfl) (by kernel_rfl)<|S7 3 J<|n9 h λv11 hv10 h=>d0 J (p7 (f:=l7.Pv) (cs:=l7.Pc v11) hv10 J J Ty.e47 Ty.a8b J J) J<|S7 4 J<|n9 h λv12 hv11 h=>d0 J (p7 (f:=l7.Pv) (cs:=l7.Pc v12) hv11 J J Ty.e47 Ty.a8b J J) J<|S7 1 J<|d7 J (λ_ hN=>c2T (xs:=l7.Pc v11) (ys:=l7.Pc v12) Ty.d0u J J J J) J<|L5 ?_
    refine cN h (λhc h=>?_) λhc h=>?_
    ·refine S4 1 J ?_
     refine a7 ?_
     have h:=xL hx9 h
     cases h
     exact f1
    ·refine a8 ?_
     refine S6 3 J ?_
     exact eL h W
   ·refine j8 ?_
    refine b7<|b7<|c8 ?_
    have h:=xL hx9 h
    exact eJ h W

theorem b1q{a0 a1}:PO Tryz.prog 17 [c5.Pv a0,c5.Pv a1] (a6Q a0 a1) λr=>.bool r:=by
 refine pO Tryz.func17 λr h _ _=>?_
 refine S4 3 J<|S3 4 J<|cA h b7y J J λv1 _ h=>S1 1 J<|b8 J (λhg=>oF J Ty.c2a J)<|b8 J (λhg=>oS (ct hg) J J Ty.a27 J)<|b8 J (λhg=>oF J Ty.c2a J)<|b8 J (λhg=>oS (ct hg) J J Ty.a27 J)<|n9 h λv2 hv2 h=>b8 J (λhg=>w9 J b1l (p5 (ct hg) (p5 (ct hg) J)) (A0 hv2 hg))<|y0 J (k7 J J J (λq=>H2 q))<|S1 1 J<|b8 J (λhg=>oF J Ty.c2b J)<|b8 J (λhg=>oS (ct hg) J J Ty.a45 J)<|b8 J (λhg=>oF J Ty.c2b J)<|b8 J (λhg=>oS (ct hg) J J Ty.a45 J)<|n9 h λv3 hv3 h=>b8 J (λhg=>w9 J b7A (p5 (ct hg) (p5 (ct hg) J)) (A0 hv3 hg))<|y0 J (k7 J J J (λq=>H2 q))<|S1 1 J<|b8 J (λhg=>oF J Ty.b9J J)<|b8 J (λhg=>oS (ct hg) J J Ty.a46 J)<|b8 J (λhg=>oF J Ty.b9J J)<|b8 J (λhg=>oS (ct hg) J J Ty.a46 J)<|n9 h λv4 hv4 h=>b8 J (λhg=>w9 J b7C (p5 (ct hg) (p5 (ct hg) J)) (A0 hv4 hg))<|y0 J (k7 J J J (λq=>H2 q))<|S1 1 J<|b8 J (λhg=>oF J Ty.b4r J)<|b8 J (λhg=>oL (ct hg) J J Ty.a49 Ty.s49 nl J)<|b8 J (λhg=>oF J Ty.b4r J)<|b8 J (λhg=>oL (ct hg) J J Ty.a49 Ty.s49 nl J)<|n9 h λv5 hv5 h=>b8 J (λhg=>w9 J b7G (p5 (ct hg) (p5 (ct hg) J)) (A0 hv5 hg))<|y0 J (k7 J J J (λq=>H2 q))<|S2 1 J<|a7 ?_
 cases h
 exact f1

theorem w18_MachineDoes_ok{a0 a1 a2}:PO Tryz.prog 3 [hold_Heap.Pv a0,code_Op.Pv a1,.I a2] (a2p a0 a1 a2) λr=>.bool r:=by
 refine pO Tryz.func3 λr h _ _=>?_
 refine S4 3 J<|b9<|S3 1 J<|cA h a7d J J λv1 _ h=>S1 2 J<|n9 h λv2 hv2 h=>b8 J (λhg=>w9 J Y6 J (A0 hv2 hg))<|b8 J (λhg=>S0 (ct hg) J)<|y0 J (n0 J J J (λq=>H0 q))<|yN ?_
 refine cN h (λhc h=>?_) λhc h=>?_
 ·refine sR ?_
  refine cA h Y6 J J λv3 _ h=>S2 1 J<|a7 ?_
  cases h
  exact f1
 ·refine a8 ?_
  refine S3 2 J<|cF h E7 J J λv4 _ h=>S2 8 J<|dr [] Ty.N3 (by kernel_rfl) (by kernel_rfl)<|S7 1 J<|n9 h λv5 hv5 h=>d2f J (s7 J Q1 J hv5) J<|S7 1 J<|n9 h λv6 hv6 h=>d2 J (w9 J c1p J hv6) J<|n9 h λv7 hv7 h=>d2f J (s7 J c02 J hv7) J<|S7 5 J<|G9 (x':=c5.Pv v7.1) (cl':=true) J J (.inr J) Ty.X4<|S8 2 J<|dr [] Ty.N3 (by kernel_rfl) (by kernel_rfl)<|S7 1 J<|n9 h λv8 hv8 h=>d2 J (w9 J a8Z J hv8) J<|S7 1 J<|y8 J (λhg=>oL J J J Ty.R8 Ty.M4 nl J) J<|n9 h λv9 hv9 h=>b2r J (λhg=>s7 J Q1 (p5 (ct hg) J) (A0 hv9 hg)) J<|y8 J (λhg=>oL J J J Ty.a51 Ty.X4 nl J) J<|n9 h λv10 hv10 h=>a1W J (λhg=>w9 J b1q (p5 (ct hg) (p5 (ct hg) J)) (A0 hv10 hg)) J<|d7 J (λ_ hN=>k7 J J J (λq=>H2 q)) J<|S7 1 J<|o0 J (λhg _ hN=>mI J) J<|o0 J (λhg _ hN=>mI J) J<|o0 J (λhg _ hN=>j2 (ct hg) (ct hg) J) J<|d7 J (λ_ hN=>k7 J J J (λq=>H2 q)) J<|S7 1 J<|o0 J (λhg _ hN=>mI J) J<|o0 J (λhg _ hN=>mI J) J<|o0 J (λhg _ hN=>j2 (ct hg) (ct hg) J) J<|d7 J (λ_ hN=>k7 J J J (λq=>H2 q)) J<|S7 1 J<|y8 J (λhg=>oL J J J Ty.R8 Ty.M4 nl J) J<|o0 J (λhg _ hN=>mI J) J<|n9 h λv11 hv11 h=>a1W J (λhg=>w9 J a3M (p5 (ct hg) (p5 (ct hg) J)) (A0 hv11 hg)) J<|y8 J (λhg=>oL J J J Ty.R8 Ty.M4 nl J) J<|b2r J (λhg=>s7 J Q1 (p5 (ct hg) J) hv5) J<|o0 J (λhg _ hN=>mI J) J<|n9 h λv12 hv12 h=>a1W J (λhg=>w9 J a4f (p5 (ct hg) (p5 (ct hg) J)) (A0 hv12 hg)) J<|o0 J (λhg _ hN=>j2 (ct hg) (ct hg) J) J<|d7 J (λ_ hN=>k7 J J J (λq=>H2 q)) J<|S7 1 J<|y8 J (λhg=>oL J J J Ty.R8 Ty.M4 nl J) J<|o0 J (λhg _ hN=>mI J) J<|n9 h λv13 hv13 h=>a1W J (λhg=>w9 J Z9 (p5 (ct hg) (p5 (ct hg) J)) (A0 hv13 hg)) J<|y8 J (λhg=>oL J J J Ty.R8 Ty.M4 nl J) J<|b2r J (λhg=>s7 J Q1 (p5 (ct hg) J) hv5) J<|o0 J (λhg _ hN=>mI J) J<|n9 h λv14 hv14 h=>a1W J (λhg=>w9 J b0V (p5 (ct hg) (p5 (ct hg) J)) (A0 hv14 hg)) J<|o0 J (λhg _ hN=>j2 (ct hg) (ct hg) J) J<|d7 J (λ_ hN=>k7 J J J (λq=>H2 q)) J<|S8 1 J<|a7 ?_
  cases h
  exact f1

theorem w18_MachineStays_ok{a0 a1}:PO Tryz.prog 5 [hold_Heap.Pv a0,code_Op.Pv a1] (a1G a0 a1) λr=>.bool r:=by
 refine pO Tryz.func5 λr h _ _=>?_
 refine S4 3 J<|b9<|S3 1 J<|cA h a7d J J λv1 _ h=>S1 2 J<|n9 h λv2 hv2 h=>b8 J (λhg=>w9 J Y6 J (A0 hv2 hg))<|b8 J (λhg=>S0 (ct hg) J)<|y0 J (n0 J J J (λq=>H0 q))<|yN ?_
 refine cN h (λhc h=>?_) λhc h=>?_
 ·refine sR ?_
  refine cA h Y6 J J λv3 _ h=>S2 1 J<|a7 ?_
  cases h
  exact f1
 ·refine a8 ?_
  refine S3 2 J<|cF h E7 J J λv4 _ h=>S2 8 J<|b9<|S3 1 J<|cA h a8Z J J λv5 _ h=>S2 1 J ?_
  refine cN h (λhc h=>?_) λhc h=>?_
  ·refine S4 1 J ?_
   refine a7 ?_
   cases h
   exact f1
  ·refine a8 ?_
   refine S3 1 J<|cF h Q1 J J λv6 _ h=>S2 2 J<|b9<|S4 2 J ?_
   refine cN h (λhc h=>?_) λhc h=>?_
   ·refine dr [] Ty.N3 (by kernel_rfl) (by kernel_rfl) ?_
    refine S7 3 J<|y8 J (λhg=>oL J J J Ty.a51 Ty.X4 nl J) J<|y8 J (λhg=>oL J J J Ty.R8 Ty.M4 nl J) J<|n9 h λv7 hv7 h=>b2r J (λhg=>s7 J Q1 (p5 (ct hg) J) (A0 hv7 hg)) J<|n9 h λv8 hv8 h=>a1W J (λhg=>w9 J b1q (p5 (ct hg) (p5 (ct hg) J)) (A0 hv8 hg)) J<|d7 J (λ_ hN=>k7 J J J (λq=>H2 q)) J<|S8 1 J<|a7 ?_
    cases h
    exact f1
   ·refine a8 ?_
    refine S3 1 J<|cA h a93 J J λv9 _ h=>S1 1 J<|b8 J (λhg=>oL J J J Ty.a51 Ty.X4 nl J)<|n9 h λv10 hv10 h=>b8 J (λhg=>w9 J a6T (p5 (ct hg) J) (A0 hv10 hg))<|y0 J (k7 J J J (λq=>H2 q))<|S2 1 J<|a7 ?_
    cases h
    exact f1

theorem w18_MachineSame_ok{a0 a1 a2}:PO Tryz.prog 8 [hold_Heap.Pv a0,.I a1,.I a2] (a2q a0 a1 a2) λr=>.bool r:=by
 refine pO Tryz.func8 λr h _ _=>?_
 refine S4 2 J<|b9<|S3 1 J<|cA h a7d J J λv1 _ h=>S1 2 J<|b8 J (λhg=>mI J)<|b8 J (λhg=>j2 (ct hg) J J)<|y0 J (n0 J J J (λq=>H0 q))<|S1 1 J<|b8 J (λhg=>mI J)<|b8 J (λhg=>j2 (ct hg) J J)<|y0 J (n0 J J J (λq=>H0 q))<|S1 1 J<|b8 J (λhg=>mI J)<|b8 J (λhg=>j2 (ct hg) J J)<|y0 J (n0 J J J (λq=>H0 q))<|S1 1 J<|b8 J (λhg=>mI J)<|b8 J (λhg=>j2 (ct hg) J J)<|y0 J (n0 J J J (λq=>H0 q))<|S1 1 J<|n9 h λv2 hv2 h=>b8 J (λhg=>w9 J Y6 J (A0 hv2 hg))<|b8 J (λhg=>S0 (ct hg) J)<|y0 J (n0 J J J (λq=>H0 q))<|yN ?_
 refine cN h (λhc h=>?_) λhc h=>?_
 ·refine sR ?_
  refine cA h Y6 J J λv3 _ h=>S2 1 J<|a7 ?_
  cases h
  exact f1
 ·refine a8 ?_
  refine S3 3 J<|y0 J (l4 (cs:=[.I 2,.I a1,.I a2,.I 0]) J Ty.p36 Ty.z36 J J J)<|cF h E7 J J λv4 _ h=>S2 8 J<|S3 3 J<|y0 J (l4 (cs:=[.I 10,.I a1,.I a2,.I 0]) J Ty.p36 Ty.z36 J J J)<|cF h E7 J J λv5 _ h=>S2 8 J<|S3 2 J<|y0 J (l4 (cs:=[.I 1,.I a1,.I 0,.I (-1)]) J Ty.p36 Ty.z36 J J J)<|cF h E7 J J λv6 _ h=>S2 8 J<|S3 3 J<|y0 J (l4 (cs:=[.I 10,.I a1,.I a2,.I 0]) J Ty.p36 Ty.z36 J J J)<|cF h E7 J J λv7 _ h=>S2 8 J<|S3 3 J<|b8 J (λhg=>mI J)<|b8 J (λhg=>j2 (ct hg) J J)<|y0 J (k7 J J J (λq=>H2 q))<|S1 1 J<|b8 J (λhg=>mI J)<|b8 J (λhg=>j2 (ct hg) J J)<|y0 J (k7 J J J (λq=>H2 q))<|S1 1 J<|b8 J (λhg=>mI J)<|b8 J (λhg=>j2 (ct hg) J J)<|y0 J (k7 J J J (λq=>H2 q))<|S1 1 J<|b8 J (λhg=>mI J) ?_
  refine b8 J (λhg=>j2 (ct hg) J J)<|b8 J (λhg=>om (d:=.bool (v6.2.2==4)) (ct hg))<|b8 (m8 J J J) (λhg=>mI J)<|b8 (m8 J J J) (λhg=>j2 (ct hg) J J)<|b8 (m8 J J J) (λhg=>om (d:=.bool (v6.2.2==0)) (ct hg))<|b8 (m8 J J J) (λhg=>mI J)<|b8 (m8 J J J) (λhg=>oF J Ty.c19 J)<|b8 (m8 J J J) (λhg=>oF (ct hg) Ty.b9G J)<|b8 (m8 J J J) (λhg=>oS (ct hg) J J Ty.a3 J)<|b8 (m8 J J J) (λhg=>a3Q (ct hg) J J)<|b8 (m8 J J J) (λhg=>j2 (ct hg) (ct hg) J)<|b8 (m8 J J J) (λhg=>k7 (ct hg) J J (λq=>a1l hg (H2 q)))<|b8 (m8 J J J) (λhg=>om (d:=.bool ((v6.2.2==0)&&(v6.2.1==(s6 (a0.S.Serial+1))))) (ct hg))<|b8 (m8 J J J) (λhg=>mI J)<|b8 (m8 J J J) (λhg=>j2 (ct hg) J J)<|b8 (m8 J J J) (λhg=>mI J)<|b8 (m8 J J J) (λhg=>mI J)<|b8 (m8 J J J) (λhg=>j2 (ct hg) (ct hg) J)<|b8 (m8 J J J) (λhg=>c5Y (ct hg) (ct hg) Ty.u4 J)<|b8 (m8 J J J) (λhg=>k7 (ct hg) J J (λq=>a1l hg (H2 q)))<|b8 J (λhg=>n0 (ct hg) J J (λq=>a1l hg (H0 q)))<|y0 J (k7 J J J (λq=>H2 q))<|S2 1 J<|a7 ?_
  cases h
  exact f1

end Go.Proofs.YtfihndcobnkiaaaGreat.Ok
