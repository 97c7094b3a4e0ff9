/-
 The functions of the program do as the plain functions do.
-/
import Derived.Test.YtjlokngooekbcaaGreatP21cOk2
set_option linter.unusedVariables false
set_option linter.unusedSimpArgs false
set_option linter.unusedSectionVars false
namespace Go.Proofs.YtjlokngooekbcaaGreat.Ok
open Go Go.Pw Go.Sh Go.Proofs
set_option maxRecDepth 100000
set_option maxHeartbeats 4000000
theorem b76{a0 a1}:PO Tryz.prog 98 [C5.Pv a0,C5.Pv a1] (a5U a0 a1) λr=>.bool r:=by
 refine pO Tryz.func98 λr h _ _=>?_;unfold a5U at h;refine S4 3 J<|S3 6 J<|k7 J (λhg=>oF J b9f J)<|k7 J (λhg=>oS (ct hg) J J C7 J)<|k7 J (λhg=>oF J b9f J)<|k7 J (λhg=>oS (ct hg) J J C7 J)<|k7 J (λhg=>w7 (ct hg) (ct hg) J)<|y0 J (y6 J J J (λq=>eqT q))<|S1 1 J<|k7 J (λhg=>oF J b9g J)<|k7 J (λhg=>oS (ct hg) J J C7 J)<|k7 J (λhg=>oF J b9g J)<|k7 J (λhg=>oS (ct hg) J J C7 J)<|k7 J (λhg=>w7 (ct hg) (ct hg) J)<|y0 J (y6 J J J (λq=>eqT q))<|S1 1 J<|k7 J (λhg=>oF J b9h J)<|k7 J (λhg=>oS (ct hg) J J C7 J)<|k7 J (λhg=>oF J b9h J)<|k7 J (λhg=>oS (ct hg) J J C7 J)<|k7 J (λhg=>w7 (ct hg) (ct hg) J)<|y0 J (y6 J J J (λq=>eqT q))<|S1 1 J<|k7 J (λhg=>oF J b9i J)<|k7 J (λhg=>oS (ct hg) J J b3Z J)<|k7 J (λhg=>oF J b9i J)<|k7 J (λhg=>oS (ct hg) J J b3Z J)<|k7 J (λhg=>d1a (ct hg) (ct hg) d0N J)<|y0 J (y6 J J J (λq=>eqT q))<|S1 1 J ?_;refine k7 J (λhg=>oF J b9j J)<|k7 J (λhg=>oS (ct hg) J J a7O J)<|k7 J (λhg=>oF J b9j J)<|k7 J (λhg=>oS (ct hg) J J a7O J)<|w8 h λv1 hv1 h=>k7 J (λhg=>F1 J a5a (E3 (ct hg) (E3 (ct hg) J)) (F2 hv1 hg))<|y0 J (y6 J J J (λq=>eqT q))<|S2 1 J<|b8 ?_;cases h;exact f1

theorem b97{a0 a1}:PO Tryz.prog 46 [l7.Pv a0,l7.Pv a1] (b1i a0 a1) λr=>.bool r:=by
 refine pO Tryz.func46 λr h _ _=>?_;refine S4 3 J<|e6<|S3 6 J<|k7 J (λhg=>oF J b88 J)<|k7 J (λhg=>oS (ct hg) J J C7 J)<|k7 J (λhg=>oF J b88 J)<|k7 J (λhg=>oS (ct hg) J J C7 J)<|k7 J (λhg=>w7 (ct hg) (ct hg) J)<|y0 J (B6 J J J (λq=>eqF q))<|S1 1 J<|k7 J (λhg=>oF J a2Y J)<|k7 J (λhg=>oS (ct hg) J J a7P J)<|k7 J (λhg=>X0 (f:=o0.Pv) (ct hg) M5)<|k7 J (λhg=>oF J a2Y J)<|k7 J (λhg=>oS (ct hg) J J a7P J)<|k7 J (λhg=>X0 (f:=o0.Pv) (ct hg) M5)<|k7 J (λhg=>w7 (ct hg) (ct hg) J)<|y0 J (B6 J J J (λq=>eqF q))<|yN ?_;refine cN h (λhc h=>?_) λhc h=>?_
 ·refine S4 1 J ?_;refine b8 ?_;cases h;exact f1
 ·refine c4 ?_;refine jq h (λ_=>St.of [] []) (λq8 h=>?_) λκ7 h=>?_
  ·refine S4 1 J ?_;refine b8 ?_;cases h;exact f1
  ·refine S4 1 J ?_;refine g5<|lq h (λs10=>St.of [(2,.ptr 2 0 0),(3,.ptr 3 0 0),(5,.I s10)] [(3,vR (l7.Pv a1) 3),(2,vR (l7.Pv a0) 3)]) W λs10 x11 h hx10=>e6<|S3 3 J<|nL J M5<|S2 1 J ?_;refine cN h (λhc h=>?_) λhc h=>?_
   ·refine c4 ?_;refine e6<|g5<|dr [] u5 (by kernel_rfl) (by kernel_rfl)<|S7 3 J<|w8 h λv12 hv11 h=>d0 J (A5 (f:=o0.Pv) (cs:=o0.Pc v12) hv11 J J M5 N5 J J) J<|S7 5 J<|w8 h λv13 hv12 h=>d0 J (A5 (f:=o0.Pv) (cs:=o0.Pc v13) hv12 J J M5 N5 J J) J<|S7 4 J<|C8 J (λhg _ hN=>oF J a2Y J) J<|J0 J (λhg=>oS (ct hg) J J a7P J) J<|C8 J (λhg _ hN=>mI J) J<|J0 J (λhg=>A5 (f:=o0.Pv) (cs:=o0.Pc v12) hv11 (ct hg) (ct hg) M5 N5 J J) J<|C8 J (λhg _ hN=>A8 (ct hg) b50 J) J<|J0 J (λhg=>G6 (ct hg) C7 J) J<|C8 J (λhg _ hN=>oF J a2Y J) J<|J0 J (λhg=>oS (ct hg) J J a7P J) J<|C8 J (λhg _ hN=>mI J) J<|J0 J (λhg=>A5 (f:=o0.Pv) (cs:=o0.Pc v13) hv12 (ct hg) (ct hg) M5 N5 J J) J<|C8 J (λhg _ hN=>A8 (ct hg) b50 J) J<|J0 J (λhg=>G6 (ct hg) C7 J) J<|C8 J (λhg _ hN=>w7 (ct hg) (ct hg) J) J<|d7 J (λ_ hN=>B6 J J J (λq=>eqF q)) J<|S7 1 J<|C8 J (λhg _ hN=>oF J a2Y J) J<|J0 J (λhg=>oS (ct hg) J J a7P J) J<|C8 J (λhg _ hN=>mI J) J<|J0 J (λhg=>A5 (f:=o0.Pv) (cs:=o0.Pc v12) hv11 (ct hg) (ct hg) M5 N5 J J) J<|C8 J (λhg _ hN=>A8 (ct hg) a8Q J) J<|J0 J (λhg=>a8e (ct hg) b30 a9U nl J) J<|C8 J (λhg _ hN=>oF J a2Y J) J<|J0 J (λhg=>oS (ct hg) J J a7P J) J<|C8 J (λhg _ hN=>mI J) J<|J0 J (λhg=>A5 (f:=o0.Pv) (cs:=o0.Pc v13) hv12 (ct hg) (ct hg) M5 N5 J J) J<|C8 J (λhg _ hN=>A8 (ct hg) a8Q J) J<|J0 J (λhg=>a8e (ct hg) b30 a9U nl J) J<|w8 h λv14 hv13 h=>c22 J (λhg=>F1 J b76 (E3 (ct hg) (E3 (ct hg) J)) (F2 hv13 hg)) J<|C8 J (λhg _ hN=>a1w (ct hg) J) J<|d7 J (λ_ hN=>B6 J J J (λq=>eqF q)) J<|O2 ?_
    refine cN h (λhc h=>?_) λhc h=>?_
    ·refine S4 1 J ?_;refine b8 ?_;have h:=xL hx10 h;cases h;exact f1
    ·refine c4 ?_;refine S6 3 J ?_;exact eL h W
   ·refine o8 ?_;refine c5<|c5<|l4 ?_;have h:=xL hx10 h;exact eJ h W

theorem b98{a0 a1}:PO Tryz.prog 47 [.L o6.Pv a0,.L o6.Pv a1] (b1m a0 a1) λr=>.bool r:=by
 refine pO Tryz.func47 λr h _ _=>?_;refine S4 1 J<|e6<|S3 1 J<|nL J a4b<|S1 1 J<|nL J a4b<|S2 1 J ?_;refine cN h (λhc h=>?_) λhc h=>?_
 ·refine S4 1 J ?_;refine b8 ?_;cases h;exact f1
 ·refine c4 ?_;refine jq h (λ_=>St.of [] []) (λq7 h=>?_) λκ6 h=>?_
  ·refine S4 1 J ?_;refine b8 ?_;cases h;exact f1
  ·refine S4 1 J ?_;refine g5<|lq h (λs9=>St.of [(0,.L o6.Pv a0),(1,.L o6.Pv a1),(5,.I s9)] []) W λs9 x10 h hx9=>e6<|S3 2 J<|nL J a4b<|S2 1 J ?_;refine cN h (λhc h=>?_) λhc h=>?_
   ·refine c4 ?_;refine e6<|g5<|dr [] u5 (by kernel_rfl) (by kernel_rfl)<|S7 2 J<|w8 h λv11 hv10 h=>d0 J (A5 (f:=o6.Pv) (cs:=o6.Pc v11) hv10 J J a4b a4P J J) J<|S7 3 J<|w8 h λv12 hv11 h=>d0 J (A5 (f:=o6.Pv) (cs:=o6.Pc v12) hv11 J J a4b a4P J J) J<|S7 1 J<|d7 J (λ_ hN=>c3r (xs:=o6.Pc v11) (ys:=o6.Pc v12) c8V J J J J) J<|O2 ?_
    refine cN h (λhc h=>?_) λhc h=>?_
    ·refine S4 1 J ?_;refine b8 ?_;have h:=xL hx9 h;cases h;exact f1
    ·refine c4 ?_;refine S6 3 J ?_;exact eL h W
   ·refine o8 ?_;refine c5<|c5<|l4 ?_;have h:=xL hx9 h;exact eJ h W

theorem c0b{a0 a1}:PO Tryz.prog 48 [.L l5.Pv a0,.L l5.Pv a1] (b1o a0 a1) λr=>.bool r:=by
 refine pO Tryz.func48 λr h _ _=>?_;refine S4 1 J<|e6<|S3 1 J<|nL J a0M<|S1 1 J<|nL J a0M<|S2 1 J ?_;refine cN h (λhc h=>?_) λhc h=>?_
 ·refine S4 1 J ?_;refine b8 ?_;cases h;exact f1
 ·refine c4 ?_;refine jq h (λ_=>St.of [] []) (λq7 h=>?_) λκ6 h=>?_
  ·refine S4 1 J ?_;refine b8 ?_;cases h;exact f1
  ·refine S4 1 J ?_;refine g5<|lq h (λs9=>St.of [(0,.L l5.Pv a0),(1,.L l5.Pv a1),(5,.I s9)] []) W λs9 x10 h hx9=>e6<|S3 2 J<|nL J a0M<|S2 1 J ?_;refine cN h (λhc h=>?_) λhc h=>?_
   ·refine c4 ?_;refine e6<|g5<|dr [] u5 (by kernel_rfl) (by kernel_rfl)<|S7 2 J<|w8 h λv11 hv10 h=>d0 J (A5 (f:=l5.Pv) (cs:=l5.Pc v11) hv10 J J a0M a1K J J) J<|S7 3 J<|w8 h λv12 hv11 h=>d0 J (A5 (f:=l5.Pv) (cs:=l5.Pc v12) hv11 J J a0M a1K J J) J<|S7 1 J<|d7 J (λ_ hN=>c3r (xs:=l5.Pc v11) (ys:=l5.Pc v12) c8W J J J J) J<|O2 ?_
    refine cN h (λhc h=>?_) λhc h=>?_
    ·refine S4 1 J ?_;refine b8 ?_;have h:=xL hx9 h;cases h;exact f1
    ·refine c4 ?_;refine S6 3 J ?_;exact eL h W
   ·refine o8 ?_;refine c5<|c5<|l4 ?_;have h:=xL hx9 h;exact eJ h W

theorem c0e{a0 a1}:PO Tryz.prog 49 [w9.Pv a0,w9.Pv a1] (b1r a0 a1) λr=>.bool r:=by
 refine pO Tryz.func49 λr h _ _=>?_;refine S4 3 J<|e6<|S3 6 J<|k7 J (λhg=>oF J b89 J)<|k7 J (λhg=>oS (ct hg) J J c5q J)<|k7 J (λhg=>X0 (f:=s7.Pv) (ct hg) a7Q)<|k7 J (λhg=>oF J b89 J)<|k7 J (λhg=>oS (ct hg) J J c5q J)<|k7 J (λhg=>X0 (f:=s7.Pv) (ct hg) a7Q)<|k7 J (λhg=>w7 (ct hg) (ct hg) J)<|y0 J (B6 J J J (λq=>eqF q))<|yN ?_;refine cN h (λhc h=>?_) λhc h=>?_
 ·refine S4 1 J ?_;refine b8 ?_;cases h;exact f1
 ·refine c4 ?_;refine jq h (λ_=>St.of [] []) (λq7 h=>?_) λκ6 h=>?_
  ·refine S4 1 J ?_;refine b8 ?_;cases h;exact f1
  ·refine S4 1 J ?_;refine g5<|lq h (λs9=>St.of [(2,.ptr 2 0 0),(3,.ptr 3 0 0),(5,.I s9)] [(3,vR (w9.Pv a1) 2),(2,vR (w9.Pv a0) 2)]) W λs9 x10 h hx9=>e6<|S3 3 J<|nL J a7Q<|S2 1 J ?_;refine cN h (λhc h=>?_) λhc h=>?_
   ·refine c4 ?_;refine e6<|g5<|dr [] u5 (by kernel_rfl) (by kernel_rfl)<|S7 3 J<|w8 h λv11 hv10 h=>d0 J (A5 (f:=s7.Pv) (cs:=s7.Pc v11) hv10 J J a7Q b0s J J) J<|S7 4 J<|w8 h λv12 hv11 h=>d0 J (A5 (f:=s7.Pv) (cs:=s7.Pc v12) hv11 J J a7Q b0s J J) J<|S7 1 J<|d7 J (λ_ hN=>c3r (xs:=s7.Pc v11) (ys:=s7.Pc v12) c8X J J J J) J<|O2 ?_
    refine cN h (λhc h=>?_) λhc h=>?_
    ·refine S4 1 J ?_;refine b8 ?_;have h:=xL hx9 h;cases h;exact f1
    ·refine c4 ?_;refine S6 3 J ?_;exact eL h W
   ·refine o8 ?_;refine c5<|c5<|l4 ?_;have h:=xL hx9 h;exact eJ h W

theorem c0f{a0 a1}:PO Tryz.prog 16 [g7.Pv a0,g7.Pv a1] (a8p a0 a1) λr=>.bool r:=by
 refine pO Tryz.func16 λr h _ _=>?_;refine S4 3 J<|S3 4 J<|cA h b97 J J λv1 _ h=>S1 1 J<|k7 J (λhg=>oF J b9a J)<|k7 J (λhg=>oS (ct hg) J J a7O J)<|k7 J (λhg=>oF J b9a J)<|k7 J (λhg=>oS (ct hg) J J a7O J)<|w8 h λv2 hv2 h=>k7 J (λhg=>F1 J a5a (E3 (ct hg) (E3 (ct hg) J)) (F2 hv2 hg))<|y0 J (y6 J J J (λq=>eqT q))<|S1 1 J<|k7 J (λhg=>oF J b9b J)<|k7 J (λhg=>oS (ct hg) J J c5o J)<|k7 J (λhg=>oF J b9b J)<|k7 J (λhg=>oS (ct hg) J J c5o J)<|w8 h λv3 hv3 h=>k7 J (λhg=>F1 J b98 (E3 (ct hg) (E3 (ct hg) J)) (F2 hv3 hg))<|y0 J (y6 J J J (λq=>eqT q))<|S1 1 J<|k7 J (λhg=>oF J b9c J)<|k7 J (λhg=>oS (ct hg) J J c5p J)<|k7 J (λhg=>oF J b9c J)<|k7 J (λhg=>oS (ct hg) J J c5p J)<|w8 h λv4 hv4 h=>k7 J (λhg=>F1 J c0b (E3 (ct hg) (E3 (ct hg) J)) (F2 hv4 hg))<|y0 J (y6 J J J (λq=>eqT q))<|S1 1 J<|k7 J (λhg=>oF J b9d J)<|k7 J (λhg=>oL (ct hg) J J b6Z b34 nl J)<|k7 J (λhg=>oF J b9d J)<|k7 J (λhg=>oL (ct hg) J J b6Z b34 nl J)<|w8 h λv5 hv5 h=>k7 J (λhg=>F1 J c0e (E3 (ct hg) (E3 (ct hg) J)) (F2 hv5 hg))<|y0 J (y6 J J J (λq=>eqT q))<|S2 1 J<|b8 ?_;cases h;exact f1

theorem w21_EngineNew_ok{a0 a1 a2 a3}:PO Tryz.prog 3 [.I a0,.I a1,.I a2,.L (Ls g6.Pv) a3] (a5x a0 a1 a2 a3) λr=>.bool r:=by
 refine pO Tryz.func3 λr h _ _=>?_;refine S4 1 J<|e6<|S3 1 J<|cA h a8O J J λv1 _ h=>S1 2 J<|w8 h λv2 hv2 h=>k7 J (λhg=>F1 J a0I J (F2 hv2 hg))<|k7 J (λhg=>a1w (ct hg) J)<|y0 J (B6 J J J (λq=>eqF q))<|yN ?_;refine cN h (λhc h=>?_) λhc h=>?_
 ·refine sR ?_;refine cA h a0I J J λv3 _ h=>S2 1 J<|b8 ?_;cases h;exact f1
 ·refine c4 ?_;refine S3 4 J<|cF h X7 J J λv4 _ h=>S2 6 J<|S3 4 J<|cF h b8P J J λv5 _ h=>cF h c14 J J λv6 _ h=>S2 6 J<|dr [] u5 (by kernel_rfl) (by kernel_rfl)<|S7 2 J<|w8 h λv7 hv7 h=>d2 J (F1 J b5r J hv7) J<|S7 1 J<|C8 J (λhg _ hN=>mI J) J<|C8 J (λhg _ hN=>mI J) J<|C8 J (λhg _ hN=>w7 (ct hg) (ct hg) J) J<|d7 J (λ_ hN=>y6 J J J (λq=>eqT q)) J<|S7 1 J<|C8 J (λhg _ hN=>oF J b32 J) J<|J0 J (λhg=>oL (ct hg) J J s6 o9 nl J) J<|w8 h λv8 hv8 h=>d1T J (λhg=>y8 J b22 (E3 (ct hg) J) (F2 hv8 hg)) J<|C8 J (λhg _ hN=>oF J c5w J) J<|J0 J (λhg=>oL (ct hg) J J b60 a9T nl J) J<|w8 h λv9 hv9 h=>c22 J (λhg=>F1 J c0f (E3 (ct hg) (E3 (ct hg) J)) (F2 hv9 hg)) J<|d7 J (λ_ hN=>y6 J J J (λq=>eqT q)) J<|S7 1 J<|C8 J (λhg _ hN=>oF J c5v J) J<|J0 J (λhg=>oS (ct hg) J J d1u J) J<|J0 J (λhg=>X0 (f:=(Ls g6.Pv)) (ct hg) a2q) J<|C8 J (λhg _ hN=>oF J c5x J) J<|J0 J (λhg=>oS (ct hg) J J d1x J) J<|J0 J (λhg=>X0 (f:=(Ls r9.Pv)) (ct hg) a5l) J<|C8 J (λhg _ hN=>w7 (ct hg) (ct hg) J) J<|d7 J (λ_ hN=>y6 J J J (λq=>eqT q)) J<|S8 1 J<|b8 ?_
  cases h;exact f1

theorem a7m{a0 a1}:PO Tryz.prog 31 [.L (Ls iF) a0,.I a1] (a0H a0 a1) λr=>.bool r:=by
 refine pO Tryz.func31 λr h _ _=>?_;refine S4 1 J ?_;refine jq h (λ_=>St.of [(0,.L (Ls iF) a0),(1,.I a1)] []) (λq6 h=>?_) λκ5 h=>?_
 ·refine S3 1 J ?_;refine nL J b1U<|S2 3 J<|b8 ?_;cases h;exact f1
 ·refine S4 1 J ?_;refine g5<|lq h (λs8=>St.of [(0,.L (Ls iF) a0),(1,.I a1),(5,.I s8)] []) W λs8 x9 h hx8=>e6<|S3 2 J<|nL J b1U<|S1 2 J<|k7 J (λhg=>mI J)<|k7 J (λhg=>w7 (ct hg) J J)<|y0 J (y6 J J J (λq=>eqT q))<|yN ?_;refine cN h (λhc h=>?_) λhc h=>?_
  ·refine c4 ?_;refine e6<|g5<|S3 2 J<|iL h J J b1U b1V λv10 _ h=>S1 1 J<|nL J j5<|S2 1 J ?_;refine cN h (λhc h=>?_) λhc h=>?_
   ·refine S4 1 J ?_;refine b8 ?_;have h:=xL hx8 h;cases h;exact f1
   ·refine c4 ?_;refine S6 3 J ?_;exact eL h W
  ·refine o8 ?_;refine c5<|c5<|l4 ?_;have h:=xL hx8 h;exact eJ h W

theorem b2T{a0 a1}:PO Tryz.prog 84 [.I a0,.I a1] (a3f a0 a1) λr=>.I r:=by
 refine pO Tryz.func84 λr h _ _=>?_;refine S4 1 J<|e6<|S3 3 J<|k7 J (λhg=>mI J)<|k7 J (λhg=>w7 (ct hg) J J)<|y0 J (B6 J J J (λq=>eqF q))<|S1 1 J<|k7 J (λhg=>mI J)<|k7 J (λhg=>w7 (ct hg) J J)<|y0 J (B6 J J J (λq=>eqF q))<|S1 1 J<|k7 J (λhg=>mI J)<|k7 J (λhg=>w7 (ct hg) J J)<|y0 J (B6 J J J (λq=>eqF q))<|yN ?_;refine cN h (λhc h=>?_) λhc h=>?_
 ·refine S4 1 J ?_;refine b8 ?_;cases h;exact f1
 ·refine c4 ?_;refine S4 6 J<|b8 ?_;cases h;exact f1

theorem a6Z{a0}:PO Tryz.prog 67 [l7.Pv a0] (J6 a0) λr=>C1.Pv r:=by
 refine pO Tryz.func67 λr h _ _=>?_;refine S4 2 J<|S3 2 J<|y0 J (p6 (cs:=[.nl,.I a0.Last]) J b62 b65 J J J)<|S1 1 J<|a2p (x':=.agg [.nl,.I a0.Last]) (cl':=true) J J (.inl J) b0r<|yN ?_;refine jq h (λj9=>St.of [(2,.ptr 2 0 0),(3,.ptr 3 0 0)] [(3,vS (.agg [.sl 910503,.I a0.Last]) 2),(910503,⟨List.map A9.Pv j9,(List.map A9.Pv j9).length,true,3,true⟩),(2,vR (.agg [.nl,.I 0]) 2)]) (λj9 h=>?_) λκ8 h=>?_
 ·refine S4 2 J ?_;refine b8 ?_;cases h;exact⟨J,[_],⟨oL J J J b6Y b0r nl J,tr⟩,J,io⟩
 ·refine S4 1 J ?_;refine g5<|lq h (λq=>St.of [(1,.ptr 1 0 0),(2,.ptr 2 0 0),(3,.ptr 3 0 0),(4,.I q.1)] [(3,vS (.agg [.sl 910503,.I a0.Last]) 2),(2,vR (.agg [.nl,.I 0]) 2),(1,vR (l7.Pv a0) 3),(910503,⟨List.map A9.Pv q.2,(List.map A9.Pv q.2).length,true,3,true⟩)]) (Wk.trans (b1P (l0:=3) (j:=0) (l:=920503) (z:=3) J J J J J) (WP (λl=>if l=910503 then 920503 else l))) λq14 x13 h hx9=>?_
  obtain⟨s11,s12⟩:=q14;refine e6<|S3 3 J<|nL J M5<|S2 1 J ?_;refine cN h (λhc h=>?_) λhc h=>?_
  ·refine c4 ?_;refine e6<|g5<|b0e [] u5 (by kernel_rfl) (by kernel_rfl)<|S7 5 J<|w8 h λv15 hv10 h=>d0 J (A5 (f:=o0.Pv) (cs:=o0.Pc v15) hv10 J J M5 N5 J J) J<|S7 5 J<|d0 J (A5 (f:=o0.Pv) (cs:=o0.Pc v15) hv10 J J M5 N5 J J) J<|S7 3 J<|d7 J (λ_ hN=>p6 (cs:=[.I v15.State,.I v15.Gen,.I s11]) J c8O b3s J J J) J<|d1n J (H2 (f:=A9.Pv) (l:=[(⟨v15.State,v15.Gen,s11⟩:A9)]) J a4M a8S b3s J J nl J J) J<|w8 h λv16 hv11 h=>d3a J (J1 (f:=A9.Pv) hv11 J J J J J J (.inl ⟨_,J,J⟩) a4M a8S c2F b3s J (λ_=>J)) J J J J J<|S7 1 J<|E8 (x':=.agg [.sl 32,.I a0.Last]) (cl':=false) J J (.inl J) c8Z<|O2<|S6 3 J ?_
   exact eL h (Wk.trans (n8 _ [32]) (WP (λl=>if l=910503 then 32 else l)))
  ·refine o8 ?_;refine c5<|c5<|l4 ?_;have h:=xL hx9 h;exact eJ h (Wk.trans (n8 _ [910503]) W)

theorem b1f{a0}:PO Tryz.prog 278 [.I a0] (a5T a0) λr=>.bool r:=by
 refine pO Tryz.func278 λr h _ _=>?_;refine S4 1 J<|e6<|S3 3 J<|k7 J (λhg=>mI J)<|k7 J (λhg=>w7 (ct hg) J J)<|y0 J (B6 J J J (λq=>eqF q))<|yN ?_;refine cN h (λhc h=>?_) λhc h=>?_
 ·refine S4 1 J ?_;refine b8 ?_;cases h;exact f1
 ·refine c4 ?_;refine S3 2 J<|w8 h λv1 hv1 h=>y0 J (a5N J J hv1)<|S1 2 J<|w8 h λv2 hv2 h=>y0 J (a5N J J hv2)<|cA h b2T J J λv3 _ h=>S2 3 J<|b8 ?_;cases h;exact f1

theorem b93{a0}:PO Tryz.prog 204 [.I a0] (a5S a0) λr=>.I r:=by
 refine pO Tryz.func204 λr h _ _=>?_;refine S4 1 J<|e6<|S3 1 J<|cA h b1f J J λv1 _ h=>S2 1 J ?_;refine cN h (λhc h=>?_) λhc h=>?_
 ·refine S4 1 J ?_;refine b8 ?_;cases h;exact f1
 ·refine c4 ?_;refine S3 2 J<|w8 h λv2 hv2 h=>y0 J (a5N J J hv2)<|S2 1 J<|b8 ?_;cases h;exact f1

theorem c1Q{a0}:PO Tryz.prog 225 [.I a0] (b3H a0) λr=>.I r:=by
 refine pO Tryz.func225 λr h _ _=>?_;refine S4 1 J<|e6<|S3 1 J<|cA h b1f J J λv1 _ h=>S2 1 J ?_;refine cN h (λhc h=>?_) λhc h=>?_
 ·refine S4 1 J ?_;refine b8 ?_;cases h;exact f1
 ·refine c4 ?_;refine S3 2 J<|w8 h λv2 hv2 h=>y0 J (a5N J J hv2)<|S2 1 J<|b8 ?_;cases h;exact f1

theorem a8i{a0 a1}:PO Tryz.prog 137 [C1.Pv a0,.I a1] (N2 a0 a1) λr=>.tup [.I r.1,.I r.2]:=by
 refine pO Tryz.func137 λr h _ _=>?_;refine S4 3 J<|e6<|S4 2 J ?_;refine cN h (λhc h=>?_) λhc h=>?_
 ·refine S4 2 J ?_;refine b8 ?_;cases h;exact f2
 ·refine c4 ?_;refine S3 1 J<|cA h b93 J J λv1 _ h=>S2 1 J<|e6<|S3 3 J<|k7 J (λhg=>mI J)<|k7 J (λhg=>oF J c4a J)<|k7 J (λhg=>oS (ct hg) J J c8o J)<|k7 J (λhg=>X0 (f:=A9.Pv) (ct hg) a4M)<|k7 J (λhg=>w7 (ct hg) (ct hg) J)<|y0 J (B6 J J J (λq=>eqF q))<|yN ?_;refine cN h (λhc h=>?_) λhc h=>?_
  ·refine S4 2 J ?_;refine b8 ?_;cases h;exact f2
  ·refine c4 ?_;refine S3 3 J<|iL h J J a4M a8S λv2 _ h=>S2 3 J<|e6<|dr [] u5 (by kernel_rfl) (by kernel_rfl)<|S7 3 J<|w8 h λv3 hv3 h=>d2 J (F1 J c1Q J hv3) J<|S7 2 J<|C8 J (λhg _ hN=>oF J b54 J) J<|J0 J (λhg=>oS (ct hg) J J C7 J) J<|C8 J (λhg _ hN=>w7 (ct hg) J J) J<|C8 J (λhg _ hN=>om (d:=.bool (v2.State != 1)) (ct hg)) J<|C8 (b6T J J J) (λhg _ hN=>oF J b54 J) J<|J0 (b6T J J J) (λhg=>oS (ct hg) J J C7 J) J<|C8 (b6T J J J) (λhg _ hN=>w7 (ct hg) J J) J<|C8 J (λhg _ hN=>y6 (ct hg) J J (λq=>d4m hg (eqT q))) J<|d7 J (λ_ hN=>B6 J J J (λq=>eqF q)) J<|O2 ?_
   refine cN h (λhc h=>?_) λhc h=>?_
   ·refine S4 2 J ?_;refine b8 ?_;cases h;exact f2
   ·refine c4 ?_;refine S4 3 J<|b8 ?_;cases h;exact f2

theorem b5P{a0 a1}:PO Tryz.prog 85 [l7.Pv a0,.L iF a1] (a4q a0 a1) λr=>.L iF r:=by
 refine pO Tryz.func85 λr h _ _=>?_;unfold a4q at h;refine S4 2 J<|sR<|y0 J (F9 J j5 o5)<|S1 1 J<|w8 h λv1 hv1 h=>y1 J (b1b (f:=iF) hv1 J J (.inl ⟨_,J,J⟩) j5 o5 K1 A3 J (λ_=>J)) J<|S2 1 J ?_;refine jq h (λj36=>St.of [(5,.sl 15)] [(15,⟨List.map iF j36,0,true,1,true⟩)]) (λj36 h=>?_) λκ35 h=>?_
 ·refine S4 2 J ?_;refine b8 ?_;cases h;exact f1
 ·refine S4 1 J ?_;refine g5<|lq h (λq=>St.of [(2,.ptr 2 0 0),(5,.sl 15),(6,.I q.1)] [(15,⟨List.map iF q.2,0,true,1,true⟩),(2,vR (l7.Pv a0) 3)]) W λq41 x40 h hx31=>?_;obtain⟨s38,s39⟩:=q41;refine e6<|S3 2 J<|y0 J (c3p (f:=iF) J J J j5)<|S2 1 J ?_;refine cN h (λhc h=>?_) λhc h=>?_
  ·refine c4 ?_;refine jq h (λj56=>St.of [(2,.ptr 2 0 0),(5,.sl 15),(6,.I s38)] [(15,⟨List.map iF j56,0,true,1,true⟩),(2,vR (l7.Pv a0) 3)]) (λj56 h=>?_) λκ55 h=>?_
   ·refine S6 3 J ?_;exact eL h W
   ·refine g5 ?_;refine S4 2 J<|g5<|lq h (λq=>St.of [(2,.ptr 2 0 0),(5,.sl 15),(6,.I s38),(7,.I q.1)] [(15,⟨List.map iF q.2,0,true,1,true⟩),(2,vR (l7.Pv a0) 3)]) W λq61 x60 h hx46=>?_;obtain⟨s58,s59⟩:=q61;refine e6<|S4 2 J ?_;refine cN h (λhc h=>?_) λhc h=>?_
    ·refine c4 ?_;refine e6<|g5<|dr [] u5 (by kernel_rfl) (by kernel_rfl)<|S7 1 J<|w8 h λv62 hv47 h=>d2f J (y8 J a6Z J hv47) J<|S7 3 J<|w8 h λv63 hv48 h=>d0 J (a3F (f:=iF) hv48 J J J J j5 o5 J) J<|d0 J (b4P (f:=iF) hv48 J J J C7 J) J<|w8 h λv64 hv49 h=>d2 J (F1 J a8i J hv49) J<|S8 5 J<|dr [] u5 (by kernel_rfl) (by kernel_rfl)<|S7 1 J<|d2f J (y8 J a6Z J hv47) J<|S7 2 J<|w8 h λv65 hv50 h=>d0 J (a3F (f:=iF) hv50 J J J J j5 o5 J) J<|d0 J (b4P (f:=iF) hv50 J J J C7 J) J<|w8 h λv66 hv51 h=>d2 J (F1 J a8i J hv51) J<|S8 5 J<|e6<|dr [] u5 (by kernel_rfl) (by kernel_rfl)<|S7 3 J<|C8 J (λhg _ hN=>mI J) J<|C8 J (λhg _ hN=>w7 (ct hg) J J) J<|d7 J (λ_ hN=>B6 J J J (λq=>eqF q)) J<|S7 1 J<|C8 J (λhg _ hN=>oF J a2Y J) J<|J0 J (λhg=>oS (ct hg) J J a7P J) J<|C8 J (λhg _ hN=>mI J) J<|w8 h λv67 hv52 h=>J0 J (λhg=>A5 (f:=o0.Pv) (cs:=o0.Pc v67) (F2 hv52 hg) (ct hg) (ct hg) M5 N5 J J) J<|C8 J (λhg _ hN=>A8 (ct hg) a8Q J) J<|C8 J (λhg _ hN=>A8 (ct hg) b9e J) J<|J0 J (λhg=>G6 (ct hg) C7 J) J<|C8 J (λhg _ hN=>oF J a2Y J) J<|J0 J (λhg=>oS (ct hg) J J a7P J) J<|C8 J (λhg _ hN=>mI J) J<|w8 h λv68 hv53 h=>J0 J (λhg=>A5 (f:=o0.Pv) (cs:=o0.Pc v68) (F2 hv53 hg) (ct hg) (ct hg) M5 N5 J J) J<|C8 J (λhg _ hN=>A8 (ct hg) a8Q J) J<|C8 J (λhg _ hN=>A8 (ct hg) b9e J) J<|J0 J (λhg=>G6 (ct hg) C7 J) J<|C8 J (λhg _ hN=>w7 (ct hg) (ct hg) J) J<|d7 J (λ_ hN=>B6 J J J (λq=>eqF q)) J<|O2 ?_
     refine cN h (λhc h=>?_) λhc h=>?_
     ·refine o8 ?_;refine c5<|a3J (by decide)<|c5<|c5<|l4 ?_
      have h:=xL hx46 h;exact eJ h W
     ·refine c4 ?_;refine S3 2 J<|y0 J (a3F (f:=iF) hv50 J J J J j5 o5 J)<|y0 J (b4P (f:=iF) hv50 J J J C7 J)<|S2 1 J<|S3 5 J<|y0 J (a3F (f:=iF) hv48 J J J J j5 o5 J)<|y0 J (b4P (f:=iF) hv48 J J J C7 J)<|y0 J (a3F (f:=iF) hv50 J J J J j5 o5 J)<|b1Q (f:=iF) (v:=v63) hv50 J J (.inl J) o5<|yN<|S5 4 J<|w8 h λv69 hv54 h=>y0 J (a3F (f:=iF) hv54 J J J J j5 o5 J)<|b1Q (f:=iF) (v:=v65) hv54 J J (.inl J) o5<|yN<|S6 3 J ?_;exact eL h W
    ·refine o8 ?_;refine c5<|c5<|l4 ?_;have h:=xL hx46 h;exact eJ h W
  ·refine o8 ?_;refine c5<|c5<|l4 ?_;have h:=xL hx31 h;exact eJ h W

theorem b2U{a0}:PO Tryz.prog 37 [l7.Pv a0] (P3 a0) λr=>.L iF r:=by
 refine pO Tryz.func37 λr h _ _=>?_;refine S4 2 J<|sR<|y0 J (F9 J j5 o5)<|S2 1 J ?_;refine jq h (λj15=>St.of [(1,.ptr 1 0 0),(3,.sl 910003)] [(910003,⟨List.map iF j15,(List.map iF j15).length,true,1,true⟩),(1,vR (l7.Pv a0) 3)]) (λj15 h=>?_) λκ14 h=>?_
 ·refine S3 2 J ?_;obtain⟨v16,hv12,h⟩:=a7o h;refine ycL J (y8 J b5P J hv12) J<|S2 1 J<|b8 ?_;cases h;exact f1
 ·refine S4 1 J ?_;refine g5<|lq h (λq=>St.of [(1,.ptr 1 0 0),(3,.sl 910003),(4,.I q.1)] [(1,vR (l7.Pv a0) 3),(910003,⟨List.map iF q.2,(List.map iF q.2).length,true,1,true⟩)]) (Wk.trans (G2 (t:=3) (l:=920003) (z:=1) J J) (WP (λl=>if l=910003 then 920003 else l))) λq21 x20 h hx15=>?_
  obtain⟨s18,s19⟩:=q21;refine e6<|S3 3 J<|nL J M5<|S2 1 J ?_;refine cN h (λhc h=>?_) λhc h=>?_
  ·refine c4 ?_;refine jq h (λj26=>St.of [(1,.ptr 1 0 0),(3,.sl 30),(4,.I s18)] [(30,⟨List.map iF j26,(List.map iF j26).length,true,1,true⟩),(1,vR (l7.Pv a0) 3)]) (λj26 h=>?_) λκ25 h=>?_
   ·refine S6 3 J ?_;exact eL h (Wk.trans (n8 _ [30]) (WP (λl=>if l=910003 then 30 else l)))
   ·refine g5 ?_;refine S3 3 J<|iL h J J M5 N5 λv27 hv20 h=>S2 3 J ?_;refine cN h (λhc h=>?_) λhc h=>?_
    ·refine S5 5 J ?_;refine y0 J (A5 (f:=o0.Pv) (cs:=o0.Pc v27) hv20 J J M5 N5 J J)<|S1 2 J<|cA h b2T J J λv28 _ h=>y0 J (H2 (f:=iF) (l:=[v28]) J j5 o5 A3 J J nl J J)<|w8 h λv29 hv22 h=>O5 J (J1 (f:=iF) hv22 J J J J J J (.inl ⟨_,J,J⟩) j5 o5 K1 A3 J (λ_=>J)) J J J<|S2 1 J ?_;exact eJ h (Wk.trans (n8 _ [30]) W)
    ·refine c4 ?_;exact eJ h (Wk.trans (n8 _ [910003]) (WP (λl=>if l=30 then 910003 else l)))
  ·refine o8 ?_;refine c5<|c5<|l4 ?_;have h:=xL hx15 h;exact eJ h (Wk.trans (n8 _ [910003]) W)

theorem c1R{a0 a1}:PO Tryz.prog 86 [C1.Pv a0,.I a1] (b1g a0 a1) λr=>.tup [.I r.1,.I r.2]:=by
 refine pO Tryz.func86 λr h _ _=>?_;refine S4 3 J<|S3 2 J<|cA h a8i J J λv1 _ h=>S2 5 J<|e6<|S4 2 J ?_;refine cN h (λhc h=>?_) λhc h=>?_
 ·refine S4 3 J ?_;refine b8 ?_;cases h;exact f2
 ·refine c4 ?_;refine e6<|S3 3 J<|iL h J J a4M a8S λv2 hv2 h=>S2 3 J ?_;refine cN h (λhc h=>?_) λhc h=>?_
  ·refine S4 2 J ?_;refine b8 ?_;cases h;exact f2
  ·refine c4 ?_;refine S3 3 J<|y0 J (A5 (f:=A9.Pv) (cs:=A9.Pc v2) hv2 J J a4M a8S J J)<|S2 4 J<|b8 ?_;cases h;exact f2

theorem b0g{a0 a1}:PO Tryz.prog 38 [l7.Pv a0,.I a1] (E5 a0 a1) λr=>.tup [C5.Pv r.1,.I r.2]:=by
 refine pO Tryz.func38 λr h _ _=>?_;refine S4 3 J<|S3 1 J<|cF h a6Z J J λv1 _ h=>S1 1 J<|cA h c1R J J λv2 _ h=>S2 5 J<|e6<|S4 2 J ?_;refine cN h (λhc h=>?_) λhc h=>?_
 ·refine sR ?_;refine y0 J (p6 (cs:=[.I 0,.I 0,.I 0,.I 0,.bool false,.nl]) J c5E c5P J J J)<|S1 1 J<|a2p (x':=.agg [.I 0,.I 0,.I 0,.I 0,.bool false,.nl]) (cl':=true) J J (.inl J) a9U<|S2 1 J<|b8 ?_;cases h;exact⟨J,[_,_],⟨oL J J J b30 a9U nl J,⟨J,tr⟩⟩,J,io⟩
 ·refine c4 ?_;refine S3 3 J<|iL h J J M5 N5 λv3 _ h=>S2 4 J<|b8 ?_;cases h;exact⟨J,[_,_],⟨oL J J J b30 a9U nl J,⟨J,tr⟩⟩,J,io⟩

theorem b74{a0}:PO Tryz.prog 39 [.I a0] (V0 a0) λr=>.bool r:=by
 refine pO Tryz.func39 λr h _ _=>?_;unfold V0 at h;refine S4 1 J<|S4 3 J<|b8 ?_;cases h;exact f1

theorem b78{a0 a1}:PO Tryz.prog 143 [.L iF a0,.I a1] (a1x a0 a1) λr=>.I r:=by
 refine pO Tryz.func143 λr h _ _=>?_;refine S4 1 J<|S4 1 J ?_;refine jq h (λj11=>St.of [(5,.I j11)] []) (λj11 h=>?_) λκ10 h=>?_
 ·refine S4 2 J ?_;refine b8 ?_;cases h;exact f1
 ·refine S4 1 J ?_;refine g5<|lq h (λq=>St.of [(0,.L iF a0),(1,.I a1),(5,.I q.1),(6,.I q.2)] []) W λq16 x15 h hx10=>?_;obtain⟨s13,s14⟩:=q16;refine e6<|S3 2 J<|nL J j5<|S2 1 J ?_;refine cN h (λhc h=>?_) λhc h=>?_
  ·refine c4 ?_;refine jq h (λj19=>St.of [(0,.L iF a0),(1,.I a1),(5,.I j19),(6,.I s14)] []) (λj19 h=>?_) λκ18 h=>?_
   ·refine S6 3 J ?_;exact eL h W
   ·refine g5 ?_;refine S3 2 J<|iL h J J j5 o5 λv20 _ h=>S1 4 J<|k7 J (λhg=>mI J)<|k7 J (λhg=>w7 (ct hg) J J)<|y0 J (y6 J J J (λq=>eqT q))<|yN ?_;refine cN h (λhc h=>?_) λhc h=>?_
    ·refine S6 3 J ?_;exact eJ h W
    ·refine c4 ?_;exact eJ h W
  ·refine o8 ?_;refine c5<|c5<|l4 ?_;have h:=xL hx10 h;exact eJ h W

theorem b4Y{a0 a1}:PO Tryz.prog 230 [.L iF a0,.I a1] (a60 a0 a1) λr=>.bool r:=by
 refine pO Tryz.func230 λr h _ _=>?_;refine S4 1 J<|S3 2 J<|cA h b78 J J λv1 _ h=>S2 2 J<|b8 ?_;cases h;exact f1

theorem b1k{a0 a1 a2}:PO Tryz.prog 227 [.L iF a0,.L iF a1,.bool a2] (a5W a0 a1 a2) λr=>.L iF r:=by
 refine pO Tryz.func227 λr h _ _=>?_;refine S4 1 J<|sR<|y0 J (F9 J j5 o5)<|S2 1 J ?_;refine jq h (λj15=>St.of [(7,.sl 910007)] [(910007,⟨List.map iF j15,(List.map iF j15).length,true,1,true⟩)]) (λj15 h=>?_) λκ14 h=>?_
 ·refine S4 2 J ?_;refine b8 ?_;cases h;exact f1
 ·refine S4 1 J ?_;refine g5<|lq h (λq=>St.of [(0,.L iF a0),(1,.L iF a1),(2,.bool a2),(7,.sl 910007),(8,.I q.1)] [(910007,⟨List.map iF q.2,(List.map iF q.2).length,true,1,true⟩)]) (Wk.trans (G2 (t:=7) (l:=920007) (z:=1) J J) (WP (λl=>if l=910007 then 920007 else l))) λq20 x19 h hx14=>?_
  obtain⟨s17,s18⟩:=q20;refine e6<|S3 2 J<|nL J j5<|S2 1 J ?_;refine cN h (λhc h=>?_) λhc h=>?_
  ·refine c4 ?_;refine jq h (λj25=>St.of [(0,.L iF a0),(1,.L iF a1),(2,.bool a2),(7,.sl 30),(8,.I s17)] [(30,⟨List.map iF j25,(List.map iF j25).length,true,1,true⟩)]) (λj25 h=>?_) λκ24 h=>?_
   ·refine S6 3 J ?_;exact eL h (Wk.trans (n8 _ [30]) (WP (λl=>if l=910007 then 30 else l)))
   ·refine g5 ?_;refine S3 3 J<|iL h J J j5 o5 λv26 hv19 h=>S1 1 J<|cA h b4Y J J λv27 _ h=>S1 1 J<|y0 J (d1a J J d0N J)<|yN ?_;refine cN h (λhc h=>?_) λhc h=>?_
    ·refine S5 3 J ?_;refine y0 J (A5 (f:=iF) (cs:=[.I v26]) hv19 J J j5 o5 J J)<|S1 1 J<|y0 J (H2 (f:=iF) (l:=[v26]) J j5 o5 A3 J J nl J J)<|w8 h λv28 hv21 h=>O5 J (J1 (f:=iF) hv21 J J J J J J (.inl ⟨_,J,J⟩) j5 o5 K1 A3 J (λ_=>J)) J J J<|S2 1 J ?_;exact eJ h (Wk.trans (n8 _ [30]) W)
    ·refine c4 ?_;exact eJ h (Wk.trans (n8 _ [910007]) (WP (λl=>if l=30 then 910007 else l)))
  ·refine o8 ?_;refine c5<|c5<|l4 ?_;have h:=xL hx14 h;exact eJ h (Wk.trans (n8 _ [910007]) W)

theorem b75{a0}:PO Tryz.prog 187 [.L iF a0] (a2C a0) λr=>.L iF r:=by
 refine pO Tryz.func187 λr h _ _=>?_;refine S4 1 J<|sR<|y0 J (F9 J j5 o5)<|S2 1 J ?_;refine jq h (λj13=>St.of [(3,.sl 910003)] [(910003,⟨List.map iF j13,(List.map iF j13).length,true,1,true⟩)]) (λj13 h=>?_) λκ12 h=>?_
 ·refine S4 2 J ?_;refine b8 ?_;cases h;exact f1
 ·refine S4 1 J ?_;refine g5<|lq h (λq=>St.of [(0,.L iF a0),(3,.sl 910003),(4,.I q.1)] [(910003,⟨List.map iF q.2,(List.map iF q.2).length,true,1,true⟩)]) (Wk.trans (G2 (t:=3) (l:=920003) (z:=1) J J) (WP (λl=>if l=910003 then 920003 else l))) λq18 x17 h hx12=>?_
  obtain⟨s15,s16⟩:=q18;refine e6<|S3 2 J<|nL J j5<|S2 1 J ?_;refine cN h (λhc h=>?_) λhc h=>?_
  ·refine c4 ?_;refine jq h (λj22=>St.of [(0,.L iF a0),(3,.sl 23),(4,.I s15)] [(23,⟨List.map iF j22,(List.map iF j22).length,true,1,true⟩)]) (λj22 h=>?_) λκ21 h=>?_
   ·refine S6 3 J ?_;exact eL h (Wk.trans (n8 _ [23]) (WP (λl=>if l=910003 then 23 else l)))
   ·refine g5 ?_;refine S3 2 J<|iL h J J j5 o5 λv23 hv16 h=>S2 2 J ?_;refine cN h (λhc h=>?_) λhc h=>?_
    ·refine S5 3 J ?_;refine y0 J (A5 (f:=iF) (cs:=[.I v23]) hv16 J J j5 o5 J J)<|S1 1 J<|y0 J (H2 (f:=iF) (l:=[v23]) J j5 o5 A3 J J nl J J)<|w8 h λv24 hv17 h=>O5 J (J1 (f:=iF) hv17 J J J J J J (.inl ⟨_,J,J⟩) j5 o5 K1 A3 J (λ_=>J)) J J J<|S2 1 J ?_;exact eJ h (Wk.trans (n8 _ [23]) W)
    ·refine c4 ?_;exact eJ h (Wk.trans (n8 _ [910003]) (WP (λl=>if l=23 then 910003 else l)))
  ·refine o8 ?_;refine c5<|c5<|l4 ?_;have h:=xL hx12 h;exact eJ h (Wk.trans (n8 _ [910003]) W)

theorem c1W{a0 a1}:PO Tryz.prog 228 [l7.Pv a0,.I a1] (b1j a0 a1) λr=>.L iF r:=by
 refine pO Tryz.func228 λr h _ _=>?_;refine S4 2 J<|S3 2 J<|cF h b0g J J λv1 _ h=>S2 6 J<|e6<|S4 2 J ?_;refine cN h (λhc h=>?_) λhc h=>?_
 ·refine S4 1 J ?_;refine b8 ?_;cases h;exact f1
 ·refine c4 ?_;refine S3 2 J<|cF h b75 J J λv2 _ h=>S2 1 J<|b8 ?_;cases h;exact f1

theorem b2V{a0 a1}:PO Tryz.prog 145 [l7.Pv a0,.L iF a1] (a5V a0 a1) λr=>.L iF r:=by
 refine pO Tryz.func145 λr h _ _=>?_;refine S4 2 J<|S3 1 J<|cF h b2U J J λv1 _ h=>S2 1 J<|S3 2 J<|cF h b1k J J λv2 _ h=>S2 1 J ?_;refine jq h (λj51=>St.of [(6,.L iF j51)] []) (λj51 h=>?_) λκ50 h=>?_
 ·refine S4 2 J ?_;refine b8 ?_;cases h;exact f1
 ·refine S4 1 J ?_;refine g5<|lq h (λq=>St.of [(2,.ptr 2 0 0),(5,.L iF v1),(6,.L iF q.1),(7,.I q.2)] [(2,vR (l7.Pv a0) 3)]) W λq56 x55 h hx40=>?_;obtain⟨s53,s54⟩:=q56;refine e6<|S3 2 J<|nL J j5<|S2 1 J ?_;refine cN h (λhc h=>?_) λhc h=>?_
  ·refine c4 ?_;refine jq h (λj78=>St.of [(2,.ptr 2 0 0),(5,.L iF v1),(6,.L iF j78),(7,.I s54)] [(2,vR (l7.Pv a0) 3)]) (λj78 h=>?_) λκ77 h=>?_
   ·refine S6 3 J ?_;exact eL h W
   ·refine g5 ?_;refine sR<|y0 J (F9 J j5 o5)<|S1 1 J<|w8 h λv79 hv57 h=>y1 J (b1b (f:=iF) hv57 J J (.inl ⟨_,J,J⟩) j5 o5 K1 A3 J (λ_=>J)) J<|S2 1 J ?_;refine jq h (λj89=>St.of [(2,.ptr 2 0 0),(5,.L iF v1),(7,.I s54),(8,.sl 23)] [(23,⟨List.map iF j89,(List.map iF j89).length,true,1,true⟩),(2,vR (l7.Pv a0) 3)]) (λj89 h=>?_) λκ88 h=>?_
    ·refine S5 2 J ?_;obtain⟨v90,hv65,h⟩:=a7o h;refine ycL J (y8 J b1k J hv65) J<|S2 1 J ?_;exact eJ h W
    ·refine S4 1 J ?_;refine g5<|lq h (λq=>St.of [(2,.ptr 2 0 0),(5,.L iF v1),(6,.L iF s53),(7,.I s54),(8,.sl 23),(9,.I q.1)] [(23,⟨List.map iF q.2,(List.map iF q.2).length,true,1,true⟩),(2,vR (l7.Pv a0) 3)]) (Wk.trans (n8 _ [23]) W) λq95 x94 h hx68=>?_;obtain⟨s92,s93⟩:=q95;refine e6<|S3 2 J<|nL J j5<|S2 1 J ?_;refine cN h (λhc h=>?_) λhc h=>?_
     ·refine c4 ?_;refine e6<|g5<|b0e [] u5 (by kernel_rfl) (by kernel_rfl)<|S7 4 J<|w8 h λv96 hv69 h=>d0 J (A5 (f:=iF) (cs:=[.I v96]) hv69 J J j5 o5 J J) J<|S7 1 J<|w8 h λv97 hv70 h=>d2f J (y8 J c1W J hv70) J<|w8 h λv98 hv71 h=>d3a J (J1 (f:=iF) hv71 J J J J J J (.inl ⟨_,J,J⟩) j5 o5 K1 A3 J (λ_=>J)) J J J J J<|S8 1 J<|S6 3 J ?_
      exact eL h (Wk.trans (n8 _ [37]) (WP (λl=>if l=23 then 37 else l)))
     ·refine o8 ?_;refine c5<|c5<|l4 ?_;have h:=xL hx68 h;exact eJ h (Wk.trans (n8 _ [23]) W)
  ·refine o8 ?_;refine c5<|c5<|l4 ?_;have h:=xL hx40 h;exact eJ h W

theorem c0a{a0}:PO Tryz.prog 223 [.L l5.Pv a0] (b1n a0) λr=>.L iF r:=by
 refine pO Tryz.func223 λr h _ _=>?_;refine S4 1 J<|sR<|y0 J (F9 J j5 o5)<|S2 1 J ?_;refine jq h (λj13=>St.of [(3,.sl 910003)] [(910003,⟨List.map iF j13,(List.map iF j13).length,true,1,true⟩)]) (λj13 h=>?_) λκ12 h=>?_
 ·refine S4 2 J ?_;refine b8 ?_;cases h;exact f1
 ·refine S4 1 J ?_;refine g5<|lq h (λq=>St.of [(0,.L l5.Pv a0),(3,.sl 910003),(4,.I q.1)] [(910003,⟨List.map iF q.2,(List.map iF q.2).length,true,1,true⟩)]) (Wk.trans (G2 (t:=3) (l:=920003) (z:=1) J J) (WP (λl=>if l=910003 then 920003 else l))) λq18 x17 h hx12=>?_
  obtain⟨s15,s16⟩:=q18;refine e6<|S3 2 J<|nL J a0M<|S2 1 J ?_;refine cN h (λhc h=>?_) λhc h=>?_
  ·refine c4 ?_;refine jq h (λj22=>St.of [(0,.L l5.Pv a0),(3,.sl 25),(4,.I s15)] [(25,⟨List.map iF j22,(List.map iF j22).length,true,1,true⟩)]) (λj22 h=>?_) λκ21 h=>?_
   ·refine S6 3 J ?_;exact eL h (Wk.trans (n8 _ [25]) (WP (λl=>if l=910003 then 25 else l)))
   ·refine g5 ?_;refine S3 2 J<|iL h J J a0M a1K λv23 hv16 h=>S2 3 J ?_;refine cN h (λhc h=>?_) λhc h=>?_
    ·refine S5 3 J ?_;refine y0 J (A5 (f:=l5.Pv) (cs:=l5.Pc v23) hv16 J J a0M a1K J J)<|S1 2 J<|y0 J (H2 (f:=iF) (l:=[v23.Key]) J j5 o5 A3 J J nl J J)<|w8 h λv24 hv17 h=>O5 J (J1 (f:=iF) hv17 J J J J J J (.inl ⟨_,J,J⟩) j5 o5 K1 A3 J (λ_=>J)) J J J<|S2 1 J ?_;exact eJ h (Wk.trans (n8 _ [25]) W)
    ·refine c4 ?_;exact eJ h (Wk.trans (n8 _ [910003]) (WP (λl=>if l=25 then 910003 else l)))
  ·refine o8 ?_;refine c5<|c5<|l4 ?_;have h:=xL hx12 h;exact eJ h (Wk.trans (n8 _ [910003]) W)

theorem b99{a0 a1}:PO Tryz.prog 132 [.L l5.Pv a0,.I a1] (a04 a0 a1) λr=>.I r:=by
 refine pO Tryz.func132 λr h _ _=>?_;refine S4 1 J ?_;refine jq h (λ_=>St.of [] []) (λq6 h=>?_) λκ5 h=>?_
 ·refine S4 1 J ?_;refine b8 ?_;cases h;exact f1
 ·refine S4 1 J ?_;refine g5<|lq h (λs8=>St.of [(0,.L l5.Pv a0),(1,.I a1),(5,.I s8)] []) W λs8 x9 h hx8=>e6<|S3 2 J<|nL J a0M<|S2 1 J ?_;refine cN h (λhc h=>?_) λhc h=>?_
  ·refine c4 ?_;refine e6<|g5<|S3 2 J<|iL h J J a0M a1K λv10 hv9 h=>S1 4 J<|k7 J (λhg=>om (d:=.L l5.Pv a0) J)<|k7 J (λhg=>mI J)<|k7 J (λhg=>A5 (f:=l5.Pv) (cs:=l5.Pc v10) hv9 (ct hg) (ct hg) a0M a1K J J)<|k7 J (λhg=>A8 (ct hg) c4c J)<|k7 J (λhg=>G6 (ct hg) C7 J)<|k7 J (λhg=>mI J)<|k7 J (λhg=>w7 (ct hg) (ct hg) J)<|y0 J (y6 J J J (λq=>eqT q))<|yN ?_;refine cN h (λhc h=>?_) λhc h=>?_
   ·refine S4 2 J ?_;refine b8 ?_;have h:=xL hx8 h;cases h;exact f1
   ·refine c4 ?_;refine S6 3 J ?_;exact eL h W
  ·refine o8 ?_;refine c5<|c5<|l4 ?_;have h:=xL hx8 h;exact eJ h W

theorem c1Z{a0 a1}:PO Tryz.prog 224 [.L l5.Pv a0,.I a1] (a87 a0 a1) λr=>.tup [.I r.1,.I r.2]:=by
 refine pO Tryz.func224 λr h _ _=>?_;refine S4 2 J<|S3 2 J<|cA h b99 J J λv1 _ h=>S2 1 J<|e6<|S4 2 J ?_;refine cN h (λhc h=>?_) λhc h=>?_
 ·refine S4 2 J ?_;refine b8 ?_;cases h;exact f2
 ·refine c4 ?_;refine S3 2 J<|iL h J J a0M a1K λv2 _ h=>S2 4 J<|b8 ?_;cases h;exact f2

theorem b8c{a0}:PO Tryz.prog 135 [.L l5.Pv a0] (a35 a0) λr=>.L B9.Pv r:=by
 refine pO Tryz.func135 λr h _ _=>?_;refine S4 1 J<|sR<|y0 J (F9 J a4N a6t)<|S2 1 J<|S3 1 J<|cF h c0a J J λv1 _ h=>S2 1 J ?_;refine jq h (λj11=>St.of [(3,.sl 910003)] [(910003,⟨List.map B9.Pv j11,(List.map B9.Pv j11).length,true,2,true⟩)]) (λj11 h=>?_) λκ10 h=>?_
 ·refine S4 2 J ?_;refine b8 ?_;cases h;exact f1
 ·refine S4 1 J ?_;refine g5<|lq h (λq=>St.of [(0,.L l5.Pv a0),(3,.sl 910003),(4,.L iF v1),(5,.I q.1)] [(910003,⟨List.map B9.Pv q.2,(List.map B9.Pv q.2).length,true,2,true⟩)]) (Wk.trans (G2 (t:=3) (l:=920003) (z:=2) J J) (WP (λl=>if l=910003 then 920003 else l))) λq16 x15 h hx11=>?_
  obtain⟨s13,s14⟩:=q16;refine e6<|S3 2 J<|nL J j5<|S2 1 J ?_;refine cN h (λhc h=>?_) λhc h=>?_
  ·refine c4 ?_;refine e6<|g5<|S3 3 J<|iL h J J j5 o5 λv17 hv12 h=>S1 1 J<|cA h c1Z J J λv18 _ h=>S2 5 J<|S5 3 J<|y0 J (A5 (f:=iF) (cs:=[.I v17]) hv12 J J j5 o5 J J)<|S1 2 J<|y0 J (p6 (cs:=[.I v17,.I v18.1]) J c8P b68 J J J)<|y0 J (H2 (f:=B9.Pv) (l:=[(⟨v17,v18.1⟩:B9)]) J a4N a6t b68 J J nl J J)<|w8 h λv19 hv14 h=>O5 J (J1 (f:=B9.Pv) hv14 J J J J J J (.inl ⟨_,J,J⟩) a4N a6t c8t b68 J (λ_=>J)) J J J<|S2 1 J<|S6 3 J ?_;exact eL h (Wk.trans (n8 _ [34]) (WP (λl=>if l=910003 then 34 else l)))
  ·refine o8 ?_;refine c5<|c5<|l4 ?_;have h:=xL hx11 h;exact eJ h (Wk.trans (n8 _ [910003]) W)

theorem b1p{a0 a1}:PO Tryz.prog 229 [l7.Pv a0,.I a1] (a5X a0 a1) λr=>.bool r:=by
 refine pO Tryz.func229 λr h _ _=>?_;refine S4 2 J<|S3 2 J<|cF h b0g J J λv1 _ h=>S2 6 J<|S4 3 J<|b8 ?_;cases h;exact f1

theorem c0d{a0 a1 a2}:PO Tryz.prog 146 [l7.Pv a0,.L l5.Pv a1,.L iF a2] (a8m a0 a1 a2) λr=>.L iF r:=by
 refine pO Tryz.func146 λr h _ _=>?_;refine S4 2 J<|sR<|y0 J (F9 J j5 o5)<|S2 1 J<|S3 1 J<|cF h b8c J J λv1 _ h=>S2 1 J ?_;refine jq h (λj20=>St.of [(7,.sl 910007)] [(910007,⟨List.map iF j20,(List.map iF j20).length,true,1,true⟩)]) (λj20 h=>?_) λκ19 h=>?_
 ·refine S4 2 J ?_;refine b8 ?_;cases h;exact f1
 ·refine S4 1 J ?_;refine g5<|lq h (λq=>St.of [(2,.L iF a2),(3,.ptr 3 0 0),(7,.sl 910007),(8,.L B9.Pv v1),(9,.I q.1)] [(3,vR (l7.Pv a0) 3),(910007,⟨List.map iF q.2,(List.map iF q.2).length,true,1,true⟩)]) (Wk.trans (G2 (t:=7) (l:=920007) (z:=1) J J) (WP (λl=>if l=910007 then 920007 else l))) λq25 x24 h hx19=>?_
  obtain⟨s22,s23⟩:=q25;refine e6<|S3 2 J<|nL J a4N<|S2 1 J ?_;refine cN h (λhc h=>?_) λhc h=>?_
  ·refine c4 ?_;refine jq h (λj32=>St.of [(2,.L iF a2),(3,.ptr 3 0 0),(7,.sl 51),(8,.L B9.Pv v1),(9,.I s22)] [(51,⟨List.map iF j32,(List.map iF j32).length,true,1,true⟩),(3,vR (l7.Pv a0) 3)]) (λj32 h=>?_) λκ31 h=>?_
   ·refine S6 3 J ?_;exact eL h (Wk.trans (n8 _ [51]) (WP (λl=>if l=910007 then 51 else l)))
   ·refine g5 ?_;refine dr [] u5 (by kernel_rfl) (by kernel_rfl)<|S7 3 J<|w8 h λv33 hv26 h=>d0 J (A5 (f:=B9.Pv) (cs:=B9.Pc v33) hv26 J J a4N a6t J J) J<|S7 2 J<|w8 h λv34 hv27 h=>d2 J (F1 J b1p J hv27) J<|S7 1 J<|C8 J (λhg _ hN=>om (d:=.L iF a2) J) J<|C8 J (λhg _ hN=>om (d:=.L B9.Pv v1) J) J<|C8 J (λhg _ hN=>mI J) J<|J0 J (λhg=>A5 (f:=B9.Pv) (cs:=B9.Pc v33) hv26 (ct hg) (ct hg) a4N a6t J J) J<|C8 J (λhg _ hN=>A8 (ct hg) c4f J) J<|J0 J (λhg=>G6 (ct hg) C7 J) J<|w8 h λv35 hv28 h=>c22 J (λhg=>F1 J b4Y (E3 (ct hg) (E3 (ct hg) J)) (F2 hv28 hg)) J<|d7 J (λ_ hN=>y6 J J J (λq=>eqT q)) J<|S7 1 J<|J0 J (λhg=>oL J J J c0U b64 nl J) J<|C8 J (λhg _ hN=>om (d:=.L B9.Pv v1) J) J<|C8 J (λhg _ hN=>mI J) J<|J0 J (λhg=>A5 (f:=B9.Pv) (cs:=B9.Pc v33) hv26 (ct hg) (ct hg) a4N a6t J J) J<|C8 J (λhg _ hN=>A8 (ct hg) c4g J) J<|J0 J (λhg=>G6 (ct hg) C7 J) J<|w8 h λv36 hv29 h=>c22 J (λhg=>F1 J b1p (E3 (ct hg) (E3 (ct hg) J)) (F2 hv29 hg)) J<|d7 J (λ_ hN=>y6 J J J (λq=>eqT q)) J<|O2 ?_
    refine cN h (λhc h=>?_) λhc h=>?_
    ·refine S5 3 J ?_;refine y0 J (A5 (f:=B9.Pv) (cs:=B9.Pc v33) hv26 J J a4N a6t J J)<|S1 2 J<|y0 J (H2 (f:=iF) (l:=[v33.Val]) J j5 o5 A3 J J nl J J)<|w8 h λv37 hv30 h=>O5 J (J1 (f:=iF) hv30 J J J J J J (.inl ⟨_,J,J⟩) j5 o5 K1 A3 J (λ_=>J)) J J J<|S2 1 J ?_;exact eJ h (Wk.trans (n8 _ [51]) W)
    ·refine c4 ?_;exact eJ h (Wk.trans (n8 _ [910007]) (WP (λl=>if l=51 then 910007 else l)))
  ·refine o8 ?_;refine c5<|c5<|l4 ?_;have h:=xL hx19 h;exact eJ h (Wk.trans (n8 _ [910007]) W)

theorem b5Q{a0 a1 a2}:PO Tryz.prog 87 [l7.Pv a0,.L l5.Pv a1,.L iF a2] (a61 a0 a1 a2) λr=>.tup [.L iF r.1,.I r.2]:=by
 refine pO Tryz.func87 λr h _ _=>?_;refine S4 3 J<|S3 2 J<|cF h b2V J J λv1 _ h=>S2 1 J ?_;refine jq h (λj13=>St.of [(8,.L iF j13)] []) (λj13 h=>?_) λκ12 h=>?_
 ·refine S4 3 J ?_;refine b8 ?_;cases h;exact f2
 ·refine S4 1 J ?_;refine g5<|lq h (λq=>St.of [(1,.L l5.Pv a1),(3,.ptr 3 0 0),(8,.L iF q.1),(9,.I q.2)] [(3,vR (l7.Pv a0) 3)]) W λq18 x17 h hx13=>?_;obtain⟨s15,s16⟩:=q18;refine e6<|S4 2 J ?_;refine cN h (λhc h=>?_) λhc h=>?_
  ·refine c4 ?_;refine e6<|g5<|dr [9] u5 (by kernel_rfl) (by kernel_rfl)<|S7 1 J<|d1n J (F9 J j5 o5) J<|S7 1 J<|w8 h λv19 hv14 h=>d3 J (b1b (f:=iF) hv14 J J (.inl ⟨_,J,J⟩) j5 o5 K1 A3 J (λ_=>J)) J J J<|S7 3 J<|w8 h λv20 hv15 h=>d2f J (y8 J c0d J hv15) J<|w8 h λv21 hv16 h=>d3a J (J1 (f:=iF) hv16 J J J J J J (.inl ⟨_,J,J⟩) j5 o5 K1 A3 J (λ_=>J)) J J J J J<|w8 h λv22 hv17 h=>d5f J (y8 J b2V J hv17) J J<|S8 1 J<|e6<|S3 2 J<|cA h a5a J J λv23 _ h=>yN ?_
   refine cN h (λhc h=>?_) λhc h=>?_
   ·refine S4 4 J ?_;refine b8 ?_;have h:=xL hx13 h;cases h;exact f2
   ·refine c4 ?_;refine S6 2 J<|S6 3 J ?_;exact eL h W
  ·refine o8 ?_;refine c5<|c5<|l4 ?_;have h:=xL hx13 h;exact eJ h W

theorem c0c{a0 a1 a2}:PO Tryz.prog 40 [l7.Pv a0,.L l5.Pv a1,.L iF a2] (a8l a0 a1 a2) λr=>.L iF r:=by
 refine pO Tryz.func40 λr h _ _=>?_;refine S4 2 J<|S3 3 J<|cF h b5Q J J λv1 _ h=>S2 5 J<|S4 2 J<|b8 ?_;cases h;exact f1

theorem w21_EngineQuiet_ok{a0 a1 a2 a3}:PO Tryz.prog 7 [.int .u8 a0,.int .u8 a1,.L (Ls g6.Pv) a2,.L (Ls iF) a3] (a3B a0 a1 a2 a3) λr=>.bool r:=by
 refine pO Tryz.func7 λr h _ _=>?_;refine S4 1 J<|e6<|S3 1 J<|cA h a8O J J λv1 _ h=>S1 2 J<|k7 J (λhg=>om (d:=.L (Ls iF) a3) J)<|w8 h λv2 hv2 h=>k7 J (λhg=>F1 J a7m (E3 (ct hg) (E3 J J)) (F2 hv2 hg))<|k7 J (λhg=>a1w (ct hg) J)<|y0 J (B6 J J J (λq=>eqF q))<|S1 1 J<|w8 h λv3 hv3 h=>k7 J (λhg=>F1 J a0I J (F2 hv3 hg))<|k7 J (λhg=>a1w (ct hg) J)<|y0 J (B6 J J J (λq=>eqF q))<|yN ?_;refine cN h (λhc h=>?_) λhc h=>?_
 ·refine sR ?_;refine cA h a0I J J λv4 _ h=>S2 1 J<|b8 ?_;cases h;exact f1
 ·refine c4 ?_;refine S3 1 J<|y0 J (c1C J c5I c5y J)<|w8 h λv5 hv5 h=>y0 J (a5N J J hv5)<|S1 2 J<|y0 J (c1C J c5I c5y J)<|w8 h λv6 hv6 h=>y0 J (a5N J J hv6)<|S1 1 J<|cF h X7 J J λv7 _ h=>S2 6 J<|e6<|S4 2 J ?_;refine cN h (λhc h=>?_) λhc h=>?_
  ·refine S4 3 J ?_;refine b8 ?_;cases h;exact f1
  ·refine c4 ?_;refine S3 2 J<|cF h a0X J J λv8 _ h=>S2 4 J<|S3 1 J<|y0 J (H2 (f:=iF) (l:=[11,0,0,0]) J j5 o5 A3 J J nl J J)<|cF h a3M J J λv9 _ h=>S2 6 J<|S3 1 J<|y0 J (H2 (f:=iF) (l:=[12,0,0,0]) J j5 o5 A3 J J nl J J)<|cF h a3M J J λv10 _ h=>S2 6 J<|e6<|S3 4 J<|k7 J (λhg=>oF J b0q J)<|k7 J (λhg=>oS (ct hg) J J a6p J)<|k7 J (λhg=>w7 (ct hg) J J)<|y0 J (B6 J J J (λq=>eqF q))<|S1 1 J<|k7 J (λhg=>oF J b32 J)<|k7 J (λhg=>oL (ct hg) J J s6 o9 nl J)<|w8 h λv11 hv11 h=>k7 J (λhg=>F1 J b5r (E3 (ct hg) J) (F2 hv11 hg))<|k7 J (λhg=>a1w (ct hg) J)<|y0 J (B6 J J J (λq=>eqF q))<|yN ?_;refine cN h (λhc h=>?_) λhc h=>?_
   ·refine S3 4 J ?_;refine k7 J (λhg=>oF J b0q J)<|k7 J (λhg=>oS (ct hg) J J a6p J)<|k7 J (λhg=>w7 (ct hg) J J)<|y0 J (B6 J J J (λq=>eqF q))<|S2 1 J<|b8 ?_;cases h;exact f1
   ·refine c4 ?_;refine S3 2 J<|cF h b22 J J λv12 _ h=>S2 2 J<|sR<|y0 J (F9 J j5 o5)<|S1 2 J<|w8 h λv13 hv13 h=>y1 J (b1b (f:=iF) hv13 J J (.inl ⟨_,J,J⟩) j5 o5 K1 A3 J (λ_=>J)) J<|S2 1 J<|S3 2 J<|cF h b2U J J λv14 _ h=>S2 1 J ?_;refine jq h (λj31=>St.of [(9,.ptr 9 0 0),(13,.ptr 13 0 0),(14,.sl 96),(15,.L iF v14)] [(96,⟨List.map iF j31,(List.map iF j31).length,true,1,true⟩),(13,vR (g7.Pv v12) 8),(9,vR (n7.Pv v10.1) 9)]) (λj31 h=>?_) λκ30 h=>?_
    ·refine S4 1 J ?_;refine jq h (λj42=>St.of [(9,.ptr 9 0 0),(13,.ptr 13 0 0),(14,.sl 96),(15,.L iF v14),(19,.I j42)] [(96,⟨List.map iF j31,(List.map iF j31).length,true,1,true⟩),(13,vR (g7.Pv v12) 8),(9,vR (n7.Pv v10.1) 9)]) (λj42 h=>?_) λκ41 h=>?_
     ·refine S3 5 J ?_;obtain⟨v43,hv35,h⟩:=a7o h;refine ycL J (y8 J c0c J hv35) J<|S1 1 J<|cA h a5a J J λv44 _ h=>S1 1 J<|k7 J (λhg=>oL J J J a1I T7 nl J)<|w8 h λv45 hv37 h=>k7 J (λhg=>F1 J a7q (E3 (ct hg) J) (F2 hv37 hg))<|y0 J (y6 J J J (λq=>eqT q))<|S1 1 J<|k7 J (λhg=>oL J J J a1I T7 nl J)<|w8 h λv46 hv38 h=>k7 J (λhg=>F1 J a7r (E3 (ct hg) J) (F2 hv38 hg))<|k7 J (λhg=>d5b (xs:=[v46.a,v46.b,v46.c,v46.d]) (ct hg) J c00 C7 o5 (by decide) (by decide) J)<|k7 J (λhg=>mI J)<|k7 J (λhg=>w7 (ct hg) (ct hg) J)<|y0 J (y6 J J J (λq=>eqT q))<|S2 1 J<|b8 ?_
      cases h;exact f1
     ·refine S4 1 J ?_;refine g5<|lq h (λq=>St.of [(9,.ptr 9 0 0),(13,.ptr 13 0 0),(14,.sl 96),(15,.L iF v14),(19,.I q.1),(20,.I q.2)] [(96,⟨List.map iF j31,(List.map iF j31).length,true,1,true⟩),(13,vR (g7.Pv v12) 8),(9,vR (n7.Pv v10.1) 9)]) (Wk.trans (n8 _ [96]) W) λq51 x50 h hx41=>?_;obtain⟨s48,s49⟩:=q51;refine e6<|S3 4 J<|nL J M5<|S2 1 J ?_;refine cN h (λhc h=>?_) λhc h=>?_
      ·refine c4 ?_;refine jq h (λj54=>St.of [(9,.ptr 9 0 0),(13,.ptr 13 0 0),(14,.sl 96),(15,.L iF v14),(19,.I j54),(20,.I s49)] [(96,⟨List.map iF j31,(List.map iF j31).length,true,1,true⟩),(13,vR (g7.Pv v12) 8),(9,vR (n7.Pv v10.1) 9)]) (λj54 h=>?_) λκ53 h=>?_
       ·refine S6 3 J ?_;exact eL h (Wk.trans (n8 _ [96]) W)
       ·refine g5 ?_;refine e6<|S3 4 J<|iL h J J M5 N5 λv55 hv44 h=>S2 3 J ?_;refine cN h (λhc h=>?_) λhc h=>?_
        ·refine o8 ?_;refine c5<|l4 ?_;exact eJ h (Wk.trans (n8 _ [96]) W)
        ·refine c4 ?_;refine S4 3 J<|S3 4 J<|y0 J (A5 (f:=o0.Pv) (cs:=o0.Pc v55) hv44 J J M5 N5 J J)<|S2 4 J ?_;refine cN h (λhc h=>?_) λhc h=>?_
         ·refine S4 1 J ?_;refine b8 ?_;have h:=xL hx41 h;cases h;exact f1
         ·refine c4 ?_;exact eJ h (Wk.trans (n8 _ [96]) W)
      ·refine o8 ?_;refine c5<|c5<|l4 ?_;have h:=xL hx41 h;exact eJ h (Wk.trans (n8 _ [96]) W)
    ·refine S4 1 J ?_;refine g5<|lq h (λq=>St.of [(9,.ptr 9 0 0),(13,.ptr 13 0 0),(14,.sl 96),(15,.L iF v14),(16,.I q.1)] [(96,⟨List.map iF q.2,(List.map iF q.2).length,true,1,true⟩),(13,vR (g7.Pv v12) 8),(9,vR (n7.Pv v10.1) 9)]) (Wk.trans (n8 _ [96]) W) λq60 x59 h hx47=>?_;obtain⟨s57,s58⟩:=q60;refine e6<|S3 2 J<|nL J j5<|S2 1 J ?_;refine cN h (λhc h=>?_) λhc h=>?_
     ·refine c4 ?_;refine jq h (λj66=>St.of [(9,.ptr 9 0 0),(13,.ptr 13 0 0),(14,.sl 125),(15,.L iF v14),(16,.I s57)] [(125,⟨List.map iF j66,(List.map iF j66).length,true,1,true⟩),(13,vR (g7.Pv v12) 8),(9,vR (n7.Pv v10.1) 9)]) (λj66 h=>?_) λκ65 h=>?_
      ·refine S6 3 J ?_;exact eL h (Wk.trans (n8 _ [125]) (WP (λl=>if l=96 then 125 else l)))
      ·refine g5 ?_;refine dr [] u5 (by kernel_rfl) (by kernel_rfl)<|S7 4 J<|w8 h λv67 hv53 h=>d0 J (A5 (f:=iF) (cs:=[.I v67]) hv53 J J j5 o5 J J) J<|S7 1 J<|w8 h λv68 hv54 h=>d2f J (y8 J b0g J hv54) J<|S7 4 J<|E8 (x':=C5.Pv v68.1) (cl':=true) J J (.inr J) a9U<|S8 1 J<|S3 2 J<|cA h b74 J J λv69 _ h=>yN ?_
       refine cN h (λhc h=>?_) λhc h=>?_
       ·refine S5 3 J ?_;refine y0 J (A5 (f:=iF) (cs:=[.I v67]) hv53 J J j5 o5 J J)<|S1 1 J<|y0 J (H2 (f:=iF) (l:=[v67]) J j5 o5 A3 J J nl J J)<|w8 h λv70 hv56 h=>O5 J (J1 (f:=iF) hv56 J J J J J J (.inl ⟨_,J,J⟩) j5 o5 K1 A3 J (λ_=>J)) J J J<|S2 1 J ?_;exact eJ h (Wk.trans (n8 _ [125]) W)
       ·refine c4 ?_;exact eJ h (Wk.trans (n8 _ [96]) (WP (λl=>if l=125 then 96 else l)))
     ·refine o8 ?_;refine c5<|c5<|l4 ?_;have h:=xL hx47 h;exact eJ h (Wk.trans (n8 _ [96]) W)

theorem b5R{a0}:PO Tryz.prog 41 [.L iF a0] (a0j a0) λr=>.tup [r9.Pv r.1,.I r.2]:=by
 refine pO Tryz.func41 λr h _ _=>?_;refine S4 2 J<|e6<|S3 1 J<|nL J j5<|S2 1 J ?_;refine cN h (λhc h=>?_) λhc h=>?_
 ·refine sR ?_;refine y0 J (p6 (cs:=[.I 0,.I 0,.I 0,.I 0]) J b61 b0u J J J)<|S2 2 J<|b8 ?_;cases h;exact⟨J,[_,_],⟨oL J J J b3m a2L nl J,⟨J,tr⟩⟩,J,io⟩
 ·refine c4 ?_;refine dr [] u5 (by kernel_rfl) (by kernel_rfl)<|S7 1 J<|w8 h λv1 hv1 h=>d0 J (A5 (f:=iF) (cs:=[.I v1]) hv1 J J j5 o5 J J) J<|S7 2 J<|w8 h λv2 hv2 h=>d0 J (A5 (f:=iF) (cs:=[.I v2]) hv2 J J j5 o5 J J) J<|S7 2 J<|w8 h λv3 hv3 h=>d0 J (A5 (f:=iF) (cs:=[.I v3]) hv3 J J j5 o5 J J) J<|S7 2 J<|w8 h λv4 hv4 h=>d0 J (A5 (f:=iF) (cs:=[.I v4]) hv4 J J j5 o5 J J) J<|S7 1 J<|d7 J (λ_ hN=>p6 (cs:=[.I v1,.I v2,.I v3,.I v4]) J b61 b0u J J J) J<|S7 1 J<|E8 (x':=.agg [.I v1,.I v2,.I v3,.I v4]) (cl':=true) J J (.inl J) a2L<|O2<|S3 1 J<|cA h b1t J J λv5 _ h=>S2 1 J<|e6<|S4 2 J ?_
  refine cN h (λhc h=>?_) λhc h=>?_
  ·refine sR ?_;refine y0 J (p6 (cs:=[.I 0,.I 0,.I 0,.I 0]) J b61 b0u J J J)<|S2 3 J<|b8 ?_;cases h;exact⟨J,[_,_],⟨oL J J J b3m a2L nl J,⟨J,tr⟩⟩,J,io⟩
  ·refine c4 ?_;refine S4 3 J<|b8 ?_;cases h;exact⟨J,[_,_],⟨oL J J J b3m a2L nl J,⟨J,tr⟩⟩,J,io⟩

theorem a8N{a0}:PO Tryz.prog 35 [.L k9.Pv a0] (a3l a0) λr=>.L p8.Pv r:=by
 refine pO Tryz.func35 λr h _ _=>?_;refine S4 1 J<|sR<|y0 J (F9 J a7R b36)<|S2 1 J ?_;refine jq h (λj9=>St.of [(3,.sl 910003)] [(910003,⟨List.map p8.Pv j9,(List.map p8.Pv j9).length,true,2,true⟩)]) (λj9 h=>?_) λκ8 h=>?_
 ·refine S4 2 J ?_;refine b8 ?_;cases h;exact f1
 ·refine S4 1 J ?_;refine g5<|lq h (λq=>St.of [(0,.L k9.Pv a0),(3,.sl 910003),(4,.I q.1)] [(910003,⟨List.map p8.Pv q.2,(List.map p8.Pv q.2).length,true,2,true⟩)]) (Wk.trans (G2 (t:=3) (l:=920003) (z:=2) J J) (WP (λl=>if l=910003 then 920003 else l))) λq14 x13 h hx9=>?_
  obtain⟨s11,s12⟩:=q14;refine e6<|S3 2 J<|nL J a2r<|S2 1 J ?_;refine cN h (λhc h=>?_) λhc h=>?_
  ·refine c4 ?_;refine e6<|g5<|S5 3 J<|iL h J J a2r M6 λv15 _ h=>S1 1 J<|y0 J (H2 (f:=p8.Pv) (l:=[(⟨v15.V,v15.E⟩:p8)]) J a7R b36 c5O J J nl J J)<|w8 h λv16 hv11 h=>O5 J (J1 (f:=p8.Pv) hv11 J J J J J J (.inl ⟨_,J,J⟩) a7R b36 d1z c5O J (λ_=>J)) J J J<|S2 1 J<|S6 3 J ?_;exact eL h (Wk.trans (n8 _ [18]) (WP (λl=>if l=910003 then 18 else l)))
  ·refine o8 ?_;refine c5<|c5<|l4 ?_;have h:=xL hx9 h;exact eJ h (Wk.trans (n8 _ [910003]) W)

theorem b44{a0 a1}:PO Tryz.prog 34 [.L p8.Pv a0,.L p8.Pv a1] (a5c a0 a1) λr=>.bool r:=by
 refine pO Tryz.func34 λr h _ _=>?_;refine S4 1 J<|e6<|S3 1 J<|nL J a7R<|S1 1 J<|nL J a7R<|S2 1 J ?_;refine cN h (λhc h=>?_) λhc h=>?_
 ·refine S4 1 J ?_;refine b8 ?_;cases h;exact f1
 ·refine c4 ?_;refine jq h (λ_=>St.of [] []) (λq7 h=>?_) λκ6 h=>?_
  ·refine S4 1 J ?_;refine b8 ?_;cases h;exact f1
  ·refine S4 1 J ?_;refine g5<|lq h (λs9=>St.of [(0,.L p8.Pv a0),(1,.L p8.Pv a1),(5,.I s9)] []) W λs9 x10 h hx9=>e6<|S3 2 J<|nL J a7R<|S2 1 J ?_;refine cN h (λhc h=>?_) λhc h=>?_
   ·refine c4 ?_;refine e6<|g5<|dr [] u5 (by kernel_rfl) (by kernel_rfl)<|S7 2 J<|w8 h λv11 hv10 h=>d0 J (A5 (f:=p8.Pv) (cs:=p8.Pc v11) hv10 J J a7R b36 J J) J<|S7 3 J<|w8 h λv12 hv11 h=>d0 J (A5 (f:=p8.Pv) (cs:=p8.Pc v12) hv11 J J a7R b36 J J) J<|S7 1 J<|d7 J (λ_ hN=>c3r (xs:=p8.Pc v11) (ys:=p8.Pc v12) d1D J J J J) J<|O2 ?_
    refine cN h (λhc h=>?_) λhc h=>?_
    ·refine S4 1 J ?_;refine b8 ?_;have h:=xL hx9 h;cases h;exact f1
    ·refine c4 ?_;refine S6 3 J ?_;exact eL h W
   ·refine o8 ?_;refine c5<|c5<|l4 ?_;have h:=xL hx9 h;exact eJ h W

theorem w21_EngineWrong_ok{a0 a1 a2 a3 a4}:PO Tryz.prog 8 [.int .u8 a0,.L (Ls g6.Pv) a1,.L (Ls iF) a2,.L iF a3,.L (Ls iF) a4] (a3C a0 a1 a2 a3 a4) λr=>.bool r:=by
 refine pO Tryz.func8 λr h _ _=>?_;refine S4 1 J<|e6<|S3 1 J<|cA h a8O J J λv1 _ h=>S1 2 J<|k7 J (λhg=>om (d:=.L (Ls iF) a2) J)<|w8 h λv2 hv2 h=>k7 J (λhg=>F1 J a7m (E3 (ct hg) (E3 J J)) (F2 hv2 hg))<|k7 J (λhg=>a1w (ct hg) J)<|y0 J (B6 J J J (λq=>eqF q))<|S1 1 J<|k7 J (λhg=>om (d:=.L (Ls iF) a4) J)<|w8 h λv3 hv3 h=>k7 J (λhg=>F1 J a7m (E3 (ct hg) (E3 J J)) (F2 hv3 hg))<|k7 J (λhg=>a1w (ct hg) J)<|y0 J (B6 J J J (λq=>eqF q))<|S1 1 J<|k7 J (λhg=>om (d:=.L iF a3) J)<|k7 J (λhg=>X0 (f:=iF) (ct hg) j5)<|k7 J (λhg=>w7 (ct hg) J J)<|y0 J (B6 J J J (λq=>eqF q))<|S1 1 J<|w8 h λv4 hv4 h=>k7 J (λhg=>F1 J a0I J (F2 hv4 hg))<|k7 J (λhg=>a1w (ct hg) J)<|y0 J (B6 J J J (λq=>eqF q))<|yN ?_;refine cN h (λhc h=>?_) λhc h=>?_
 ·refine sR ?_;refine cA h a0I J J λv5 _ h=>S2 1 J<|b8 ?_;cases h;exact f1
 ·refine c4 ?_;refine S3 1 J<|y0 J (c1C J c5I c5y J)<|w8 h λv6 hv6 h=>y0 J (a5N J J hv6)<|S1 2 J<|cF h X7 J J λv7 _ h=>S2 6 J<|S3 1 J<|cA h b5R J J λv8 _ h=>S2 6 J<|e6<|S3 3 J<|k7 J (λhg=>mI J)<|k7 J (λhg=>w7 (ct hg) J J)<|y0 J (B6 J J J (λq=>eqF q))<|yN ?_;refine cN h (λhc h=>?_) λhc h=>?_
  ·refine S3 3 J ?_;refine k7 J (λhg=>mI J)<|k7 J (λhg=>w7 (ct hg) J J)<|y0 J (B6 J J J (λq=>eqF q))<|S2 1 J<|b8 ?_;cases h;exact f1
  ·refine c4 ?_;refine S3 2 J<|cF h a0X J J λv9 _ h=>S2 4 J<|S3 2 J<|cF h a3M J J λv10 _ h=>S2 7 J<|S3 2 J<|cF h a0X J J λv11 _ h=>S2 6 J<|S3 2 J<|cF h a0X J J λv12 _ h=>S2 6 J<|S3 2 J<|y0 J (p6 (cs:=[.I 0,.I v8.2]) J c0Z b37 J J J)<|y0 J (c66 (xs:=k9.Pc v10.2) (ys:=[.I 0,.I v8.2]) c5F J J J)<|S1 1 J<|k7 J (λhg=>om (d:=.L k9.Pv v11.2) J)<|w8 h λv13 hv13 h=>c8d J (λhg=>y8 J a8N (E3 (ct hg) J) (F2 hv13 hg))<|k7 J (λhg=>om (d:=.L k9.Pv v12.2) J)<|w8 h λv14 hv14 h=>c8d J (λhg=>y8 J a8N (E3 (ct hg) J) (F2 hv14 hg))<|w8 h λv15 hv15 h=>k7 J (λhg=>F1 J b44 (E3 (ct hg) (E3 (ct hg) J)) (F2 hv15 hg))<|y0 J (y6 J J J (λq=>eqT q))<|S2 1 J<|b8 ?_;cases h;exact f1

end Go.Proofs.YtjlokngooekbcaaGreat.Ok
