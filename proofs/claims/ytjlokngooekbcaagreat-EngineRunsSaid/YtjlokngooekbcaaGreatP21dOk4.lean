/-
 The functions of the program do as the plain functions do.
-/
import Derived.Test.YtjlokngooekbcaaGreatP21dOk3
set_option linter.unusedVariables false
set_option linter.unusedSimpArgs false
set_option linter.unusedSectionVars false
namespace Go.Proofs.YtjlokngooekbcaaGreat.Ok
open Go Go.Pw Go.Sh Go.Proofs
set_option maxRecDepth 100000
set_option maxHeartbeats 4000000
theorem c03{a0 a1}:PO Tryz.prog 48 [.L g9.Pv a0,.L g9.Pv a1] (b14 a0 a1) λr=>.bool r:=by
 refine pO Tryz.func48 λr h _ _=>?_;refine S4 1 J<|c8<|S3 1 J<|nL J R8<|S1 1 J<|nL J R8<|S2 1 J ?_;refine cN h (λhc h=>?_) λhc h=>?_
 ·refine S4 1 J ?_;refine b6 ?_;cases h;exact f1
 ·refine b8 ?_;refine jq h (λ_=>St.of [] []) (λq7 h=>?_) λκ6 h=>?_
  ·refine S4 1 J ?_;refine b6 ?_;cases h;exact f1
  ·refine S4 1 J ?_;refine c9<|lq h (λs9=>St.of [(0,.L g9.Pv a0),(1,.L g9.Pv a1),(5,.I s9)] []) W λs9 x10 h hx9=>c8<|S3 2 J<|nL J R8<|S2 1 J ?_;refine cN h (λhc h=>?_) λhc h=>?_
   ·refine b8 ?_;refine c8<|c9<|dr [] o9 (by kernel_rfl) (by kernel_rfl)<|S7 2 J<|r9 h λv11 hv10 h=>d0 J (u7 (f:=g9.Pv) (cs:=g9.Pc v11) hv10 J J R8 T9 J J) J<|S7 3 J<|r9 h λv12 hv11 h=>d0 J (u7 (f:=g9.Pv) (cs:=g9.Pc v12) hv11 J J R8 T9 J J) J<|S7 1 J<|d7 J (λ_ hN=>c4k (xs:=g9.Pc v11) (ys:=g9.Pc v12) c9J J J J J) J<|G0 ?_
    refine cN h (λhc h=>?_) λhc h=>?_
    ·refine S4 1 J ?_;refine b6 ?_;have h:=xL hx9 h;cases h;exact f1
    ·refine b8 ?_;refine S6 3 J ?_;exact eL h W
   ·refine o5 ?_;refine c4<|c4<|k7 ?_;have h:=xL hx9 h;exact eJ h W

theorem c1a{a0 a1}:PO Tryz.prog 49 [w7.Pv a0,w7.Pv a1] (b2c a0 a1) λr=>.bool r:=by
 refine pO Tryz.func49 λr h _ _=>?_;refine S4 3 J<|c8<|S3 6 J<|l4 J (λhg=>oF J b4P J)<|l4 J (λhg=>oS (ct hg) J J b7H J)<|l4 J (λhg=>T8 (f:=o6.Pv) (ct hg) R9)<|l4 J (λhg=>oF J b4P J)<|l4 J (λhg=>oS (ct hg) J J b7H J)<|l4 J (λhg=>T8 (f:=o6.Pv) (ct hg) R9)<|l4 J (λhg=>y5 (ct hg) (ct hg) J)<|y0 J (C7 J J J (λq=>eqF q))<|yN ?_;refine cN h (λhc h=>?_) λhc h=>?_
 ·refine S4 1 J ?_;refine b6 ?_;cases h;exact f1
 ·refine b8 ?_;refine jq h (λ_=>St.of [] []) (λq7 h=>?_) λκ6 h=>?_
  ·refine S4 1 J ?_;refine b6 ?_;cases h;exact f1
  ·refine S4 1 J ?_;refine c9<|lq h (λs9=>St.of [(2,.ptr 2 0 0),(3,.ptr 3 0 0),(5,.I s9)] [(3,vR (w7.Pv a1) 2),(2,vR (w7.Pv a0) 2)]) W λs9 x10 h hx9=>c8<|S3 3 J<|nL J R9<|S2 1 J ?_;refine cN h (λhc h=>?_) λhc h=>?_
   ·refine b8 ?_;refine c8<|c9<|dr [] o9 (by kernel_rfl) (by kernel_rfl)<|S7 3 J<|r9 h λv11 hv10 h=>d0 J (u7 (f:=o6.Pv) (cs:=o6.Pc v11) hv10 J J R9 H3 J J) J<|S7 4 J<|r9 h λv12 hv11 h=>d0 J (u7 (f:=o6.Pv) (cs:=o6.Pc v12) hv11 J J R9 H3 J J) J<|S7 1 J<|d7 J (λ_ hN=>c4k (xs:=o6.Pc v11) (ys:=o6.Pc v12) c9K J J J J) J<|G0 ?_
    refine cN h (λhc h=>?_) λhc h=>?_
    ·refine S4 1 J ?_;refine b6 ?_;have h:=xL hx9 h;cases h;exact f1
    ·refine b8 ?_;refine S6 3 J ?_;exact eL h W
   ·refine o5 ?_;refine c4<|c4<|k7 ?_;have h:=xL hx9 h;exact eJ h W

theorem c1c{a0 a1}:PO Tryz.prog 16 [c7.Pv a0,c7.Pv a1] (b2e a0 a1) λr=>.bool r:=by
 refine pO Tryz.func16 λr h _ _=>?_;refine S4 3 J<|S3 4 J<|cA h c0Y J J λv1 _ h=>S1 1 J<|l4 J (λhg=>oF J b9Z J)<|l4 J (λhg=>oS (ct hg) J J a8k J)<|l4 J (λhg=>oF J b9Z J)<|l4 J (λhg=>oS (ct hg) J J a8k J)<|r9 h λv2 hv2 h=>l4 J (λhg=>D4 J a8Q (D8 (ct hg) (D8 (ct hg) J)) (G8 hv2 hg))<|y0 J (z7 J J J (λq=>eqT q))<|S1 1 J<|l4 J (λhg=>oF J b90 J)<|l4 J (λhg=>oS (ct hg) J J c6o J)<|l4 J (λhg=>oF J b90 J)<|l4 J (λhg=>oS (ct hg) J J c6o J)<|r9 h λv3 hv3 h=>l4 J (λhg=>D4 J c00 (D8 (ct hg) (D8 (ct hg) J)) (G8 hv3 hg))<|y0 J (z7 J J J (λq=>eqT q))<|S1 1 J<|l4 J (λhg=>oF J b91 J)<|l4 J (λhg=>oS (ct hg) J J c6p J)<|l4 J (λhg=>oF J b91 J)<|l4 J (λhg=>oS (ct hg) J J c6p J)<|r9 h λv4 hv4 h=>l4 J (λhg=>D4 J c03 (D8 (ct hg) (D8 (ct hg) J)) (G8 hv4 hg))<|y0 J (z7 J J J (λq=>eqT q))<|S1 1 J<|l4 J (λhg=>oF J b4Q J)<|l4 J (λhg=>oL (ct hg) J J a8m a4w nl J)<|l4 J (λhg=>oF J b4Q J)<|l4 J (λhg=>oL (ct hg) J J a8m a4w nl J)<|r9 h λv5 hv5 h=>l4 J (λhg=>D4 J c1a (D8 (ct hg) (D8 (ct hg) J)) (G8 hv5 hg))<|y0 J (z7 J J J (λq=>eqT q))<|S2 1 J<|b6 ?_;cases h;exact f1

theorem b57{a0}:PO Tryz.prog 35 [.L l6.Pv a0] (a5J a0) λr=>.L p7.Pv r:=by
 refine pO Tryz.func35 λr h _ _=>?_;refine S4 1 J<|sR<|y0 J (A2 J a4v a2E)<|S2 1 J ?_;refine jq h (λj9=>St.of [(3,.sl 910003)] [(910003,⟨List.map p7.Pv j9,(List.map p7.Pv j9).length,true,2,true⟩)]) (λj9 h=>?_) λκ8 h=>?_
 ·refine S4 2 J ?_;refine b6 ?_;cases h;exact f1
 ·refine S4 1 J ?_;refine c9<|lq h (λq=>St.of [(0,.L l6.Pv a0),(3,.sl 910003),(4,.I q.1)] [(910003,⟨List.map p7.Pv q.2,(List.map p7.Pv q.2).length,true,2,true⟩)]) (Wk.trans (C9 (t:=3) (l:=920003) (z:=2) J J) (WP (λl=>if l=910003 then 920003 else l))) λq14 x13 h hx9=>?_
  obtain⟨s11,s12⟩:=q14;refine c8<|S3 2 J<|nL J a2D<|S2 1 J ?_;refine cN h (λhc h=>?_) λhc h=>?_
  ·refine b8 ?_;refine c8<|c9<|S5 3 J<|iL h J J a2D N4 λv15 _ h=>S1 1 J<|y0 J (G1 (f:=p7.Pv) (l:=[(⟨v15.V,v15.E⟩:p7)]) J a4v a2E a8r J J nl J J)<|r9 h λv16 hv11 h=>H5 J (F1 (f:=p7.Pv) hv11 J J J J J J (.inl ⟨_,J,J⟩) a4v a2E c6r a8r J (λ_=>J)) J J J<|S2 1 J<|S6 3 J ?_;exact eL h (Wk.trans (n0 _ [18]) (WP (λl=>if l=910003 then 18 else l)))
  ·refine o5 ?_;refine c4<|c4<|k7 ?_;have h:=xL hx9 h;exact eJ h (Wk.trans (n0 _ [910003]) W)

theorem b5K{a0 a1}:PO Tryz.prog 34 [.L p7.Pv a0,.L p7.Pv a1] (a5F a0 a1) λr=>.bool r:=by
 refine pO Tryz.func34 λr h _ _=>?_;refine S4 1 J<|c8<|S3 1 J<|nL J a4v<|S1 1 J<|nL J a4v<|S2 1 J ?_;refine cN h (λhc h=>?_) λhc h=>?_
 ·refine S4 1 J ?_;refine b6 ?_;cases h;exact f1
 ·refine b8 ?_;refine jq h (λ_=>St.of [] []) (λq7 h=>?_) λκ6 h=>?_
  ·refine S4 1 J ?_;refine b6 ?_;cases h;exact f1
  ·refine S4 1 J ?_;refine c9<|lq h (λs9=>St.of [(0,.L p7.Pv a0),(1,.L p7.Pv a1),(5,.I s9)] []) W λs9 x10 h hx9=>c8<|S3 2 J<|nL J a4v<|S2 1 J ?_;refine cN h (λhc h=>?_) λhc h=>?_
   ·refine b8 ?_;refine c8<|c9<|dr [] o9 (by kernel_rfl) (by kernel_rfl)<|S7 2 J<|r9 h λv11 hv10 h=>d0 J (u7 (f:=p7.Pv) (cs:=p7.Pc v11) hv10 J J a4v a2E J J) J<|S7 3 J<|r9 h λv12 hv11 h=>d0 J (u7 (f:=p7.Pv) (cs:=p7.Pc v12) hv11 J J a4v a2E J J) J<|S7 1 J<|d7 J (λ_ hN=>c4k (xs:=p7.Pc v11) (ys:=p7.Pc v12) d2y J J J J) J<|G0 ?_
    refine cN h (λhc h=>?_) λhc h=>?_
    ·refine S4 1 J ?_;refine b6 ?_;have h:=xL hx9 h;cases h;exact f1
    ·refine b8 ?_;refine S6 3 J ?_;exact eL h W
   ·refine o5 ?_;refine c4<|c4<|k7 ?_;have h:=xL hx9 h;exact eJ h W

theorem w21_EngineRuns_ok{a0 a1 a2 a3 a4}:PO Tryz.prog 5 [.I a0,.I a1,.I a2,.L (Ls g8.Pv) a3,.L (Ls iF) a4] (a4Z a0 a1 a2 a3 a4) λr=>.bool r:=by
 refine pO Tryz.func5 λr h _ _=>?_;refine S4 1 J<|c8<|S3 1 J<|cA h c1I J J λv1 _ h=>S1 2 J<|l4 J (λhg=>om (d:=.L (Ls iF) a4) J)<|r9 h λv2 hv2 h=>l4 J (λhg=>D4 J b9D (D8 (ct hg) (D8 J J)) (G8 hv2 hg))<|l4 J (λhg=>a2f (ct hg) J)<|y0 J (C7 J J J (λq=>eqF q))<|S1 1 J<|r9 h λv3 hv3 h=>l4 J (λhg=>D4 J b2D J (G8 hv3 hg))<|l4 J (λhg=>a2f (ct hg) J)<|y0 J (C7 J J J (λq=>eqF q))<|yN ?_;refine cN h (λhc h=>?_) λhc h=>?_
 ·refine sR ?_;refine cA h b2D J J λv4 _ h=>S2 1 J<|b6 ?_;cases h;exact f1
 ·refine b8 ?_;refine S3 4 J<|cF h a29 J J λv5 _ h=>S2 6 J<|c8<|S4 2 J ?_;refine cN h (λhc h=>?_) λhc h=>?_
  ·refine S3 3 J ?_;refine nL J g7<|S2 2 J<|b6 ?_;cases h;exact f1
  ·refine b8 ?_;refine S3 2 J<|cF h b0j J J λv6 _ h=>S2 6 J<|S3 1 J<|cF h c1H J J λv7 _ h=>S1 1 J<|cF h c20 J J λv8 _ h=>S2 6 J<|dr [] o9 (by kernel_rfl) (by kernel_rfl)<|S7 2 J<|r9 h λv9 hv9 h=>d2 J (D4 J c3k J hv9) J<|S7 1 J<|D0 J (λhg _ hN=>oF J b9X J) J<|J7 J (λhg=>oL (ct hg) J J u9 p9 nl J) J<|r9 h λv10 hv10 h=>c63 J (λhg=>u6 J b3P (D8 (ct hg) J) (G8 hv10 hg)) J<|D0 J (λhg _ hN=>oF J c6v J) J<|J7 J (λhg=>oL (ct hg) J J A6 u5 nl J) J<|r9 h λv11 hv11 h=>b41 J (λhg=>D4 J c1c (D8 (ct hg) (D8 (ct hg) J)) (G8 hv11 hg)) J<|d7 J (λ_ hN=>z7 J J J (λq=>eqT q)) J<|S7 1 J<|D0 J (λhg _ hN=>om (d:=.L l6.Pv v6.2) J) J<|r9 h λv12 hv12 h=>c63 J (λhg=>u6 J b57 (D8 (ct hg) J) (G8 hv12 hg)) J<|D0 J (λhg _ hN=>om (d:=.L p7.Pv v8.2) J) J<|r9 h λv13 hv13 h=>b41 J (λhg=>D4 J b5K (D8 (ct hg) (D8 (ct hg) J)) (G8 hv13 hg)) J<|d7 J (λ_ hN=>z7 J J J (λq=>eqT q)) J<|S8 1 J<|b6 ?_
   cases h;exact f1

end Go.Proofs.YtjlokngooekbcaaGreat.Ok
