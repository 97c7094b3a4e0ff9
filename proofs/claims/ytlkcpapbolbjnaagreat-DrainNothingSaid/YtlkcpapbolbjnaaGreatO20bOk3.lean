/-
 The functions of the program do as the plain functions do.
-/
import Derived.Test.YtlkcpapbolbjnaaGreatO20bOk2
set_option linter.unusedVariables false
set_option linter.unusedSimpArgs false
set_option linter.unusedSectionVars false
namespace Go.Proofs.YtlkcpapbolbjnaaGreat.Ok
open Go Go.Pw Go.Sh Go.Proofs
set_option maxRecDepth 100000
set_option maxHeartbeats 4000000
theorem a6U{a0}:PO Tryz.prog 272 [a7.Pv a0] (S0 a0) λr=>.bool r:=by
 refine pO Tryz.func272 λr h _ _=>?_;refine S4 2 J<|sR<|b6G (KT:=Int) (VT:=Bool) (EK:=iF) (E:=PV.bool) 5000006 J J<|S2 1 J ?_;refine jq h (λ_=>St.of [] []) (λq13 h=>?_) λκ12 h=>?_
 ·refine S4 1 J ?_;refine b8 ?_;cases h;exact f1
 ·refine S3 3 J ?_;refine nL J H0<|S2 1 J<|g6<|lq h (λq=>St.of [(3,.mp 5000006),(9,.L b7.Pv a0.S.Cells),(10,.I (a0.S.Cells.length:Int)),(11,.I q.1)] [(5000006,⟨[.mapc (List.map (ent iF PV.bool) q.2)],0,false,0,false⟩)]) W λq18 x17 h hx12=>?_;obtain⟨s15,s16⟩:=q18;refine S4 1 J<|g7 ?_;refine cN h (λhc h=>?_) λhc h=>?_
  ·refine b9 ?_;refine jq h (λj22=>St.of [(3,.mp 5000006),(9,.L b7.Pv a0.S.Cells),(10,.I (a0.S.Cells.length:Int)),(11,.I s15)] [(5000006,⟨[.mapc (List.map (ent iF PV.bool) j22)],0,false,0,false⟩)]) (λj22 h=>?_) λκ21 h=>?_
   ·refine S6 2 J ?_;exact eL h W
   ·refine g6 ?_;refine sR<|iL h J J H0 M0 λv23 _ h=>S2 3 J<|g7<|S3 1 J<|cA h a0o J J λv24 _ h=>S2 1 J ?_;refine cN h (λhc h=>?_) λhc h=>?_
    ·refine m7 ?_;refine c4<|j4 ?_;exact eJ h W
    ·refine b9 ?_;refine g7<|S3 4 J<|c59 (es:=s16) (k:=v23.Val.Serial) (E:=PV.bool) (EK:=iF) (d:=.bool ((A9 s16 v23.Val.Serial).getD (false:Bool))) J J J J b0z (B4 O9) c3W J (lk1 _ _ _)<|yN ?_;refine cN h (λhc h=>?_) λhc h=>?_
     ·refine S4 1 J ?_;refine b8 ?_;have h:=xL hx12 h;cases h;exact f1
     ·refine b9 ?_;refine S5 4 J<|a0K (es:=s16) (k:=v23.Val.Serial) (v:=true) (E:=PV.bool) (EK:=iF) (.inl J) J J J J J J b0z (B4 O9)<|yN ?_;exact eJ h W
  ·refine m7 ?_;refine c4<|c4<|j4 ?_;have h:=xL hx12 h;exact eJ h W

theorem b5c{a0}:PO Tryz.prog 194 [a7.Pv a0] (a27 a0) λr=>.bool r:=by
 refine pO Tryz.func194 λr h _ _=>?_;refine S4 2 J<|g7<|S3 3 J<|nL J H0<|S1 2 J<|c5 J (λhg=>oF J b3W J)<|c5 J (λhg=>oF (ct hg) b3V J)<|c5 J (λhg=>oS (ct hg) J J p7 J)<|c5 J (λhg=>l5 (ct hg) J J)<|y0 J (o9 J J J (λq=>I8 q))<|S1 1 J<|c5 J (λhg=>oF J b3W J)<|c5 J (λhg=>oF (ct hg) b3V J)<|c5 J (λhg=>oS (ct hg) J J p7 J)<|c5 J (λhg=>l5 (ct hg) J J)<|y0 J (o9 J J J (λq=>I8 q))<|S1 1 J<|c5 J (λhg=>oF J b3X J)<|c5 J (λhg=>oS (ct hg) J J p7 J)<|c5 J (λhg=>l5 (ct hg) J J)<|y0 J (o9 J J J (λq=>I8 q))<|yN ?_;refine cN h (λhc h=>?_) λhc h=>?_
 ·refine S4 1 J ?_;refine b8 ?_;cases h;exact f1
 ·refine b9 ?_;refine jq h (λ_=>St.of [(1,.ptr 1 0 0)] [(1,vR (a7.Pv a0) 3)]) (λq23 h=>?_) λκ22 h=>?_
  ·refine S3 1 J ?_;refine cA h a6U J J λv24 _ h=>S2 1 J<|b8 ?_;cases h;exact f1
  ·refine S3 3 J ?_;refine nL J H0<|S2 1 J<|g6<|lq h (λs26=>St.of [(1,.ptr 1 0 0),(31,.L b7.Pv a0.S.Cells),(32,.I (a0.S.Cells.length:Int)),(33,.I s26)] [(1,vR (a7.Pv a0) 3)]) W λs26 x27 h hx29=>S4 1 J<|g7 ?_;refine cN h (λhc h=>?_) λhc h=>?_
   ·refine b9 ?_;refine jq h (λ_=>St.of [(1,.ptr 1 0 0),(31,.L b7.Pv a0.S.Cells),(32,.I (a0.S.Cells.length:Int)),(33,.I s26)] [(1,vR (a7.Pv a0) 3)]) (λq37 h=>?_) λκ36 h=>?_
    ·refine S6 2 J ?_;exact eL h W
    ·refine g6 ?_;refine sR<|iL h J J H0 M0 λv38 _ h=>S2 3 J<|sR<|cF h b5d J J λv39 _ h=>nL J b6M<|S2 1 J<|g6<|lq h (λs41=>St.of [(1,.ptr 1 0 0),(4,.ptr 4 0 0),(31,.L b7.Pv a0.S.Cells),(32,.I (a0.S.Cells.length:Int)),(33,.I s26),(37,.lst true (List.map B9.Pv v39)),(38,.I (v39.length:Int)),(39,.I s41)] [(4,vR (b7.Pv v38) 8),(1,vR (a7.Pv a0) 3)]) W λs41 x42 h hx45=>S4 1 J<|g7 ?_;refine cN h (λhc h=>?_) λhc h=>?_
     ·refine b9 ?_;refine g7<|g6<|sR<|iL h J J b6M c1w λv43 _ h=>S2 3 J<|S3 4 J ?_;obtain⟨v44,hv47,h⟩:=a7H h;obtain⟨n45,he48,hk49,hp50⟩:=c0p hv47;refine L2 (c2v 44 J he48)<|y0 J (b4E J hk49 J hp50)<|S2 1 J ?_;refine cN h (λhc h=>?_) λhc h=>?_
      ·refine S4 1 J ?_;refine b8 ?_;have h:=xL hx45 h;have h:=xL hx29 h;cases h;exact f1
      ·refine b9 ?_;refine S6 2 J ?_;exact eL h W
     ·refine m7 ?_;refine c4<|c4<|j4 ?_;have h:=xL hx45 h;exact eJ h W
   ·refine m7 ?_;refine c4<|c4<|j4 ?_;have h:=xL hx29 h;exact eJ h W

theorem b5E{a0}:PO Tryz.prog 195 [.L c7.Pv a0] (a6m a0) λr=>.bool r:=by
 refine pO Tryz.func195 λr h _ _=>?_;refine S4 1 J<|g7<|S3 1 J<|nL J Q0<|S1 2 J<|c5 J (λhg=>om (d:=.L c7.Pv a0) J)<|c5 J (λhg=>J7 (f:=c7.Pv) (ct hg) Q0)<|c5 J (λhg=>l5 (ct hg) J J)<|y0 J (o9 J J J (λq=>I8 q))<|yN ?_;refine cN h (λhc h=>?_) λhc h=>?_
 ·refine S4 1 J ?_;refine b8 ?_;cases h;exact f1
 ·refine b9 ?_;refine jq h (λ_=>St.of [] []) (λq7 h=>?_) λκ6 h=>?_
  ·refine S4 1 J ?_;refine b8 ?_;cases h;exact f1
  ·refine S3 1 J ?_;refine nL J Q0<|S2 1 J<|g6<|lq h (λs9=>St.of [(0,.L c7.Pv a0),(14,.L c7.Pv a0),(15,.I (a0.length:Int)),(16,.I s9)] []) W λs9 x10 h hx9=>S4 1 J<|g7 ?_;refine cN h (λhc h=>?_) λhc h=>?_
   ·refine b9 ?_;refine g7<|g6<|S3 1 J<|iL h J J Q0 V1 λv11 _ h=>S2 4 J<|S3 1 J<|y0 J (s7 (cs:=[.I 0,.I 0,.I 0]) J b3m a8B J J J)<|y0 J (c1X (xs:=c7.Pc v11) (ys:=[.I 0,.I 0,.I 0]) c1u J J J)<|S1 1 J<|c5 J (λhg=>oL J J J c6m V1 nl J)<|c5 J (λhg=>s7 (cs:=[.I 2,.I 0,.I 0]) J b3m a8B J J J)<|c5 J (λhg=>c1X (xs:=c7.Pc v11) (ys:=[.I 2,.I 0,.I 0]) c1u (ct hg) (ct hg) J)<|y0 J (o9 J J J (λq=>I8 q))<|S2 1 J<|S3 3 J<|c5 J (λhg=>oF J c2C J)<|c5 J (λhg=>oS (ct hg) J J p7 J)<|c5 J (λhg=>l5 (ct hg) J J)<|c5 J (λhg=>om (d:=.bool (v11.State != 1)) (ct hg))<|c5 (r9 J J J) (λhg=>om (d:=.L c7.Pv a0) J)<|c5 (r9 J J J) (λhg=>oF J b54 J)<|c5 (r9 J J J) (λhg=>oS (ct hg) J J p7 J)<|w8 h λv12 hv11 h=>c5 (r9 J J J) (λhg=>z8 J a3D (u6 (ct hg) (u6 (ct hg) J)) (y7 hv11 hg))<|c5 (r9 J J J) (λhg=>mI J)<|c5 (r9 J J J) (λhg=>l5 (ct hg) (ct hg) J)<|c5 J (λhg=>o9 (ct hg) J J (λq=>a2a hg (I8 q)))<|y0 J (m8 J J J (λq=>J2 q))<|yN ?_;refine cN h (λhc h=>?_) λhc h=>?_
    ·refine S4 1 J ?_;refine b8 ?_;have h:=xL hx9 h;cases h;exact f1
    ·refine b9 ?_;refine S6 2 J ?_;exact eL h W
   ·refine m7 ?_;refine c4<|c4<|j4 ?_;have h:=xL hx9 h;exact eJ h W

theorem b01{a0}:PO Tryz.prog 121 [a8.Pv a0] (a1H a0) λr=>.bool r:=by
 refine pO Tryz.func121 λr h _ _=>?_;refine S4 2 J<|sR<|cF h b26 J J λv1 _ h=>S2 2 J<|S3 2 J<|cA h b5c J J λv2 _ h=>S1 1 J<|c5 J (λhg=>oF J b8I J)<|c5 J (λhg=>oS (ct hg) J J a9V J)<|w8 h λv3 hv3 h=>c5 J (λhg=>z8 J b5E (u6 (ct hg) J) (y7 hv3 hg))<|y0 J (m8 J J J (λq=>J2 q))<|S1 1 J<|c5 J (λhg=>oF J a5p J)<|c5 J (λhg=>oS (ct hg) J J U9 J)<|c5 J (λhg=>J7 (f:=iF) (ct hg) j8)<|c5 J (λhg=>l5 (ct hg) J J)<|y0 J (m8 J J J (λq=>J2 q))<|S1 1 J<|c5 J (λhg=>oF J a2P J)<|c5 J (λhg=>oS (ct hg) J J a7s J)<|c5 J (λhg=>J7 (f:=g5.Pv) (ct hg) G0)<|c5 J (λhg=>l5 (ct hg) J J)<|y0 J (m8 J J J (λq=>J2 q))<|S1 1 J<|c5 J (λhg=>oF J a0L J)<|c5 J (λhg=>oF (ct hg) c3I J)<|c5 J (λhg=>oS (ct hg) J J p7 J)<|c5 J (λhg=>mI J)<|c5 J (λhg=>l5 (ct hg) (ct hg) J)<|y0 J (m8 J J J (λq=>J2 q))<|S1 1 J<|c5 J (λhg=>oF J a0L J)<|c5 J (λhg=>oF (ct hg) a2O J)<|c5 J (λhg=>oS (ct hg) J J a7t J)<|c5 J (λhg=>J7 (f:=c8.Pv) (ct hg) F7)<|c5 J (λhg=>mI J)<|c5 J (λhg=>l5 (ct hg) (ct hg) J)<|y0 J (m8 J J J (λq=>J2 q))<|S2 1 J ?_;refine b8 ?_;cases h;exact f1

theorem a9s{a0 a1}:PO Tryz.prog 198 [.I a0,.rptr (a8.Pc a1)] (a2f a0 a1) λr=>.bool r:=by
 refine pO Tryz.func198 λr h _ _=>?_;refine S4 1 J<|S3 2 J<|cA h O6 J J λv1 _ h=>S2 1 J<|b8 ?_;cases h;exact f1

theorem a1s{a0 a1}:PO Tryz.prog 197 [.L iF a0,.fn (.func 198) [.rptr (a8.Pc a1)]] (F3 a0 a1) λr=>.bool r:=by
 refine pO Tryz.func197 λr h _ _=>?_;refine S4 1 J ?_;refine jq h (λ_=>St.of [] []) (λq7 h=>?_) λκ6 h=>?_
 ·refine S4 1 J ?_;refine b8 ?_;cases h;exact f1
 ·refine S3 1 J ?_;refine nL J j8<|S2 1 J<|g6<|lq h (λs9=>St.of [(1,.fn (.func 198) [.rptr (a8.Pc a1)]),(7,.L iF a0),(8,.I (a0.length:Int)),(9,.I s9)] []) W λs9 x10 h hx9=>S4 1 J<|g7 ?_;refine cN h (λhc h=>?_) λhc h=>?_
  ·refine b9 ?_;refine g7<|g6<|sR<|iL h J J j8 o8 λv11 _ h=>S2 2 J<|S3 2 J<|cA h a9s J J λv12 _ h=>S2 1 J ?_;refine cN h (λhc h=>?_) λhc h=>?_
   ·refine S4 1 J ?_;refine b8 ?_;have h:=xL hx9 h;cases h;exact f1
   ·refine b9 ?_;refine S6 2 J ?_;exact eL h W
  ·refine m7 ?_;refine c4<|c4<|j4 ?_;have h:=xL hx9 h;exact eJ h W

theorem a4O{a0}:PO Tryz.prog 122 [a8.Pv a0] (a0f a0) λr=>.bool r:=by
 refine pO Tryz.func122 λr h _ _=>?_;unfold a0f at h;refine S4 2 J<|S3 2 J<|w8 h λv1 hv1 h=>ycN J (b6r J a0V J hv1) J J<|S2 1 J ?_;refine jq h (λj12=>St.of [(1,.ptr 1 0 0),(3,.sl 10)] [(10,⟨List.map iF j12,(List.map iF j12).length,true,1,true⟩),(1,vR (a8.Pv a0) 8)]) (λj12 h=>?_) λκ11 h=>?_
 ·refine S3 2 J ?_;refine cA h a1s J J λv13 _ h=>S2 1 J<|b8 ?_;cases h;exact f1
 ·refine S3 2 J ?_;refine cF h a2M J J λv14 _ h=>nL J j8<|S2 1 J<|g6<|lq h (λq=>St.of [(1,.ptr 1 0 0),(3,.sl 10),(13,.L iF v14),(14,.I (v14.length:Int)),(15,.I q.1)] [(10,⟨List.map iF q.2,(List.map iF q.2).length,true,1,true⟩),(1,vR (a8.Pv a0) 8)]) (Wk.trans (n7 _ [10]) W) λq19 x18 h hx14=>?_;obtain⟨s16,s17⟩:=q19;refine S4 1 J<|g7 ?_;refine cN h (λhc h=>?_) λhc h=>?_
  ·refine b9 ?_;refine g7<|g6<|sR<|iL h J J j8 o8 λv20 _ h=>S2 2 J<|S3 3 J<|cF h B7 J J λv21 _ h=>S2 6 J<|S5 3 J<|w8 h λv22 hv17 h=>O5 J (K5 (f:=iF) hv17 J J J J J J (.inl ⟨_,J,J⟩) j8 o8 O2 C2 J (λ_=>J)) J J J<|S2 1 J<|S6 2 J ?_;exact eL h (Wk.trans (n7 _ [29]) (WP (λl=>if l=10 then 29 else l)))
  ·refine m7 ?_;refine c4<|c4<|j4 ?_;have h:=xL hx14 h;exact eJ h (Wk.trans (n7 _ [10]) W)

theorem a7L{a0}:PO Tryz.prog 275 [.L c7.Pv a0] (a1h a0) λr=>.fn (.func 344) [.rptr [.L c7.Pv r]]:=by
 refine pO Tryz.func275 λr h _ _=>?_;unfold a1h at h;refine S4 2 J<|S4 2 J<|b8 ?_;cases h;exact f1

theorem b0U{a0}:PO Tryz.prog 345 [.L c7.Pv a0] (a5x a0) λr=>.L iF r:=by
 refine pO Tryz.func345 λr h _ _=>?_;refine S4 1 J<|S4 1 J ?_;refine jq h (λj13=>St.of [(3,.sl 910003)] [(910003,⟨List.map iF j13,(List.map iF j13).length,true,1,true⟩)]) (λj13 h=>?_) λκ12 h=>?_
 ·refine S4 2 J ?_;refine b8 ?_;cases h;exact f1
 ·refine S3 1 J ?_;refine nL J Q0<|S2 1 J<|g6<|lq h (λq=>St.of [(3,.sl 910003),(6,.L c7.Pv a0),(7,.I (a0.length:Int)),(8,.I q.1)] [(910003,⟨List.map iF q.2,(List.map iF q.2).length,true,1,true⟩)]) (Wk.trans (H4 (t:=3) (l:=920003) (z:=1) J J) (WP (λl=>if l=910003 then 920003 else l))) λq18 x17 h hx12=>?_
  obtain⟨s15,s16⟩:=q18;refine S4 1 J<|g7 ?_;refine cN h (λhc h=>?_) λhc h=>?_
  ·refine b9 ?_;refine jq h (λj22=>St.of [(3,.sl 19),(6,.L c7.Pv a0),(7,.I (a0.length:Int)),(8,.I s15)] [(19,⟨List.map iF j22,(List.map iF j22).length,true,1,true⟩)]) (λj22 h=>?_) λκ21 h=>?_
   ·refine S6 2 J ?_;exact eL h (Wk.trans (n7 _ [19]) (WP (λl=>if l=910003 then 19 else l)))
   ·refine g6 ?_;refine sR<|iL h J J Q0 V1 λv23 _ h=>S2 3 J<|S4 3 J ?_;refine cN h (λhc h=>?_) λhc h=>?_
    ·refine S5 3 J ?_;refine y0 J (N9 (f:=iF) (l:=[v23.Key]) J j8 o8 C2 J J nl J J)<|w8 h λv24 hv17 h=>O5 J (K5 (f:=iF) hv17 J J J J J J (.inl ⟨_,J,J⟩) j8 o8 O2 C2 J (λ_=>J)) J J J<|S2 1 J ?_;exact eJ h (Wk.trans (n7 _ [19]) W)
    ·refine b9 ?_;exact eJ h (Wk.trans (n7 _ [910003]) (WP (λl=>if l=19 then 910003 else l)))
  ·refine m7 ?_;refine c4<|c4<|j4 ?_;have h:=xL hx12 h;exact eJ h (Wk.trans (n7 _ [910003]) W)

theorem b2c{a0}:PO Tryz.prog 276 [l6.Pv a0] (a2D a0) λr=>.bool r:=by
 refine pO Tryz.func276 λr h _ _=>?_;unfold a2D at h;refine S4 2 J<|S4 1 J<|b8 ?_;cases h;exact f1

theorem K0{a0}:PO Tryz.prog 274 [.fn (.func 344) [.rptr [.L c7.Pv a0]],.fn (.func 276) []] (A1 a0) λr=>.L l6.Pv r:=by
 refine pO Tryz.func274 λr h _ _=>?_;refine S4 2 J<|S4 1 J ?_;refine jq h (λj16=>St.of [(5,.ptr 2001 0 0)] [(2001,vS (.sl 912501) 1),(912501,⟨List.map l6.Pv j16,(List.map l6.Pv j16).length,true,2,true⟩)]) (λj16 h=>?_) λκ15 h=>?_
 ·refine S4 2 J ?_;refine b8 ?_;cases h;exact f1
 ·refine S4 1 J ?_;refine g6<|a2Y (WPE (λl=>if l=2012 then 5 else if l=2013 then 3 else l) [(3,.ptr 2013 0 0),(5,.ptr 2012 0 0),(7,.fn (.func 344) [.rptr [.L c7.Pv a0]])] [(2012,vR (.nl) 1),(2013,vR (.fn (.func 276) []) 1)]) ?_
  refine a0h (fn:=Tryz.f344) (N1:=27) J Tryz.func344 J J nl J c1p J J (λl20 e21 o22 hR23=>?_);refine S3 1 J<|cF h b0U J J λv17 _ h=>nL J j8<|S2 1 J<|g6<|lq h (λq=>St.of [(1000003,.ptr 2013 0 0),(1000005,.ptr 2012 0 0),(1000007,.fn (.func 344) [.rptr [.L c7.Pv a0]]),(0,.fn (.yield l20) []),(1,.rptr [.L c7.Pv a0]),(8,.L iF v17),(9,.I (v17.length:Int)),(10,.I q.1)] [(2012,vS (.sl 912512) 1),(2013,vR (.fn (.func 276) []) 1),(912512,⟨List.map l6.Pv q.2,(List.map l6.Pv q.2).length,true,2,true⟩)]) (Wk.trans (a9p (l0:=2012) (j:=0) (l:=922512) (z:=2) J J J J J) (WP (λl=>if l=912512 then 922512 else l))) λq22 x21 h hx27=>?_
  obtain⟨s19,s20⟩:=q22;refine S4 1 J<|g7 ?_;refine cN h (λhc h=>?_) λhc h=>?_
  ·refine b9 ?_;refine g7<|g6<|sR<|iL h J J j8 o8 λv23 _ h=>S2 2 J<|S3 2 J<|cA h a4N J J λv24 _ h=>S2 5 J<|S3 3 J<|y0 J (s7 (cs:=[.I v23,.I v24.1]) J c1s a8C J J J)<|L2 (WPE (λl=>if l=2021 then 912512 else l) [(1000003,.ptr 2013 0 0),(1000005,.ptr 2012 0 0),(1000007,.fn (.func 344) [.rptr [.L c7.Pv a0]]),(0,.fn (.yield l20) []),(1,.rptr [.L c7.Pv a0]),(8,.L iF v17),(9,.I (v17.length:Int)),(10,.I s19),(20,.fn (.yield l20) []),(23,.agg [.I v23,.I v24.1])] [(2012,vS (.sl 2021) 1),(2021,⟨List.map l6.Pv s20,(List.map l6.Pv s20).length,true,2,true⟩),(2013,vR (.fn (.func 276) []) 1)]) ?_
   refine a3L hR23 J J J J J J (λe30 o31 o32=>?_);refine S6 2 J ?_;refine⟨J,?_⟩;refine jqE h (λj28=>St.of [(2000003,.ptr 2013 0 0),(2000005,.ptr 2012 0 0),(2000007,.fn (.func 344) [.rptr [.L c7.Pv a0]]),(1000000,.fn (.yield l20) []),(1000001,.rptr [.L c7.Pv a0]),(1000008,.L iF v17),(1000009,.I (v17.length:Int)),(1000010,.I s19),(1000020,.fn (.yield l20) []),(1000023,.agg [.I v23,.I v24.1])] [(2012,vS (.sl 15) 1),(15,⟨List.map l6.Pv j28,(List.map l6.Pv j28).length,true,2,true⟩),(2013,vR (.fn (.func 276) []) 1)]) (λj28 h=>?_) λκ27 h=>?_
   ·refine⟨J,?_⟩;refine L2 (WPE (λl=>if l=2022 then 15 else l) [(1000003,.ptr 2013 0 0),(1000005,.ptr 2012 0 0),(1000007,.fn (.func 344) [.rptr [.L c7.Pv a0]]),(0,.fn (.yield l20) []),(1,.rptr [.L c7.Pv a0]),(8,.L iF v17),(9,.I (v17.length:Int)),(10,.I s19),(24,.bool true)] [(2012,vS (.sl 2022) 1),(2022,⟨List.map l6.Pv j28,(List.map l6.Pv j28).length,true,2,true⟩),(2013,vR (.fn (.func 276) []) 1)])<|S2 1 J ?_
    refine G9 false J (λq=>nomatch q) (λ_=>?_);refine b9<|S6 2 J ?_;exact eL h (Wk.trans (n7 _ [2022]) (WP (λl=>if l=912512 then 2022 else l)))
   ·refine g6 ?_;refine S3 2 J<|cA h b2c J J λv29 _ h=>yN ?_;refine cN h (λhc h=>?_) λhc h=>?_
    ·refine S5 2 J ?_;refine y0 J (N9 (f:=l6.Pv) (l:=[(⟨v23,v24.1⟩:l6)]) J a59 b0A a8C J J nl J J)<|w8 h λv30 hv37 h=>O5 J (K5 (f:=l6.Pv) hv37 J J J J J J (.inl ⟨_,J,J⟩) a59 b0A c1m a8C J (λ_=>J)) J J J<|S2 1 J ?_;exact eJ h (Wk.trans (n7 _ [15]) W)
    ·refine b9 ?_;exact eJ h (Wk.trans (n7 _ [2021]) (WP (λl=>if l=15 then 2021 else l)))
  ·refine m7 ?_;refine c4<|c4<|j4 ?_;refine .inl ⟨J,?_⟩;have h:=xL hx27 h;exact eJ h (Wk.trans (n7 _ [912512]) (WP (λl=>if l=2001 then 2012 else if l=912501 then 912512 else l)))

theorem b4g{a0}:PO Tryz.prog 200 [.L c7.Pv a0] (a4J a0) λr=>.L l6.Pv r:=by
 refine pO Tryz.func200 λr h _ _=>?_;refine S4 1 J<|S3 1 J<|cF h a7L J J λv1 _ h=>cF h K0 J J λv2 _ h=>S2 1 J<|b8 ?_;cases h;exact f1

theorem a9t{a0 a1}:PO Tryz.prog 201 [l6.Pv a0,.rptr (a8.Pc a1)] (a2g a0 a1) λr=>.bool r:=by
 refine pO Tryz.func201 λr h _ _=>?_;refine S4 2 J<|S3 3 J<|cA h a1F J J λv1 _ h=>S1 1 J<|c5 J (λhg=>a4b J p5 n9 nl J)<|c5 J (λhg=>oF J b57 J)<|c5 J (λhg=>oS (ct hg) J J p7 J)<|w8 h λv2 hv2 h=>c5 J (λhg=>z8 J a1F (u6 (ct hg) (u6 (ct hg) J)) (y7 hv2 hg))<|y0 J (m8 J J J (λq=>J2 q))<|S2 1 J<|b8 ?_;cases h;exact f1

theorem Y6{a0 a1}:PO Tryz.prog 199 [.L l6.Pv a0,.fn (.func 201) [.rptr (a8.Pc a1)]] (C0 a0 a1) λr=>.bool r:=by
 refine pO Tryz.func199 λr h _ _=>?_;refine S4 1 J ?_;refine jq h (λ_=>St.of [] []) (λq7 h=>?_) λκ6 h=>?_
 ·refine S4 1 J ?_;refine b8 ?_;cases h;exact f1
 ·refine S3 1 J ?_;refine nL J a59<|S2 1 J<|g6<|lq h (λs9=>St.of [(1,.fn (.func 201) [.rptr (a8.Pc a1)]),(7,.L l6.Pv a0),(8,.I (a0.length:Int)),(9,.I s9)] []) W λs9 x10 h hx9=>S4 1 J<|g7 ?_;refine cN h (λhc h=>?_) λhc h=>?_
  ·refine b9 ?_;refine g7<|g6<|sR<|iL h J J a59 b0A λv11 _ h=>S2 3 J<|S3 2 J<|cA h a9t J J λv12 _ h=>S2 1 J ?_;refine cN h (λhc h=>?_) λhc h=>?_
   ·refine S4 1 J ?_;refine b8 ?_;have h:=xL hx9 h;cases h;exact f1
   ·refine b9 ?_;refine S6 2 J ?_;exact eL h W
  ·refine m7 ?_;refine c4<|c4<|j4 ?_;have h:=xL hx9 h;exact eJ h W

theorem a4P{a0}:PO Tryz.prog 123 [a8.Pv a0] (a1G a0) λr=>.bool r:=by
 refine pO Tryz.func123 λr h _ _=>?_;refine S4 2 J<|S3 2 J<|cF h b4g J J λv1 _ h=>S1 1 J<|cA h Y6 J J λv2 _ h=>S2 1 J<|b8 ?_;cases h;exact f1

theorem b02{a0 a1}:PO Tryz.prog 205 [a8.Pv a0,c8.Pv a1] (a1I a0 a1) λr=>.bool r:=by
 refine pO Tryz.func205 λr h _ _=>?_;refine S4 3 J<|g7<|S4 2 J<|g6<|S4 2 J ?_;refine cN h (λhc h=>?_) λhc h=>?_
 ·refine S3 4 J ?_;refine cF h B7 J J λv1 _ h=>S2 6 J<|S3 3 J<|c5 J (λhg=>oF J b1Z J)<|c5 J (λhg=>oS (ct hg) J J a3U J)<|y0 J (m8 J J J (λq=>J2 q))<|S2 1 J<|b8 ?_;cases h;exact f1
 ·refine S4 2 J ?_;refine cN h (λhc h=>?_) λhc h=>?_
  ·refine S3 4 J ?_;refine c5 J (λhg=>oF J b31 J)<|c5 J (λhg=>oS (ct hg) J J p7 J)<|c5 J (λhg=>oF J a2P J)<|c5 J (λhg=>oS (ct hg) J J a7s J)<|c5 J (λhg=>J7 (f:=g5.Pv) (ct hg) G0)<|c5 J (λhg=>l5 (ct hg) (ct hg) J)<|y0 J (m8 J J J (λq=>J2 q))<|S1 1 J<|c5 J (λhg=>oF J a2P J)<|c5 J (λhg=>oS (ct hg) J J a7s J)<|c5 J (λhg=>oF J b31 J)<|c5 J (λhg=>oS (ct hg) J J p7 J)<|w8 h λv2 hv2 h=>c5 J (λhg=>z7 (f:=g5.Pv) (cs:=g5.Pc v2) (y7 hv2 hg) (ct hg) (ct hg) G0 T2 J J)<|c5 J (λhg=>A3 (ct hg) b0y J)<|c5 J (λhg=>E6 (ct hg) a3U J)<|c5 J (λhg=>P5 (ct hg) J)<|y0 J (m8 J J J (λq=>J2 q))<|S2 1 J<|b8 ?_;cases h;exact f1
  ·refine b9 ?_;refine S4 1 J<|b8 ?_;cases h;exact f1

theorem a5C{a0}:PO Tryz.prog 124 [a8.Pv a0] (a2G a0) λr=>.bool r:=by
 refine pO Tryz.func124 λr h _ _=>?_;refine S4 2 J<|sR<|b6G (KT:=c8) (VT:=Bool) (EK:=c8.Pv) (E:=PV.bool) 5000004 J J<|S2 2 J<|S3 4 J<|L2 (WPE (λl=>if l=2001 then 1 else if l=2002 then 3 else if l=5002003 then 5000004 else l) [(7,.L c8.Pv a0.Q.L),(8,.fn (.func 204) [.ptr 2002 0 0,.ptr 2001 0 0])] [(2001,vR (a8.Pv a0) 8),(2002,vS (.mp 5002003) 1),(5002003,⟨[.mapc (List.map (ent c8.Pv PV.bool) [])],0,false,0,false⟩)]) ?_
 refine b6F (fn:=Tryz.f203) (N1:=18) J J Tryz.func203 J c6C J J nl (λe1 o2=>?_);refine jqR h (λq=>St.of [(1000007,.L c8.Pv a0.Q.L),(1000008,.fn (.func 204) [.ptr 2002 0 0,.ptr 2001 0 0]),(4,.bool q.1)] [(2001,vR (a8.Pv a0) 8),(2002,vS (.mp 5002003) 1),(5002003,⟨[.mapc (List.map (ent c8.Pv PV.bool) q.2)],0,false,0,false⟩)]) (λq20 h=>dup ?_) λκ17 h=>?_
 ·obtain⟨j18,j19⟩:=q20;refine⟨J,[.bool j18],⟨J,tr⟩,?_⟩;refine L2 (WE [(9,.bool j18)] [])<|S2 1 J<|b8 ?_;cases h;exact f1
 ·refine S4 1 J ?_;refine jq h (λj29=>St.of [(1000007,.L c8.Pv a0.Q.L),(1000008,.fn (.func 204) [.ptr 2002 0 0,.ptr 2001 0 0])] [(2001,vR (a8.Pv a0) 8),(2002,vS (.mp 5002003) 1),(5002003,⟨[.mapc (List.map (ent c8.Pv PV.bool) j29)],0,false,0,false⟩)]) (λj29 h=>?_) λκ28 h=>?_
  ·refine S4 1 J ?_;refine b8 ?_;exact eJ h W
  ·refine S3 1 J ?_;refine nL J F7<|S2 1 J<|g6<|lq h (λq=>St.of [(1000007,.L c8.Pv a0.Q.L),(1000008,.fn (.func 204) [.ptr 2002 0 0,.ptr 2001 0 0]),(1,.fn (.func 204) [.ptr 2002 0 0,.ptr 2001 0 0]),(7,.L c8.Pv a0.Q.L),(8,.I (a0.Q.L.length:Int)),(9,.I q.1)] [(2001,vR (a8.Pv a0) 8),(2002,vS (.mp 5002003) 1),(5002003,⟨[.mapc (List.map (ent c8.Pv PV.bool) q.2)],0,false,0,false⟩)]) W λq34 x33 h hx29=>?_;obtain⟨s31,s32⟩:=q34;refine S4 1 J<|g7 ?_;refine cN h (λhc h=>?_) λhc h=>?_
   ·refine b9 ?_;refine g7<|g6<|sR<|iL h J J F7 D9 λv35 _ h=>S2 3 J<|S3 2 J<|L2 (WE [(1000007,.L c8.Pv a0.Q.L),(1000008,.fn (.func 204) [.ptr 2002 0 0,.ptr 2001 0 0]),(1,.fn (.func 204) [.ptr 2002 0 0,.ptr 2001 0 0]),(7,.L c8.Pv a0.Q.L),(8,.I (a0.Q.L.length:Int)),(9,.I s31),(13,.fn (.func 204) [.ptr 2002 0 0,.ptr 2001 0 0]),(14,c8.Pv v35)] [(2001,vR (a8.Pv a0) 8),(2002,vS (.mp 5002003) 1),(5002003,⟨[.mapc (List.map (ent c8.Pv PV.bool) s32)],0,false,0,false⟩)]) ?_;refine b6F (fn:=Tryz.f204) (N1:=34) J J Tryz.func204 J c6D J J nl (λe31 o32=>?_);refine S4 2 J<|S3 4 J<|y0 J (s7 (cs:=[.I v35.Kind,.I v35.At,.I 0]) J b15 a7G J J J)<|S2 2 J<|S3 2 J<|c59 (es:=s32) (k:=(⟨v35.Kind,v35.At,0⟩:c8)) (E:=PV.bool) (EK:=c8.Pv) (d:=.bool ((A9 s32 (⟨v35.Kind,v35.At,0⟩:c8)).getD (false:Bool))) J J J J b8M (b89 c8.Pc (λ_=>J) b6N (by decide) (λ_ _=>J) c8.beq_eq (λ_=>J) (λ_=>⟨J,J⟩)) c3W J (lk1 _ _ _)<|S2 1 J<|S3 2 J<|a0K (es:=s32) (k:=(⟨v35.Kind,v35.At,0⟩:c8)) (v:=true) (E:=PV.bool) (EK:=c8.Pv) (.inl J) J J J J J J b8M (b89 c8.Pc (λ_=>J) b6N (by decide) (λ_ _=>J) c8.beq_eq (λ_=>J) (λ_=>⟨J,J⟩))<|yN<|S3 3 J<|c5 J (λhg=>oF J b8J J)<|c5 J (λhg=>oS (ct hg) J J p7 J)<|c5 J (λhg=>l5 (ct hg) J J)<|y0 J (m8 J J J (λq=>J2 q))<|S1 1 J<|c5 J (λhg=>oF J b8J J)<|c5 J (λhg=>oS (ct hg) J J p7 J)<|c5 J (λhg=>l5 (ct hg) J J)<|y0 J (m8 J J J (λq=>J2 q))<|S1 1 J<|c5 J (λhg=>oL J J J p5 n9 nl J)<|c5 J (λhg=>oL J J J a0E D9 nl J)<|w8 h λv36 hv33 h=>c5 J (λhg=>z8 J b02 (u6 (ct hg) (u6 (ct hg) J)) (y7 hv33 hg))<|y0 J (m8 J J J (λq=>J2 q))<|S2 1 J<|b8 ?_
    refine⟨J,[.bool ((((!((A9 s32 (⟨v35.Kind,v35.At,0⟩:c8)).getD (false:Bool)))&&(decide (v35.Prog≥0)))&&(decide (v35.Prog<6)))&&v36)],⟨J,tr⟩,?_⟩;refine L2 (WE [(1000007,.L c8.Pv a0.Q.L),(1000008,.fn (.func 204) [.ptr 2002 0 0,.ptr 2001 0 0]),(1,.fn (.func 204) [.ptr 2002 0 0,.ptr 2001 0 0]),(7,.L c8.Pv a0.Q.L),(8,.I (a0.Q.L.length:Int)),(9,.I s31),(15,.bool ((((!((A9 s32 (⟨v35.Kind,v35.At,0⟩:c8)).getD (false:Bool)))&&(decide (v35.Prog≥0)))&&(decide (v35.Prog<6)))&&v36))] [(2001,vR (a8.Pv a0) 8),(2002,vS (.mp 5002003) 1),(5002003,⟨[.mapc (List.map (ent c8.Pv PV.bool) (p6 s32 (⟨v35.Kind,v35.At,0⟩:c8) true))],0,false,0,false⟩)])<|S2 1 J ?_;refine cN h (λhc h=>?_) λhc h=>?_
    ·refine S4 1 J ?_;refine b8 ?_;have h:=xL hx29 h;exact eJ h W
    ·refine b9 ?_;refine S6 2 J ?_;exact eL h W
   ·refine m7 ?_;refine c4<|c4<|j4 ?_;have h:=xL hx29 h;exact eJ h W

theorem b0a{a0 a1}:PO Tryz.prog 207 [g5.Pv a0,.rptr (a8.Pc a1)] (a3i a0 a1) λr=>.bool r:=by
 refine pO Tryz.func207 λr h _ _=>?_;refine S4 2 J<|g7<|S3 4 J<|c5 J (λhg=>oF J c3L J)<|c5 J (λhg=>oS (ct hg) J J p7 J)<|c5 J (λhg=>l5 (ct hg) J J)<|y0 J (o9 J J J (λq=>I8 q))<|yN ?_;refine cN h (λhc h=>?_) λhc h=>?_
 ·refine S4 1 J ?_;refine b8 ?_;cases h;exact f1
 ·refine b9 ?_;refine g7<|S4 2 J ?_;refine cN h (λhc h=>?_) λhc h=>?_
  ·refine S3 3 J ?_;refine cA h a1F J J λv1 _ h=>S2 1 J<|b8 ?_;cases h;exact f1
  ·refine b9 ?_;refine S3 5 J<|cA h F6 J J λv2 _ h=>S2 5 J<|S3 4 J<|c5 J (λhg=>mI J)<|c5 J (λhg=>l5 (ct hg) J J)<|y0 J (o9 J J J (λq=>I8 q))<|S2 1 J<|b8 ?_;cases h;exact f1

theorem a0d{a0 a1}:PO Tryz.prog 206 [.L g5.Pv a0,.fn (.func 207) [.rptr (a8.Pc a1)]] (D3 a0 a1) λr=>.bool r:=by
 refine pO Tryz.func206 λr h _ _=>?_;refine S4 1 J ?_;refine jq h (λ_=>St.of [] []) (λq7 h=>?_) λκ6 h=>?_
 ·refine S4 1 J ?_;refine b8 ?_;cases h;exact f1
 ·refine S3 1 J ?_;refine nL J G0<|S2 1 J<|g6<|lq h (λs9=>St.of [(1,.fn (.func 207) [.rptr (a8.Pc a1)]),(7,.L g5.Pv a0),(8,.I (a0.length:Int)),(9,.I s9)] []) W λs9 x10 h hx9=>S4 1 J<|g7 ?_;refine cN h (λhc h=>?_) λhc h=>?_
  ·refine b9 ?_;refine g7<|g6<|sR<|iL h J J G0 T2 λv11 _ h=>S2 3 J<|S3 2 J<|cA h b0a J J λv12 _ h=>S2 1 J ?_;refine cN h (λhc h=>?_) λhc h=>?_
   ·refine S4 1 J ?_;refine b8 ?_;have h:=xL hx9 h;cases h;exact f1
   ·refine b9 ?_;refine S6 2 J ?_;exact eL h W
  ·refine m7 ?_;refine c4<|c4<|j4 ?_;have h:=xL hx9 h;exact eJ h W

theorem a5A{a0}:PO Tryz.prog 125 [a8.Pv a0] (a2E a0) λr=>.bool r:=by
 refine pO Tryz.func125 λr h _ _=>?_;refine S4 2 J<|S3 3 J<|cA h a0d J J λv1 _ h=>S2 1 J<|b8 ?_;cases h;exact f1

theorem b2M{a0 a1}:PO Tryz.prog 280 [g5.Pv a0,.rptr [.I a1]] (a2N a0 a1) λr=>.bool r:=by
 refine pO Tryz.func280 λr h _ _=>?_;unfold a2N at h;refine S4 2 J<|S3 3 J<|c5 J (λhg=>oF J b30 J)<|c5 J (λhg=>oS (ct hg) J J p7 J)<|c5 J (λhg=>E6 J p7 J)<|c5 J (λhg=>l5 (ct hg) (ct hg) J)<|y0 J (m8 J J J (λq=>J2 q))<|S2 1 J<|b8 ?_;cases h;exact f1

theorem a3c{a0 a1}:PO Tryz.prog 279 [.L g5.Pv a0,.fn (.func 280) [.rptr [.I a1]]] (P6 a0 a1) λr=>.L iF r:=by
 refine pO Tryz.func279 λr h _ _=>?_;refine S4 1 J<|S4 1 J ?_;refine jq h (λj15=>St.of [(5,.sl 910005)] [(910005,⟨List.map iF j15,(List.map iF j15).length,true,1,true⟩)]) (λj15 h=>?_) λκ14 h=>?_
 ·refine S4 2 J ?_;refine b8 ?_;cases h;exact f1
 ·refine S3 1 J ?_;refine nL J G0<|S2 1 J<|g6<|lq h (λq=>St.of [(1,.fn (.func 280) [.rptr [.I a1]]),(5,.sl 910005),(8,.L g5.Pv a0),(9,.I (a0.length:Int)),(10,.I q.1)] [(910005,⟨List.map iF q.2,(List.map iF q.2).length,true,1,true⟩)]) (Wk.trans (H4 (t:=5) (l:=920005) (z:=1) J J) (WP (λl=>if l=910005 then 920005 else l))) λq20 x19 h hx14=>?_
  obtain⟨s17,s18⟩:=q20;refine S4 1 J<|g7 ?_;refine cN h (λhc h=>?_) λhc h=>?_
  ·refine b9 ?_;refine jq h (λj25=>St.of [(1,.fn (.func 280) [.rptr [.I a1]]),(5,.sl 21),(8,.L g5.Pv a0),(9,.I (a0.length:Int)),(10,.I s17)] [(21,⟨List.map iF j25,(List.map iF j25).length,true,1,true⟩)]) (λj25 h=>?_) λκ24 h=>?_
   ·refine S6 2 J ?_;exact eL h (Wk.trans (n7 _ [21]) (WP (λl=>if l=910005 then 21 else l)))
   ·refine g6 ?_;refine S3 1 J<|iL h J J G0 T2 λv26 _ h=>S2 4 J<|S3 2 J<|cA h b2M J J λv27 _ h=>yN ?_;refine cN h (λhc h=>?_) λhc h=>?_
    ·refine S5 2 J ?_;refine y0 J (N9 (f:=iF) (l:=[s17]) J j8 o8 C2 J J nl J J)<|w8 h λv28 hv21 h=>O5 J (K5 (f:=iF) hv21 J J J J J J (.inl ⟨_,J,J⟩) j8 o8 O2 C2 J (λ_=>J)) J J J<|S2 1 J ?_;exact eJ h (Wk.trans (n7 _ [21]) W)
    ·refine b9 ?_;exact eJ h (Wk.trans (n7 _ [910005]) (WP (λl=>if l=21 then 910005 else l)))
  ·refine m7 ?_;refine c4<|c4<|j4 ?_;have h:=xL hx14 h;exact eJ h (Wk.trans (n7 _ [910005]) W)

theorem b5n{a0 a1}:PO Tryz.prog 209 [.L g5.Pv a0,.I a1] (a3b a0 a1) λr=>.I r:=by
 refine pO Tryz.func209 λr h _ _=>?_;unfold a3b at h;refine S4 2 J<|S3 2 J<|w8 h λv1 hv1 h=>ycL J (B0 J a3c J hv1) J<|nL J j8<|S2 1 J<|b8 ?_;cases h;exact f1

theorem a5B{a0}:PO Tryz.prog 126 [a8.Pv a0] (a2F a0) λr=>.bool r:=by
 refine pO Tryz.func126 λr h _ _=>?_;refine S4 2 J ?_;refine jq h (λ_=>St.of [] []) (λq13 h=>?_) λκ12 h=>?_
 ·refine S4 1 J ?_;refine b8 ?_;cases h;exact f1
 ·refine S3 4 J ?_;refine nL J H0<|S2 1 J<|g6<|lq h (λs15=>St.of [(1,.ptr 1 0 0),(8,.L b7.Pv a0.S.S.Cells),(9,.I (a0.S.S.Cells.length:Int)),(10,.I s15)] [(1,vR (a8.Pv a0) 8)]) W λs15 x16 h hx14=>S4 1 J<|g7 ?_;refine cN h (λhc h=>?_) λhc h=>?_
  ·refine b9 ?_;refine jq h (λ_=>St.of [(1,.ptr 1 0 0),(8,.L b7.Pv a0.S.S.Cells),(9,.I (a0.S.S.Cells.length:Int)),(10,.I s15)] [(1,vR (a8.Pv a0) 8)]) (λq21 h=>?_) λκ20 h=>?_
   ·refine S6 2 J ?_;exact eL h W
   ·refine g6 ?_;refine S3 1 J<|iL h J J H0 M0 λv22 _ h=>S2 4 J<|g7<|S3 4 J<|c5 J (λhg=>oF J a5o J)<|c5 J (λhg=>oS (ct hg) J J p7 J)<|c5 J (λhg=>l5 (ct hg) J J)<|y0 J (m8 J J J (λq=>J2 q))<|yN ?_;refine cN h (λhc h=>?_) λhc h=>?_
    ·refine m7 ?_;refine c4<|j4 ?_;exact eJ h W
    ·refine b9 ?_;refine g7<|dr [] u5 (by kernel_rfl) (by kernel_rfl)<|S7 8 J<|w8 h λv23 hv20 h=>d2 J (z8 J a31 J hv20) J<|w8 h λv24 hv21 h=>d2 J (z8 J b5n J hv21) J<|S8 1 J ?_
     refine cN h (λhc h=>?_) λhc h=>?_
     ·refine S4 1 J ?_;refine b8 ?_;have h:=xL hx14 h;cases h;exact f1
     ·refine b9 ?_;refine S3 4 J<|c5 J (λhg=>oF J a8w J)<|c5 J (λhg=>oF (ct hg) b1Y J)<|c5 J (λhg=>oS (ct hg) J J p7 J)<|c5 J (λhg=>l5 (ct hg) J J)<|c5 J (λhg=>om (d:=.bool (decide (v22.Val.Weak<1))) (ct hg))<|c5 (r9 J J J) (λhg=>oF J a8w J)<|c5 (r9 J J J) (λhg=>oF (ct hg) b10 J)<|c5 (r9 J J J) (λhg=>oS (ct hg) J J U9 J)<|c5 (r9 J J J) (λhg=>J7 (f:=iF) (ct hg) j8)<|c5 (r9 J J J) (λhg=>l5 (ct hg) J J)<|c5 J (λhg=>o9 (ct hg) J J (λq=>a2a hg (I8 q)))<|c5 J (λhg=>om (d:=.bool ((decide (v22.Val.Weak<1))||(decide ((v22.Val.Fields.length:Int) > 0)))) (ct hg))<|c5 (r9 J J J) (λhg=>oF J a8w J)<|c5 (r9 J J J) (λhg=>oF (ct hg) b50 J)<|c5 (r9 J J J) (λhg=>oS (ct hg) J J p7 J)<|c5 (r9 J J J) (λhg=>l5 (ct hg) J J)<|c5 J (λhg=>o9 (ct hg) J J (λq=>a2a hg (I8 q)))<|y0 J (m8 J J J (λq=>J2 q))<|yN ?_;refine cN h (λhc h=>?_) λhc h=>?_
      ·refine S4 1 J ?_;refine b8 ?_;have h:=xL hx14 h;cases h;exact f1
      ·refine b9 ?_;exact eJ h W
  ·refine m7 ?_;refine c4<|c4<|j4 ?_;have h:=xL hx14 h;exact eJ h W

theorem c0q{f:Fv}{a0:a8}{r:Bool}(h:a0s f a0=some r):∃n,f=some n∧A6 Tryz.prog n∧T0 Tryz.prog n [a8.Pv a0] (.bool r):=by
 unfold a0s at h;by_cases e122:f=some 122
 ·rw[if_pos e122] at h;exact⟨122,e122,(@a4O a0).1,(@a4O a0).2 _ h⟩
 rw[if_neg e122] at h;by_cases e123:f=some 123
 ·rw[if_pos e123] at h;exact⟨123,e123,(@a4P a0).1,(@a4P a0).2 _ h⟩
 rw[if_neg e123] at h;by_cases e124:f=some 124
 ·rw[if_pos e124] at h;exact⟨124,e124,(@a5C a0).1,(@a5C a0).2 _ h⟩
 rw[if_neg e124] at h;by_cases e125:f=some 125
 ·rw[if_pos e125] at h;exact⟨125,e125,(@a5A a0).1,(@a5A a0).2 _ h⟩
 rw[if_neg e125] at h;by_cases e126:f=some 126
 ·rw[if_pos e126] at h;exact⟨126,e126,(@a5B a0).1,(@a5B a0).2 _ h⟩
 rw[if_neg e126] at h;cases h

theorem b8n{a0}:PO Tryz.prog 215 [c9.Pv a0] (a5W a0) λr=>.L iF r:=by
 refine pO Tryz.func215 λr h _ _=>?_;refine S4 2 J<|S4 1 J ?_;refine jq h (λj10=>St.of [(3,.ptr 2001 0 0)] [(2001,vS (.sl 912501) 1),(912501,⟨List.map iF j10,(List.map iF j10).length,true,1,true⟩)]) (λj10 h=>?_) λκ9 h=>?_
 ·refine S4 2 J ?_;refine b8 ?_;cases h;exact f1
 ·refine S3 1 J ?_;refine cF h b5f J J λv11 _ h=>yN<|g6<|a2Y (WPE (λl=>if l=2011 then 3 else l) [(3,.ptr 2011 0 0),(6,.fn (.func 350) [.rptr (c9.Pc v11.1),.rptr [.I v11.2]])] [(2011,vR (.nl) 1)]) ?_
  refine a0h (fn:=Tryz.f350) (N1:=24) J Tryz.func350 J J nl J c1q J J (λl17 e18 o19 hR20=>?_);refine S3 2 J<|nL J F7<|S2 1 J<|g6<|lq h (λq=>St.of [(1000003,.ptr 2011 0 0),(1000006,.fn (.func 350) [.rptr (c9.Pc v11.1),.rptr [.I v11.2]]),(0,.fn (.yield l17) []),(2,.rptr [.I v11.2]),(7,.L c8.Pv v11.1.L),(8,.I (v11.1.L.length:Int)),(9,.I q.1)] [(2011,vS (.sl 912511) 1),(912511,⟨List.map iF q.2,(List.map iF q.2).length,true,1,true⟩)]) (Wk.trans (a9p (l0:=2011) (j:=0) (l:=922511) (z:=1) J J J J J) (WP (λl=>if l=912511 then 922511 else l))) λq16 x15 h hx23=>?_
  obtain⟨s13,s14⟩:=q16;refine S4 1 J<|g7 ?_;refine cN h (λhc h=>?_) λhc h=>?_
  ·refine b9 ?_;refine g7<|g6<|sR<|iL h J J F7 D9 λv17 _ h=>S2 3 J<|S3 5 J<|c5 J (λhg=>om (d:=.fn (.yield l17) []) J)<|c5 J (λhg=>oL J J J a0E D9 nl J) ?_;rcases Bool.eq_false_or_eq_true ((v17.Kind==v11.2)==true) with hg25 | hg25
   ·have h:=ifT h hg25;refine L2 (WPE (λl=>if l=2019 then 912511 else l) [(1000003,.ptr 2011 0 0),(1000006,.fn (.func 350) [.rptr (c9.Pc v11.1),.rptr [.I v11.2]]),(0,.fn (.yield l17) []),(2,.rptr [.I v11.2]),(7,.L c8.Pv v11.1.L),(8,.I (v11.1.L.length:Int)),(9,.I s13),(17,.bool (v17.Kind==v11.2)),(18,.fn (.yield l17) []),(19,c8.Pv v17)] [(2011,vS (.sl 2019) 1),(2019,⟨List.map iF s14,(List.map iF s14).length,true,1,true⟩)]) ?_
    refine a3L hR20 (congrArg some hg25) J J J J J (λe26 o27 o28=>?_);refine S6 2 J ?_;refine⟨J,?_⟩;refine g6<|S5 3 J<|y0 J (N9 (f:=iF) (l:=[v17.At]) J j8 o8 C2 J J nl J J)<|w8 h λv18 hv29 h=>O5 J (K5 (f:=iF) hv29 J J J J J J (.inl ⟨_,J,J⟩) j8 o8 O2 C2 J (λ_=>J)) J J J<|S2 1 J ?_;refine⟨J,?_⟩;refine L2 (WPE (λl=>if l=2020 then 12 else l) [(1000003,.ptr 2011 0 0),(1000006,.fn (.func 350) [.rptr (c9.Pc v11.1),.rptr [.I v11.2]]),(0,.fn (.yield l17) []),(2,.rptr [.I v11.2]),(7,.L c8.Pv v11.1.L),(8,.I (v11.1.L.length:Int)),(9,.I s13),(17,.bool (v17.Kind==v11.2)),(20,.bool true)] [(2011,vS (.sl 2020) 1),(2020,⟨List.map iF v18,s14.length,true,1,true⟩)])<|y0 (congrArg some hg25) (P5 J J)<|y0 J (a8S J J hg25)<|yN ?_
    refine G9 false J (λq=>nomatch q) (λ_=>?_);refine b9<|S6 2 J ?_;exact eL h (Wk.trans (n7 _ [2020]) (WP (λl=>if l=912511 then 2020 else l)))
   ·have h:=ifF h hg25;refine a11 (congrArg some hg25)<|a11 (congrArg some hg25)<|y0 J (a8R J J hg25)<|yN ?_;refine G9 false J (λq=>nomatch q) (λ_=>?_);refine b9<|S6 2 J ?_;exact eL h (Wk.trans (n7 _ [912511]) W)
  ·refine m7 ?_;refine c4<|c4<|j4 ?_;refine .inl ⟨J,?_⟩;have h:=xL hx23 h;exact eJ h (Wk.trans (n7 _ [912511]) (WP (λl=>if l=2001 then 2011 else if l=912501 then 912511 else l)))

theorem b5G{a0}:PO Tryz.prog 128 [a8.Pv a0] (a6p a0) λr=>.L iF r:=by
 refine pO Tryz.func128 λr h _ _=>?_;refine S4 2 J<|S4 1 J ?_;refine jq h (λj13=>St.of [(1,.ptr 1 0 0),(3,.sl 910003)] [(910003,⟨List.map iF j13,(List.map iF j13).length,true,1,true⟩),(1,vR (a8.Pv a0) 8)]) (λj13 h=>?_) λκ12 h=>?_
 ·refine S3 3 J ?_;refine cF h b8n J J λv14 _ h=>w8 h λv15 hv11 h=>O5 J (K5 (f:=iF) hv11 J J J J J J (.inl ⟨_,J,J⟩) j8 o8 O2 C2 J (λ_=>J)) J J J<|S2 1 J<|b8 ?_;cases h;exact f1
 ·refine S3 2 J ?_;refine nL J j8<|S2 1 J<|g6<|lq h (λq=>St.of [(1,.ptr 1 0 0),(3,.sl 910003),(7,.L iF a0.Roots),(8,.I (a0.Roots.length:Int)),(9,.I q.1)] [(1,vR (a8.Pv a0) 8),(910003,⟨List.map iF q.2,(List.map iF q.2).length,true,1,true⟩)]) (Wk.trans (H4 (t:=3) (l:=920003) (z:=1) J J) (WP (λl=>if l=910003 then 920003 else l))) λq20 x19 h hx14=>?_
  obtain⟨s17,s18⟩:=q20;refine S4 1 J<|g7 ?_;refine cN h (λhc h=>?_) λhc h=>?_
  ·refine b9 ?_;refine jq h (λj24=>St.of [(1,.ptr 1 0 0),(3,.sl 18),(7,.L iF a0.Roots),(8,.I (a0.Roots.length:Int)),(9,.I s17)] [(18,⟨List.map iF j24,(List.map iF j24).length,true,1,true⟩),(1,vR (a8.Pv a0) 8)]) (λj24 h=>?_) λκ23 h=>?_
   ·refine S6 2 J ?_;exact eL h (Wk.trans (n7 _ [18]) (WP (λl=>if l=910003 then 18 else l)))
   ·refine g6 ?_;refine sR<|iL h J J j8 o8 λv25 _ h=>S2 2 J<|S4 2 J ?_;refine cN h (λhc h=>?_) λhc h=>?_
    ·refine S5 2 J ?_;refine y0 J (N9 (f:=iF) (l:=[v25]) J j8 o8 C2 J J nl J J)<|w8 h λv26 hv19 h=>O5 J (K5 (f:=iF) hv19 J J J J J J (.inl ⟨_,J,J⟩) j8 o8 O2 C2 J (λ_=>J)) J J J<|S2 1 J ?_;exact eJ h (Wk.trans (n7 _ [18]) W)
    ·refine b9 ?_;exact eJ h (Wk.trans (n7 _ [910003]) (WP (λl=>if l=18 then 910003 else l)))
  ·refine m7 ?_;refine c4<|c4<|j4 ?_;have h:=xL hx14 h;exact eJ h (Wk.trans (n7 _ [910003]) W)

theorem b39{a0}:PO Tryz.prog 211 [.I a0] (a7J a0) λr=>.bool r:=by
 refine pO Tryz.func211 λr h _ _=>?_;refine S4 1 J<|S3 1 J<|cA h Z7 J J λv1 _ h=>S2 1 J<|b8 ?_;cases h;exact f1

theorem b5O{a0}:PO Tryz.prog 384 [a7.Pv a0] (a6L a0) λr=>.fn (.func 396) [.rptr (a7.Pc r)]:=by
 refine pO Tryz.func384 λr h _ _=>?_;unfold a6L at h;refine S4 2 J<|S4 2 J<|b8 ?_;cases h;exact f1

theorem b9E{a0 a1}:PO Tryz.prog 361 [a7.Pv a0,.I a1] (b1y a0 a1) λr=>.L iF r:=by
 refine pO Tryz.func361 λr h _ _=>?_;refine S4 2 J<|S3 2 J<|cF h B7 J J λv1 _ h=>S2 6 J<|S3 2 J<|cF h b1R J J λv2 _ h=>S2 1 J<|b8 ?_;cases h;exact f1

theorem c0W{a0 a1}:PO Tryz.prog 348 [a7.Pv a0,.I a1] (b3H a0 a1) λr=>.I r:=by
 refine pO Tryz.func348 λr h _ _=>?_;refine S4 3 J<|S4 2 J ?_;refine jq h (λj31=>St.of [(5,.ptr 2001 0 0)] [(2001,vR (.I j31) 1)]) (λj31 h=>?_) λκ30 h=>?_
 ·refine S4 2 J ?_;refine b8 ?_;cases h;exact f1
 ·refine S3 1 J ?_;refine cF h b5O J J λv32 _ h=>yN<|g6<|a2Y (WPE (λl=>if l=2003 then 5 else if l=2004 then 3 else l) [(3,.ptr 2004 0 0),(5,.ptr 2003 0 0),(9,.fn (.func 396) [.rptr (a7.Pc v32)])] [(2003,vR (.I 0) 1),(2004,vR (.I a1) 1)]) ?_
  refine a0h (fn:=Tryz.f396) (N1:=29) J Tryz.func396 J J nl J c6H J J (λl33 e34 o35 hR36=>?_);refine c5r<|g7<|c5q<|S3 1 J<|cF h a2M J J λv33 _ h=>nL J j8<|S2 1 J<|g6<|lq h (λq=>St.of [(1000003,.ptr 2004 0 0),(1000005,.ptr 2003 0 0),(1000009,.fn (.func 396) [.rptr (a7.Pc v32)]),(0,.fn (.yield l33) []),(1,.rptr (a7.Pc v32)),(8,.L iF v33),(9,.I (v33.length:Int)),(10,.I q.1)] [(2003,vR (.I q.2) 1),(2004,vR (.I a1) 1)]) W λq38 x37 h hx40=>?_;obtain⟨s35,s36⟩:=q38;refine S4 1 J<|g7 ?_;refine cN h (λhc h=>?_) λhc h=>?_
  ·refine b9 ?_;refine jq h (λj50=>St.of [(1000003,.ptr 2004 0 0),(1000005,.ptr 2003 0 0),(1000009,.fn (.func 396) [.rptr (a7.Pc v32)]),(0,.fn (.yield l33) []),(1,.rptr (a7.Pc v32)),(8,.L iF v33),(9,.I (v33.length:Int)),(10,.I s35)] [(2003,vR (.I j50) 1),(2004,vR (.I a1) 1)]) (λj50 h=>?_) λκ49 h=>?_
   ·refine S6 2 J ?_;exact eL h W
   ·refine g6 ?_;refine sR<|iL h J J j8 o8 λv51 _ h=>S2 2 J<|S3 2 J<|cF h b9E J J λv52 _ h=>nL J j8<|S2 1 J<|g6<|lq h (λq=>St.of [(1000003,.ptr 2004 0 0),(1000005,.ptr 2003 0 0),(1000009,.fn (.func 396) [.rptr (a7.Pc v32)]),(0,.fn (.yield l33) []),(1,.rptr (a7.Pc v32)),(4,.I v51),(8,.L iF v33),(9,.I (v33.length:Int)),(10,.I s35),(16,.L iF v52),(17,.I (v52.length:Int)),(18,.I q.1)] [(2003,vR (.I q.2) 1),(2004,vR (.I a1) 1)]) W λq57 x56 h hx56=>?_;obtain⟨s54,s55⟩:=q57;refine S4 1 J<|g7 ?_;refine cN h (λhc h=>?_) λhc h=>?_
    ·refine b9 ?_;refine g7<|g6<|sR<|iL h J J j8 o8 λv58 _ h=>S2 2 J<|S3 3 J<|L2 (WE [(1000003,.ptr 2004 0 0),(1000005,.ptr 2003 0 0),(1000009,.fn (.func 396) [.rptr (a7.Pc v32)]),(0,.fn (.yield l33) []),(1,.rptr (a7.Pc v32)),(4,.I v51),(8,.L iF v33),(9,.I (v33.length:Int)),(10,.I s35),(16,.L iF v52),(17,.I (v52.length:Int)),(18,.I s54),(22,.fn (.yield l33) []),(23,.I v51),(24,.I v58)] [(2003,vR (.I s55) 1),(2004,vR (.I a1) 1)]) ?_;refine a3L hR36 J J J J J J (λe58 o59 o60=>?_);refine S6 1 J ?_;refine⟨J,?_⟩;refine jqE h (λj60=>St.of [(2000003,.ptr 2004 0 0),(2000005,.ptr 2003 0 0),(2000009,.fn (.func 396) [.rptr (a7.Pc v32)]),(1000000,.fn (.yield l33) []),(1000001,.rptr (a7.Pc v32)),(1000004,.I v51),(1000008,.L iF v33),(1000009,.I (v33.length:Int)),(1000010,.I s35),(1000016,.L iF v52),(1000017,.I (v52.length:Int)),(1000018,.I s54),(1000022,.fn (.yield l33) []),(1000023,.I v51),(1000024,.I v58)] [(2003,vR (.I j60) 1),(2004,vR (.I a1) 1)]) (λj60 h=>?_) λκ59 h=>?_
     ·refine⟨J,?_⟩;refine L2 (WE [(1000003,.ptr 2004 0 0),(1000005,.ptr 2003 0 0),(1000009,.fn (.func 396) [.rptr (a7.Pc v32)]),(0,.fn (.yield l33) []),(1,.rptr (a7.Pc v32)),(4,.I v51),(8,.L iF v33),(9,.I (v33.length:Int)),(10,.I s35),(16,.L iF v52),(17,.I (v52.length:Int)),(18,.I s54),(25,.bool true)] [(2003,vR (.I j60) 1),(2004,vR (.I a1) 1)])<|S2 1 J ?_;refine G9 false J (λq=>nomatch q) (λ_=>?_);refine b9<|S6 2 J ?_;exact eL h W
     ·refine g6 ?_;refine S4 3 J ?_;refine cN h (λhc h=>?_) λhc h=>?_
      ·refine S6 3 J ?_;exact eJ h W
      ·refine b9 ?_;exact eJ h W
    ·refine m7 ?_;refine c4<|c4<|j4 ?_;have h:=xL hx56 h;exact eJ h W
  ·refine m7 ?_;refine c4<|c4<|j4<|b5Q ?_;refine .inl ⟨J,?_⟩;have h:=xL hx40 h;exact eJ h (WP (λl=>if l=2001 then 2003 else l))

theorem b2b{a0 a1}:PO Tryz.prog 385 [l6.Pv a0,.rptr [.I a1]] (a2C a0 a1) λr=>.bool r:=by
 refine pO Tryz.func385 λr h _ _=>?_;unfold a2C at h;refine S4 2 J<|S3 3 J<|c5 J (λhg=>oF J b57 J)<|c5 J (λhg=>oS (ct hg) J J p7 J)<|c5 J (λhg=>E6 J p7 J)<|c5 J (λhg=>l5 (ct hg) (ct hg) J)<|y0 J (m8 J J J (λq=>J2 q))<|S2 1 J<|b8 ?_;cases h;exact f1

theorem J9{a0 a1}:PO Tryz.prog 274 [.fn (.func 344) [.rptr [.L c7.Pv a0]],.fn (.func 385) [.rptr [.I a1]]] (A0 a0 a1) λr=>.L l6.Pv r:=by
 refine pO Tryz.func274 λr h _ _=>?_;refine S4 2 J<|S4 1 J ?_;refine jq h (λj16=>St.of [(5,.ptr 2001 0 0)] [(2001,vS (.sl 912501) 1),(912501,⟨List.map l6.Pv j16,(List.map l6.Pv j16).length,true,2,true⟩)]) (λj16 h=>?_) λκ15 h=>?_
 ·refine S4 2 J ?_;refine b8 ?_;cases h;exact f1
 ·refine S4 1 J ?_;refine g6<|a2Y (WPE (λl=>if l=2012 then 5 else if l=2013 then 3 else l) [(3,.ptr 2013 0 0),(5,.ptr 2012 0 0),(7,.fn (.func 344) [.rptr [.L c7.Pv a0]])] [(2012,vR (.nl) 1),(2013,vR (.fn (.func 385) [.rptr [.I a1]]) 1)]) ?_
  refine a0h (fn:=Tryz.f344) (N1:=27) J Tryz.func344 J J nl J c1p J J (λl20 e21 o22 hR23=>?_);refine S3 1 J<|cF h b0U J J λv17 _ h=>nL J j8<|S2 1 J<|g6<|lq h (λq=>St.of [(1000003,.ptr 2013 0 0),(1000005,.ptr 2012 0 0),(1000007,.fn (.func 344) [.rptr [.L c7.Pv a0]]),(0,.fn (.yield l20) []),(1,.rptr [.L c7.Pv a0]),(8,.L iF v17),(9,.I (v17.length:Int)),(10,.I q.1)] [(2012,vS (.sl 912512) 1),(2013,vR (.fn (.func 385) [.rptr [.I a1]]) 1),(912512,⟨List.map l6.Pv q.2,(List.map l6.Pv q.2).length,true,2,true⟩)]) (Wk.trans (a9p (l0:=2012) (j:=0) (l:=922512) (z:=2) J J J J J) (WP (λl=>if l=912512 then 922512 else l))) λq22 x21 h hx27=>?_
  obtain⟨s19,s20⟩:=q22;refine S4 1 J<|g7 ?_;refine cN h (λhc h=>?_) λhc h=>?_
  ·refine b9 ?_;refine g7<|g6<|sR<|iL h J J j8 o8 λv23 _ h=>S2 2 J<|S3 2 J<|cA h a4N J J λv24 _ h=>S2 5 J<|S3 3 J<|y0 J (s7 (cs:=[.I v23,.I v24.1]) J c1s a8C J J J)<|L2 (WPE (λl=>if l=2021 then 912512 else l) [(1000003,.ptr 2013 0 0),(1000005,.ptr 2012 0 0),(1000007,.fn (.func 344) [.rptr [.L c7.Pv a0]]),(0,.fn (.yield l20) []),(1,.rptr [.L c7.Pv a0]),(8,.L iF v17),(9,.I (v17.length:Int)),(10,.I s19),(20,.fn (.yield l20) []),(23,.agg [.I v23,.I v24.1])] [(2012,vS (.sl 2021) 1),(2021,⟨List.map l6.Pv s20,(List.map l6.Pv s20).length,true,2,true⟩),(2013,vR (.fn (.func 385) [.rptr [.I a1]]) 1)]) ?_
   refine a3L hR23 J J J J J J (λe30 o31 o32=>?_);refine S6 2 J ?_;refine⟨J,?_⟩;refine jqE h (λj28=>St.of [(2000003,.ptr 2013 0 0),(2000005,.ptr 2012 0 0),(2000007,.fn (.func 344) [.rptr [.L c7.Pv a0]]),(1000000,.fn (.yield l20) []),(1000001,.rptr [.L c7.Pv a0]),(1000008,.L iF v17),(1000009,.I (v17.length:Int)),(1000010,.I s19),(1000020,.fn (.yield l20) []),(1000023,.agg [.I v23,.I v24.1])] [(2012,vS (.sl 15) 1),(15,⟨List.map l6.Pv j28,(List.map l6.Pv j28).length,true,2,true⟩),(2013,vR (.fn (.func 385) [.rptr [.I a1]]) 1)]) (λj28 h=>?_) λκ27 h=>?_
   ·refine⟨J,?_⟩;refine L2 (WPE (λl=>if l=2022 then 15 else l) [(1000003,.ptr 2013 0 0),(1000005,.ptr 2012 0 0),(1000007,.fn (.func 344) [.rptr [.L c7.Pv a0]]),(0,.fn (.yield l20) []),(1,.rptr [.L c7.Pv a0]),(8,.L iF v17),(9,.I (v17.length:Int)),(10,.I s19),(24,.bool true)] [(2012,vS (.sl 2022) 1),(2022,⟨List.map l6.Pv j28,(List.map l6.Pv j28).length,true,2,true⟩),(2013,vR (.fn (.func 385) [.rptr [.I a1]]) 1)])<|S2 1 J ?_
    refine G9 false J (λq=>nomatch q) (λ_=>?_);refine b9<|S6 2 J ?_;exact eL h (Wk.trans (n7 _ [2022]) (WP (λl=>if l=912512 then 2022 else l)))
   ·refine g6 ?_;refine S3 2 J<|cA h b2b J J λv29 _ h=>yN ?_;refine cN h (λhc h=>?_) λhc h=>?_
    ·refine S5 2 J ?_;refine y0 J (N9 (f:=l6.Pv) (l:=[(⟨v23,v24.1⟩:l6)]) J a59 b0A a8C J J nl J J)<|w8 h λv30 hv37 h=>O5 J (K5 (f:=l6.Pv) hv37 J J J J J J (.inl ⟨_,J,J⟩) a59 b0A c1m a8C J (λ_=>J)) J J J<|S2 1 J ?_;exact eJ h (Wk.trans (n7 _ [15]) W)
    ·refine b9 ?_;exact eJ h (Wk.trans (n7 _ [2021]) (WP (λl=>if l=15 then 2021 else l)))
  ·refine m7 ?_;refine c4<|c4<|j4 ?_;refine .inl ⟨J,?_⟩;have h:=xL hx27 h;exact eJ h (Wk.trans (n7 _ [912512]) (WP (λl=>if l=2001 then 2012 else if l=912501 then 912512 else l)))

theorem b4f{a0 a1}:PO Tryz.prog 349 [.L c7.Pv a0,.I a1] (a4I a0 a1) λr=>.I r:=by
 refine pO Tryz.func349 λr h _ _=>?_;refine S4 2 J<|S3 1 J<|cF h a7L J J λv1 _ h=>S1 1 J<|w8 h λv2 hv2 h=>ycL J (B0 J J9 J hv2) J<|nL J a59<|S2 1 J<|b8 ?_;cases h;exact f1

theorem b5h{a0 a1 a2}:PO Tryz.prog 282 [a7.Pv a0,.L c7.Pv a1,.I a2] (a44 a0 a1 a2) λr=>.I r:=by
 refine pO Tryz.func282 λr h _ _=>?_;refine S4 2 J<|S3 2 J<|cA h c0W J J λv1 _ h=>S1 2 J<|cA h b4f J J λv2 _ h=>S2 2 J<|b8 ?_;cases h;exact f1

theorem b5V{a0 a1 a2}:PO Tryz.prog 212 [a7.Pv a0,.L c7.Pv a1,.I a2] (a6Z a0 a1 a2) λr=>.I r:=by
 refine pO Tryz.func212 λr h _ _=>?_;refine S4 2 J<|S3 2 J<|cF h B7 J J λv1 _ h=>S2 6 J<|g7<|S4 2 J ?_;refine cN h (λhc h=>?_) λhc h=>?_
 ·refine S4 1 J ?_;refine b8 ?_;cases h;exact f1
 ·refine b9 ?_;refine dr [] u5 (by kernel_rfl) (by kernel_rfl)<|S7 5 J<|w8 h λv2 hv2 h=>d2 J (z8 J b5h J hv2) J<|S8 2 J<|b8 ?_
  cases h;exact f1

theorem b8r{a0 a1}:PO Tryz.prog 283 [.L iF a0,.I a1] (a9i a0 a1) λr=>.I r:=by
 refine pO Tryz.func283 λr h _ _=>?_;refine S4 2 J<|S4 2 J ?_;refine jq h (λj11=>St.of [(5,.ptr 2001 0 0)] [(2001,vR (.I j11) 1)]) (λj11 h=>?_) λκ10 h=>?_
 ·refine S4 2 J ?_;refine b8 ?_;cases h;exact f1
 ·refine S3 1 J ?_;refine cF h b1S J J λv12 _ h=>yN<|g6<|a2Y (WPE (λl=>if l=2003 then 5 else if l=2004 then 3 else l) [(3,.ptr 2004 0 0),(5,.ptr 2003 0 0),(8,.fn (.func 292) [.rptr [.L iF v12]])] [(2003,vR (.I 0) 1),(2004,vR (.I a1) 1)]) ?_
  refine a0h (fn:=Tryz.f292) (N1:=20) J Tryz.func292 J J nl J c1o J J (λl17 e18 o19 hR20=>?_);refine S3 1 J<|nL J j8<|S2 1 J<|g6<|lq h (λq=>St.of [(1000003,.ptr 2004 0 0),(1000005,.ptr 2003 0 0),(1000008,.fn (.func 292) [.rptr [.L iF v12]]),(0,.fn (.yield l17) []),(5,.L iF v12),(6,.I (v12.length:Int)),(7,.I q.1)] [(2003,vR (.I q.2) 1),(2004,vR (.I a1) 1)]) W λq17 x16 h hx23=>?_;obtain⟨s14,s15⟩:=q17;refine S4 1 J<|g7 ?_;refine cN h (λhc h=>?_) λhc h=>?_
  ·refine b9 ?_;refine g7<|g6<|sR<|iL h J J j8 o8 λv18 _ h=>S2 2 J<|S3 3 J<|c5 J (λhg=>om (d:=.fn (.yield l17) []) J)<|c5 J (λhg=>mI J) ?_;rcases Bool.eq_false_or_eq_true ((v18 != 0)==true) with hg25 | hg25
   ·have h:=ifT h hg25;refine L2 (WE [(1000003,.ptr 2004 0 0),(1000005,.ptr 2003 0 0),(1000008,.fn (.func 292) [.rptr [.L iF v12]]),(0,.fn (.yield l17) []),(5,.L iF v12),(6,.I (v12.length:Int)),(7,.I s14),(13,.bool (v18 != 0)),(14,.fn (.yield l17) []),(15,.I v18)] [(2003,vR (.I s15) 1),(2004,vR (.I a1) 1)]) ?_;refine a3L hR20 (congrArg some hg25) J J J J J (λe26 o27 o28=>?_);refine S6 1 J ?_;refine⟨J,?_⟩;refine jqE h (λj20=>St.of [(2000003,.ptr 2004 0 0),(2000005,.ptr 2003 0 0),(2000008,.fn (.func 292) [.rptr [.L iF v12]]),(1000000,.fn (.yield l17) []),(1000005,.L iF v12),(1000006,.I (v12.length:Int)),(1000007,.I s14),(1000013,.bool (v18 != 0)),(1000014,.fn (.yield l17) []),(1000015,.I v18)] [(2003,vR (.I j20) 1),(2004,vR (.I a1) 1)]) (λj20 h=>?_) λκ19 h=>?_
    ·refine⟨J,?_⟩;refine L2 (WE [(1000003,.ptr 2004 0 0),(1000005,.ptr 2003 0 0),(1000008,.fn (.func 292) [.rptr [.L iF v12]]),(0,.fn (.yield l17) []),(5,.L iF v12),(6,.I (v12.length:Int)),(7,.I s14),(13,.bool (v18 != 0)),(16,.bool true)] [(2003,vR (.I j20) 1),(2004,vR (.I a1) 1)])<|c5 J (λhg=>P5 J J)<|y0 J (m8 J J J (λq=>J2 q))<|yN ?_;refine cN h (λhc h=>?_) λhc h=>?_
     ·refine b8 ?_;refine .inl ⟨J,?_⟩;have h:=xL hx23 h;exact eJ h (WP (λl=>if l=2001 then 2003 else l))
     ·refine b9 ?_;refine S6 2 J ?_;exact eL h W
    ·refine g6 ?_;refine S4 3 J ?_;refine cN h (λhc h=>?_) λhc h=>?_
     ·refine S6 3 J ?_;exact eJ h W
     ·refine b9 ?_;exact eJ h W
   ·have h:=ifF h hg25;refine a11 (congrArg some hg25)<|a11 (congrArg some hg25)<|y0 J (a8R J J hg25)<|yN ?_;refine G9 false J (λq=>nomatch q) (λ_=>?_);refine b9<|S6 2 J ?_;exact eL h W
  ·refine m7 ?_;refine c4<|c4<|j4 ?_;refine .inl ⟨J,?_⟩;have h:=xL hx23 h;exact eJ h (WP (λl=>if l=2001 then 2003 else l))

theorem b5N{a0 a1}:PO Tryz.prog 213 [.L iF a0,.I a1] (a6K a0 a1) λr=>.I r:=by
 refine pO Tryz.func213 λr h _ _=>?_;refine S4 1 J<|S3 2 J<|cA h b8r J J λv1 _ h=>S2 1 J<|b8 ?_;cases h;exact f1

theorem b3j{a0 a1 a2 a3 a4}:PO Tryz.prog 210 [.I a0,k8.Pv a1,.rptr (a7.Pc a2),.rptr [.L c7.Pv a3],.rptr [.L iF a4]] (a3J a0 a1 a2 a3 a4) λr=>.bool r:=by
 refine pO Tryz.func210 λr h _ _=>?_;unfold a3J at h;refine S4 2 J<|dr [] u5 (by kernel_rfl) (by kernel_rfl)<|S7 2 J<|w8 h λv1 hv1 h=>d2 J (z8 J b39 J hv1) J<|S7 2 J<|A5 J (λhg=>a4b J a49 a5b nl J) J<|A5 J (λhg=>E6 J a9V J) J<|p9 J (λhg _ hN=>mI J) J<|w8 h λv2 hv2 h=>a4G J (λhg=>z8 J b5V (u6 (ct hg) (u6 (ct hg) (u6 (ct hg) J))) (y7 hv2 hg)) J<|A5 J (λhg=>E6 J U9 J) J<|p9 J (λhg _ hN=>mI J) J<|w8 h λv3 hv3 h=>a4G J (λhg=>z8 J b5N (u6 (ct hg) (u6 (ct hg) J)) (y7 hv3 hg)) J<|p9 J (λhg _ hN=>l5 (ct hg) (ct hg) J) J<|d7 J (λ_ hN=>m8 J J J (λq=>J2 q)) J<|S8 1 J<|b8 ?_
 cases h;exact f1

theorem b5U{a0 a1 a2}:PO Tryz.prog 127 [a7.Pv a0,.L c7.Pv a1,.L iF a2] (a6Y a0 a1 a2) λr=>.bool r:=by
 refine pO Tryz.func127 λr h _ _=>?_;refine S4 4 J<|S3 1 J<|y0 J (s7 (cs:=[.fn (.func 210) [.ptr 3 0 0,.ptr 4 0 0,.ptr 5 0 0]]) J c6Q c63 J J J)<|L2 (a3x 9 (d':=.agg [.fn (.func 210) [.ptr 3 0 0,.ptr 4 0 0,.ptr 5 0 0]]) J)<|S2 2 J<|S3 2 J<|L2 (WPE (λl=>if l=2001 then 5 else if l=2002 then 4 else if l=2003 then 3 else l) [(10,.agg [.fn (.func 210) [.ptr 2003 0 0,.ptr 2002 0 0,.ptr 2001 0 0]]),(11,a7.Pv a0)] [(2001,vR (.L iF a2) 1),(2002,vR (.L c7.Pv a1) 1),(2003,vR (a7.Pv a0) 3)]) ?_
 refine b6F (fn:=Tryz.f214) (N1:=34) J J Tryz.func214 J c6E J J nl (λe1 o2=>?_);refine jqR h (λj36=>St.of [(1000010,.agg [.fn (.func 210) [.ptr 2003 0 0,.ptr 2002 0 0,.ptr 2001 0 0]]),(1000011,a7.Pv a0),(4,.sl 910005)] [(910005,⟨List.map iF j36,(List.map iF j36).length,true,1,true⟩),(2001,vR (.L iF a2) 1),(2002,vR (.L c7.Pv a1) 1),(2003,vR (a7.Pv a0) 3)]) (λj36 h=>dup ?_) λκ35 h=>?_
 ·refine⟨J,[.sl 910005],⟨J,tr⟩,?_⟩;refine L2 (WPE (λl=>if l=2004 then 910005 else l) [(12,.sl 2004)] [(2004,⟨List.map iF j36,(List.map iF j36).length,true,1,true⟩)])<|y0 J (c1Y (f:=iF) J J J j8)<|S2 2 J<|b8 ?_
  cases h;exact f1
 ·refine S4 3 J ?_;refine S4 1 J ?_;refine jq h (λj54=>St.of [(1000010,.agg [.fn (.func 210) [.ptr 2003 0 0,.ptr 2002 0 0,.ptr 2001 0 0]]),(1000011,a7.Pv a0),(5,.sl 910005)] [(910005,⟨List.map iF j54,(List.map iF j54).length,true,1,true⟩),(2001,vR (.L iF a2) 1),(2002,vR (.L c7.Pv a1) 1),(2003,vR (a7.Pv a0) 3)]) (λj54 h=>?_) λκ53 h=>?_
  ·refine S4 2 J ?_;refine b8 ?_;exact eJ h (Wk.trans (n7 _ [910005]) W)
  ·refine S3 1 J ?_;refine cF h a2M J J λv55 _ h=>nL J j8<|S2 1 J<|g6<|lq h (λq=>St.of [(1000010,.agg [.fn (.func 210) [.ptr 2003 0 0,.ptr 2002 0 0,.ptr 2001 0 0]]),(1000011,a7.Pv a0),(2,.ptr 2 0 0),(3,.ptr 3 0 0),(5,.sl 910005),(11,.L iF v55),(12,.I (v55.length:Int)),(13,.I q.1)] [(3,vR (a7.Pv a0) 3),(2,vS (.agg [.fn (.func 210) [.ptr 2003 0 0,.ptr 2002 0 0,.ptr 2001 0 0]]) 1),(2001,vR (.L iF a2) 1),(2002,vR (.L c7.Pv a1) 1),(2003,vR (a7.Pv a0) 3),(910005,⟨List.map iF q.2,(List.map iF q.2).length,true,1,true⟩)]) (Wk.trans (H4 (t:=5) (l:=920005) (z:=1) J J) (WP (λl=>if l=910005 then 920005 else l))) λq60 x59 h hx48=>?_
   obtain⟨s57,s58⟩:=q60;refine S4 1 J<|g7 ?_;refine cN h (λhc h=>?_) λhc h=>?_
   ·refine b9 ?_;refine jq h (λj66=>St.of [(1000010,.agg [.fn (.func 210) [.ptr 2003 0 0,.ptr 2002 0 0,.ptr 2001 0 0]]),(1000011,a7.Pv a0),(2,.ptr 2 0 0),(3,.ptr 3 0 0),(5,.sl 31),(11,.L iF v55),(12,.I (v55.length:Int)),(13,.I s57)] [(31,⟨List.map iF j66,(List.map iF j66).length,true,1,true⟩),(3,vR (a7.Pv a0) 3),(2,vS (.agg [.fn (.func 210) [.ptr 2003 0 0,.ptr 2002 0 0,.ptr 2001 0 0]]) 1),(2001,vR (.L iF a2) 1),(2002,vR (.L c7.Pv a1) 1),(2003,vR (a7.Pv a0) 3)]) (λj66 h=>?_) λκ65 h=>?_
    ·refine S6 2 J ?_;exact eL h (Wk.trans (n7 _ [31]) (WP (λl=>if l=910005 then 31 else l)))
    ·refine g6 ?_;refine sR<|iL h J J j8 o8 λv67 _ h=>S2 2 J<|S3 2 J<|cF h B7 J J λv68 _ h=>S2 6 J<|S3 4 J<|cA h b3j J J λv69 _ h=>yN ?_;refine cN h (λhc h=>?_) λhc h=>?_
     ·refine S5 2 J ?_;refine y0 J (N9 (f:=iF) (l:=[v67]) J j8 o8 C2 J J nl J J)<|w8 h λv70 hv57 h=>O5 J (K5 (f:=iF) hv57 J J J J J J (.inl ⟨_,J,J⟩) j8 o8 O2 C2 J (λ_=>J)) J J J<|S2 1 J ?_;exact eJ h (Wk.trans (n7 _ [31]) W)
     ·refine b9 ?_;exact eJ h (Wk.trans (n7 _ [910005]) (WP (λl=>if l=31 then 910005 else l)))
   ·refine m7 ?_;refine c4<|c4<|j4 ?_;have h:=xL hx48 h;exact eJ h (Wk.trans (n7 _ [910005]) W)

theorem b5H{a0}:PO Tryz.prog 60 [a8.Pv a0] (a6q a0) λr=>.bool r:=by
 refine pO Tryz.func60 λr h _ _=>?_;refine S4 2 J<|g7<|S3 1 J<|cA h b01 J J λv1 _ h=>S2 1 J ?_;refine cN h (λhc h=>?_) λhc h=>?_
 ·refine S4 1 J ?_;refine b8 ?_;cases h;exact f1
 ·refine b9 ?_;refine jq h (λ_=>St.of [(1,.ptr 1 0 0)] [(1,vR (a8.Pv a0) 8)]) (λq9 h=>?_) λκ8 h=>?_
  ·refine dr [] u5 (by kernel_rfl) (by kernel_rfl) ?_
   refine S7 5 J<|w8 h λv10 hv11 h=>d2f J (B0 J b5G J hv11) J<|w8 h λv11 hv12 h=>d2 J (z8 J b5U J hv12) J<|S8 1 J<|b8 ?_;cases h;exact f1
  ·refine sR ?_;refine y0 J (N9 (f:=λn:Nat=>PV.fn (.func n) []) (l:=[122,123,124,125,126]) J b6L c3S c9c J J nl J J)<|L2 (d0R 8 (d':=.lst true (List.map fvE [(some 122),(some 123),(some 124),(some 125),(some 126)])) J J J)<|nL J b6L<|S2 1 J<|g6<|lq h (λs13=>St.of [(1,.ptr 1 0 0),(8,.lst true (List.map fvE [(some 122),(some 123),(some 124),(some 125),(some 126)])),(9,.I ([(some 122),(some 123),(some 124),(some 125),(some 126)].length:Int)),(10,.I s13)] [(1,vR (a8.Pv a0) 8)]) W λs13 x14 h hx15=>S4 1 J<|g7 ?_;refine cN h (λhc h=>?_) λhc h=>?_
   ·refine b9 ?_;refine g7<|g6<|sR<|iL h J J b6L c3S λv15 _ h=>S2 2 J<|S3 2 J ?_;obtain⟨v16,hv17,h⟩:=a7H h;obtain⟨n17,he18,hk19,hp20⟩:=c0q hv17;refine L2 (c2v 14 J he18)<|y0 J (b4E J hk19 J hp20)<|S2 1 J ?_;refine cN h (λhc h=>?_) λhc h=>?_
    ·refine S4 1 J ?_;refine b8 ?_;have h:=xL hx15 h;cases h;exact f1
    ·refine b9 ?_;refine S6 2 J ?_;exact eL h W
   ·refine m7 ?_;refine c4<|c4<|j4 ?_;have h:=xL hx15 h;exact eJ h W

theorem L1:PO Tryz.prog 44 [] (F9) λr=>.bool r:=by
 refine pO Tryz.func44 λr h _ _=>?_;refine S4 1 J<|sR<|y0 J (s7 (cs:=[.I 2,.I 2,.I 5,.I 0]) J b33 a9Y J J J)<|y0 J (N9 (f:=j1.Pv) (l:=[(⟨2,2,5,0⟩:j1)]) J a6a b34 a9Y J J nl J J)<|y0 J (G1 J a6a b34)<|y0 J (N9 (f:=(Ls j1.Pv)) (l:=[[(⟨2,2,5,0⟩:j1)],[]]) J a6b b35 c9g J J nl J J)<|S2 1 J<|sR<|cF h b85 J J λv1 _ h=>y0 J (s7 (cs:=[.I 1,.I 0,.I 0,.I 0]) J b33 a9Y J J J)<|y0 J (s7 (cs:=[.I 6,.I 0,.I 0,.I 1]) J b33 a9Y J J J)<|y0 J (s7 (cs:=[.I 3,.I 0,.I 0,.I 0]) J b33 a9Y J J J)<|y0 J (N9 (f:=j1.Pv) (l:=[(⟨1,0,0,0⟩:j1),(⟨6,0,0,1⟩:j1),(⟨3,0,0,0⟩:j1)]) J a6a b34 a9Y J J nl J J)<|cF h a7Y J J λv2 _ h=>S2 6 J<|S3 2 J<|cF h H8 J J λv3 _ h=>S2 10 J<|S3 2 J<|cF h H8 J J λv4 _ h=>S2 10 J<|S3 1 J<|y0 J (s7 (cs:=[.I 3,.I 2,.I 0,.I 0]) J b33 a9Y J J J)<|cF h a9K J J λv5 _ h=>S2 8 J<|S3 2 J<|cF h H8 J J λv6 _ h=>S2 10 J<|S3 2 J<|cF h a0O J J λv7 _ h=>?_;refine S2 9 J<|g7<|S3 2 J<|nL J G0<|S1 2 J<|c5 J (λhg=>oF J a2P J)<|c5 J (λhg=>oS (ct hg) J J a7s J)<|c5 J (λhg=>J7 (f:=g5.Pv) (ct hg) G0)<|c5 J (λhg=>l5 (ct hg) J J)<|y0 J (o9 J J J (λq=>I8 q))<|yN ?_;refine cN h (λhc h=>?_) λhc h=>?_
 ·refine S4 1 J ?_;refine b8 ?_;cases h;exact f1
 ·refine b9 ?_;refine S3 3 J<|c5 J (λhg=>mI J)<|c5 J (λhg=>l5 (ct hg) J J)<|y0 J (m8 J J J (λq=>J2 q))<|S1 1 J<|c5 J (λhg=>mI J)<|c5 J (λhg=>l5 (ct hg) J J)<|y0 J (m8 J J J (λq=>J2 q))<|S1 1 J<|c5 J (λhg=>mI J)<|c5 J (λhg=>l5 (ct hg) J J)<|y0 J (m8 J J J (λq=>J2 q))<|S1 1 J<|c5 J (λhg=>mI J)<|c5 J (λhg=>l5 (ct hg) J J)<|y0 J (m8 J J J (λq=>J2 q))<|S1 1 J<|c5 J (λhg=>mI J)<|c5 J (λhg=>l5 (ct hg) J J)<|y0 J (m8 J J J (λq=>J2 q))<|S1 1 J<|c5 J (λhg=>oL J J J p5 n9 nl J)<|w8 h λv8 hv8 h=>c5 J (λhg=>z8 J a0Q (u6 (ct hg) (u6 J J)) (y7 hv8 hg))<|c5 J (λhg=>l5 (ct hg) J J)<|y0 J (m8 J J J (λq=>J2 q))<|S1 1 J<|c5 J (λhg=>oL J J J p5 n9 nl J)<|w8 h λv9 hv9 h=>c5 J (λhg=>z8 J a0Q (u6 (ct hg) (u6 J J)) (y7 hv9 hg))<|c5 J (λhg=>l5 (ct hg) J J)<|y0 J (m8 J J J (λq=>J2 q))<|S1 1 J<|c5 J (λhg=>oF J a2P J)<|c5 J (λhg=>oS (ct hg) J J a7s J)<|w8 h λv10 hv10 h=>c5 J (λhg=>z7 (f:=g5.Pv) (cs:=g5.Pc v10) (y7 hv10 hg) (ct hg) J G0 T2 J J)<|c5 J (λhg=>A3 (ct hg) b0y J)<|c5 J (λhg=>E6 (ct hg) a3U J)<|y0 J (m8 J J J (λq=>J2 q))<|S1 1 J<|c5 J (λhg=>mI J)<|c5 J (λhg=>l5 (ct hg) J J)<|y0 J (m8 J J J (λq=>J2 q))<|S1 1 J<|c5 J (λhg=>oF J a0L J)<|c5 J (λhg=>oF (ct hg) a2O J)<|c5 J (λhg=>oS (ct hg) J J a7t J)<|c5 J (λhg=>J7 (f:=c8.Pv) (ct hg) F7)<|c5 J (λhg=>l5 (ct hg) J J)<|y0 J (m8 J J J (λq=>J2 q))<|S1 1 J<|c5 J (λhg=>oF J a2P J)<|c5 J (λhg=>oS (ct hg) J J a7s J)<|w8 h λv11 hv11 h=>c5 J (λhg=>z7 (f:=g5.Pv) (cs:=g5.Pc v11) (y7 hv11 hg) (ct hg) J G0 T2 J J)<|c5 J (λhg=>A3 (ct hg) b0y J)<|c5 J (λhg=>E6 (ct hg) a3U J)<|c5 J (λhg=>P5 (ct hg) J)<|y0 J (m8 J J J (λq=>J2 q))<|S1 1 J<|c5 J (λhg=>mI J)<|c5 J (λhg=>l5 (ct hg) J J)<|y0 J (m8 J J J (λq=>J2 q))<|S1 1 J<|c5 J (λhg=>mI J)<|c5 J (λhg=>l5 (ct hg) J J)<|y0 J (m8 J J J (λq=>J2 q))<|S1 1 J<|c5 J (λhg=>oL J J J p5 n9 nl J)<|w8 h λv12 hv12 h=>c5 J (λhg=>z8 J Z8 (u6 (ct hg) J) (y7 hv12 hg))<|y0 J (m8 J J J (λq=>J2 q))<|S1 1 J<|c5 J (λhg=>oL J J J a0E D9 nl J)<|c5 J (λhg=>s7 (cs:=[.I 0,.I 0,.I 0]) J b15 a7G J J J)<|c5 J (λhg=>c1X (xs:=c8.Pc v7.2.1) (ys:=[.I 0,.I 0,.I 0]) b6N (ct hg) (ct hg) J)<|y0 J (m8 J J J (λq=>J2 q))<|S1 1 J<|c5 J (λhg=>mI J)<|c5 J (λhg=>l5 (ct hg) J J)<|y0 J (m8 J J J (λq=>J2 q))<|S1 1 J<|c5 J (λhg=>om (d:=.lst true (List.map (Ls j1.Pv) [[(⟨2,2,5,0⟩:j1)],[]])) J)<|c5 J (λhg=>s7 (cs:=[.I 0,.I 0,.I 0]) J b15 a7G J J J)<|w8 h λv13 hv13 h=>c5 J (λhg=>z8 J a5e (u6 (ct hg) (u6 (ct hg) J)) (y7 hv13 hg))<|c5 J (λhg=>l5 (ct hg) J J)<|y0 J (m8 J J J (λq=>J2 q))<|S1 1 J<|c5 J (λhg=>oL J J J p5 n9 nl J)<|w8 h λv14 hv14 h=>c5 J (λhg=>z8 J b5H (u6 (ct hg) J) (y7 hv14 hg))<|y0 J (m8 J J J (λq=>J2 q))<|S2 1 J<|b8 ?_;cases h;exact f1

theorem w20_DrainStays_ok{a0 a1 a2}:PO Tryz.prog 11 [a8.Pv a0,.L (Ls j1.Pv) a1,.int .u8 a2] (a4t a0 a1 a2) λr=>.bool r:=by
 refine pO Tryz.func11 λr h _ _=>?_;refine S4 2 J<|g7<|S3 1 J<|cA h a29 J J λv1 _ h=>S1 2 J<|c5 J (λhg=>om (d:=.L (Ls j1.Pv) a1) J)<|w8 h λv2 hv2 h=>c5 J (λhg=>z8 J a4u (u6 (ct hg) J) (y7 hv2 hg))<|c5 J (λhg=>P5 (ct hg) J)<|y0 J (o9 J J J (λq=>I8 q))<|S1 1 J<|w8 h λv3 hv3 h=>c5 J (λhg=>z8 J L1 J (y7 hv3 hg))<|c5 J (λhg=>P5 (ct hg) J)<|y0 J (o9 J J J (λq=>I8 q))<|yN ?_;refine cN h (λhc h=>?_) λhc h=>?_
 ·refine sR ?_;refine cA h L1 J J λv4 _ h=>S2 1 J<|b8 ?_;cases h;exact f1
 ·refine b9 ?_;refine S3 3 J<|y0 J (a38 J a7F a7D J)<|cF h H8 J J λv5 _ h=>S2 10 J<|S3 2 J<|cF h a0O J J λv6 _ h=>S2 9 J<|g7<|S3 1 J<|cA h a1e J J λv7 _ h=>S1 2 J<|c5 J (λhg=>oL J J J p5 n9 nl J)<|w8 h λv8 hv8 h=>c5 J (λhg=>z8 J a1e (u6 (ct hg) J) (y7 hv8 hg))<|c5 J (λhg=>P5 (ct hg) J)<|y0 J (o9 J J J (λq=>I8 q))<|S1 1 J<|c5 J (λhg=>oF J a5p J)<|c5 J (λhg=>oS (ct hg) J J U9 J)<|c5 J (λhg=>J7 (f:=iF) (ct hg) j8)<|c5 J (λhg=>l5 (ct hg) J J)<|y0 J (o9 J J J (λq=>I8 q))<|yN ?_;refine cN h (λhc h=>?_) λhc h=>?_
  ·refine S4 1 J ?_;refine b8 ?_;cases h;exact f1
  ·refine b9 ?_;refine S3 1 J<|cF h O4 J J λv9 hv9 h=>cA h a6G J J λv10 _ h=>S1 1 J<|c5 J (λhg=>oL J J J p5 n9 nl J)<|b6E J (λhg=>B0 J O4 (u6 (ct hg) J) hv9)<|w8 h λv11 hv11 h=>c5 J (λhg=>z8 J a4f (u6 (ct hg) J) (y7 hv11 hg))<|y0 J (m8 J J J (λq=>J2 q))<|S1 1 J<|c5 J (λhg=>oL J J J p5 n9 nl J)<|w8 h λv12 hv12 h=>b6E J (λhg=>B0 J O4 (u6 (ct hg) J) (y7 hv12 hg))<|w8 h λv13 hv13 h=>c5 J (λhg=>z8 J a6G (u6 (ct hg) J) (y7 hv13 hg))<|y0 J (m8 J J J (λq=>J2 q))<|S1 1 J<|c5 J (λhg=>oL J J J p5 n9 nl J)<|w8 h λv14 hv14 h=>b6E J (λhg=>B0 J O4 (u6 (ct hg) J) (y7 hv14 hg))<|w8 h λv15 hv15 h=>c5 J (λhg=>z8 J a4f (u6 (ct hg) J) (y7 hv15 hg))<|y0 J (m8 J J J (λq=>J2 q))<|S1 1 J<|c5 J (λhg=>mI J)<|c5 J (λhg=>l5 (ct hg) J J)<|y0 J (m8 J J J (λq=>J2 q))<|S1 1 J<|c5 J (λhg=>mI J)<|c5 J (λhg=>om (d:=.int .u8 a2) J)<|c5 J (λhg=>a38 (ct hg) a7F a7D J)<|c5 J (λhg=>l5 (ct hg) (ct hg) J)<|y0 J (m8 J J J (λq=>J2 q))<|S1 1 J<|c5 J (λhg=>mI J)<|c5 J (λhg=>l5 (ct hg) J J)<|c5 J (λhg=>oF J a0L J)<|c5 J (λhg=>oF (ct hg) a2O J)<|c5 J (λhg=>oS (ct hg) J J a7t J)<|c5 J (λhg=>J7 (f:=c8.Pv) (ct hg) F7)<|c5 J (λhg=>l5 (ct hg) J J)<|c5 J (λhg=>c40 (ct hg) (ct hg) c1x J)<|y0 J (m8 J J J (λq=>J2 q))<|S1 1 J<|c5 J (λhg=>mI J)<|c5 J (λhg=>l5 (ct hg) J J)<|c5 J (λhg=>om (d:=.bool (v6.2.2 != 0)) (ct hg))<|c5 (r9 J J J) (λhg=>oF J c3M J)<|c5 (r9 J J J) (λhg=>oS (ct hg) J J p7 J)<|c5 (r9 J J J) (λhg=>l5 (ct hg) J J)<|c5 J (λhg=>o9 (ct hg) J J (λq=>a2a hg (I8 q))) ?_;refine c5 J (λhg=>om (d:=.bool ((v6.2.2 != 0)||(v6.2.1.Kind != 1))) (ct hg))<|c5 (r9 J J J) (λhg=>oF J a5p J)<|c5 (r9 J J J) (λhg=>oS (ct hg) J J U9 J)<|w8 h λv16 hv16 h=>c5 (r9 J J J) (λhg=>z7 (f:=iF) (cs:=[.I v16]) (y7 hv16 hg) (ct hg) J j8 o8 J J)<|c5 (r9 J J J) (λhg=>E6 (ct hg) p7 J)<|c5 (r9 J J J) (λhg=>l5 (ct hg) J J)<|c5 J (λhg=>o9 (ct hg) J J (λq=>a2a hg (I8 q)))<|y0 J (m8 J J J (λq=>J2 q))<|S2 1 J<|b8 ?_;cases h;exact f1

theorem a73{a0 a1}:PO Tryz.prog 22 [.L iF a0,.L iF a1] (a20 a0 a1) λr=>.bool r:=by
 refine pO Tryz.func22 λr h _ _=>?_;refine S4 1 J<|g7<|S3 1 J<|nL J j8<|S1 1 J<|nL J j8<|S2 1 J ?_;refine cN h (λhc h=>?_) λhc h=>?_
 ·refine S4 1 J ?_;refine b8 ?_;cases h;exact f1
 ·refine b9 ?_;refine jq h (λ_=>St.of [] []) (λq7 h=>?_) λκ6 h=>?_
  ·refine S4 1 J ?_;refine b8 ?_;cases h;exact f1
  ·refine S4 1 J ?_;refine g6<|lq h (λs9=>St.of [(0,.L iF a0),(1,.L iF a1),(5,.I s9)] []) W λs9 x10 h hx9=>g7<|S3 2 J<|nL J j8<|S2 1 J ?_;refine cN h (λhc h=>?_) λhc h=>?_
   ·refine b9 ?_;refine g7<|g6<|dr [] u5 (by kernel_rfl) (by kernel_rfl)<|S7 2 J<|w8 h λv11 hv10 h=>d0 J (z7 (f:=iF) (cs:=[.I v11]) hv10 J J j8 o8 J J) J<|S7 3 J<|w8 h λv12 hv11 h=>d0 J (z7 (f:=iF) (cs:=[.I v12]) hv11 J J j8 o8 J J) J<|S8 2 J ?_
    refine cN h (λhc h=>?_) λhc h=>?_
    ·refine S4 1 J ?_;refine b8 ?_;have h:=xL hx9 h;cases h;exact f1
    ·refine b9 ?_;refine S6 3 J ?_;exact eL h W
   ·refine m7 ?_;refine c4<|c4<|j4 ?_;have h:=xL hx9 h;exact eJ h W

theorem b7D{a0 a1}:PO Tryz.prog 154 [B2.Pv a0,B2.Pv a1] (a5J a0 a1) λr=>.bool r:=by
 refine pO Tryz.func154 λr h _ _=>?_;unfold a5J at h;refine S4 3 J<|S3 6 J<|c5 J (λhg=>oF J a7y J)<|c5 J (λhg=>oS (ct hg) J J p7 J)<|c5 J (λhg=>oF J a7y J)<|c5 J (λhg=>oS (ct hg) J J p7 J)<|c5 J (λhg=>l5 (ct hg) (ct hg) J)<|y0 J (m8 J J J (λq=>J2 q))<|S1 1 J<|c5 J (λhg=>oF J a7z J)<|c5 J (λhg=>oS (ct hg) J J p7 J)<|c5 J (λhg=>oF J a7z J)<|c5 J (λhg=>oS (ct hg) J J p7 J)<|c5 J (λhg=>l5 (ct hg) (ct hg) J)<|y0 J (m8 J J J (λq=>J2 q))<|S1 1 J<|c5 J (λhg=>oF J a7A J)<|c5 J (λhg=>oS (ct hg) J J p7 J)<|c5 J (λhg=>oF J a7A J)<|c5 J (λhg=>oS (ct hg) J J p7 J)<|c5 J (λhg=>l5 (ct hg) (ct hg) J)<|y0 J (m8 J J J (λq=>J2 q))<|S1 1 J<|c5 J (λhg=>oF J b0x J)<|c5 J (λhg=>oS (ct hg) J J a3U J)<|c5 J (λhg=>oF J b0x J)<|c5 J (λhg=>oS (ct hg) J J a3U J)<|c5 J (λhg=>c40 (ct hg) (ct hg) c1x J)<|y0 J (m8 J J J (λq=>J2 q))<|S1 1 J ?_;refine c5 J (λhg=>oF J a7B J)<|c5 J (λhg=>oS (ct hg) J J U9 J)<|c5 J (λhg=>oF J a7B J)<|c5 J (λhg=>oS (ct hg) J J U9 J)<|w8 h λv1 hv1 h=>c5 J (λhg=>z8 J a73 (u6 (ct hg) (u6 (ct hg) J)) (y7 hv1 hg))<|y0 J (m8 J J J (λq=>J2 q))<|S2 1 J<|b8 ?_;cases h;exact f1

theorem b9s{a0 a1}:PO Tryz.prog 76 [k9.Pv a0,k9.Pv a1] (b1j a0 a1) λr=>.bool r:=by
 refine pO Tryz.func76 λr h _ _=>?_;refine S4 3 J<|g7<|S3 6 J<|c5 J (λhg=>oF J b0v J)<|c5 J (λhg=>oS (ct hg) J J p7 J)<|c5 J (λhg=>oF J b0v J)<|c5 J (λhg=>oS (ct hg) J J p7 J)<|c5 J (λhg=>l5 (ct hg) (ct hg) J)<|y0 J (o9 J J J (λq=>I8 q))<|S1 1 J<|c5 J (λhg=>oF J a1t J)<|c5 J (λhg=>oS (ct hg) J J a58 J)<|c5 J (λhg=>J7 (f:=n8.Pv) (ct hg) J8)<|c5 J (λhg=>oF J a1t J)<|c5 J (λhg=>oS (ct hg) J J a58 J)<|c5 J (λhg=>J7 (f:=n8.Pv) (ct hg) J8)<|c5 J (λhg=>l5 (ct hg) (ct hg) J)<|y0 J (o9 J J J (λq=>I8 q))<|yN ?_;refine cN h (λhc h=>?_) λhc h=>?_
 ·refine S4 1 J ?_;refine b8 ?_;cases h;exact f1
 ·refine b9 ?_;refine jq h (λ_=>St.of [] []) (λq8 h=>?_) λκ7 h=>?_
  ·refine S4 1 J ?_;refine b8 ?_;cases h;exact f1
  ·refine S4 1 J ?_;refine g6<|lq h (λs10=>St.of [(2,.ptr 2 0 0),(3,.ptr 3 0 0),(5,.I s10)] [(3,vR (k9.Pv a1) 3),(2,vR (k9.Pv a0) 3)]) W λs10 x11 h hx10=>g7<|S3 3 J<|nL J J8<|S2 1 J ?_;refine cN h (λhc h=>?_) λhc h=>?_
   ·refine b9 ?_;refine g7<|g6<|dr [] u5 (by kernel_rfl) (by kernel_rfl)<|S7 3 J<|w8 h λv12 hv11 h=>d0 J (z7 (f:=n8.Pv) (cs:=n8.Pc v12) hv11 J J J8 M1 J J) J<|S7 5 J<|w8 h λv13 hv12 h=>d0 J (z7 (f:=n8.Pv) (cs:=n8.Pc v13) hv12 J J J8 M1 J J) J<|S7 4 J<|p9 J (λhg _ hN=>oF J a1t J) J<|A5 J (λhg=>oS (ct hg) J J a58 J) J<|p9 J (λhg _ hN=>mI J) J<|A5 J (λhg=>z7 (f:=n8.Pv) (cs:=n8.Pc v12) hv11 (ct hg) (ct hg) J8 M1 J J) J<|p9 J (λhg _ hN=>A3 (ct hg) b51 J) J<|A5 J (λhg=>E6 (ct hg) p7 J) J<|p9 J (λhg _ hN=>oF J a1t J) J<|A5 J (λhg=>oS (ct hg) J J a58 J) J<|p9 J (λhg _ hN=>mI J) J<|A5 J (λhg=>z7 (f:=n8.Pv) (cs:=n8.Pc v13) hv12 (ct hg) (ct hg) J8 M1 J J) J<|p9 J (λhg _ hN=>A3 (ct hg) b51 J) J<|A5 J (λhg=>E6 (ct hg) p7 J) J<|p9 J (λhg _ hN=>l5 (ct hg) (ct hg) J) J<|d7 J (λ_ hN=>o9 J J J (λq=>I8 q)) J<|S7 1 J<|p9 J (λhg _ hN=>oF J a1t J) J<|A5 J (λhg=>oS (ct hg) J J a58 J) J<|p9 J (λhg _ hN=>mI J) J<|A5 J (λhg=>z7 (f:=n8.Pv) (cs:=n8.Pc v12) hv11 (ct hg) (ct hg) J8 M1 J J) J<|p9 J (λhg _ hN=>A3 (ct hg) a1g J) J<|A5 J (λhg=>a4b (ct hg) b3T a7E nl J) J<|p9 J (λhg _ hN=>oF J a1t J) J<|A5 J (λhg=>oS (ct hg) J J a58 J) J<|p9 J (λhg _ hN=>mI J) J<|A5 J (λhg=>z7 (f:=n8.Pv) (cs:=n8.Pc v13) hv12 (ct hg) (ct hg) J8 M1 J J) J<|p9 J (λhg _ hN=>A3 (ct hg) a1g J) J<|A5 J (λhg=>a4b (ct hg) b3T a7E nl J) J<|w8 h λv14 hv13 h=>a4G J (λhg=>z8 J b7D (u6 (ct hg) (u6 (ct hg) J)) (y7 hv13 hg)) J<|p9 J (λhg _ hN=>P5 (ct hg) J) J<|d7 J (λ_ hN=>o9 J J J (λq=>I8 q)) J<|U7 ?_
    refine cN h (λhc h=>?_) λhc h=>?_
    ·refine S4 1 J ?_;refine b8 ?_;have h:=xL hx10 h;cases h;exact f1
    ·refine b9 ?_;refine S6 3 J ?_;exact eL h W
   ·refine m7 ?_;refine c4<|c4<|j4 ?_;have h:=xL hx10 h;exact eJ h W

theorem b9t{a0 a1}:PO Tryz.prog 77 [.L s6.Pv a0,.L s6.Pv a1] (b1m a0 a1) λr=>.bool r:=by
 refine pO Tryz.func77 λr h _ _=>?_;refine S4 1 J<|g7<|S3 1 J<|nL J a19<|S1 1 J<|nL J a19<|S2 1 J ?_;refine cN h (λhc h=>?_) λhc h=>?_
 ·refine S4 1 J ?_;refine b8 ?_;cases h;exact f1
 ·refine b9 ?_;refine jq h (λ_=>St.of [] []) (λq7 h=>?_) λκ6 h=>?_
  ·refine S4 1 J ?_;refine b8 ?_;cases h;exact f1
  ·refine S4 1 J ?_;refine g6<|lq h (λs9=>St.of [(0,.L s6.Pv a0),(1,.L s6.Pv a1),(5,.I s9)] []) W λs9 x10 h hx9=>g7<|S3 2 J<|nL J a19<|S2 1 J ?_;refine cN h (λhc h=>?_) λhc h=>?_
   ·refine b9 ?_;refine g7<|g6<|dr [] u5 (by kernel_rfl) (by kernel_rfl)<|S7 2 J<|w8 h λv11 hv10 h=>d0 J (z7 (f:=s6.Pv) (cs:=s6.Pc v11) hv10 J J a19 a6d J J) J<|S7 3 J<|w8 h λv12 hv11 h=>d0 J (z7 (f:=s6.Pv) (cs:=s6.Pc v12) hv11 J J a19 a6d J J) J<|S7 1 J<|d7 J (λ_ hN=>c10 (xs:=s6.Pc v11) (ys:=s6.Pc v12) c6U J J J J) J<|U7 ?_
    refine cN h (λhc h=>?_) λhc h=>?_
    ·refine S4 1 J ?_;refine b8 ?_;have h:=xL hx9 h;cases h;exact f1
    ·refine b9 ?_;refine S6 3 J ?_;exact eL h W
   ·refine m7 ?_;refine c4<|c4<|j4 ?_;have h:=xL hx9 h;exact eJ h W

theorem b9w{a0 a1}:PO Tryz.prog 78 [.L k7.Pv a0,.L k7.Pv a1] (b1p a0 a1) λr=>.bool r:=by
 refine pO Tryz.func78 λr h _ _=>?_;refine S4 1 J<|g7<|S3 1 J<|nL J X9<|S1 1 J<|nL J X9<|S2 1 J ?_;refine cN h (λhc h=>?_) λhc h=>?_
 ·refine S4 1 J ?_;refine b8 ?_;cases h;exact f1
 ·refine b9 ?_;refine jq h (λ_=>St.of [] []) (λq7 h=>?_) λκ6 h=>?_
  ·refine S4 1 J ?_;refine b8 ?_;cases h;exact f1
  ·refine S4 1 J ?_;refine g6<|lq h (λs9=>St.of [(0,.L k7.Pv a0),(1,.L k7.Pv a1),(5,.I s9)] []) W λs9 x10 h hx9=>g7<|S3 2 J<|nL J X9<|S2 1 J ?_;refine cN h (λhc h=>?_) λhc h=>?_
   ·refine b9 ?_;refine g7<|g6<|dr [] u5 (by kernel_rfl) (by kernel_rfl)<|S7 2 J<|w8 h λv11 hv10 h=>d0 J (z7 (f:=k7.Pv) (cs:=k7.Pc v11) hv10 J J X9 a0X J J) J<|S7 3 J<|w8 h λv12 hv11 h=>d0 J (z7 (f:=k7.Pv) (cs:=k7.Pc v12) hv11 J J X9 a0X J J) J<|S7 1 J<|d7 J (λ_ hN=>c10 (xs:=k7.Pc v11) (ys:=k7.Pc v12) c6T J J J J) J<|U7 ?_
    refine cN h (λhc h=>?_) λhc h=>?_
    ·refine S4 1 J ?_;refine b8 ?_;have h:=xL hx9 h;cases h;exact f1
    ·refine b9 ?_;refine S6 3 J ?_;exact eL h W
   ·refine m7 ?_;refine c4<|c4<|j4 ?_;have h:=xL hx9 h;exact eJ h W

theorem b9A{a0 a1}:PO Tryz.prog 79 [w7.Pv a0,w7.Pv a1] (b1t a0 a1) λr=>.bool r:=by
 refine pO Tryz.func79 λr h _ _=>?_;refine S4 3 J<|g7<|S3 6 J<|c5 J (λhg=>oF J a7v J)<|c5 J (λhg=>oS (ct hg) J J b3S J)<|c5 J (λhg=>J7 (f:=r8.Pv) (ct hg) V0)<|c5 J (λhg=>oF J a7v J)<|c5 J (λhg=>oS (ct hg) J J b3S J)<|c5 J (λhg=>J7 (f:=r8.Pv) (ct hg) V0)<|c5 J (λhg=>l5 (ct hg) (ct hg) J)<|y0 J (o9 J J J (λq=>I8 q))<|yN ?_;refine cN h (λhc h=>?_) λhc h=>?_
 ·refine S4 1 J ?_;refine b8 ?_;cases h;exact f1
 ·refine b9 ?_;refine jq h (λ_=>St.of [] []) (λq7 h=>?_) λκ6 h=>?_
  ·refine S4 1 J ?_;refine b8 ?_;cases h;exact f1
  ·refine S4 1 J ?_;refine g6<|lq h (λs9=>St.of [(2,.ptr 2 0 0),(3,.ptr 3 0 0),(5,.I s9)] [(3,vR (w7.Pv a1) 2),(2,vR (w7.Pv a0) 2)]) W λs9 x10 h hx9=>g7<|S3 3 J<|nL J V0<|S2 1 J ?_;refine cN h (λhc h=>?_) λhc h=>?_
   ·refine b9 ?_;refine g7<|g6<|dr [] u5 (by kernel_rfl) (by kernel_rfl)<|S7 3 J<|w8 h λv11 hv10 h=>d0 J (z7 (f:=r8.Pv) (cs:=r8.Pc v11) hv10 J J V0 a3f J J) J<|S7 4 J<|w8 h λv12 hv11 h=>d0 J (z7 (f:=r8.Pv) (cs:=r8.Pc v12) hv11 J J V0 a3f J J) J<|S7 1 J<|d7 J (λ_ hN=>c10 (xs:=r8.Pc v11) (ys:=r8.Pc v12) c89 J J J J) J<|U7 ?_
    refine cN h (λhc h=>?_) λhc h=>?_
    ·refine S4 1 J ?_;refine b8 ?_;have h:=xL hx9 h;cases h;exact f1
    ·refine b9 ?_;refine S6 3 J ?_;exact eL h W
   ·refine m7 ?_;refine c4<|c4<|j4 ?_;have h:=xL hx9 h;exact eJ h W

theorem b21{a0 a1}:PO Tryz.prog 29 [g9.Pv a0,g9.Pv a1] (a8a a0 a1) λr=>.bool r:=by
 refine pO Tryz.func29 λr h _ _=>?_;refine S4 3 J<|S3 4 J<|cA h b9s J J λv1 _ h=>S1 1 J<|c5 J (λhg=>oF J b3Y J)<|c5 J (λhg=>oS (ct hg) J J U9 J)<|c5 J (λhg=>oF J b3Y J)<|c5 J (λhg=>oS (ct hg) J J U9 J)<|w8 h λv2 hv2 h=>c5 J (λhg=>z8 J a73 (u6 (ct hg) (u6 (ct hg) J)) (y7 hv2 hg))<|y0 J (m8 J J J (λq=>J2 q))<|S1 1 J<|c5 J (λhg=>oF J b3Z J)<|c5 J (λhg=>oS (ct hg) J J b98 J)<|c5 J (λhg=>oF J b3Z J)<|c5 J (λhg=>oS (ct hg) J J b98 J)<|w8 h λv3 hv3 h=>c5 J (λhg=>z8 J b9t (u6 (ct hg) (u6 (ct hg) J)) (y7 hv3 hg))<|y0 J (m8 J J J (λq=>J2 q))<|S1 1 J<|c5 J (λhg=>oF J b0w J)<|c5 J (λhg=>oS (ct hg) J J b6J J)<|c5 J (λhg=>oF J b0w J)<|c5 J (λhg=>oS (ct hg) J J b6J J)<|w8 h λv4 hv4 h=>c5 J (λhg=>z8 J b9w (u6 (ct hg) (u6 (ct hg) J)) (y7 hv4 hg))<|y0 J (m8 J J J (λq=>J2 q))<|S1 1 J<|c5 J (λhg=>oF J a7w J)<|c5 J (λhg=>oL (ct hg) J J b6K b6O nl J)<|c5 J (λhg=>oF J a7w J)<|c5 J (λhg=>oL (ct hg) J J b6K b6O nl J)<|w8 h λv5 hv5 h=>c5 J (λhg=>z8 J b9A (u6 (ct hg) (u6 (ct hg) J)) (y7 hv5 hg))<|y0 J (m8 J J J (λq=>J2 q))<|S2 1 J<|b8 ?_;cases h;exact f1

theorem w20_DrainParts_ok{a0 a1 a2 a3}:PO Tryz.prog 12 [a8.Pv a0,.L (Ls j1.Pv) a1,.int .u8 a2,.int .u8 a3] (a4s a0 a1 a2 a3) λr=>.bool r:=by
 refine pO Tryz.func12 λr h _ _=>?_;refine S4 2 J<|g7<|S3 1 J<|cA h a29 J J λv1 _ h=>S1 2 J<|c5 J (λhg=>om (d:=.L (Ls j1.Pv) a1) J)<|w8 h λv2 hv2 h=>c5 J (λhg=>z8 J a4u (u6 (ct hg) J) (y7 hv2 hg))<|c5 J (λhg=>P5 (ct hg) J)<|y0 J (o9 J J J (λq=>I8 q))<|S1 1 J<|w8 h λv3 hv3 h=>c5 J (λhg=>z8 J L1 J (y7 hv3 hg))<|c5 J (λhg=>P5 (ct hg) J)<|y0 J (o9 J J J (λq=>I8 q))<|yN ?_;refine cN h (λhc h=>?_) λhc h=>?_
 ·refine sR ?_;refine cA h L1 J J λv4 _ h=>S2 1 J<|b8 ?_;cases h;exact f1
 ·refine b9 ?_;refine S3 3 J<|y0 J (a38 J a7F a7D J)<|cF h H8 J J λv5 _ h=>S2 10 J<|S3 4 J<|y0 J (a38 J a7F a7D J)<|S1 1 J<|cF h H8 J J λv6 _ h=>S2 10 J<|S3 3 J<|y0 J (a38 J a7F a7D J)<|S1 1 J<|y0 J (a38 J a7F a7D J)<|S1 1 J<|cF h H8 J J λv7 _ h=>S2 10 J<|dr [] u5 (by kernel_rfl) (by kernel_rfl)<|S7 1 J<|w8 h λv8 hv8 h=>d2 J (z8 J a1e J hv8) J<|S7 1 J<|A5 J (λhg=>oL J J J p5 n9 nl J) J<|w8 h λv9 hv9 h=>a4G J (λhg=>z8 J a1e (u6 (ct hg) J) (y7 hv9 hg)) J<|d7 J (λ_ hN=>m8 J J J (λq=>J2 q)) J<|S7 1 J<|A5 J (λhg=>oL J J J p5 n9 nl J) J<|w8 h λv10 hv10 h=>b4b J (λhg=>B0 J O4 (u6 (ct hg) J) (y7 hv10 hg)) J<|A5 J (λhg=>oL J J J p5 n9 nl J) J<|w8 h λv11 hv11 h=>b4b J (λhg=>B0 J O4 (u6 (ct hg) J) (y7 hv11 hg)) J<|w8 h λv12 hv12 h=>a4G J (λhg=>z8 J b21 (u6 (ct hg) (u6 (ct hg) J)) (y7 hv12 hg)) J<|d7 J (λ_ hN=>m8 J J J (λq=>J2 q)) J<|S7 1 J<|p9 J (λhg _ hN=>mI J) J<|p9 J (λhg _ hN=>mI J) J<|p9 J (λhg _ hN=>a3u (ct hg) (ct hg) J) J<|p9 J (λhg _ hN=>mI J) J<|p9 J (λhg _ hN=>l5 (ct hg) (ct hg) J) J<|d7 J (λ_ hN=>m8 J J J (λq=>J2 q)) J<|S7 1 J<|p9 J (λhg _ hN=>mI J) J<|p9 J (λhg _ hN=>mI J) J<|p9 J (λhg _ hN=>l5 (ct hg) (ct hg) J) J<|d7 J (λ_ hN=>m8 J J J (λq=>J2 q)) J<|S7 1 J<|p9 J (λhg _ hN=>mI J) J<|p9 J (λhg _ hN=>mI J) J<|p9 J (λhg _ hN=>l5 (ct hg) (ct hg) J) J<|d7 J (λ_ hN=>m8 J J J (λq=>J2 q)) J<|S8 1 J<|b8 ?_
  cases h;exact f1

theorem w20_DrainOnce_ok{a0 a1 a2}:PO Tryz.prog 13 [a8.Pv a0,.L (Ls j1.Pv) a1,.int .u8 a2] (a5k a0 a1 a2) λr=>.bool r:=by
 refine pO Tryz.func13 λr h _ _=>?_;refine S4 2 J<|g7<|S3 1 J<|cA h a29 J J λv1 _ h=>S1 2 J<|c5 J (λhg=>om (d:=.L (Ls j1.Pv) a1) J)<|w8 h λv2 hv2 h=>c5 J (λhg=>z8 J a4u (u6 (ct hg) J) (y7 hv2 hg))<|c5 J (λhg=>P5 (ct hg) J)<|y0 J (o9 J J J (λq=>I8 q))<|S1 1 J<|w8 h λv3 hv3 h=>c5 J (λhg=>z8 J L1 J (y7 hv3 hg))<|c5 J (λhg=>P5 (ct hg) J)<|y0 J (o9 J J J (λq=>I8 q))<|yN ?_;refine cN h (λhc h=>?_) λhc h=>?_
 ·refine sR ?_;refine cA h L1 J J λv4 _ h=>S2 1 J<|b8 ?_;cases h;exact f1
 ·refine b9 ?_;refine sR<|y0 J (G1 J j8 o8)<|S2 1 J ?_;refine jq h (λ_=>St.of [] []) (λq59 h=>?_) λκ58 h=>?_
  ·refine S4 1 J ?_;refine b8 ?_;cases h;exact f1
  ·refine S4 1 J ?_;refine g6<|lq h (λq=>St.of [(1,.L (Ls j1.Pv) a1),(2,.int .u8 a2),(3,.ptr 3 0 0),(7,.sl 910007),(8,.I q.1)] [(3,vR (a8.Pv q.2.1) 8),(910007,⟨List.map iF q.2.2,(List.map iF q.2.2).length,true,1,true⟩)]) (Wk.trans (H4 (t:=7) (l:=920007) (z:=1) J J) (WP (λl=>if l=910007 then 920007 else l))) λq65 x64 h hx51=>?_
   obtain⟨s61,s62,s63⟩:=q65;refine g7<|S3 2 J<|y0 J (a38 J a7F a7D J)<|w8 h λv66 hv52 h=>y0 J (a3u J J hv52)<|S2 1 J ?_;refine cN h (λhc h=>?_) λhc h=>?_
   ·refine b9 ?_;refine jq h (λq=>St.of [(1,.L (Ls j1.Pv) a1),(2,.int .u8 a2),(3,.ptr 3 0 0),(7,.sl 60),(8,.I s61)] [(60,⟨List.map iF q.2,(List.map iF q.2).length,true,1,true⟩),(3,vR (a8.Pv q.1) 8)]) (λq91 h=>?_) λκ88 h=>?_
    ·obtain⟨j89,j90⟩:=q91;refine S6 3 J ?_;exact eL h (Wk.trans (n7 _ [60]) (WP (λl=>if l=910007 then 60 else l)))
    ·refine g6 ?_;refine S3 2 J<|cF h a0O J J λv92 _ h=>S2 9 J<|g7<|S4 2 J ?_;refine cN h (λhc h=>?_) λhc h=>?_
     ·refine S3 1 J ?_;refine cA h Z8 J J λv93 _ h=>S2 1 J<|b8 ?_;have h:=xL hx51 h;cases h;exact f1
     ·refine b9 ?_;refine g7<|S3 1 J<|cA h a1e J J λv94 _ h=>S2 1 J ?_;refine cN h (λhc h=>?_) λhc h=>?_
      ·refine S4 1 J ?_;refine b8 ?_;have h:=xL hx51 h;cases h;exact f1
      ·refine b9 ?_;refine jq h (λj98=>St.of [(1,.L (Ls j1.Pv) a1),(2,.int .u8 a2),(3,.ptr 3 0 0),(7,.sl 60),(8,.I s61),(9,.ptr 9 0 0)] [(9,vR (a8.Pv v92.1) 8),(60,⟨List.map iF j98,(List.map iF j98).length,true,1,true⟩),(3,vR (a8.Pv s62) 8)]) (λj98 h=>?_) λκ97 h=>?_
       ·refine jq h (λ_=>St.of [(1,.L (Ls j1.Pv) a1),(2,.int .u8 a2),(3,.ptr 3 0 0),(7,.sl 60),(8,.I s61),(9,.ptr 9 0 0)] [(9,vR (a8.Pv v92.1) 8),(60,⟨List.map iF j98,(List.map iF j98).length,true,1,true⟩),(3,vR (a8.Pv s62) 8)]) (λq105 h=>?_) λκ104 h=>?_
        ·refine S6 2 J ?_;exact eJ h (Wk.trans (n7 _ [60]) W)
        ·refine S4 1 J ?_;refine g6<|lq h (λs107=>St.of [(1,.L (Ls j1.Pv) a1),(2,.int .u8 a2),(3,.ptr 3 0 0),(7,.sl 60),(8,.I s61),(9,.ptr 9 0 0),(12,.I s107)] [(9,vR (a8.Pv v92.1) 8),(60,⟨List.map iF j98,(List.map iF j98).length,true,1,true⟩),(3,vR (a8.Pv s62) 8)]) (Wk.trans (n7 _ [60]) W) λs107 x108 h hx87=>g7<|S3 4 J<|nL J F7<|S2 1 J ?_;refine cN h (λhc h=>?_) λhc h=>?_
         ·refine b9 ?_;refine g7<|g6<|S3 4 J<|iL h J J F7 D9 λv109 hv88 h=>S1 4 J<|c5 J (λhg=>om (d:=.sl 60) J)<|c5 J (λhg=>oF J a0L J)<|c5 J (λhg=>oF (ct hg) a2O J)<|c5 J (λhg=>oS (ct hg) J J a7t J)<|c5 J (λhg=>mI J)<|c5 J (λhg=>z7 (f:=c8.Pv) (cs:=c8.Pc v109) hv88 (ct hg) (ct hg) F7 D9 J J)<|c5 J (λhg=>A3 (ct hg) b31 J)<|c5 J (λhg=>E6 (ct hg) p7 J)<|w8 h λv110 hv89 h=>c5 J (λhg=>z8 J a3F (u6 (ct hg) (u6 (ct hg) J)) (y7 hv89 hg))<|c5 J (λhg=>l5 (ct hg) J J)<|y0 J (m8 J J J (λq=>J2 q))<|yN ?_;refine cN h (λhc h=>?_) λhc h=>?_
          ·refine S4 1 J ?_;refine b8 ?_;have h:=xL hx87 h;have h:=xL hx51 h;cases h;exact f1
          ·refine b9 ?_;refine S6 3 J ?_;exact eL h (Wk.trans (n7 _ [60]) W)
         ·refine m7 ?_;refine c4<|c4<|j4 ?_;have h:=xL hx87 h;exact eJ h (Wk.trans (n7 _ [60]) W)
       ·refine S4 3 J ?_;refine cN h (λhc h=>?_) λhc h=>?_
        ·refine g7 ?_;refine S3 3 J<|cA h a3F J J λv111 _ h=>S2 1 J ?_;refine cN h (λhc h=>?_) λhc h=>?_
         ·refine S4 1 J ?_;refine b8 ?_;have h:=xL hx51 h;cases h;exact f1
         ·refine b9 ?_;refine S5 3 J<|y0 J (N9 (f:=iF) (l:=[v92.2.1.At]) J j8 o8 C2 J J nl J J)<|w8 h λv112 hv91 h=>O5 J (K5 (f:=iF) hv91 J J J J J J (.inl ⟨_,J,J⟩) j8 o8 O2 C2 J (λ_=>J)) J J J<|S2 1 J ?_;exact eJ h (Wk.trans (n7 _ [60]) W)
        ·refine b9 ?_;exact eJ h (Wk.trans (n7 _ [910007]) (WP (λl=>if l=60 then 910007 else l)))
   ·refine m7 ?_;refine c4<|c4<|j4 ?_;have h:=xL hx51 h;exact eJ h W

theorem w20_DrainOrder_ok{a0 a1}:PO Tryz.prog 14 [a8.Pv a0,.L (Ls j1.Pv) a1] (a4r a0 a1) λr=>.bool r:=by
 refine pO Tryz.func14 λr h _ _=>?_;refine S4 2 J<|g7<|S3 1 J<|cA h a29 J J λv1 _ h=>S1 2 J<|c5 J (λhg=>om (d:=.L (Ls j1.Pv) a1) J)<|w8 h λv2 hv2 h=>c5 J (λhg=>z8 J a4u (u6 (ct hg) J) (y7 hv2 hg))<|c5 J (λhg=>P5 (ct hg) J)<|y0 J (o9 J J J (λq=>I8 q))<|S1 1 J<|c5 J (λhg=>oF J a0L J)<|c5 J (λhg=>oF (ct hg) a2O J)<|c5 J (λhg=>oS (ct hg) J J a7t J)<|c5 J (λhg=>J7 (f:=c8.Pv) (ct hg) F7)<|c5 J (λhg=>l5 (ct hg) J J)<|y0 J (o9 J J J (λq=>I8 q))<|S1 1 J<|w8 h λv3 hv3 h=>c5 J (λhg=>z8 J L1 J (y7 hv3 hg))<|c5 J (λhg=>P5 (ct hg) J)<|y0 J (o9 J J J (λq=>I8 q))<|yN ?_;refine cN h (λhc h=>?_) λhc h=>?_
 ·refine sR ?_;refine cA h L1 J J λv4 _ h=>S2 1 J<|b8 ?_;cases h;exact f1
 ·refine b9 ?_;refine S3 2 J<|cF h a0O J J λv5 _ h=>S2 9 J<|S3 3 J<|nL J F7<|S2 1 J<|g7<|dr [] u5 (by kernel_rfl) (by kernel_rfl)<|S7 3 J<|A5 J (λhg=>oL J J J a0E D9 nl J) J<|p9 J (λhg _ hN=>oF J a0L J) J<|p9 J (λhg _ hN=>oF (ct hg) a2O J) J<|A5 J (λhg=>oS (ct hg) J J a7t J) J<|w8 h λv6 hv6 h=>A5 J (λhg=>z7 (f:=c8.Pv) (cs:=c8.Pc v6) (y7 hv6 hg) (ct hg) J F7 D9 J J) J<|A5 J (λhg=>a4b (ct hg) a0E D9 nl J) J<|p9 J (λhg _ hN=>c10 (xs:=c8.Pc v5.2.1) (ys:=c8.Pc v6) b6N (ct hg) (ct hg) J J) J<|d7 J (λ_ hN=>o9 J J J (λq=>I8 q)) J<|S7 1 J<|p9 J (λhg _ hN=>oF J a0L J) J<|p9 J (λhg _ hN=>oF (ct hg) a2O J) J<|A5 J (λhg=>oS (ct hg) J J a7t J) J<|A5 J (λhg=>J7 (f:=c8.Pv) (ct hg) F7) J<|p9 J (λhg _ hN=>mI J) J<|p9 J (λhg _ hN=>a3u (ct hg) J J) J<|p9 J (λhg _ hN=>l5 (ct hg) (ct hg) J) J<|d7 J (λ_ hN=>o9 J J J (λq=>I8 q)) J<|U7 ?_
  refine cN h (λhc h=>?_) λhc h=>?_
  ·refine S4 1 J ?_;refine b8 ?_;cases h;exact f1
  ·refine b9 ?_;refine sR<|y0 J (G1 J j8 o8)<|S2 1 J<|sR<|y0 J (G1 J j8 o8)<|S2 1 J ?_;refine jq h (λq=>St.of [(9,.sl 910009),(10,.sl 910010)] [(910010,⟨List.map iF q.1,(List.map iF q.1).length,true,1,true⟩),(910009,⟨List.map iF q.2,(List.map iF q.2).length,true,1,true⟩)]) (λq20 h=>?_) λκ17 h=>?_
   ·obtain⟨j18,j19⟩:=q20;refine S3 2 J<|cA h a73 J J λv21 _ h=>S2 1 J<|b8 ?_;cases h;exact f1
   ·refine S4 1 J ?_;refine g6<|lq h (λq=>St.of [(2,.ptr 2 0 0),(5,.ptr 5 0 0),(8,.I (a0.Q.L.length:Int)),(9,.sl 910009),(10,.sl 910010),(11,.I q.1)] [(5,vR (a8.Pv v5.1) 8),(2,vR (a8.Pv a0) 8),(910009,⟨List.map iF q.2.1,(List.map iF q.2.1).length,true,1,true⟩),(910010,⟨List.map iF q.2.2,(List.map iF q.2.2).length,true,1,true⟩)]) (Wk.trans (H4 (t:=9) (l:=920009) (z:=1) J J) (Wk.trans (H4 (t:=10) (l:=920010) (z:=1) J J) (WP (λl=>if l=910009 then 920009 else if l=910010 then 920010 else l)))) λq27 x26 h hx18=>?_
    obtain⟨s23,s24,s25⟩:=q27;refine g7<|S4 3 J ?_;refine cN h (λhc h=>?_) λhc h=>?_
    ·refine b9 ?_;refine g7<|g6<|dr [] u5 (by kernel_rfl) (by kernel_rfl)<|S7 5 J<|w8 h λv28 hv19 h=>d0 J (z7 (f:=c8.Pv) (cs:=c8.Pc v28) hv19 J J F7 D9 J J) J<|S7 6 J<|d0 J (z7 (f:=c8.Pv) (cs:=c8.Pc v28) hv19 J J F7 D9 J J) J<|S7 6 J<|d0 J (z7 (f:=c8.Pv) (cs:=c8.Pc v28) hv19 J J F7 D9 J J) J<|S7 2 J<|d1n J (N9 (f:=iF) (l:=[v28.Kind,v28.At,v28.Prog]) J j8 o8 C2 J J nl J J) J<|w8 h λv29 hv20 h=>d3a J (K5 (f:=iF) hv20 J J J J J J (.inl ⟨_,J,J⟩) j8 o8 O2 C2 J (λ_=>J)) J J J J J<|S8 1 J<|a7Z [] u5 (by kernel_rfl) (by kernel_rfl)<|S7 6 J<|w8 h λv30 hv21 h=>d0 J (z7 (f:=c8.Pv) (cs:=c8.Pc v30) hv21 J J F7 D9 J J) J<|S7 7 J<|d0 J (z7 (f:=c8.Pv) (cs:=c8.Pc v30) hv21 J J F7 D9 J J) J<|S7 7 J<|d0 J (z7 (f:=c8.Pv) (cs:=c8.Pc v30) hv21 J J F7 D9 J J) J<|S7 2 J<|d1n J (N9 (f:=iF) (l:=[v30.Kind,v30.At,v30.Prog]) J j8 o8 C2 J J nl J J) J<|w8 h λv31 hv22 h=>d3a J (K5 (f:=iF) hv22 J J J J J J (.inl ⟨_,J,J⟩) j8 o8 O2 C2 J (λ_=>J)) J J J J J<|S8 1 J<|S6 3 J ?_
     exact eL h (Wk.trans (n7 _ [93,120]) (WP (λl=>if l=910009 then 93 else if l=910010 then 120 else l)))
    ·refine m7 ?_;refine c4<|c4<|j4 ?_;have h:=xL hx18 h;exact eJ h (Wk.trans (n7 _ [910009,910010]) W)

theorem w20_DrainNothing_ok{a0 a1 a2}:PO Tryz.prog 15 [a8.Pv a0,.L (Ls j1.Pv) a1,.int .u8 a2] (a2y a0 a1 a2) λr=>.bool r:=by
 refine pO Tryz.func15 λr h _ _=>?_;refine S4 2 J<|g7<|S3 1 J<|cA h a29 J J λv1 _ h=>S1 2 J<|c5 J (λhg=>om (d:=.L (Ls j1.Pv) a1) J)<|w8 h λv2 hv2 h=>c5 J (λhg=>z8 J a4u (u6 (ct hg) J) (y7 hv2 hg))<|c5 J (λhg=>P5 (ct hg) J)<|y0 J (o9 J J J (λq=>I8 q))<|S1 1 J<|w8 h λv3 hv3 h=>c5 J (λhg=>z8 J L1 J (y7 hv3 hg))<|c5 J (λhg=>P5 (ct hg) J)<|y0 J (o9 J J J (λq=>I8 q))<|yN ?_;refine cN h (λhc h=>?_) λhc h=>?_
 ·refine sR ?_;refine cA h L1 J J λv4 _ h=>S2 1 J<|b8 ?_;cases h;exact f1
 ·refine b9 ?_;refine S3 2 J<|cF h H8 J J λv5 _ h=>S2 10 J<|g7<|dr [] u5 (by kernel_rfl) (by kernel_rfl)<|S7 1 J<|w8 h λv6 hv6 h=>d2 J (z8 J a1e J hv6) J<|S7 2 J<|A5 J (λhg=>oL J J J p5 n9 nl J) J<|w8 h λv7 hv7 h=>b4b J (λhg=>B0 J O4 (u6 (ct hg) J) (y7 hv7 hg)) J<|A5 J (λhg=>oL J J J p5 n9 nl J) J<|w8 h λv8 hv8 h=>b4b J (λhg=>B0 J O4 (u6 (ct hg) J) (y7 hv8 hg)) J<|w8 h λv9 hv9 h=>a4G J (λhg=>z8 J b21 (u6 (ct hg) (u6 (ct hg) J)) (y7 hv9 hg)) J<|p9 J (λhg _ hN=>P5 (ct hg) J) J<|d7 J (λ_ hN=>o9 J J J (λq=>I8 q)) J<|S7 1 J<|p9 J (λhg _ hN=>mI J) J<|p9 J (λhg _ hN=>l5 (ct hg) J J) J<|d7 J (λ_ hN=>o9 J J J (λq=>I8 q)) J<|S7 1 J<|p9 J (λhg _ hN=>mI J) J<|p9 J (λhg _ hN=>l5 (ct hg) J J) J<|d7 J (λ_ hN=>o9 J J J (λq=>I8 q)) J<|S7 1 J<|p9 J (λhg _ hN=>mI J) J<|p9 J (λhg _ hN=>l5 (ct hg) J J) J<|A5 J (λhg=>oL J J J p5 n9 nl J) J<|w8 h λv10 hv10 h=>a4G J (λhg=>z8 J Z8 (u6 (ct hg) J) (y7 hv10 hg)) J<|p9 J (λhg _ hN=>d1B (ct hg) (ct hg) c1x J) J<|d7 J (λ_ hN=>o9 J J J (λq=>I8 q)) J<|U7 ?_
  refine cN h (λhc h=>?_) λhc h=>?_
  ·refine S4 1 J ?_;refine b8 ?_;cases h;exact f1
  ·refine b9 ?_;refine S3 3 J<|y0 J (a38 J a7F a7D J)<|cF h H8 J J λv11 _ h=>S2 10 J<|g7<|S3 3 J<|nL J F7<|S2 1 J ?_;refine cN h (λhc h=>?_) λhc h=>?_
   ·refine S3 3 J ?_;refine c5 J (λhg=>mI J)<|c5 J (λhg=>om (d:=.int .u8 a2) J)<|c5 J (λhg=>a38 (ct hg) a7F a7D J)<|c5 J (λhg=>l5 (ct hg) (ct hg) J)<|y0 J (m8 J J J (λq=>J2 q))<|S2 1 J<|b8 ?_;cases h;exact f1
   ·refine b9 ?_;refine S3 4 J<|iL h J J F7 D9 λv12 _ h=>S1 1 J<|cA h a5e J J λv13 _ h=>S2 1 J<|S3 3 J<|c5 J (λhg=>mI J)<|c5 J (λhg=>l5 (ct hg) J J)<|y0 J (m8 J J J (λq=>J2 q))<|S1 1 J<|c5 J (λhg=>mI J)<|c5 J (λhg=>l5 (ct hg) J J)<|c5 J (λhg=>mI J)<|c5 J (λhg=>om (d:=.int .u8 a2) J)<|c5 J (λhg=>a38 (ct hg) a7F a7D J)<|c5 J (λhg=>l5 (ct hg) (ct hg) J)<|c5 J (λhg=>c40 (ct hg) (ct hg) c1x J)<|y0 J (m8 J J J (λq=>J2 q))<|S1 1 J<|c5 J (λhg=>mI J)<|c5 J (λhg=>l5 (ct hg) J J)<|c5 J (λhg=>om (d:=.bool (v11.2.1==0)) (ct hg))<|c5 (r9 J J J) (λhg=>mI J)<|c5 (r9 J J J) (λhg=>om (d:=.int .u8 a2) J)<|c5 (r9 J J J) (λhg=>a38 (ct hg) a7F a7D J)<|c5 (r9 J J J) (λhg=>mI J)<|c5 (r9 J J J) (λhg=>a3u (ct hg) (ct hg) J)<|c5 (r9 J J J) (λhg=>l5 (ct hg) (ct hg) J)<|c5 J (λhg=>o9 (ct hg) J J (λq=>a2a hg (I8 q)))<|y0 J (m8 J J J (λq=>J2 q)) ?_;refine S2 1 J<|b8 ?_;cases h;exact f1

end Go.Proofs.YtlkcpapbolbjnaaGreat.Ok
