/-
 The functions of the program do as the plain functions do.
-/
import Derived.Test.YtlkcpapbolbjnaaGreatO20fOk2
set_option linter.unusedVariables false
set_option linter.unusedSimpArgs false
set_option linter.unusedSectionVars false
namespace Go.Proofs.YtlkcpapbolbjnaaGreat.Ok
open Go Go.Pw Go.Sh Go.Proofs
set_option maxRecDepth 100000
set_option maxHeartbeats 4000000
theorem a7j{a0}:PO Tryz.prog 272 [a7.Pv a0] (T3 a0) λr=>.bool r:=by
 refine pO Tryz.func272 λr h _ _=>?_;refine S4 2 J<|sR<|b7j (KT:=Int) (VT:=Bool) (EK:=iF) (E:=PV.bool) 5000006 J J<|S2 1 J ?_;refine jq h (λ_=>St.of [] []) (λq13 h=>?_) λκ12 h=>?_
 ·refine S4 1 J ?_;refine a8 ?_;cases h;exact f1
 ·refine S3 3 J ?_;refine nL J H7<|S2 1 J<|g5<|lq h (λq=>St.of [(3,.mp 5000006),(9,.L b8.Pv a0.S.Cells),(10,.I (a0.S.Cells.length:Int)),(11,.I q.1)] [(5000006,⟨[.mapc (List.map (ent iF PV.bool) q.2)],0,false,0,false⟩)]) W λq18 x17 h hx12=>?_;obtain⟨s15,s16⟩:=q18;refine S4 1 J<|c5 ?_;refine cN h (λhc h=>?_) λhc h=>?_
  ·refine b9 ?_;refine jq h (λj22=>St.of [(3,.mp 5000006),(9,.L b8.Pv a0.S.Cells),(10,.I (a0.S.Cells.length:Int)),(11,.I s15)] [(5000006,⟨[.mapc (List.map (ent iF PV.bool) j22)],0,false,0,false⟩)]) (λj22 h=>?_) λκ21 h=>?_
   ·refine S6 2 J ?_;exact eL h W
   ·refine g5 ?_;refine sR<|iL h J J H7 M8 λv23 _ h=>S2 3 J<|c5<|S3 1 J<|cA h a0B J J λv24 _ h=>S2 1 J ?_;refine cN h (λhc h=>?_) λhc h=>?_
    ·refine l6 ?_;refine c4<|j1 ?_;exact eJ h W
    ·refine b9 ?_;refine c5<|S3 4 J<|c63 (es:=s16) (k:=v23.Val.Serial) (E:=PV.bool) (EK:=iF) (d:=.bool ((B4 s16 v23.Val.Serial).getD (false:Bool))) J J J J b0Y (C0 P4) c4W J (lk1 _ _ _)<|yN ?_;refine cN h (λhc h=>?_) λhc h=>?_
     ·refine S4 1 J ?_;refine a8 ?_;have h:=xL hx12 h;cases h;exact f1
     ·refine b9 ?_;refine S5 4 J<|a02 (es:=s16) (k:=v23.Val.Serial) (v:=true) (E:=PV.bool) (EK:=iF) (.inl J) J J J J J J b0Y (C0 P4)<|yN ?_;exact eJ h W
  ·refine l6 ?_;refine c4<|c4<|j1 ?_;have h:=xL hx12 h;exact eJ h W

theorem b5O{a0}:PO Tryz.prog 194 [a7.Pv a0] (a3i a0) λr=>.bool r:=by
 refine pO Tryz.func194 λr h _ _=>?_;refine S4 2 J<|c5<|S3 3 J<|nL J H7<|S1 2 J<|c8 J (λhg=>oF J b4x J)<|c8 J (λhg=>oF (ct hg) b4w J)<|c8 J (λhg=>oS (ct hg) J J p8 J)<|c8 J (λhg=>m8 (ct hg) J J)<|y0 J (r8 J J J (λq=>K5 q))<|S1 1 J<|c8 J (λhg=>oF J b4x J)<|c8 J (λhg=>oF (ct hg) b4w J)<|c8 J (λhg=>oS (ct hg) J J p8 J)<|c8 J (λhg=>m8 (ct hg) J J)<|y0 J (r8 J J J (λq=>K5 q))<|S1 1 J<|c8 J (λhg=>oF J b4y J)<|c8 J (λhg=>oS (ct hg) J J p8 J)<|c8 J (λhg=>m8 (ct hg) J J)<|y0 J (r8 J J J (λq=>K5 q))<|yN ?_;refine cN h (λhc h=>?_) λhc h=>?_
 ·refine S4 1 J ?_;refine a8 ?_;cases h;exact f1
 ·refine b9 ?_;refine jq h (λ_=>St.of [(1,.ptr 1 0 0)] [(1,vR (a7.Pv a0) 3)]) (λq23 h=>?_) λκ22 h=>?_
  ·refine S3 1 J ?_;refine cA h a7j J J λv24 _ h=>S2 1 J<|a8 ?_;cases h;exact f1
  ·refine S3 3 J ?_;refine nL J H7<|S2 1 J<|g5<|lq h (λs26=>St.of [(1,.ptr 1 0 0),(31,.L b8.Pv a0.S.Cells),(32,.I (a0.S.Cells.length:Int)),(33,.I s26)] [(1,vR (a7.Pv a0) 3)]) W λs26 x27 h hx29=>S4 1 J<|c5 ?_;refine cN h (λhc h=>?_) λhc h=>?_
   ·refine b9 ?_;refine jq h (λ_=>St.of [(1,.ptr 1 0 0),(31,.L b8.Pv a0.S.Cells),(32,.I (a0.S.Cells.length:Int)),(33,.I s26)] [(1,vR (a7.Pv a0) 3)]) (λq37 h=>?_) λκ36 h=>?_
    ·refine S6 2 J ?_;exact eL h W
    ·refine g5 ?_;refine sR<|iL h J J H7 M8 λv38 _ h=>S2 3 J<|sR<|cF h b5P J J λv39 _ h=>nL J b7q<|S2 1 J<|g5<|lq h (λs41=>St.of [(1,.ptr 1 0 0),(4,.ptr 4 0 0),(31,.L b8.Pv a0.S.Cells),(32,.I (a0.S.Cells.length:Int)),(33,.I s26),(37,.lst true (List.map C4.Pv v39)),(38,.I (v39.length:Int)),(39,.I s41)] [(4,vR (b8.Pv v38) 8),(1,vR (a7.Pv a0) 3)]) W λs41 x42 h hx45=>S4 1 J<|c5 ?_;refine cN h (λhc h=>?_) λhc h=>?_
     ·refine b9 ?_;refine c5<|g5<|sR<|iL h J J b7q c2r λv43 _ h=>S2 3 J<|S3 4 J ?_;obtain⟨v44,hv47,h⟩:=a74 h;obtain⟨n45,he48,hk49,hp50⟩:=c08 hv47;refine L8 (c3r 44 J he48)<|y0 J (b5c J hk49 J hp50)<|S2 1 J ?_;refine cN h (λhc h=>?_) λhc h=>?_
      ·refine S4 1 J ?_;refine a8 ?_;have h:=xL hx45 h;have h:=xL hx29 h;cases h;exact f1
      ·refine b9 ?_;refine S6 2 J ?_;exact eL h W
     ·refine l6 ?_;refine c4<|c4<|j1 ?_;have h:=xL hx45 h;exact eJ h W
   ·refine l6 ?_;refine c4<|c4<|j1 ?_;have h:=xL hx29 h;exact eJ h W

theorem b6i{a0}:PO Tryz.prog 195 [.L c9.Pv a0] (a6N a0) λr=>.bool r:=by
 refine pO Tryz.func195 λr h _ _=>?_;refine S4 1 J<|c5<|S3 1 J<|nL J Q5<|S1 2 J<|c8 J (λhg=>om (d:=.L c9.Pv a0) J)<|c8 J (λhg=>H9 (f:=c9.Pv) (ct hg) Q5)<|c8 J (λhg=>m8 (ct hg) J J)<|y0 J (r8 J J J (λq=>K5 q))<|yN ?_;refine cN h (λhc h=>?_) λhc h=>?_
 ·refine S4 1 J ?_;refine a8 ?_;cases h;exact f1
 ·refine b9 ?_;refine jq h (λ_=>St.of [] []) (λq7 h=>?_) λκ6 h=>?_
  ·refine S4 1 J ?_;refine a8 ?_;cases h;exact f1
  ·refine S3 1 J ?_;refine nL J Q5<|S2 1 J<|g5<|lq h (λs9=>St.of [(0,.L c9.Pv a0),(14,.L c9.Pv a0),(15,.I (a0.length:Int)),(16,.I s9)] []) W λs9 x10 h hx9=>S4 1 J<|c5 ?_;refine cN h (λhc h=>?_) λhc h=>?_
   ·refine b9 ?_;refine c5<|g5<|S3 1 J<|iL h J J Q5 V6 λv11 _ h=>S2 4 J<|S3 1 J<|y0 J (o9 (cs:=[.I 0,.I 0,.I 0]) J b3W a8Y J J J)<|y0 J (b9M (xs:=c9.Pc v11) (ys:=[.I 0,.I 0,.I 0]) c2q J J J)<|S1 1 J<|c8 J (λhg=>oL J J J c7g V6 nl J)<|c8 J (λhg=>o9 (cs:=[.I 2,.I 0,.I 0]) J b3W a8Y J J J)<|c8 J (λhg=>b9M (xs:=c9.Pc v11) (ys:=[.I 2,.I 0,.I 0]) c2q (ct hg) (ct hg) J)<|y0 J (r8 J J J (λq=>K5 q))<|S2 1 J<|S3 3 J<|c8 J (λhg=>oF J c3y J)<|c8 J (λhg=>oS (ct hg) J J p8 J)<|c8 J (λhg=>m8 (ct hg) J J)<|c8 J (λhg=>om (d:=.bool (v11.State != 1)) (ct hg))<|c8 (w8 J J J) (λhg=>om (d:=.L c9.Pv a0) J)<|c8 (w8 J J J) (λhg=>oF J b6J J)<|c8 (w8 J J J) (λhg=>oS (ct hg) J J p8 J)<|u5 h λv12 hv11 h=>c8 (w8 J J J) (λhg=>A0 J a3K (w7 (ct hg) (w7 (ct hg) J)) (B6 hv11 hg))<|c8 (w8 J J J) (λhg=>mI J)<|c8 (w8 J J J) (λhg=>m8 (ct hg) (ct hg) J)<|c8 J (λhg=>r8 (ct hg) J J (λq=>a3I hg (K5 q)))<|y0 J (n9 J J J (λq=>K3 q))<|yN ?_;refine cN h (λhc h=>?_) λhc h=>?_
    ·refine S4 1 J ?_;refine a8 ?_;have h:=xL hx9 h;cases h;exact f1
    ·refine b9 ?_;refine S6 2 J ?_;exact eL h W
   ·refine l6 ?_;refine c4<|c4<|j1 ?_;have h:=xL hx9 h;exact eJ h W

theorem b1q{a0}:PO Tryz.prog 121 [b7.Pv a0] (a1V a0) λr=>.bool r:=by
 refine pO Tryz.func121 λr h _ _=>?_;refine S4 2 J<|sR<|cF h b3F J J λv1 _ h=>S2 2 J<|S3 2 J<|cA h b5O J J λv2 _ h=>S1 1 J<|c8 J (λhg=>oF J b9d J)<|c8 J (λhg=>oS (ct hg) J J b0i J)<|u5 h λv3 hv3 h=>c8 J (λhg=>A0 J b6i (w7 (ct hg) J) (B6 hv3 hg))<|y0 J (n9 J J J (λq=>K3 q))<|S1 1 J<|c8 J (λhg=>oF J b0T J)<|c8 J (λhg=>oS (ct hg) J J a0a J)<|c8 J (λhg=>H9 (f:=iF) (ct hg) j5)<|c8 J (λhg=>m8 (ct hg) J J)<|y0 J (n9 J J J (λq=>K3 q))<|S1 1 J<|c8 J (λhg=>oF J a21 J)<|c8 J (λhg=>oS (ct hg) J J a7T J)<|c8 J (λhg=>H9 (f:=g7.Pv) (ct hg) G4)<|c8 J (λhg=>m8 (ct hg) J J)<|y0 J (n9 J J J (λq=>K3 q))<|S1 1 J<|c8 J (λhg=>oF J a7U J)<|c8 J (λhg=>oF (ct hg) c4I J)<|c8 J (λhg=>oS (ct hg) J J p8 J)<|c8 J (λhg=>mI J)<|c8 J (λhg=>m8 (ct hg) (ct hg) J)<|y0 J (n9 J J J (λq=>K3 q))<|S1 1 J<|c8 J (λhg=>oF J a7U J)<|c8 J (λhg=>oF (ct hg) b4z J)<|c8 J (λhg=>oS (ct hg) J J c0J J)<|c8 J (λhg=>H9 (f:=g8.Pv) (ct hg) a0d)<|c8 J (λhg=>mI J)<|c8 J (λhg=>m8 (ct hg) (ct hg) J)<|y0 J (n9 J J J (λq=>K3 q))<|S2 1 J ?_;refine a8 ?_;cases h;exact f1

theorem a9P{a0 a1}:PO Tryz.prog 198 [.I a0,.rptr (b7.Pc a1)] (a2r a0 a1) λr=>.bool r:=by
 refine pO Tryz.func198 λr h _ _=>?_;refine S4 1 J<|S3 2 J<|cA h P1 J J λv1 _ h=>S2 1 J<|a8 ?_;cases h;exact f1

theorem a1D{a0 a1}:PO Tryz.prog 197 [.L iF a0,.fn (.func 198) [.rptr (b7.Pc a1)]] (F8 a0 a1) λr=>.bool r:=by
 refine pO Tryz.func197 λr h _ _=>?_;refine S4 1 J ?_;refine jq h (λ_=>St.of [] []) (λq7 h=>?_) λκ6 h=>?_
 ·refine S4 1 J ?_;refine a8 ?_;cases h;exact f1
 ·refine S3 1 J ?_;refine nL J j5<|S2 1 J<|g5<|lq h (λs9=>St.of [(1,.fn (.func 198) [.rptr (b7.Pc a1)]),(7,.L iF a0),(8,.I (a0.length:Int)),(9,.I s9)] []) W λs9 x10 h hx9=>S4 1 J<|c5 ?_;refine cN h (λhc h=>?_) λhc h=>?_
  ·refine b9 ?_;refine c5<|g5<|sR<|iL h J J j5 n7 λv11 _ h=>S2 2 J<|S3 2 J<|cA h a9P J J λv12 _ h=>S2 1 J ?_;refine cN h (λhc h=>?_) λhc h=>?_
   ·refine S4 1 J ?_;refine a8 ?_;have h:=xL hx9 h;cases h;exact f1
   ·refine b9 ?_;refine S6 2 J ?_;exact eL h W
  ·refine l6 ?_;refine c4<|c4<|j1 ?_;have h:=xL hx9 h;exact eJ h W

theorem a4Z{a0}:PO Tryz.prog 122 [b7.Pv a0] (a0o a0) λr=>.bool r:=by
 refine pO Tryz.func122 λr h _ _=>?_;unfold a0o at h;refine S4 2 J<|S3 2 J<|u5 h λv1 hv1 h=>ycN J (b65 J a1d J hv1) J J<|S2 1 J ?_;refine jq h (λj12=>St.of [(1,.ptr 1 0 0),(3,.sl 10)] [(10,⟨List.map iF j12,(List.map iF j12).length,true,1,true⟩),(1,vR (b7.Pv a0) 8)]) (λj12 h=>?_) λκ11 h=>?_
 ·refine S3 2 J ?_;refine cA h a1D J J λv13 _ h=>S2 1 J<|a8 ?_;cases h;exact f1
 ·refine S3 2 J ?_;refine cF h a2Y J J λv14 _ h=>nL J j5<|S2 1 J<|g5<|lq h (λq=>St.of [(1,.ptr 1 0 0),(3,.sl 10),(13,.L iF v14),(14,.I (v14.length:Int)),(15,.I q.1)] [(10,⟨List.map iF q.2,(List.map iF q.2).length,true,1,true⟩),(1,vR (b7.Pv a0) 8)]) (Wk.trans (n8 _ [10]) W) λq19 x18 h hx14=>?_;obtain⟨s16,s17⟩:=q19;refine S4 1 J<|c5 ?_;refine cN h (λhc h=>?_) λhc h=>?_
  ·refine b9 ?_;refine c5<|g5<|sR<|iL h J J j5 n7 λv20 _ h=>S2 2 J<|S3 3 J<|cF h C2 J J λv21 _ h=>S2 6 J<|S5 3 J<|u5 h λv22 hv17 h=>J8 J (G8 (f:=iF) hv17 J J J J J J (.inl ⟨_,J,J⟩) j5 n7 J6 B9 J (λ_=>J)) J J J<|S2 1 J<|S6 2 J ?_;exact eL h (Wk.trans (n8 _ [29]) (WP (λl=>if l=10 then 29 else l)))
  ·refine l6 ?_;refine c4<|c4<|j1 ?_;have h:=xL hx14 h;exact eJ h (Wk.trans (n8 _ [10]) W)

theorem a8a{a0}:PO Tryz.prog 275 [.L c9.Pv a0] (a1t a0) λr=>.fn (.func 344) [.rptr [.L c9.Pv r]]:=by
 refine pO Tryz.func275 λr h _ _=>?_;unfold a1t at h;refine S4 2 J<|S4 2 J<|a8 ?_;cases h;exact f1

theorem b1j{a0}:PO Tryz.prog 345 [.L c9.Pv a0] (a5V a0) λr=>.L iF r:=by
 refine pO Tryz.func345 λr h _ _=>?_;refine S4 1 J<|S4 1 J ?_;refine jq h (λj13=>St.of [(3,.sl 910003)] [(910003,⟨List.map iF j13,(List.map iF j13).length,true,1,true⟩)]) (λj13 h=>?_) λκ12 h=>?_
 ·refine S4 2 J ?_;refine a8 ?_;cases h;exact f1
 ·refine S3 1 J ?_;refine nL J Q5<|S2 1 J<|g5<|lq h (λq=>St.of [(3,.sl 910003),(6,.L c9.Pv a0),(7,.I (a0.length:Int)),(8,.I q.1)] [(910003,⟨List.map iF q.2,(List.map iF q.2).length,true,1,true⟩)]) (Wk.trans (G1 (t:=3) (l:=920003) (z:=1) J J) (WP (λl=>if l=910003 then 920003 else l))) λq18 x17 h hx12=>?_
  obtain⟨s15,s16⟩:=q18;refine S4 1 J<|c5 ?_;refine cN h (λhc h=>?_) λhc h=>?_
  ·refine b9 ?_;refine jq h (λj22=>St.of [(3,.sl 19),(6,.L c9.Pv a0),(7,.I (a0.length:Int)),(8,.I s15)] [(19,⟨List.map iF j22,(List.map iF j22).length,true,1,true⟩)]) (λj22 h=>?_) λκ21 h=>?_
   ·refine S6 2 J ?_;exact eL h (Wk.trans (n8 _ [19]) (WP (λl=>if l=910003 then 19 else l)))
   ·refine g5 ?_;refine sR<|iL h J J Q5 V6 λv23 _ h=>S2 3 J<|S4 3 J ?_;refine cN h (λhc h=>?_) λhc h=>?_
    ·refine S5 3 J ?_;refine y0 J (M3 (f:=iF) (l:=[v23.Key]) J j5 n7 B9 J J nl J J)<|u5 h λv24 hv17 h=>J8 J (G8 (f:=iF) hv17 J J J J J J (.inl ⟨_,J,J⟩) j5 n7 J6 B9 J (λ_=>J)) J J J<|S2 1 J ?_;exact eJ h (Wk.trans (n8 _ [19]) W)
    ·refine b9 ?_;exact eJ h (Wk.trans (n8 _ [910003]) (WP (λl=>if l=19 then 910003 else l)))
  ·refine l6 ?_;refine c4<|c4<|j1 ?_;have h:=xL hx12 h;exact eJ h (Wk.trans (n8 _ [910003]) W)

theorem b2J{a0}:PO Tryz.prog 276 [m7.Pv a0] (a2P a0) λr=>.bool r:=by
 refine pO Tryz.func276 λr h _ _=>?_;unfold a2P at h;refine S4 2 J<|S4 1 J<|a8 ?_;cases h;exact f1

theorem K7{a0}:PO Tryz.prog 274 [.fn (.func 344) [.rptr [.L c9.Pv a0]],.fn (.func 276) []] (A7 a0) λr=>.L m7.Pv r:=by
 refine pO Tryz.func274 λr h _ _=>?_;refine S4 2 J<|S4 1 J ?_;refine jq h (λj16=>St.of [(5,.ptr 2001 0 0)] [(2001,vS (.sl 912501) 1),(912501,⟨List.map m7.Pv j16,(List.map m7.Pv j16).length,true,2,true⟩)]) (λj16 h=>?_) λκ15 h=>?_
 ·refine S4 2 J ?_;refine a8 ?_;cases h;exact f1
 ·refine S4 1 J ?_;refine g5<|a3d (WPE (λl=>if l=2012 then 5 else if l=2013 then 3 else l) [(3,.ptr 2013 0 0),(5,.ptr 2012 0 0),(7,.fn (.func 344) [.rptr [.L c9.Pv a0]])] [(2012,vR (.nl) 1),(2013,vR (.fn (.func 276) []) 1)]) ?_
  refine a0q (fn:=Tryz.f344) (N1:=27) J Tryz.func344 J J nl J c2j J J (λl20 e21 o22 hR23=>?_);refine S3 1 J<|cF h b1j J J λv17 _ h=>nL J j5<|S2 1 J<|g5<|lq h (λq=>St.of [(1000003,.ptr 2013 0 0),(1000005,.ptr 2012 0 0),(1000007,.fn (.func 344) [.rptr [.L c9.Pv a0]]),(0,.fn (.yield l20) []),(1,.rptr [.L c9.Pv a0]),(8,.L iF v17),(9,.I (v17.length:Int)),(10,.I q.1)] [(2012,vS (.sl 912512) 1),(2013,vR (.fn (.func 276) []) 1),(912512,⟨List.map m7.Pv q.2,(List.map m7.Pv q.2).length,true,2,true⟩)]) (Wk.trans (a9M (l0:=2012) (j:=0) (l:=922512) (z:=2) J J J J J) (WP (λl=>if l=912512 then 922512 else l))) λq22 x21 h hx27=>?_
  obtain⟨s19,s20⟩:=q22;refine S4 1 J<|c5 ?_;refine cN h (λhc h=>?_) λhc h=>?_
  ·refine b9 ?_;refine c5<|g5<|sR<|iL h J J j5 n7 λv23 _ h=>S2 2 J<|S3 2 J<|cA h a4Y J J λv24 _ h=>S2 5 J<|S3 3 J<|y0 J (o9 (cs:=[.I v23,.I v24.1]) J c2o a80 J J J)<|L8 (WPE (λl=>if l=2021 then 912512 else l) [(1000003,.ptr 2013 0 0),(1000005,.ptr 2012 0 0),(1000007,.fn (.func 344) [.rptr [.L c9.Pv a0]]),(0,.fn (.yield l20) []),(1,.rptr [.L c9.Pv a0]),(8,.L iF v17),(9,.I (v17.length:Int)),(10,.I s19),(20,.fn (.yield l20) []),(23,.agg [.I v23,.I v24.1])] [(2012,vS (.sl 2021) 1),(2021,⟨List.map m7.Pv s20,(List.map m7.Pv s20).length,true,2,true⟩),(2013,vR (.fn (.func 276) []) 1)]) ?_
   refine a3T hR23 J J J J J J (λe30 o31 o32=>?_);refine S6 2 J ?_;refine⟨J,?_⟩;refine jqE h (λj28=>St.of [(2000003,.ptr 2013 0 0),(2000005,.ptr 2012 0 0),(2000007,.fn (.func 344) [.rptr [.L c9.Pv a0]]),(1000000,.fn (.yield l20) []),(1000001,.rptr [.L c9.Pv a0]),(1000008,.L iF v17),(1000009,.I (v17.length:Int)),(1000010,.I s19),(1000020,.fn (.yield l20) []),(1000023,.agg [.I v23,.I v24.1])] [(2012,vS (.sl 15) 1),(15,⟨List.map m7.Pv j28,(List.map m7.Pv j28).length,true,2,true⟩),(2013,vR (.fn (.func 276) []) 1)]) (λj28 h=>?_) λκ27 h=>?_
   ·refine⟨J,?_⟩;refine L8 (WPE (λl=>if l=2022 then 15 else l) [(1000003,.ptr 2013 0 0),(1000005,.ptr 2012 0 0),(1000007,.fn (.func 344) [.rptr [.L c9.Pv a0]]),(0,.fn (.yield l20) []),(1,.rptr [.L c9.Pv a0]),(8,.L iF v17),(9,.I (v17.length:Int)),(10,.I s19),(24,.bool true)] [(2012,vS (.sl 2022) 1),(2022,⟨List.map m7.Pv j28,(List.map m7.Pv j28).length,true,2,true⟩),(2013,vR (.fn (.func 276) []) 1)])<|S2 1 J ?_
    refine H6 false J (λq=>nomatch q) (λ_=>?_);refine b9<|S6 2 J ?_;exact eL h (Wk.trans (n8 _ [2022]) (WP (λl=>if l=912512 then 2022 else l)))
   ·refine g5 ?_;refine S3 2 J<|cA h b2J J J λv29 _ h=>yN ?_;refine cN h (λhc h=>?_) λhc h=>?_
    ·refine S5 2 J ?_;refine y0 J (M3 (f:=m7.Pv) (l:=[(⟨v23,v24.1⟩:m7)]) J a6C b00 a80 J J nl J J)<|u5 h λv30 hv37 h=>J8 J (G8 (f:=m7.Pv) hv37 J J J J J J (.inl ⟨_,J,J⟩) a6C b00 c2g a80 J (λ_=>J)) J J J<|S2 1 J ?_;exact eJ h (Wk.trans (n8 _ [15]) W)
    ·refine b9 ?_;exact eJ h (Wk.trans (n8 _ [2021]) (WP (λl=>if l=15 then 2021 else l)))
  ·refine l6 ?_;refine c4<|c4<|j1 ?_;refine .inl ⟨J,?_⟩;have h:=xL hx27 h;exact eJ h (Wk.trans (n8 _ [912512]) (WP (λl=>if l=2001 then 2012 else if l=912501 then 912512 else l)))

theorem b4P{a0}:PO Tryz.prog 200 [.L c9.Pv a0] (a4U a0) λr=>.L m7.Pv r:=by
 refine pO Tryz.func200 λr h _ _=>?_;refine S4 1 J<|S3 1 J<|cF h a8a J J λv1 _ h=>cF h K7 J J λv2 _ h=>S2 1 J<|a8 ?_;cases h;exact f1

theorem a9Q{a0 a1}:PO Tryz.prog 201 [m7.Pv a0,.rptr (b7.Pc a1)] (a2s a0 a1) λr=>.bool r:=by
 refine pO Tryz.func201 λr h _ _=>?_;refine S4 2 J<|S3 3 J<|cA h a1T J J λv1 _ h=>S1 1 J<|c8 J (λhg=>a4l J u4 p5 nl J)<|c8 J (λhg=>oF J b6L J)<|c8 J (λhg=>oS (ct hg) J J p8 J)<|u5 h λv2 hv2 h=>c8 J (λhg=>A0 J a1T (w7 (ct hg) (w7 (ct hg) J)) (B6 hv2 hg))<|y0 J (n9 J J J (λq=>K3 q))<|S2 1 J<|a8 ?_;cases h;exact f1

theorem Z1{a0 a1}:PO Tryz.prog 199 [.L m7.Pv a0,.fn (.func 201) [.rptr (b7.Pc a1)]] (C5 a0 a1) λr=>.bool r:=by
 refine pO Tryz.func199 λr h _ _=>?_;refine S4 1 J ?_;refine jq h (λ_=>St.of [] []) (λq7 h=>?_) λκ6 h=>?_
 ·refine S4 1 J ?_;refine a8 ?_;cases h;exact f1
 ·refine S3 1 J ?_;refine nL J a6C<|S2 1 J<|g5<|lq h (λs9=>St.of [(1,.fn (.func 201) [.rptr (b7.Pc a1)]),(7,.L m7.Pv a0),(8,.I (a0.length:Int)),(9,.I s9)] []) W λs9 x10 h hx9=>S4 1 J<|c5 ?_;refine cN h (λhc h=>?_) λhc h=>?_
  ·refine b9 ?_;refine c5<|g5<|sR<|iL h J J a6C b00 λv11 _ h=>S2 3 J<|S3 2 J<|cA h a9Q J J λv12 _ h=>S2 1 J ?_;refine cN h (λhc h=>?_) λhc h=>?_
   ·refine S4 1 J ?_;refine a8 ?_;have h:=xL hx9 h;cases h;exact f1
   ·refine b9 ?_;refine S6 2 J ?_;exact eL h W
  ·refine l6 ?_;refine c4<|c4<|j1 ?_;have h:=xL hx9 h;exact eJ h W

theorem a40{a0}:PO Tryz.prog 123 [b7.Pv a0] (a1U a0) λr=>.bool r:=by
 refine pO Tryz.func123 λr h _ _=>?_;refine S4 2 J<|S3 2 J<|cF h b4P J J λv1 _ h=>S1 1 J<|cA h Z1 J J λv2 _ h=>S2 1 J<|a8 ?_;cases h;exact f1

theorem b1r{a0 a1}:PO Tryz.prog 205 [b7.Pv a0,g8.Pv a1] (a1W a0 a1) λr=>.bool r:=by
 refine pO Tryz.func205 λr h _ _=>?_;refine S4 3 J<|c5<|S4 2 J<|g5<|S4 2 J ?_;refine cN h (λhc h=>?_) λhc h=>?_
 ·refine S3 4 J ?_;refine cF h C2 J J λv1 _ h=>S2 6 J<|S3 3 J<|c8 J (λhg=>oF J b2w J)<|c8 J (λhg=>oS (ct hg) J J a20 J)<|y0 J (n9 J J J (λq=>K3 q))<|S2 1 J<|a8 ?_;cases h;exact f1
 ·refine S4 2 J ?_;refine cN h (λhc h=>?_) λhc h=>?_
  ·refine S3 4 J ?_;refine c8 J (λhg=>oF J b0X J)<|c8 J (λhg=>oS (ct hg) J J p8 J)<|c8 J (λhg=>oF J a21 J)<|c8 J (λhg=>oS (ct hg) J J a7T J)<|c8 J (λhg=>H9 (f:=g7.Pv) (ct hg) G4)<|c8 J (λhg=>m8 (ct hg) (ct hg) J)<|y0 J (n9 J J J (λq=>K3 q))<|S1 1 J<|c8 J (λhg=>oF J a21 J)<|c8 J (λhg=>oS (ct hg) J J a7T J)<|c8 J (λhg=>oF J b0X J)<|c8 J (λhg=>oS (ct hg) J J p8 J)<|u5 h λv2 hv2 h=>c8 J (λhg=>x5 (f:=g7.Pv) (cs:=g7.Pc v2) (B6 hv2 hg) (ct hg) (ct hg) G4 T7 J J)<|c8 J (λhg=>A9 (ct hg) b0W J)<|c8 J (λhg=>F2 (ct hg) a20 J)<|c8 J (λhg=>U3 (ct hg) J)<|y0 J (n9 J J J (λq=>K3 q))<|S2 1 J<|a8 ?_;cases h;exact f1
  ·refine b9 ?_;refine S4 1 J<|a8 ?_;cases h;exact f1

theorem a51{a0}:PO Tryz.prog 124 [b7.Pv a0] (a2S a0) λr=>.bool r:=by
 refine pO Tryz.func124 λr h _ _=>?_;refine S4 2 J<|sR<|b7j (KT:=g8) (VT:=Bool) (EK:=g8.Pv) (E:=PV.bool) 5000004 J J<|S2 2 J<|S3 4 J<|L8 (WPE (λl=>if l=2001 then 1 else if l=2002 then 3 else if l=5002003 then 5000004 else l) [(7,.L g8.Pv a0.Q.L),(8,.fn (.func 204) [.ptr 2002 0 0,.ptr 2001 0 0])] [(2001,vR (b7.Pv a0) 8),(2002,vS (.mp 5002003) 1),(5002003,⟨[.mapc (List.map (ent g8.Pv PV.bool) [])],0,false,0,false⟩)]) ?_
 refine b7i (fn:=Tryz.f203) (N1:=18) J J Tryz.func203 J c7r J J nl (λe1 o2=>?_);refine jqR h (λq=>St.of [(1000007,.L g8.Pv a0.Q.L),(1000008,.fn (.func 204) [.ptr 2002 0 0,.ptr 2001 0 0]),(4,.bool q.1)] [(2001,vR (b7.Pv a0) 8),(2002,vS (.mp 5002003) 1),(5002003,⟨[.mapc (List.map (ent g8.Pv PV.bool) q.2)],0,false,0,false⟩)]) (λq20 h=>dup ?_) λκ17 h=>?_
 ·obtain⟨j18,j19⟩:=q20;refine⟨J,[.bool j18],⟨J,tr⟩,?_⟩;refine L8 (WE [(9,.bool j18)] [])<|S2 1 J<|a8 ?_;cases h;exact f1
 ·refine S4 1 J ?_;refine jq h (λj29=>St.of [(1000007,.L g8.Pv a0.Q.L),(1000008,.fn (.func 204) [.ptr 2002 0 0,.ptr 2001 0 0])] [(2001,vR (b7.Pv a0) 8),(2002,vS (.mp 5002003) 1),(5002003,⟨[.mapc (List.map (ent g8.Pv PV.bool) j29)],0,false,0,false⟩)]) (λj29 h=>?_) λκ28 h=>?_
  ·refine S4 1 J ?_;refine a8 ?_;exact eJ h W
  ·refine S3 1 J ?_;refine nL J a0d<|S2 1 J<|g5<|lq h (λq=>St.of [(1000007,.L g8.Pv a0.Q.L),(1000008,.fn (.func 204) [.ptr 2002 0 0,.ptr 2001 0 0]),(1,.fn (.func 204) [.ptr 2002 0 0,.ptr 2001 0 0]),(7,.L g8.Pv a0.Q.L),(8,.I (a0.Q.L.length:Int)),(9,.I q.1)] [(2001,vR (b7.Pv a0) 8),(2002,vS (.mp 5002003) 1),(5002003,⟨[.mapc (List.map (ent g8.Pv PV.bool) q.2)],0,false,0,false⟩)]) W λq34 x33 h hx29=>?_;obtain⟨s31,s32⟩:=q34;refine S4 1 J<|c5 ?_;refine cN h (λhc h=>?_) λhc h=>?_
   ·refine b9 ?_;refine c5<|g5<|sR<|iL h J J a0d I4 λv35 _ h=>S2 3 J<|S3 2 J<|L8 (WE [(1000007,.L g8.Pv a0.Q.L),(1000008,.fn (.func 204) [.ptr 2002 0 0,.ptr 2001 0 0]),(1,.fn (.func 204) [.ptr 2002 0 0,.ptr 2001 0 0]),(7,.L g8.Pv a0.Q.L),(8,.I (a0.Q.L.length:Int)),(9,.I s31),(13,.fn (.func 204) [.ptr 2002 0 0,.ptr 2001 0 0]),(14,g8.Pv v35)] [(2001,vR (b7.Pv a0) 8),(2002,vS (.mp 5002003) 1),(5002003,⟨[.mapc (List.map (ent g8.Pv PV.bool) s32)],0,false,0,false⟩)]) ?_;refine b7i (fn:=Tryz.f204) (N1:=34) J J Tryz.func204 J c7s J J nl (λe31 o32=>?_);refine S4 2 J<|S3 4 J<|y0 J (o9 (cs:=[.I v35.Kind,.I v35.At,.I 0]) J b2C a73 J J J)<|S2 2 J<|S3 2 J<|c63 (es:=s32) (k:=(⟨v35.Kind,v35.At,0⟩:g8)) (E:=PV.bool) (EK:=g8.Pv) (d:=.bool ((B4 s32 (⟨v35.Kind,v35.At,0⟩:g8)).getD (false:Bool))) J J J J b9h (b9D g8.Pc (λ_=>J) c0O (by decide) (λ_ _=>J) g8.beq_eq (λ_=>J) (λ_=>⟨J,J⟩)) c4W J (lk1 _ _ _)<|S2 1 J<|S3 2 J<|a02 (es:=s32) (k:=(⟨v35.Kind,v35.At,0⟩:g8)) (v:=true) (E:=PV.bool) (EK:=g8.Pv) (.inl J) J J J J J J b9h (b9D g8.Pc (λ_=>J) c0O (by decide) (λ_ _=>J) g8.beq_eq (λ_=>J) (λ_=>⟨J,J⟩))<|yN<|S3 3 J<|c8 J (λhg=>oF J b9e J)<|c8 J (λhg=>oS (ct hg) J J p8 J)<|c8 J (λhg=>m8 (ct hg) J J)<|y0 J (n9 J J J (λq=>K3 q))<|S1 1 J<|c8 J (λhg=>oF J b9e J)<|c8 J (λhg=>oS (ct hg) J J p8 J)<|c8 J (λhg=>m8 (ct hg) J J)<|y0 J (n9 J J J (λq=>K3 q))<|S1 1 J<|c8 J (λhg=>oL J J J u4 p5 nl J)<|c8 J (λhg=>oL J J J a0c I4 nl J)<|u5 h λv36 hv33 h=>c8 J (λhg=>A0 J b1r (w7 (ct hg) (w7 (ct hg) J)) (B6 hv33 hg))<|y0 J (n9 J J J (λq=>K3 q))<|S2 1 J<|a8 ?_
    refine⟨J,[.bool ((((!((B4 s32 (⟨v35.Kind,v35.At,0⟩:g8)).getD (false:Bool)))&&(decide (v35.Prog≥0)))&&(decide (v35.Prog<6)))&&v36)],⟨J,tr⟩,?_⟩;refine L8 (WE [(1000007,.L g8.Pv a0.Q.L),(1000008,.fn (.func 204) [.ptr 2002 0 0,.ptr 2001 0 0]),(1,.fn (.func 204) [.ptr 2002 0 0,.ptr 2001 0 0]),(7,.L g8.Pv a0.Q.L),(8,.I (a0.Q.L.length:Int)),(9,.I s31),(15,.bool ((((!((B4 s32 (⟨v35.Kind,v35.At,0⟩:g8)).getD (false:Bool)))&&(decide (v35.Prog≥0)))&&(decide (v35.Prog<6)))&&v36))] [(2001,vR (b7.Pv a0) 8),(2002,vS (.mp 5002003) 1),(5002003,⟨[.mapc (List.map (ent g8.Pv PV.bool) (r7 s32 (⟨v35.Kind,v35.At,0⟩:g8) true))],0,false,0,false⟩)])<|S2 1 J ?_;refine cN h (λhc h=>?_) λhc h=>?_
    ·refine S4 1 J ?_;refine a8 ?_;have h:=xL hx29 h;exact eJ h W
    ·refine b9 ?_;refine S6 2 J ?_;exact eL h W
   ·refine l6 ?_;refine c4<|c4<|j1 ?_;have h:=xL hx29 h;exact eJ h W

theorem b0w{a0 a1}:PO Tryz.prog 207 [g7.Pv a0,.rptr (b7.Pc a1)] (a3s a0 a1) λr=>.bool r:=by
 refine pO Tryz.func207 λr h _ _=>?_;refine S4 2 J<|c5<|S3 4 J<|c8 J (λhg=>oF J c4L J)<|c8 J (λhg=>oS (ct hg) J J p8 J)<|c8 J (λhg=>m8 (ct hg) J J)<|y0 J (r8 J J J (λq=>K5 q))<|yN ?_;refine cN h (λhc h=>?_) λhc h=>?_
 ·refine S4 1 J ?_;refine a8 ?_;cases h;exact f1
 ·refine b9 ?_;refine c5<|S4 2 J ?_;refine cN h (λhc h=>?_) λhc h=>?_
  ·refine S3 3 J ?_;refine cA h a1T J J λv1 _ h=>S2 1 J<|a8 ?_;cases h;exact f1
  ·refine b9 ?_;refine S3 5 J<|cA h G0 J J λv2 _ h=>S2 5 J<|S3 4 J<|c8 J (λhg=>mI J)<|c8 J (λhg=>m8 (ct hg) J J)<|y0 J (r8 J J J (λq=>K5 q))<|S2 1 J<|a8 ?_;cases h;exact f1

theorem a0m{a0 a1}:PO Tryz.prog 206 [.L g7.Pv a0,.fn (.func 207) [.rptr (b7.Pc a1)]] (D6 a0 a1) λr=>.bool r:=by
 refine pO Tryz.func206 λr h _ _=>?_;refine S4 1 J ?_;refine jq h (λ_=>St.of [] []) (λq7 h=>?_) λκ6 h=>?_
 ·refine S4 1 J ?_;refine a8 ?_;cases h;exact f1
 ·refine S3 1 J ?_;refine nL J G4<|S2 1 J<|g5<|lq h (λs9=>St.of [(1,.fn (.func 207) [.rptr (b7.Pc a1)]),(7,.L g7.Pv a0),(8,.I (a0.length:Int)),(9,.I s9)] []) W λs9 x10 h hx9=>S4 1 J<|c5 ?_;refine cN h (λhc h=>?_) λhc h=>?_
  ·refine b9 ?_;refine c5<|g5<|sR<|iL h J J G4 T7 λv11 _ h=>S2 3 J<|S3 2 J<|cA h b0w J J λv12 _ h=>S2 1 J ?_;refine cN h (λhc h=>?_) λhc h=>?_
   ·refine S4 1 J ?_;refine a8 ?_;have h:=xL hx9 h;cases h;exact f1
   ·refine b9 ?_;refine S6 2 J ?_;exact eL h W
  ·refine l6 ?_;refine c4<|c4<|j1 ?_;have h:=xL hx9 h;exact eJ h W

theorem a5Y{a0}:PO Tryz.prog 125 [b7.Pv a0] (a2Q a0) λr=>.bool r:=by
 refine pO Tryz.func125 λr h _ _=>?_;refine S4 2 J<|S3 3 J<|cA h a0m J J λv1 _ h=>S2 1 J<|a8 ?_;cases h;exact f1

theorem b3g{a0 a1}:PO Tryz.prog 280 [g7.Pv a0,.rptr [.I a1]] (a2Z a0 a1) λr=>.bool r:=by
 refine pO Tryz.func280 λr h _ _=>?_;unfold a2Z at h;refine S4 2 J<|S3 3 J<|c8 J (λhg=>oF J b4C J)<|c8 J (λhg=>oS (ct hg) J J p8 J)<|c8 J (λhg=>F2 J p8 J)<|c8 J (λhg=>m8 (ct hg) (ct hg) J)<|y0 J (n9 J J J (λq=>K3 q))<|S2 1 J<|a8 ?_;cases h;exact f1

theorem a3m{a0 a1}:PO Tryz.prog 279 [.L g7.Pv a0,.fn (.func 280) [.rptr [.I a1]]] (Q0 a0 a1) λr=>.L iF r:=by
 refine pO Tryz.func279 λr h _ _=>?_;refine S4 1 J<|S4 1 J ?_;refine jq h (λj15=>St.of [(5,.sl 910005)] [(910005,⟨List.map iF j15,(List.map iF j15).length,true,1,true⟩)]) (λj15 h=>?_) λκ14 h=>?_
 ·refine S4 2 J ?_;refine a8 ?_;cases h;exact f1
 ·refine S3 1 J ?_;refine nL J G4<|S2 1 J<|g5<|lq h (λq=>St.of [(1,.fn (.func 280) [.rptr [.I a1]]),(5,.sl 910005),(8,.L g7.Pv a0),(9,.I (a0.length:Int)),(10,.I q.1)] [(910005,⟨List.map iF q.2,(List.map iF q.2).length,true,1,true⟩)]) (Wk.trans (G1 (t:=5) (l:=920005) (z:=1) J J) (WP (λl=>if l=910005 then 920005 else l))) λq20 x19 h hx14=>?_
  obtain⟨s17,s18⟩:=q20;refine S4 1 J<|c5 ?_;refine cN h (λhc h=>?_) λhc h=>?_
  ·refine b9 ?_;refine jq h (λj25=>St.of [(1,.fn (.func 280) [.rptr [.I a1]]),(5,.sl 21),(8,.L g7.Pv a0),(9,.I (a0.length:Int)),(10,.I s17)] [(21,⟨List.map iF j25,(List.map iF j25).length,true,1,true⟩)]) (λj25 h=>?_) λκ24 h=>?_
   ·refine S6 2 J ?_;exact eL h (Wk.trans (n8 _ [21]) (WP (λl=>if l=910005 then 21 else l)))
   ·refine g5 ?_;refine S3 1 J<|iL h J J G4 T7 λv26 _ h=>S2 4 J<|S3 2 J<|cA h b3g J J λv27 _ h=>yN ?_;refine cN h (λhc h=>?_) λhc h=>?_
    ·refine S5 2 J ?_;refine y0 J (M3 (f:=iF) (l:=[s17]) J j5 n7 B9 J J nl J J)<|u5 h λv28 hv21 h=>J8 J (G8 (f:=iF) hv21 J J J J J J (.inl ⟨_,J,J⟩) j5 n7 J6 B9 J (λ_=>J)) J J J<|S2 1 J ?_;exact eJ h (Wk.trans (n8 _ [21]) W)
    ·refine b9 ?_;exact eJ h (Wk.trans (n8 _ [910005]) (WP (λl=>if l=21 then 910005 else l)))
  ·refine l6 ?_;refine c4<|c4<|j1 ?_;have h:=xL hx14 h;exact eJ h (Wk.trans (n8 _ [910005]) W)

theorem b50{a0 a1}:PO Tryz.prog 209 [.L g7.Pv a0,.I a1] (a3l a0 a1) λr=>.I r:=by
 refine pO Tryz.func209 λr h _ _=>?_;unfold a3l at h;refine S4 2 J<|S3 2 J<|u5 h λv1 hv1 h=>ycL J (y8 J a3m J hv1) J<|nL J j5<|S2 1 J<|a8 ?_;cases h;exact f1

theorem a5Z{a0}:PO Tryz.prog 126 [b7.Pv a0] (a2R a0) λr=>.bool r:=by
 refine pO Tryz.func126 λr h _ _=>?_;refine S4 2 J ?_;refine jq h (λ_=>St.of [] []) (λq13 h=>?_) λκ12 h=>?_
 ·refine S4 1 J ?_;refine a8 ?_;cases h;exact f1
 ·refine S3 4 J ?_;refine nL J H7<|S2 1 J<|g5<|lq h (λs15=>St.of [(1,.ptr 1 0 0),(8,.L b8.Pv a0.S.S.Cells),(9,.I (a0.S.S.Cells.length:Int)),(10,.I s15)] [(1,vR (b7.Pv a0) 8)]) W λs15 x16 h hx14=>S4 1 J<|c5 ?_;refine cN h (λhc h=>?_) λhc h=>?_
  ·refine b9 ?_;refine jq h (λ_=>St.of [(1,.ptr 1 0 0),(8,.L b8.Pv a0.S.S.Cells),(9,.I (a0.S.S.Cells.length:Int)),(10,.I s15)] [(1,vR (b7.Pv a0) 8)]) (λq21 h=>?_) λκ20 h=>?_
   ·refine S6 2 J ?_;exact eL h W
   ·refine g5 ?_;refine S3 1 J<|iL h J J H7 M8 λv22 _ h=>S2 4 J<|c5<|S3 4 J<|c8 J (λhg=>oF J a5K J)<|c8 J (λhg=>oS (ct hg) J J p8 J)<|c8 J (λhg=>m8 (ct hg) J J)<|y0 J (n9 J J J (λq=>K3 q))<|yN ?_;refine cN h (λhc h=>?_) λhc h=>?_
    ·refine l6 ?_;refine c4<|j1 ?_;exact eJ h W
    ·refine b9 ?_;refine c5<|dr [] p6 (by kernel_rfl) (by kernel_rfl)<|S7 8 J<|u5 h λv23 hv20 h=>d2 J (A0 J a4d J hv20) J<|u5 h λv24 hv21 h=>d2 J (A0 J b50 J hv21) J<|S8 1 J ?_
     refine cN h (λhc h=>?_) λhc h=>?_
     ·refine S4 1 J ?_;refine a8 ?_;have h:=xL hx14 h;cases h;exact f1
     ·refine b9 ?_;refine S3 4 J<|c8 J (λhg=>oF J a8T J)<|c8 J (λhg=>oF (ct hg) b2v J)<|c8 J (λhg=>oS (ct hg) J J p8 J)<|c8 J (λhg=>m8 (ct hg) J J)<|c8 J (λhg=>om (d:=.bool (decide (v22.Val.Weak<1))) (ct hg))<|c8 (w8 J J J) (λhg=>oF J a8T J)<|c8 (w8 J J J) (λhg=>oF (ct hg) b2x J)<|c8 (w8 J J J) (λhg=>oS (ct hg) J J a0a J)<|c8 (w8 J J J) (λhg=>H9 (f:=iF) (ct hg) j5)<|c8 (w8 J J J) (λhg=>m8 (ct hg) J J)<|c8 J (λhg=>r8 (ct hg) J J (λq=>a3I hg (K5 q)))<|c8 J (λhg=>om (d:=.bool ((decide (v22.Val.Weak<1))||(decide ((v22.Val.Fields.length:Int) > 0)))) (ct hg))<|c8 (w8 J J J) (λhg=>oF J a8T J)<|c8 (w8 J J J) (λhg=>oF (ct hg) b6F J)<|c8 (w8 J J J) (λhg=>oS (ct hg) J J p8 J)<|c8 (w8 J J J) (λhg=>m8 (ct hg) J J)<|c8 J (λhg=>r8 (ct hg) J J (λq=>a3I hg (K5 q)))<|y0 J (n9 J J J (λq=>K3 q))<|yN ?_;refine cN h (λhc h=>?_) λhc h=>?_
      ·refine S4 1 J ?_;refine a8 ?_;have h:=xL hx14 h;cases h;exact f1
      ·refine b9 ?_;exact eJ h W
  ·refine l6 ?_;refine c4<|c4<|j1 ?_;have h:=xL hx14 h;exact eJ h W

theorem c09{f:Fv}{a0:b7}{r:Bool}(h:a0H f a0=some r):∃n,f=some n∧B1 Tryz.prog n∧T5 Tryz.prog n [b7.Pv a0] (.bool r):=by
 unfold a0H at h;by_cases e122:f=some 122
 ·rw[if_pos e122] at h;exact⟨122,e122,(@a4Z a0).1,(@a4Z a0).2 _ h⟩
 rw[if_neg e122] at h;by_cases e123:f=some 123
 ·rw[if_pos e123] at h;exact⟨123,e123,(@a40 a0).1,(@a40 a0).2 _ h⟩
 rw[if_neg e123] at h;by_cases e124:f=some 124
 ·rw[if_pos e124] at h;exact⟨124,e124,(@a51 a0).1,(@a51 a0).2 _ h⟩
 rw[if_neg e124] at h;by_cases e125:f=some 125
 ·rw[if_pos e125] at h;exact⟨125,e125,(@a5Y a0).1,(@a5Y a0).2 _ h⟩
 rw[if_neg e125] at h;by_cases e126:f=some 126
 ·rw[if_pos e126] at h;exact⟨126,e126,(@a5Z a0).1,(@a5Z a0).2 _ h⟩
 rw[if_neg e126] at h;cases h

theorem b8T{a0}:PO Tryz.prog 215 [g6.Pv a0] (a6p a0) λr=>.L iF r:=by
 refine pO Tryz.func215 λr h _ _=>?_;refine S4 2 J<|S4 1 J ?_;refine jq h (λj10=>St.of [(3,.ptr 2001 0 0)] [(2001,vS (.sl 912501) 1),(912501,⟨List.map iF j10,(List.map iF j10).length,true,1,true⟩)]) (λj10 h=>?_) λκ9 h=>?_
 ·refine S4 2 J ?_;refine a8 ?_;cases h;exact f1
 ·refine S3 1 J ?_;refine cF h b5R J J λv11 _ h=>yN<|g5<|a3d (WPE (λl=>if l=2011 then 3 else l) [(3,.ptr 2011 0 0),(6,.fn (.func 350) [.rptr (g6.Pc v11.1),.rptr [.I v11.2]])] [(2011,vR (.nl) 1)]) ?_
  refine a0q (fn:=Tryz.f350) (N1:=24) J Tryz.func350 J J nl J c2k J J (λl17 e18 o19 hR20=>?_);refine S3 2 J<|nL J a0d<|S2 1 J<|g5<|lq h (λq=>St.of [(1000003,.ptr 2011 0 0),(1000006,.fn (.func 350) [.rptr (g6.Pc v11.1),.rptr [.I v11.2]]),(0,.fn (.yield l17) []),(2,.rptr [.I v11.2]),(7,.L g8.Pv v11.1.L),(8,.I (v11.1.L.length:Int)),(9,.I q.1)] [(2011,vS (.sl 912511) 1),(912511,⟨List.map iF q.2,(List.map iF q.2).length,true,1,true⟩)]) (Wk.trans (a9M (l0:=2011) (j:=0) (l:=922511) (z:=1) J J J J J) (WP (λl=>if l=912511 then 922511 else l))) λq16 x15 h hx23=>?_
  obtain⟨s13,s14⟩:=q16;refine S4 1 J<|c5 ?_;refine cN h (λhc h=>?_) λhc h=>?_
  ·refine b9 ?_;refine c5<|g5<|sR<|iL h J J a0d I4 λv17 _ h=>S2 3 J<|S3 5 J<|c8 J (λhg=>om (d:=.fn (.yield l17) []) J)<|c8 J (λhg=>oL J J J a0c I4 nl J) ?_;rcases Bool.eq_false_or_eq_true ((v17.Kind==v11.2)==true) with hg25 | hg25
   ·have h:=ifT h hg25;refine L8 (WPE (λl=>if l=2019 then 912511 else l) [(1000003,.ptr 2011 0 0),(1000006,.fn (.func 350) [.rptr (g6.Pc v11.1),.rptr [.I v11.2]]),(0,.fn (.yield l17) []),(2,.rptr [.I v11.2]),(7,.L g8.Pv v11.1.L),(8,.I (v11.1.L.length:Int)),(9,.I s13),(17,.bool (v17.Kind==v11.2)),(18,.fn (.yield l17) []),(19,g8.Pv v17)] [(2011,vS (.sl 2019) 1),(2019,⟨List.map iF s14,(List.map iF s14).length,true,1,true⟩)]) ?_
    refine a3T hR20 (congrArg some hg25) J J J J J (λe26 o27 o28=>?_);refine S6 2 J ?_;refine⟨J,?_⟩;refine g5<|S5 3 J<|y0 J (M3 (f:=iF) (l:=[v17.At]) J j5 n7 B9 J J nl J J)<|u5 h λv18 hv29 h=>J8 J (G8 (f:=iF) hv29 J J J J J J (.inl ⟨_,J,J⟩) j5 n7 J6 B9 J (λ_=>J)) J J J<|S2 1 J ?_;refine⟨J,?_⟩;refine L8 (WPE (λl=>if l=2020 then 12 else l) [(1000003,.ptr 2011 0 0),(1000006,.fn (.func 350) [.rptr (g6.Pc v11.1),.rptr [.I v11.2]]),(0,.fn (.yield l17) []),(2,.rptr [.I v11.2]),(7,.L g8.Pv v11.1.L),(8,.I (v11.1.L.length:Int)),(9,.I s13),(17,.bool (v17.Kind==v11.2)),(20,.bool true)] [(2011,vS (.sl 2020) 1),(2020,⟨List.map iF v18,s14.length,true,1,true⟩)])<|y0 (congrArg some hg25) (U3 J J)<|y0 J (a9f J J hg25)<|yN ?_
    refine H6 false J (λq=>nomatch q) (λ_=>?_);refine b9<|S6 2 J ?_;exact eL h (Wk.trans (n8 _ [2020]) (WP (λl=>if l=912511 then 2020 else l)))
   ·have h:=ifF h hg25;refine a2e (congrArg some hg25)<|a2e (congrArg some hg25)<|y0 J (a9e J J hg25)<|yN ?_;refine H6 false J (λq=>nomatch q) (λ_=>?_);refine b9<|S6 2 J ?_;exact eL h (Wk.trans (n8 _ [912511]) W)
  ·refine l6 ?_;refine c4<|c4<|j1 ?_;refine .inl ⟨J,?_⟩;have h:=xL hx23 h;exact eJ h (Wk.trans (n8 _ [912511]) (WP (λl=>if l=2001 then 2011 else if l=912501 then 912511 else l)))

theorem b6k{a0}:PO Tryz.prog 128 [b7.Pv a0] (a6Q a0) λr=>.L iF r:=by
 refine pO Tryz.func128 λr h _ _=>?_;refine S4 2 J<|S4 1 J ?_;refine jq h (λj13=>St.of [(1,.ptr 1 0 0),(3,.sl 910003)] [(910003,⟨List.map iF j13,(List.map iF j13).length,true,1,true⟩),(1,vR (b7.Pv a0) 8)]) (λj13 h=>?_) λκ12 h=>?_
 ·refine S3 3 J ?_;refine cF h b8T J J λv14 _ h=>u5 h λv15 hv11 h=>J8 J (G8 (f:=iF) hv11 J J J J J J (.inl ⟨_,J,J⟩) j5 n7 J6 B9 J (λ_=>J)) J J J<|S2 1 J<|a8 ?_;cases h;exact f1
 ·refine S3 2 J ?_;refine nL J j5<|S2 1 J<|g5<|lq h (λq=>St.of [(1,.ptr 1 0 0),(3,.sl 910003),(7,.L iF a0.Roots),(8,.I (a0.Roots.length:Int)),(9,.I q.1)] [(1,vR (b7.Pv a0) 8),(910003,⟨List.map iF q.2,(List.map iF q.2).length,true,1,true⟩)]) (Wk.trans (G1 (t:=3) (l:=920003) (z:=1) J J) (WP (λl=>if l=910003 then 920003 else l))) λq20 x19 h hx14=>?_
  obtain⟨s17,s18⟩:=q20;refine S4 1 J<|c5 ?_;refine cN h (λhc h=>?_) λhc h=>?_
  ·refine b9 ?_;refine jq h (λj24=>St.of [(1,.ptr 1 0 0),(3,.sl 18),(7,.L iF a0.Roots),(8,.I (a0.Roots.length:Int)),(9,.I s17)] [(18,⟨List.map iF j24,(List.map iF j24).length,true,1,true⟩),(1,vR (b7.Pv a0) 8)]) (λj24 h=>?_) λκ23 h=>?_
   ·refine S6 2 J ?_;exact eL h (Wk.trans (n8 _ [18]) (WP (λl=>if l=910003 then 18 else l)))
   ·refine g5 ?_;refine sR<|iL h J J j5 n7 λv25 _ h=>S2 2 J<|S4 2 J ?_;refine cN h (λhc h=>?_) λhc h=>?_
    ·refine S5 2 J ?_;refine y0 J (M3 (f:=iF) (l:=[v25]) J j5 n7 B9 J J nl J J)<|u5 h λv26 hv19 h=>J8 J (G8 (f:=iF) hv19 J J J J J J (.inl ⟨_,J,J⟩) j5 n7 J6 B9 J (λ_=>J)) J J J<|S2 1 J ?_;exact eJ h (Wk.trans (n8 _ [18]) W)
    ·refine b9 ?_;exact eJ h (Wk.trans (n8 _ [910003]) (WP (λl=>if l=18 then 910003 else l)))
  ·refine l6 ?_;refine c4<|c4<|j1 ?_;have h:=xL hx14 h;exact eJ h (Wk.trans (n8 _ [910003]) W)

theorem b4K{a0}:PO Tryz.prog 211 [.I a0] (a78 a0) λr=>.bool r:=by
 refine pO Tryz.func211 λr h _ _=>?_;refine S4 1 J<|S3 1 J<|cA h a0g J J λv1 _ h=>S2 1 J<|a8 ?_;cases h;exact f1

theorem b6t{a0}:PO Tryz.prog 384 [a7.Pv a0] (a7a a0) λr=>.fn (.func 396) [.rptr (a7.Pc r)]:=by
 refine pO Tryz.func384 λr h _ _=>?_;unfold a7a at h;refine S4 2 J<|S4 2 J<|a8 ?_;cases h;exact f1

theorem c0g{a0 a1}:PO Tryz.prog 361 [a7.Pv a0,.I a1] (b16 a0 a1) λr=>.L iF r:=by
 refine pO Tryz.func361 λr h _ _=>?_;refine S4 2 J<|S3 2 J<|cF h C2 J J λv1 _ h=>S2 6 J<|S3 2 J<|cF h b2p J J λv2 _ h=>S2 1 J<|a8 ?_;cases h;exact f1

theorem c1N{a0 a1}:PO Tryz.prog 348 [a7.Pv a0,.I a1] (b4k a0 a1) λr=>.I r:=by
 refine pO Tryz.func348 λr h _ _=>?_;refine S4 3 J<|S4 2 J ?_;refine jq h (λj31=>St.of [(5,.ptr 2001 0 0)] [(2001,vR (.I j31) 1)]) (λj31 h=>?_) λκ30 h=>?_
 ·refine S4 2 J ?_;refine a8 ?_;cases h;exact f1
 ·refine S3 1 J ?_;refine cF h b6t J J λv32 _ h=>yN<|g5<|a3d (WPE (λl=>if l=2003 then 5 else if l=2004 then 3 else l) [(3,.ptr 2004 0 0),(5,.ptr 2003 0 0),(9,.fn (.func 396) [.rptr (a7.Pc v32)])] [(2003,vR (.I 0) 1),(2004,vR (.I a1) 1)]) ?_
  refine a0q (fn:=Tryz.f396) (N1:=29) J Tryz.func396 J J nl J c7w J J (λl33 e34 o35 hR36=>?_);refine c6l<|c5<|c6k<|S3 1 J<|cF h a2Y J J λv33 _ h=>nL J j5<|S2 1 J<|g5<|lq h (λq=>St.of [(1000003,.ptr 2004 0 0),(1000005,.ptr 2003 0 0),(1000009,.fn (.func 396) [.rptr (a7.Pc v32)]),(0,.fn (.yield l33) []),(1,.rptr (a7.Pc v32)),(8,.L iF v33),(9,.I (v33.length:Int)),(10,.I q.1)] [(2003,vR (.I q.2) 1),(2004,vR (.I a1) 1)]) W λq38 x37 h hx40=>?_;obtain⟨s35,s36⟩:=q38;refine S4 1 J<|c5 ?_;refine cN h (λhc h=>?_) λhc h=>?_
  ·refine b9 ?_;refine jq h (λj50=>St.of [(1000003,.ptr 2004 0 0),(1000005,.ptr 2003 0 0),(1000009,.fn (.func 396) [.rptr (a7.Pc v32)]),(0,.fn (.yield l33) []),(1,.rptr (a7.Pc v32)),(8,.L iF v33),(9,.I (v33.length:Int)),(10,.I s35)] [(2003,vR (.I j50) 1),(2004,vR (.I a1) 1)]) (λj50 h=>?_) λκ49 h=>?_
   ·refine S6 2 J ?_;exact eL h W
   ·refine g5 ?_;refine sR<|iL h J J j5 n7 λv51 _ h=>S2 2 J<|S3 2 J<|cF h c0g J J λv52 _ h=>nL J j5<|S2 1 J<|g5<|lq h (λq=>St.of [(1000003,.ptr 2004 0 0),(1000005,.ptr 2003 0 0),(1000009,.fn (.func 396) [.rptr (a7.Pc v32)]),(0,.fn (.yield l33) []),(1,.rptr (a7.Pc v32)),(4,.I v51),(8,.L iF v33),(9,.I (v33.length:Int)),(10,.I s35),(16,.L iF v52),(17,.I (v52.length:Int)),(18,.I q.1)] [(2003,vR (.I q.2) 1),(2004,vR (.I a1) 1)]) W λq57 x56 h hx56=>?_;obtain⟨s54,s55⟩:=q57;refine S4 1 J<|c5 ?_;refine cN h (λhc h=>?_) λhc h=>?_
    ·refine b9 ?_;refine c5<|g5<|sR<|iL h J J j5 n7 λv58 _ h=>S2 2 J<|S3 3 J<|L8 (WE [(1000003,.ptr 2004 0 0),(1000005,.ptr 2003 0 0),(1000009,.fn (.func 396) [.rptr (a7.Pc v32)]),(0,.fn (.yield l33) []),(1,.rptr (a7.Pc v32)),(4,.I v51),(8,.L iF v33),(9,.I (v33.length:Int)),(10,.I s35),(16,.L iF v52),(17,.I (v52.length:Int)),(18,.I s54),(22,.fn (.yield l33) []),(23,.I v51),(24,.I v58)] [(2003,vR (.I s55) 1),(2004,vR (.I a1) 1)]) ?_;refine a3T hR36 J J J J J J (λe58 o59 o60=>?_);refine S6 1 J ?_;refine⟨J,?_⟩;refine jqE h (λj60=>St.of [(2000003,.ptr 2004 0 0),(2000005,.ptr 2003 0 0),(2000009,.fn (.func 396) [.rptr (a7.Pc v32)]),(1000000,.fn (.yield l33) []),(1000001,.rptr (a7.Pc v32)),(1000004,.I v51),(1000008,.L iF v33),(1000009,.I (v33.length:Int)),(1000010,.I s35),(1000016,.L iF v52),(1000017,.I (v52.length:Int)),(1000018,.I s54),(1000022,.fn (.yield l33) []),(1000023,.I v51),(1000024,.I v58)] [(2003,vR (.I j60) 1),(2004,vR (.I a1) 1)]) (λj60 h=>?_) λκ59 h=>?_
     ·refine⟨J,?_⟩;refine L8 (WE [(1000003,.ptr 2004 0 0),(1000005,.ptr 2003 0 0),(1000009,.fn (.func 396) [.rptr (a7.Pc v32)]),(0,.fn (.yield l33) []),(1,.rptr (a7.Pc v32)),(4,.I v51),(8,.L iF v33),(9,.I (v33.length:Int)),(10,.I s35),(16,.L iF v52),(17,.I (v52.length:Int)),(18,.I s54),(25,.bool true)] [(2003,vR (.I j60) 1),(2004,vR (.I a1) 1)])<|S2 1 J ?_;refine H6 false J (λq=>nomatch q) (λ_=>?_);refine b9<|S6 2 J ?_;exact eL h W
     ·refine g5 ?_;refine S4 3 J ?_;refine cN h (λhc h=>?_) λhc h=>?_
      ·refine S6 3 J ?_;exact eJ h W
      ·refine b9 ?_;exact eJ h W
    ·refine l6 ?_;refine c4<|c4<|j1 ?_;have h:=xL hx56 h;exact eJ h W
  ·refine l6 ?_;refine c4<|c4<|j1<|b6v ?_;refine .inl ⟨J,?_⟩;have h:=xL hx40 h;exact eJ h (WP (λl=>if l=2001 then 2003 else l))

theorem b2I{a0 a1}:PO Tryz.prog 385 [m7.Pv a0,.rptr [.I a1]] (a2O a0 a1) λr=>.bool r:=by
 refine pO Tryz.func385 λr h _ _=>?_;unfold a2O at h;refine S4 2 J<|S3 3 J<|c8 J (λhg=>oF J b6L J)<|c8 J (λhg=>oS (ct hg) J J p8 J)<|c8 J (λhg=>F2 J p8 J)<|c8 J (λhg=>m8 (ct hg) (ct hg) J)<|y0 J (n9 J J J (λq=>K3 q))<|S2 1 J<|a8 ?_;cases h;exact f1

theorem K6{a0 a1}:PO Tryz.prog 274 [.fn (.func 344) [.rptr [.L c9.Pv a0]],.fn (.func 385) [.rptr [.I a1]]] (A6 a0 a1) λr=>.L m7.Pv r:=by
 refine pO Tryz.func274 λr h _ _=>?_;refine S4 2 J<|S4 1 J ?_;refine jq h (λj16=>St.of [(5,.ptr 2001 0 0)] [(2001,vS (.sl 912501) 1),(912501,⟨List.map m7.Pv j16,(List.map m7.Pv j16).length,true,2,true⟩)]) (λj16 h=>?_) λκ15 h=>?_
 ·refine S4 2 J ?_;refine a8 ?_;cases h;exact f1
 ·refine S4 1 J ?_;refine g5<|a3d (WPE (λl=>if l=2012 then 5 else if l=2013 then 3 else l) [(3,.ptr 2013 0 0),(5,.ptr 2012 0 0),(7,.fn (.func 344) [.rptr [.L c9.Pv a0]])] [(2012,vR (.nl) 1),(2013,vR (.fn (.func 385) [.rptr [.I a1]]) 1)]) ?_
  refine a0q (fn:=Tryz.f344) (N1:=27) J Tryz.func344 J J nl J c2j J J (λl20 e21 o22 hR23=>?_);refine S3 1 J<|cF h b1j J J λv17 _ h=>nL J j5<|S2 1 J<|g5<|lq h (λq=>St.of [(1000003,.ptr 2013 0 0),(1000005,.ptr 2012 0 0),(1000007,.fn (.func 344) [.rptr [.L c9.Pv a0]]),(0,.fn (.yield l20) []),(1,.rptr [.L c9.Pv a0]),(8,.L iF v17),(9,.I (v17.length:Int)),(10,.I q.1)] [(2012,vS (.sl 912512) 1),(2013,vR (.fn (.func 385) [.rptr [.I a1]]) 1),(912512,⟨List.map m7.Pv q.2,(List.map m7.Pv q.2).length,true,2,true⟩)]) (Wk.trans (a9M (l0:=2012) (j:=0) (l:=922512) (z:=2) J J J J J) (WP (λl=>if l=912512 then 922512 else l))) λq22 x21 h hx27=>?_
  obtain⟨s19,s20⟩:=q22;refine S4 1 J<|c5 ?_;refine cN h (λhc h=>?_) λhc h=>?_
  ·refine b9 ?_;refine c5<|g5<|sR<|iL h J J j5 n7 λv23 _ h=>S2 2 J<|S3 2 J<|cA h a4Y J J λv24 _ h=>S2 5 J<|S3 3 J<|y0 J (o9 (cs:=[.I v23,.I v24.1]) J c2o a80 J J J)<|L8 (WPE (λl=>if l=2021 then 912512 else l) [(1000003,.ptr 2013 0 0),(1000005,.ptr 2012 0 0),(1000007,.fn (.func 344) [.rptr [.L c9.Pv a0]]),(0,.fn (.yield l20) []),(1,.rptr [.L c9.Pv a0]),(8,.L iF v17),(9,.I (v17.length:Int)),(10,.I s19),(20,.fn (.yield l20) []),(23,.agg [.I v23,.I v24.1])] [(2012,vS (.sl 2021) 1),(2021,⟨List.map m7.Pv s20,(List.map m7.Pv s20).length,true,2,true⟩),(2013,vR (.fn (.func 385) [.rptr [.I a1]]) 1)]) ?_
   refine a3T hR23 J J J J J J (λe30 o31 o32=>?_);refine S6 2 J ?_;refine⟨J,?_⟩;refine jqE h (λj28=>St.of [(2000003,.ptr 2013 0 0),(2000005,.ptr 2012 0 0),(2000007,.fn (.func 344) [.rptr [.L c9.Pv a0]]),(1000000,.fn (.yield l20) []),(1000001,.rptr [.L c9.Pv a0]),(1000008,.L iF v17),(1000009,.I (v17.length:Int)),(1000010,.I s19),(1000020,.fn (.yield l20) []),(1000023,.agg [.I v23,.I v24.1])] [(2012,vS (.sl 15) 1),(15,⟨List.map m7.Pv j28,(List.map m7.Pv j28).length,true,2,true⟩),(2013,vR (.fn (.func 385) [.rptr [.I a1]]) 1)]) (λj28 h=>?_) λκ27 h=>?_
   ·refine⟨J,?_⟩;refine L8 (WPE (λl=>if l=2022 then 15 else l) [(1000003,.ptr 2013 0 0),(1000005,.ptr 2012 0 0),(1000007,.fn (.func 344) [.rptr [.L c9.Pv a0]]),(0,.fn (.yield l20) []),(1,.rptr [.L c9.Pv a0]),(8,.L iF v17),(9,.I (v17.length:Int)),(10,.I s19),(24,.bool true)] [(2012,vS (.sl 2022) 1),(2022,⟨List.map m7.Pv j28,(List.map m7.Pv j28).length,true,2,true⟩),(2013,vR (.fn (.func 385) [.rptr [.I a1]]) 1)])<|S2 1 J ?_
    refine H6 false J (λq=>nomatch q) (λ_=>?_);refine b9<|S6 2 J ?_;exact eL h (Wk.trans (n8 _ [2022]) (WP (λl=>if l=912512 then 2022 else l)))
   ·refine g5 ?_;refine S3 2 J<|cA h b2I J J λv29 _ h=>yN ?_;refine cN h (λhc h=>?_) λhc h=>?_
    ·refine S5 2 J ?_;refine y0 J (M3 (f:=m7.Pv) (l:=[(⟨v23,v24.1⟩:m7)]) J a6C b00 a80 J J nl J J)<|u5 h λv30 hv37 h=>J8 J (G8 (f:=m7.Pv) hv37 J J J J J J (.inl ⟨_,J,J⟩) a6C b00 c2g a80 J (λ_=>J)) J J J<|S2 1 J ?_;exact eJ h (Wk.trans (n8 _ [15]) W)
    ·refine b9 ?_;exact eJ h (Wk.trans (n8 _ [2021]) (WP (λl=>if l=15 then 2021 else l)))
  ·refine l6 ?_;refine c4<|c4<|j1 ?_;refine .inl ⟨J,?_⟩;have h:=xL hx27 h;exact eJ h (Wk.trans (n8 _ [912512]) (WP (λl=>if l=2001 then 2012 else if l=912501 then 912512 else l)))

theorem b4O{a0 a1}:PO Tryz.prog 349 [.L c9.Pv a0,.I a1] (a4T a0 a1) λr=>.I r:=by
 refine pO Tryz.func349 λr h _ _=>?_;refine S4 2 J<|S3 1 J<|cF h a8a J J λv1 _ h=>S1 1 J<|u5 h λv2 hv2 h=>ycL J (y8 J K6 J hv2) J<|nL J a6C<|S2 1 J<|a8 ?_;cases h;exact f1

theorem b5T{a0 a1 a2}:PO Tryz.prog 282 [a7.Pv a0,.L c9.Pv a1,.I a2] (a5n a0 a1 a2) λr=>.I r:=by
 refine pO Tryz.func282 λr h _ _=>?_;refine S4 2 J<|S3 2 J<|cA h c1N J J λv1 _ h=>S1 2 J<|cA h b4O J J λv2 _ h=>S2 2 J<|a8 ?_;cases h;exact f1

theorem b6A{a0 a1 a2}:PO Tryz.prog 212 [a7.Pv a0,.L c9.Pv a1,.I a2] (a7p a0 a1 a2) λr=>.I r:=by
 refine pO Tryz.func212 λr h _ _=>?_;refine S4 2 J<|S3 2 J<|cF h C2 J J λv1 _ h=>S2 6 J<|c5<|S4 2 J ?_;refine cN h (λhc h=>?_) λhc h=>?_
 ·refine S4 1 J ?_;refine a8 ?_;cases h;exact f1
 ·refine b9 ?_;refine dr [] p6 (by kernel_rfl) (by kernel_rfl)<|S7 5 J<|u5 h λv2 hv2 h=>d2 J (A0 J b5T J hv2) J<|S8 2 J<|a8 ?_
  cases h;exact f1

theorem b8X{a0 a1}:PO Tryz.prog 283 [.L iF a0,.I a1] (a9G a0 a1) λr=>.I r:=by
 refine pO Tryz.func283 λr h _ _=>?_;refine S4 2 J<|S4 2 J ?_;refine jq h (λj11=>St.of [(5,.ptr 2001 0 0)] [(2001,vR (.I j11) 1)]) (λj11 h=>?_) λκ10 h=>?_
 ·refine S4 2 J ?_;refine a8 ?_;cases h;exact f1
 ·refine S3 1 J ?_;refine cF h b2q J J λv12 _ h=>yN<|g5<|a3d (WPE (λl=>if l=2003 then 5 else if l=2004 then 3 else l) [(3,.ptr 2004 0 0),(5,.ptr 2003 0 0),(8,.fn (.func 292) [.rptr [.L iF v12]])] [(2003,vR (.I 0) 1),(2004,vR (.I a1) 1)]) ?_
  refine a0q (fn:=Tryz.f292) (N1:=20) J Tryz.func292 J J nl J c2i J J (λl17 e18 o19 hR20=>?_);refine S3 1 J<|nL J j5<|S2 1 J<|g5<|lq h (λq=>St.of [(1000003,.ptr 2004 0 0),(1000005,.ptr 2003 0 0),(1000008,.fn (.func 292) [.rptr [.L iF v12]]),(0,.fn (.yield l17) []),(5,.L iF v12),(6,.I (v12.length:Int)),(7,.I q.1)] [(2003,vR (.I q.2) 1),(2004,vR (.I a1) 1)]) W λq17 x16 h hx23=>?_;obtain⟨s14,s15⟩:=q17;refine S4 1 J<|c5 ?_;refine cN h (λhc h=>?_) λhc h=>?_
  ·refine b9 ?_;refine c5<|g5<|sR<|iL h J J j5 n7 λv18 _ h=>S2 2 J<|S3 3 J<|c8 J (λhg=>om (d:=.fn (.yield l17) []) J)<|c8 J (λhg=>mI J) ?_;rcases Bool.eq_false_or_eq_true ((v18 != 0)==true) with hg25 | hg25
   ·have h:=ifT h hg25;refine L8 (WE [(1000003,.ptr 2004 0 0),(1000005,.ptr 2003 0 0),(1000008,.fn (.func 292) [.rptr [.L iF v12]]),(0,.fn (.yield l17) []),(5,.L iF v12),(6,.I (v12.length:Int)),(7,.I s14),(13,.bool (v18 != 0)),(14,.fn (.yield l17) []),(15,.I v18)] [(2003,vR (.I s15) 1),(2004,vR (.I a1) 1)]) ?_;refine a3T hR20 (congrArg some hg25) J J J J J (λe26 o27 o28=>?_);refine S6 1 J ?_;refine⟨J,?_⟩;refine jqE h (λj20=>St.of [(2000003,.ptr 2004 0 0),(2000005,.ptr 2003 0 0),(2000008,.fn (.func 292) [.rptr [.L iF v12]]),(1000000,.fn (.yield l17) []),(1000005,.L iF v12),(1000006,.I (v12.length:Int)),(1000007,.I s14),(1000013,.bool (v18 != 0)),(1000014,.fn (.yield l17) []),(1000015,.I v18)] [(2003,vR (.I j20) 1),(2004,vR (.I a1) 1)]) (λj20 h=>?_) λκ19 h=>?_
    ·refine⟨J,?_⟩;refine L8 (WE [(1000003,.ptr 2004 0 0),(1000005,.ptr 2003 0 0),(1000008,.fn (.func 292) [.rptr [.L iF v12]]),(0,.fn (.yield l17) []),(5,.L iF v12),(6,.I (v12.length:Int)),(7,.I s14),(13,.bool (v18 != 0)),(16,.bool true)] [(2003,vR (.I j20) 1),(2004,vR (.I a1) 1)])<|c8 J (λhg=>U3 J J)<|y0 J (n9 J J J (λq=>K3 q))<|yN ?_;refine cN h (λhc h=>?_) λhc h=>?_
     ·refine a8 ?_;refine .inl ⟨J,?_⟩;have h:=xL hx23 h;exact eJ h (WP (λl=>if l=2001 then 2003 else l))
     ·refine b9 ?_;refine S6 2 J ?_;exact eL h W
    ·refine g5 ?_;refine S4 3 J ?_;refine cN h (λhc h=>?_) λhc h=>?_
     ·refine S6 3 J ?_;exact eJ h W
     ·refine b9 ?_;exact eJ h W
   ·have h:=ifF h hg25;refine a2e (congrArg some hg25)<|a2e (congrArg some hg25)<|y0 J (a9e J J hg25)<|yN ?_;refine H6 false J (λq=>nomatch q) (λ_=>?_);refine b9<|S6 2 J ?_;exact eL h W
  ·refine l6 ?_;refine c4<|c4<|j1 ?_;refine .inl ⟨J,?_⟩;have h:=xL hx23 h;exact eJ h (WP (λl=>if l=2001 then 2003 else l))

theorem b6s{a0 a1}:PO Tryz.prog 213 [.L iF a0,.I a1] (a69 a0 a1) λr=>.I r:=by
 refine pO Tryz.func213 λr h _ _=>?_;refine S4 1 J<|S3 2 J<|cA h b8X J J λv1 _ h=>S2 1 J<|a8 ?_;cases h;exact f1

theorem b3T{a0 a1 a2 a3 a4}:PO Tryz.prog 210 [.I a0,k9.Pv a1,.rptr (a7.Pc a2),.rptr [.L c9.Pv a3],.rptr [.L iF a4]] (a3P a0 a1 a2 a3 a4) λr=>.bool r:=by
 refine pO Tryz.func210 λr h _ _=>?_;unfold a3P at h;refine S4 2 J<|dr [] p6 (by kernel_rfl) (by kernel_rfl)<|S7 2 J<|u5 h λv1 hv1 h=>d2 J (A0 J b4K J hv1) J<|S7 2 J<|A5 J (λhg=>a4l J a5q a5t nl J) J<|A5 J (λhg=>F2 J b0i J) J<|s7 J (λhg _ hN=>mI J) J<|u5 h λv2 hv2 h=>a24 J (λhg=>A0 J b6A (w7 (ct hg) (w7 (ct hg) (w7 (ct hg) J))) (B6 hv2 hg)) J<|A5 J (λhg=>F2 J a0a J) J<|s7 J (λhg _ hN=>mI J) J<|u5 h λv3 hv3 h=>a24 J (λhg=>A0 J b6s (w7 (ct hg) (w7 (ct hg) J)) (B6 hv3 hg)) J<|s7 J (λhg _ hN=>m8 (ct hg) (ct hg) J) J<|d7 J (λ_ hN=>n9 J J J (λq=>K3 q)) J<|S8 1 J<|a8 ?_
 cases h;exact f1

theorem b6z{a0 a1 a2}:PO Tryz.prog 127 [a7.Pv a0,.L c9.Pv a1,.L iF a2] (a7o a0 a1 a2) λr=>.bool r:=by
 refine pO Tryz.func127 λr h _ _=>?_;refine S4 4 J<|S3 1 J<|y0 J (o9 (cs:=[.fn (.func 210) [.ptr 3 0 0,.ptr 4 0 0,.ptr 5 0 0]]) J c7D c7P J J J)<|L8 (a3F 9 (d':=.agg [.fn (.func 210) [.ptr 3 0 0,.ptr 4 0 0,.ptr 5 0 0]]) J)<|S2 2 J<|S3 2 J<|L8 (WPE (λl=>if l=2001 then 5 else if l=2002 then 4 else if l=2003 then 3 else l) [(10,.agg [.fn (.func 210) [.ptr 2003 0 0,.ptr 2002 0 0,.ptr 2001 0 0]]),(11,a7.Pv a0)] [(2001,vR (.L iF a2) 1),(2002,vR (.L c9.Pv a1) 1),(2003,vR (a7.Pv a0) 3)]) ?_
 refine b7i (fn:=Tryz.f214) (N1:=34) J J Tryz.func214 J c7t J J nl (λe1 o2=>?_);refine jqR h (λj36=>St.of [(1000010,.agg [.fn (.func 210) [.ptr 2003 0 0,.ptr 2002 0 0,.ptr 2001 0 0]]),(1000011,a7.Pv a0),(4,.sl 910005)] [(910005,⟨List.map iF j36,(List.map iF j36).length,true,1,true⟩),(2001,vR (.L iF a2) 1),(2002,vR (.L c9.Pv a1) 1),(2003,vR (a7.Pv a0) 3)]) (λj36 h=>dup ?_) λκ35 h=>?_
 ·refine⟨J,[.sl 910005],⟨J,tr⟩,?_⟩;refine L8 (WPE (λl=>if l=2004 then 910005 else l) [(12,.sl 2004)] [(2004,⟨List.map iF j36,(List.map iF j36).length,true,1,true⟩)])<|y0 J (b9N (f:=iF) J J J j5)<|S2 2 J<|a8 ?_
  cases h;exact f1
 ·refine S4 3 J ?_;refine S4 1 J ?_;refine jq h (λj54=>St.of [(1000010,.agg [.fn (.func 210) [.ptr 2003 0 0,.ptr 2002 0 0,.ptr 2001 0 0]]),(1000011,a7.Pv a0),(5,.sl 910005)] [(910005,⟨List.map iF j54,(List.map iF j54).length,true,1,true⟩),(2001,vR (.L iF a2) 1),(2002,vR (.L c9.Pv a1) 1),(2003,vR (a7.Pv a0) 3)]) (λj54 h=>?_) λκ53 h=>?_
  ·refine S4 2 J ?_;refine a8 ?_;exact eJ h (Wk.trans (n8 _ [910005]) W)
  ·refine S3 1 J ?_;refine cF h a2Y J J λv55 _ h=>nL J j5<|S2 1 J<|g5<|lq h (λq=>St.of [(1000010,.agg [.fn (.func 210) [.ptr 2003 0 0,.ptr 2002 0 0,.ptr 2001 0 0]]),(1000011,a7.Pv a0),(2,.ptr 2 0 0),(3,.ptr 3 0 0),(5,.sl 910005),(11,.L iF v55),(12,.I (v55.length:Int)),(13,.I q.1)] [(3,vR (a7.Pv a0) 3),(2,vS (.agg [.fn (.func 210) [.ptr 2003 0 0,.ptr 2002 0 0,.ptr 2001 0 0]]) 1),(2001,vR (.L iF a2) 1),(2002,vR (.L c9.Pv a1) 1),(2003,vR (a7.Pv a0) 3),(910005,⟨List.map iF q.2,(List.map iF q.2).length,true,1,true⟩)]) (Wk.trans (G1 (t:=5) (l:=920005) (z:=1) J J) (WP (λl=>if l=910005 then 920005 else l))) λq60 x59 h hx48=>?_
   obtain⟨s57,s58⟩:=q60;refine S4 1 J<|c5 ?_;refine cN h (λhc h=>?_) λhc h=>?_
   ·refine b9 ?_;refine jq h (λj66=>St.of [(1000010,.agg [.fn (.func 210) [.ptr 2003 0 0,.ptr 2002 0 0,.ptr 2001 0 0]]),(1000011,a7.Pv a0),(2,.ptr 2 0 0),(3,.ptr 3 0 0),(5,.sl 31),(11,.L iF v55),(12,.I (v55.length:Int)),(13,.I s57)] [(31,⟨List.map iF j66,(List.map iF j66).length,true,1,true⟩),(3,vR (a7.Pv a0) 3),(2,vS (.agg [.fn (.func 210) [.ptr 2003 0 0,.ptr 2002 0 0,.ptr 2001 0 0]]) 1),(2001,vR (.L iF a2) 1),(2002,vR (.L c9.Pv a1) 1),(2003,vR (a7.Pv a0) 3)]) (λj66 h=>?_) λκ65 h=>?_
    ·refine S6 2 J ?_;exact eL h (Wk.trans (n8 _ [31]) (WP (λl=>if l=910005 then 31 else l)))
    ·refine g5 ?_;refine sR<|iL h J J j5 n7 λv67 _ h=>S2 2 J<|S3 2 J<|cF h C2 J J λv68 _ h=>S2 6 J<|S3 4 J<|cA h b3T J J λv69 _ h=>yN ?_;refine cN h (λhc h=>?_) λhc h=>?_
     ·refine S5 2 J ?_;refine y0 J (M3 (f:=iF) (l:=[v67]) J j5 n7 B9 J J nl J J)<|u5 h λv70 hv57 h=>J8 J (G8 (f:=iF) hv57 J J J J J J (.inl ⟨_,J,J⟩) j5 n7 J6 B9 J (λ_=>J)) J J J<|S2 1 J ?_;exact eJ h (Wk.trans (n8 _ [31]) W)
     ·refine b9 ?_;exact eJ h (Wk.trans (n8 _ [910005]) (WP (λl=>if l=31 then 910005 else l)))
   ·refine l6 ?_;refine c4<|c4<|j1 ?_;have h:=xL hx48 h;exact eJ h (Wk.trans (n8 _ [910005]) W)

theorem b6l{a0}:PO Tryz.prog 60 [b7.Pv a0] (a6R a0) λr=>.bool r:=by
 refine pO Tryz.func60 λr h _ _=>?_;refine S4 2 J<|c5<|S3 1 J<|cA h b1q J J λv1 _ h=>S2 1 J ?_;refine cN h (λhc h=>?_) λhc h=>?_
 ·refine S4 1 J ?_;refine a8 ?_;cases h;exact f1
 ·refine b9 ?_;refine jq h (λ_=>St.of [(1,.ptr 1 0 0)] [(1,vR (b7.Pv a0) 8)]) (λq9 h=>?_) λκ8 h=>?_
  ·refine dr [] p6 (by kernel_rfl) (by kernel_rfl) ?_
   refine S7 5 J<|u5 h λv10 hv11 h=>d2f J (y8 J b6k J hv11) J<|u5 h λv11 hv12 h=>d2 J (A0 J b6z J hv12) J<|S8 1 J<|a8 ?_;cases h;exact f1
  ·refine sR ?_;refine y0 J (M3 (f:=λn:Nat=>PV.fn (.func n) []) (l:=[122,123,124,125,126]) J b7p c4S c9V J J nl J J)<|L8 (d1x 8 (d':=.lst true (List.map fvE [(some 122),(some 123),(some 124),(some 125),(some 126)])) J J J)<|nL J b7p<|S2 1 J<|g5<|lq h (λs13=>St.of [(1,.ptr 1 0 0),(8,.lst true (List.map fvE [(some 122),(some 123),(some 124),(some 125),(some 126)])),(9,.I ([(some 122),(some 123),(some 124),(some 125),(some 126)].length:Int)),(10,.I s13)] [(1,vR (b7.Pv a0) 8)]) W λs13 x14 h hx15=>S4 1 J<|c5 ?_;refine cN h (λhc h=>?_) λhc h=>?_
   ·refine b9 ?_;refine c5<|g5<|sR<|iL h J J b7p c4S λv15 _ h=>S2 2 J<|S3 2 J ?_;obtain⟨v16,hv17,h⟩:=a74 h;obtain⟨n17,he18,hk19,hp20⟩:=c09 hv17;refine L8 (c3r 14 J he18)<|y0 J (b5c J hk19 J hp20)<|S2 1 J ?_;refine cN h (λhc h=>?_) λhc h=>?_
    ·refine S4 1 J ?_;refine a8 ?_;have h:=xL hx15 h;cases h;exact f1
    ·refine b9 ?_;refine S6 2 J ?_;exact eL h W
   ·refine l6 ?_;refine c4<|c4<|j1 ?_;have h:=xL hx15 h;exact eJ h W

theorem a3R:PO Tryz.prog 44 [] (Q7) λr=>.bool r:=by
 refine pO Tryz.func44 λr h _ _=>?_;refine S4 1 J<|sR<|y0 J (o9 (cs:=[.I 2,.I 2,.I 5,.I 0]) J b4E b0j J J J)<|y0 J (M3 (f:=j2.Pv) (l:=[(⟨2,2,5,0⟩:j2)]) J a5s b4F b0j J J nl J J)<|y0 J (B5 J a5s b4F)<|y0 J (M3 (f:=(Ls j2.Pv)) (l:=[[(⟨2,2,5,0⟩:j2)],[]]) J a6D b4G c9X J J nl J J)<|S2 1 J<|sR<|cF h b9z J J λv1 _ h=>y0 J (o9 (cs:=[.I 1,.I 0,.I 0,.I 0]) J b4E b0j J J J)<|y0 J (o9 (cs:=[.I 6,.I 0,.I 0,.I 1]) J b4E b0j J J J)<|y0 J (o9 (cs:=[.I 3,.I 0,.I 0,.I 0]) J b4E b0j J J J)<|y0 J (M3 (f:=j2.Pv) (l:=[(⟨1,0,0,0⟩:j2),(⟨6,0,0,1⟩:j2),(⟨3,0,0,0⟩:j2)]) J a5s b4F b0j J J nl J J)<|cF h a8n J J λv2 _ h=>S2 6 J<|S3 2 J<|cF h a1K J J λv3 _ h=>S2 10 J<|S3 2 J<|cF h a1K J J λv4 _ h=>S2 10 J<|S3 1 J<|y0 J (o9 (cs:=[.I 3,.I 2,.I 0,.I 0]) J b4E b0j J J J)<|cF h a96 J J λv5 _ h=>S2 8 J<|S3 2 J<|cF h a1K J J λv6 _ h=>S2 10 J<|S3 2 J<|cF h a5z J J λv7 _ h=>?_;refine S2 9 J<|c5<|S3 2 J<|nL J G4<|S1 2 J<|c8 J (λhg=>oF J a21 J)<|c8 J (λhg=>oS (ct hg) J J a7T J)<|c8 J (λhg=>H9 (f:=g7.Pv) (ct hg) G4)<|c8 J (λhg=>m8 (ct hg) J J)<|y0 J (r8 J J J (λq=>K5 q))<|yN ?_;refine cN h (λhc h=>?_) λhc h=>?_
 ·refine S4 1 J ?_;refine a8 ?_;cases h;exact f1
 ·refine b9 ?_;refine S3 3 J<|c8 J (λhg=>mI J)<|c8 J (λhg=>m8 (ct hg) J J)<|y0 J (n9 J J J (λq=>K3 q))<|S1 1 J<|c8 J (λhg=>mI J)<|c8 J (λhg=>m8 (ct hg) J J)<|y0 J (n9 J J J (λq=>K3 q))<|S1 1 J<|c8 J (λhg=>mI J)<|c8 J (λhg=>m8 (ct hg) J J)<|y0 J (n9 J J J (λq=>K3 q))<|S1 1 J<|c8 J (λhg=>mI J)<|c8 J (λhg=>m8 (ct hg) J J)<|y0 J (n9 J J J (λq=>K3 q))<|S1 1 J<|c8 J (λhg=>mI J)<|c8 J (λhg=>m8 (ct hg) J J)<|y0 J (n9 J J J (λq=>K3 q))<|S1 1 J<|c8 J (λhg=>oL J J J u4 p5 nl J)<|u5 h λv8 hv8 h=>c8 J (λhg=>A0 J a06 (w7 (ct hg) (w7 J J)) (B6 hv8 hg))<|c8 J (λhg=>m8 (ct hg) J J)<|y0 J (n9 J J J (λq=>K3 q))<|S1 1 J<|c8 J (λhg=>oL J J J u4 p5 nl J)<|u5 h λv9 hv9 h=>c8 J (λhg=>A0 J a06 (w7 (ct hg) (w7 J J)) (B6 hv9 hg))<|c8 J (λhg=>m8 (ct hg) J J)<|y0 J (n9 J J J (λq=>K3 q))<|S1 1 J<|c8 J (λhg=>oF J a21 J)<|c8 J (λhg=>oS (ct hg) J J a7T J)<|u5 h λv10 hv10 h=>c8 J (λhg=>x5 (f:=g7.Pv) (cs:=g7.Pc v10) (B6 hv10 hg) (ct hg) J G4 T7 J J)<|c8 J (λhg=>A9 (ct hg) b0W J)<|c8 J (λhg=>F2 (ct hg) a20 J)<|y0 J (n9 J J J (λq=>K3 q))<|S1 1 J<|c8 J (λhg=>mI J)<|c8 J (λhg=>m8 (ct hg) J J)<|y0 J (n9 J J J (λq=>K3 q))<|S1 1 J<|c8 J (λhg=>oF J a7U J)<|c8 J (λhg=>oF (ct hg) b4z J)<|c8 J (λhg=>oS (ct hg) J J c0J J)<|c8 J (λhg=>H9 (f:=g8.Pv) (ct hg) a0d)<|c8 J (λhg=>m8 (ct hg) J J)<|y0 J (n9 J J J (λq=>K3 q))<|S1 1 J<|c8 J (λhg=>oF J a21 J)<|c8 J (λhg=>oS (ct hg) J J a7T J)<|u5 h λv11 hv11 h=>c8 J (λhg=>x5 (f:=g7.Pv) (cs:=g7.Pc v11) (B6 hv11 hg) (ct hg) J G4 T7 J J)<|c8 J (λhg=>A9 (ct hg) b0W J)<|c8 J (λhg=>F2 (ct hg) a20 J)<|c8 J (λhg=>U3 (ct hg) J)<|y0 J (n9 J J J (λq=>K3 q))<|S1 1 J<|c8 J (λhg=>mI J)<|c8 J (λhg=>m8 (ct hg) J J)<|y0 J (n9 J J J (λq=>K3 q))<|S1 1 J<|c8 J (λhg=>mI J)<|c8 J (λhg=>m8 (ct hg) J J)<|y0 J (n9 J J J (λq=>K3 q))<|S1 1 J<|c8 J (λhg=>oL J J J u4 p5 nl J)<|u5 h λv12 hv12 h=>c8 J (λhg=>A0 J a1L (w7 (ct hg) J) (B6 hv12 hg))<|y0 J (n9 J J J (λq=>K3 q))<|S1 1 J<|c8 J (λhg=>oL J J J a0c I4 nl J)<|c8 J (λhg=>o9 (cs:=[.I 0,.I 0,.I 0]) J b2C a73 J J J)<|c8 J (λhg=>b9M (xs:=g8.Pc v7.2.1) (ys:=[.I 0,.I 0,.I 0]) c0O (ct hg) (ct hg) J)<|y0 J (n9 J J J (λq=>K3 q))<|S1 1 J<|c8 J (λhg=>mI J)<|c8 J (λhg=>m8 (ct hg) J J)<|y0 J (n9 J J J (λq=>K3 q))<|S1 1 J<|c8 J (λhg=>om (d:=.lst true (List.map (Ls j2.Pv) [[(⟨2,2,5,0⟩:j2)],[]])) J)<|c8 J (λhg=>o9 (cs:=[.I 0,.I 0,.I 0]) J b2C a73 J J J)<|u5 h λv13 hv13 h=>c8 J (λhg=>A0 J a5x (w7 (ct hg) (w7 (ct hg) J)) (B6 hv13 hg))<|c8 J (λhg=>m8 (ct hg) J J)<|y0 J (n9 J J J (λq=>K3 q))<|S1 1 J<|c8 J (λhg=>oL J J J u4 p5 nl J)<|u5 h λv14 hv14 h=>c8 J (λhg=>A0 J b6l (w7 (ct hg) J) (B6 hv14 hg))<|y0 J (n9 J J J (λq=>K3 q))<|S2 1 J<|a8 ?_;cases h;exact f1

theorem b98{a0}:PO Tryz.prog 111 [u9.Pv a0] (b10 a0) λr=>.tup [u9.Pv r.1,n0.Pv r.2.1,.I r.2.2]:=by
 refine pO Tryz.func111 λr h _ _=>?_;refine S4 4 J<|c5<|S3 2 J<|nL J I3<|S2 1 J ?_;refine cN h (λhc h=>?_) λhc h=>?_
 ·refine S3 1 J ?_;refine y0 J (o9 (cs:=[.I 0,.I 0,.I 0]) J b7t a6G J J J)<|S2 3 J<|a8 ?_;cases h;exact⟨J,[_,_,_],⟨oL J J J a6A a3p nl J,⟨oL J J J a6B H2 nl J,⟨J,tr⟩⟩⟩,J,io⟩
 ·refine b9 ?_;refine dr [7,8,9,1001] p6 (by kernel_rfl) (by kernel_rfl)<|S7 2 J<|u5 h λv1 hv1 h=>d0 J (c1p (f:=n0.Pv) hv1 J ⟨_,J⟩ J I3 H2 (λ_=>J)) J<|S7 2 J<|d7 J (λ_ hN=>o9 (cs:=[.L n0.Pv v1,.I a0.Cap]) J c0N c0Q J J J) J<|S7 1 J<|d7 J (λ_ hN=>b1C hN J J J J b2u J) J<|u5 h λv2 hv2 h=>d7 J (λ_ hN=>x5 (f:=n0.Pv) (cs:=n0.Pc v2) hv2 J J I3 H2 J J) J<|d7 J (λ_ hN=>a4l J a6B H2 nl J) J<|C9 (x':=.agg [.L n0.Pv v1,.I a0.Cap]) (cl':=true) J J (.inr J) a3p<|C9 (x':=n0.Pv v2) (cl':=true) J J (.inl J) H2<|S8 1 J<|a8 ?_
  cases h;exact⟨J,[_,_,_],⟨oL J J J a6A a3p nl J,⟨oL J J J a6B H2 nl J,⟨J,tr⟩⟩⟩,J,io⟩

theorem c1C{a0}:PO Tryz.prog 225 [.I a0] (b1L a0) λr=>.I r:=by
 refine pO Tryz.func225 λr h _ _=>?_;refine S4 1 J<|c5<|S3 1 J<|cA h a65 J J λv1 _ h=>yN ?_;refine cN h (λhc h=>?_) λhc h=>?_
 ·refine S4 1 J ?_;refine a8 ?_;cases h;exact f1
 ·refine b9 ?_;refine c5<|S4 2 J ?_;refine cN h (λhc h=>?_) λhc h=>?_
  ·refine S4 1 J ?_;refine a8 ?_;cases h;exact f1
  ·refine b9 ?_;refine S4 3 J<|a8 ?_;cases h;exact f1

theorem a8r{a0 a1 a2}:PO Tryz.prog 224 [k7.Pv a0,.I a1,B0.Pv a2] (a07 a0 a1 a2) λr=>k7.Pv r:=by
 refine pO Tryz.func224 λr h _ _=>?_;unfold a07 at h;refine S4 3 J<|sR<|y0 J (B5 J E5 E9)<|S1 2 J<|u5 h λv1 hv1 h=>y1 J (a7C (f:=l7.Pv) hv1 J J (.inl ⟨_,J,J⟩) E5 E9 b7n a6F J (λ_=>J)) J<|S2 1 J<|S3 3 J<|u5 h λv2 hv2 h=>y0 J (a0W (f:=l7.Pv) hv2 J J J J E5 E9 J)<|S1 1 J<|a4G (f:=l7.Pv) (v:=(⟨v2.State,v2.Gen,a2⟩:l7)) hv2 J J (.inr J) a5u<|yN<|S3 5 J<|y0 J (o9 (cs:=[.sl 11,.I a0.Last,.I a0.Serial]) J c0M c0P J J J)<|S2 1 J<|a8 ?_;cases h;exact⟨J,[_],⟨oL J J J a0b Y4 nl J,tr⟩,J,io⟩

theorem a2z{a0 a1 a2}:PO Tryz.prog 140 [k7.Pv a0,.I a1,B0.Pv a2] (N6 a0 a1 a2) λr=>.tup [k7.Pv r.1,.I r.2]:=by
 refine pO Tryz.func140 λr h _ _=>?_;refine S4 4 J<|S3 1 J<|cF h L7 J J λv1 _ h=>S1 1 J<|cA h V5 J J λv2 _ h=>S2 5 J<|c5<|S4 2 J ?_;refine cN h (λhc h=>?_) λhc h=>?_
 ·refine S4 4 J ?_;refine a8 ?_;cases h;exact⟨J,[_,_],⟨oL J J J a0b Y4 nl J,⟨J,tr⟩⟩,J,io⟩
 ·refine b9 ?_;refine S3 3 J<|cF h a8r J J λv3 _ h=>S2 2 J<|a8 ?_;cases h;exact⟨J,[_,_],⟨oL J J J a0b Y4 nl J,⟨J,tr⟩⟩,J,io⟩

theorem b0d{a0 a1 a2}:PO Tryz.prog 190 [c7.Pv a0,.I a1,.I a2] (a4p a0 a1 a2) λr=>c7.Pv r:=by
 refine pO Tryz.func190 λr h _ _=>?_;refine S4 2 J<|S3 3 J<|cF h E7 J J λv1 _ h=>S2 6 J<|c5<|S4 2 J ?_;refine cN h (λhc h=>?_) λhc h=>?_
 ·refine S4 2 J ?_;refine a8 ?_;cases h;exact⟨J,[_],⟨oL J J J y7 u6 nl J,tr⟩,J,io⟩
 ·refine b9 ?_;refine S4 3 J<|S3 4 J<|cF h a2z J J λv2 _ h=>S2 5 J<|S4 2 J<|a8 ?_;cases h;exact⟨J,[_],⟨oL J J J y7 u6 nl J,tr⟩,J,io⟩

theorem a2W{a0 a1}:PO Tryz.prog 142 [c7.Pv a0,.I a1] (a0t a0 a1) λr=>c7.Pv r:=by
 refine pO Tryz.func142 λr h _ _=>?_;refine S4 2 J<|S3 3 J<|cF h E7 J J λv1 _ h=>S2 6 J<|dr [] p6 (by kernel_rfl) (by kernel_rfl)<|S7 4 J<|u5 h λv2 hv2 h=>d2 J (A0 J c1C J hv2) J<|u5 h λv3 hv3 h=>d2f J (y8 J b0d J hv3) J<|C9 (x':=c7.Pv v3) (cl':=true) J J (.inr J) u6<|N2<|a8 ?_
 cases h;exact⟨J,[_],⟨oL J J J y7 u6 nl J,tr⟩,J,io⟩

theorem c1B{a0}:PO Tryz.prog 189 [.I a0] (b4d a0) λr=>.tup [.I r.1,.I r.2]:=by
 refine pO Tryz.func189 λr h _ _=>?_;refine S4 2 J<|c5<|S3 1 J<|cA h a65 J J λv1 _ h=>yN ?_;refine cN h (λhc h=>?_) λhc h=>?_
 ·refine S4 2 J ?_;refine a8 ?_;cases h;exact f2
 ·refine b9 ?_;refine c5<|S4 2 J ?_;refine cN h (λhc h=>?_) λhc h=>?_
  ·refine S4 2 J ?_;refine a8 ?_;cases h;exact f2
  ·refine b9 ?_;refine S4 4 J<|a8 ?_;cases h;exact f2

theorem a0s{a0 a1}:PO Tryz.prog 113 [c7.Pv a0,.I a1] (E4 a0 a1) λr=>c7.Pv r:=by
 refine pO Tryz.func113 λr h _ _=>?_;refine S4 2 J<|S3 3 J<|cF h E7 J J λv1 _ h=>S2 6 J<|S3 2 J<|cA h c1B J J λv2 _ h=>S2 5 J<|c5<|S4 2 J ?_;refine cN h (λhc h=>?_) λhc h=>?_
 ·refine S4 2 J ?_;refine a8 ?_;cases h;exact⟨J,[_],⟨oL J J J y7 u6 nl J,tr⟩,J,io⟩
 ·refine b9 ?_;refine S3 3 J<|cF h b0d J J λv3 _ h=>S2 1 J<|a8 ?_;cases h;exact⟨J,[_],⟨oL J J J y7 u6 nl J,tr⟩,J,io⟩

theorem a5g{a0 a1 a2}:PO Tryz.prog 112 [c7.Pv a0,.I a1,.I a2] (U5 a0 a1 a2) λr=>.tup [c7.Pv r.1,.I r.2]:=by
 refine pO Tryz.func112 λr h _ _=>?_;refine S4 3 J<|c5<|S3 3 J<|c8 J (λhg=>mI J)<|c8 J (λhg=>m8 (ct hg) J J)<|y0 J (r8 J J J (λq=>K5 q))<|yN ?_;refine cN h (λhc h=>?_) λhc h=>?_
 ·refine S4 3 J ?_;refine a8 ?_;cases h;exact⟨J,[_,_],⟨oL J J J y7 u6 nl J,⟨J,tr⟩⟩,J,io⟩
 ·refine b9 ?_;refine c5<|S3 2 J<|cA h a0O J J λv1 _ h=>S2 1 J ?_;refine cN h (λhc h=>?_) λhc h=>?_
  ·refine S4 3 J ?_;refine a8 ?_;cases h;exact⟨J,[_,_],⟨oL J J J y7 u6 nl J,⟨J,tr⟩⟩,J,io⟩
  ·refine b9 ?_;refine S3 3 J<|iL h J J j5 n7 λv2 _ h=>S2 2 J<|S3 2 J<|cF h a2W J J λv3 _ h=>S2 2 J<|sR<|y0 J (B5 J j5 n7)<|S1 2 J<|u5 h λv4 hv4 h=>y1 J (a7C (f:=iF) hv4 J J (.inl ⟨_,J,J⟩) j5 n7 J6 B9 J (λ_=>J)) J<|S2 2 J<|S3 4 J<|u5 h λv5 hv5 h=>y0 J (a0W (f:=iF) hv5 J J J J j5 n7 J)<|a4G (f:=iF) (v:=a2) hv5 J J (.inl J) n7<|yN<|S3 2 J<|u5 h λv6 hv6 h=>ycL J (y8 J a0s J hv6) J<|S2 2 J<|a8 ?_;cases h;exact⟨J,[_,_],⟨oL J J J y7 u6 nl J,⟨J,tr⟩⟩,J,io⟩

theorem b5u{a0 a1}:PO Tryz.prog 75 [c7.Pv a0,.I a1] (a9u a0 a1) λr=>.bool r:=by
 refine pO Tryz.func75 λr h _ _=>?_;refine S4 2 J<|S3 3 J<|cF h E7 J J λv1 _ h=>S2 6 J<|S3 2 J<|cA h W4 J J λv2 _ h=>S1 1 J<|c8 J (λhg=>oF J a5N J)<|c8 J (λhg=>oS (ct hg) J J p8 J)<|c8 J (λhg=>m8 (ct hg) J J)<|y0 J (n9 J J J (λq=>K3 q))<|S1 1 J<|c8 J (λhg=>oF J a7Y J)<|c8 J (λhg=>oS (ct hg) J J a20 J)<|c8 J (λhg=>U3 (ct hg) J)<|y0 J (n9 J J J (λq=>K3 q))<|S2 1 J<|a8 ?_;cases h;exact f1

theorem b5t{a0 a1}:PO Tryz.prog 141 [u9.Pv a0,n0.Pv a1] (a5f a0 a1) λr=>.tup [u9.Pv r.1,.I r.2]:=by
 refine pO Tryz.func141 λr h _ _=>?_;refine S4 4 J<|c5<|S3 2 J<|nL J I3<|S2 3 J ?_;refine cN h (λhc h=>?_) λhc h=>?_
 ·refine S4 3 J ?_;refine a8 ?_;cases h;exact⟨J,[_,_],⟨oL J J J a6A a3p nl J,⟨J,tr⟩⟩,J,io⟩
 ·refine b9 ?_;refine dr [] p6 (by kernel_rfl) (by kernel_rfl)<|d1n J (B5 J I3 H2) J<|S7 2 J<|u5 h λv1 hv1 h=>d3 J (a7C (f:=n0.Pv) hv1 J J (.inl ⟨_,J,J⟩) I3 H2 c0L a6G J (λ_=>J)) J J J<|S7 1 J<|d1n J (M3 (f:=n0.Pv) (l:=[a1]) J I3 H2 a6G J J nl J J) J<|u5 h λv2 hv2 h=>d3a J (G8 (f:=n0.Pv) hv2 J J J J J J (.inl ⟨_,J,J⟩) I3 H2 c0L a6G J (λ_=>J)) J J J J J<|S7 2 J<|d7 J (λ_ hN=>o9 (cs:=[.sl 19,.I a0.Cap]) J c0N c0Q J J J) J<|C9 (x':=.agg [.sl 19,.I a0.Cap]) (cl':=false) J J (.inl J) a3p<|S8 1 J<|a8 ?_
  cases h;exact⟨J,[_,_],⟨oL J J J a6A a3p nl J,⟨J,tr⟩⟩,J,io⟩

theorem b6r{a0 a1}:PO Tryz.prog 66 [c7.Pv a0,.I a1] (a4q a0 a1) λr=>c7.Pv r:=by
 refine pO Tryz.func66 λr h _ _=>?_;refine S4 2 J<|c5<|S3 2 J<|cA h b5u J J λv1 _ h=>S2 1 J ?_;refine cN h (λhc h=>?_) λhc h=>?_
 ·refine S4 2 J ?_;refine a8 ?_;cases h;exact⟨J,[_],⟨oL J J J y7 u6 nl J,tr⟩,J,io⟩
 ·refine b9 ?_;refine S3 3 J<|cF h E7 J J λv2 _ h=>S2 6 J<|S4 2 J<|S3 4 J<|cF h a2z J J λv3 _ h=>S2 5 J<|S3 5 J<|y0 J (o9 (cs:=[.I 1,.I a1,.I v2.1.Prog]) J b7t a6G J J J)<|cF h b5t J J λv4 _ h=>S2 5 J<|S3 2 J<|cF h a2W J J λv5 _ h=>S2 1 J<|a8 ?_;cases h;exact⟨J,[_],⟨oL J J J y7 u6 nl J,tr⟩,J,io⟩

theorem c1G{a0 a1}:PO Tryz.prog 226 [.L iF a0,.I a1] (b4g a0 a1) λr=>.bool r:=by
 refine pO Tryz.func226 λr h _ _=>?_;refine S4 1 J<|S3 2 J<|cA h a3M J J λv1 _ h=>S2 2 J<|a8 ?_;cases h;exact f1

theorem c0c{a0 a1}:PO Tryz.prog 143 [c7.Pv a0,.L iF a1] (a8y a0 a1) λr=>.L iF r:=by
 refine pO Tryz.func143 λr h _ _=>?_;refine S4 2 J<|sR<|y0 J (B5 J j5 n7)<|S2 1 J ?_;refine jq h (λj17=>St.of [(5,.sl 910005)] [(910005,⟨List.map iF j17,(List.map iF j17).length,true,1,true⟩)]) (λj17 h=>?_) λκ16 h=>?_
 ·refine S4 2 J ?_;refine a8 ?_;cases h;exact f1
 ·refine S4 1 J ?_;refine g5<|lq h (λq=>St.of [(1,.L iF a1),(2,.ptr 2 0 0),(5,.sl 910005),(6,.I q.1)] [(2,vR (c7.Pv a0) 8),(910005,⟨List.map iF q.2,(List.map iF q.2).length,true,1,true⟩)]) (Wk.trans (G1 (t:=5) (l:=920005) (z:=1) J J) (WP (λl=>if l=910005 then 920005 else l))) λq22 x21 h hx16=>?_
  obtain⟨s19,s20⟩:=q22;refine c5<|S3 2 J<|nL J j5<|S2 1 J ?_;refine cN h (λhc h=>?_) λhc h=>?_
  ·refine b9 ?_;refine jq h (λj28=>St.of [(1,.L iF a1),(2,.ptr 2 0 0),(5,.sl 35),(6,.I s19)] [(35,⟨List.map iF j28,(List.map iF j28).length,true,1,true⟩),(2,vR (c7.Pv a0) 8)]) (λj28 h=>?_) λκ27 h=>?_
   ·refine S6 3 J ?_;exact eL h (Wk.trans (n8 _ [35]) (WP (λl=>if l=910005 then 35 else l)))
   ·refine g5 ?_;refine dr [] p6 (by kernel_rfl) (by kernel_rfl)<|S7 3 J<|u5 h λv29 hv22 h=>d0 J (x5 (f:=iF) (cs:=[.I v29]) hv22 J J j5 n7 J J) J<|S7 1 J<|u5 h λv30 hv23 h=>d2 J (A0 J W4 J hv23) J<|S7 1 J<|s7 J (λhg _ hN=>om (d:=.sl 910005) J) J<|s7 J (λhg _ hN=>om (d:=.L iF a1) J) J<|s7 J (λhg _ hN=>mI J) J<|A5 J (λhg=>x5 (f:=iF) (cs:=[.I v29]) hv22 (ct hg) (ct hg) j5 n7 J J) J<|A5 J (λhg=>F2 (ct hg) p8 J) J<|u5 h λv31 hv24 h=>a24 J (λhg=>A0 J c1G (w7 (ct hg) (w7 (ct hg) J)) (B6 hv24 hg)) J<|s7 J (λhg _ hN=>U3 (ct hg) J) J<|d7 J (λ_ hN=>n9 J J J (λq=>K3 q)) J<|N2 ?_
    refine cN h (λhc h=>?_) λhc h=>?_
    ·refine S5 3 J ?_;refine y0 J (x5 (f:=iF) (cs:=[.I v29]) hv22 J J j5 n7 J J)<|S1 1 J<|y0 J (M3 (f:=iF) (l:=[v29]) J j5 n7 B9 J J nl J J)<|u5 h λv32 hv25 h=>J8 J (G8 (f:=iF) hv25 J J J J J J (.inl ⟨_,J,J⟩) j5 n7 J6 B9 J (λ_=>J)) J J J<|S2 1 J ?_;exact eJ h (Wk.trans (n8 _ [35]) W)
    ·refine b9 ?_;exact eJ h (Wk.trans (n8 _ [910005]) (WP (λl=>if l=35 then 910005 else l)))
  ·refine l6 ?_;refine c4<|c4<|j1 ?_;have h:=xL hx16 h;exact eJ h (Wk.trans (n8 _ [910005]) W)

theorem b8e{a0 a1}:PO Tryz.prog 144 [.L l5.Pv a0,.L iF a1] (a9i a0 a1) λr=>.tup [.L l5.Pv r.1,.L iF r.2]:=by
 refine pO Tryz.func144 λr h _ _=>?_;refine S4 2 J<|sR<|y0 J (B5 J J9 M9)<|S2 1 J<|sR<|y0 J (B5 J j5 n7)<|S2 1 J ?_;refine jq h (λq=>St.of [(6,.sl 910006),(7,.sl 910007)] [(910007,⟨List.map iF q.1,(List.map iF q.1).length,true,1,true⟩),(910006,⟨List.map l5.Pv q.2,(List.map l5.Pv q.2).length,true,3,true⟩)]) (λq20 h=>?_) λκ17 h=>?_
 ·obtain⟨j18,j19⟩:=q20;refine S4 4 J<|a8 ?_;cases h;exact f2
 ·refine S4 1 J ?_;refine g5<|lq h (λq=>St.of [(0,.L l5.Pv a0),(1,.L iF a1),(6,.sl 910006),(7,.sl 910007),(8,.I q.1)] [(910006,⟨List.map l5.Pv q.2.1,(List.map l5.Pv q.2.1).length,true,3,true⟩),(910007,⟨List.map iF q.2.2,(List.map iF q.2.2).length,true,1,true⟩)]) (Wk.trans (G1 (t:=6) (l:=920006) (z:=3) J J) (Wk.trans (G1 (t:=7) (l:=920007) (z:=1) J J) (WP (λl=>if l=910006 then 920006 else if l=910007 then 920007 else l)))) λq26 x25 h hx14=>?_
  obtain⟨s22,s23,s24⟩:=q26;refine c5<|S3 2 J<|nL J J9<|S2 1 J ?_;refine cN h (λhc h=>?_) λhc h=>?_
  ·refine b9 ?_;refine c5<|g5<|S3 2 J<|iL h J J J9 M9 λv27 _ h=>S2 3 J ?_;refine jq h (λq=>St.of [(0,.L l5.Pv a0),(1,.L iF a1),(6,.sl 910006),(7,.sl 38),(8,.I s22),(9,.ptr 9 0 0)] [(9,vR (.agg [.I v27.Target,.bool q.1,.I v27.Call]) 3),(38,⟨List.map iF q.2,(List.map iF q.2).length,true,1,true⟩),(910006,⟨List.map l5.Pv s23,(List.map l5.Pv s23).length,true,3,true⟩)]) (λq33 h=>?_) λκ30 h=>?_
   ·obtain⟨j31,j32⟩:=q33;refine S5 2 J<|y0 J (M3 (f:=l5.Pv) (l:=[(⟨v27.Target,j31,v27.Call⟩:l5)]) J J9 M9 a8Z J J nl J J)<|u5 h λv34 hv19 h=>J8 J (G8 (f:=l5.Pv) hv19 J J J J J J (.inl ⟨_,J,J⟩) J9 M9 b7o a8Z J (λ_=>J)) J J J<|S2 1 J<|S6 3 J ?_;exact eL h (Wk.trans (n8 _ [42,38]) (WP (λl=>if l=910006 then 42 else if l=910007 then 38 else l)))
   ·refine S3 3 J ?_;refine c8 J (λhg=>om (d:=.L iF a1) J)<|c8 J (λhg=>oF J a8U J)<|c8 J (λhg=>oS (ct hg) J J p8 J)<|u5 h λv35 hv20 h=>c8 J (λhg=>A0 J a3M (w7 (ct hg) (w7 (ct hg) J)) (B6 hv20 hg))<|c8 J (λhg=>m8 (ct hg) J J)<|y0 J (n9 J J J (λq=>K3 q))<|yN ?_;refine cN h (λhc h=>?_) λhc h=>?_
    ·refine S4 2 J ?_;refine S4 3 J ?_;refine cN h (λhc h=>?_) λhc h=>?_
     ·refine S5 2 J ?_;refine y0 J (M3 (f:=iF) (l:=[s22]) J j5 n7 B9 J J nl J J)<|u5 h λv36 hv21 h=>J8 J (G8 (f:=iF) hv21 J J J J J J (.inl ⟨_,J,J⟩) j5 n7 J6 B9 J (λ_=>J)) J J J<|S2 1 J ?_;exact eJ h (Wk.trans (n8 _ [910006,38]) W)
     ·refine b9 ?_;exact eJ h (Wk.trans (n8 _ [910006,910007]) (WP (λl=>if l=38 then 910007 else l)))
    ·refine b9 ?_;exact eJ h (Wk.trans (n8 _ [910006,910007]) (WP (λl=>if l=38 then 910007 else l)))
  ·refine l6 ?_;refine c4<|c4<|j1 ?_;have h:=xL hx14 h;exact eJ h (Wk.trans (n8 _ [910006,910007]) W)

theorem a8t{a0 a1 a2}:PO Tryz.prog 294 [.L j8.Pv a0,.I a1,j8.Pv a2] (a09 a0 a1 a2) λr=>.L j8.Pv r:=by
 refine pO Tryz.func294 λr h _ _=>?_;unfold a09 at h;refine S4 2 J<|sR<|y0 J (B5 J O6 Q1)<|S1 1 J<|u5 h λv1 hv1 h=>y1 J (a7C (f:=j8.Pv) hv1 J J (.inl ⟨_,J,J⟩) O6 Q1 c2d a8X J (λ_=>J)) J<|S2 1 J<|S3 3 J<|u5 h λv2 hv2 h=>y0 J (a0W (f:=j8.Pv) hv2 J J J J O6 Q1 J)<|a4G (f:=j8.Pv) (v:=a2) hv2 J J (.inl J) Q1<|yN<|S4 2 J<|a8 ?_;cases h;exact f1

theorem b3t{a0 a1}:PO Tryz.prog 227 [.L j8.Pv a0,.I a1] (a6d a0 a1) λr=>.tup [.L j8.Pv r.1,.I r.2.1,.I r.2.2]:=by
 refine pO Tryz.func227 λr h _ _=>?_;refine S4 3 J<|S3 2 J<|cA h a5e J J λv1 _ h=>S2 1 J<|c5<|S4 2 J ?_;refine cN h (λhc h=>?_) λhc h=>?_
 ·refine S4 4 J ?_;refine a8 ?_;cases h;exact f3
 ·refine b9 ?_;refine dr [] p6 (by kernel_rfl) (by kernel_rfl)<|S7 2 J<|d7 J (λ_ hN=>o9 (cs:=[.I 2,.I 0,.I 0]) J b7r a8X J J J) J<|u5 h λv2 hv2 h=>d2f J (y8 J a8t J hv2) J<|S7 2 J<|u5 h λv3 hv3 h=>d0 J (x5 (f:=j8.Pv) (cs:=j8.Pc v3) hv3 J J O6 Q1 J J) J<|S8 5 J<|a8 ?_
  cases h;exact f3

theorem b5s{a0 a1}:PO Tryz.prog 146 [.L j8.Pv a0,.L iF a1] (a3f a0 a1) λr=>.tup [.L j8.Pv r.1,.L iF r.2]:=by
 refine pO Tryz.func146 λr h _ _=>?_;refine S4 2 J<|sR<|y0 J (B5 J j5 n7)<|S2 1 J ?_;refine jq h (λq=>St.of [(0,.L j8.Pv q.1),(6,.sl 910006)] [(910006,⟨List.map iF q.2,(List.map iF q.2).length,true,1,true⟩)]) (λq20 h=>?_) λκ17 h=>?_
 ·obtain⟨j18,j19⟩:=q20;refine S4 4 J<|a8 ?_;cases h;exact f2
 ·refine S4 1 J ?_;refine g5<|lq h (λq=>St.of [(0,.L j8.Pv q.1),(1,.L iF a1),(6,.sl 910006),(7,.I q.2.1)] [(910006,⟨List.map iF q.2.2,(List.map iF q.2.2).length,true,1,true⟩)]) (Wk.trans (G1 (t:=6) (l:=920006) (z:=1) J J) (WP (λl=>if l=910006 then 920006 else l))) λq26 x25 h hx14=>?_
  obtain⟨s22,s23,s24⟩:=q26;refine c5<|S3 2 J<|nL J j5<|S2 1 J ?_;refine cN h (λhc h=>?_) λhc h=>?_
  ·refine b9 ?_;refine jq h (λq=>St.of [(0,.L j8.Pv q.1),(1,.L iF a1),(6,.sl 34),(7,.I s23)] [(34,⟨List.map iF q.2,(List.map iF q.2).length,true,1,true⟩)]) (λq33 h=>?_) λκ30 h=>?_
   ·obtain⟨j31,j32⟩:=q33;refine S6 3 J ?_;exact eL h (Wk.trans (n8 _ [34]) (WP (λl=>if l=910006 then 34 else l)))
   ·refine g5 ?_;refine S3 3 J<|iL h J J j5 n7 λv34 _ h=>S1 1 J<|cF h b3t J J λv35 _ h=>S2 7 J<|S4 2 J ?_;refine cN h (λhc h=>?_) λhc h=>?_
    ·refine S4 2 J ?_;refine S5 2 J<|y0 J (M3 (f:=iF) (l:=[v35.2.1]) J j5 n7 B9 J J nl J J)<|u5 h λv36 hv21 h=>J8 J (G8 (f:=iF) hv21 J J J J J J (.inl ⟨_,J,J⟩) j5 n7 J6 B9 J (λ_=>J)) J J J<|S2 1 J ?_;exact eJ h (Wk.trans (n8 _ [34]) W)
    ·refine b9 ?_;exact eJ h (Wk.trans (n8 _ [910006]) (WP (λl=>if l=34 then 910006 else l)))
  ·refine l6 ?_;refine c4<|c4<|j1 ?_;have h:=xL hx14 h;exact eJ h (Wk.trans (n8 _ [910006]) W)

theorem a5c{a0 a1 a2}:PO Tryz.prog 354 [x8.Pv a0,.I a1,x4.Pv a2] (X0 a0 a1 a2) λr=>x8.Pv r:=by
 refine pO Tryz.func354 λr h _ _=>?_;unfold X0 at h;refine S4 3 J<|sR<|y0 J (B5 J M7 Q8)<|S1 2 J<|u5 h λv1 hv1 h=>y1 J (a7C (f:=x4.Pv) hv1 J J (.inl ⟨_,J,J⟩) M7 Q8 c2f a4Q J (λ_=>J)) J<|S2 1 J<|S3 3 J<|u5 h λv2 hv2 h=>y0 J (a0W (f:=x4.Pv) hv2 J J J J M7 Q8 J)<|a4G (f:=x4.Pv) (v:=a2) hv2 J J (.inl J) Q8<|yN<|S3 3 J<|y0 J (o9 (cs:=[.sl 11,.I a0.Last]) J c2n c2s J J J)<|S2 1 J<|a8 ?_;cases h;exact⟨J,[_],⟨oL J J J a3G a1G nl J,tr⟩,J,io⟩

theorem b9V{a0 a1}:PO Tryz.prog 295 [x8.Pv a0,.I a1] (b5q a0 a1) λr=>.tup [x8.Pv r.1,.I r.2]:=by
 refine pO Tryz.func295 λr h _ _=>?_;refine S4 3 J<|S3 2 J<|cA h b5o J J λv1 _ h=>S2 5 J<|c5<|S4 2 J ?_;refine cN h (λhc h=>?_) λhc h=>?_
 ·refine S4 4 J ?_;refine a8 ?_;cases h;exact⟨J,[_,_],⟨oL J J J a3G a1G nl J,⟨J,tr⟩⟩,J,io⟩
 ·refine b9 ?_;refine S3 2 J<|cA h V5 J J λv2 _ h=>S2 5 J<|dr [] p6 (by kernel_rfl) (by kernel_rfl)<|S7 5 J<|u5 h λv3 hv3 h=>d0 J (x5 (f:=x4.Pv) (cs:=x4.Pc v3) hv3 J J M7 Q8 J J) J<|S7 5 J<|d0 J (x5 (f:=x4.Pv) (cs:=x4.Pc v3) hv3 J J M7 Q8 J J) J<|S7 2 J<|d7 J (λ_ hN=>o9 (cs:=[.I 2,.I v3.Gen,.I v3.Val]) J b0Z a4Q J J J) J<|u5 h λv4 hv4 h=>d2f J (y8 J a5c J hv4) J<|C9 (x':=x8.Pv v4) (cl':=true) J J (.inr J) a1G<|S8 1 J<|a8 ?_
  cases h;exact⟨J,[_,_],⟨oL J J J a3G a1G nl J,⟨J,tr⟩⟩,J,io⟩

theorem a5E{a0 a1}:PO Tryz.prog 296 [k7.Pv a0,x8.Pv a1] (a0r a0 a1) λr=>k7.Pv r:=by
 refine pO Tryz.func296 λr h _ _=>?_;refine S4 3 J<|sR<|y0 J (B5 J E5 E9)<|S2 1 J ?_;refine jq h (λj10=>St.of [(2,.ptr 2 0 0),(4,.ptr 4 0 0),(5,.sl 910005)] [(910005,⟨List.map l7.Pv j10,(List.map l7.Pv j10).length,true,8,true⟩),(4,vR (.agg [.nl,.I 0,.I 0]) 3),(2,vR (k7.Pv a0) 3)]) (λj10 h=>?_) λκ9 h=>?_
 ·refine S3 5 J ?_;refine y0 J (o9 (cs:=[.sl 910005,.I a0.Last,.I a0.Serial]) J c0M c0P J J J)<|S2 1 J<|a8 ?_;cases h;exact⟨J,[_],⟨oL J J J a0b Y4 nl J,tr⟩,J,io⟩
 ·refine S4 1 J ?_;refine g5<|lq h (λq=>St.of [(2,.ptr 2 0 0),(3,.ptr 3 0 0),(4,.ptr 4 0 0),(5,.sl 910005),(6,.I q.1)] [(4,vR (.agg [.nl,.I 0,.I 0]) 3),(3,vR (x8.Pv a1) 2),(2,vR (k7.Pv a0) 3),(910005,⟨List.map l7.Pv q.2,(List.map l7.Pv q.2).length,true,8,true⟩)]) (Wk.trans (G1 (t:=5) (l:=920005) (z:=8) J J) (WP (λl=>if l=910005 then 920005 else l))) λq15 x14 h hx10=>?_
  obtain⟨s12,s13⟩:=q15;refine c5<|S3 3 J<|nL J E5<|S2 1 J ?_;refine cN h (λhc h=>?_) λhc h=>?_
  ·refine b9 ?_;refine c5<|g5<|a2w [] p6 (by kernel_rfl) (by kernel_rfl)<|S7 4 J<|u5 h λv16 hv11 h=>d0 J (x5 (f:=x4.Pv) (cs:=x4.Pc v16) hv11 J J M7 Q8 J J) J<|S7 5 J<|d0 J (x5 (f:=x4.Pv) (cs:=x4.Pc v16) hv11 J J M7 Q8 J J) J<|S7 5 J<|u5 h λv17 hv12 h=>d0 J (x5 (f:=l7.Pv) (cs:=l7.Pc v17) hv12 J J E5 E9 J J) J<|S7 2 J<|d7 J (λ_ hN=>o9 (cs:=[.I v16.State,.I v16.Gen,.I v17.Val.Serial,.I v17.Val.Strong,.I v17.Val.Weak,.I v17.Val.Prog,.bool v17.Val.Started,.L iF v17.Val.Fields]) J c2m a6F J J J) J<|d1n J (M3 (f:=l7.Pv) (l:=[(⟨v16.State,v16.Gen,v17.Val⟩:l7)]) J E5 E9 a6F J J nl J J) J<|u5 h λv18 hv13 h=>d3a J (G8 (f:=l7.Pv) hv13 J J J J J J (.inl ⟨_,J,J⟩) E5 E9 b7n a6F J (λ_=>J)) J J J J J<|S8 1 J<|S6 3 J ?_
   exact eL h (Wk.trans (n8 _ [36]) (WP (λl=>if l=910005 then 36 else l)))
  ·refine l6 ?_;refine c4<|c4<|j1 ?_;have h:=xL hx10 h;exact eJ h (Wk.trans (n8 _ [910005]) W)

theorem b9Y{a0 a1}:PO Tryz.prog 228 [k7.Pv a0,.I a1] (b1P a0 a1) λr=>k7.Pv r:=by
 refine pO Tryz.func228 λr h _ _=>?_;refine S4 2 J<|S3 1 J<|cF h L7 J J λv1 _ h=>S1 1 J<|cF h b9V J J λv2 _ h=>S2 6 J<|S3 2 J<|cF h a5E J J λv3 _ h=>S2 1 J<|a8 ?_;cases h;exact⟨J,[_],⟨oL J J J a0b Y4 nl J,tr⟩,J,io⟩

theorem b9U{a0 a1}:PO Tryz.prog 297 [x8.Pv a0,.I a1] (b5p a0 a1) λr=>.tup [x8.Pv r.1,.I r.2]:=by
 refine pO Tryz.func297 λr h _ _=>?_;refine S4 3 J<|S3 2 J<|cA h V5 J J λv1 _ h=>S2 5 J<|c5<|S4 2 J ?_;refine cN h (λhc h=>?_) λhc h=>?_
 ·refine S4 4 J ?_;refine a8 ?_;cases h;exact⟨J,[_,_],⟨oL J J J a3G a1G nl J,⟨J,tr⟩⟩,J,io⟩
 ·refine b9 ?_;refine S3 3 J<|iL h J J M7 Q8 λv2 _ h=>S2 3 J<|c5<|S4 4 J ?_;refine cN h (λhc h=>?_) λhc h=>?_
  ·refine S3 3 J ?_;refine y0 J (o9 (cs:=[.I 3,.I v2.Gen,.I 0]) J b0Z a4Q J J J)<|cF h a5c J J λv3 _ h=>S2 2 J<|a8 ?_;cases h;exact⟨J,[_,_],⟨oL J J J a3G a1G nl J,⟨J,tr⟩⟩,J,io⟩
  ·refine b9 ?_;refine S3 4 J<|y0 J (o9 (cs:=[.I 0,.I (x6 (v2.Gen+1)),.I 0]) J b0Z a4Q J J J)<|cF h a5c J J λv4 _ h=>S2 2 J<|a8 ?_;cases h;exact⟨J,[_,_],⟨oL J J J a3G a1G nl J,⟨J,tr⟩⟩,J,io⟩

theorem b3s{a0 a1}:PO Tryz.prog 229 [k7.Pv a0,.I a1] (a8q a0 a1) λr=>k7.Pv r:=by
 refine pO Tryz.func229 λr h _ _=>?_;refine S4 2 J<|S3 1 J<|cF h L7 J J λv1 _ h=>S1 1 J<|cF h b9U J J λv2 _ h=>S2 6 J<|c5<|S4 2 J ?_;refine cN h (λhc h=>?_) λhc h=>?_
 ·refine S4 2 J ?_;refine a8 ?_;cases h;exact⟨J,[_],⟨oL J J J a0b Y4 nl J,tr⟩,J,io⟩
 ·refine b9 ?_;refine S3 2 J<|cF h a5E J J λv3 _ h=>S1 1 J<|cA h a8p J J λv4 _ h=>y0 J (o9 (cs:=[.I 0,.I 0,.I 0,.I 0,.bool false,.nl]) J b7s b7v J J J)<|cF h a8r J J λv5 _ h=>S2 1 J<|a8 ?_;cases h;exact⟨J,[_],⟨oL J J J a0b Y4 nl J,tr⟩,J,io⟩

theorem c0d{a0 a1}:PO Tryz.prog 147 [c7.Pv a0,.I a1] (a6h a0 a1) λr=>c7.Pv r:=by
 refine pO Tryz.func147 λr h _ _=>?_;refine S4 2 J<|S3 3 J<|cF h E7 J J λv1 _ h=>S2 6 J<|S3 1 J<|a8S (x':=.agg [.I v1.1.Serial,.I v1.1.Strong,.I v1.1.Weak,.I v1.1.Prog,.bool v1.1.Started,.nl]) (cl':=true) J J (.inl J) c4Q<|yN<|S3 1 J<|a8S (x':=.agg [.I v1.1.Serial,.I 0,.I v1.1.Weak,.I v1.1.Prog,.bool v1.1.Started,.nl]) (cl':=true) J J (.inl J) n7<|yN<|S3 4 J<|cF h a2z J J λv2 _ h=>S2 5 J<|S3 3 J<|cF h b9Y J J λv3 _ h=>S2 2 J<|c5<|S4 3 J ?_;refine cN h (λhc h=>?_) λhc h=>?_
 ·refine S5 3 J ?_;refine cF h b3s J J λv4 _ h=>S2 2 J<|S4 2 J<|a8 ?_;cases h;exact⟨J,[_],⟨oL J J J y7 u6 nl J,tr⟩,J,io⟩
 ·refine b9 ?_;refine S4 2 J<|a8 ?_;cases h;exact⟨J,[_],⟨oL J J J y7 u6 nl J,tr⟩,J,io⟩

theorem c0b{a0 a1}:PO Tryz.prog 68 [c7.Pv a0,.L iF a1] (a8x a0 a1) λr=>c7.Pv r:=by
 refine pO Tryz.func68 λr h _ _=>?_;refine S4 2 J<|S3 2 J<|cF h c0c J J λv1 _ h=>S2 1 J<|S3 3 J<|cF h b8e J J λv2 _ h=>S2 5 J<|S4 3 J ?_;refine jq h (λj12=>St.of [(2,.ptr 2 0 0),(4,.ptr 4 0 0),(5,.L iF v1)] [(4,vR (.agg [.nl,.I 0,.I 0,.nl,.nl,.nl,.nl,.I 0]) 8),(2,vR (.agg [.L l7.Pv a0.S.Cells,.I a0.S.Last,.I a0.S.Serial,.L iF a0.Roots,.L l5.Pv v2.1,.L j8.Pv a0.T,.L n0.Pv j12.L,.I j12.Cap]) 8)]) (λj12 h=>?_) λκ11 h=>?_
 ·refine sR ?_;refine y0 J (B5 J j5 n7)<|S2 1 J ?_;refine jq h (λj23=>St.of [(2,.ptr 2 0 0),(4,.ptr 4 0 0),(5,.L iF v1),(9,.sl 910009)] [(910009,⟨List.map iF j23,(List.map iF j23).length,true,1,true⟩),(4,vR (.agg [.nl,.I 0,.I 0,.nl,.nl,.nl,.nl,.I 0]) 8),(2,vR (.agg [.L l7.Pv a0.S.Cells,.I a0.S.Last,.I a0.S.Serial,.L iF a0.Roots,.L l5.Pv v2.1,.L j8.Pv a0.T,.L n0.Pv j12.L,.I j12.Cap]) 8)]) (λj23 h=>?_) λκ22 h=>?_
  ·refine S3 3 J ?_;refine cF h b5s J J λv24 _ h=>S2 5 J<|S4 3 J<|S3 2 J<|u5 h λv25 hv19 h=>J8 J (G8 (f:=iF) hv19 J J J J J J (.inl ⟨_,J,J⟩) j5 n7 J6 B9 J (λ_=>J)) J J J<|S2 1 J ?_;refine jq h (λj34=>St.of [(2,.ptr 2 0 0),(4,.ptr 4 0 0),(9,.sl 88)] [(88,⟨List.map iF v25,j23.length,true,1,true⟩),(4,vR (.agg [.nl,.I 0,.I 0,.nl,.nl,.nl,.nl,.I 0]) 8),(2,vR (c7.Pv j34) 8)]) (λj34 h=>?_) λκ33 h=>?_
   ·refine jq h (λj43=>St.of [(2,.ptr 2 0 0),(4,.ptr 4 0 0)] [(4,vR (.agg [.nl,.I 0,.I 0,.nl,.nl,.nl,.nl,.I 0]) 8),(2,vR (c7.Pv j43) 8)]) (λj43 h=>?_) λκ42 h=>?_
    ·refine S4 2 J ?_;refine a8 ?_;cases h;exact⟨J,[_],⟨oL J J J y7 u6 nl J,tr⟩,J,io⟩
    ·refine S4 1 J ?_;refine g5<|lq h (λq=>St.of [(2,.ptr 2 0 0),(4,.ptr 4 0 0),(9,.sl 88),(16,.I q.1)] [(88,⟨List.map iF v25,j23.length,true,1,true⟩),(4,vR (.agg [.nl,.I 0,.I 0,.nl,.nl,.nl,.nl,.I 0]) 8),(2,vR (c7.Pv q.2) 8)]) W λq48 x47 h hx34=>?_;obtain⟨s45,s46⟩:=q48;refine c5<|S3 2 J<|y0 J (b9N (f:=iF) J J J j5)<|S2 1 J ?_;refine cN h (λhc h=>?_) λhc h=>?_
     ·refine b9 ?_;refine c5<|g5<|a2w [] p6 (by kernel_rfl) (by kernel_rfl)<|S7 3 J<|u5 h λv49 hv35 h=>d0 J (a0W (f:=iF) hv35 J J J J j5 n7 J) J<|d0 J (b5d (f:=iF) hv35 J J J p8 J) J<|u5 h λv50 hv36 h=>d2f J (y8 J a0s J hv36) J<|C9 (x':=c7.Pv v50) (cl':=true) J J (.inr J) u6<|N2<|S6 3 J ?_
      exact eL h W
     ·refine l6 ?_;refine c4<|c4<|j1 ?_;have h:=xL hx34 h;exact eJ h W
   ·refine S4 1 J ?_;refine g5<|lq h (λq=>St.of [(2,.ptr 2 0 0),(4,.ptr 4 0 0),(5,.L iF v1),(9,.sl 88),(15,.I q.1)] [(88,⟨List.map iF v25,j23.length,true,1,true⟩),(4,vR (.agg [.nl,.I 0,.I 0,.nl,.nl,.nl,.nl,.I 0]) 8),(2,vR (c7.Pv q.2) 8)]) W λq55 x54 h hx39=>?_;obtain⟨s52,s53⟩:=q55;refine c5<|S3 2 J<|nL J j5<|S2 1 J ?_;refine cN h (λhc h=>?_) λhc h=>?_
    ·refine b9 ?_;refine c5<|g5<|a2w [] p6 (by kernel_rfl) (by kernel_rfl)<|S7 3 J<|u5 h λv56 hv40 h=>d0 J (x5 (f:=iF) (cs:=[.I v56]) hv40 J J j5 n7 J J) J<|S7 1 J<|u5 h λv57 hv41 h=>d2f J (y8 J c0d J hv41) J<|C9 (x':=c7.Pv v57) (cl':=true) J J (.inr J) u6<|N2<|S6 3 J ?_
     exact eL h W
    ·refine l6 ?_;refine c4<|c4<|j1 ?_;have h:=xL hx39 h;exact eJ h W
  ·refine S4 1 J ?_;refine g5<|lq h (λq=>St.of [(2,.ptr 2 0 0),(4,.ptr 4 0 0),(5,.L iF v1),(9,.sl 910009),(10,.I q.1)] [(4,vR (.agg [.nl,.I 0,.I 0,.nl,.nl,.nl,.nl,.I 0]) 8),(2,vR (.agg [.L l7.Pv a0.S.Cells,.I a0.S.Last,.I a0.S.Serial,.L iF a0.Roots,.L l5.Pv v2.1,.L j8.Pv a0.T,.L n0.Pv j12.L,.I j12.Cap]) 8),(910009,⟨List.map iF q.2,(List.map iF q.2).length,true,1,true⟩)]) (Wk.trans (G1 (t:=9) (l:=920009) (z:=1) J J) (WP (λl=>if l=910009 then 920009 else l))) λq62 x61 h hx44=>?_
   obtain⟨s59,s60⟩:=q62;refine c5<|S3 2 J<|nL J j5<|S2 1 J ?_;refine cN h (λhc h=>?_) λhc h=>?_
   ·refine b9 ?_;refine c5<|g5<|dr [] p6 (by kernel_rfl) (by kernel_rfl)<|S7 4 J<|u5 h λv63 hv45 h=>d0 J (x5 (f:=iF) (cs:=[.I v63]) hv45 J J j5 n7 J J) J<|S7 1 J<|u5 h λv64 hv46 h=>d2f J (y8 J E7 J hv46) J<|S7 4 J<|C9 (x':=B0.Pv v64.1) (cl':=true) J J (.inr J) a5u<|S8 1 J<|S5 3 J<|cF h b1M J J λv65 _ h=>u5 h λv66 hv48 h=>J8 J (G8 (f:=iF) hv48 J J J J J J (.inl ⟨_,J,J⟩) j5 n7 J6 B9 J (λ_=>J)) J J J<|S2 1 J<|S6 3 J ?_
    exact eL h (Wk.trans (n8 _ [76]) (WP (λl=>if l=910009 then 76 else l)))
   ·refine l6 ?_;refine c4<|c4<|j1 ?_;have h:=xL hx44 h;exact eJ h (Wk.trans (n8 _ [910009]) W)
 ·refine S4 1 J ?_;refine g5<|lq h (λq=>St.of [(2,.ptr 2 0 0),(4,.ptr 4 0 0),(5,.L iF v1),(6,.L l5.Pv v2.1),(7,.L iF v2.2),(8,.I q.1)] [(4,vR (.agg [.nl,.I 0,.I 0,.nl,.nl,.nl,.nl,.I 0]) 8),(2,vR (.agg [.L l7.Pv a0.S.Cells,.I a0.S.Last,.I a0.S.Serial,.L iF a0.Roots,.L l5.Pv v2.1,.L j8.Pv a0.T,.L n0.Pv q.2.L,.I q.2.Cap]) 8)]) W λq71 x70 h hx51=>?_;obtain⟨s68,s69⟩:=q71;refine c5<|S3 2 J<|nL J j5<|S2 1 J ?_;refine cN h (λhc h=>?_) λhc h=>?_
  ·refine b9 ?_;refine c5<|g5<|a2w [] p6 (by kernel_rfl) (by kernel_rfl)<|S7 4 J<|u5 h λv72 hv52 h=>d0 J (x5 (f:=iF) (cs:=[.I v72]) hv52 J J j5 n7 J J) J<|S7 4 J<|d0 J (x5 (f:=iF) (cs:=[.I v72]) hv52 J J j5 n7 J J) J<|S7 1 J<|u5 h λv73 hv53 h=>d0 J (x5 (f:=l5.Pv) (cs:=l5.Pc v73) hv53 J J J9 M9 J J) J<|S7 2 J<|d7 J (λ_ hN=>o9 (cs:=[.I 2,.I v72,.I v73.Call]) J b7t a6G J J J) J<|u5 h λv74 hv54 h=>d2f J (y8 J b5t J hv54) J<|S7 4 J<|C9 (x':=.agg [.L l7.Pv a0.S.Cells,.I a0.S.Last,.I a0.S.Serial,.L iF a0.Roots,.L l5.Pv v2.1,.L j8.Pv a0.T,.L n0.Pv v74.1.L,.I v74.1.Cap]) (cl':=true) J J (.inr J) a3p<|N2<|S6 3 J ?_
   exact eL h W
  ·refine l6 ?_;refine c4<|c4<|j1 ?_;have h:=xL hx51 h;exact eJ h W

theorem a1a{a0}:PO Tryz.prog 67 [c7.Pv a0] (P9 a0) λr=>c7.Pv r:=by
 refine pO Tryz.func67 λr h _ _=>?_;refine S4 2 J ?_;refine jq h (λj21=>St.of [(1,.ptr 1 0 0),(2,.ptr 2 0 0)] [(2,vR (.agg [.nl,.I 0,.I 0,.nl,.nl,.nl,.nl,.I 0]) 8),(1,vR (c7.Pv j21) 8)]) (λj21 h=>?_) λκ20 h=>?_
 ·refine S4 2 J ?_;refine a8 ?_;cases h;exact⟨J,[_],⟨oL J J J y7 u6 nl J,tr⟩,J,io⟩
 ·refine S4 1 J ?_;refine g5<|lq h (λq=>St.of [(1,.ptr 1 0 0),(2,.ptr 2 0 0),(3,.I q.1)] [(2,vR (.agg [.nl,.I 0,.I 0,.nl,.nl,.nl,.nl,.I 0]) 8),(1,vR (c7.Pv q.2) 8)]) W λq26 x25 h hx20=>?_;obtain⟨s23,s24⟩:=q26;refine c5<|S4 2 J ?_;refine cN h (λhc h=>?_) λhc h=>?_
  ·refine b9 ?_;refine jq h (λj34=>St.of [(1,.ptr 1 0 0),(2,.ptr 2 0 0),(3,.I s23)] [(2,vR (.agg [.nl,.I 0,.I 0,.nl,.nl,.nl,.nl,.I 0]) 8),(1,vR (c7.Pv j34) 8)]) (λj34 h=>?_) λκ33 h=>?_
   ·refine S6 3 J ?_;exact eL h W
   ·refine g5 ?_;refine S3 1 J<|cF h b3x J J λv35 _ h=>S2 1 J<|c5<|S3 1 J<|nL J j5<|S2 1 J ?_;refine cN h (λhc h=>?_) λhc h=>?_
    ·refine S4 2 J ?_;refine a8 ?_;have h:=xL hx20 h;cases h;exact⟨J,[_],⟨oL J J J y7 u6 nl J,tr⟩,J,io⟩
    ·refine b9 ?_;refine dr [] p6 (by kernel_rfl) (by kernel_rfl)<|S7 2 J<|u5 h λv36 hv29 h=>d0 J (x5 (f:=iF) (cs:=[.I v36]) hv29 J J j5 n7 J J) J<|S7 1 J<|u5 h λv37 hv30 h=>d2 J (A0 J b5u J hv30) J<|N2 ?_
     refine cN h (λhc h=>?_) λhc h=>?_
     ·refine a2w [] p6 (by kernel_rfl) (by kernel_rfl) ?_
      refine S7 2 J<|d0 J (x5 (f:=iF) (cs:=[.I v36]) hv29 J J j5 n7 J J) J<|S7 1 J<|u5 h λv38 hv31 h=>d2f J (y8 J b6r J hv31) J<|C9 (x':=c7.Pv v38) (cl':=true) J J (.inr J) u6<|N2 ?_;exact eJ h W
     ·refine a2w [] p6 (by kernel_rfl) (by kernel_rfl) ?_
      refine S7 2 J<|u5 h λv39 hv32 h=>d0 J (c1p (f:=iF) hv32 J J ⟨_,J⟩ j5 n7 (λ_=>J)) J<|u5 h λv40 hv33 h=>d2f J (y8 J c0b J hv33) J<|C9 (x':=c7.Pv v40) (cl':=true) J J (.inr J) u6<|N2 ?_;exact eJ h W
  ·refine l6 ?_;refine c4<|c4<|j1 ?_;have h:=xL hx20 h;exact eJ h W

theorem a8z{a0 a1}:PO Tryz.prog 55 [.L (Ls p9.Pv) a0,.I a1] (a4t a0 a1) λr=>.L p9.Pv r:=by
 refine pO Tryz.func55 λr h _ _=>?_;refine S4 1 J<|c5<|S3 3 J<|c8 J (λhg=>mI J)<|c8 J (λhg=>om (d:=.L (Ls p9.Pv) a0) J)<|c8 J (λhg=>H9 (f:=(Ls p9.Pv)) (ct hg) a35)<|c8 J (λhg=>m8 (ct hg) (ct hg) J)<|y0 J (r8 J J J (λq=>K5 q))<|yN ?_;refine cN h (λhc h=>?_) λhc h=>?_
 ·refine S4 1 J ?_;refine a8 ?_;cases h;exact f1
 ·refine b9 ?_;refine S3 2 J<|iL h J J a35 a72 λv1 _ h=>S2 2 J<|a8 ?_;cases h;exact f1

theorem c1H{a0 a1 a2 a3}:PO Tryz.prog 377 [.L l5.Pv a0,.I a1,.I a2,.I a3] (b4h a0 a1 a2 a3) λr=>.tup [.L l5.Pv r.1,.I r.2.1,.I r.2.2]:=by
 refine pO Tryz.func377 λr h _ _=>?_;refine S4 3 J<|c5<|S3 3 J<|c8 J (λhg=>mI J)<|c8 J (λhg=>om (d:=.L l5.Pv a0) J)<|c8 J (λhg=>H9 (f:=l5.Pv) (ct hg) J9)<|c8 J (λhg=>m8 (ct hg) (ct hg) J)<|y0 J (r8 J J J (λq=>K5 q))<|yN ?_;refine cN h (λhc h=>?_) λhc h=>?_
 ·refine S4 4 J ?_;refine a8 ?_;cases h;exact f3
 ·refine b9 ?_;refine sR<|y0 J (B5 J J9 M9)<|S1 1 J<|u5 h λv1 hv1 h=>y1 J (a7C (f:=l5.Pv) hv1 J J (.inl ⟨_,J,J⟩) J9 M9 b7o a8Z J (λ_=>J)) J<|S2 1 J<|S3 6 J<|y0 J (o9 (cs:=[.I a2,.bool (a2 != 0),.I a3]) J c7z a8Z J J J)<|u5 h λv2 hv2 h=>y0 J (a0W (f:=l5.Pv) hv2 J J J J J9 M9 J)<|a4G (f:=l5.Pv) (v:=(⟨a2,(a2 != 0),a3⟩:l5)) hv2 J J (.inl J) M9<|yN<|dr [] p6 (by kernel_rfl) (by kernel_rfl)<|S7 3 J<|u5 h λv3 hv3 h=>d0 J (x5 (f:=l5.Pv) (cs:=l5.Pc v3) hv3 J J J9 M9 J J) J<|S8 5 J<|a8 ?_
  cases h;exact f3

theorem a8w{a0 a1}:PO Tryz.prog 378 [c7.Pv a0,.I a1] (a0u a0 a1) λr=>c7.Pv r:=by
 refine pO Tryz.func378 λr h _ _=>?_;refine S4 2 J<|S3 2 J<|cF h L7 J J λv1 _ h=>S1 1 J<|cA h V5 J J λv2 _ h=>S2 5 J<|c5<|S4 2 J ?_;refine cN h (λhc h=>?_) λhc h=>?_
 ·refine S4 2 J ?_;refine a8 ?_;cases h;exact⟨J,[_],⟨oL J J J y7 u6 nl J,tr⟩,J,io⟩
 ·refine b9 ?_;refine S3 4 J<|iL h J J E5 E9 λv3 _ h=>S2 4 J<|S4 5 J<|S3 4 J<|cF h a2z J J λv4 _ h=>S2 5 J<|c5<|S3 4 J<|iL h J J E5 E9 λv5 _ h=>S1 4 J<|c8 J (λhg=>oF J a5M J)<|c8 J (λhg=>oS (ct hg) J J p8 J)<|c8 J (λhg=>m8 (ct hg) J J)<|y0 J (n9 J J J (λq=>K3 q))<|yN ?_;refine cN h (λhc h=>?_) λhc h=>?_
  ·refine S5 3 J ?_;refine cF h b3s J J λv6 _ h=>S2 2 J<|S4 2 J<|a8 ?_;cases h;exact⟨J,[_],⟨oL J J J y7 u6 nl J,tr⟩,J,io⟩
  ·refine b9 ?_;refine S4 2 J<|a8 ?_;cases h;exact⟨J,[_],⟨oL J J J y7 u6 nl J,tr⟩,J,io⟩

theorem b3w{a0 a1 a2 a3}:PO Tryz.prog 328 [c7.Pv a0,.I a1,.I a2,.I a3] (a14 a0 a1 a2 a3) λr=>.tup [c7.Pv r.1,.I r.2]:=by
 refine pO Tryz.func328 λr h _ _=>?_;unfold a14 at h;refine S4 3 J<|c5<|S3 3 J<|c8 J (λhg=>mI J)<|c8 J (λhg=>m8 (ct hg) J J)<|y0 J (r8 J J J (λq=>K5 q))<|S1 1 J<|c8 J (λhg=>oF J a5L J)<|c8 J (λhg=>oL (ct hg) J J a6A a3p nl J)<|c8 J (λhg=>mI J)<|u5 h λv1 hv1 h=>c8 J (λhg=>A0 J b12 (w7 (ct hg) (w7 (ct hg) J)) (B6 hv1 hg))<|y0 J (r8 J J J (λq=>K5 q))<|yN ?_;refine cN h (λhc h=>?_) λhc h=>?_
 ·refine S4 3 J ?_;refine a8 ?_;cases h;exact⟨J,[_,_],⟨oL J J J y7 u6 nl J,⟨J,tr⟩⟩,J,io⟩
 ·refine b9 ?_;refine c5<|S3 2 J<|cA h a0O J J λv2 _ h=>S2 1 J ?_;refine cN h (λhc h=>?_) λhc h=>?_
  ·refine S4 3 J ?_;refine a8 ?_;cases h;exact⟨J,[_,_],⟨oL J J J y7 u6 nl J,⟨J,tr⟩⟩,J,io⟩
  ·refine b9 ?_;refine S3 5 J<|cF h c1H J J λv3 _ h=>S2 7 J<|S4 3 J<|c5<|S4 2 J ?_;refine cN h (λhc h=>?_) λhc h=>?_
   ·refine S3 3 J ?_;refine cF h E7 J J λv4 _ h=>S2 6 J<|S4 5 J<|S5 4 J<|cF h a2z J J λv5 _ h=>S2 5 J<|S3 2 J<|cF h a8w J J λv6 _ h=>S2 2 J<|a8 ?_;cases h;exact⟨J,[_,_],⟨oL J J J y7 u6 nl J,⟨J,tr⟩⟩,J,io⟩
   ·refine b9 ?_;refine S3 2 J<|cF h a8w J J λv7 _ h=>S2 2 J<|a8 ?_;cases h;exact⟨J,[_,_],⟨oL J J J y7 u6 nl J,⟨J,tr⟩⟩,J,io⟩

theorem a68{a0 a1}:PO Tryz.prog 329 [c7.Pv a0,.I a1] (U6 a0 a1) λr=>.tup [.I r.1,.I r.2]:=by
 refine pO Tryz.func329 λr h _ _=>?_;refine S4 3 J<|c5<|S3 3 J<|iL h J J j5 n7 λv1 hv1 h=>S2 2 J ?_;refine cN h (λhc h=>?_) λhc h=>?_
 ·refine S4 2 J ?_;refine a8 ?_;cases h;exact f2
 ·refine b9 ?_;refine S3 3 J<|y0 J (x5 (f:=iF) (cs:=[.I v1]) hv1 J J j5 n7 J J)<|S2 3 J<|a8 ?_;cases h;exact f2

theorem a5j{a0 a1}:PO Tryz.prog 331 [c7.Pv a0,.I a1] (a4r a0 a1) λr=>.I r:=by
 refine pO Tryz.func331 λr h _ _=>?_;refine S4 2 J<|c5<|S4 2 J ?_;refine cN h (λhc h=>?_) λhc h=>?_
 ·refine S4 1 J ?_;refine a8 ?_;cases h;exact f1
 ·refine b9 ?_;refine S3 3 J<|iL h J J j5 n7 λv1 _ h=>S2 2 J<|a8 ?_;cases h;exact f1

theorem c4e{a0 a1}:PO Tryz.prog 381 [.L iF a0,.I a1] (b21 a0 a1) λr=>.tup [.I r.1,.I r.2]:=by
 refine pO Tryz.func381 λr h _ _=>?_;refine S4 2 J<|c5<|S3 3 J<|c8 J (λhg=>mI J)<|c8 J (λhg=>om (d:=.L iF a0) J)<|c8 J (λhg=>H9 (f:=iF) (ct hg) j5)<|c8 J (λhg=>m8 (ct hg) (ct hg) J)<|y0 J (r8 J J J (λq=>K5 q))<|yN ?_;refine cN h (λhc h=>?_) λhc h=>?_
 ·refine S4 2 J ?_;refine a8 ?_;cases h;exact f2
 ·refine b9 ?_;refine S3 2 J<|iL h J J j5 n7 λv1 _ h=>S2 3 J<|a8 ?_;cases h;exact f2

theorem b1O{a0 a1 a2}:PO Tryz.prog 335 [k7.Pv a0,.I a1,.I a2] (a2y a0 a1 a2) λr=>.tup [.I r.1,.I r.2]:=by
 refine pO Tryz.func335 λr h _ _=>?_;refine S4 3 J<|S3 2 J<|cF h E7 J J λv1 _ h=>S2 6 J<|c5<|S4 2 J ?_;refine cN h (λhc h=>?_) λhc h=>?_
 ·refine S4 3 J ?_;refine a8 ?_;cases h;exact f2
 ·refine b9 ?_;refine S3 3 J<|cA h c4e J J λv2 _ h=>S2 4 J<|a8 ?_;cases h;exact f2

theorem b9X{a0 a1 a2}:PO Tryz.prog 394 [.L iF a0,.I a1,.I a2] (b5r a0 a1 a2) λr=>.tup [.L iF r.1,.I r.2]:=by
 refine pO Tryz.func394 λr h _ _=>?_;refine S4 2 J<|c5<|S3 3 J<|c8 J (λhg=>mI J)<|c8 J (λhg=>om (d:=.L iF a0) J)<|c8 J (λhg=>H9 (f:=iF) (ct hg) j5)<|c8 J (λhg=>m8 (ct hg) (ct hg) J)<|y0 J (r8 J J J (λq=>K5 q))<|yN ?_;refine cN h (λhc h=>?_) λhc h=>?_
 ·refine S4 3 J ?_;refine a8 ?_;cases h;exact f2
 ·refine b9 ?_;refine sR<|y0 J (B5 J j5 n7)<|S1 1 J<|u5 h λv1 hv1 h=>y1 J (a7C (f:=iF) hv1 J J (.inl ⟨_,J,J⟩) j5 n7 J6 B9 J (λ_=>J)) J<|S2 1 J<|S3 3 J<|u5 h λv2 hv2 h=>y0 J (a0W (f:=iF) hv2 J J J J j5 n7 J)<|a4G (f:=iF) (v:=a2) hv2 J J (.inl J) n7<|yN<|S4 3 J<|a8 ?_;cases h;exact f2

theorem c1E{a0 a1 a2 a3}:PO Tryz.prog 379 [k7.Pv a0,.I a1,.I a2,.I a3] (b4e a0 a1 a2 a3) λr=>.tup [k7.Pv r.1,.I r.2]:=by
 refine pO Tryz.func379 λr h _ _=>?_;refine S4 3 J<|S3 2 J<|cF h E7 J J λv1 _ h=>S2 6 J<|c5<|S4 2 J ?_;refine cN h (λhc h=>?_) λhc h=>?_
 ·refine S4 4 J ?_;refine a8 ?_;cases h;exact⟨J,[_,_],⟨oL J J J a0b Y4 nl J,⟨J,tr⟩⟩,J,io⟩
 ·refine b9 ?_;refine S3 4 J<|cF h b9X J J λv2 _ h=>S2 5 J<|c5<|S4 2 J ?_;refine cN h (λhc h=>?_) λhc h=>?_
  ·refine S4 4 J ?_;refine a8 ?_;cases h;exact⟨J,[_,_],⟨oL J J J a0b Y4 nl J,⟨J,tr⟩⟩,J,io⟩
  ·refine b9 ?_;refine S4 3 J<|S3 3 J<|cF h a2z J J λv3 _ h=>S2 4 J<|a8 ?_;cases h;exact⟨J,[_,_],⟨oL J J J a0b Y4 nl J,⟨J,tr⟩⟩,J,io⟩

theorem b8j{a0 a1 a2 a3}:PO Tryz.prog 330 [c7.Pv a0,.I a1,.I a2,.I a3] (a3Y a0 a1 a2 a3) λr=>.tup [c7.Pv r.1,.I r.2]:=by
 refine pO Tryz.func330 λr h _ _=>?_;refine S4 3 J<|S3 4 J<|cA h b1O J J λv1 _ h=>S2 5 J<|c5<|S4 2 J ?_;refine cN h (λhc h=>?_) λhc h=>?_
 ·refine S4 4 J ?_;refine a8 ?_;cases h;exact⟨J,[_,_],⟨oL J J J y7 u6 nl J,⟨J,tr⟩⟩,J,io⟩
 ·refine b9 ?_;refine c5<|S3 2 J<|cA h a0O J J λv2 _ h=>S2 1 J ?_;refine cN h (λhc h=>?_) λhc h=>?_
  ·refine S4 3 J ?_;refine a8 ?_;cases h;exact⟨J,[_,_],⟨oL J J J y7 u6 nl J,⟨J,tr⟩⟩,J,io⟩
  ·refine b9 ?_;refine S3 2 J<|cF h a2W J J λv3 _ h=>S2 2 J<|S3 5 J<|cF h c1E J J λv4 _ h=>S2 5 J<|S3 2 J<|cF h a0s J J λv5 _ h=>S2 2 J<|a8 ?_;cases h;exact⟨J,[_,_],⟨oL J J J y7 u6 nl J,⟨J,tr⟩⟩,J,io⟩

theorem c1I{a0 a1 a2}:PO Tryz.prog 395 [.L j8.Pv a0,.I a1,.I a2] (b4i a0 a1 a2) λr=>.tup [.L j8.Pv r.1,.I r.2]:=by
 refine pO Tryz.func395 λr h _ _=>?_;refine S4 2 J<|S3 2 J<|cA h a5e J J λv1 _ h=>S2 1 J<|c5<|S4 2 J ?_;refine cN h (λhc h=>?_) λhc h=>?_
 ·refine S3 4 J ?_;refine y0 J (o9 (cs:=[.I 1,.I a1,.I a2]) J b7r a8X J J J)<|cF h a8t J J λv2 _ h=>S2 2 J<|a8 ?_;cases h;exact f2
 ·refine b9 ?_;refine S3 1 J<|nL J O6<|S2 1 J<|S3 2 J<|cA h b3u J J λv3 _ h=>S2 1 J ?_;refine jq h (λ_=>St.of [(0,.L j8.Pv a0)] []) (λq13 h=>?_) λκ12 h=>?_
  ·refine S4 3 J ?_;refine a8 ?_;cases h;exact f2
  ·refine S4 1 J ?_;refine g5<|lq h (λq=>St.of [(0,.L j8.Pv a0),(1,.I a1),(2,.I a2),(9,.I (a0.length:Int)),(10,.I q.1),(11,.I q.2)] []) W λq18 x17 h hx13=>?_;obtain⟨s15,s16⟩:=q18;refine c5<|S4 3 J ?_;refine cN h (λhc h=>?_) λhc h=>?_
   ·refine b9 ?_;refine c5<|g5<|c5<|S3 2 J<|iL h J J O6 Q1 λv19 _ h=>S2 3 J ?_;refine cN h (λhc h=>?_) λhc h=>?_
    ·refine S3 4 J ?_;refine y0 J (o9 (cs:=[.I 1,.I a1,.I a2]) J b7r a8X J J J)<|cF h a8t J J λv20 _ h=>S2 2 J<|a8 ?_;have h:=xL hx13 h;cases h;exact f2
    ·refine b9 ?_;refine S5 3 J<|u5 h λv21 hv16 h=>y0 J (a56 J J hv16)<|S2 1 J<|S6 3 J ?_;exact eL h W
   ·refine l6 ?_;refine c4<|c4<|j1 ?_;have h:=xL hx13 h;exact eJ h W

theorem c1K{a0 a1 a2}:PO Tryz.prog 380 [.L j8.Pv a0,.I a1,.I a2] (b4j a0 a1 a2) λr=>.tup [.L j8.Pv r.1,.I r.2.1,.I r.2.2]:=by
 refine pO Tryz.func380 λr h _ _=>?_;refine S4 3 J<|c5<|S4 2 J ?_;refine cN h (λhc h=>?_) λhc h=>?_
 ·refine S4 4 J ?_;refine a8 ?_;cases h;exact f3
 ·refine b9 ?_;refine S3 2 J<|cA h b0F J J λv1 _ h=>S2 5 J<|c5<|S4 2 J ?_;refine cN h (λhc h=>?_) λhc h=>?_
  ·refine S3 2 J ?_;refine cF h b3t J J λv2 _ h=>S2 7 J<|S4 5 J<|a8 ?_;cases h;exact f3
  ·refine b9 ?_;refine S3 3 J<|cF h c1I J J λv3 _ h=>S2 5 J<|c5<|S4 2 J ?_;refine cN h (λhc h=>?_) λhc h=>?_
   ·refine S4 5 J ?_;refine a8 ?_;cases h;exact f3
   ·refine b9 ?_;refine S4 5 J<|a8 ?_;cases h;exact f3

theorem c0a{a0 a1 a2}:PO Tryz.prog 332 [c7.Pv a0,.I a1,.I a2] (a6f a0 a1 a2) λr=>.tup [c7.Pv r.1,.I r.2]:=by
 refine pO Tryz.func332 λr h _ _=>?_;refine S4 3 J<|c5<|S4 2 J ?_;refine cN h (λhc h=>?_) λhc h=>?_
 ·refine S4 3 J ?_;refine a8 ?_;cases h;exact⟨J,[_,_],⟨oL J J J y7 u6 nl J,⟨J,tr⟩⟩,J,io⟩
 ·refine b9 ?_;refine c5<|S3 2 J<|cA h W4 J J λv1 _ h=>S1 2 J<|c8 J (λhg=>oL J J J y7 u6 nl J)<|c8 J (λhg=>mI J)<|u5 h λv2 hv2 h=>c8 J (λhg=>A0 J a0O (w7 (ct hg) (w7 (ct hg) J)) (B6 hv2 hg))<|c8 J (λhg=>U3 (ct hg) J)<|y0 J (r8 J J J (λq=>K5 q))<|yN ?_;refine cN h (λhc h=>?_) λhc h=>?_
  ·refine S4 3 J ?_;refine a8 ?_;cases h;exact⟨J,[_,_],⟨oL J J J y7 u6 nl J,⟨J,tr⟩⟩,J,io⟩
  ·refine b9 ?_;refine S3 4 J<|cF h c1K J J λv3 _ h=>S2 7 J<|c5<|S4 2 J ?_;refine cN h (λhc h=>?_) λhc h=>?_
   ·refine S4 4 J ?_;refine a8 ?_;cases h;exact⟨J,[_,_],⟨oL J J J y7 u6 nl J,⟨J,tr⟩⟩,J,io⟩
   ·refine b9 ?_;refine S3 2 J<|cF h a2W J J λv4 _ h=>S2 2 J<|S4 3 J<|S3 2 J<|cF h a0s J J λv5 _ h=>S2 2 J<|a8 ?_;cases h;exact⟨J,[_,_],⟨oL J J J y7 u6 nl J,⟨J,tr⟩⟩,J,io⟩

end Go.Proofs.YtlkcpapbolbjnaaGreat.Ok
