/-
 The functions of the program do as the plain functions do.
-/
import Derived.Test.YtlkcpapbolbjnaaGreatO19aOk3
set_option linter.unusedVariables false
set_option linter.unusedSimpArgs false
set_option linter.unusedSectionVars false
namespace Go.Proofs.YtlkcpapbolbjnaaGreat.Ok
open Go Go.Pw Go.Sh Go.Proofs
set_option maxRecDepth 100000
set_option maxHeartbeats 4000000
theorem b1y{a0 a1}:PO Tryz.prog 68 [c5.Pv a0,.L iF a1] (a4Q a0 a1) λr=>c5.Pv r:=by
 refine pO Tryz.func68 λr h _ _=>?_
 refine S4 2 J<|S3 2 J<|cF h b7O J J λv1 _ h=>S2 1 J<|S3 3 J<|cF h b55 J J λv2 _ h=>S2 5 J<|S4 3 J ?_
 refine jq h (λj12=>St.of [(2,.ptr 2 0 0),(4,.ptr 4 0 0),(5,.L iF v1)] [(4,vR (.agg [.nl,.I 0,.I 0,.nl,.nl,.nl,.nl,.I 0]) 8),(2,vR (.agg [.L j6.Pv a0.S.Cells,.I a0.S.Last,.I a0.S.Serial,.L iF a0.Roots,.L k9.Pv v2.1,.L c7.Pv a0.T,.L m9.Pv j12.L,.I j12.Cap]) 8)]) (λj12 h=>?_) λκ11 h=>?_
 ·refine sR ?_
  refine y0 J (A0 J Ty.p8 Ty.s3)<|S2 1 J ?_
  refine jq h (λj23=>St.of [(2,.ptr 2 0 0),(4,.ptr 4 0 0),(5,.L iF v1),(9,.sl 910009)] [(910009,⟨List.map iF j23,(List.map iF j23).length,true,1,true⟩),(4,vR (.agg [.nl,.I 0,.I 0,.nl,.nl,.nl,.nl,.I 0]) 8),(2,vR (.agg [.L j6.Pv a0.S.Cells,.I a0.S.Last,.I a0.S.Serial,.L iF a0.Roots,.L k9.Pv v2.1,.L c7.Pv a0.T,.L m9.Pv j12.L,.I j12.Cap]) 8)]) (λj23 h=>?_) λκ22 h=>?_
  ·refine S3 3 J ?_
   refine cF h b3f J J λv24 _ h=>S2 5 J<|S4 3 J<|S3 2 J<|l7 h λv25 hv19 h=>D7 J (B6 (f:=iF) hv19 J J J J J J (.inl ⟨_,J,J⟩) Ty.p8 Ty.s3 Ty.b3 Ty.z3 J (λ_=>J)) J J J<|S2 1 J ?_
   refine jq h (λj34=>St.of [(2,.ptr 2 0 0),(4,.ptr 4 0 0),(9,.sl 88)] [(88,⟨List.map iF v25,j23.length,true,1,true⟩),(4,vR (.agg [.nl,.I 0,.I 0,.nl,.nl,.nl,.nl,.I 0]) 8),(2,vR (c5.Pv j34) 8)]) (λj34 h=>?_) λκ33 h=>?_
   ·refine jq h (λj43=>St.of [(2,.ptr 2 0 0),(4,.ptr 4 0 0)] [(4,vR (.agg [.nl,.I 0,.I 0,.nl,.nl,.nl,.nl,.I 0]) 8),(2,vR (c5.Pv j43) 8)]) (λj43 h=>?_) λκ42 h=>?_
    ·refine S4 2 J ?_
     refine a6 ?_
     cases h
     exact⟨J,[_],⟨oL J J J Ty.a46 Ty.s46 nl J,tr⟩,J,io⟩
    ·refine S4 1 J ?_
     refine b7<|lq h (λq=>St.of [(2,.ptr 2 0 0),(4,.ptr 4 0 0),(9,.sl 88),(16,.I q.1)] [(88,⟨List.map iF v25,j23.length,true,1,true⟩),(4,vR (.agg [.nl,.I 0,.I 0,.nl,.nl,.nl,.nl,.I 0]) 8),(2,vR (c5.Pv q.2) 8)]) W λq48 x47 h hx34=>?_
     obtain⟨s45,s46⟩:=q48
     refine b9<|S3 2 J<|y0 J (b4W (f:=iF) J J J Ty.p8)<|S2 1 J ?_
     refine cN h (λhc h=>?_) λhc h=>?_
     ·refine a8 ?_
      refine b9<|b7<|a0p [] Ty.K8 (by kernel_rfl) (by kernel_rfl)<|S7 3 J<|l7 h λv49 hv35 h=>d0 J (a0w (f:=iF) hv35 J J J J Ty.p8 Ty.s3 J) J<|d0 J (b1q (f:=iF) hv35 J J J Ty.a3 J) J<|l7 h λv50 hv36 h=>Q7 J (n0 J b3i J hv36) J<|F0 (x':=c5.Pv v50) (cl':=true) J J (.inr J) Ty.s46<|F6<|S6 3 J ?_
      exact eL h W
     ·refine g8 ?_
      refine a7<|a7<|c4 ?_
      have h:=xL hx34 h
      exact eJ h W
   ·refine S4 1 J ?_
    refine b7<|lq h (λq=>St.of [(2,.ptr 2 0 0),(4,.ptr 4 0 0),(5,.L iF v1),(9,.sl 88),(15,.I q.1)] [(88,⟨List.map iF v25,j23.length,true,1,true⟩),(4,vR (.agg [.nl,.I 0,.I 0,.nl,.nl,.nl,.nl,.I 0]) 8),(2,vR (c5.Pv q.2) 8)]) W λq55 x54 h hx39=>?_
    obtain⟨s52,s53⟩:=q55
    refine b9<|S3 2 J<|nL J Ty.p8<|S2 1 J ?_
    refine cN h (λhc h=>?_) λhc h=>?_
    ·refine a8 ?_
     refine b9<|b7<|a0p [] Ty.K8 (by kernel_rfl) (by kernel_rfl)<|S7 3 J<|l7 h λv56 hv40 h=>d0 J (p9 (f:=iF) (cs:=[.I v56]) hv40 J J Ty.p8 Ty.s3 J J) J<|S7 1 J<|l7 h λv57 hv41 h=>Q7 J (n0 J b7P J hv41) J<|F0 (x':=c5.Pv v57) (cl':=true) J J (.inr J) Ty.s46<|F6<|S6 3 J ?_
     exact eL h W
    ·refine g8 ?_
     refine a7<|a7<|c4 ?_
     have h:=xL hx39 h
     exact eJ h W
  ·refine S4 1 J ?_
   refine b7<|lq h (λq=>St.of [(2,.ptr 2 0 0),(4,.ptr 4 0 0),(5,.L iF v1),(9,.sl 910009),(10,.I q.1)] [(4,vR (.agg [.nl,.I 0,.I 0,.nl,.nl,.nl,.nl,.I 0]) 8),(2,vR (.agg [.L j6.Pv a0.S.Cells,.I a0.S.Last,.I a0.S.Serial,.L iF a0.Roots,.L k9.Pv v2.1,.L c7.Pv a0.T,.L m9.Pv j12.L,.I j12.Cap]) 8),(910009,⟨List.map iF q.2,(List.map iF q.2).length,true,1,true⟩)]) (Wk.trans (B2 (t:=9) (l:=920009) (z:=1) J J) (WP (λl=>if l=910009 then 920009 else l))) λq62 x61 h hx44=>?_
   obtain⟨s59,s60⟩:=q62
   refine b9<|S3 2 J<|nL J Ty.p8<|S2 1 J ?_
   refine cN h (λhc h=>?_) λhc h=>?_
   ·refine a8 ?_
    refine b9<|b7<|dr [] Ty.K8 (by kernel_rfl) (by kernel_rfl)<|S7 4 J<|l7 h λv63 hv45 h=>d0 J (p9 (f:=iF) (cs:=[.I v63]) hv45 J J Ty.p8 Ty.s3 J J) J<|S7 1 J<|l7 h λv64 hv46 h=>Q7 J (n0 J B9 J hv46) J<|S7 4 J<|F0 (x':=z8.Pv v64.1) (cl':=true) J J (.inr J) Ty.s62<|S8 1 J<|S5 3 J<|cF h a9V J J λv65 _ h=>l7 h λv66 hv48 h=>D7 J (B6 (f:=iF) hv48 J J J J J J (.inl ⟨_,J,J⟩) Ty.p8 Ty.s3 Ty.b3 Ty.z3 J (λ_=>J)) J J J<|S2 1 J<|S6 3 J ?_
    exact eL h (Wk.trans (g7 _ [76]) (WP (λl=>if l=910009 then 76 else l)))
   ·refine g8 ?_
    refine a7<|a7<|c4 ?_
    have h:=xL hx44 h
    exact eJ h (Wk.trans (g7 _ [910009]) W)
 ·refine S4 1 J ?_
  refine b7<|lq h (λq=>St.of [(2,.ptr 2 0 0),(4,.ptr 4 0 0),(5,.L iF v1),(6,.L k9.Pv v2.1),(7,.L iF v2.2),(8,.I q.1)] [(4,vR (.agg [.nl,.I 0,.I 0,.nl,.nl,.nl,.nl,.I 0]) 8),(2,vR (.agg [.L j6.Pv a0.S.Cells,.I a0.S.Last,.I a0.S.Serial,.L iF a0.Roots,.L k9.Pv v2.1,.L c7.Pv a0.T,.L m9.Pv q.2.L,.I q.2.Cap]) 8)]) W λq71 x70 h hx51=>?_
  obtain⟨s68,s69⟩:=q71
  refine b9<|S3 2 J<|nL J Ty.p8<|S2 1 J ?_
  refine cN h (λhc h=>?_) λhc h=>?_
  ·refine a8 ?_
   refine b9<|b7<|a0p [] Ty.K8 (by kernel_rfl) (by kernel_rfl)<|S7 4 J<|l7 h λv72 hv52 h=>d0 J (p9 (f:=iF) (cs:=[.I v72]) hv52 J J Ty.p8 Ty.s3 J J) J<|S7 4 J<|d0 J (p9 (f:=iF) (cs:=[.I v72]) hv52 J J Ty.p8 Ty.s3 J J) J<|S7 1 J<|l7 h λv73 hv53 h=>d0 J (p9 (f:=k9.Pv) (cs:=k9.Pc v73) hv53 J J Ty.e40 Ty.b1V J J) J<|S7 2 J<|d7 J (λ_ hN=>l6 (cs:=[.I 2,.I v72,.I v73.Call]) J Ty.p85 Ty.z85 J J J) J<|l7 h λv74 hv54 h=>Q7 J (n0 J b3h J hv54) J<|S7 4 J<|F0 (x':=.agg [.L j6.Pv a0.S.Cells,.I a0.S.Last,.I a0.S.Serial,.L iF a0.Roots,.L k9.Pv v2.1,.L c7.Pv a0.T,.L m9.Pv v74.1.L,.I v74.1.Cap]) (cl':=true) J J (.inr J) Ty.s44<|F6<|S6 3 J ?_
   exact eL h W
  ·refine g8 ?_
   refine a7<|a7<|c4 ?_
   have h:=xL hx51 h
   exact eJ h W

theorem b4d{a0}:PO Tryz.prog 67 [c5.Pv a0] (a3p a0) λr=>c5.Pv r:=by
 refine pO Tryz.func67 λr h _ _=>?_
 refine S4 2 J ?_
 refine jq h (λj21=>St.of [(1,.ptr 1 0 0),(2,.ptr 2 0 0)] [(2,vR (.agg [.nl,.I 0,.I 0,.nl,.nl,.nl,.nl,.I 0]) 8),(1,vR (c5.Pv j21) 8)]) (λj21 h=>?_) λκ20 h=>?_
 ·refine S4 2 J ?_
  refine a6 ?_
  cases h
  exact⟨J,[_],⟨oL J J J Ty.a46 Ty.s46 nl J,tr⟩,J,io⟩
 ·refine S4 1 J ?_
  refine b7<|lq h (λq=>St.of [(1,.ptr 1 0 0),(2,.ptr 2 0 0),(3,.I q.1)] [(2,vR (.agg [.nl,.I 0,.I 0,.nl,.nl,.nl,.nl,.I 0]) 8),(1,vR (c5.Pv q.2) 8)]) W λq26 x25 h hx20=>?_
  obtain⟨s23,Y4⟩:=q26
  refine b9<|S4 2 J ?_
  refine cN h (λhc h=>?_) λhc h=>?_
  ·refine a8 ?_
   refine jq h (λj34=>St.of [(1,.ptr 1 0 0),(2,.ptr 2 0 0),(3,.I s23)] [(2,vR (.agg [.nl,.I 0,.I 0,.nl,.nl,.nl,.nl,.I 0]) 8),(1,vR (c5.Pv j34) 8)]) (λj34 h=>?_) λκ33 h=>?_
   ·refine S6 3 J ?_
    exact eL h W
   ·refine b7 ?_
    refine S3 1 J<|cF h b1z J J λv35 _ h=>S2 1 J<|b9<|S3 1 J<|nL J Ty.p8<|S2 1 J ?_
    refine cN h (λhc h=>?_) λhc h=>?_
    ·refine S4 2 J ?_
     refine a6 ?_
     have h:=xL hx20 h
     cases h
     exact⟨J,[_],⟨oL J J J Ty.a46 Ty.s46 nl J,tr⟩,J,io⟩
    ·refine a8 ?_
     refine dr [] Ty.K8 (by kernel_rfl) (by kernel_rfl)<|S7 2 J<|l7 h λv36 hv29 h=>d0 J (p9 (f:=iF) (cs:=[.I v36]) hv29 J J Ty.p8 Ty.s3 J J) J<|S7 1 J<|l7 h λv37 hv30 h=>d2 J (y5 J a80 J hv30) J<|F6 ?_
     refine cN h (λhc h=>?_) λhc h=>?_
     ·refine a0p [] Ty.K8 (by kernel_rfl) (by kernel_rfl) ?_
      refine S7 2 J<|d0 J (p9 (f:=iF) (cs:=[.I v36]) hv29 J J Ty.p8 Ty.s3 J J) J<|S7 1 J<|l7 h λv38 hv31 h=>Q7 J (n0 J a8z J hv31) J<|F0 (x':=c5.Pv v38) (cl':=true) J J (.inr J) Ty.s46<|F6 ?_
      exact eJ h W
     ·refine a0p [] Ty.K8 (by kernel_rfl) (by kernel_rfl) ?_
      refine S7 2 J<|l7 h λv39 hv32 h=>d0 J (c2O (f:=iF) hv32 J J ⟨_,J⟩ Ty.p8 Ty.s3 (λ_=>J)) J<|l7 h λv40 hv33 h=>Q7 J (n0 J b1y J hv33) J<|F0 (x':=c5.Pv v40) (cl':=true) J J (.inr J) Ty.s46<|F6 ?_
      exact eJ h W
  ·refine g8 ?_
   refine a7<|a7<|c4 ?_
   have h:=xL hx20 h
   exact eJ h W

theorem b3j{a0}:PO Tryz.prog 20 [c5.Pv a0] (a0y a0) λr=>.tup [c5.Pv r.1,.I r.2.1,.I r.2.2]:=by
 refine pO Tryz.func20 λr h _ _=>?_
 refine S4 4 J<|S3 1 J<|cF h b0e J J λv1 _ h=>S2 1 J ?_
 refine jq h (λ_=>St.of [(1,.ptr 1 0 0),(2,.ptr 2 0 0)] [(2,vR (.agg [.nl,.I 0,.I 0,.nl,.nl,.nl,.nl,.I 0]) 8),(1,vR (c5.Pv a0) 8)]) (λq19 h=>?_) λκ18 h=>?_
 ·refine dr [] Ty.K8 (by kernel_rfl) (by kernel_rfl) ?_
  refine S7 2 J<|l7 h λv20 hv14 h=>Q7 J (n0 J V4 J hv14) J<|l7 h λv21 hv15 h=>Q7 J (n0 J b1y J hv15) J<|l7 h λv22 hv16 h=>Q7 J (n0 J b4d J hv16) J<|S7 1 J<|F0 (x':=c5.Pv v22) (cl':=true) J J (.inr J) Ty.s46<|F6<|dr [4,8] Ty.K8 (by kernel_rfl) (by kernel_rfl)<|S7 3 J<|l7 h λv23 hv17 h=>Q7 J (n0 J E7 J hv17) J<|d7 J (λ_ hN=>D6 (f:=iF) J Ty.p8) J<|S7 2 J<|l7 h λv24 hv18 h=>Q7 J (n0 J E7 J hv18) J<|d7 J (λ_ hN=>D6 (f:=iF) J Ty.p8) J<|S7 1 J<|F0 (x':=c5.Pv v22) (cl':=true) J J (.inr J) Ty.s46<|S8 2 J<|a6 ?_
  cases h
  exact⟨J,[_,_,_],⟨oL J J J Ty.a46 Ty.s46 nl J,⟨J,⟨J,tr⟩⟩⟩,J,io⟩
 ·refine S3 1 J ?_
  refine nL J Ty.p8<|S2 1 J ?_
  refine cN h (λhc h=>?_) λhc h=>?_
  ·refine jq h (λj33=>St.of [(1,.ptr 1 0 0),(2,.ptr 2 0 0),(5,.L iF v1)] [(2,vR (.agg [.nl,.I 0,.I 0,.nl,.nl,.nl,.nl,.I 0]) 8),(1,vR (c5.Pv j33) 8)]) (λj33 h=>?_) λκ32 h=>?_
   ·refine S3 2 J ?_
    refine nL J Ty.p8<|S2 3 J<|a6 ?_
    cases h
    exact⟨J,[_,_,_],⟨oL J J J Ty.a46 Ty.s46 nl J,⟨J,⟨J,tr⟩⟩⟩,J,io⟩
   ·refine S4 1 J ?_
    refine b7<|lq h (λq=>St.of [(1,.ptr 1 0 0),(2,.ptr 2 0 0),(5,.L iF v1),(6,.I q.1)] [(2,vR (.agg [.nl,.I 0,.I 0,.nl,.nl,.nl,.nl,.I 0]) 8),(1,vR (c5.Pv q.2) 8)]) W λq38 x37 h hx27=>?_
    obtain⟨s35,s36⟩:=q38
    refine b9<|S3 2 J<|nL J Ty.p8<|S2 1 J ?_
    refine cN h (λhc h=>?_) λhc h=>?_
    ·refine a8 ?_
     refine b9<|b7<|a0p [] Ty.K8 (by kernel_rfl) (by kernel_rfl)<|S7 3 J<|l7 h λv39 hv28 h=>d0 J (p9 (f:=iF) (cs:=[.I v39]) hv28 J J Ty.p8 Ty.s3 J J) J<|S7 1 J<|l7 h λv40 hv29 h=>Q7 J (n0 J a8z J hv29) J<|F0 (x':=c5.Pv v40) (cl':=true) J J (.inr J) Ty.s46<|F6<|S6 3 J ?_
     exact eL h W
    ·refine g8 ?_
     refine a7<|a7<|c4 ?_
     have h:=xL hx27 h
     exact eJ h W
  ·refine a8 ?_
   exact eJ h W

theorem b0f{a0}:PO Tryz.prog 28 [c5.Pv a0] (a2X a0) λr=>.bool r:=by
 refine pO Tryz.func28 λr h _ _=>?_
 refine S4 2 J<|S3 1 J<|cF h V4 J J λv1 _ h=>nL J Ty.p8<|S2 2 J<|a6 ?_
 cases h
 exact f1

theorem b52{a0 a1}:PO Tryz.prog 154 [z8.Pv a0,z8.Pv a1] (a4I a0 a1) λr=>.bool r:=by
 refine pO Tryz.func154 λr h _ _=>?_
 unfold a4I at h
 refine S4 3 J<|S3 6 J<|b8 J (λhg=>oF J Ty.b6T J)<|b8 J (λhg=>oS (ct hg) J J Ty.a3 J)<|b8 J (λhg=>oF J Ty.b6T J)<|b8 J (λhg=>oS (ct hg) J J Ty.a3 J)<|b8 J (λhg=>j8 (ct hg) (ct hg) J)<|y0 J (k7 J J J (λq=>H0 q))<|S1 1 J<|b8 J (λhg=>oF J Ty.b6U J)<|b8 J (λhg=>oS (ct hg) J J Ty.a3 J)<|b8 J (λhg=>oF J Ty.b6U J)<|b8 J (λhg=>oS (ct hg) J J Ty.a3 J)<|b8 J (λhg=>j8 (ct hg) (ct hg) J)<|y0 J (k7 J J J (λq=>H0 q))<|S1 1 J<|b8 J (λhg=>oF J Ty.b4C J)<|b8 J (λhg=>oS (ct hg) J J Ty.a3 J)<|b8 J (λhg=>oF J Ty.b4C J)<|b8 J (λhg=>oS (ct hg) J J Ty.a3 J)<|b8 J (λhg=>j8 (ct hg) (ct hg) J)<|y0 J (k7 J J J (λq=>H0 q))<|S1 1 J<|b8 J (λhg=>oF J Ty.b4D J)<|b8 J (λhg=>oS (ct hg) J J Ty.a4 J)<|b8 J (λhg=>oF J Ty.b4D J)<|b8 J (λhg=>oS (ct hg) J J Ty.a4 J)<|b8 J (λhg=>c2R (ct hg) (ct hg) Ty.u4 J)<|y0 J (k7 J J J (λq=>H0 q))<|S1 1 J ?_
 refine b8 J (λhg=>oF J Ty.b2D J)<|b8 J (λhg=>oS (ct hg) J J Ty.a27 J)<|b8 J (λhg=>oF J Ty.b2D J)<|b8 J (λhg=>oS (ct hg) J J Ty.a27 J)<|l7 h λv1 hv1 h=>b8 J (λhg=>y5 J a0x (o8 (ct hg) (o8 (ct hg) J)) (u9 hv1 hg))<|y0 J (k7 J J J (λq=>H0 q))<|S2 1 J<|a6 ?_
 cases h
 exact f1

theorem b7B{a0 a1}:PO Tryz.prog 76 [c9.Pv a0,c9.Pv a1] (a9Y a0 a1) λr=>.bool r:=by
 refine pO Tryz.func76 λr h _ _=>?_
 refine S4 3 J<|b9<|S3 6 J<|b8 J (λhg=>oF J Ty.b9C J)<|b8 J (λhg=>oS (ct hg) J J Ty.a3 J)<|b8 J (λhg=>oF J Ty.b9C J)<|b8 J (λhg=>oS (ct hg) J J Ty.a3 J)<|b8 J (λhg=>j8 (ct hg) (ct hg) J)<|y0 J (n8 J J J (λq=>H5 q))<|S1 1 J<|b8 J (λhg=>oF J Ty.a9l J)<|b8 J (λhg=>oS (ct hg) J J Ty.a37 J)<|b8 J (λhg=>D6 (f:=j6.Pv) (ct hg) Ty.e37)<|b8 J (λhg=>oF J Ty.a9l J)<|b8 J (λhg=>oS (ct hg) J J Ty.a37 J)<|b8 J (λhg=>D6 (f:=j6.Pv) (ct hg) Ty.e37)<|b8 J (λhg=>j8 (ct hg) (ct hg) J)<|y0 J (n8 J J J (λq=>H5 q))<|yN ?_
 refine cN h (λhc h=>?_) λhc h=>?_
 ·refine S4 1 J ?_
  refine a6 ?_
  cases h
  exact f1
 ·refine a8 ?_
  refine jq h (λ_=>St.of [] []) (λq8 h=>?_) λκ7 h=>?_
  ·refine S4 1 J ?_
   refine a6 ?_
   cases h
   exact f1
  ·refine S4 1 J ?_
   refine b7<|lq h (λs10=>St.of [(2,.ptr 2 0 0),(3,.ptr 3 0 0),(5,.I s10)] [(3,vR (c9.Pv a1) 3),(2,vR (c9.Pv a0) 3)]) W λs10 x11 h hx10=>b9<|S3 3 J<|nL J Ty.e37<|S2 1 J ?_
   refine cN h (λhc h=>?_) λhc h=>?_
   ·refine a8 ?_
    refine b9<|b7<|dr [] Ty.K8 (by kernel_rfl) (by kernel_rfl)<|S7 3 J<|l7 h λv12 hv11 h=>d0 J (p9 (f:=j6.Pv) (cs:=j6.Pc v12) hv11 J J Ty.e37 Ty.a1C J J) J<|S7 5 J<|l7 h λv13 hv12 h=>d0 J (p9 (f:=j6.Pv) (cs:=j6.Pc v13) hv12 J J Ty.e37 Ty.a1C J J) J<|S7 4 J<|m7 J (λhg _ hN=>oF J Ty.a9l J) J<|s6 J (λhg=>oS (ct hg) J J Ty.a37 J) J<|m7 J (λhg _ hN=>mI J) J<|s6 J (λhg=>p9 (f:=j6.Pv) (cs:=j6.Pc v12) hv11 (ct hg) (ct hg) Ty.e37 Ty.a1C J J) J<|m7 J (λhg _ hN=>z6 (ct hg) Ty.c15 J) J<|s6 J (λhg=>B1 (ct hg) Ty.a3 J) J<|m7 J (λhg _ hN=>oF J Ty.a9l J) J<|s6 J (λhg=>oS (ct hg) J J Ty.a37 J) J<|m7 J (λhg _ hN=>mI J) J<|s6 J (λhg=>p9 (f:=j6.Pv) (cs:=j6.Pc v13) hv12 (ct hg) (ct hg) Ty.e37 Ty.a1C J J) J<|m7 J (λhg _ hN=>z6 (ct hg) Ty.c15 J) J<|s6 J (λhg=>B1 (ct hg) Ty.a3 J) J<|m7 J (λhg _ hN=>j8 (ct hg) (ct hg) J) J<|d7 J (λ_ hN=>n8 J J J (λq=>H5 q)) J<|S7 1 J<|m7 J (λhg _ hN=>oF J Ty.a9l J) J<|s6 J (λhg=>oS (ct hg) J J Ty.a37 J) J<|m7 J (λhg _ hN=>mI J) J<|s6 J (λhg=>p9 (f:=j6.Pv) (cs:=j6.Pc v12) hv11 (ct hg) (ct hg) Ty.e37 Ty.a1C J J) J<|m7 J (λhg _ hN=>z6 (ct hg) Ty.a6C J) J<|s6 J (λhg=>a9O (ct hg) Ty.a62 Ty.s62 nl J) J<|m7 J (λhg _ hN=>oF J Ty.a9l J) J<|s6 J (λhg=>oS (ct hg) J J Ty.a37 J) J<|m7 J (λhg _ hN=>mI J) J<|s6 J (λhg=>p9 (f:=j6.Pv) (cs:=j6.Pc v13) hv12 (ct hg) (ct hg) Ty.e37 Ty.a1C J J) J<|m7 J (λhg _ hN=>z6 (ct hg) Ty.a6C J) J<|s6 J (λhg=>a9O (ct hg) Ty.a62 Ty.s62 nl J) J<|l7 h λv14 hv13 h=>X7 J (λhg=>y5 J b52 (o8 (ct hg) (o8 (ct hg) J)) (u9 hv13 hg)) J<|m7 J (λhg _ hN=>J7 (ct hg) J) J<|d7 J (λ_ hN=>n8 J J J (λq=>H5 q)) J<|F6 ?_
    refine cN h (λhc h=>?_) λhc h=>?_
    ·refine S4 1 J ?_
     refine a6 ?_
     have h:=xL hx10 h
     cases h
     exact f1
    ·refine a8 ?_
     refine S6 3 J ?_
     exact eL h W
   ·refine g8 ?_
    refine a7<|a7<|c4 ?_
    have h:=xL hx10 h
    exact eJ h W

theorem b7C{a0 a1}:PO Tryz.prog 77 [.L k9.Pv a0,.L k9.Pv a1] (a92 a0 a1) λr=>.bool r:=by
 refine pO Tryz.func77 λr h _ _=>?_
 refine S4 1 J<|b9<|S3 1 J<|nL J Ty.e40<|S1 1 J<|nL J Ty.e40<|S2 1 J ?_
 refine cN h (λhc h=>?_) λhc h=>?_
 ·refine S4 1 J ?_
  refine a6 ?_
  cases h
  exact f1
 ·refine a8 ?_
  refine jq h (λ_=>St.of [] []) (λq7 h=>?_) λκ6 h=>?_
  ·refine S4 1 J ?_
   refine a6 ?_
   cases h
   exact f1
  ·refine S4 1 J ?_
   refine b7<|lq h (λs9=>St.of [(0,.L k9.Pv a0),(1,.L k9.Pv a1),(5,.I s9)] []) W λs9 x10 h hx9=>b9<|S3 2 J<|nL J Ty.e40<|S2 1 J ?_
   refine cN h (λhc h=>?_) λhc h=>?_
   ·refine a8 ?_
    refine b9<|b7<|dr [] Ty.K8 (by kernel_rfl) (by kernel_rfl)<|S7 2 J<|l7 h λv11 hv10 h=>d0 J (p9 (f:=k9.Pv) (cs:=k9.Pc v11) hv10 J J Ty.e40 Ty.b1V J J) J<|S7 3 J<|l7 h λv12 hv11 h=>d0 J (p9 (f:=k9.Pv) (cs:=k9.Pc v12) hv11 J J Ty.e40 Ty.b1V J J) J<|S7 1 J<|d7 J (λ_ hN=>c2T (xs:=k9.Pc v11) (ys:=k9.Pc v12) Ty.c9X J J J J) J<|F6 ?_
    refine cN h (λhc h=>?_) λhc h=>?_
    ·refine S4 1 J ?_
     refine a6 ?_
     have h:=xL hx9 h
     cases h
     exact f1
    ·refine a8 ?_
     refine S6 3 J ?_
     exact eL h W
   ·refine g8 ?_
    refine a7<|a7<|c4 ?_
    have h:=xL hx9 h
    exact eJ h W

theorem b7G{a0 a1}:PO Tryz.prog 78 [.L c7.Pv a0,.L c7.Pv a1] (a94 a0 a1) λr=>.bool r:=by
 refine pO Tryz.func78 λr h _ _=>?_
 refine S4 1 J<|b9<|S3 1 J<|nL J Ty.e41<|S1 1 J<|nL J Ty.e41<|S2 1 J ?_
 refine cN h (λhc h=>?_) λhc h=>?_
 ·refine S4 1 J ?_
  refine a6 ?_
  cases h
  exact f1
 ·refine a8 ?_
  refine jq h (λ_=>St.of [] []) (λq7 h=>?_) λκ6 h=>?_
  ·refine S4 1 J ?_
   refine a6 ?_
   cases h
   exact f1
  ·refine S4 1 J ?_
   refine b7<|lq h (λs9=>St.of [(0,.L c7.Pv a0),(1,.L c7.Pv a1),(5,.I s9)] []) W λs9 x10 h hx9=>b9<|S3 2 J<|nL J Ty.e41<|S2 1 J ?_
   refine cN h (λhc h=>?_) λhc h=>?_
   ·refine a8 ?_
    refine b9<|b7<|dr [] Ty.K8 (by kernel_rfl) (by kernel_rfl)<|S7 2 J<|l7 h λv11 hv10 h=>d0 J (p9 (f:=c7.Pv) (cs:=c7.Pc v11) hv10 J J Ty.e41 Ty.a7l J J) J<|S7 3 J<|l7 h λv12 hv11 h=>d0 J (p9 (f:=c7.Pv) (cs:=c7.Pc v12) hv11 J J Ty.e41 Ty.a7l J J) J<|S7 1 J<|d7 J (λ_ hN=>c2T (xs:=c7.Pc v11) (ys:=c7.Pc v12) Ty.c9W J J J J) J<|F6 ?_
    refine cN h (λhc h=>?_) λhc h=>?_
    ·refine S4 1 J ?_
     refine a6 ?_
     have h:=xL hx9 h
     cases h
     exact f1
    ·refine a8 ?_
     refine S6 3 J ?_
     exact eL h W
   ·refine g8 ?_
    refine a7<|a7<|c4 ?_
    have h:=xL hx9 h
    exact eJ h W

theorem b7N{a0 a1}:PO Tryz.prog 79 [r7.Pv a0,r7.Pv a1] (b0a a0 a1) λr=>.bool r:=by
 refine pO Tryz.func79 λr h _ _=>?_
 refine S4 3 J<|b9<|S3 6 J<|b8 J (λhg=>oF J Ty.b6R J)<|b8 J (λhg=>oS (ct hg) J J Ty.a42 J)<|b8 J (λhg=>D6 (f:=m9.Pv) (ct hg) Ty.e42)<|b8 J (λhg=>oF J Ty.b6R J)<|b8 J (λhg=>oS (ct hg) J J Ty.a42 J)<|b8 J (λhg=>D6 (f:=m9.Pv) (ct hg) Ty.e42)<|b8 J (λhg=>j8 (ct hg) (ct hg) J)<|y0 J (n8 J J J (λq=>H5 q))<|yN ?_
 refine cN h (λhc h=>?_) λhc h=>?_
 ·refine S4 1 J ?_
  refine a6 ?_
  cases h
  exact f1
 ·refine a8 ?_
  refine jq h (λ_=>St.of [] []) (λq7 h=>?_) λκ6 h=>?_
  ·refine S4 1 J ?_
   refine a6 ?_
   cases h
   exact f1
  ·refine S4 1 J ?_
   refine b7<|lq h (λs9=>St.of [(2,.ptr 2 0 0),(3,.ptr 3 0 0),(5,.I s9)] [(3,vR (r7.Pv a1) 2),(2,vR (r7.Pv a0) 2)]) W λs9 x10 h hx9=>b9<|S3 3 J<|nL J Ty.e42<|S2 1 J ?_
   refine cN h (λhc h=>?_) λhc h=>?_
   ·refine a8 ?_
    refine b9<|b7<|dr [] Ty.K8 (by kernel_rfl) (by kernel_rfl)<|S7 3 J<|l7 h λv11 hv10 h=>d0 J (p9 (f:=m9.Pv) (cs:=m9.Pc v11) hv10 J J Ty.e42 Ty.s85 J J) J<|S7 4 J<|l7 h λv12 hv11 h=>d0 J (p9 (f:=m9.Pv) (cs:=m9.Pc v12) hv11 J J Ty.e42 Ty.s85 J J) J<|S7 1 J<|d7 J (λ_ hN=>c2T (xs:=m9.Pc v11) (ys:=m9.Pc v12) Ty.q85 J J J J) J<|F6 ?_
    refine cN h (λhc h=>?_) λhc h=>?_
    ·refine S4 1 J ?_
     refine a6 ?_
     have h:=xL hx9 h
     cases h
     exact f1
    ·refine a8 ?_
     refine S6 3 J ?_
     exact eL h W
   ·refine g8 ?_
    refine a7<|a7<|c4 ?_
    have h:=xL hx9 h
    exact eJ h W

theorem b1x{a0 a1}:PO Tryz.prog 29 [c5.Pv a0,c5.Pv a1] (a7a a0 a1) λr=>.bool r:=by
 refine pO Tryz.func29 λr h _ _=>?_
 refine S4 3 J<|S3 4 J<|cA h b7B J J λv1 _ h=>S1 1 J<|b8 J (λhg=>oF J Ty.c2f J)<|b8 J (λhg=>oS (ct hg) J J Ty.a27 J)<|b8 J (λhg=>oF J Ty.c2f J)<|b8 J (λhg=>oS (ct hg) J J Ty.a27 J)<|l7 h λv2 hv2 h=>b8 J (λhg=>y5 J a0x (o8 (ct hg) (o8 (ct hg) J)) (u9 hv2 hg))<|y0 J (k7 J J J (λq=>H0 q))<|S1 1 J<|b8 J (λhg=>oF J Ty.c2g J)<|b8 J (λhg=>oS (ct hg) J J Ty.a40 J)<|b8 J (λhg=>oF J Ty.c2g J)<|b8 J (λhg=>oS (ct hg) J J Ty.a40 J)<|l7 h λv3 hv3 h=>b8 J (λhg=>y5 J b7C (o8 (ct hg) (o8 (ct hg) J)) (u9 hv3 hg))<|y0 J (k7 J J J (λq=>H0 q))<|S1 1 J<|b8 J (λhg=>oF J Ty.b9D J)<|b8 J (λhg=>oS (ct hg) J J Ty.a41 J)<|b8 J (λhg=>oF J Ty.b9D J)<|b8 J (λhg=>oS (ct hg) J J Ty.a41 J)<|l7 h λv4 hv4 h=>b8 J (λhg=>y5 J b7G (o8 (ct hg) (o8 (ct hg) J)) (u9 hv4 hg))<|y0 J (k7 J J J (λq=>H0 q))<|S1 1 J<|b8 J (λhg=>oF J Ty.b6S J)<|b8 J (λhg=>oL (ct hg) J J Ty.a44 Ty.s44 nl J)<|b8 J (λhg=>oF J Ty.b6S J)<|b8 J (λhg=>oL (ct hg) J J Ty.a44 Ty.s44 nl J)<|l7 h λv5 hv5 h=>b8 J (λhg=>y5 J b7N (o8 (ct hg) (o8 (ct hg) J)) (u9 hv5 hg))<|y0 J (k7 J J J (λq=>H0 q))<|S2 1 J<|a6 ?_
 cases h
 exact f1

theorem w19_CollectDoes_ok{a0}:PO Tryz.prog 3 [hold_Heap.Pv a0] (a2t a0) λr=>.bool r:=by
 refine pO Tryz.func3 λr h _ _=>?_
 refine S4 2 J<|b9<|S3 1 J<|cA h a2e J J λv1 _ h=>S1 2 J<|l7 h λv2 hv2 h=>b8 J (λhg=>y5 J I2 J (u9 hv2 hg))<|b8 J (λhg=>J7 (ct hg) J)<|y0 J (n8 J J J (λq=>H5 q))<|yN ?_
 refine cN h (λhc h=>?_) λhc h=>?_
 ·refine sR ?_
  refine cA h I2 J J λv3 _ h=>S2 1 J<|a6 ?_
  cases h
  exact f1
 ·refine a8 ?_
  refine S3 1 J<|cF h J1 J J λv4 _ h=>S2 2 J<|S3 1 J<|cF h B7 J J λv5 _ h=>S2 8 J<|S3 1 J<|cF h b3j J J λv6 _ h=>S2 8 J<|dr [] Ty.K8 (by kernel_rfl) (by kernel_rfl)<|S7 1 J<|l7 h λv7 hv7 h=>d2 J (y5 J a0r J hv7) J<|S7 1 J<|s6 J (λhg=>oL J J J Ty.O2 Ty.I6 nl J) J<|l7 h λv8 hv8 h=>a6v J (λhg=>n0 J K7 (o8 (ct hg) J) (u9 hv8 hg)) J<|s6 J (λhg=>oL J J J Ty.a46 Ty.s46 nl J) J<|l7 h λv9 hv9 h=>a6v J (λhg=>n0 J V4 (o8 (ct hg) J) (u9 hv9 hg)) J<|l7 h λv10 hv10 h=>X7 J (λhg=>y5 J a0x (o8 (ct hg) (o8 (ct hg) J)) (u9 hv10 hg)) J<|d7 J (λ_ hN=>k7 J J J (λq=>H0 q)) J<|S7 1 J<|s6 J (λhg=>oL J J J Ty.O2 Ty.I6 nl J) J<|l7 h λv11 hv11 h=>a6v J (λhg=>n0 J W3 (o8 (ct hg) J) (u9 hv11 hg)) J<|s6 J (λhg=>oL J J J Ty.a46 Ty.s46 nl J) J<|l7 h λv12 hv12 h=>a6v J (λhg=>n0 J b0e (o8 (ct hg) J) (u9 hv12 hg)) J<|l7 h λv13 hv13 h=>X7 J (λhg=>y5 J a0x (o8 (ct hg) (o8 (ct hg) J)) (u9 hv13 hg)) J<|d7 J (λ_ hN=>k7 J J J (λq=>H0 q)) J<|S7 1 J<|s6 J (λhg=>oL J J J Ty.O2 Ty.I6 nl J) J<|l7 h λv14 hv14 h=>X7 J (λhg=>y5 J a1l (o8 (ct hg) J) (u9 hv14 hg)) J<|s6 J (λhg=>oL J J J Ty.a46 Ty.s46 nl J) J<|l7 h λv15 hv15 h=>X7 J (λhg=>y5 J b0f (o8 (ct hg) J) (u9 hv15 hg)) J<|m7 J (λhg _ hN=>c2R (ct hg) (ct hg) Ty.u4 J) J<|d7 J (λ_ hN=>k7 J J J (λq=>H0 q)) J<|S7 1 J<|s6 J (λhg=>oL J J J Ty.O2 Ty.I6 nl J) J<|l7 h λv16 hv16 h=>a6v J (λhg=>n0 J J1 (o8 (ct hg) J) (u9 hv16 hg)) J<|s6 J (λhg=>oL J J J Ty.a46 Ty.s46 nl J) J<|l7 h λv17 hv17 h=>X7 J (λhg=>y5 J b1x (o8 (ct hg) (o8 (ct hg) J)) (u9 hv17 hg)) J<|d7 J (λ_ hN=>k7 J J J (λq=>H0 q)) J<|S7 1 J<|m7 J (λhg _ hN=>mI J) J<|m7 J (λhg _ hN=>mI J) J<|m7 J (λhg _ hN=>j8 (ct hg) (ct hg) J) J<|d7 J (λ_ hN=>k7 J J J (λq=>H0 q)) J<|S7 1 J<|m7 J (λhg _ hN=>mI J) J<|m7 J (λhg _ hN=>mI J) J<|m7 J (λhg _ hN=>j8 (ct hg) (ct hg) J) J<|d7 J (λ_ hN=>k7 J J J (λq=>H0 q)) J<|S8 1 J<|a6 ?_
  cases h
  exact f1

theorem w19_CollectStays_ok{a0}:PO Tryz.prog 4 [hold_Heap.Pv a0] (a1H a0) λr=>.bool r:=by
 refine pO Tryz.func4 λr h _ _=>?_
 refine S4 2 J<|b9<|S3 1 J<|cA h a2e J J λv1 _ h=>S1 2 J<|l7 h λv2 hv2 h=>b8 J (λhg=>y5 J I2 J (u9 hv2 hg))<|b8 J (λhg=>J7 (ct hg) J)<|y0 J (n8 J J J (λq=>H5 q))<|yN ?_
 refine cN h (λhc h=>?_) λhc h=>?_
 ·refine sR ?_
  refine cA h I2 J J λv3 _ h=>S2 1 J<|a6 ?_
  cases h
  exact f1
 ·refine a8 ?_
  refine S3 1 J<|cF h B7 J J λv4 _ h=>S2 8 J<|b9<|S3 1 J<|cA h a0r J J λv5 _ h=>S1 2 J<|b8 J (λhg=>oL J J J Ty.O2 Ty.I6 nl J)<|l7 h λv6 hv6 h=>b8e J (λhg=>n0 J J1 (o8 (ct hg) J) (u9 hv6 hg))<|l7 h λv7 hv7 h=>b8 J (λhg=>y5 J b0c (o8 (ct hg) J) (u9 hv7 hg))<|b8 J (λhg=>J7 (ct hg) J)<|y0 J (n8 J J J (λq=>H5 q))<|S1 1 J<|b8 J (λhg=>oL J J J Ty.O2 Ty.I6 nl J)<|l7 h λv8 hv8 h=>b8e J (λhg=>n0 J J1 (o8 (ct hg) J) (u9 hv8 hg))<|l7 h λv9 hv9 h=>b8 J (λhg=>y5 J a7b (o8 (ct hg) J) (u9 hv9 hg))<|b8 J (λhg=>J7 (ct hg) J)<|y0 J (n8 J J J (λq=>H5 q))<|yN ?_
  refine cN h (λhc h=>?_) λhc h=>?_
  ·refine S4 1 J ?_
   refine a6 ?_
   cases h
   exact f1
  ·refine a8 ?_
   refine b9<|S4 2 J ?_
   refine cN h (λhc h=>?_) λhc h=>?_
   ·refine S3 4 J ?_
    refine nL J Ty.e30<|S1 3 J<|nL J Ty.e30<|S2 3 J<|a6 ?_
    cases h
    exact f1
   ·refine a8 ?_
    refine S3 1 J<|cF h B7 J J λv10 _ h=>S2 8 J<|dr [] Ty.K8 (by kernel_rfl) (by kernel_rfl)<|S7 1 J<|l7 h λv11 hv11 h=>Q7 J (n0 J J1 J hv11) J<|l7 h λv12 hv12 h=>d2 J (y5 J b0f J hv12) J<|S7 1 J<|s6 J (λhg=>oL J J J Ty.O2 Ty.I6 nl J) J<|l7 h λv13 hv13 h=>X7 J (λhg=>y5 J a0r (o8 (ct hg) J) (u9 hv13 hg)) J<|d7 J (λ_ hN=>k7 J J J (λq=>H0 q)) J<|S7 1 J<|m7 J (λhg _ hN=>mI J) J<|m7 J (λhg _ hN=>j8 (ct hg) J J) J<|d7 J (λ_ hN=>k7 J J J (λq=>H0 q)) J<|S7 1 J<|m7 J (λhg _ hN=>mI J) J<|m7 J (λhg _ hN=>j8 (ct hg) J J) J<|d7 J (λ_ hN=>k7 J J J (λq=>H0 q)) J<|S7 1 J<|s6 J (λhg=>oL J J J Ty.O2 Ty.I6 nl J) J<|a6v J (λhg=>n0 J J1 (o8 (ct hg) J) hv11) J<|s6 J (λhg=>oL J J J Ty.O2 Ty.I6 nl J) J<|l7 h λv14 hv14 h=>a6v J (λhg=>n0 J J1 (o8 (ct hg) J) (u9 hv14 hg)) J<|l7 h λv15 hv15 h=>X7 J (λhg=>y5 J b1x (o8 (ct hg) (o8 (ct hg) J)) (u9 hv15 hg)) J<|d7 J (λ_ hN=>k7 J J J (λq=>H0 q)) J<|S8 1 J<|a6 ?_
    cases h
    exact f1

theorem b3J{a0}:PO Tryz.prog 35 [hold_Heap.Pv a0] (a31 a0) λr=>.L iF r:=by
 refine pO Tryz.func35 λr h _ _=>?_
 refine S4 2 J<|sR<|y0 J (A0 J Ty.p8 Ty.s3)<|S1 1 J<|cF h J1 J J λv1 _ h=>cF h b0b J J λv2 _ h=>l7 h λv3 hv3 h=>y1 J (a4C (f:=iF) hv3 J J (.inl ⟨_,J,J⟩) Ty.p8 Ty.s3 Ty.b3 Ty.z3 J (λ_=>J)) J<|S2 1 J<|S3 2 J<|cF h L4 J J λv4 hv4 h=>cF h E7 J J λv5 _ h=>S2 1 J ?_
 refine jq h (λj22=>St.of [(3,.sl 12)] [(12,⟨List.map iF j22,(List.map iF j22).length,true,1,true⟩)]) (λj22 h=>?_) λκ21 h=>?_
 ·refine S4 2 J ?_
  refine a6 ?_
  cases h
  exact f1
 ·refine S4 1 J ?_
  refine b7<|lq h (λq=>St.of [(1,.ptr 1 0 0),(3,.sl 12),(4,.L iF v5),(5,.I q.1)] [(12,⟨List.map iF q.2,(List.map iF q.2).length,true,1,true⟩),(1,vR (hold_Heap.Pv a0) 8)]) (Wk.trans (g7 _ [12]) W) λq27 x26 h hx21=>?_
  obtain⟨Y4,s25⟩:=q27
  refine b9<|S3 2 J<|nL J Ty.p8<|S2 1 J ?_
  refine cN h (λhc h=>?_) λhc h=>?_
  ·refine a8 ?_
   refine jq h (λj33=>St.of [(1,.ptr 1 0 0),(3,.sl 43),(4,.L iF v5),(5,.I Y4)] [(43,⟨List.map iF j33,(List.map iF j33).length,true,1,true⟩),(1,vR (hold_Heap.Pv a0) 8)]) (λj33 h=>?_) λκ32 h=>?_
   ·refine S6 3 J ?_
    exact eL h (Wk.trans (g7 _ [43]) (WP (λl=>if l=12 then 43 else l)))
   ·refine b7 ?_
    refine dr [] Ty.K8 (by kernel_rfl) (by kernel_rfl)<|S7 2 J<|Q7 J (n0 J L4 J hv4) J<|S7 2 J<|l7 h λv34 hv27 h=>d0 J (p9 (f:=iF) (cs:=[.I v34]) hv27 J J Ty.p8 Ty.s3 J J) J<|S7 1 J<|l7 h λv35 hv28 h=>Q7 J (n0 J B9 J hv28) J<|S7 4 J<|F0 (x':=z8.Pv v35.1) (cl':=true) J J (.inr J) Ty.s62<|S8 1 J<|S3 2 J<|cA h a2H J J λv36 _ h=>yN ?_
    refine cN h (λhc h=>?_) λhc h=>?_
    ·refine S5 3 J ?_
     refine y0 J (p9 (f:=iF) (cs:=[.I v34]) hv27 J J Ty.p8 Ty.s3 J J)<|S1 1 J<|y0 J (F1 (f:=iF) (l:=[v34]) J Ty.p8 Ty.s3 Ty.z3 J J nl J J)<|l7 h λv37 hv30 h=>D7 J (B6 (f:=iF) hv30 J J J J J J (.inl ⟨_,J,J⟩) Ty.p8 Ty.s3 Ty.b3 Ty.z3 J (λ_=>J)) J J J<|S2 1 J ?_
     exact eJ h (Wk.trans (g7 _ [43]) W)
    ·refine a8 ?_
     exact eJ h (Wk.trans (g7 _ [12]) (WP (λl=>if l=43 then 12 else l)))
  ·refine g8 ?_
   refine a7<|a7<|c4 ?_
   have h:=xL hx21 h
   exact eJ h (Wk.trans (g7 _ [12]) W)

theorem w19_CollectKeeps_ok{a0}:PO Tryz.prog 5 [hold_Heap.Pv a0] (a1F a0) λr=>.bool r:=by
 refine pO Tryz.func5 λr h _ _=>?_
 refine S4 2 J<|b9<|S3 1 J<|cA h a2e J J λv1 _ h=>S1 2 J<|l7 h λv2 hv2 h=>b8 J (λhg=>y5 J I2 J (u9 hv2 hg))<|b8 J (λhg=>J7 (ct hg) J)<|y0 J (n8 J J J (λq=>H5 q))<|yN ?_
 refine cN h (λhc h=>?_) λhc h=>?_
 ·refine sR ?_
  refine cA h I2 J J λv3 _ h=>S2 1 J<|a6 ?_
  cases h
  exact f1
 ·refine a8 ?_
  refine S3 1 J<|cF h B7 J J λv4 _ h=>S2 8 J<|dr [] Ty.K8 (by kernel_rfl) (by kernel_rfl)<|S7 2 J<|l7 h λv5 hv5 h=>Q7 J (n0 J L4 J hv5) J<|S7 2 J<|l7 h λv6 hv6 h=>Q7 J (n0 J a88 J hv6) J<|S7 1 J<|l7 h λv7 hv7 h=>Q7 J (n0 J b3J J hv7) J<|l7 h λv8 hv8 h=>Q7 J (n0 J a65 J hv8) J<|S8 1 J<|b9<|S3 1 J<|cA h a0r J J λv9 _ h=>S2 1 J ?_
  refine cN h (λhc h=>?_) λhc h=>?_
  ·refine S4 1 J ?_
   refine a6 ?_
   cases h
   exact f1
  ·refine a8 ?_
   refine S3 2 J<|cF h L4 J J λv10 hv10 h=>cF h E7 J J λv11 _ h=>S2 1 J ?_
   refine jq h (λ_=>St.of [(1,.ptr 1 0 0),(4,.I v4.2.1),(5,.I v4.2.2),(6,.L iF v8),(7,.L iF v11)] [(1,vR (hold_Heap.Pv a0) 8)]) (λq21 h=>?_) λκ20 h=>?_
   ·refine S3 2 J ?_
    refine yc J (n0 J L4 J hv5)<|cF h E7 J J λv22 _ h=>S2 1 J<|S3 3 J<|b8 J (λhg=>mI J)<|b8 J (λhg=>j8 (ct hg) J J)<|y0 J (k7 J J J (λq=>H0 q))<|S1 1 J<|b8 J (λhg=>om (d:=.L iF v11) J)<|b8 J (λhg=>D6 (f:=iF) (ct hg) Ty.p8)<|b8 J (λhg=>om (d:=.L iF v22) J)<|b8 J (λhg=>D6 (f:=iF) (ct hg) Ty.p8)<|b8 J (λhg=>j8 (ct hg) (ct hg) J)<|y0 J (k7 J J J (λq=>H0 q))<|S1 1 J<|b8 J (λhg=>mI J)<|b8 J (λhg=>j8 (ct hg) J J)<|b8 J (λhg=>om (d:=.bool (v4.2.1==0)) (ct hg))<|b8 (n7 J J J) (λhg=>om (d:=.L iF v11) J)<|b8 (n7 J J J) (λhg=>D6 (f:=iF) (ct hg) Ty.p8)<|b8 (n7 J J J) (λhg=>om (d:=.L iF v8) J)<|b8 (n7 J J J) (λhg=>D6 (f:=iF) (ct hg) Ty.p8)<|b8 (n7 J J J) (λhg=>j8 (ct hg) (ct hg) J)<|b8 J (λhg=>k7 (ct hg) J J (λq=>a1j hg (H0 q)))<|b8 J (λhg=>om (d:=.bool ((v4.2.1==0)&&((v11.length:Int)==(v8.length:Int)))) (ct hg))<|b8 (n7 J J J) (λhg=>mI J)<|b8 (n7 J J J) (λhg=>om (d:=.L iF v22) J)<|b8 (n7 J J J) (λhg=>D6 (f:=iF) (ct hg) Ty.p8)<|b8 (n7 J J J) (λhg=>om (d:=.L iF v8) J)<|b8 (n7 J J J) (λhg=>D6 (f:=iF) (ct hg) Ty.p8) ?_
    refine b8 (n7 J J J) (λhg=>a4D (ct hg) (ct hg) J)<|b8 (n7 J J J) (λhg=>j8 (ct hg) (ct hg) J)<|b8 J (λhg=>k7 (ct hg) J J (λq=>a1j hg (H0 q)))<|y0 J (n8 J J J (λq=>H5 q))<|S2 1 J<|a6 ?_
    cases h
    exact f1
   ·refine S4 1 J ?_
    refine b7<|lq h (λY4=>St.of [(1,.ptr 1 0 0),(3,.ptr 3 0 0),(4,.I v4.2.1),(5,.I v4.2.2),(6,.L iF v8),(7,.L iF v11),(8,.I Y4)] [(3,vR (hold_Heap.Pv v4.1) 8),(1,vR (hold_Heap.Pv a0) 8)]) W λY4 x25 h hx24=>b9<|S3 2 J<|nL J Ty.p8<|S2 1 J ?_
    refine cN h (λhc h=>?_) λhc h=>?_
    ·refine a8 ?_
     refine b9<|b7<|dr [] Ty.K8 (by kernel_rfl) (by kernel_rfl)<|S7 2 J<|Q7 J (n0 J L4 J hv5) J<|S7 2 J<|l7 h λv26 hv25 h=>d0 J (p9 (f:=iF) (cs:=[.I v26]) hv25 J J Ty.p8 Ty.s3 J J) J<|S7 1 J<|l7 h λv27 hv26 h=>Q7 J (n0 J B9 J hv26) J<|S7 4 J<|F0 (x':=z8.Pv v27.1) (cl':=true) J J (.inr J) Ty.s62<|S8 1 J<|dr [] Ty.K8 (by kernel_rfl) (by kernel_rfl)<|S7 2 J<|Q7 J (n0 J L4 J hv10) J<|S7 2 J<|d0 J (p9 (f:=iF) (cs:=[.I v26]) hv25 J J Ty.p8 Ty.s3 J J) J<|S7 1 J<|l7 h λv28 hv27 h=>Q7 J (n0 J B9 J hv27) J<|S7 4 J<|F0 (x':=z8.Pv v28.1) (cl':=true) J J (.inr J) Ty.s62<|S8 1 J<|S3 3 J<|b8 J (λhg=>oF J Ty.b2C J)<|b8 J (λhg=>oS (ct hg) J J Ty.a3 J)<|b8 J (λhg=>oF J Ty.b2C J)<|b8 J (λhg=>oS (ct hg) J J Ty.a3 J)<|b8 J (λhg=>j8 (ct hg) (ct hg) J)<|y0 J (n8 J J J (λq=>H5 q))<|S1 1 J<|b8 J (λhg=>oF J Ty.b2D J)<|b8 J (λhg=>oS (ct hg) J J Ty.a27 J)<|b8 J (λhg=>oF J Ty.b2D J)<|b8 J (λhg=>oS (ct hg) J J Ty.a27 J)<|l7 h λv29 hv28 h=>b8 J (λhg=>y5 J a0x (o8 (ct hg) (o8 (ct hg) J)) (u9 hv28 hg))<|b8 J (λhg=>J7 (ct hg) J)<|y0 J (n8 J J J (λq=>H5 q))<|S1 1 J<|b8 J (λhg=>om (d:=.L iF v11) J)<|b8 J (λhg=>om (d:=.L iF v8) J)<|b8 J (λhg=>mI J)<|b8 J (λhg=>p9 (f:=iF) (cs:=[.I v26]) hv25 (ct hg) (ct hg) Ty.p8 Ty.s3 J J)<|b8 J (λhg=>B1 (ct hg) Ty.a3 J)<|l7 h λv30 hv29 h=>b8 J (λhg=>y5 J M7 (o8 (ct hg) (o8 (ct hg) J)) (u9 hv29 hg))<|b8 J (λhg=>j8 (ct hg) J J)<|y0 J (n8 J J J (λq=>H5 q))<|yN ?_
     refine cN h (λhc h=>?_) λhc h=>?_
     ·refine S4 1 J ?_
      refine a6 ?_
      have h:=xL hx24 h
      cases h
      exact f1
     ·refine a8 ?_
      refine S6 3 J ?_
      exact eL h W
    ·refine g8 ?_
     refine a7<|a7<|c4 ?_
     have h:=xL hx24 h
     exact eJ h W

theorem w19_CollectWeak_ok{a0}:PO Tryz.prog 6 [hold_Heap.Pv a0] (a2u a0) λr=>.bool r:=by
 refine pO Tryz.func6 λr h _ _=>?_
 refine S4 2 J<|b9<|S3 1 J<|cA h a2e J J λv1 _ h=>S1 2 J<|l7 h λv2 hv2 h=>b8 J (λhg=>y5 J I2 J (u9 hv2 hg))<|b8 J (λhg=>J7 (ct hg) J)<|y0 J (n8 J J J (λq=>H5 q))<|yN ?_
 refine cN h (λhc h=>?_) λhc h=>?_
 ·refine sR ?_
  refine cA h I2 J J λv3 _ h=>S2 1 J<|a6 ?_
  cases h
  exact f1
 ·refine a8 ?_
  refine S3 1 J<|cF h B7 J J λv4 _ h=>S2 8 J<|b9<|S3 1 J<|cA h a0r J J λv5 _ h=>S1 2 J<|b8 J (λhg=>oF J Ty.b1m J)<|b8 J (λhg=>oS (ct hg) J J Ty.a28 J)<|b8 J (λhg=>D6 (f:=weak_Cell.Pv) (ct hg) Ty.e28)<|b8 J (λhg=>oF J Ty.b1m J)<|b8 J (λhg=>oS (ct hg) J J Ty.a28 J)<|b8 J (λhg=>D6 (f:=weak_Cell.Pv) (ct hg) Ty.e28)<|b8 J (λhg=>j8 (ct hg) (ct hg) J)<|y0 J (n8 J J J (λq=>H5 q))<|yN ?_
  refine cN h (λhc h=>?_) λhc h=>?_
  ·refine S4 1 J ?_
   refine a6 ?_
   cases h
   exact f1
  ·refine a8 ?_
   refine S3 2 J<|cF h L4 J J λv6 _ h=>cF h E7 J J λv7 _ h=>S2 1 J ?_
   refine jq h (λ_=>St.of [] []) (λq15 h=>?_) λκ14 h=>?_
   ·refine S4 1 J ?_
    refine a6 ?_
    cases h
    exact f1
   ·refine S4 1 J ?_
    refine b7<|lq h (λs17=>St.of [(1,.ptr 1 0 0),(3,.ptr 3 0 0),(6,.L iF v7),(7,.I s17)] [(3,vR (hold_Heap.Pv v4.1) 8),(1,vR (hold_Heap.Pv a0) 8)]) W λs17 x18 h hx17=>b9<|S3 3 J<|nL J Ty.e28<|S2 1 J ?_
    refine cN h (λhc h=>?_) λhc h=>?_
    ·refine a8 ?_
     refine b9<|b7<|S3 3 J<|iL h J J Ty.e28 Ty.s68 λv19 _ h=>S2 3 J<|dr [] Ty.K8 (by kernel_rfl) (by kernel_rfl)<|S7 3 J<|l7 h λv20 hv19 h=>d0 J (p9 (f:=weak_Cell.Pv) (cs:=weak_Cell.Pc v20) hv19 J J Ty.e28 Ty.s68 J J) J<|S7 6 J<|m7 J (λhg _ hN=>oF J Ty.b1m J) J<|s6 J (λhg=>oS (ct hg) J J Ty.a28 J) J<|m7 J (λhg _ hN=>mI J) J<|s6 J (λhg=>p9 (f:=weak_Cell.Pv) (cs:=weak_Cell.Pc v20) hv19 (ct hg) (ct hg) Ty.e28 Ty.s68 J J) J<|m7 J (λhg _ hN=>z6 (ct hg) Ty.b9F J) J<|s6 J (λhg=>B1 (ct hg) Ty.a4 J) J<|m7 J (λhg _ hN=>oF J Ty.b9F J) J<|s6 J (λhg=>oS (ct hg) J J Ty.a4 J) J<|m7 J (λhg _ hN=>om (d:=.bool v19.Intact) (ct hg)) J<|m7 (n7 J J J) (λhg _ hN=>om (d:=.L iF v7) J) J<|m7 (n7 J J J) (λhg _ hN=>oF J Ty.b9E J) J<|s6 (n7 J J J) (λhg=>oS (ct hg) J J Ty.a3 J) J<|l7 h λv21 hv20 h=>X7 (n7 J J J) (λhg=>y5 J M7 (o8 (ct hg) (o8 (ct hg) J)) (u9 hv20 hg)) J<|m7 (n7 J J J) (λhg _ hN=>j8 (ct hg) J J) J<|m7 J (λhg _ hN=>k7 (ct hg) J J (λq=>a1j hg (H0 q))) J<|m7 J (λhg _ hN=>c8C (ct hg) (ct hg) Ty.u4 J) J<|d7 J (λ_ hN=>n8 J J J (λq=>H5 q)) J<|F6 ?_
     refine cN h (λhc h=>?_) λhc h=>?_
     ·refine S4 1 J ?_
      refine a6 ?_
      have h:=xL hx17 h
      cases h
      exact f1
     ·refine a8 ?_
      refine S6 3 J ?_
      exact eL h W
    ·refine g8 ?_
     refine a7<|a7<|c4 ?_
     have h:=xL hx17 h
     exact eJ h W

theorem w19_CollectSaves_ok{a0}:PO Tryz.prog 8 [hold_Heap.Pv a0] (a1G a0) λr=>.bool r:=by
 refine pO Tryz.func8 λr h _ _=>?_
 refine S4 2 J<|b9<|S3 1 J<|cA h a2e J J λv1 _ h=>S1 2 J<|l7 h λv2 hv2 h=>b8 J (λhg=>y5 J I2 J (u9 hv2 hg))<|b8 J (λhg=>J7 (ct hg) J)<|y0 J (n8 J J J (λq=>H5 q))<|yN ?_
 refine cN h (λhc h=>?_) λhc h=>?_
 ·refine sR ?_
  refine cA h I2 J J λv3 _ h=>S2 1 J<|a6 ?_
  cases h
  exact f1
 ·refine a8 ?_
  refine S3 1 J<|cF h W3 J J λv4 _ h=>S2 1 J<|S3 1 J<|cF h B7 J J λv5 _ h=>S2 8 J<|b9<|S3 1 J<|nL J Ty.p8<|S1 2 J<|b8 J (λhg=>mI J)<|b8 J (λhg=>om (d:=.L iF v4) J)<|b8 J (λhg=>D6 (f:=iF) (ct hg) Ty.p8)<|b8 J (λhg=>j8 (ct hg) (ct hg) J)<|y0 J (n8 J J J (λq=>H5 q))<|S1 1 J<|b8 J (λhg=>oL J J J Ty.O2 Ty.I6 nl J)<|l7 h λv6 hv6 h=>b8 J (λhg=>y5 J a0r (o8 (ct hg) J) (u9 hv6 hg))<|b8 J (λhg=>J7 (ct hg) J)<|y0 J (n8 J J J (λq=>H5 q))<|yN ?_
  refine cN h (λhc h=>?_) λhc h=>?_
  ·refine S4 1 J ?_
   refine a6 ?_
   cases h
   exact f1
  ·refine a8 ?_
   refine S3 1 J<|cF h J1 J J λv7 _ h=>cF h V4 J J λv8 _ h=>S2 1 J<|dr [] Ty.K8 (by kernel_rfl) (by kernel_rfl)<|S7 2 J<|l7 h λv9 hv9 h=>Q7 J (n0 J L4 J hv9) J<|S7 2 J<|l7 h λv10 hv10 h=>Q7 J (n0 J a88 J hv10) J<|S7 1 J<|l7 h λv11 hv11 h=>Q7 J (n0 J a65 J hv11) J<|S8 1 J ?_
   refine jq h (λ_=>St.of [(3,.L iF v4),(4,.ptr 4 0 0),(8,.L iF v11)] [(4,vR (hold_Heap.Pv v5.1) 8)]) (λq18 h=>?_) λκ17 h=>?_
   ·refine jq h (λ_=>St.of [] []) (λq26 h=>?_) λκ25 h=>?_
    ·refine S4 1 J ?_
     refine a6 ?_
     cases h
     exact f1
    ·refine S4 1 J ?_
     refine b7<|lq h (λs28=>St.of [(3,.L iF v4),(4,.ptr 4 0 0),(8,.L iF v11),(10,.I s28)] [(4,vR (hold_Heap.Pv v5.1) 8)]) W λs28 x29 h hx27=>b9<|S3 2 J<|nL J Ty.p8<|S2 1 J ?_
     refine cN h (λhc h=>?_) λhc h=>?_
     ·refine a8 ?_
      refine b9<|b7<|dr [] Ty.K8 (by kernel_rfl) (by kernel_rfl)<|S7 2 J<|Q7 J (n0 J L4 J hv9) J<|S7 2 J<|l7 h λv30 hv28 h=>d0 J (p9 (f:=iF) (cs:=[.I v30]) hv28 J J Ty.p8 Ty.s3 J J) J<|S7 1 J<|l7 h λv31 hv29 h=>Q7 J (n0 J B9 J hv29) J<|S7 4 J<|F0 (x':=z8.Pv v31.1) (cl':=true) J J (.inr J) Ty.s62<|S8 1 J<|S3 3 J<|b8 J (λhg=>oF J Ty.b4D J)<|b8 J (λhg=>oS (ct hg) J J Ty.a4 J)<|b8 J (λhg=>J7 (ct hg) J)<|y0 J (n8 J J J (λq=>H5 q))<|S1 1 J<|b8 J (λhg=>om (d:=.L iF v11) J)<|b8 J (λhg=>om (d:=.L iF v4) J)<|b8 J (λhg=>mI J)<|b8 J (λhg=>p9 (f:=iF) (cs:=[.I v30]) hv28 (ct hg) (ct hg) Ty.p8 Ty.s3 J J)<|b8 J (λhg=>B1 (ct hg) Ty.a3 J)<|l7 h λv32 hv30 h=>b8 J (λhg=>y5 J M7 (o8 (ct hg) (o8 (ct hg) J)) (u9 hv30 hg))<|b8 J (λhg=>j8 (ct hg) J J)<|y0 J (n8 J J J (λq=>H5 q))<|yN ?_
      refine cN h (λhc h=>?_) λhc h=>?_
      ·refine S4 1 J ?_
       refine a6 ?_
       have h:=xL hx27 h
       cases h
       exact f1
      ·refine a8 ?_
       refine S6 3 J ?_
       exact eL h W
     ·refine g8 ?_
      refine a7<|a7<|c4 ?_
      have h:=xL hx27 h
      exact eJ h W
   ·refine S4 1 J ?_
    refine b7<|lq h (λI6=>St.of [(3,.L iF v4),(4,.ptr 4 0 0),(7,.L iF v8),(8,.L iF v11),(9,.I I6)] [(4,vR (hold_Heap.Pv v5.1) 8)]) W λI6 x35 h hx33=>b9<|S3 2 J<|nL J Ty.p8<|S2 1 J ?_
    refine cN h (λhc h=>?_) λhc h=>?_
    ·refine a8 ?_
     refine b9<|b7<|S3 3 J<|iL h J J Ty.p8 Ty.s3 λv36 _ h=>S1 1 J<|cA h M7 J J λv37 _ h=>S2 1 J ?_
     refine cN h (λhc h=>?_) λhc h=>?_
     ·refine S4 1 J ?_
      refine a6 ?_
      have h:=xL hx33 h
      cases h
      exact f1
     ·refine a8 ?_
      refine S6 3 J ?_
      exact eL h W
    ·refine g8 ?_
     refine a7<|a7<|c4 ?_
     have h:=xL hx33 h
     exact eJ h W

end Go.Proofs.YtlkcpapbolbjnaaGreat.Ok
