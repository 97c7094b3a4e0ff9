/-
 The functions of the program do as the plain functions do.
-/
import Derived.Test.YtlkcpapbolbjnaaGreatO19rOk1
set_option linter.unusedVariables false
set_option linter.unusedSimpArgs false
set_option linter.unusedSectionVars false
namespace Go.Proofs.YtlkcpapbolbjnaaGreat.Ok
open Go Go.Pw Go.Sh Go.Proofs
set_option maxRecDepth 100000
set_option maxHeartbeats 4000000
theorem W8{a0 a1}:PO Tryz.prog 39 [b6.Pv a0,.L k8.Pv a1] (G3 a0 a1) λr=>.tup [b6.Pv r.1,.L iF r.2]:=by
 refine pO Tryz.func39 λr h _ _=>?_
 refine S4 3 J<|S4 1 J ?_
 refine jq h (λq=>St.of [(2,.ptr 2 0 0),(4,.ptr 4 0 0),(6,.sl 910006)] [(910006,⟨List.map iF q.2,(List.map iF q.2).length,true,1,true⟩),(4,vR (.agg [.nl,.I 0,.I 0,.nl,.nl,.nl,.nl,.I 0]) 8),(2,vR (b6.Pv q.1) 8)]) (λq13 h=>?_) λκ10 h=>?_
 ·obtain⟨j11,j12⟩:=q13
  refine S4 4 J<|b9 ?_
  cases h
  exact⟨J,[_,_],⟨oL J J J Ty.U0 Ty.M5 nl J,⟨J,tr⟩⟩,J,io⟩
 ·refine S3 1 J ?_
  refine nL J Ty.e74<|S2 1 J<|g8<|lq h (λq=>St.of [(2,.ptr 2 0 0),(4,.ptr 4 0 0),(6,.sl 910006),(10,.L k8.Pv a1),(11,.I (a1.length:Int)),(12,.I q.1)] [(4,vR (.agg [.nl,.I 0,.I 0,.nl,.nl,.nl,.nl,.I 0]) 8),(2,vR (b6.Pv q.2.1) 8),(910006,⟨List.map iF q.2.2,(List.map iF q.2.2).length,true,1,true⟩)]) (Wk.trans (R9 (t:=6) (l:=920006) (z:=1) J J) (WP (λl=>if l=910006 then 920006 else l))) λq19 x18 h hx10=>?_
  obtain⟨s15,s16,s17⟩:=q19
  refine S4 1 J<|j5 ?_
  refine cN h (λhc h=>?_) λhc h=>?_
  ·refine c8 ?_
   refine j5<|g8<|sR<|iL h J J Ty.e74 Ty.s73 λv20 _ h=>S2 3 J<|S4 1 J<|S3 2 J<|cF h b3U J J λv21 _ h=>S2 6 J<|S5 2 J<|y0 J (Q2 (f:=iF) (l:=[v21.2.1]) J Ty.D0 Ty.s3 Ty.z3 J J nl J J)<|B2 h λv22 hv13 h=>Y5 J (V6 (f:=iF) hv13 J J J J J J (.inl ⟨_,J,J⟩) Ty.D0 Ty.s3 Ty.b3 Ty.z3 J (λ_=>J)) J J J<|S2 1 J<|S6 2 J ?_
   exact eL h (Wk.trans (n8 _ [26]) (WP (λl=>if l=910006 then 26 else l)))
  ·refine o8 ?_
   refine g6<|g6<|l7 ?_
   have h:=xL hx10 h
   exact eJ h (Wk.trans (n8 _ [910006]) W)

theorem b3Z{a0}:PO Tryz.prog 384 [a7.Pv a0] (a5S a0) λr=>.fn (.func 396) [.rptr (a7.Pc r)]:=by
 refine pO Tryz.func384 λr h _ _=>?_
 unfold a5S at h
 refine S4 2 J<|S4 2 J<|b9 ?_
 cases h
 exact f1

theorem b1o{a0 a1}:PO Tryz.prog 361 [a7.Pv a0,.I a1] (a40 a0 a1) λr=>.L iF r:=by
 refine pO Tryz.func361 λr h _ _=>?_
 refine S4 2 J<|S3 2 J<|cF h w7 J J λv1 _ h=>S2 6 J<|S3 2 J<|cF h b0i J J λv2 _ h=>S2 1 J<|b9 ?_
 cases h
 exact f1

theorem b8y{a0 a1}:PO Tryz.prog 348 [a7.Pv a0,.I a1] (b16 a0 a1) λr=>.I r:=by
 refine pO Tryz.func348 λr h _ _=>?_
 refine S4 3 J<|S4 2 J ?_
 refine jq h (λj31=>St.of [(5,.ptr 2001 0 0)] [(2001,vR (.I j31) 1)]) (λj31 h=>?_) λκ30 h=>?_
 ·refine S4 2 J ?_
  refine b9 ?_
  cases h
  exact f1
 ·refine S3 1 J ?_
  refine cF h b3Z J J λv32 _ h=>yN<|g8<|a1y (WPE (λl=>if l=2003 then 5 else if l=2004 then 3 else l) [(3,.ptr 2004 0 0),(5,.ptr 2003 0 0),(9,.fn (.func 396) [.rptr (a7.Pc v32)])] [(2003,vR (.I 0) 1),(2004,vR (.I a1) 1)]) ?_
  refine a0m (fn:=Tryz.f396) (N1:=29) J Tryz.func396 J J nl J Ty.c90 J J (λl33 e34 o35 hR36=>?_)
  refine b67<|j5<|b66<|S3 1 J<|cF h C4 J J λv33 _ h=>nL J Ty.D0<|S2 1 J<|g8<|lq h (λq=>St.of [(1000003,.ptr 2004 0 0),(1000005,.ptr 2003 0 0),(1000009,.fn (.func 396) [.rptr (a7.Pc v32)]),(0,.fn (.yield l33) []),(1,.rptr (a7.Pc v32)),(8,.L iF v33),(9,.I (v33.length:Int)),(10,.I q.1)] [(2003,vR (.I q.2) 1),(2004,vR (.I a1) 1)]) W λq38 x37 h hx40=>?_
  obtain⟨s35,s36⟩:=q38
  refine S4 1 J<|j5 ?_
  refine cN h (λhc h=>?_) λhc h=>?_
  ·refine c8 ?_
   refine jq h (λj50=>St.of [(1000003,.ptr 2004 0 0),(1000005,.ptr 2003 0 0),(1000009,.fn (.func 396) [.rptr (a7.Pc v32)]),(0,.fn (.yield l33) []),(1,.rptr (a7.Pc v32)),(8,.L iF v33),(9,.I (v33.length:Int)),(10,.I s35)] [(2003,vR (.I j50) 1),(2004,vR (.I a1) 1)]) (λj50 h=>?_) λκ49 h=>?_
   ·refine S6 2 J ?_
    exact eL h W
   ·refine g8 ?_
    refine sR<|iL h J J Ty.D0 Ty.s3 λv51 _ h=>S2 2 J<|S3 2 J<|cF h b1o J J λv52 _ h=>nL J Ty.D0<|S2 1 J<|g8<|lq h (λq=>St.of [(1000003,.ptr 2004 0 0),(1000005,.ptr 2003 0 0),(1000009,.fn (.func 396) [.rptr (a7.Pc v32)]),(0,.fn (.yield l33) []),(1,.rptr (a7.Pc v32)),(4,.I v51),(8,.L iF v33),(9,.I (v33.length:Int)),(10,.I s35),(16,.L iF v52),(17,.I (v52.length:Int)),(18,.I q.1)] [(2003,vR (.I q.2) 1),(2004,vR (.I a1) 1)]) W λq57 x56 h hx56=>?_
    obtain⟨s54,s55⟩:=q57
    refine S4 1 J<|j5 ?_
    refine cN h (λhc h=>?_) λhc h=>?_
    ·refine c8 ?_
     refine j5<|g8<|sR<|iL h J J Ty.D0 Ty.s3 λv58 _ h=>S2 2 J<|S3 3 J<|G9 (WE [(1000003,.ptr 2004 0 0),(1000005,.ptr 2003 0 0),(1000009,.fn (.func 396) [.rptr (a7.Pc v32)]),(0,.fn (.yield l33) []),(1,.rptr (a7.Pc v32)),(4,.I v51),(8,.L iF v33),(9,.I (v33.length:Int)),(10,.I s35),(16,.L iF v52),(17,.I (v52.length:Int)),(18,.I s54),(22,.fn (.yield l33) []),(23,.I v51),(24,.I v58)] [(2003,vR (.I s55) 1),(2004,vR (.I a1) 1)]) ?_
     refine a4m hR36 J J J J J J (λe58 o59 o60=>?_)
     refine S6 1 J ?_
     refine⟨J,?_⟩
     refine jqE h (λj60=>St.of [(2000003,.ptr 2004 0 0),(2000005,.ptr 2003 0 0),(2000009,.fn (.func 396) [.rptr (a7.Pc v32)]),(1000000,.fn (.yield l33) []),(1000001,.rptr (a7.Pc v32)),(1000004,.I v51),(1000008,.L iF v33),(1000009,.I (v33.length:Int)),(1000010,.I s35),(1000016,.L iF v52),(1000017,.I (v52.length:Int)),(1000018,.I s54),(1000022,.fn (.yield l33) []),(1000023,.I v51),(1000024,.I v58)] [(2003,vR (.I j60) 1),(2004,vR (.I a1) 1)]) (λj60 h=>?_) λκ59 h=>?_
     ·refine⟨J,?_⟩
      refine G9 (WE [(1000003,.ptr 2004 0 0),(1000005,.ptr 2003 0 0),(1000009,.fn (.func 396) [.rptr (a7.Pc v32)]),(0,.fn (.yield l33) []),(1,.rptr (a7.Pc v32)),(4,.I v51),(8,.L iF v33),(9,.I (v33.length:Int)),(10,.I s35),(16,.L iF v52),(17,.I (v52.length:Int)),(18,.I s54),(25,.bool true)] [(2003,vR (.I j60) 1),(2004,vR (.I a1) 1)])<|S2 1 J ?_
      refine D8 false J (λq=>nomatch q) (λ_=>?_)
      refine c8<|S6 2 J ?_
      exact eL h W
     ·refine g8 ?_
      refine S4 3 J ?_
      refine cN h (λhc h=>?_) λhc h=>?_
      ·refine S6 3 J ?_
       exact eJ h W
      ·refine c8 ?_
       exact eJ h W
    ·refine o8 ?_
     refine g6<|g6<|l7 ?_
     have h:=xL hx56 h
     exact eJ h W
  ·refine o8 ?_
   refine g6<|g6<|l7<|b31 ?_
   refine .inl ⟨J,?_⟩
   have h:=xL hx40 h
   exact eJ h (WP (λl=>if l=2001 then 2003 else l))

theorem a6H{a0}:PO Tryz.prog 275 [.L b8.Pv a0] (a0K a0) λr=>.fn (.func 344) [.rptr [.L b8.Pv r]]:=by
 refine pO Tryz.func275 λr h _ _=>?_
 unfold a0K at h
 refine S4 2 J<|S4 2 J<|b9 ?_
 cases h
 exact f1

theorem a9w{a0}:PO Tryz.prog 345 [.L b8.Pv a0] (a4H a0) λr=>.L iF r:=by
 refine pO Tryz.func345 λr h _ _=>?_
 refine S4 1 J<|S4 1 J ?_
 refine jq h (λj13=>St.of [(3,.sl 910003)] [(910003,⟨List.map iF j13,(List.map iF j13).length,true,1,true⟩)]) (λj13 h=>?_) λκ12 h=>?_
 ·refine S4 2 J ?_
  refine b9 ?_
  cases h
  exact f1
 ·refine S3 1 J ?_
  refine nL J Ty.e29<|S2 1 J<|g8<|lq h (λq=>St.of [(3,.sl 910003),(6,.L b8.Pv a0),(7,.I (a0.length:Int)),(8,.I q.1)] [(910003,⟨List.map iF q.2,(List.map iF q.2).length,true,1,true⟩)]) (Wk.trans (R9 (t:=3) (l:=920003) (z:=1) J J) (WP (λl=>if l=910003 then 920003 else l))) λq18 x17 h hx12=>?_
  obtain⟨s15,s16⟩:=q18
  refine S4 1 J<|j5 ?_
  refine cN h (λhc h=>?_) λhc h=>?_
  ·refine c8 ?_
   refine jq h (λj22=>St.of [(3,.sl 19),(6,.L b8.Pv a0),(7,.I (a0.length:Int)),(8,.I s15)] [(19,⟨List.map iF j22,(List.map iF j22).length,true,1,true⟩)]) (λj22 h=>?_) λκ21 h=>?_
   ·refine S6 2 J ?_
    exact eL h (Wk.trans (n8 _ [19]) (WP (λl=>if l=910003 then 19 else l)))
   ·refine g8 ?_
    refine sR<|iL h J J Ty.e29 Ty.a95 λv23 _ h=>S2 3 J<|S4 3 J ?_
    refine cN h (λhc h=>?_) λhc h=>?_
    ·refine S5 3 J ?_
     refine y0 J (Q2 (f:=iF) (l:=[v23.Key]) J Ty.D0 Ty.s3 Ty.z3 J J nl J J)<|B2 h λv24 hv17 h=>Y5 J (V6 (f:=iF) hv17 J J J J J J (.inl ⟨_,J,J⟩) Ty.D0 Ty.s3 Ty.b3 Ty.z3 J (λ_=>J)) J J J<|S2 1 J ?_
     exact eJ h (Wk.trans (n8 _ [19]) W)
    ·refine c8 ?_
     exact eJ h (Wk.trans (n8 _ [910003]) (WP (λl=>if l=19 then 910003 else l)))
  ·refine o8 ?_
   refine g6<|g6<|l7 ?_
   have h:=xL hx12 h
   exact eJ h (Wk.trans (n8 _ [910003]) W)

theorem b0u{a0 a1}:PO Tryz.prog 385 [l5.Pv a0,.rptr [.I a1]] (a1Z a0 a1) λr=>.bool r:=by
 refine pO Tryz.func385 λr h _ _=>?_
 unfold a1Z at h
 refine S4 2 J<|S3 3 J<|j8 J (λhg=>oF J Ty.b7Y J)<|j8 J (λhg=>oS (ct hg) J J Ty.a3 J)<|j8 J (λhg=>a1a J Ty.a3 J)<|j8 J (λhg=>w8 (ct hg) (ct hg) J)<|y0 J (r9 J J J (λq=>eqT q))<|S2 1 J<|b9 ?_
 cases h
 exact f1

theorem H0{a0 a1}:PO Tryz.prog 274 [.fn (.func 344) [.rptr [.L b8.Pv a0]],.fn (.func 385) [.rptr [.I a1]]] (w9 a0 a1) λr=>.L l5.Pv r:=by
 refine pO Tryz.func274 λr h _ _=>?_
 refine S4 2 J<|S4 1 J ?_
 refine jq h (λj16=>St.of [(5,.ptr 2001 0 0)] [(2001,vS (.sl 912501) 1),(912501,⟨List.map l5.Pv j16,(List.map l5.Pv j16).length,true,2,true⟩)]) (λj16 h=>?_) λκ15 h=>?_
 ·refine S4 2 J ?_
  refine b9 ?_
  cases h
  exact f1
 ·refine S4 1 J ?_
  refine g8<|a1y (WPE (λl=>if l=2012 then 5 else if l=2013 then 3 else l) [(3,.ptr 2013 0 0),(5,.ptr 2012 0 0),(7,.fn (.func 344) [.rptr [.L b8.Pv a0]])] [(2012,vR (.nl) 1),(2013,vR (.fn (.func 385) [.rptr [.I a1]]) 1)]) ?_
  refine a0m (fn:=Tryz.f344) (N1:=27) J Tryz.func344 J J nl J Ty.c8d J J (λl20 e21 o22 hR23=>?_)
  refine S3 1 J<|cF h a9w J J λv17 _ h=>nL J Ty.D0<|S2 1 J<|g8<|lq h (λq=>St.of [(1000003,.ptr 2013 0 0),(1000005,.ptr 2012 0 0),(1000007,.fn (.func 344) [.rptr [.L b8.Pv a0]]),(0,.fn (.yield l20) []),(1,.rptr [.L b8.Pv a0]),(8,.L iF v17),(9,.I (v17.length:Int)),(10,.I q.1)] [(2012,vS (.sl 912512) 1),(2013,vR (.fn (.func 385) [.rptr [.I a1]]) 1),(912512,⟨List.map l5.Pv q.2,(List.map l5.Pv q.2).length,true,2,true⟩)]) (Wk.trans (b0l (l0:=2012) (j:=0) (l:=922512) (z:=2) J J J J J) (WP (λl=>if l=912512 then 922512 else l))) λq22 x21 h hx27=>?_
  obtain⟨s19,s20⟩:=q22
  refine S4 1 J<|j5 ?_
  refine cN h (λhc h=>?_) λhc h=>?_
  ·refine c8 ?_
   refine j5<|g8<|sR<|iL h J J Ty.D0 Ty.s3 λv23 _ h=>S2 2 J<|S3 2 J<|cA h a3Z J J λv24 _ h=>S2 5 J<|S3 3 J<|y0 J (o0 (cs:=[.I v23,.I v24.1]) J Ty.c8u Ty.c09 J J J)<|G9 (WPE (λl=>if l=2021 then 912512 else l) [(1000003,.ptr 2013 0 0),(1000005,.ptr 2012 0 0),(1000007,.fn (.func 344) [.rptr [.L b8.Pv a0]]),(0,.fn (.yield l20) []),(1,.rptr [.L b8.Pv a0]),(8,.L iF v17),(9,.I (v17.length:Int)),(10,.I s19),(20,.fn (.yield l20) []),(23,.agg [.I v23,.I v24.1])] [(2012,vS (.sl 2021) 1),(2021,⟨List.map l5.Pv s20,(List.map l5.Pv s20).length,true,2,true⟩),(2013,vR (.fn (.func 385) [.rptr [.I a1]]) 1)]) ?_
   refine a4m hR23 J J J J J J (λe30 o31 o32=>?_)
   refine S6 2 J ?_
   refine⟨J,?_⟩
   refine jqE h (λj28=>St.of [(2000003,.ptr 2013 0 0),(2000005,.ptr 2012 0 0),(2000007,.fn (.func 344) [.rptr [.L b8.Pv a0]]),(1000000,.fn (.yield l20) []),(1000001,.rptr [.L b8.Pv a0]),(1000008,.L iF v17),(1000009,.I (v17.length:Int)),(1000010,.I s19),(1000020,.fn (.yield l20) []),(1000023,.agg [.I v23,.I v24.1])] [(2012,vS (.sl 15) 1),(15,⟨List.map l5.Pv j28,(List.map l5.Pv j28).length,true,2,true⟩),(2013,vR (.fn (.func 385) [.rptr [.I a1]]) 1)]) (λj28 h=>?_) λκ27 h=>?_
   ·refine⟨J,?_⟩
    refine G9 (WPE (λl=>if l=2022 then 15 else l) [(1000003,.ptr 2013 0 0),(1000005,.ptr 2012 0 0),(1000007,.fn (.func 344) [.rptr [.L b8.Pv a0]]),(0,.fn (.yield l20) []),(1,.rptr [.L b8.Pv a0]),(8,.L iF v17),(9,.I (v17.length:Int)),(10,.I s19),(24,.bool true)] [(2012,vS (.sl 2022) 1),(2022,⟨List.map l5.Pv j28,(List.map l5.Pv j28).length,true,2,true⟩),(2013,vR (.fn (.func 385) [.rptr [.I a1]]) 1)])<|S2 1 J ?_
    refine D8 false J (λq=>nomatch q) (λ_=>?_)
    refine c8<|S6 2 J ?_
    exact eL h (Wk.trans (n8 _ [2022]) (WP (λl=>if l=912512 then 2022 else l)))
   ·refine g8 ?_
    refine S3 2 J<|cA h b0u J J λv29 _ h=>yN ?_
    refine cN h (λhc h=>?_) λhc h=>?_
    ·refine S5 2 J ?_
     refine y0 J (Q2 (f:=l5.Pv) (l:=[(⟨v23,v24.1⟩:l5)]) J Ty.b44 Ty.c0T Ty.c09 J J nl J J)<|B2 h λv30 hv37 h=>Y5 J (V6 (f:=l5.Pv) hv37 J J J J J J (.inl ⟨_,J,J⟩) Ty.b44 Ty.c0T Ty.c7V Ty.c09 J (λ_=>J)) J J J<|S2 1 J ?_
     exact eJ h (Wk.trans (n8 _ [15]) W)
    ·refine c8 ?_
     exact eJ h (Wk.trans (n8 _ [2021]) (WP (λl=>if l=15 then 2021 else l)))
  ·refine o8 ?_
   refine g6<|g6<|l7 ?_
   refine .inl ⟨J,?_⟩
   have h:=xL hx27 h
   exact eJ h (Wk.trans (n8 _ [912512]) (WP (λl=>if l=2001 then 2012 else if l=912501 then 912512 else l)))

theorem b2m{a0 a1}:PO Tryz.prog 349 [.L b8.Pv a0,.I a1] (a3W a0 a1) λr=>.I r:=by
 refine pO Tryz.func349 λr h _ _=>?_
 refine S4 2 J<|S3 1 J<|cF h a6H J J λv1 _ h=>S1 1 J<|B2 h λv2 hv2 h=>ycL J (A0 J H0 J hv2) J<|nL J Ty.b44<|S2 1 J<|b9 ?_
 cases h
 exact f1

theorem b3t{a0 a1 a2}:PO Tryz.prog 282 [a7.Pv a0,.L b8.Pv a1,.I a2] (a4l a0 a1 a2) λr=>.I r:=by
 refine pO Tryz.func282 λr h _ _=>?_
 refine S4 2 J<|S3 2 J<|cA h b8y J J λv1 _ h=>S1 2 J<|cA h b2m J J λv2 _ h=>S2 2 J<|b9 ?_
 cases h
 exact f1

theorem a8A{a0 a1 a2}:PO Tryz.prog 212 [a7.Pv a0,.L b8.Pv a1,.I a2] (a3J a0 a1 a2) λr=>.I r:=by
 refine pO Tryz.func212 λr h _ _=>?_
 refine S4 2 J<|S3 2 J<|cF h w7 J J λv1 _ h=>S2 6 J<|j5<|S4 2 J ?_
 refine cN h (λhc h=>?_) λhc h=>?_
 ·refine S4 1 J ?_
  refine b9 ?_
  cases h
  exact f1
 ·refine c8 ?_
  refine dr [] Ty.mix (by kernel_rfl) (by kernel_rfl)<|S7 5 J<|B2 h λv2 hv2 h=>d2 J (L9 J b3t J hv2) J<|S8 2 J<|b9 ?_
  cases h
  exact f1

theorem a6E{a0}:PO Tryz.prog 211 [.I a0] (a2c a0) λr=>.bool r:=by
 refine pO Tryz.func211 λr h _ _=>?_
 refine S4 1 J<|S3 1 J<|cA h W0 J J λv1 _ h=>S2 1 J<|b9 ?_
 cases h
 exact f1

theorem b1K{a0 a1 a2 a3}:PO Tryz.prog 232 [.I a0,k9.Pv a1,.rptr (a7.Pc a2),.rptr [.L b8.Pv a3]] (a6a a0 a1 a2 a3) λr=>.bool r:=by
 refine pO Tryz.func232 λr h _ _=>?_
 refine S4 2 J<|S3 3 J<|cA h a8A J J λv1 _ h=>S1 2 J<|j8 J (λhg=>oF J Ty.b7V J)<|j8 J (λhg=>oS (ct hg) J J Ty.a3 J)<|B2 h λv2 hv2 h=>j8 J (λhg=>L9 J a6E (L1 (ct hg) J) (W9 hv2 hg))<|y0 J (F0 J J J (λq=>eqF q))<|S2 1 J<|b9 ?_
 cases h
 exact f1

theorem b36{a0 a1}:PO Tryz.prog 149 [a7.Pv a0,.L b8.Pv a1] (a59 a0 a1) λr=>.L iF r:=by
 refine pO Tryz.func149 λr h _ _=>?_
 refine S4 3 J<|S3 1 J<|y0 J (o0 (cs:=[.fn (.func 232) [.ptr 2 0 0,.ptr 3 0 0]]) J Ty.c8v Ty.c9b J J J)<|G9 (a2x 7 (d':=.agg [.fn (.func 232) [.ptr 2 0 0,.ptr 3 0 0]]) J)<|S2 2 J<|S3 2 J<|G9 (WPE (λl=>if l=2001 then 3 else if l=2002 then 2 else l) [(8,.agg [.fn (.func 232) [.ptr 2002 0 0,.ptr 2001 0 0]]),(9,a7.Pv a0)] [(2001,vR (.L b8.Pv a1) 1),(2002,vR (a7.Pv a0) 3)]) ?_
 refine b1x (fn:=Tryz.f214) (N1:=34) J J Tryz.func214 J Ty.c8b J J nl (λe1 o2=>?_)
 refine jqR h (λj36=>St.of [(1000008,.agg [.fn (.func 232) [.ptr 2002 0 0,.ptr 2001 0 0]]),(1000009,a7.Pv a0),(4,.sl 910005)] [(910005,⟨List.map iF j36,(List.map iF j36).length,true,1,true⟩),(2001,vR (.L b8.Pv a1) 1),(2002,vR (a7.Pv a0) 3)]) (λj36 h=>dup ?_) λκ35 h=>?_
 ·refine⟨J,[.sl 910005],⟨J,tr⟩,?_⟩
  refine G9 (WPE (λl=>if l=2003 then 910005 else l) [(10,.sl 2003)] [(2003,⟨List.map iF j36,(List.map iF j36).length,true,1,true⟩)])<|S2 1 J<|b9 ?_
  cases h
  exact f1
 ·refine S4 3 J ?_
  refine S4 1 J ?_
  refine jq h (λj54=>St.of [(1000008,.agg [.fn (.func 232) [.ptr 2002 0 0,.ptr 2001 0 0]]),(1000009,a7.Pv a0),(5,.sl 910005)] [(910005,⟨List.map iF j54,(List.map iF j54).length,true,1,true⟩),(2001,vR (.L b8.Pv a1) 1),(2002,vR (a7.Pv a0) 3)]) (λj54 h=>?_) λκ53 h=>?_
  ·refine S4 2 J ?_
   refine b9 ?_
   exact eJ h (Wk.trans (n8 _ [910005]) W)
  ·refine S3 1 J ?_
   refine cF h C4 J J λv55 _ h=>nL J Ty.D0<|S2 1 J<|g8<|lq h (λq=>St.of [(1000008,.agg [.fn (.func 232) [.ptr 2002 0 0,.ptr 2001 0 0]]),(1000009,a7.Pv a0),(2,.ptr 2 0 0),(3,.ptr 3 0 0),(5,.sl 910005),(11,.L iF v55),(12,.I (v55.length:Int)),(13,.I q.1)] [(3,vR (a7.Pv a0) 3),(2,vS (.agg [.fn (.func 232) [.ptr 2002 0 0,.ptr 2001 0 0]]) 1),(2001,vR (.L b8.Pv a1) 1),(2002,vR (a7.Pv a0) 3),(910005,⟨List.map iF q.2,(List.map iF q.2).length,true,1,true⟩)]) (Wk.trans (R9 (t:=5) (l:=920005) (z:=1) J J) (WP (λl=>if l=910005 then 920005 else l))) λq60 x59 h hx48=>?_
   obtain⟨s57,s58⟩:=q60
   refine S4 1 J<|j5 ?_
   refine cN h (λhc h=>?_) λhc h=>?_
   ·refine c8 ?_
    refine jq h (λj66=>St.of [(1000008,.agg [.fn (.func 232) [.ptr 2002 0 0,.ptr 2001 0 0]]),(1000009,a7.Pv a0),(2,.ptr 2 0 0),(3,.ptr 3 0 0),(5,.sl 31),(11,.L iF v55),(12,.I (v55.length:Int)),(13,.I s57)] [(31,⟨List.map iF j66,(List.map iF j66).length,true,1,true⟩),(3,vR (a7.Pv a0) 3),(2,vS (.agg [.fn (.func 232) [.ptr 2002 0 0,.ptr 2001 0 0]]) 1),(2001,vR (.L b8.Pv a1) 1),(2002,vR (a7.Pv a0) 3)]) (λj66 h=>?_) λκ65 h=>?_
    ·refine S6 2 J ?_
     exact eL h (Wk.trans (n8 _ [31]) (WP (λl=>if l=910005 then 31 else l)))
    ·refine g8 ?_
     refine sR<|iL h J J Ty.D0 Ty.s3 λv67 _ h=>S2 2 J<|S3 2 J<|cF h w7 J J λv68 _ h=>S2 6 J<|S3 4 J<|cA h b1K J J λv69 _ h=>yN ?_
     refine cN h (λhc h=>?_) λhc h=>?_
     ·refine S5 2 J ?_
      refine y0 J (Q2 (f:=iF) (l:=[v67]) J Ty.D0 Ty.s3 Ty.z3 J J nl J J)<|B2 h λv70 hv57 h=>Y5 J (V6 (f:=iF) hv57 J J J J J J (.inl ⟨_,J,J⟩) Ty.D0 Ty.s3 Ty.b3 Ty.z3 J (λ_=>J)) J J J<|S2 1 J ?_
      exact eJ h (Wk.trans (n8 _ [31]) W)
     ·refine c8 ?_
      exact eJ h (Wk.trans (n8 _ [910005]) (WP (λl=>if l=31 then 910005 else l)))
   ·refine o8 ?_
    refine g6<|g6<|l7 ?_
    have h:=xL hx48 h
    exact eJ h (Wk.trans (n8 _ [910005]) W)

theorem b0L{a0}:PO Tryz.prog 355 [.I a0] (a19 a0) λr=>g9.Pv r:=by
 refine pO Tryz.func355 λr h _ _=>?_
 unfold a19 at h
 refine S4 1 J<|S3 1 J<|y0 J (o0 (cs:=[.nl,.I a0]) J Ty.c97 Ty.d0E J J J)<|b1y (x':=.agg [.nl,.I a0]) (cl':=true) J J (.inl J) Ty.b7n<|yN<|b9 ?_
 cases h
 exact⟨J,[_],⟨oL J J J Ty.b93 Ty.b7n nl J,tr⟩,J,io⟩

theorem a6k{a0 a1}:PO Tryz.prog 357 [a7.Pv a0,.I a1] (Z5 a0 a1) λr=>.bool r:=by
 refine pO Tryz.func357 λr h _ _=>?_
 refine S4 2 J<|S3 2 J<|cF h w7 J J λv1 _ h=>S2 6 J<|S4 3 J<|b9 ?_
 cases h
 exact f1

theorem P5{a0}:PO Tryz.prog 359 [g9.Pv a0] (H8 a0) λr=>.I r:=by
 refine pO Tryz.func359 λr h _ _=>?_
 unfold H8 at h
 refine S4 2 J<|S3 2 J<|nL J Ty.D0<|S2 1 J<|b9 ?_
 cases h
 exact f1

theorem a1d{a0 a1 a2}:PO Tryz.prog 386 [.L iF a0,.I a1,.I a2] (L4 a0 a1 a2) λr=>.K6 true (List.map iF r):=by
 refine pO Tryz.func386 λr h _ _=>?_
 unfold L4 at h
 refine S4 1 J<|S3 4 J<|B2 h λv1 hv1 h=>y0 J (c2u (f:=iF) hv1 J ⟨_,J⟩ ⟨_,J⟩ ⟨_,J⟩ J J Ty.D0 Ty.s3 (λ_=>J))<|S2 1 J<|b9 ?_
 cases h
 exact f1

theorem a4f{a0 a1}:PO Tryz.prog 358 [g9.Pv a0,.I a1] (L3 a0 a1) λr=>.tup [g9.Pv r.1,.I r.2]:=by
 refine pO Tryz.func358 λr h _ _=>?_
 unfold L3 at h
 refine S4 3 J<|j5<|dr [] Ty.mix (by kernel_rfl) (by kernel_rfl)<|S7 1 J<|B2 h λv1 hv1 h=>d2 J (L9 J P5 J hv1) J<|S8 3 J ?_
 refine cN h (λhc h=>?_) λhc h=>?_
 ·refine S4 3 J ?_
  refine b9 ?_
  cases h
  exact⟨J,[_,_],⟨oL J J J Ty.b93 Ty.b7n nl J,⟨J,tr⟩⟩,J,io⟩
 ·refine c8 ?_
  refine dr [] Ty.mix (by kernel_rfl) (by kernel_rfl)<|S7 3 J<|d2 J (L9 J P5 J hv1) J<|B2 h λv2 hv2 h=>d2f J (A0 J a1d J hv2) J<|S7 1 J<|d1n J (Q2 (f:=iF) (l:=[a1]) J Ty.D0 Ty.s3 Ty.z3 J J nl J J) J<|B2 h λv3 hv3 h=>d3 J (b6V (f:=iF) hv3 J J (.inl ⟨_,J,J⟩) Ty.D0 Ty.s3 Ty.b3 Ty.z3 J (λ_=>J)) J J J<|S7 1 J<|a0J (x':=.agg [.sl 19,.I a0.Cap]) (cl':=false) J J (.inl J) Ty.s27<|a6d<|S4 3 J<|b9 ?_
  cases h
  exact⟨J,[_,_],⟨oL J J J Ty.b93 Ty.b7n nl J,⟨J,tr⟩⟩,J,io⟩

theorem a8V{a0 a1}:PO Tryz.prog 387 [g9.Pv a0,.I a1] (a2I a0 a1) λr=>.tup [g9.Pv r.1,.L iF r.2]:=by
 refine pO Tryz.func387 λr h _ _=>?_
 refine S4 3 J<|S3 2 J<|cA h P5 J J λv1 hv1 h=>y0 J (c8t J J J)<|y0 J (c5M J J J)<|S2 1 J<|S3 3 J<|cF h a1d J J λv2 _ h=>S2 1 J<|dr [] Ty.mix (by kernel_rfl) (by kernel_rfl)<|S7 4 J<|d2 J (L9 J P5 J hv1) J<|B2 h λv3 hv3 h=>d2f J (A0 J a1d J hv3) J<|S7 1 J<|a0J (x':=.agg [.L iF v3,.I a0.Cap]) (cl':=true) J J (.inr J) Ty.s27<|a6d<|S4 4 J<|b9 ?_
 cases h
 exact⟨J,[_,_],⟨oL J J J Ty.b93 Ty.b7n nl J,⟨J,tr⟩⟩,J,io⟩

theorem b0M{a0}:PO Tryz.prog 360 [g9.Pv a0] (a0n a0) λr=>.tup [g9.Pv r.1,.I r.2.1,.I r.2.2]:=by
 refine pO Tryz.func360 λr h _ _=>?_
 refine S4 4 J<|S3 1 J<|cF h a8V J J λv1 _ h=>S2 6 J<|j5<|S3 1 J<|nL J Ty.D0<|S2 1 J ?_
 refine cN h (λhc h=>?_) λhc h=>?_
 ·refine S4 1 J ?_
  refine S4 5 J<|b9 ?_
  cases h
  exact⟨J,[_,_,_],⟨oL J J J Ty.b93 Ty.b7n nl J,⟨J,⟨J,tr⟩⟩⟩,J,io⟩
 ·refine c8 ?_
  refine dr [2,3] Ty.mix (by kernel_rfl) (by kernel_rfl)<|S7 2 J<|B2 h λv2 hv2 h=>d7 J (λ_ hN=>a4b (f:=iF) (cs:=[.I v2]) hv2 J J Ty.D0 Ty.s3 J J) J<|d7 J (λ_ hN=>a1a J Ty.a3 J) J<|a0J (x':=g9.Pv v1.1) (cl':=true) J J (.inr J) Ty.b7n<|S8 2 J<|b9 ?_
  cases h
  exact⟨J,[_,_,_],⟨oL J J J Ty.b93 Ty.b7n nl J,⟨J,⟨J,tr⟩⟩⟩,J,io⟩

theorem a6l{a0 a1}:PO Tryz.prog 298 [a7.Pv a0,.L iF a1] (a1g a0 a1) λr=>.abs (S9 (List.map (ent iF PV.bool) r)):=by
 refine pO Tryz.func298 λr h _ _=>?_
 refine S4 2 J<|sR<|b3C (KT:=Int) (VT:=Bool) (EK:=iF) (E:=PV.bool) 5000009 J J<|S2 2 J<|S3 1 J<|cF h C4 J J λv1 _ h=>nL J Ty.D0<|cF h b0L J J λv2 _ h=>S2 2 J<|S4 2 J<|S3 2 J<|G9 (WPE (λl=>if l=2001 then 6 else if l=2002 then 5 else if l=2003 then 2 else if l=5002004 then 5000009 else l) [(2,.ptr 2003 0 0),(5,.ptr 2002 0 0),(6,.ptr 2001 0 0),(7,.fn (.func 356) [.ptr 2003 0 0,.ptr 2002 0 0,.ptr 2001 0 0]),(15,.fn (.func 356) [.ptr 2003 0 0,.ptr 2002 0 0,.ptr 2001 0 0]),(16,.L iF a1)] [(2001,vR (g9.Pv v2) 2),(2002,vS (.mp 5002004) 1),(5002004,⟨[.mapc (List.map (ent iF PV.bool) [])],0,false,0,false⟩),(2003,vR (a7.Pv a0) 3)]) ?_
 refine b1x (fn:=Tryz.f356) (N1:=31) J J Tryz.func356 J Ty.c8f J J nl (λe3 o4=>?_)
 refine jqR h (λq=>St.of [(1000002,.ptr 2003 0 0),(1000005,.ptr 2002 0 0),(1000006,.ptr 2001 0 0),(1000007,.fn (.func 356) [.ptr 2003 0 0,.ptr 2002 0 0,.ptr 2001 0 0]),(1000015,.fn (.func 356) [.ptr 2003 0 0,.ptr 2002 0 0,.ptr 2001 0 0]),(1000016,.L iF a1)] [(2001,vR (g9.Pv q.1) 2),(2002,vS (.mp 5002004) 1),(5002004,⟨[.mapc (List.map (ent iF PV.bool) q.2)],0,false,0,false⟩),(2003,vR (a7.Pv a0) 3)]) (λq22 h=>dup ?_) λκ19 h=>?_
 ·obtain⟨j20,j21⟩:=q22
  refine⟨J,[],tr,?_⟩
  refine G9 (WE [(2,.ptr 2003 0 0),(5,.ptr 2002 0 0),(6,.ptr 2001 0 0),(7,.fn (.func 356) [.ptr 2003 0 0,.ptr 2002 0 0,.ptr 2001 0 0])] [(2001,vR (g9.Pv j20) 2),(2002,vS (.mp 5002004) 1),(5002004,⟨[.mapc (List.map (ent iF PV.bool) j21)],0,false,0,false⟩),(2003,vR (a7.Pv a0) 3)])<|yN ?_
  refine jq h (λj68=>St.of [(5,.ptr 2002 0 0)] [(2002,vS (.mp 5002004) 1),(5002004,⟨[.mapc (List.map (ent iF PV.bool) j68)],0,false,0,false⟩)]) (λj68 h=>?_) λκ67 h=>?_
  ·refine S4 2 J ?_
   refine a1y (b8T 4 5002004 J J)<|b9 ?_
   cases h
   exact f1
  ·refine g8 ?_
   refine lq h (λq=>St.of [(2,.ptr 2003 0 0),(5,.ptr 2002 0 0),(6,.ptr 2001 0 0),(7,.fn (.func 356) [.ptr 2003 0 0,.ptr 2002 0 0,.ptr 2001 0 0])] [(2001,vR (g9.Pv q.1) 2),(2002,vS (.mp 5002004) 1),(5002004,⟨[.mapc (List.map (ent iF PV.bool) q.2)],0,false,0,false⟩),(2003,vR (a7.Pv a0) 3)]) W λq73 x72 h hx54=>?_
   obtain⟨s70,s71⟩:=q73
   refine j5<|S3 1 J<|cA h P5 J J λv74 _ h=>S2 1 J ?_
   refine cN h (λhc h=>?_) λhc h=>?_
   ·refine c8 ?_
    refine g8<|S4 1 J<|S3 1 J<|cF h b0M J J λv75 _ h=>S2 6 J<|S5 3 J<|cF h b1o J J λv76 _ h=>G9 (WE [(2,.ptr 2003 0 0),(5,.ptr 2002 0 0),(6,.ptr 2001 0 0),(7,.fn (.func 356) [.ptr 2003 0 0,.ptr 2002 0 0,.ptr 2001 0 0]),(27,.fn (.func 356) [.ptr 2003 0 0,.ptr 2002 0 0,.ptr 2001 0 0]),(30,.L iF v76)] [(2001,vR (g9.Pv v75.1) 2),(2002,vS (.mp 5002004) 1),(5002004,⟨[.mapc (List.map (ent iF PV.bool) s71)],0,false,0,false⟩),(2003,vR (a7.Pv a0) 3)]) ?_
    refine b1x (fn:=Tryz.f356) (N1:=31) J J Tryz.func356 J Ty.c8f J J nl (λe58 o59=>?_)
    refine jqR h (λq=>St.of [(1000002,.ptr 2003 0 0),(1000005,.ptr 2002 0 0),(1000006,.ptr 2001 0 0),(1000007,.fn (.func 356) [.ptr 2003 0 0,.ptr 2002 0 0,.ptr 2001 0 0]),(1000027,.fn (.func 356) [.ptr 2003 0 0,.ptr 2002 0 0,.ptr 2001 0 0]),(1000030,.L iF v76)] [(2001,vR (g9.Pv q.1) 2),(2002,vS (.mp 5002004) 1),(5002004,⟨[.mapc (List.map (ent iF PV.bool) q.2)],0,false,0,false⟩),(2003,vR (a7.Pv a0) 3)]) (λq96 h=>dup ?_) λκ93 h=>?_
    ·obtain⟨j94,j95⟩:=q96
     refine⟨J,[],tr,?_⟩
     refine G9 (WE [(2,.ptr 2003 0 0),(5,.ptr 2002 0 0),(6,.ptr 2001 0 0),(7,.fn (.func 356) [.ptr 2003 0 0,.ptr 2002 0 0,.ptr 2001 0 0])] [(2001,vR (g9.Pv j94) 2),(2002,vS (.mp 5002004) 1),(5002004,⟨[.mapc (List.map (ent iF PV.bool) j95)],0,false,0,false⟩),(2003,vR (a7.Pv a0) 3)])<|yN ?_
     exact eL h W
    ·refine S3 1 J ?_
     refine nL J Ty.D0<|S2 1 J<|g8<|lq h (λq=>St.of [(1000002,.ptr 2003 0 0),(1000005,.ptr 2002 0 0),(1000006,.ptr 2001 0 0),(1000007,.fn (.func 356) [.ptr 2003 0 0,.ptr 2002 0 0,.ptr 2001 0 0]),(1000027,.fn (.func 356) [.ptr 2003 0 0,.ptr 2002 0 0,.ptr 2001 0 0]),(1000030,.L iF v76),(1,.ptr 2003 0 0),(2,.ptr 2002 0 0),(3,.ptr 2001 0 0),(7,.L iF v76),(8,.I (v76.length:Int)),(9,.I q.1)] [(2001,vR (g9.Pv q.2.1) 2),(2002,vS (.mp 5002004) 1),(5002004,⟨[.mapc (List.map (ent iF PV.bool) q.2.2)],0,false,0,false⟩),(2003,vR (a7.Pv a0) 3)]) W λq102 x101 h hx75=>?_
     obtain⟨s98,s99,s100⟩:=q102
     refine S4 1 J<|j5 ?_
     refine cN h (λhc h=>?_) λhc h=>?_
     ·refine c8 ?_
      refine jq h (λq=>St.of [(1000002,.ptr 2003 0 0),(1000005,.ptr 2002 0 0),(1000006,.ptr 2001 0 0),(1000007,.fn (.func 356) [.ptr 2003 0 0,.ptr 2002 0 0,.ptr 2001 0 0]),(1000027,.fn (.func 356) [.ptr 2003 0 0,.ptr 2002 0 0,.ptr 2001 0 0]),(1000030,.L iF v76),(1,.ptr 2003 0 0),(2,.ptr 2002 0 0),(3,.ptr 2001 0 0),(7,.L iF v76),(8,.I (v76.length:Int)),(9,.I s98)] [(2001,vR (g9.Pv q.1) 2),(2002,vS (.mp 5002004) 1),(5002004,⟨[.mapc (List.map (ent iF PV.bool) q.2)],0,false,0,false⟩),(2003,vR (a7.Pv a0) 3)]) (λq109 h=>?_) λκ106 h=>?_
      ·obtain⟨j107,j108⟩:=q109
       refine S6 2 J ?_
       exact eL h W
      ·refine g8 ?_
       refine sR<|iL h J J Ty.D0 Ty.s3 λv110 _ h=>S2 2 J<|S3 2 J<|cA h a6k J J λv111 _ h=>S1 1 J<|j8 J (λhg=>oS J J J Ty.c7O J)<|j8 J (λhg=>mI J) ?_
       rcases Bool.eq_false_or_eq_true (v111==true) with hg83 | hg83
       ·have h:=ifT h hg83
        refine b7G (es:=s100) (k:=v110) (E:=PV.bool) (EK:=iF) (d:=.bool ((r8 s100 v110).getD (false:Bool))) (congrArg some hg83) (ct hg83) J (ct hg83) Ty.a8s (s7 Ty.u3) Ty.z4 J (lk1 _ _ _)<|y0 (congrArg some hg83) (a2Q J J)<|y0 J (a4d J J hg83)<|yN ?_
        refine cN h (λhc h=>?_) λhc h=>?_
        ·refine S3 2 J ?_
         refine U8 (es:=s100) (k:=v110) (v:=true) (E:=PV.bool) (EK:=iF) (.inl J) J J J J J J Ty.a8s (s7 Ty.u3)<|yN<|S5 2 J<|cF h a4f J J λv112 _ h=>S2 4 J ?_
         exact eJ h W
        ·refine c8 ?_
         exact eJ h W
       ·have h:=ifF h hg83
        refine U9 (congrArg some hg83)<|U9 (congrArg some hg83)<|y0 J (a4c J J hg83)<|yN ?_
        refine D8 false J (λq=>nomatch q) (λ_=>?_)
        refine c8 ?_
        exact eJ h W
     ·refine o8 ?_
      refine g6<|g6<|l7 ?_
      have h:=xL hx75 h
      exact eJ h W
   ·refine o8 ?_
    refine g6<|g6<|l7 ?_
    have h:=xL hx54 h
    exact eJ h W
 ·refine S3 1 J ?_
  refine nL J Ty.D0<|S2 1 J<|g8<|lq h (λq=>St.of [(1000002,.ptr 2003 0 0),(1000005,.ptr 2002 0 0),(1000006,.ptr 2001 0 0),(1000007,.fn (.func 356) [.ptr 2003 0 0,.ptr 2002 0 0,.ptr 2001 0 0]),(1000015,.fn (.func 356) [.ptr 2003 0 0,.ptr 2002 0 0,.ptr 2001 0 0]),(1000016,.L iF a1),(1,.ptr 2003 0 0),(2,.ptr 2002 0 0),(3,.ptr 2001 0 0),(7,.L iF a1),(8,.I (a1.length:Int)),(9,.I q.1)] [(2001,vR (g9.Pv q.2.1) 2),(2002,vS (.mp 5002004) 1),(5002004,⟨[.mapc (List.map (ent iF PV.bool) q.2.2)],0,false,0,false⟩),(2003,vR (a7.Pv a0) 3)]) W λq118 x117 h hx87=>?_
  obtain⟨a47,s115,s116⟩:=q118
  refine S4 1 J<|j5 ?_
  refine cN h (λhc h=>?_) λhc h=>?_
  ·refine c8 ?_
   refine jq h (λq=>St.of [(1000002,.ptr 2003 0 0),(1000005,.ptr 2002 0 0),(1000006,.ptr 2001 0 0),(1000007,.fn (.func 356) [.ptr 2003 0 0,.ptr 2002 0 0,.ptr 2001 0 0]),(1000015,.fn (.func 356) [.ptr 2003 0 0,.ptr 2002 0 0,.ptr 2001 0 0]),(1000016,.L iF a1),(1,.ptr 2003 0 0),(2,.ptr 2002 0 0),(3,.ptr 2001 0 0),(7,.L iF a1),(8,.I (a1.length:Int)),(9,.I a47)] [(2001,vR (g9.Pv q.1) 2),(2002,vS (.mp 5002004) 1),(5002004,⟨[.mapc (List.map (ent iF PV.bool) q.2)],0,false,0,false⟩),(2003,vR (a7.Pv a0) 3)]) (λq125 h=>?_) λκ122 h=>?_
   ·obtain⟨j123,j124⟩:=q125
    refine S6 2 J ?_
    exact eL h W
   ·refine g8 ?_
    refine sR<|iL h J J Ty.D0 Ty.s3 λv126 _ h=>S2 2 J<|S3 2 J<|cA h a6k J J λv127 _ h=>S1 1 J<|j8 J (λhg=>oS J J J Ty.c7O J)<|j8 J (λhg=>mI J) ?_
    rcases Bool.eq_false_or_eq_true (v127==true) with hg95 | hg95
    ·have h:=ifT h hg95
     refine b7G (es:=s116) (k:=v126) (E:=PV.bool) (EK:=iF) (d:=.bool ((r8 s116 v126).getD (false:Bool))) (congrArg some hg95) (ct hg95) J (ct hg95) Ty.a8s (s7 Ty.u3) Ty.z4 J (lk1 _ _ _)<|y0 (congrArg some hg95) (a2Q J J)<|y0 J (a4d J J hg95)<|yN ?_
     refine cN h (λhc h=>?_) λhc h=>?_
     ·refine S3 2 J ?_
      refine U8 (es:=s116) (k:=v126) (v:=true) (E:=PV.bool) (EK:=iF) (.inl J) J J J J J J Ty.a8s (s7 Ty.u3)<|yN<|S5 2 J<|cF h a4f J J λv128 _ h=>S2 4 J ?_
      exact eJ h W
     ·refine c8 ?_
      exact eJ h W
    ·have h:=ifF h hg95
     refine U9 (congrArg some hg95)<|U9 (congrArg some hg95)<|y0 J (a4c J J hg95)<|yN ?_
     refine D8 false J (λq=>nomatch q) (λ_=>?_)
     refine c8 ?_
     exact eJ h W
  ·refine o8 ?_
   refine g6<|g6<|l7 ?_
   have h:=xL hx87 h
   exact eJ h W

theorem b1F{a0 a1}:PO Tryz.prog 388 [.I a0,.rptr [.abs (S9 (List.map (ent iF PV.bool) a1))]] (a2X a0 a1) λr=>.bool r:=by
 refine pO Tryz.func388 λr h _ _=>?_
 unfold a2X at h
 refine S4 1 J<|S3 2 J<|y0 J (b6W (es:=a1) (k:=a0) (E:=PV.bool) (EK:=iF) (d:=.bool ((r8 a1 a0).getD (false:Bool))) J J Ty.a8s (s7 Ty.u3) Ty.z4 J (lk1 _ _ _))<|S2 1 J<|b9 ?_
 cases h
 exact f1

theorem a2Z{a0 a1}:PO Tryz.prog 299 [a7.Pv a0,.fn (.func 388) [.rptr [.abs (S9 (List.map (ent iF PV.bool) a1))]]] (N5 a0 a1) λr=>.L iF r:=by
 refine pO Tryz.func299 λr h _ _=>?_
 refine S4 2 J<|S4 1 J ?_
 refine jq h (λj16=>St.of [(5,.sl 910005)] [(910005,⟨List.map iF j16,(List.map iF j16).length,true,1,true⟩)]) (λj16 h=>?_) λκ15 h=>?_
 ·refine S4 2 J ?_
  refine b9 ?_
  cases h
  exact f1
 ·refine S3 1 J ?_
  refine cF h C4 J J λv17 _ h=>nL J Ty.D0<|S2 1 J<|g8<|lq h (λq=>St.of [(1,.fn (.func 388) [.rptr [.abs (S9 (List.map (ent iF PV.bool) a1))]]),(5,.sl 910005),(9,.L iF v17),(10,.I (v17.length:Int)),(11,.I q.1)] [(910005,⟨List.map iF q.2,(List.map iF q.2).length,true,1,true⟩)]) (Wk.trans (R9 (t:=5) (l:=920005) (z:=1) J J) (WP (λl=>if l=910005 then 920005 else l))) λq22 x21 h hx16=>?_
  obtain⟨s19,s20⟩:=q22
  refine S4 1 J<|j5 ?_
  refine cN h (λhc h=>?_) λhc h=>?_
  ·refine c8 ?_
   refine jq h (λj27=>St.of [(1,.fn (.func 388) [.rptr [.abs (S9 (List.map (ent iF PV.bool) a1))]]),(5,.sl 21),(9,.L iF v17),(10,.I (v17.length:Int)),(11,.I s19)] [(21,⟨List.map iF j27,(List.map iF j27).length,true,1,true⟩)]) (λj27 h=>?_) λκ26 h=>?_
   ·refine S6 2 J ?_
    exact eL h (Wk.trans (n8 _ [21]) (WP (λl=>if l=910005 then 21 else l)))
   ·refine g8 ?_
    refine sR<|iL h J J Ty.D0 Ty.s3 λv28 _ h=>S2 2 J<|S3 2 J<|cA h b1F J J λv29 _ h=>yN ?_
    refine cN h (λhc h=>?_) λhc h=>?_
    ·refine S5 2 J ?_
     refine y0 J (Q2 (f:=iF) (l:=[v28]) J Ty.D0 Ty.s3 Ty.z3 J J nl J J)<|B2 h λv30 hv23 h=>Y5 J (V6 (f:=iF) hv23 J J J J J J (.inl ⟨_,J,J⟩) Ty.D0 Ty.s3 Ty.b3 Ty.z3 J (λ_=>J)) J J J<|S2 1 J ?_
     exact eJ h (Wk.trans (n8 _ [21]) W)
    ·refine c8 ?_
     exact eJ h (Wk.trans (n8 _ [910005]) (WP (λl=>if l=21 then 910005 else l)))
  ·refine o8 ?_
   refine g6<|g6<|l7 ?_
   have h:=xL hx16 h
   exact eJ h (Wk.trans (n8 _ [910005]) W)

theorem a8w{a0 a1}:PO Tryz.prog 362 [a7.Pv a0,.L iF a1] (a3D a0 a1) λr=>.L iF r:=by
 refine pO Tryz.func362 λr h _ _=>?_
 refine S4 2 J<|S3 2 J<|cF h a6l J J λv1 _ h=>S2 2 J<|S3 2 J<|B2 h λv2 hv2 h=>ycL J (A0 J a2Z J hv2) J<|S2 1 J<|b9 ?_
 cases h
 exact f1

theorem b0v{a0}:PO Tryz.prog 276 [l5.Pv a0] (a10 a0) λr=>.bool r:=by
 refine pO Tryz.func276 λr h _ _=>?_
 unfold a10 at h
 refine S4 2 J<|S4 1 J<|b9 ?_
 cases h
 exact f1

theorem H2{a0}:PO Tryz.prog 274 [.fn (.func 344) [.rptr [.L b8.Pv a0]],.fn (.func 276) []] (x4 a0) λr=>.L l5.Pv r:=by
 refine pO Tryz.func274 λr h _ _=>?_
 refine S4 2 J<|S4 1 J ?_
 refine jq h (λj16=>St.of [(5,.ptr 2001 0 0)] [(2001,vS (.sl 912501) 1),(912501,⟨List.map l5.Pv j16,(List.map l5.Pv j16).length,true,2,true⟩)]) (λj16 h=>?_) λκ15 h=>?_
 ·refine S4 2 J ?_
  refine b9 ?_
  cases h
  exact f1
 ·refine S4 1 J ?_
  refine g8<|a1y (WPE (λl=>if l=2012 then 5 else if l=2013 then 3 else l) [(3,.ptr 2013 0 0),(5,.ptr 2012 0 0),(7,.fn (.func 344) [.rptr [.L b8.Pv a0]])] [(2012,vR (.nl) 1),(2013,vR (.fn (.func 276) []) 1)]) ?_
  refine a0m (fn:=Tryz.f344) (N1:=27) J Tryz.func344 J J nl J Ty.c8d J J (λl20 e21 o22 hR23=>?_)
  refine S3 1 J<|cF h a9w J J λv17 _ h=>nL J Ty.D0<|S2 1 J<|g8<|lq h (λq=>St.of [(1000003,.ptr 2013 0 0),(1000005,.ptr 2012 0 0),(1000007,.fn (.func 344) [.rptr [.L b8.Pv a0]]),(0,.fn (.yield l20) []),(1,.rptr [.L b8.Pv a0]),(8,.L iF v17),(9,.I (v17.length:Int)),(10,.I q.1)] [(2012,vS (.sl 912512) 1),(2013,vR (.fn (.func 276) []) 1),(912512,⟨List.map l5.Pv q.2,(List.map l5.Pv q.2).length,true,2,true⟩)]) (Wk.trans (b0l (l0:=2012) (j:=0) (l:=922512) (z:=2) J J J J J) (WP (λl=>if l=912512 then 922512 else l))) λq22 x21 h hx27=>?_
  obtain⟨s19,s20⟩:=q22
  refine S4 1 J<|j5 ?_
  refine cN h (λhc h=>?_) λhc h=>?_
  ·refine c8 ?_
   refine j5<|g8<|sR<|iL h J J Ty.D0 Ty.s3 λv23 _ h=>S2 2 J<|S3 2 J<|cA h a3Z J J λv24 _ h=>S2 5 J<|S3 3 J<|y0 J (o0 (cs:=[.I v23,.I v24.1]) J Ty.c8u Ty.c09 J J J)<|G9 (WPE (λl=>if l=2021 then 912512 else l) [(1000003,.ptr 2013 0 0),(1000005,.ptr 2012 0 0),(1000007,.fn (.func 344) [.rptr [.L b8.Pv a0]]),(0,.fn (.yield l20) []),(1,.rptr [.L b8.Pv a0]),(8,.L iF v17),(9,.I (v17.length:Int)),(10,.I s19),(20,.fn (.yield l20) []),(23,.agg [.I v23,.I v24.1])] [(2012,vS (.sl 2021) 1),(2021,⟨List.map l5.Pv s20,(List.map l5.Pv s20).length,true,2,true⟩),(2013,vR (.fn (.func 276) []) 1)]) ?_
   refine a4m hR23 J J J J J J (λe30 o31 o32=>?_)
   refine S6 2 J ?_
   refine⟨J,?_⟩
   refine jqE h (λj28=>St.of [(2000003,.ptr 2013 0 0),(2000005,.ptr 2012 0 0),(2000007,.fn (.func 344) [.rptr [.L b8.Pv a0]]),(1000000,.fn (.yield l20) []),(1000001,.rptr [.L b8.Pv a0]),(1000008,.L iF v17),(1000009,.I (v17.length:Int)),(1000010,.I s19),(1000020,.fn (.yield l20) []),(1000023,.agg [.I v23,.I v24.1])] [(2012,vS (.sl 15) 1),(15,⟨List.map l5.Pv j28,(List.map l5.Pv j28).length,true,2,true⟩),(2013,vR (.fn (.func 276) []) 1)]) (λj28 h=>?_) λκ27 h=>?_
   ·refine⟨J,?_⟩
    refine G9 (WPE (λl=>if l=2022 then 15 else l) [(1000003,.ptr 2013 0 0),(1000005,.ptr 2012 0 0),(1000007,.fn (.func 344) [.rptr [.L b8.Pv a0]]),(0,.fn (.yield l20) []),(1,.rptr [.L b8.Pv a0]),(8,.L iF v17),(9,.I (v17.length:Int)),(10,.I s19),(24,.bool true)] [(2012,vS (.sl 2022) 1),(2022,⟨List.map l5.Pv j28,(List.map l5.Pv j28).length,true,2,true⟩),(2013,vR (.fn (.func 276) []) 1)])<|S2 1 J ?_
    refine D8 false J (λq=>nomatch q) (λ_=>?_)
    refine c8<|S6 2 J ?_
    exact eL h (Wk.trans (n8 _ [2022]) (WP (λl=>if l=912512 then 2022 else l)))
   ·refine g8 ?_
    refine S3 2 J<|cA h b0v J J λv29 _ h=>yN ?_
    refine cN h (λhc h=>?_) λhc h=>?_
    ·refine S5 2 J ?_
     refine y0 J (Q2 (f:=l5.Pv) (l:=[(⟨v23,v24.1⟩:l5)]) J Ty.b44 Ty.c0T Ty.c09 J J nl J J)<|B2 h λv30 hv37 h=>Y5 J (V6 (f:=l5.Pv) hv37 J J J J J J (.inl ⟨_,J,J⟩) Ty.b44 Ty.c0T Ty.c7V Ty.c09 J (λ_=>J)) J J J<|S2 1 J ?_
     exact eJ h (Wk.trans (n8 _ [15]) W)
    ·refine c8 ?_
     exact eJ h (Wk.trans (n8 _ [2021]) (WP (λl=>if l=15 then 2021 else l)))
  ·refine o8 ?_
   refine g6<|g6<|l7 ?_
   refine .inl ⟨J,?_⟩
   have h:=xL hx27 h
   exact eJ h (Wk.trans (n8 _ [912512]) (WP (λl=>if l=2001 then 2012 else if l=912501 then 912512 else l)))

theorem a6G{a0}:PO Tryz.prog 200 [.L b8.Pv a0] (a2e a0) λr=>.L l5.Pv r:=by
 refine pO Tryz.func200 λr h _ _=>?_
 refine S4 1 J<|S3 1 J<|cF h a6H J J λv1 _ h=>cF h H2 J J λv2 _ h=>S2 1 J<|b9 ?_
 cases h
 exact f1

theorem a8n{a0 a1}:PO Tryz.prog 389 [.I a0,.rptr (a7.Pc a1)] (a3m a0 a1) λr=>.bool r:=by
 refine pO Tryz.func389 λr h _ _=>?_
 refine S4 1 J<|S3 2 J<|cF h w7 J J λv1 _ h=>S2 6 J<|S4 3 J<|b9 ?_
 cases h
 exact f1

theorem b5c{a0 a1 a2}:PON Tryz.prog 363 [a7.Pv a0,.L b8.Pv a1,.L iF a2] (a9m a0 a1 a2) λr=>⟨List.map iF r,(List.map iF r).length,true,1,true⟩:=by
 refine pON Tryz.func363 λr h _ _=>?_
 refine S4 2 J<|S4 2 J<|S4 1 J ?_
 refine jq h (λj20=>St.of [(8,.sl 910008)] [(910008,⟨List.map iF j20,(List.map iF j20).length,true,1,true⟩)]) (λj20 h=>?_) λκ19 h=>?_
 ·refine S4 2 J ?_
  refine a1y (n8 _ [910008])<|b9 ?_
  cases h
  exact⟨J,_,_,J,J,J,J⟩
 ·refine S3 1 J ?_
  refine cF h a6G J J λv21 _ h=>nL J Ty.b44<|S2 1 J<|g8<|lq h (λq=>St.of [(2,.L iF a2),(7,.fn (.func 389) [.ptr 3 0 0]),(8,.sl 910008),(13,.L l5.Pv v21),(14,.I (v21.length:Int)),(15,.I q.1)] [(3,vR (a7.Pv a0) 3),(910008,⟨List.map iF q.2,(List.map iF q.2).length,true,1,true⟩)]) (Wk.trans (R9 (t:=8) (l:=920008) (z:=1) J J) (WP (λl=>if l=910008 then 920008 else l))) λq26 x25 h hx20=>?_
  obtain⟨s23,s24⟩:=q26
  refine S4 1 J<|j5 ?_
  refine cN h (λhc h=>?_) λhc h=>?_
  ·refine c8 ?_
   refine jq h (λj33=>St.of [(2,.L iF a2),(7,.fn (.func 389) [.ptr 3 0 0]),(8,.sl 39),(13,.L l5.Pv v21),(14,.I (v21.length:Int)),(15,.I s23)] [(39,⟨List.map iF j33,(List.map iF j33).length,true,1,true⟩),(3,vR (a7.Pv a0) 3)]) (λj33 h=>?_) λκ32 h=>?_
   ·refine S6 2 J ?_
    exact eL h (Wk.trans (n8 _ [39]) (WP (λl=>if l=910008 then 39 else l)))
   ·refine g8 ?_
    refine sR<|iL h J J Ty.b44 Ty.c0T λv34 _ h=>S2 3 J<|S3 3 J<|cA h L7 J J λv35 _ h=>S1 1 J<|j8 J (λhg=>om (d:=.fn (.func 389) [.ptr 3 0 0]) J)<|j8 J (λhg=>oF J Ty.c6i J)<|j8 J (λhg=>oS (ct hg) J J Ty.a3 J)<|B2 h λv36 hv29 h=>j8 J (λhg=>L9 (ct hg) a8n (L1 (ct hg) J) (W9 hv29 hg))<|y0 J (r9 J J J (λq=>eqT q))<|S1 1 J<|j8 J (λhg=>om (d:=.fn (.func 389) [.ptr 3 0 0]) J)<|j8 J (λhg=>oF J Ty.b7Y J)<|j8 J (λhg=>oS (ct hg) J J Ty.a3 J)<|B2 h λv37 hv30 h=>j8 J (λhg=>L9 (ct hg) a8n (L1 (ct hg) J) (W9 hv30 hg))<|y0 J (r9 J J J (λq=>eqT q))<|yN ?_
    refine cN h (λhc h=>?_) λhc h=>?_
    ·refine S5 3 J ?_
     refine y0 J (Q2 (f:=iF) (l:=[v34.Val]) J Ty.D0 Ty.s3 Ty.z3 J J nl J J)<|B2 h λv38 hv31 h=>Y5 J (V6 (f:=iF) hv31 J J J J J J (.inl ⟨_,J,J⟩) Ty.D0 Ty.s3 Ty.b3 Ty.z3 J (λ_=>J)) J J J<|S2 1 J ?_
     exact eJ h (Wk.trans (n8 _ [39]) W)
    ·refine c8 ?_
     exact eJ h (Wk.trans (n8 _ [910008]) (WP (λl=>if l=39 then 910008 else l)))
  ·refine o8 ?_
   refine g6<|g6<|l7 ?_
   have h:=xL hx20 h
   exact eJ h (Wk.trans (n8 _ [910008]) W)

theorem b5b{a0 a1 a2}:PO Tryz.prog 301 [a7.Pv a0,.L b8.Pv a1,.L iF a2] (a7x a0 a1 a2) λr=>.tup [.L iF r.1,.I r.2]:=by
 refine pO Tryz.func301 λr h _ _=>?_
 refine S4 3 J<|b67<|S3 2 J<|cF h a8w J J λv1 _ h=>S2 1 J<|j5<|b66<|g8<|lq h (λq=>St.of [(1,.L b8.Pv a1),(3,.ptr 3 0 0),(6,.L iF q.1),(7,.I q.2)] [(3,vR (a7.Pv a0) 3)]) W λq6 x5 h hx4=>?_
 obtain⟨s3,s4⟩:=q6
 refine g8<|S3 3 J<|B2 h λv7 hv5 h=>ycN J (b2L J b5c J hv5) J J<|S2 1 J ?_
 refine jq h (λ_=>St.of [(6,.L iF s3),(7,.I s4)] []) (λq16 h=>?_) λκ15 h=>?_
 ·refine S4 4 J ?_
  refine b9 ?_
  have h:=xL hx4 h
  cases h
  exact f2
 ·refine S3 1 J ?_
  refine y0 J (b9r (f:=iF) J J J Ty.D0)<|S2 1 J<|g8<|lq h (λs18=>St.of [(1,.L b8.Pv a1),(3,.ptr 3 0 0),(6,.L iF s3),(7,.I s4),(8,.sl 17),(18,.sl 17),(19,.I (v7.length:Int)),(20,.I s18)] [(17,⟨List.map iF v7,(List.map iF v7).length,true,1,true⟩),(3,vR (a7.Pv a0) 3)]) (Wk.trans (n8 _ [17]) W) λs18 x19 h hx16=>S4 1 J<|j5 ?_
  refine cN h (λhc h=>?_) λhc h=>?_
  ·refine c8 ?_
   refine j5<|g8<|sR<|B2 h λv20 hv17 h=>y0 J (a8t (f:=iF) hv17 J J J J Ty.D0 Ty.s3 J)<|y0 J (c2w (f:=iF) hv17 J J J Ty.a3 J)<|S2 1 J<|S3 2 J<|cA h L7 J J λv21 _ h=>S2 1 J ?_
   refine cN h (λhc h=>?_) λhc h=>?_
   ·refine dr [4] Ty.mix (by kernel_rfl) (by kernel_rfl) ?_
    refine S7 3 J<|B2 h λv22 hv19 h=>d3a J (V6 (f:=iF) hv19 J J J J J J (.inl ⟨_,J,J⟩) Ty.D0 Ty.s3 Ty.b3 Ty.z3 J (λ_=>J)) J J J J J<|B2 h λv23 hv20 h=>d5f J (A0 J a8w J hv20) J J<|S8 1 J<|S4 3 J<|o8<|a5n (by decide)<|g6<|g6<|a5n (by decide)<|g6<|l7 ?_
    have h:=xL hx16 h
    exact eL h W
   ·refine c8 ?_
    refine S6 2 J ?_
    exact eL h (Wk.trans (n8 _ [17]) W)
  ·refine o8 ?_
   refine g6<|g6<|l7 ?_
   have h:=xL hx16 h
   exact eJ h W

theorem b6B{a0 a1 a2}:PO Tryz.prog 231 [a7.Pv a0,.L b8.Pv a1,.L iF a2] (a9l a0 a1 a2) λr=>.L iF r:=by
 refine pO Tryz.func231 λr h _ _=>?_
 refine S4 2 J<|S3 3 J<|cF h b5b J J λv1 _ h=>S2 5 J<|S4 2 J<|b9 ?_
 cases h
 exact f1

theorem b1G{a0 a1}:PO Tryz.prog 300 [.I a0,.rptr [.abs (S9 (List.map (ent iF PV.bool) a1))]] (a2Y a0 a1) λr=>.bool r:=by
 refine pO Tryz.func300 λr h _ _=>?_
 unfold a2Y at h
 refine S4 1 J<|S3 2 J<|y0 J (b6W (es:=a1) (k:=a0) (E:=PV.bool) (EK:=iF) (d:=.bool ((r8 a1 a0).getD (false:Bool))) J J Ty.a8s (s7 Ty.u3) Ty.z4 J (lk1 _ _ _))<|S2 2 J<|b9 ?_
 cases h
 exact f1

theorem a20{a0 a1}:PO Tryz.prog 299 [a7.Pv a0,.fn (.func 300) [.rptr [.abs (S9 (List.map (ent iF PV.bool) a1))]]] (N6 a0 a1) λr=>.L iF r:=by
 refine pO Tryz.func299 λr h _ _=>?_
 refine S4 2 J<|S4 1 J ?_
 refine jq h (λj16=>St.of [(5,.sl 910005)] [(910005,⟨List.map iF j16,(List.map iF j16).length,true,1,true⟩)]) (λj16 h=>?_) λκ15 h=>?_
 ·refine S4 2 J ?_
  refine b9 ?_
  cases h
  exact f1
 ·refine S3 1 J ?_
  refine cF h C4 J J λv17 _ h=>nL J Ty.D0<|S2 1 J<|g8<|lq h (λq=>St.of [(1,.fn (.func 300) [.rptr [.abs (S9 (List.map (ent iF PV.bool) a1))]]),(5,.sl 910005),(9,.L iF v17),(10,.I (v17.length:Int)),(11,.I q.1)] [(910005,⟨List.map iF q.2,(List.map iF q.2).length,true,1,true⟩)]) (Wk.trans (R9 (t:=5) (l:=920005) (z:=1) J J) (WP (λl=>if l=910005 then 920005 else l))) λq22 x21 h hx16=>?_
  obtain⟨s19,s20⟩:=q22
  refine S4 1 J<|j5 ?_
  refine cN h (λhc h=>?_) λhc h=>?_
  ·refine c8 ?_
   refine jq h (λj27=>St.of [(1,.fn (.func 300) [.rptr [.abs (S9 (List.map (ent iF PV.bool) a1))]]),(5,.sl 21),(9,.L iF v17),(10,.I (v17.length:Int)),(11,.I s19)] [(21,⟨List.map iF j27,(List.map iF j27).length,true,1,true⟩)]) (λj27 h=>?_) λκ26 h=>?_
   ·refine S6 2 J ?_
    exact eL h (Wk.trans (n8 _ [21]) (WP (λl=>if l=910005 then 21 else l)))
   ·refine g8 ?_
    refine sR<|iL h J J Ty.D0 Ty.s3 λv28 _ h=>S2 2 J<|S3 2 J<|cA h b1G J J λv29 _ h=>yN ?_
    refine cN h (λhc h=>?_) λhc h=>?_
    ·refine S5 2 J ?_
     refine y0 J (Q2 (f:=iF) (l:=[v28]) J Ty.D0 Ty.s3 Ty.z3 J J nl J J)<|B2 h λv30 hv23 h=>Y5 J (V6 (f:=iF) hv23 J J J J J J (.inl ⟨_,J,J⟩) Ty.D0 Ty.s3 Ty.b3 Ty.z3 J (λ_=>J)) J J J<|S2 1 J ?_
     exact eJ h (Wk.trans (n8 _ [21]) W)
    ·refine c8 ?_
     exact eJ h (Wk.trans (n8 _ [910005]) (WP (λl=>if l=21 then 910005 else l)))
  ·refine o8 ?_
   refine g6<|g6<|l7 ?_
   have h:=xL hx16 h
   exact eJ h (Wk.trans (n8 _ [910005]) W)

theorem b3X{a0 a1}:PO Tryz.prog 230 [a7.Pv a0,.L iF a1] (a5Q a0 a1) λr=>.L iF r:=by
 refine pO Tryz.func230 λr h _ _=>?_
 refine S4 2 J<|S3 2 J<|cF h a6l J J λv1 _ h=>S2 2 J<|S3 2 J<|B2 h λv2 hv2 h=>ycL J (A0 J a20 J hv2) J<|S2 1 J<|b9 ?_
 cases h
 exact f1

theorem b6C{a0 a1 a2}:PO Tryz.prog 148 [a7.Pv a0,.L b8.Pv a1,.L iF a2] (a6I a0 a1 a2) λr=>.L iF r:=by
 refine pO Tryz.func148 λr h _ _=>?_
 unfold a6I at h
 refine S4 2 J<|dr [] Ty.mix (by kernel_rfl) (by kernel_rfl)<|S7 4 J<|B2 h λv1 hv1 h=>d2f J (A0 J b6B J hv1) J<|B2 h λv2 hv2 h=>d2f J (A0 J b3X J hv2) J<|S8 1 J<|b9 ?_
 cases h
 exact f1

theorem b06{a0 a1}:PO Tryz.prog 70 [a7.Pv a0,.L b8.Pv a1] (a0r a0 a1) λr=>.L iF r:=by
 refine pO Tryz.func70 λr h _ _=>?_
 unfold a0r at h
 refine S4 2 J<|dr [] Ty.mix (by kernel_rfl) (by kernel_rfl)<|S7 4 J<|B2 h λv1 hv1 h=>d2f J (A0 J b36 J hv1) J<|B2 h λv2 hv2 h=>d2f J (A0 J b6C J hv2) J<|S8 1 J<|b9 ?_
 cases h
 exact f1

theorem Q9{a0}:PO Tryz.prog 23 [b6.Pv a0] (D6 a0) λr=>.L iF r:=by
 refine pO Tryz.func23 λr h _ _=>?_
 refine S4 2 J<|S3 4 J<|cF h b06 J J λv1 _ h=>S2 1 J<|b9 ?_
 cases h
 exact f1

theorem a8K{a0 a1}:PO Tryz.prog 73 [.I a0,.rptr (b6.Pc a1)] (a2A a0 a1) λr=>.bool r:=by
 refine pO Tryz.func73 λr h _ _=>?_
 refine S4 1 J<|S3 3 J<|cF h w7 J J λv1 _ h=>S2 6 J<|S3 4 J<|j8 J (λhg=>oF J Ty.b47 J)<|j8 J (λhg=>oS (ct hg) J J Ty.a4 J)<|j8 J (λhg=>a2Q (ct hg) J)<|y0 J (r9 J J J (λq=>eqT q))<|S2 1 J<|b9 ?_
 cases h
 exact f1

theorem a0a{a0 a1}:PO Tryz.prog 72 [.L iF a0,.fn (.func 73) [.rptr (b6.Pc a1)]] (E7 a0 a1) λr=>.L iF r:=by
 refine pO Tryz.func72 λr h _ _=>?_
 refine S4 1 J<|S4 1 J ?_
 refine jq h (λj15=>St.of [(5,.sl 910005)] [(910005,⟨List.map iF j15,(List.map iF j15).length,true,1,true⟩)]) (λj15 h=>?_) λκ14 h=>?_
 ·refine S4 2 J ?_
  refine b9 ?_
  cases h
  exact f1
 ·refine S3 1 J ?_
  refine nL J Ty.D0<|S2 1 J<|g8<|lq h (λq=>St.of [(1,.fn (.func 73) [.rptr (b6.Pc a1)]),(5,.sl 910005),(8,.L iF a0),(9,.I (a0.length:Int)),(10,.I q.1)] [(910005,⟨List.map iF q.2,(List.map iF q.2).length,true,1,true⟩)]) (Wk.trans (R9 (t:=5) (l:=920005) (z:=1) J J) (WP (λl=>if l=910005 then 920005 else l))) λq20 x19 h hx14=>?_
  obtain⟨s17,s18⟩:=q20
  refine S4 1 J<|j5 ?_
  refine cN h (λhc h=>?_) λhc h=>?_
  ·refine c8 ?_
   refine jq h (λj25=>St.of [(1,.fn (.func 73) [.rptr (b6.Pc a1)]),(5,.sl 20),(8,.L iF a0),(9,.I (a0.length:Int)),(10,.I s17)] [(20,⟨List.map iF j25,(List.map iF j25).length,true,1,true⟩)]) (λj25 h=>?_) λκ24 h=>?_
   ·refine S6 2 J ?_
    exact eL h (Wk.trans (n8 _ [20]) (WP (λl=>if l=910005 then 20 else l)))
   ·refine g8 ?_
    refine sR<|iL h J J Ty.D0 Ty.s3 λv26 _ h=>S2 2 J<|S3 2 J<|cA h a8K J J λv27 _ h=>yN ?_
    refine cN h (λhc h=>?_) λhc h=>?_
    ·refine S5 2 J ?_
     refine y0 J (Q2 (f:=iF) (l:=[v26]) J Ty.D0 Ty.s3 Ty.z3 J J nl J J)<|B2 h λv28 hv21 h=>Y5 J (V6 (f:=iF) hv21 J J J J J J (.inl ⟨_,J,J⟩) Ty.D0 Ty.s3 Ty.b3 Ty.z3 J (λ_=>J)) J J J<|S2 1 J ?_
     exact eJ h (Wk.trans (n8 _ [20]) W)
    ·refine c8 ?_
     exact eJ h (Wk.trans (n8 _ [910005]) (WP (λl=>if l=20 then 910005 else l)))
  ·refine o8 ?_
   refine g6<|g6<|l7 ?_
   have h:=xL hx14 h
   exact eJ h (Wk.trans (n8 _ [910005]) W)

theorem a4D{a0}:PO Tryz.prog 25 [b6.Pv a0] (T2 a0) λr=>.L iF r:=by
 refine pO Tryz.func25 λr h _ _=>?_
 refine S4 2 J<|S3 1 J<|cF h Q9 J J λv1 _ h=>S1 1 J<|B2 h λv2 hv2 h=>ycL J (A0 J a0a J hv2) J<|S2 1 J<|b9 ?_
 cases h
 exact f1

theorem Q8{a0}:PO Tryz.prog 19 [b6.Pv a0] (D5 a0) λr=>.tup [b6.Pv r.1,.I r.2.1,.I r.2.2]:=by
 refine pO Tryz.func19 λr h _ _=>?_
 refine S4 4 J<|S3 1 J<|cF h a4D J J λv1 _ h=>S2 1 J ?_
 refine jq h (λj10=>St.of [(1,.ptr 1 0 0),(2,.ptr 2 0 0),(5,.L iF v1)] [(2,vR (.agg [.nl,.I 0,.I 0,.nl,.nl,.nl,.nl,.I 0]) 8),(1,vR (b6.Pv j10) 8)]) (λj10 h=>?_) λκ9 h=>?_
 ·refine j5 ?_
  refine S3 1 J<|nL J Ty.D0<|S2 1 J ?_
  refine cN h (λhc h=>?_) λhc h=>?_
  ·refine S3 2 J ?_
   refine nL J Ty.D0<|S2 3 J<|b9 ?_
   cases h
   exact⟨J,[_,_,_],⟨oL J J J Ty.U0 Ty.M5 nl J,⟨J,⟨J,tr⟩⟩⟩,J,io⟩
  ·refine c8 ?_
   refine dr [] Ty.mix (by kernel_rfl) (by kernel_rfl)<|S7 2 J<|B2 h λv11 hv8 h=>d2f J (A0 J Q9 J hv8) J<|B2 h λv12 hv9 h=>d2f J (A0 J a7l J hv9) J<|B2 h λv13 hv10 h=>d2f J (A0 J a49 J hv10) J<|S7 1 J<|a0J (x':=b6.Pv v13) (cl':=true) J J (.inr J) Ty.M5<|a6d<|dr [4,8] Ty.mix (by kernel_rfl) (by kernel_rfl)<|S7 3 J<|B2 h λv14 hv11 h=>d2f J (A0 J C4 J hv11) J<|d7 J (λ_ hN=>a0l (f:=iF) J Ty.D0) J<|S7 2 J<|B2 h λv15 hv12 h=>d2f J (A0 J C4 J hv12) J<|d7 J (λ_ hN=>a0l (f:=iF) J Ty.D0) J<|S7 1 J<|a0J (x':=b6.Pv v13) (cl':=true) J J (.inr J) Ty.M5<|S8 2 J<|b9 ?_
   cases h
   exact⟨J,[_,_,_],⟨oL J J J Ty.U0 Ty.M5 nl J,⟨J,⟨J,tr⟩⟩⟩,J,io⟩
 ·refine S3 1 J ?_
  refine nL J Ty.D0<|S2 1 J<|g8<|lq h (λq=>St.of [(1,.ptr 1 0 0),(2,.ptr 2 0 0),(5,.L iF v1),(11,.L iF v1),(12,.I (v1.length:Int)),(13,.I q.1)] [(2,vR (.agg [.nl,.I 0,.I 0,.nl,.nl,.nl,.nl,.I 0]) 8),(1,vR (b6.Pv q.2) 8)]) W λq20 x19 h hx15=>?_
  obtain⟨s17,s18⟩:=q20
  refine S4 1 J<|j5 ?_
  refine cN h (λhc h=>?_) λhc h=>?_
  ·refine c8 ?_
   refine j5<|g8<|sR<|iL h J J Ty.D0 Ty.s3 λv21 _ h=>S2 2 J<|S5 2 J<|cF h a48 J J λv22 _ h=>S2 1 J<|S6 2 J ?_
   exact eL h W
  ·refine o8 ?_
   refine g6<|g6<|l7 ?_
   have h:=xL hx15 h
   exact eJ h W

theorem a1B{a0}:PO Tryz.prog 27 [b6.Pv a0] (K4 a0) λr=>.bool r:=by
 refine pO Tryz.func27 λr h _ _=>?_
 refine S4 2 J<|S3 1 J<|cF h Q9 J J λv1 _ h=>nL J Ty.D0<|S2 2 J<|b9 ?_
 cases h
 exact f1

theorem b1u{a0}:PO Tryz.prog 59 [.I a0] (a7q a0) λr=>b6.Pv r:=by
 refine pO Tryz.func59 λr h _ _=>?_
 refine S4 1 J<|sR<|cF h b1i J J λv1 _ h=>S1 1 J<|y0 J (o0 (cs:=[.I 1,.I 0,.I 1,.I a0]) J Ty.p73 Ty.z73 J J J)<|y0 J (o0 (cs:=[.I 1,.I 1,.I 1,.I (-1)]) J Ty.p73 Ty.z73 J J J)<|y0 J (o0 (cs:=[.I 5,.I 0,.I 0,.I 1]) J Ty.p73 Ty.z73 J J J)<|y0 J (o0 (cs:=[.I 5,.I 1,.I 0,.I 0]) J Ty.p73 Ty.z73 J J J)<|y0 J (o0 (cs:=[.I 6,.I 0,.I 0,.I 1]) J Ty.p73 Ty.z73 J J J)<|y0 J (o0 (cs:=[.I 3,.I 0,.I 0,.I 0]) J Ty.p73 Ty.z73 J J J)<|y0 J (o0 (cs:=[.I 3,.I 1,.I 0,.I 0]) J Ty.p73 Ty.z73 J J J)<|y0 J (Q2 (f:=k8.Pv) (l:=[(⟨1,0,1,a0⟩:k8),(⟨1,1,1,(-1)⟩:k8),(⟨5,0,0,1⟩:k8),(⟨5,1,0,0⟩:k8),(⟨6,0,0,1⟩:k8),(⟨3,0,0,0⟩:k8),(⟨3,1,0,0⟩:k8)]) J Ty.e74 Ty.s73 Ty.z73 J J nl J J)<|cF h W8 J J λv2 _ h=>S2 6 J<|S4 2 J<|b9 ?_
 cases h
 exact⟨J,[_],⟨oL J J J Ty.U0 Ty.M5 nl J,tr⟩,J,io⟩

theorem b3p:PO Tryz.prog 271 [] (a4j) λr=>.K6 true (List.map z6.Pv r):=by
 refine pO Tryz.func271 λr h _ _=>?_
 unfold a4j at h
 refine S4 1 J<|sR<|y0 J (o0 (cs:=[.fn (.func 338) []]) J Ty.c4J Ty.c3D J J J)<|G9 (a2x 1 (d':=.agg [fvE (some 338)]) J)<|y0 J (o0 (cs:=[.fn (.func 339) []]) J Ty.c4J Ty.c3D J J J)<|G9 (a2x 2 (d':=.agg [fvE (some 339)]) J)<|y0 J (o0 (cs:=[.fn (.func 340) []]) J Ty.c4J Ty.c3D J J J)<|G9 (a2x 3 (d':=.agg [fvE (some 340)]) J)<|y0 J (o0 (cs:=[.fn (.func 341) []]) J Ty.c4J Ty.c3D J J J)<|G9 (a2x 4 (d':=.agg [fvE (some 341)]) J)<|y0 J (Q2 (f:=z6.Pv) (l:=[(⟨(some 338)⟩:z6),(⟨(some 339)⟩:z6),(⟨(some 340)⟩:z6),(⟨(some 341)⟩:z6)]) J Ty.c6c Ty.c81 Ty.c3D J J nl J J)<|S2 1 J<|b9 ?_
 cases h
 exact f1

theorem a3H{a0 a1}:PO Tryz.prog 338 [a7.Pv a0,b7.Pv a1] (T1 a0 a1) λr=>.bool r:=by
 refine pO Tryz.func338 λr h _ _=>?_
 unfold T1 at h
 refine S4 3 J<|S3 4 J<|j8 J (λhg=>oF J Ty.b2o J)<|j8 J (λhg=>oS (ct hg) J J Ty.a3 J)<|j8 J (λhg=>w8 (ct hg) J J)<|y0 J (r9 J J J (λq=>eqT q))<|S2 1 J<|b9 ?_
 cases h
 exact f1

theorem a0U{a0 a1}:PO Tryz.prog 339 [a7.Pv a0,b7.Pv a1] (I6 a0 a1) λr=>.bool r:=by
 refine pO Tryz.func339 λr h _ _=>?_
 unfold I6 at h
 refine S4 3 J<|S3 4 J<|j8 J (λhg=>oF J Ty.c6g J)<|j8 J (λhg=>oS (ct hg) J J Ty.a3 J)<|j8 J (λhg=>oF J Ty.c1J J)<|j8 J (λhg=>oF (ct hg) Ty.c1I J)<|j8 J (λhg=>oS (ct hg) J J Ty.a3 J)<|j8 J (λhg=>w8 (ct hg) (ct hg) J)<|y0 J (r9 J J J (λq=>eqT q))<|S2 1 J<|b9 ?_
 cases h
 exact f1

theorem Y3{a0}:PO Tryz.prog 342 [b7.Pv a0] (F9 a0) λr=>.bool r:=by
 refine pO Tryz.func342 λr h _ _=>?_
 unfold F9 at h
 refine S4 2 J<|S3 4 J<|j8 J (λhg=>oF J Ty.b2o J)<|j8 J (λhg=>oS (ct hg) J J Ty.a3 J)<|j8 J (λhg=>w8 (ct hg) J J)<|y0 J (F0 J J J (λq=>eqF q))<|S2 1 J<|b9 ?_
 cases h
 exact f1

theorem a2R{a0 a1}:PO Tryz.prog 340 [a7.Pv a0,b7.Pv a1] (P8 a0 a1) λr=>.bool r:=by
 refine pO Tryz.func340 λr h _ _=>?_
 refine S4 3 J<|S4 4 J<|S3 1 J<|cA h Y3 J J λv1 _ h=>S1 2 J<|j8 J (λhg=>oF J Ty.c1G J)<|j8 J (λhg=>oS (ct hg) J J Ty.a3 J)<|j8 J (λhg=>w8 (ct hg) J J)<|j8 J (λhg=>om (d:=.bool (decide (a1.Val.Serial≥1))) (ct hg))<|j8 (D3 J J J) (λhg=>oF J Ty.c1G J)<|j8 (D3 J J J) (λhg=>oS (ct hg) J J Ty.a3 J)<|j8 (D3 J J J) (λhg=>oF J Ty.c5v J)<|j8 (D3 J J J) (λhg=>oS (ct hg) J J Ty.a3 J)<|j8 (D3 J J J) (λhg=>w8 (ct hg) (ct hg) J)<|j8 J (λhg=>r9 (ct hg) J J (λq=>b2f hg (eqT q)))<|j8 J (λhg=>om (d:=.bool ((decide (a1.Val.Serial≥1))&&(decide (a1.Val.Serial≤a0.Serial)))) (ct hg))<|j8 (D3 J J J) (λhg=>oF J Ty.b7V J)<|j8 (D3 J J J) (λhg=>oS (ct hg) J J Ty.a3 J)<|j8 (D3 J J J) (λhg=>w8 (ct hg) J J)<|j8 J (λhg=>r9 (ct hg) J J (λq=>b2f hg (eqT q)))<|j8 J (λhg=>om (d:=.bool (((decide (a1.Val.Serial≥1))&&(decide (a1.Val.Serial≤a0.Serial)))&&(decide (a1.Val.Strong≥0)))) (ct hg))<|j8 (D3 J J J) (λhg=>oF J Ty.b7W J)<|j8 (D3 J J J) (λhg=>oS (ct hg) J J Ty.a3 J)<|j8 (D3 J J J) (λhg=>w8 (ct hg) J J)<|j8 J (λhg=>r9 (ct hg) J J (λq=>b2f hg (eqT q)))<|j8 J (λhg=>om (d:=.bool ((((decide (a1.Val.Serial≥1))&&(decide (a1.Val.Serial≤a0.Serial)))&&(decide (a1.Val.Strong≥0)))&&(decide (a1.Val.Weak≥0)))) (ct hg))<|j8 (D3 J J J) (λhg=>oF J Ty.c6f J)<|j8 (D3 J J J) (λhg=>oS (ct hg) J J Ty.a3 J)<|B2 h λv2 hv2 h=>j8 (D3 J J J) (λhg=>L9 J a2u (L1 (ct hg) J) (W9 hv2 hg))<|j8 J (λhg=>r9 (ct hg) J J (λq=>b2f hg (eqT q)))<|j8 J (λhg=>om (d:=.bool (((((decide (a1.Val.Serial≥1))&&(decide (a1.Val.Serial≤a0.Serial)))&&(decide (a1.Val.Strong≥0)))&&(decide (a1.Val.Weak≥0)))&&v2)) (ct hg))<|j8 (D3 J J J) (λhg=>oF J Ty.b7X J)<|j8 (D3 J J J) (λhg=>oS (ct hg) J J Ty.a27 J)<|j8 (D3 J J J) (λhg=>a0l (f:=iF) (ct hg) Ty.D0)<|j8 (D3 J J J) (λhg=>w8 (ct hg) J J)<|j8 J (λhg=>r9 (ct hg) J J (λq=>b2f hg (eqT q)))<|y0 J (F0 J J J (λq=>eqF q))<|S2 1 J<|b9 ?_
 cases h
 exact f1

theorem a1o{a0 a1}:PO Tryz.prog 341 [a7.Pv a0,b7.Pv a1] (J6 a0 a1) λr=>.bool r:=by
 refine pO Tryz.func341 λr h _ _=>?_
 refine S4 3 J<|S4 4 J<|S3 8 J<|y0 J (o0 (cs:=[.I a1.Val.Serial,.I a1.Val.Strong,.I a1.Val.Weak,.I a1.Val.Prog]) J Ty.c8w Ty.c9c J J J)<|S2 2 J<|S3 1 J<|cA h Y3 J J λv1 _ h=>S1 1 J<|j8 J (λhg=>oL J J J Ty.c9v Ty.d0y nl J)<|j8 J (λhg=>o0 (cs:=[.I 0,.I 0,.I 0,.I 0]) J Ty.c8w Ty.c9c J J J)<|j8 J (λhg=>c2v (xs:=[.I a1.Val.Serial,.I a1.Val.Strong,.I a1.Val.Weak,.I a1.Val.Prog]) (ys:=[.I 0,.I 0,.I 0,.I 0]) Ty.d0c (ct hg) (ct hg) J)<|j8 J (λhg=>om (d:=.bool ((a1.Val.Serial==0)&&((a1.Val.Strong==0)&&((a1.Val.Weak==0)&&((a1.Val.Prog==0)&&true))))) (ct hg))<|j8 (D3 J J J) (λhg=>oF J Ty.b47 J)<|j8 (D3 J J J) (λhg=>oS (ct hg) J J Ty.a4 J)<|j8 (D3 J J J) (λhg=>a2Q (ct hg) J)<|j8 J (λhg=>r9 (ct hg) J J (λq=>b2f hg (eqT q)))<|j8 J (λhg=>om (d:=.bool (((a1.Val.Serial==0)&&((a1.Val.Strong==0)&&((a1.Val.Weak==0)&&((a1.Val.Prog==0)&&true))))&&(!a1.Val.Started))) (ct hg))<|j8 (D3 J J J) (λhg=>oF J Ty.b7X J)<|j8 (D3 J J J) (λhg=>oS (ct hg) J J Ty.a27 J)<|j8 (D3 J J J) (λhg=>a0l (f:=iF) (ct hg) Ty.D0)<|j8 (D3 J J J) (λhg=>w8 (ct hg) J J)<|j8 J (λhg=>r9 (ct hg) J J (λq=>b2f hg (eqT q)))<|y0 J (F0 J J J (λq=>eqF q))<|S2 1 J<|b9 ?_
 cases h
 exact f1

theorem b76{f:Fv}{a0:a7}{a1:b7}{r:Bool}(h:b1S f a0 a1=some r):∃n,f=some n∧y5 Tryz.prog n∧O9 Tryz.prog n [a7.Pv a0,b7.Pv a1] (.bool r):=by
 unfold b1S at h
 by_cases e338:f=some 338
 ·rw[if_pos e338] at h;exact⟨338,e338,(@a3H a0 a1).1,(@a3H a0 a1).2 _ h⟩
 rw[if_neg e338] at h
 by_cases e339:f=some 339
 ·rw[if_pos e339] at h;exact⟨339,e339,(@a0U a0 a1).1,(@a0U a0 a1).2 _ h⟩
 rw[if_neg e339] at h
 by_cases e340:f=some 340
 ·rw[if_pos e340] at h;exact⟨340,e340,(@a2R a0 a1).1,(@a2R a0 a1).2 _ h⟩
 rw[if_neg e340] at h
 by_cases e341:f=some 341
 ·rw[if_pos e341] at h;exact⟨341,e341,(@a1o a0 a1).1,(@a1o a0 a1).2 _ h⟩
 rw[if_neg e341] at h
 cases h

theorem a56{a0}:PO Tryz.prog 272 [a7.Pv a0] (O7 a0) λr=>.bool r:=by
 refine pO Tryz.func272 λr h _ _=>?_
 refine S4 2 J<|sR<|b3C (KT:=Int) (VT:=Bool) (EK:=iF) (E:=PV.bool) 5000006 J J<|S2 1 J ?_
 refine jq h (λ_=>St.of [] []) (λq13 h=>?_) λκ12 h=>?_
 ·refine S4 1 J ?_
  refine b9 ?_
  cases h
  exact f1
 ·refine S3 3 J ?_
  refine nL J Ty.e22<|S2 1 J<|g8<|lq h (λq=>St.of [(3,.mp 5000006),(9,.L b7.Pv a0.S.a8),(10,.I (a0.S.a8.length:Int)),(11,.I q.1)] [(5000006,⟨[.mapc (List.map (ent iF PV.bool) q.2)],0,false,0,false⟩)]) W λq18 x17 h hx12=>?_
  obtain⟨s15,s16⟩:=q18
  refine S4 1 J<|j5 ?_
  refine cN h (λhc h=>?_) λhc h=>?_
  ·refine c8 ?_
   refine jq h (λj22=>St.of [(3,.mp 5000006),(9,.L b7.Pv a0.S.a8),(10,.I (a0.S.a8.length:Int)),(11,.I s15)] [(5000006,⟨[.mapc (List.map (ent iF PV.bool) j22)],0,false,0,false⟩)]) (λj22 h=>?_) λκ21 h=>?_
   ·refine S6 2 J ?_
    exact eL h W
   ·refine g8 ?_
    refine sR<|iL h J J Ty.e22 Ty.a6v λv23 _ h=>S2 3 J<|j5<|S3 1 J<|cA h Y3 J J λv24 _ h=>S2 1 J ?_
    refine cN h (λhc h=>?_) λhc h=>?_
    ·refine o8 ?_
     refine g6<|l7 ?_
     exact eJ h W
    ·refine c8 ?_
     refine j5<|S3 4 J<|b7G (es:=s16) (k:=v23.Val.Serial) (E:=PV.bool) (EK:=iF) (d:=.bool ((r8 s16 v23.Val.Serial).getD (false:Bool))) J J J J Ty.a8s (s7 Ty.u3) Ty.z4 J (lk1 _ _ _)<|yN ?_
     refine cN h (λhc h=>?_) λhc h=>?_
     ·refine S4 1 J ?_
      refine b9 ?_
      have h:=xL hx12 h
      cases h
      exact f1
     ·refine c8 ?_
      refine S5 4 J<|U8 (es:=s16) (k:=v23.Val.Serial) (v:=true) (E:=PV.bool) (EK:=iF) (.inl J) J J J J J J Ty.a8s (s7 Ty.u3)<|yN ?_
      exact eJ h W
  ·refine o8 ?_
   refine g6<|g6<|l7 ?_
   have h:=xL hx12 h
   exact eJ h W

theorem b3o{a0}:PO Tryz.prog 194 [a7.Pv a0] (a2t a0) λr=>.bool r:=by
 refine pO Tryz.func194 λr h _ _=>?_
 refine S4 2 J<|j5<|S3 3 J<|nL J Ty.e22<|S1 2 J<|j8 J (λhg=>oF J Ty.c1J J)<|j8 J (λhg=>oF (ct hg) Ty.c1I J)<|j8 J (λhg=>oS (ct hg) J J Ty.a3 J)<|j8 J (λhg=>w8 (ct hg) J J)<|y0 J (F0 J J J (λq=>eqF q))<|S1 1 J<|j8 J (λhg=>oF J Ty.c1J J)<|j8 J (λhg=>oF (ct hg) Ty.c1I J)<|j8 J (λhg=>oS (ct hg) J J Ty.a3 J)<|j8 J (λhg=>w8 (ct hg) J J)<|y0 J (F0 J J J (λq=>eqF q))<|S1 1 J<|j8 J (λhg=>oF J Ty.c5v J)<|j8 J (λhg=>oS (ct hg) J J Ty.a3 J)<|j8 J (λhg=>w8 (ct hg) J J)<|y0 J (F0 J J J (λq=>eqF q))<|yN ?_
 refine cN h (λhc h=>?_) λhc h=>?_
 ·refine S4 1 J ?_
  refine b9 ?_
  cases h
  exact f1
 ·refine c8 ?_
  refine jq h (λ_=>St.of [(1,.ptr 1 0 0)] [(1,vR (a7.Pv a0) 3)]) (λq23 h=>?_) λκ22 h=>?_
  ·refine S3 1 J ?_
   refine cA h a56 J J λv24 _ h=>S2 1 J<|b9 ?_
   cases h
   exact f1
  ·refine S3 3 J ?_
   refine nL J Ty.e22<|S2 1 J<|g8<|lq h (λs26=>St.of [(1,.ptr 1 0 0),(31,.L b7.Pv a0.S.a8),(32,.I (a0.S.a8.length:Int)),(33,.I s26)] [(1,vR (a7.Pv a0) 3)]) W λs26 x27 h hx29=>S4 1 J<|j5 ?_
   refine cN h (λhc h=>?_) λhc h=>?_
   ·refine c8 ?_
    refine jq h (λ_=>St.of [(1,.ptr 1 0 0),(31,.L b7.Pv a0.S.a8),(32,.I (a0.S.a8.length:Int)),(33,.I s26)] [(1,vR (a7.Pv a0) 3)]) (λq37 h=>?_) λκ36 h=>?_
    ·refine S6 2 J ?_
     exact eL h W
    ·refine g8 ?_
     refine sR<|iL h J J Ty.e22 Ty.a6v λv38 _ h=>S2 3 J<|sR<|cF h b3p J J λv39 _ h=>nL J Ty.c6c<|S2 1 J<|g8<|lq h (λs41=>St.of [(1,.ptr 1 0 0),(4,.ptr 4 0 0),(31,.L b7.Pv a0.S.a8),(32,.I (a0.S.a8.length:Int)),(33,.I s26),(37,.K6 true (List.map z6.Pv v39)),(38,.I (v39.length:Int)),(39,.I s41)] [(4,vR (b7.Pv v38) 8),(1,vR (a7.Pv a0) 3)]) W λs41 x42 h hx45=>S4 1 J<|j5 ?_
     refine cN h (λhc h=>?_) λhc h=>?_
     ·refine c8 ?_
      refine j5<|g8<|sR<|iL h J J Ty.c6c Ty.c81 λv43 _ h=>S2 3 J<|S3 4 J ?_
      obtain⟨v44,hv47,h⟩:=a8g h
      obtain⟨n45,he48,hk49,hp50⟩:=b76 hv47
      refine G9 (b90 44 J he48)<|y0 J (b2K J hk49 J hp50)<|S2 1 J ?_
      refine cN h (λhc h=>?_) λhc h=>?_
      ·refine S4 1 J ?_
       refine b9 ?_
       have h:=xL hx45 h
       have h:=xL hx29 h
       cases h
       exact f1
      ·refine c8 ?_
       refine S6 2 J ?_
       exact eL h W
     ·refine o8 ?_
      refine g6<|g6<|l7 ?_
      have h:=xL hx45 h
      exact eJ h W
   ·refine o8 ?_
    refine g6<|g6<|l7 ?_
    have h:=xL hx29 h
    exact eJ h W

theorem b3Q{a0}:PO Tryz.prog 195 [.L b8.Pv a0] (a5v a0) λr=>.bool r:=by
 refine pO Tryz.func195 λr h _ _=>?_
 refine S4 1 J<|j5<|S3 1 J<|nL J Ty.e29<|S1 2 J<|j8 J (λhg=>om (d:=.L b8.Pv a0) J)<|j8 J (λhg=>a0l (f:=b8.Pv) (ct hg) Ty.e29)<|j8 J (λhg=>w8 (ct hg) J J)<|y0 J (F0 J J J (λq=>eqF q))<|yN ?_
 refine cN h (λhc h=>?_) λhc h=>?_
 ·refine S4 1 J ?_
  refine b9 ?_
  cases h
  exact f1
 ·refine c8 ?_
  refine jq h (λ_=>St.of [] []) (λq7 h=>?_) λκ6 h=>?_
  ·refine S4 1 J ?_
   refine b9 ?_
   cases h
   exact f1
  ·refine S3 1 J ?_
   refine nL J Ty.e29<|S2 1 J<|g8<|lq h (λs9=>St.of [(0,.L b8.Pv a0),(14,.L b8.Pv a0),(15,.I (a0.length:Int)),(16,.I s9)] []) W λs9 x10 h hx9=>S4 1 J<|j5 ?_
   refine cN h (λhc h=>?_) λhc h=>?_
   ·refine c8 ?_
    refine j5<|g8<|S3 1 J<|iL h J J Ty.e29 Ty.a95 λv11 _ h=>S2 4 J<|S3 1 J<|y0 J (o0 (cs:=[.I 0,.I 0,.I 0]) J Ty.c4I Ty.c08 J J J)<|y0 J (c2v (xs:=b8.Pc v11) (ys:=[.I 0,.I 0,.I 0]) Ty.c8B J J J)<|S1 1 J<|j8 J (λhg=>oL J J J Ty.c9t Ty.a95 nl J)<|j8 J (λhg=>o0 (cs:=[.I 2,.I 0,.I 0]) J Ty.c4I Ty.c08 J J J)<|j8 J (λhg=>c2v (xs:=b8.Pc v11) (ys:=[.I 2,.I 0,.I 0]) Ty.c8B (ct hg) (ct hg) J)<|y0 J (F0 J J J (λq=>eqF q))<|S2 1 J<|S3 3 J<|j8 J (λhg=>oF J Ty.c6h J)<|j8 J (λhg=>oS (ct hg) J J Ty.a3 J)<|j8 J (λhg=>w8 (ct hg) J J)<|j8 J (λhg=>om (d:=.bool (v11.State != 1)) (ct hg))<|j8 (D3 J J J) (λhg=>om (d:=.L b8.Pv a0) J)<|j8 (D3 J J J) (λhg=>oF J Ty.c1H J)<|j8 (D3 J J J) (λhg=>oS (ct hg) J J Ty.a3 J)<|B2 h λv12 hv11 h=>j8 (D3 J J J) (λhg=>L9 J a2T (L1 (ct hg) (L1 (ct hg) J)) (W9 hv11 hg))<|j8 (D3 J J J) (λhg=>mI J)<|j8 (D3 J J J) (λhg=>w8 (ct hg) (ct hg) J)<|j8 J (λhg=>F0 (ct hg) J J (λq=>b2f hg (eqF q)))<|y0 J (r9 J J J (λq=>eqT q))<|yN ?_
    refine cN h (λhc h=>?_) λhc h=>?_
    ·refine S4 1 J ?_
     refine b9 ?_
     have h:=xL hx9 h
     cases h
     exact f1
    ·refine c8 ?_
     refine S6 2 J ?_
     exact eL h W
   ·refine o8 ?_
    refine g6<|g6<|l7 ?_
    have h:=xL hx9 h
    exact eJ h W

theorem a9C{a0}:PO Tryz.prog 121 [b6.Pv a0] (a04 a0) λr=>.bool r:=by
 refine pO Tryz.func121 λr h _ _=>?_
 refine S4 2 J<|sR<|cF h b1t J J λv1 _ h=>S2 2 J<|S3 2 J<|cA h b3o J J λv2 _ h=>S1 1 J<|j8 J (λhg=>oF J Ty.c73 J)<|j8 J (λhg=>oS (ct hg) J J Ty.a29 J)<|B2 h λv3 hv3 h=>j8 J (λhg=>L9 J b3Q (L1 (ct hg) J) (W9 hv3 hg))<|y0 J (r9 J J J (λq=>eqT q))<|S1 1 J<|j8 J (λhg=>oF J Ty.c1L J)<|j8 J (λhg=>oS (ct hg) J J Ty.a27 J)<|j8 J (λhg=>a0l (f:=iF) (ct hg) Ty.D0)<|j8 J (λhg=>w8 (ct hg) J J)<|y0 J (r9 J J J (λq=>eqT q))<|S1 1 J<|j8 J (λhg=>oF J Ty.b87 J)<|j8 J (λhg=>oS (ct hg) J J Ty.a28 J)<|j8 J (λhg=>a0l (f:=c4.Pv) (ct hg) Ty.e28)<|j8 J (λhg=>w8 (ct hg) J J)<|y0 J (r9 J J J (λq=>eqT q))<|S1 1 J<|j8 J (λhg=>oF J Ty.b6z J)<|j8 J (λhg=>oF (ct hg) Ty.c71 J)<|j8 J (λhg=>oS (ct hg) J J Ty.a3 J)<|j8 J (λhg=>mI J)<|j8 J (λhg=>w8 (ct hg) (ct hg) J)<|y0 J (r9 J J J (λq=>eqT q))<|S1 1 J<|j8 J (λhg=>oF J Ty.b6z J)<|j8 J (λhg=>oF (ct hg) Ty.c1K J)<|j8 J (λhg=>oS (ct hg) J J Ty.a30 J)<|j8 J (λhg=>a0l (f:=g7.Pv) (ct hg) Ty.e30)<|j8 J (λhg=>mI J)<|j8 J (λhg=>w8 (ct hg) (ct hg) J)<|y0 J (r9 J J J (λq=>eqT q))<|S2 1 J ?_
 refine b9 ?_
 cases h
 exact f1

theorem a71{a0 a1}:PO Tryz.prog 198 [.I a0,.rptr (b6.Pc a1)] (a1J a0 a1) λr=>.bool r:=by
 refine pO Tryz.func198 λr h _ _=>?_
 refine S4 1 J<|S3 2 J<|cA h K5 J J λv1 _ h=>S2 1 J<|b9 ?_
 cases h
 exact f1

theorem a0V{a0 a1}:PO Tryz.prog 197 [.L iF a0,.fn (.func 198) [.rptr (b6.Pc a1)]] (C6 a0 a1) λr=>.bool r:=by
 refine pO Tryz.func197 λr h _ _=>?_
 refine S4 1 J ?_
 refine jq h (λ_=>St.of [] []) (λq7 h=>?_) λκ6 h=>?_
 ·refine S4 1 J ?_
  refine b9 ?_
  cases h
  exact f1
 ·refine S3 1 J ?_
  refine nL J Ty.D0<|S2 1 J<|g8<|lq h (λs9=>St.of [(1,.fn (.func 198) [.rptr (b6.Pc a1)]),(7,.L iF a0),(8,.I (a0.length:Int)),(9,.I s9)] []) W λs9 x10 h hx9=>S4 1 J<|j5 ?_
  refine cN h (λhc h=>?_) λhc h=>?_
  ·refine c8 ?_
   refine j5<|g8<|sR<|iL h J J Ty.D0 Ty.s3 λv11 _ h=>S2 2 J<|S3 2 J<|cA h a71 J J λv12 _ h=>S2 1 J ?_
   refine cN h (λhc h=>?_) λhc h=>?_
   ·refine S4 1 J ?_
    refine b9 ?_
    have h:=xL hx9 h
    cases h
    exact f1
   ·refine c8 ?_
    refine S6 2 J ?_
    exact eL h W
  ·refine o8 ?_
   refine g6<|g6<|l7 ?_
   have h:=xL hx9 h
   exact eJ h W

theorem a31{a0}:PO Tryz.prog 122 [b6.Pv a0] (W6 a0) λr=>.bool r:=by
 refine pO Tryz.func122 λr h _ _=>?_
 unfold W6 at h
 refine S4 2 J<|S3 2 J<|B2 h λv1 hv1 h=>ycN J (b2L J a0q J hv1) J J<|S2 1 J ?_
 refine jq h (λj12=>St.of [(1,.ptr 1 0 0),(3,.sl 10)] [(10,⟨List.map iF j12,(List.map iF j12).length,true,1,true⟩),(1,vR (b6.Pv a0) 8)]) (λj12 h=>?_) λκ11 h=>?_
 ·refine S3 2 J ?_
  refine cA h a0V J J λv13 _ h=>S2 1 J<|b9 ?_
  cases h
  exact f1
 ·refine S3 2 J ?_
  refine cF h C4 J J λv14 _ h=>nL J Ty.D0<|S2 1 J<|g8<|lq h (λq=>St.of [(1,.ptr 1 0 0),(3,.sl 10),(13,.L iF v14),(14,.I (v14.length:Int)),(15,.I q.1)] [(10,⟨List.map iF q.2,(List.map iF q.2).length,true,1,true⟩),(1,vR (b6.Pv a0) 8)]) (Wk.trans (n8 _ [10]) W) λq19 x18 h hx14=>?_
  obtain⟨s16,s17⟩:=q19
  refine S4 1 J<|j5 ?_
  refine cN h (λhc h=>?_) λhc h=>?_
  ·refine c8 ?_
   refine j5<|g8<|sR<|iL h J J Ty.D0 Ty.s3 λv20 _ h=>S2 2 J<|S3 3 J<|cF h w7 J J λv21 _ h=>S2 6 J<|S5 3 J<|B2 h λv22 hv17 h=>Y5 J (V6 (f:=iF) hv17 J J J J J J (.inl ⟨_,J,J⟩) Ty.D0 Ty.s3 Ty.b3 Ty.z3 J (λ_=>J)) J J J<|S2 1 J<|S6 2 J ?_
   exact eL h (Wk.trans (n8 _ [29]) (WP (λl=>if l=10 then 29 else l)))
  ·refine o8 ?_
   refine g6<|g6<|l7 ?_
   have h:=xL hx14 h
   exact eJ h (Wk.trans (n8 _ [10]) W)

theorem a72{a0 a1}:PO Tryz.prog 201 [l5.Pv a0,.rptr (b6.Pc a1)] (a1K a0 a1) λr=>.bool r:=by
 refine pO Tryz.func201 λr h _ _=>?_
 refine S4 2 J<|S3 3 J<|cA h a02 J J λv1 _ h=>S1 1 J<|j8 J (λhg=>b6X J Ty.U0 Ty.M5 nl J)<|j8 J (λhg=>oF J Ty.b7Y J)<|j8 J (λhg=>oS (ct hg) J J Ty.a3 J)<|B2 h λv2 hv2 h=>j8 J (λhg=>L9 J a02 (L1 (ct hg) (L1 (ct hg) J)) (W9 hv2 hg))<|y0 J (r9 J J J (λq=>eqT q))<|S2 1 J<|b9 ?_
 cases h
 exact f1

theorem U7{a0 a1}:PO Tryz.prog 199 [.L l5.Pv a0,.fn (.func 201) [.rptr (b6.Pc a1)]] (z7 a0 a1) λr=>.bool r:=by
 refine pO Tryz.func199 λr h _ _=>?_
 refine S4 1 J ?_
 refine jq h (λ_=>St.of [] []) (λq7 h=>?_) λκ6 h=>?_
 ·refine S4 1 J ?_
  refine b9 ?_
  cases h
  exact f1
 ·refine S3 1 J ?_
  refine nL J Ty.b44<|S2 1 J<|g8<|lq h (λs9=>St.of [(1,.fn (.func 201) [.rptr (b6.Pc a1)]),(7,.L l5.Pv a0),(8,.I (a0.length:Int)),(9,.I s9)] []) W λs9 x10 h hx9=>S4 1 J<|j5 ?_
  refine cN h (λhc h=>?_) λhc h=>?_
  ·refine c8 ?_
   refine j5<|g8<|sR<|iL h J J Ty.b44 Ty.c0T λv11 _ h=>S2 3 J<|S3 2 J<|cA h a72 J J λv12 _ h=>S2 1 J ?_
   refine cN h (λhc h=>?_) λhc h=>?_
   ·refine S4 1 J ?_
    refine b9 ?_
    have h:=xL hx9 h
    cases h
    exact f1
   ·refine c8 ?_
    refine S6 2 J ?_
    exact eL h W
  ·refine o8 ?_
   refine g6<|g6<|l7 ?_
   have h:=xL hx9 h
   exact eJ h W

theorem a33{a0}:PO Tryz.prog 123 [b6.Pv a0] (a03 a0) λr=>.bool r:=by
 refine pO Tryz.func123 λr h _ _=>?_
 refine S4 2 J<|S3 2 J<|cF h a6G J J λv1 _ h=>S1 1 J<|cA h U7 J J λv2 _ h=>S2 1 J<|b9 ?_
 cases h
 exact f1

theorem a9D{a0 a1}:PO Tryz.prog 205 [b6.Pv a0,g7.Pv a1] (a05 a0 a1) λr=>.bool r:=by
 refine pO Tryz.func205 λr h _ _=>?_
 refine S4 3 J<|j5<|S4 2 J<|g8<|S4 2 J ?_
 refine cN h (λhc h=>?_) λhc h=>?_
 ·refine S3 4 J ?_
  refine cF h w7 J J λv1 _ h=>S2 6 J<|S3 3 J<|j8 J (λhg=>oF J Ty.b47 J)<|j8 J (λhg=>oS (ct hg) J J Ty.a4 J)<|y0 J (r9 J J J (λq=>eqT q))<|S2 1 J<|b9 ?_
  cases h
  exact f1
 ·refine S4 2 J ?_
  refine cN h (λhc h=>?_) λhc h=>?_
  ·refine S3 4 J ?_
   refine j8 J (λhg=>oF J Ty.c5x J)<|j8 J (λhg=>oS (ct hg) J J Ty.a3 J)<|j8 J (λhg=>oF J Ty.b87 J)<|j8 J (λhg=>oS (ct hg) J J Ty.a28 J)<|j8 J (λhg=>a0l (f:=c4.Pv) (ct hg) Ty.e28)<|j8 J (λhg=>w8 (ct hg) (ct hg) J)<|y0 J (r9 J J J (λq=>eqT q))<|S1 1 J<|j8 J (λhg=>oF J Ty.b87 J)<|j8 J (λhg=>oS (ct hg) J J Ty.a28 J)<|j8 J (λhg=>oF J Ty.c5x J)<|j8 J (λhg=>oS (ct hg) J J Ty.a3 J)<|B2 h λv2 hv2 h=>j8 J (λhg=>a4b (f:=c4.Pv) (cs:=c4.Pc v2) (W9 hv2 hg) (ct hg) (ct hg) Ty.e28 Ty.s68 J J)<|j8 J (λhg=>a5K (ct hg) Ty.c5w J)<|j8 J (λhg=>a1a (ct hg) Ty.a4 J)<|j8 J (λhg=>a2Q (ct hg) J)<|y0 J (r9 J J J (λq=>eqT q))<|S2 1 J<|b9 ?_
   cases h
   exact f1
  ·refine c8 ?_
   refine S4 1 J<|b9 ?_
   cases h
   exact f1

theorem a4N{a0}:PO Tryz.prog 124 [b6.Pv a0] (a14 a0) λr=>.bool r:=by
 refine pO Tryz.func124 λr h _ _=>?_
 refine S4 2 J<|sR<|b3C (KT:=g7) (VT:=Bool) (EK:=g7.Pv) (E:=PV.bool) 5000004 J J<|S2 2 J<|S3 4 J<|G9 (WPE (λl=>if l=2001 then 1 else if l=2002 then 3 else if l=5002003 then 5000004 else l) [(7,.L g7.Pv a0.Q.L),(8,.fn (.func 204) [.ptr 2002 0 0,.ptr 2001 0 0])] [(2001,vR (b6.Pv a0) 8),(2002,vS (.mp 5002003) 1),(5002003,⟨[.mapc (List.map (ent g7.Pv PV.bool) [])],0,false,0,false⟩)]) ?_
 refine b1x (fn:=Tryz.f203) (N1:=18) J J Tryz.func203 J Ty.c9W J J nl (λe1 o2=>?_)
 refine jqR h (λq=>St.of [(1000007,.L g7.Pv a0.Q.L),(1000008,.fn (.func 204) [.ptr 2002 0 0,.ptr 2001 0 0]),(4,.bool q.1)] [(2001,vR (b6.Pv a0) 8),(2002,vS (.mp 5002003) 1),(5002003,⟨[.mapc (List.map (ent g7.Pv PV.bool) q.2)],0,false,0,false⟩)]) (λq20 h=>dup ?_) λκ17 h=>?_
 ·obtain⟨j18,j19⟩:=q20
  refine⟨J,[.bool j18],⟨J,tr⟩,?_⟩
  refine G9 (WE [(9,.bool j18)] [])<|S2 1 J<|b9 ?_
  cases h
  exact f1
 ·refine S4 1 J ?_
  refine jq h (λj29=>St.of [(1000007,.L g7.Pv a0.Q.L),(1000008,.fn (.func 204) [.ptr 2002 0 0,.ptr 2001 0 0])] [(2001,vR (b6.Pv a0) 8),(2002,vS (.mp 5002003) 1),(5002003,⟨[.mapc (List.map (ent g7.Pv PV.bool) j29)],0,false,0,false⟩)]) (λj29 h=>?_) λκ28 h=>?_
  ·refine S4 1 J ?_
   refine b9 ?_
   exact eJ h W
  ·refine S3 1 J ?_
   refine nL J Ty.e30<|S2 1 J<|g8<|lq h (λq=>St.of [(1000007,.L g7.Pv a0.Q.L),(1000008,.fn (.func 204) [.ptr 2002 0 0,.ptr 2001 0 0]),(1,.fn (.func 204) [.ptr 2002 0 0,.ptr 2001 0 0]),(7,.L g7.Pv a0.Q.L),(8,.I (a0.Q.L.length:Int)),(9,.I q.1)] [(2001,vR (b6.Pv a0) 8),(2002,vS (.mp 5002003) 1),(5002003,⟨[.mapc (List.map (ent g7.Pv PV.bool) q.2)],0,false,0,false⟩)]) W λq34 x33 h hx29=>?_
   obtain⟨s31,s32⟩:=q34
   refine S4 1 J<|j5 ?_
   refine cN h (λhc h=>?_) λhc h=>?_
   ·refine c8 ?_
    refine j5<|g8<|sR<|iL h J J Ty.e30 Ty.s79 λv35 _ h=>S2 3 J<|S3 2 J<|G9 (WE [(1000007,.L g7.Pv a0.Q.L),(1000008,.fn (.func 204) [.ptr 2002 0 0,.ptr 2001 0 0]),(1,.fn (.func 204) [.ptr 2002 0 0,.ptr 2001 0 0]),(7,.L g7.Pv a0.Q.L),(8,.I (a0.Q.L.length:Int)),(9,.I s31),(13,.fn (.func 204) [.ptr 2002 0 0,.ptr 2001 0 0]),(14,g7.Pv v35)] [(2001,vR (b6.Pv a0) 8),(2002,vS (.mp 5002003) 1),(5002003,⟨[.mapc (List.map (ent g7.Pv PV.bool) s32)],0,false,0,false⟩)]) ?_
    refine b1x (fn:=Tryz.f204) (N1:=34) J J Tryz.func204 J Ty.c9X J J nl (λe31 o32=>?_)
    refine S4 2 J<|S3 4 J<|y0 J (o0 (cs:=[.I v35.Kind,.I v35.At,.I 0]) J Ty.p79 Ty.z79 J J J)<|S2 2 J<|S3 2 J<|b7G (es:=s32) (k:=(⟨v35.Kind,v35.At,0⟩:g7)) (E:=PV.bool) (EK:=g7.Pv) (d:=.bool ((r8 s32 (⟨v35.Kind,v35.At,0⟩:g7)).getD (false:Bool))) J J J J Ty.c5K (b6N g7.Pc (λ_=>J) Ty.q79 (by decide) (λ_ _=>J) g7.beq_eq (λ_=>J) (λ_=>⟨J,J⟩)) Ty.z4 J (lk1 _ _ _)<|S2 1 J<|S3 2 J<|U8 (es:=s32) (k:=(⟨v35.Kind,v35.At,0⟩:g7)) (v:=true) (E:=PV.bool) (EK:=g7.Pv) (.inl J) J J J J J J Ty.c5K (b6N g7.Pc (λ_=>J) Ty.q79 (by decide) (λ_ _=>J) g7.beq_eq (λ_=>J) (λ_=>⟨J,J⟩))<|yN<|S3 3 J<|j8 J (λhg=>oF J Ty.c5y J)<|j8 J (λhg=>oS (ct hg) J J Ty.a3 J)<|j8 J (λhg=>w8 (ct hg) J J)<|y0 J (r9 J J J (λq=>eqT q))<|S1 1 J<|j8 J (λhg=>oF J Ty.c5y J)<|j8 J (λhg=>oS (ct hg) J J Ty.a3 J)<|j8 J (λhg=>w8 (ct hg) J J)<|y0 J (r9 J J J (λq=>eqT q))<|S1 1 J<|j8 J (λhg=>oL J J J Ty.U0 Ty.M5 nl J)<|j8 J (λhg=>oL J J J Ty.a79 Ty.s79 nl J)<|B2 h λv36 hv33 h=>j8 J (λhg=>L9 J a9D (L1 (ct hg) (L1 (ct hg) J)) (W9 hv33 hg))<|y0 J (r9 J J J (λq=>eqT q))<|S2 1 J<|b9 ?_
    refine⟨J,[.bool ((((!((r8 s32 (⟨v35.Kind,v35.At,0⟩:g7)).getD (false:Bool)))&&(decide (v35.Prog≥0)))&&(decide (v35.Prog<6)))&&v36)],⟨J,tr⟩,?_⟩
    refine G9 (WE [(1000007,.L g7.Pv a0.Q.L),(1000008,.fn (.func 204) [.ptr 2002 0 0,.ptr 2001 0 0]),(1,.fn (.func 204) [.ptr 2002 0 0,.ptr 2001 0 0]),(7,.L g7.Pv a0.Q.L),(8,.I (a0.Q.L.length:Int)),(9,.I s31),(15,.bool ((((!((r8 s32 (⟨v35.Kind,v35.At,0⟩:g7)).getD (false:Bool)))&&(decide (v35.Prog≥0)))&&(decide (v35.Prog<6)))&&v36))] [(2001,vR (b6.Pv a0) 8),(2002,vS (.mp 5002003) 1),(5002003,⟨[.mapc (List.map (ent g7.Pv PV.bool) (m9 s32 (⟨v35.Kind,v35.At,0⟩:g7) true))],0,false,0,false⟩)])<|S2 1 J ?_
    refine cN h (λhc h=>?_) λhc h=>?_
    ·refine S4 1 J ?_
     refine b9 ?_
     have h:=xL hx29 h
     exact eJ h W
    ·refine c8 ?_
     refine S6 2 J ?_
     exact eL h W
   ·refine o8 ?_
    refine g6<|g6<|l7 ?_
    have h:=xL hx29 h
    exact eJ h W

theorem a8P{a0 a1}:PO Tryz.prog 207 [c4.Pv a0,.rptr (b6.Pc a1)] (a2D a0 a1) λr=>.bool r:=by
 refine pO Tryz.func207 λr h _ _=>?_
 refine S4 2 J<|j5<|S3 4 J<|j8 J (λhg=>oF J Ty.c74 J)<|j8 J (λhg=>oS (ct hg) J J Ty.a3 J)<|j8 J (λhg=>w8 (ct hg) J J)<|y0 J (F0 J J J (λq=>eqF q))<|yN ?_
 refine cN h (λhc h=>?_) λhc h=>?_
 ·refine S4 1 J ?_
  refine b9 ?_
  cases h
  exact f1
 ·refine c8 ?_
  refine j5<|S4 2 J ?_
  refine cN h (λhc h=>?_) λhc h=>?_
  ·refine S3 3 J ?_
   refine cA h a02 J J λv1 _ h=>S2 1 J<|b9 ?_
   cases h
   exact f1
  ·refine c8 ?_
   refine S3 5 J<|cA h C8 J J λv2 _ h=>S2 5 J<|S3 4 J<|j8 J (λhg=>mI J)<|j8 J (λhg=>w8 (ct hg) J J)<|y0 J (F0 J J J (λq=>eqF q))<|S2 1 J<|b9 ?_
   cases h
   exact f1

theorem W4{a0 a1}:PO Tryz.prog 206 [.L c4.Pv a0,.fn (.func 207) [.rptr (b6.Pc a1)]] (A6 a0 a1) λr=>.bool r:=by
 refine pO Tryz.func206 λr h _ _=>?_
 refine S4 1 J ?_
 refine jq h (λ_=>St.of [] []) (λq7 h=>?_) λκ6 h=>?_
 ·refine S4 1 J ?_
  refine b9 ?_
  cases h
  exact f1
 ·refine S3 1 J ?_
  refine nL J Ty.e28<|S2 1 J<|g8<|lq h (λs9=>St.of [(1,.fn (.func 207) [.rptr (b6.Pc a1)]),(7,.L c4.Pv a0),(8,.I (a0.length:Int)),(9,.I s9)] []) W λs9 x10 h hx9=>S4 1 J<|j5 ?_
  refine cN h (λhc h=>?_) λhc h=>?_
  ·refine c8 ?_
   refine j5<|g8<|sR<|iL h J J Ty.e28 Ty.s68 λv11 _ h=>S2 3 J<|S3 2 J<|cA h a8P J J λv12 _ h=>S2 1 J ?_
   refine cN h (λhc h=>?_) λhc h=>?_
   ·refine S4 1 J ?_
    refine b9 ?_
    have h:=xL hx9 h
    cases h
    exact f1
   ·refine c8 ?_
    refine S6 2 J ?_
    exact eL h W
  ·refine o8 ?_
   refine g6<|g6<|l7 ?_
   have h:=xL hx9 h
   exact eJ h W

theorem a4L{a0}:PO Tryz.prog 125 [b6.Pv a0] (a12 a0) λr=>.bool r:=by
 refine pO Tryz.func125 λr h _ _=>?_
 refine S4 2 J<|S3 3 J<|cA h W4 J J λv1 _ h=>S2 1 J<|b9 ?_
 cases h
 exact f1

theorem b08{a0 a1}:PO Tryz.prog 280 [c4.Pv a0,.rptr [.I a1]] (a2b a0 a1) λr=>.bool r:=by
 refine pO Tryz.func280 λr h _ _=>?_
 unfold a2b at h
 refine S4 2 J<|S3 3 J<|j8 J (λhg=>oF J Ty.c1M J)<|j8 J (λhg=>oS (ct hg) J J Ty.a3 J)<|j8 J (λhg=>a1a J Ty.a3 J)<|j8 J (λhg=>w8 (ct hg) (ct hg) J)<|y0 J (r9 J J J (λq=>eqT q))<|S2 1 J<|b9 ?_
 cases h
 exact f1

theorem a2w{a0 a1}:PO Tryz.prog 279 [.L c4.Pv a0,.fn (.func 280) [.rptr [.I a1]]] (L8 a0 a1) λr=>.L iF r:=by
 refine pO Tryz.func279 λr h _ _=>?_
 refine S4 1 J<|S4 1 J ?_
 refine jq h (λj15=>St.of [(5,.sl 910005)] [(910005,⟨List.map iF j15,(List.map iF j15).length,true,1,true⟩)]) (λj15 h=>?_) λκ14 h=>?_
 ·refine S4 2 J ?_
  refine b9 ?_
  cases h
  exact f1
 ·refine S3 1 J ?_
  refine nL J Ty.e28<|S2 1 J<|g8<|lq h (λq=>St.of [(1,.fn (.func 280) [.rptr [.I a1]]),(5,.sl 910005),(8,.L c4.Pv a0),(9,.I (a0.length:Int)),(10,.I q.1)] [(910005,⟨List.map iF q.2,(List.map iF q.2).length,true,1,true⟩)]) (Wk.trans (R9 (t:=5) (l:=920005) (z:=1) J J) (WP (λl=>if l=910005 then 920005 else l))) λq20 x19 h hx14=>?_
  obtain⟨s17,s18⟩:=q20
  refine S4 1 J<|j5 ?_
  refine cN h (λhc h=>?_) λhc h=>?_
  ·refine c8 ?_
   refine jq h (λj25=>St.of [(1,.fn (.func 280) [.rptr [.I a1]]),(5,.sl 21),(8,.L c4.Pv a0),(9,.I (a0.length:Int)),(10,.I s17)] [(21,⟨List.map iF j25,(List.map iF j25).length,true,1,true⟩)]) (λj25 h=>?_) λκ24 h=>?_
   ·refine S6 2 J ?_
    exact eL h (Wk.trans (n8 _ [21]) (WP (λl=>if l=910005 then 21 else l)))
   ·refine g8 ?_
    refine S3 1 J<|iL h J J Ty.e28 Ty.s68 λv26 _ h=>S2 4 J<|S3 2 J<|cA h b08 J J λv27 _ h=>yN ?_
    refine cN h (λhc h=>?_) λhc h=>?_
    ·refine S5 2 J ?_
     refine y0 J (Q2 (f:=iF) (l:=[s17]) J Ty.D0 Ty.s3 Ty.z3 J J nl J J)<|B2 h λv28 hv21 h=>Y5 J (V6 (f:=iF) hv21 J J J J J J (.inl ⟨_,J,J⟩) Ty.D0 Ty.s3 Ty.b3 Ty.z3 J (λ_=>J)) J J J<|S2 1 J ?_
     exact eJ h (Wk.trans (n8 _ [21]) W)
    ·refine c8 ?_
     exact eJ h (Wk.trans (n8 _ [910005]) (WP (λl=>if l=21 then 910005 else l)))
  ·refine o8 ?_
   refine g6<|g6<|l7 ?_
   have h:=xL hx14 h
   exact eJ h (Wk.trans (n8 _ [910005]) W)

theorem b3y{a0 a1}:PO Tryz.prog 209 [.L c4.Pv a0,.I a1] (a2v a0 a1) λr=>.I r:=by
 refine pO Tryz.func209 λr h _ _=>?_
 unfold a2v at h
 refine S4 2 J<|S3 2 J<|B2 h λv1 hv1 h=>ycL J (A0 J a2w J hv1) J<|nL J Ty.D0<|S2 1 J<|b9 ?_
 cases h
 exact f1

theorem a4M{a0}:PO Tryz.prog 126 [b6.Pv a0] (a13 a0) λr=>.bool r:=by
 refine pO Tryz.func126 λr h _ _=>?_
 refine S4 2 J ?_
 refine jq h (λ_=>St.of [] []) (λq13 h=>?_) λκ12 h=>?_
 ·refine S4 1 J ?_
  refine b9 ?_
  cases h
  exact f1
 ·refine S3 4 J ?_
  refine nL J Ty.e22<|S2 1 J<|g8<|lq h (λs15=>St.of [(1,.ptr 1 0 0),(8,.L b7.Pv a0.S.S.a8),(9,.I (a0.S.S.a8.length:Int)),(10,.I s15)] [(1,vR (b6.Pv a0) 8)]) W λs15 x16 h hx14=>S4 1 J<|j5 ?_
  refine cN h (λhc h=>?_) λhc h=>?_
  ·refine c8 ?_
   refine jq h (λ_=>St.of [(1,.ptr 1 0 0),(8,.L b7.Pv a0.S.S.a8),(9,.I (a0.S.S.a8.length:Int)),(10,.I s15)] [(1,vR (b6.Pv a0) 8)]) (λq21 h=>?_) λκ20 h=>?_
   ·refine S6 2 J ?_
    exact eL h W
   ·refine g8 ?_
    refine S3 1 J<|iL h J J Ty.e22 Ty.a6v λv22 _ h=>S2 4 J<|j5<|S3 4 J<|j8 J (λhg=>oF J Ty.b2o J)<|j8 J (λhg=>oS (ct hg) J J Ty.a3 J)<|j8 J (λhg=>w8 (ct hg) J J)<|y0 J (r9 J J J (λq=>eqT q))<|yN ?_
    refine cN h (λhc h=>?_) λhc h=>?_
    ·refine o8 ?_
     refine g6<|l7 ?_
     exact eJ h W
    ·refine c8 ?_
     refine j5<|dr [] Ty.mix (by kernel_rfl) (by kernel_rfl)<|S7 8 J<|B2 h λv23 hv20 h=>d2 J (L9 J a3p J hv20) J<|B2 h λv24 hv21 h=>d2 J (L9 J b3y J hv21) J<|S8 1 J ?_
     refine cN h (λhc h=>?_) λhc h=>?_
     ·refine S4 1 J ?_
      refine b9 ?_
      have h:=xL hx14 h
      cases h
      exact f1
     ·refine c8 ?_
      refine S3 4 J<|j8 J (λhg=>oF J Ty.b48 J)<|j8 J (λhg=>oF (ct hg) Ty.b7W J)<|j8 J (λhg=>oS (ct hg) J J Ty.a3 J)<|j8 J (λhg=>w8 (ct hg) J J)<|j8 J (λhg=>om (d:=.bool (decide (v22.Val.Weak<1))) (ct hg))<|j8 (D3 J J J) (λhg=>oF J Ty.b48 J)<|j8 (D3 J J J) (λhg=>oF (ct hg) Ty.b7X J)<|j8 (D3 J J J) (λhg=>oS (ct hg) J J Ty.a27 J)<|j8 (D3 J J J) (λhg=>a0l (f:=iF) (ct hg) Ty.D0)<|j8 (D3 J J J) (λhg=>w8 (ct hg) J J)<|j8 J (λhg=>F0 (ct hg) J J (λq=>b2f hg (eqF q)))<|j8 J (λhg=>om (d:=.bool ((decide (v22.Val.Weak<1))||(decide ((v22.Val.Fields.length:Int) > 0)))) (ct hg))<|j8 (D3 J J J) (λhg=>oF J Ty.b48 J)<|j8 (D3 J J J) (λhg=>oF (ct hg) Ty.b7V J)<|j8 (D3 J J J) (λhg=>oS (ct hg) J J Ty.a3 J)<|j8 (D3 J J J) (λhg=>w8 (ct hg) J J)<|j8 J (λhg=>F0 (ct hg) J J (λq=>b2f hg (eqF q)))<|y0 J (r9 J J J (λq=>eqT q))<|yN ?_
      refine cN h (λhc h=>?_) λhc h=>?_
      ·refine S4 1 J ?_
       refine b9 ?_
       have h:=xL hx14 h
       cases h
       exact f1
      ·refine c8 ?_
       exact eJ h W
  ·refine o8 ?_
   refine g6<|g6<|l7 ?_
   have h:=xL hx14 h
   exact eJ h W

theorem b77{f:Fv}{a0:b6}{r:Bool}(h:Y7 f a0=some r):∃n,f=some n∧y5 Tryz.prog n∧O9 Tryz.prog n [b6.Pv a0] (.bool r):=by
 unfold Y7 at h
 by_cases e122:f=some 122
 ·rw[if_pos e122] at h;exact⟨122,e122,(@a31 a0).1,(@a31 a0).2 _ h⟩
 rw[if_neg e122] at h
 by_cases e123:f=some 123
 ·rw[if_pos e123] at h;exact⟨123,e123,(@a33 a0).1,(@a33 a0).2 _ h⟩
 rw[if_neg e123] at h
 by_cases e124:f=some 124
 ·rw[if_pos e124] at h;exact⟨124,e124,(@a4N a0).1,(@a4N a0).2 _ h⟩
 rw[if_neg e124] at h
 by_cases e125:f=some 125
 ·rw[if_pos e125] at h;exact⟨125,e125,(@a4L a0).1,(@a4L a0).2 _ h⟩
 rw[if_neg e125] at h
 by_cases e126:f=some 126
 ·rw[if_pos e126] at h;exact⟨126,e126,(@a4M a0).1,(@a4M a0).2 _ h⟩
 rw[if_neg e126] at h
 cases h

theorem b59{a0}:PO Tryz.prog 215 [c9.Pv a0] (a5c a0) λr=>.L iF r:=by
 refine pO Tryz.func215 λr h _ _=>?_
 refine S4 2 J<|S4 1 J ?_
 refine jq h (λj10=>St.of [(3,.ptr 2001 0 0)] [(2001,vS (.sl 912501) 1),(912501,⟨List.map iF j10,(List.map iF j10).length,true,1,true⟩)]) (λj10 h=>?_) λκ9 h=>?_
 ·refine S4 2 J ?_
  refine b9 ?_
  cases h
  exact f1
 ·refine S3 1 J ?_
  refine cF h b3q J J λv11 _ h=>yN<|g8<|a1y (WPE (λl=>if l=2011 then 3 else l) [(3,.ptr 2011 0 0),(6,.fn (.func 350) [.rptr (c9.Pc v11.1),.rptr [.I v11.2]])] [(2011,vR (.nl) 1)]) ?_
  refine a0m (fn:=Tryz.f350) (N1:=24) J Tryz.func350 J J nl J Ty.c8e J J (λl17 e18 o19 hR20=>?_)
  refine S3 2 J<|nL J Ty.e30<|S2 1 J<|g8<|lq h (λq=>St.of [(1000003,.ptr 2011 0 0),(1000006,.fn (.func 350) [.rptr (c9.Pc v11.1),.rptr [.I v11.2]]),(0,.fn (.yield l17) []),(2,.rptr [.I v11.2]),(7,.L g7.Pv v11.1.L),(8,.I (v11.1.L.length:Int)),(9,.I q.1)] [(2011,vS (.sl 912511) 1),(912511,⟨List.map iF q.2,(List.map iF q.2).length,true,1,true⟩)]) (Wk.trans (b0l (l0:=2011) (j:=0) (l:=922511) (z:=1) J J J J J) (WP (λl=>if l=912511 then 922511 else l))) λq16 x15 h hx23=>?_
  obtain⟨s13,s14⟩:=q16
  refine S4 1 J<|j5 ?_
  refine cN h (λhc h=>?_) λhc h=>?_
  ·refine c8 ?_
   refine j5<|g8<|sR<|iL h J J Ty.e30 Ty.s79 λv17 _ h=>S2 3 J<|S3 5 J<|j8 J (λhg=>om (d:=.fn (.yield l17) []) J)<|j8 J (λhg=>oL J J J Ty.a79 Ty.s79 nl J) ?_
   rcases Bool.eq_false_or_eq_true ((v17.Kind==v11.2)==true) with hg25 | hg25
   ·have h:=ifT h hg25
    refine G9 (WPE (λl=>if l=2019 then 912511 else l) [(1000003,.ptr 2011 0 0),(1000006,.fn (.func 350) [.rptr (c9.Pc v11.1),.rptr [.I v11.2]]),(0,.fn (.yield l17) []),(2,.rptr [.I v11.2]),(7,.L g7.Pv v11.1.L),(8,.I (v11.1.L.length:Int)),(9,.I s13),(17,.bool (v17.Kind==v11.2)),(18,.fn (.yield l17) []),(19,g7.Pv v17)] [(2011,vS (.sl 2019) 1),(2019,⟨List.map iF s14,(List.map iF s14).length,true,1,true⟩)]) ?_
    refine a4m hR20 (congrArg some hg25) J J J J J (λe26 o27 o28=>?_)
    refine S6 2 J ?_
    refine⟨J,?_⟩
    refine g8<|S5 3 J<|y0 J (Q2 (f:=iF) (l:=[v17.At]) J Ty.D0 Ty.s3 Ty.z3 J J nl J J)<|B2 h λv18 hv29 h=>Y5 J (V6 (f:=iF) hv29 J J J J J J (.inl ⟨_,J,J⟩) Ty.D0 Ty.s3 Ty.b3 Ty.z3 J (λ_=>J)) J J J<|S2 1 J ?_
    refine⟨J,?_⟩
    refine G9 (WPE (λl=>if l=2020 then 12 else l) [(1000003,.ptr 2011 0 0),(1000006,.fn (.func 350) [.rptr (c9.Pc v11.1),.rptr [.I v11.2]]),(0,.fn (.yield l17) []),(2,.rptr [.I v11.2]),(7,.L g7.Pv v11.1.L),(8,.I (v11.1.L.length:Int)),(9,.I s13),(17,.bool (v17.Kind==v11.2)),(20,.bool true)] [(2011,vS (.sl 2020) 1),(2020,⟨List.map iF v18,s14.length,true,1,true⟩)])<|y0 (congrArg some hg25) (a2Q J J)<|y0 J (a4d J J hg25)<|yN ?_
    refine D8 false J (λq=>nomatch q) (λ_=>?_)
    refine c8<|S6 2 J ?_
    exact eL h (Wk.trans (n8 _ [2020]) (WP (λl=>if l=912511 then 2020 else l)))
   ·have h:=ifF h hg25
    refine U9 (congrArg some hg25)<|U9 (congrArg some hg25)<|y0 J (a4c J J hg25)<|yN ?_
    refine D8 false J (λq=>nomatch q) (λ_=>?_)
    refine c8<|S6 2 J ?_
    exact eL h (Wk.trans (n8 _ [912511]) W)
  ·refine o8 ?_
   refine g6<|g6<|l7 ?_
   refine .inl ⟨J,?_⟩
   have h:=xL hx23 h
   exact eJ h (Wk.trans (n8 _ [912511]) (WP (λl=>if l=2001 then 2011 else if l=912501 then 912511 else l)))

theorem b3S{a0}:PO Tryz.prog 128 [b6.Pv a0] (a5y a0) λr=>.L iF r:=by
 refine pO Tryz.func128 λr h _ _=>?_
 refine S4 2 J<|S4 1 J ?_
 refine jq h (λj13=>St.of [(1,.ptr 1 0 0),(3,.sl 910003)] [(910003,⟨List.map iF j13,(List.map iF j13).length,true,1,true⟩),(1,vR (b6.Pv a0) 8)]) (λj13 h=>?_) λκ12 h=>?_
 ·refine S3 3 J ?_
  refine cF h b59 J J λv14 _ h=>B2 h λv15 hv11 h=>Y5 J (V6 (f:=iF) hv11 J J J J J J (.inl ⟨_,J,J⟩) Ty.D0 Ty.s3 Ty.b3 Ty.z3 J (λ_=>J)) J J J<|S2 1 J<|b9 ?_
  cases h
  exact f1
 ·refine S3 2 J ?_
  refine nL J Ty.D0<|S2 1 J<|g8<|lq h (λq=>St.of [(1,.ptr 1 0 0),(3,.sl 910003),(7,.L iF a0.Roots),(8,.I (a0.Roots.length:Int)),(9,.I q.1)] [(1,vR (b6.Pv a0) 8),(910003,⟨List.map iF q.2,(List.map iF q.2).length,true,1,true⟩)]) (Wk.trans (R9 (t:=3) (l:=920003) (z:=1) J J) (WP (λl=>if l=910003 then 920003 else l))) λq20 x19 h hx14=>?_
  obtain⟨s17,s18⟩:=q20
  refine S4 1 J<|j5 ?_
  refine cN h (λhc h=>?_) λhc h=>?_
  ·refine c8 ?_
   refine jq h (λj24=>St.of [(1,.ptr 1 0 0),(3,.sl 18),(7,.L iF a0.Roots),(8,.I (a0.Roots.length:Int)),(9,.I s17)] [(18,⟨List.map iF j24,(List.map iF j24).length,true,1,true⟩),(1,vR (b6.Pv a0) 8)]) (λj24 h=>?_) λκ23 h=>?_
   ·refine S6 2 J ?_
    exact eL h (Wk.trans (n8 _ [18]) (WP (λl=>if l=910003 then 18 else l)))
   ·refine g8 ?_
    refine sR<|iL h J J Ty.D0 Ty.s3 λv25 _ h=>S2 2 J<|S4 2 J ?_
    refine cN h (λhc h=>?_) λhc h=>?_
    ·refine S5 2 J ?_
     refine y0 J (Q2 (f:=iF) (l:=[v25]) J Ty.D0 Ty.s3 Ty.z3 J J nl J J)<|B2 h λv26 hv19 h=>Y5 J (V6 (f:=iF) hv19 J J J J J J (.inl ⟨_,J,J⟩) Ty.D0 Ty.s3 Ty.b3 Ty.z3 J (λ_=>J)) J J J<|S2 1 J ?_
     exact eJ h (Wk.trans (n8 _ [18]) W)
    ·refine c8 ?_
     exact eJ h (Wk.trans (n8 _ [910003]) (WP (λl=>if l=18 then 910003 else l)))
  ·refine o8 ?_
   refine g6<|g6<|l7 ?_
   have h:=xL hx14 h
   exact eJ h (Wk.trans (n8 _ [910003]) W)

theorem b6e{a0 a1}:PO Tryz.prog 283 [.L iF a0,.I a1] (a7V a0 a1) λr=>.I r:=by
 refine pO Tryz.func283 λr h _ _=>?_
 refine S4 2 J<|S4 2 J ?_
 refine jq h (λj11=>St.of [(5,.ptr 2001 0 0)] [(2001,vR (.I j11) 1)]) (λj11 h=>?_) λκ10 h=>?_
 ·refine S4 2 J ?_
  refine b9 ?_
  cases h
  exact f1
 ·refine S3 1 J ?_
  refine cF h b0j J J λv12 _ h=>yN<|g8<|a1y (WPE (λl=>if l=2003 then 5 else if l=2004 then 3 else l) [(3,.ptr 2004 0 0),(5,.ptr 2003 0 0),(8,.fn (.func 292) [.rptr [.L iF v12]])] [(2003,vR (.I 0) 1),(2004,vR (.I a1) 1)]) ?_
  refine a0m (fn:=Tryz.f292) (N1:=20) J Tryz.func292 J J nl J Ty.c8c J J (λl17 e18 o19 hR20=>?_)
  refine S3 1 J<|nL J Ty.D0<|S2 1 J<|g8<|lq h (λq=>St.of [(1000003,.ptr 2004 0 0),(1000005,.ptr 2003 0 0),(1000008,.fn (.func 292) [.rptr [.L iF v12]]),(0,.fn (.yield l17) []),(5,.L iF v12),(6,.I (v12.length:Int)),(7,.I q.1)] [(2003,vR (.I q.2) 1),(2004,vR (.I a1) 1)]) W λq17 x16 h hx23=>?_
  obtain⟨s14,s15⟩:=q17
  refine S4 1 J<|j5 ?_
  refine cN h (λhc h=>?_) λhc h=>?_
  ·refine c8 ?_
   refine j5<|g8<|sR<|iL h J J Ty.D0 Ty.s3 λv18 _ h=>S2 2 J<|S3 3 J<|j8 J (λhg=>om (d:=.fn (.yield l17) []) J)<|j8 J (λhg=>mI J) ?_
   rcases Bool.eq_false_or_eq_true ((v18 != 0)==true) with hg25 | hg25
   ·have h:=ifT h hg25
    refine G9 (WE [(1000003,.ptr 2004 0 0),(1000005,.ptr 2003 0 0),(1000008,.fn (.func 292) [.rptr [.L iF v12]]),(0,.fn (.yield l17) []),(5,.L iF v12),(6,.I (v12.length:Int)),(7,.I s14),(13,.bool (v18 != 0)),(14,.fn (.yield l17) []),(15,.I v18)] [(2003,vR (.I s15) 1),(2004,vR (.I a1) 1)]) ?_
    refine a4m hR20 (congrArg some hg25) J J J J J (λe26 o27 o28=>?_)
    refine S6 1 J ?_
    refine⟨J,?_⟩
    refine jqE h (λj20=>St.of [(2000003,.ptr 2004 0 0),(2000005,.ptr 2003 0 0),(2000008,.fn (.func 292) [.rptr [.L iF v12]]),(1000000,.fn (.yield l17) []),(1000005,.L iF v12),(1000006,.I (v12.length:Int)),(1000007,.I s14),(1000013,.bool (v18 != 0)),(1000014,.fn (.yield l17) []),(1000015,.I v18)] [(2003,vR (.I j20) 1),(2004,vR (.I a1) 1)]) (λj20 h=>?_) λκ19 h=>?_
    ·refine⟨J,?_⟩
     refine G9 (WE [(1000003,.ptr 2004 0 0),(1000005,.ptr 2003 0 0),(1000008,.fn (.func 292) [.rptr [.L iF v12]]),(0,.fn (.yield l17) []),(5,.L iF v12),(6,.I (v12.length:Int)),(7,.I s14),(13,.bool (v18 != 0)),(16,.bool true)] [(2003,vR (.I j20) 1),(2004,vR (.I a1) 1)])<|j8 J (λhg=>a2Q J J)<|y0 J (r9 J J J (λq=>eqT q))<|yN ?_
     refine cN h (λhc h=>?_) λhc h=>?_
     ·refine b9 ?_
      refine .inl ⟨J,?_⟩
      have h:=xL hx23 h
      exact eJ h (WP (λl=>if l=2001 then 2003 else l))
     ·refine c8 ?_
      refine S6 2 J ?_
      exact eL h W
    ·refine g8 ?_
     refine S4 3 J ?_
     refine cN h (λhc h=>?_) λhc h=>?_
     ·refine S6 3 J ?_
      exact eJ h W
     ·refine c8 ?_
      exact eJ h W
   ·have h:=ifF h hg25
    refine U9 (congrArg some hg25)<|U9 (congrArg some hg25)<|y0 J (a4c J J hg25)<|yN ?_
    refine D8 false J (λq=>nomatch q) (λ_=>?_)
    refine c8<|S6 2 J ?_
    exact eL h W
  ·refine o8 ?_
   refine g6<|g6<|l7 ?_
   refine .inl ⟨J,?_⟩
   have h:=xL hx23 h
   exact eJ h (WP (λl=>if l=2001 then 2003 else l))

theorem b3Y{a0 a1}:PO Tryz.prog 213 [.L iF a0,.I a1] (a5R a0 a1) λr=>.I r:=by
 refine pO Tryz.func213 λr h _ _=>?_
 refine S4 1 J<|S3 2 J<|cA h b6e J J λv1 _ h=>S2 1 J<|b9 ?_
 cases h
 exact f1

theorem b1J{a0 a1 a2 a3 a4}:PO Tryz.prog 210 [.I a0,k9.Pv a1,.rptr (a7.Pc a2),.rptr [.L b8.Pv a3],.rptr [.L iF a4]] (a23 a0 a1 a2 a3 a4) λr=>.bool r:=by
 refine pO Tryz.func210 λr h _ _=>?_
 unfold a23 at h
 refine S4 2 J<|dr [] Ty.mix (by kernel_rfl) (by kernel_rfl)<|S7 2 J<|B2 h λv1 hv1 h=>d2 J (L9 J a6E J hv1) J<|S7 2 J<|a9i J (λhg=>b6X J Ty.a26 Ty.s26 nl J) J<|a9i J (λhg=>a1a J Ty.a29 J) J<|a6c J (λhg _ hN=>mI J) J<|B2 h λv2 hv2 h=>c5r J (λhg=>L9 J a8A (L1 (ct hg) (L1 (ct hg) (L1 (ct hg) J))) (W9 hv2 hg)) J<|a9i J (λhg=>a1a J Ty.a27 J) J<|a6c J (λhg _ hN=>mI J) J<|B2 h λv3 hv3 h=>c5r J (λhg=>L9 J b3Y (L1 (ct hg) (L1 (ct hg) J)) (W9 hv3 hg)) J<|a6c J (λhg _ hN=>w8 (ct hg) (ct hg) J) J<|d7 J (λ_ hN=>r9 J J J (λq=>eqT q)) J<|S8 1 J<|b9 ?_
 cases h
 exact f1

theorem b35{a0 a1 a2}:PO Tryz.prog 127 [a7.Pv a0,.L b8.Pv a1,.L iF a2] (a58 a0 a1 a2) λr=>.bool r:=by
 refine pO Tryz.func127 λr h _ _=>?_
 refine S4 4 J<|S3 1 J<|y0 J (o0 (cs:=[.fn (.func 210) [.ptr 3 0 0,.ptr 4 0 0,.ptr 5 0 0]]) J Ty.c8v Ty.c9b J J J)<|G9 (a2x 9 (d':=.agg [.fn (.func 210) [.ptr 3 0 0,.ptr 4 0 0,.ptr 5 0 0]]) J)<|S2 2 J<|S3 2 J<|G9 (WPE (λl=>if l=2001 then 5 else if l=2002 then 4 else if l=2003 then 3 else l) [(10,.agg [.fn (.func 210) [.ptr 2003 0 0,.ptr 2002 0 0,.ptr 2001 0 0]]),(11,a7.Pv a0)] [(2001,vR (.L iF a2) 1),(2002,vR (.L b8.Pv a1) 1),(2003,vR (a7.Pv a0) 3)]) ?_
 refine b1x (fn:=Tryz.f214) (N1:=34) J J Tryz.func214 J Ty.c8b J J nl (λe1 o2=>?_)
 refine jqR h (λj36=>St.of [(1000010,.agg [.fn (.func 210) [.ptr 2003 0 0,.ptr 2002 0 0,.ptr 2001 0 0]]),(1000011,a7.Pv a0),(4,.sl 910005)] [(910005,⟨List.map iF j36,(List.map iF j36).length,true,1,true⟩),(2001,vR (.L iF a2) 1),(2002,vR (.L b8.Pv a1) 1),(2003,vR (a7.Pv a0) 3)]) (λj36 h=>dup ?_) λκ35 h=>?_
 ·refine⟨J,[.sl 910005],⟨J,tr⟩,?_⟩
  refine G9 (WPE (λl=>if l=2004 then 910005 else l) [(12,.sl 2004)] [(2004,⟨List.map iF j36,(List.map iF j36).length,true,1,true⟩)])<|y0 J (b9r (f:=iF) J J J Ty.D0)<|S2 2 J<|b9 ?_
  cases h
  exact f1
 ·refine S4 3 J ?_
  refine S4 1 J ?_
  refine jq h (λj54=>St.of [(1000010,.agg [.fn (.func 210) [.ptr 2003 0 0,.ptr 2002 0 0,.ptr 2001 0 0]]),(1000011,a7.Pv a0),(5,.sl 910005)] [(910005,⟨List.map iF j54,(List.map iF j54).length,true,1,true⟩),(2001,vR (.L iF a2) 1),(2002,vR (.L b8.Pv a1) 1),(2003,vR (a7.Pv a0) 3)]) (λj54 h=>?_) λκ53 h=>?_
  ·refine S4 2 J ?_
   refine b9 ?_
   exact eJ h (Wk.trans (n8 _ [910005]) W)
  ·refine S3 1 J ?_
   refine cF h C4 J J λv55 _ h=>nL J Ty.D0<|S2 1 J<|g8<|lq h (λq=>St.of [(1000010,.agg [.fn (.func 210) [.ptr 2003 0 0,.ptr 2002 0 0,.ptr 2001 0 0]]),(1000011,a7.Pv a0),(2,.ptr 2 0 0),(3,.ptr 3 0 0),(5,.sl 910005),(11,.L iF v55),(12,.I (v55.length:Int)),(13,.I q.1)] [(3,vR (a7.Pv a0) 3),(2,vS (.agg [.fn (.func 210) [.ptr 2003 0 0,.ptr 2002 0 0,.ptr 2001 0 0]]) 1),(2001,vR (.L iF a2) 1),(2002,vR (.L b8.Pv a1) 1),(2003,vR (a7.Pv a0) 3),(910005,⟨List.map iF q.2,(List.map iF q.2).length,true,1,true⟩)]) (Wk.trans (R9 (t:=5) (l:=920005) (z:=1) J J) (WP (λl=>if l=910005 then 920005 else l))) λq60 x59 h hx48=>?_
   obtain⟨s57,s58⟩:=q60
   refine S4 1 J<|j5 ?_
   refine cN h (λhc h=>?_) λhc h=>?_
   ·refine c8 ?_
    refine jq h (λj66=>St.of [(1000010,.agg [.fn (.func 210) [.ptr 2003 0 0,.ptr 2002 0 0,.ptr 2001 0 0]]),(1000011,a7.Pv a0),(2,.ptr 2 0 0),(3,.ptr 3 0 0),(5,.sl 31),(11,.L iF v55),(12,.I (v55.length:Int)),(13,.I s57)] [(31,⟨List.map iF j66,(List.map iF j66).length,true,1,true⟩),(3,vR (a7.Pv a0) 3),(2,vS (.agg [.fn (.func 210) [.ptr 2003 0 0,.ptr 2002 0 0,.ptr 2001 0 0]]) 1),(2001,vR (.L iF a2) 1),(2002,vR (.L b8.Pv a1) 1),(2003,vR (a7.Pv a0) 3)]) (λj66 h=>?_) λκ65 h=>?_
    ·refine S6 2 J ?_
     exact eL h (Wk.trans (n8 _ [31]) (WP (λl=>if l=910005 then 31 else l)))
    ·refine g8 ?_
     refine sR<|iL h J J Ty.D0 Ty.s3 λv67 _ h=>S2 2 J<|S3 2 J<|cF h w7 J J λv68 _ h=>S2 6 J<|S3 4 J<|cA h b1J J J λv69 _ h=>yN ?_
     refine cN h (λhc h=>?_) λhc h=>?_
     ·refine S5 2 J ?_
      refine y0 J (Q2 (f:=iF) (l:=[v67]) J Ty.D0 Ty.s3 Ty.z3 J J nl J J)<|B2 h λv70 hv57 h=>Y5 J (V6 (f:=iF) hv57 J J J J J J (.inl ⟨_,J,J⟩) Ty.D0 Ty.s3 Ty.b3 Ty.z3 J (λ_=>J)) J J J<|S2 1 J ?_
      exact eJ h (Wk.trans (n8 _ [31]) W)
     ·refine c8 ?_
      exact eJ h (Wk.trans (n8 _ [910005]) (WP (λl=>if l=31 then 910005 else l)))
   ·refine o8 ?_
    refine g6<|g6<|l7 ?_
    have h:=xL hx48 h
    exact eJ h (Wk.trans (n8 _ [910005]) W)

theorem b3T{a0}:PO Tryz.prog 60 [b6.Pv a0] (a5z a0) λr=>.bool r:=by
 refine pO Tryz.func60 λr h _ _=>?_
 refine S4 2 J<|j5<|S3 1 J<|cA h a9C J J λv1 _ h=>S2 1 J ?_
 refine cN h (λhc h=>?_) λhc h=>?_
 ·refine S4 1 J ?_
  refine b9 ?_
  cases h
  exact f1
 ·refine c8 ?_
  refine jq h (λ_=>St.of [(1,.ptr 1 0 0)] [(1,vR (b6.Pv a0) 8)]) (λq9 h=>?_) λκ8 h=>?_
  ·refine dr [] Ty.mix (by kernel_rfl) (by kernel_rfl) ?_
   refine S7 5 J<|B2 h λv10 hv11 h=>d2f J (A0 J b3S J hv11) J<|B2 h λv11 hv12 h=>d2 J (L9 J b35 J hv12) J<|S8 1 J<|b9 ?_
   cases h
   exact f1
  ·refine sR ?_
   refine y0 J (Q2 (f:=λn:Nat=>PV.fn (.func n) []) (l:=[122,123,124,125,126]) J Ty.c6b Ty.s35 Ty.z35 J J nl J J)<|G9 (c7y 8 (d':=.K6 true (List.map fvE [(some 122),(some 123),(some 124),(some 125),(some 126)])) J J J)<|nL J Ty.c6b<|S2 1 J<|g8<|lq h (λs13=>St.of [(1,.ptr 1 0 0),(8,.K6 true (List.map fvE [(some 122),(some 123),(some 124),(some 125),(some 126)])),(9,.I ([(some 122),(some 123),(some 124),(some 125),(some 126)].length:Int)),(10,.I s13)] [(1,vR (b6.Pv a0) 8)]) W λs13 x14 h hx15=>S4 1 J<|j5 ?_
   refine cN h (λhc h=>?_) λhc h=>?_
   ·refine c8 ?_
    refine j5<|g8<|sR<|iL h J J Ty.c6b Ty.s35 λv15 _ h=>S2 2 J<|S3 2 J ?_
    obtain⟨v16,hv17,h⟩:=a8g h
    obtain⟨n17,he18,hk19,hp20⟩:=b77 hv17
    refine G9 (b90 14 J he18)<|y0 J (b2K J hk19 J hp20)<|S2 1 J ?_
    refine cN h (λhc h=>?_) λhc h=>?_
    ·refine S4 1 J ?_
     refine b9 ?_
     have h:=xL hx15 h
     cases h
     exact f1
    ·refine c8 ?_
     refine S6 2 J ?_
     exact eL h W
   ·refine o8 ?_
    refine g6<|g6<|l7 ?_
    have h:=xL hx15 h
    exact eJ h W

theorem b6g:PO Tryz.prog 17 [] (a1V) λr=>.bool r:=by
 refine pO Tryz.func17 λr h _ _=>?_
 refine S4 1 J<|sR<|cF h b1u J J λv1 _ h=>S2 2 J<|S3 1 J<|cF h Q8 J J λv2 _ h=>S2 8 J<|sR<|cF h b1u J J λv3 _ h=>S2 2 J<|S3 1 J<|cF h Q8 J J λv4 _ h=>S2 8 J<|S3 1 J<|cF h Q8 J J λv5 _ h=>S2 8 J<|S3 1 J<|cF h Q9 J J λv6 _ h=>nL J Ty.D0<|S1 2 J<|j8 J (λhg=>mI J)<|j8 J (λhg=>w8 (ct hg) J J)<|y0 J (r9 J J J (λq=>eqT q))<|S1 1 J<|j8 J (λhg=>mI J)<|j8 J (λhg=>w8 (ct hg) J J)<|y0 J (r9 J J J (λq=>eqT q))<|S1 1 J<|j8 J (λhg=>oL J J J Ty.U0 Ty.M5 nl J)<|B2 h λv7 hv7 h=>j8 J (λhg=>L9 J a1B (L1 (ct hg) J) (W9 hv7 hg))<|y0 J (r9 J J J (λq=>eqT q))<|S1 1 J<|j8 J (λhg=>oF J Ty.b6z J)<|j8 J (λhg=>oF (ct hg) Ty.c1K J)<|j8 J (λhg=>oS (ct hg) J J Ty.a30 J)<|j8 J (λhg=>a0l (f:=g7.Pv) (ct hg) Ty.e30)<|j8 J (λhg=>w8 (ct hg) J J)<|y0 J (r9 J J J (λq=>eqT q))<|S1 1 J<|j8 J (λhg=>oL J J J Ty.U0 Ty.M5 nl J)<|B2 h λv8 hv8 h=>c5X J (λhg=>A0 J a4D (L1 (ct hg) J) (W9 hv8 hg))<|j8 J (λhg=>a0l (f:=iF) (ct hg) Ty.D0)<|j8 J (λhg=>w8 (ct hg) J J)<|y0 J (r9 J J J (λq=>eqT q))<|S1 1 J<|j8 J (λhg=>mI J)<|j8 J (λhg=>w8 (ct hg) J J)<|y0 J (r9 J J J (λq=>eqT q))<|S1 1 J<|j8 J (λhg=>mI J)<|j8 J (λhg=>w8 (ct hg) J J)<|y0 J (r9 J J J (λq=>eqT q))<|S1 1 J<|j8 J (λhg=>oF J Ty.b6z J)<|j8 J (λhg=>oF (ct hg) Ty.c1K J)<|j8 J (λhg=>oS (ct hg) J J Ty.a30 J)<|j8 J (λhg=>a0l (f:=g7.Pv) (ct hg) Ty.e30)<|j8 J (λhg=>w8 (ct hg) J J)<|y0 J (r9 J J J (λq=>eqT q))<|S1 1 J<|j8 J (λhg=>oL J J J Ty.U0 Ty.M5 nl J)<|B2 h λv9 hv9 h=>j8 J (λhg=>L9 J a1B (L1 (ct hg) J) (W9 hv9 hg))<|y0 J (r9 J J J (λq=>eqT q))<|S1 1 J<|j8 J (λhg=>mI J)<|j8 J (λhg=>w8 (ct hg) J J)<|y0 J (r9 J J J (λq=>eqT q))<|S1 1 J<|j8 J (λhg=>mI J)<|j8 J (λhg=>w8 (ct hg) J J)<|y0 J (r9 J J J (λq=>eqT q))<|S1 1 J<|j8 J (λhg=>oL J J J Ty.U0 Ty.M5 nl J)<|B2 h λv10 hv10 h=>j8 J (λhg=>L9 J b3T (L1 (ct hg) J) (W9 hv10 hg))<|y0 J (r9 J J J (λq=>eqT q))<|S2 1 J<|b9 ?_
 cases h
 exact f1

theorem w19_CollectRing_ok{a0 a1}:PO Tryz.prog 7 [.int .u8 a0,.bool a1] (a0x a0 a1) λr=>.bool r:=by
 refine pO Tryz.func7 λr h _ _=>?_
 unfold a0x at h
 refine S4 1 J<|S3 1 J<|y0 J (c6N J Ty.u5 Ty.i3 J)<|B2 h λv1 hv1 h=>y0 J (b1k J J hv1)<|S2 2 J<|sR<|cF h b1i J J λv2 _ h=>y0 J (o0 (cs:=[.I 1,.I 0,.I 1,.I (-1)]) J Ty.p73 Ty.z73 J J J)<|y0 J (o0 (cs:=[.I 2,.I 1,.I 0,.I 0]) J Ty.p73 Ty.z73 J J J)<|y0 J (Q2 (f:=k8.Pv) (l:=[(⟨1,0,1,(-1)⟩:k8),(⟨2,1,0,0⟩:k8)]) J Ty.e74 Ty.s73 Ty.z73 J J nl J J)<|cF h W8 J J λv3 _ h=>S2 6 J ?_
 refine jq h (λj11=>St.of [(1,.bool a1),(5,.I (p6 (1+v1))),(6,.ptr 6 0 0)] [(6,vR (b6.Pv j11) 8)]) (λj11 h=>?_) λκ10 h=>?_
 ·refine S3 1 J ?_
  refine y0 J (o0 (cs:=[.I 5,.I 0,.I 0,.I 1]) J Ty.p73 Ty.z73 J J J)<|y0 J (o0 (cs:=[.I 3,.I 0,.I 0,.I 0]) J Ty.p73 Ty.z73 J J J)<|y0 J (o0 (cs:=[.I 3,.I 2,.I 0,.I 0]) J Ty.p73 Ty.z73 J J J)<|y0 J (Q2 (f:=k8.Pv) (l:=[(⟨5,0,0,1⟩:k8),(⟨3,0,0,0⟩:k8),(⟨3,2,0,0⟩:k8)]) J Ty.e74 Ty.s73 Ty.z73 J J nl J J)<|cF h W8 J J λv12 _ h=>S2 4 J ?_
  refine jq h (λj15=>St.of [(1,.bool a1),(5,.I (p6 (1+v1))),(6,.ptr 6 0 0)] [(6,vR (b6.Pv j15) 8)]) (λj15 h=>?_) λκ14 h=>?_
  ·refine S3 1 J ?_
   refine cF h Q8 J J λv16 _ h=>S2 8 J<|S4 2 J ?_
   refine jq h (λj18=>St.of [(5,.I (p6 (1+v1))),(6,.ptr 6 0 0),(9,.ptr 9 0 0),(10,.I v16.2.1),(11,.I v16.2.2),(12,.I j18)] [(9,vR (b6.Pv v16.1) 8),(6,vR (b6.Pv j15) 8)]) (λj18 h=>?_) λκ17 h=>?_
   ·refine S3 2 J ?_
    refine cF h C4 J J λv19 _ h=>nL J Ty.D0<|S1 3 J<|j8 J (λhg=>mI J)<|j8 J (λhg=>w8 (ct hg) J J)<|y0 J (r9 J J J (λq=>eqT q))<|S1 1 J<|j8 J (λhg=>mI J)<|j8 J (λhg=>mI J)<|j8 J (λhg=>w8 (ct hg) (ct hg) J)<|y0 J (r9 J J J (λq=>eqT q))<|S1 1 J<|j8 J (λhg=>oF J Ty.c72 J)<|j8 J (λhg=>oL (ct hg) J J Ty.a26 Ty.s26 nl J)<|B2 h λv20 hv15 h=>c5X J (λhg=>A0 J C4 (L1 (ct hg) J) (W9 hv15 hg))<|j8 J (λhg=>a0l (f:=iF) (ct hg) Ty.D0)<|j8 J (λhg=>mI J)<|j8 J (λhg=>mI J)<|j8 J (λhg=>b1k (ct hg) (ct hg) J)<|j8 J (λhg=>w8 (ct hg) (ct hg) J)<|y0 J (r9 J J J (λq=>eqT q))<|S1 1 J<|j8 J (λhg=>oL J J J Ty.U0 Ty.M5 nl J)<|B2 h λv21 hv16 h=>j8 J (λhg=>L9 J a1B (L1 (ct hg) J) (W9 hv16 hg))<|y0 J (r9 J J J (λq=>eqT q))<|S1 1 J<|B2 h λv22 hv17 h=>j8 J (λhg=>L9 J b6g J (W9 hv17 hg))<|y0 J (r9 J J J (λq=>eqT q))<|S2 1 J<|b9 ?_
    cases h
    exact f1
   ·refine S4 1 J ?_
    refine cN h (λhc h=>?_) λhc h=>?_
    ·refine S6 1 J ?_
     exact eJ h W
    ·refine c8 ?_
     exact eJ h W
  ·refine S4 2 J ?_
   refine cN h (λhc h=>?_) λhc h=>?_
   ·refine S5 1 J ?_
    refine y0 J (o0 (cs:=[.I 3,.I 1,.I 0,.I 0]) J Ty.p73 Ty.z73 J J J)<|y0 J (Q2 (f:=k8.Pv) (l:=[(⟨3,1,0,0⟩:k8)]) J Ty.e74 Ty.s73 Ty.z73 J J nl J J)<|cF h W8 J J λv23 _ h=>S2 4 J ?_
    exact eJ h W
   ·refine c8 ?_
    exact eJ h W
 ·refine S4 1 J ?_
  refine g8<|lq h (λq=>St.of [(1,.bool a1),(5,.I (p6 (1+v1))),(6,.ptr 6 0 0),(8,.I q.1)] [(6,vR (b6.Pv q.2) 8)]) W λq28 x27 h hx21=>?_
  obtain⟨s25,s26⟩:=q28
  refine j5<|S4 3 J ?_
  refine cN h (λhc h=>?_) λhc h=>?_
  ·refine c8 ?_
   refine j5<|g8<|S5 1 J<|y0 J (o0 (cs:=[.I 1,.I 2,.I 1,.I (-1)]) J Ty.p73 Ty.z73 J J J)<|y0 J (o0 (cs:=[.I 5,.I 2,.I 0,.I 1]) J Ty.p73 Ty.z73 J J J)<|y0 J (o0 (cs:=[.I 2,.I 1,.I 2,.I 0]) J Ty.p73 Ty.z73 J J J)<|y0 J (Q2 (f:=k8.Pv) (l:=[(⟨1,2,1,(-1)⟩:k8),(⟨5,2,0,1⟩:k8),(⟨2,1,2,0⟩:k8)]) J Ty.e74 Ty.s73 Ty.z73 J J nl J J)<|cF h W8 J J λv29 _ h=>S2 4 J<|S6 3 J ?_
   exact eL h W
  ·refine o8 ?_
   refine g6<|g6<|l7 ?_
   have h:=xL hx21 h
   exact eJ h W

end Go.Proofs.YtlkcpapbolbjnaaGreat.Ok
