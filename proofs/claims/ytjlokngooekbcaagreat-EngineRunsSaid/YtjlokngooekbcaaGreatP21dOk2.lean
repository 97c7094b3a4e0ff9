/-
 The functions of the program do as the plain functions do.
-/
import Derived.Test.YtjlokngooekbcaaGreatP21dOk1
set_option linter.unusedVariables false
set_option linter.unusedSimpArgs false
set_option linter.unusedSectionVars false
namespace Go.Proofs.YtjlokngooekbcaaGreat.Ok
open Go Go.Pw Go.Sh Go.Proofs
set_option maxRecDepth 100000
set_option maxHeartbeats 4000000
theorem a9a{a0 a1}:PO Tryz.prog 107 [b7.Pv a0,.L iF a1] (a0C a0 a1) λr=>b7.Pv r:=by
 refine pO Tryz.func107 λr h _ _=>?_;refine S4 2 J<|S3 2 J<|cF h a97 J J λv1 _ h=>S2 1 J<|S3 2 J<|cF h b2s J J λv2 _ h=>S2 1 J<|S4 1 J<|S4 2 J ?_;refine jq h (λj13=>St.of [(2,.ptr 2 0 0),(4,.ptr 4 0 0),(5,.L iF v1),(6,.ptr 6 0 0),(7,.fn (.func 172) [.ptr 6 0 0])] [(6,vS (.sl 910506) 1),(910506,⟨List.map iF j13,(List.map iF j13).length,true,1,true⟩),(4,vR (.agg [.nl,.I 0,.I 0,.nl,.nl,.nl,.nl,.I 0]) 8),(2,vR (b7.Pv v2) 8)]) (λj13 h=>?_) λκ12 h=>?_
 ·refine S3 3 J ?_;refine cF h b2Q J J λv14 _ h=>S2 5 J<|S3 2 J<|T7 (WPE (λl=>if l=2025 then 6 else if l=2026 then 4 else if l=2027 then 2 else if l=2028 then 910506 else l) [(2,.ptr 2027 0 0),(4,.ptr 2026 0 0),(5,.L iF v1),(6,.ptr 2025 0 0),(12,.L c5.Pv v14.1),(51,.fn (.func 172) [.ptr 2025 0 0]),(52,.L iF v14.2)] [(2025,vS (.sl 2028) 1),(2028,⟨List.map iF j13,(List.map iF j13).length,true,1,true⟩),(2026,vR (.agg [.nl,.I 0,.I 0,.nl,.nl,.nl,.nl,.I 0]) 8),(2027,vR (b7.Pv v2) 8)]) ?_
  refine b7C (fn:=Tryz.f172) (N1:=6) J J Tryz.func172 J c3B J J nl (λe14 o15=>?_);refine S5 2 J<|r9 h λv15 hv16 h=>H5 J (F1 (f:=iF) hv16 J J J J J J (.inl ⟨_,J,J⟩) g7 m7 F9 y6 J (λ_=>J)) J J J<|S2 1 J ?_;refine⟨J,[],tr,?_⟩;refine T7 (WPE (λl=>if l=2029 then 5 else l) [(2,.ptr 2027 0 0),(4,.ptr 2026 0 0),(5,.L iF v1),(6,.ptr 2025 0 0),(12,.L c5.Pv v14.1)] [(2025,vS (.sl 2029) 1),(2029,⟨List.map iF v15,j13.length,true,1,true⟩),(2026,vR (.agg [.nl,.I 0,.I 0,.nl,.nl,.nl,.nl,.I 0]) 8),(2027,vR (b7.Pv v2) 8)])<|yN<|S4 3 J ?_
  refine jq h (λj24=>St.of [(2,.ptr 2027 0 0),(4,.ptr 2026 0 0),(6,.ptr 2025 0 0)] [(2025,vS (.sl 2029) 1),(2029,⟨List.map iF v15,j13.length,true,1,true⟩),(2026,vR (.agg [.nl,.I 0,.I 0,.nl,.nl,.nl,.nl,.I 0]) 8),(2027,vR (b7.Pv j24) 8)]) (λj24 h=>?_) λκ23 h=>?_
  ·refine jq h (λj33=>St.of [(2,.ptr 2027 0 0),(4,.ptr 2026 0 0)] [(2026,vR (.agg [.nl,.I 0,.I 0,.nl,.nl,.nl,.nl,.I 0]) 8),(2027,vR (b7.Pv j33) 8)]) (λj33 h=>?_) λκ32 h=>?_
   ·refine S4 2 J ?_;refine b6 ?_;cases h;exact⟨J,[_],⟨oL J J J u9 p9 nl J,tr⟩,J,io⟩
   ·refine S3 1 J ?_;refine y0 J (c0F (f:=iF) J J J g7)<|S2 1 J<|c9<|lq h (λq=>St.of [(2,.ptr 2027 0 0),(4,.ptr 2026 0 0),(66,.sl 2029),(67,.I (v15.length:Int)),(68,.I q.1)] [(2029,⟨List.map iF v15,j13.length,true,1,true⟩),(2026,vR (.agg [.nl,.I 0,.I 0,.nl,.nl,.nl,.nl,.I 0]) 8),(2027,vR (b7.Pv q.2) 8)]) W λq38 x37 h hx31=>?_;obtain⟨s35,s36⟩:=q38;refine S4 1 J<|c8 ?_;refine cN h (λhc h=>?_) λhc h=>?_
    ·refine b8 ?_;refine c8<|c9<|sR<|r9 h λv39 hv32 h=>y0 J (a0r (f:=iF) hv32 J J J J g7 m7 J)<|y0 J (b3y (f:=iF) hv32 J J J C5 J)<|S2 1 J<|S5 2 J<|cF h X7 J J λv40 _ h=>S2 1 J<|S6 2 J ?_;exact eL h W
    ·refine o5 ?_;refine c4<|c4<|k7 ?_;have h:=xL hx31 h;exact eJ h W
  ·refine S3 1 J ?_;refine nL J g7<|S2 1 J<|c9<|lq h (λq=>St.of [(2,.ptr 2027 0 0),(4,.ptr 2026 0 0),(6,.ptr 2025 0 0),(56,.L iF v1),(57,.I (v1.length:Int)),(58,.I q.1)] [(2025,vS (.sl 2029) 1),(2029,⟨List.map iF v15,j13.length,true,1,true⟩),(2026,vR (.agg [.nl,.I 0,.I 0,.nl,.nl,.nl,.nl,.I 0]) 8),(2027,vR (b7.Pv q.2) 8)]) W λq45 x44 h hx36=>?_;obtain⟨s42,s43⟩:=q45;refine S4 1 J<|c8 ?_;refine cN h (λhc h=>?_) λhc h=>?_
   ·refine b8 ?_;refine c8<|c9<|sR<|iL h J J g7 m7 λv46 _ h=>S2 2 J<|S5 2 J<|cF h b3i J J λv47 _ h=>S2 1 J<|S6 2 J ?_;exact eL h W
   ·refine o5 ?_;refine c4<|c4<|k7 ?_;have h:=xL hx36 h;exact eJ h W
 ·refine S3 1 J ?_;refine nL J g7<|S2 1 J<|c9<|lq h (λq=>St.of [(2,.ptr 2 0 0),(4,.ptr 4 0 0),(5,.L iF v1),(6,.ptr 6 0 0),(7,.fn (.func 172) [.ptr 6 0 0]),(25,.L iF v1),(26,.I (v1.length:Int)),(27,.I q.1)] [(6,vS (.sl 910506) 1),(4,vR (.agg [.nl,.I 0,.I 0,.nl,.nl,.nl,.nl,.I 0]) 8),(2,vR (b7.Pv v2) 8),(910506,⟨List.map iF q.2,(List.map iF q.2).length,true,1,true⟩)]) (Wk.trans (b2F (l0:=6) (j:=0) (l:=920506) (z:=1) J J J J J) (WP (λl=>if l=910506 then 920506 else l))) λq52 x51 h hx41=>?_
  obtain⟨s49,s50⟩:=q52;refine S4 1 J<|c8 ?_;refine cN h (λhc h=>?_) λhc h=>?_
  ·refine b8 ?_;refine c8<|c9<|sR<|iL h J J g7 m7 λv53 _ h=>S2 2 J<|S3 3 J<|cF h C4 J J λv54 _ h=>S2 6 J<|S5 3 J<|cF h b2B J J λv55 _ h=>T7 (WPE (λl=>if l=2049 then 6 else if l=2050 then 4 else if l=2051 then 2 else if l=2052 then 910506 else l) [(2,.ptr 2051 0 0),(4,.ptr 2050 0 0),(5,.L iF v1),(6,.ptr 2049 0 0),(7,.fn (.func 172) [.ptr 2049 0 0]),(25,.L iF v1),(26,.I (v1.length:Int)),(27,.I s49),(38,.fn (.func 172) [.ptr 2049 0 0]),(41,.L iF v55)] [(2049,vS (.sl 2052) 1),(2052,⟨List.map iF s50,(List.map iF s50).length,true,1,true⟩),(2050,vR (.agg [.nl,.I 0,.I 0,.nl,.nl,.nl,.nl,.I 0]) 8),(2051,vR (b7.Pv v2) 8)]) ?_
   refine b7C (fn:=Tryz.f172) (N1:=6) J J Tryz.func172 J c3B J J nl (λe45 o46=>?_);refine S5 2 J<|r9 h λv56 hv47 h=>H5 J (F1 (f:=iF) hv47 J J J J J J (.inl ⟨_,J,J⟩) g7 m7 F9 y6 J (λ_=>J)) J J J<|S2 1 J ?_;refine⟨J,[],tr,?_⟩;refine T7 (WPE (λl=>if l=2053 then 5 else l) [(2,.ptr 2051 0 0),(4,.ptr 2050 0 0),(5,.L iF v1),(6,.ptr 2049 0 0),(7,.fn (.func 172) [.ptr 2049 0 0]),(25,.L iF v1),(26,.I (v1.length:Int)),(27,.I s49)] [(2049,vS (.sl 2053) 1),(2053,⟨List.map iF v56,s50.length,true,1,true⟩),(2050,vR (.agg [.nl,.I 0,.I 0,.nl,.nl,.nl,.nl,.I 0]) 8),(2051,vR (b7.Pv v2) 8)])<|yN<|S6 2 J ?_
   exact eL h (Wk.trans (n0 _ [2053]) (WP (λl=>if l=2 then 2051 else if l=4 then 2050 else if l=6 then 2049 else if l=910506 then 2053 else l)))
  ·refine o5 ?_;refine c4<|c4<|k7 ?_;have h:=xL hx41 h;exact eJ h (Wk.trans (n0 _ [910506]) W)

theorem a0V{a0}:PO Tryz.prog 103 [b7.Pv a0] (O8 a0) λr=>b7.Pv r:=by
 refine pO Tryz.func103 λr h _ _=>?_;refine S4 2 J<|lqS h (λs2=>St.of [(1,.ptr 1 0 0),(2,.ptr 2 0 0)] [(2,vR (.agg [.nl,.I 0,.I 0,.nl,.nl,.nl,.nl,.I 0]) 8),(1,vR (b7.Pv s2) 8)]) W λs2 x3 h hx3=>S3 1 J<|cF h b5X J J λv4 _ h=>S2 1 J<|c8<|S3 1 J<|nL J g7<|S2 1 J ?_;refine cN h (λhc h=>?_) λhc h=>?_
 ·refine S4 2 J ?_;refine b6 ?_;have h:=xL hx3 h;cases h;exact⟨J,[_],⟨oL J J J u9 p9 nl J,tr⟩,J,io⟩
 ·refine b8 ?_;refine c8<|dr [] o9 (by kernel_rfl) (by kernel_rfl)<|S7 3 J<|r9 h λv5 hv5 h=>d0 J (u7 (f:=iF) (cs:=[.I v5]) hv5 J J g7 m7 J J) J<|S7 1 J<|r9 h λv6 hv6 h=>d2f J (u6 J C4 J hv6) J<|S7 4 J<|A3 (x':=m9.Pv v6.1) (cl':=true) J J (.inr J) a5e<|S8 1 J<|S3 1 J<|cA h a5G J J λv7 _ h=>yN ?_
  refine cN h (λhc h=>?_) λhc h=>?_
  ·refine a1A [] o9 (by kernel_rfl) (by kernel_rfl) ?_
   refine S7 2 J<|d0 J (u7 (f:=iF) (cs:=[.I v5]) hv5 J J g7 m7 J J) J<|S7 1 J<|r9 h λv8 hv8 h=>d2f J (u6 J a6L J hv8) J<|A3 (x':=b7.Pv v8) (cl':=true) J J (.inr J) p9<|G0<|c4u ?_;exact eS h W
  ·refine a1A [] o9 (by kernel_rfl) (by kernel_rfl) ?_
   refine S7 2 J<|r9 h λv9 hv9 h=>d0 J (c2A (f:=iF) hv9 J J ⟨_,J⟩ g7 m7 (λ_=>J)) J<|r9 h λv10 hv10 h=>d2f J (u6 J a9a J hv10) J<|A3 (x':=b7.Pv v10) (cl':=true) J J (.inr J) p9<|G0<|c4u ?_;exact eS h W

theorem a5v{a0 a1}:PO Tryz.prog 69 [b7.Pv a0,.I a1] (a0q a0 a1) λr=>.I r:=by
 refine pO Tryz.func69 λr h _ _=>?_;refine S4 2 J<|S3 3 J<|cF h C4 J J λv1 _ h=>S2 6 J<|S4 3 J<|b6 ?_;cases h;exact f1

theorem a5W{a0 a1}:PO Tryz.prog 163 [b7.Pv a0,.I a1] (a1y a0 a1) λr=>.I r:=by
 refine pO Tryz.func163 λr h _ _=>?_;unfold a1y at h;refine S4 2 J<|dr [] o9 (by kernel_rfl) (by kernel_rfl)<|S7 3 J<|r9 h λv1 hv1 h=>d2 J (D4 J N7 J hv1) J<|r9 h λv2 hv2 h=>d2 J (D4 J a5v J hv2) J<|S8 1 J<|b6 ?_
 cases h;exact f1

theorem b1I{a0 a1 a2}:PO Tryz.prog 104 [b7.Pv a0,b7.Pv a1,g8.Pv a2] (V3 a0 a1 a2) λr=>.I r:=by
 refine pO Tryz.func104 λr h _ _=>?_;refine S4 4 J<|c8<|S4 2 J<|c9<|S4 2 J ?_;refine cN h (λhc h=>?_) λhc h=>?_
 ·refine S3 3 J ?_;refine cA h a5W J J λv1 _ h=>S2 1 J<|b6 ?_;cases h;exact f1
 ·refine jq h (λj3=>St.of [(3,.ptr 3 0 0),(4,.ptr 4 0 0),(5,.ptr 5 0 0),(8,.I a2.Kind),(15,.bool j3)] [(5,vR (g8.Pv a2) 4),(4,vR (b7.Pv a1) 8),(3,vR (b7.Pv a0) 8)]) (λj3 h=>?_) λκ2 h=>?_
  ·refine cN h (λhc h=>?_) λhc h=>?_
   ·refine S3 3 J ?_;refine cA h a5W J J λv4 _ h=>S2 1 J<|b6 ?_;cases h;exact f1
   ·refine S4 2 J ?_;refine cN h (λhc h=>?_) λhc h=>?_
    ·refine c8 ?_;refine dr [] o9 (by kernel_rfl) (by kernel_rfl)<|S7 3 J<|r9 h λv5 hv4 h=>d2 J (D4 J N7 J hv4) J<|S7 3 J<|r9 h λv6 hv5 h=>d2 J (D4 J N7 J hv5) J<|S8 1 J ?_
     refine cN h (λhc h=>?_) λhc h=>?_
     ·refine S4 1 J ?_;refine b6 ?_;cases h;exact f1
     ·refine b8 ?_;refine S4 1 J<|b6 ?_;cases h;exact f1
    ·refine b8 ?_;refine S3 3 J<|cA h a5W J J λv7 _ h=>S2 1 J<|b6 ?_;cases h;exact f1
  ·refine S4 2 J ?_;refine cN h (λhc h=>?_) λhc h=>?_
   ·refine b8 ?_;exact eJ h W
   ·refine S6 2 J ?_;exact eJ h W

theorem b0n{a0 a1}:PO Tryz.prog 59 [b7.Pv a0,g8.Pv a1] (x6 a0 a1) λr=>.tup [b7.Pv r.1,.I r.2.1,.I r.2.2]:=by
 refine pO Tryz.func59 λr h _ _=>?_;refine S4 5 J<|c8<|S3 1 J<|cA h a5R J J λv1 _ h=>S2 1 J<|S4 2 J ?_;refine cN h (λhc h=>?_) λhc h=>?_
 ·refine S4 5 J ?_;refine b6 ?_;cases h;exact⟨J,[_,_,_],⟨oL J J J u9 p9 nl J,⟨J,⟨J,tr⟩⟩⟩,J,io⟩
 ·refine b8 ?_;refine dr [] o9 (by kernel_rfl) (by kernel_rfl)<|r9 h λv2 hv2 h=>d2f J (u6 J b2X J hv2) J<|S7 2 J<|d4 J (d6a (es:=v2) (k:=a1.Kind) (E:=fvE) (EK:=iF) (d:=.tup [fvE ((C0 v2 a1.Kind).getD (none:Fv)),.bool ((C0 v2 a1.Kind).isSome)]) J J a0m (B3 L7) c9P J (lk2 _ _ _)) J<|S8 5 J<|c8<|S4 2 J ?_
  refine cN h (λhc h=>?_) λhc h=>?_
  ·refine S4 4 J ?_;refine b6 ?_;cases h;exact⟨J,[_,_,_],⟨oL J J J u9 p9 nl J,⟨J,⟨J,tr⟩⟩⟩,J,io⟩
  ·refine b8 ?_;refine S3 3 J<|y0 J (o8 (cs:=[.L b9.Pv a0.S.S.a8,.I a0.S.S.Last,.I a0.S.Serial,.L iF a0.Roots,.L g6.Pv a0.a8,.L c5.Pv a0.T,.L k9.Pv a0.Q.L,.I a0.Q.Cap,.I a1.Kind,.I a1.A,.I a1.B,.I a1.C]) J c9B c9Q J J J) ?_;obtain⟨v3,hv3,h⟩:=a8s h;obtain⟨n4,he4,hk5,hp6⟩:=c2m hv3;refine T7 (d2l 30 J he4)<|yc J (b8E J hk5 J hp6)<|S2 6 J<|c8<|S4 2 J ?_;refine cN h (λhc h=>?_) λhc h=>?_
   ·refine S4 5 J ?_;refine b6 ?_;cases h;exact⟨J,[_,_,_],⟨oL J J J u9 p9 nl J,⟨J,⟨J,tr⟩⟩⟩,J,io⟩
   ·refine b8 ?_;refine S3 1 J<|cF h a0V J J λv5 _ h=>S2 2 J<|dr [] o9 (by kernel_rfl) (by kernel_rfl)<|S7 4 J<|r9 h λv6 hv8 h=>d2 J (D4 J b1I J hv8) J<|A3 (x':=b7.Pv v5) (cl':=true) J J (.inr J) p9<|S8 2 J<|b6 ?_
    cases h;exact⟨J,[_,_,_],⟨oL J J J u9 p9 nl J,⟨J,⟨J,tr⟩⟩⟩,J,io⟩

theorem b6A{a0}:PO Tryz.prog 382 [a7.Pv a0] (a7D a0) λr=>.fn (.func 387) [.rptr (a7.Pc r)]:=by
 refine pO Tryz.func382 λr h _ _=>?_;unfold a7D at h;refine S4 2 J<|S4 2 J<|b6 ?_;cases h;exact f1

theorem b3K{a0 a1}:PO Tryz.prog 372 [a7.Pv a0,.I a1] (a6E a0 a1) λr=>.L iF r:=by
 refine pO Tryz.func372 λr h _ _=>?_;refine S4 2 J<|S3 2 J<|cF h C4 J J λv1 _ h=>S2 6 J<|S3 2 J<|cF h b2B J J λv2 _ h=>S2 1 J<|b6 ?_;cases h;exact f1

theorem c21{a0 a1}:PO Tryz.prog 375 [a7.Pv a0,.I a1] (b4B a0 a1) λr=>.I r:=by
 refine pO Tryz.func375 λr h _ _=>?_;refine S4 3 J<|S4 2 J ?_;refine jq h (λj31=>St.of [(5,.ptr 2001 0 0)] [(2001,vR (.I j31) 1)]) (λj31 h=>?_) λκ30 h=>?_
 ·refine S4 2 J ?_;refine b6 ?_;cases h;exact f1
 ·refine S3 1 J ?_;refine cF h b6A J J λv32 _ h=>yN<|c9<|a3v (WPE (λl=>if l=2003 then 5 else if l=2004 then 3 else l) [(3,.ptr 2004 0 0),(5,.ptr 2003 0 0),(9,.fn (.func 387) [.rptr (a7.Pc v32)])] [(2003,vR (.I 0) 1),(2004,vR (.I a1) 1)]) ?_
  refine a2h (fn:=Tryz.f387) (N1:=29) J Tryz.func387 J J nl J c9u J J (λl33 e34 o35 hR36=>?_);refine c0Q<|c8<|c0P<|S3 1 J<|cF h L6 J J λv33 _ h=>nL J g7<|S2 1 J<|c9<|lq h (λq=>St.of [(1000003,.ptr 2004 0 0),(1000005,.ptr 2003 0 0),(1000009,.fn (.func 387) [.rptr (a7.Pc v32)]),(0,.fn (.yield l33) []),(1,.rptr (a7.Pc v32)),(8,.L iF v33),(9,.I (v33.length:Int)),(10,.I q.1)] [(2003,vR (.I q.2) 1),(2004,vR (.I a1) 1)]) W λq38 x37 h hx40=>?_;obtain⟨s35,s36⟩:=q38;refine S4 1 J<|c8 ?_;refine cN h (λhc h=>?_) λhc h=>?_
  ·refine b8 ?_;refine jq h (λj50=>St.of [(1000003,.ptr 2004 0 0),(1000005,.ptr 2003 0 0),(1000009,.fn (.func 387) [.rptr (a7.Pc v32)]),(0,.fn (.yield l33) []),(1,.rptr (a7.Pc v32)),(8,.L iF v33),(9,.I (v33.length:Int)),(10,.I s35)] [(2003,vR (.I j50) 1),(2004,vR (.I a1) 1)]) (λj50 h=>?_) λκ49 h=>?_
   ·refine S6 2 J ?_;exact eL h W
   ·refine c9 ?_;refine sR<|iL h J J g7 m7 λv51 _ h=>S2 2 J<|S3 2 J<|cF h b3K J J λv52 _ h=>nL J g7<|S2 1 J<|c9<|lq h (λq=>St.of [(1000003,.ptr 2004 0 0),(1000005,.ptr 2003 0 0),(1000009,.fn (.func 387) [.rptr (a7.Pc v32)]),(0,.fn (.yield l33) []),(1,.rptr (a7.Pc v32)),(4,.I v51),(8,.L iF v33),(9,.I (v33.length:Int)),(10,.I s35),(16,.L iF v52),(17,.I (v52.length:Int)),(18,.I q.1)] [(2003,vR (.I q.2) 1),(2004,vR (.I a1) 1)]) W λq57 x56 h hx56=>?_;obtain⟨s54,s55⟩:=q57;refine S4 1 J<|c8 ?_;refine cN h (λhc h=>?_) λhc h=>?_
    ·refine b8 ?_;refine c8<|c9<|sR<|iL h J J g7 m7 λv58 _ h=>S2 2 J<|S3 3 J<|T7 (WE [(1000003,.ptr 2004 0 0),(1000005,.ptr 2003 0 0),(1000009,.fn (.func 387) [.rptr (a7.Pc v32)]),(0,.fn (.yield l33) []),(1,.rptr (a7.Pc v32)),(4,.I v51),(8,.L iF v33),(9,.I (v33.length:Int)),(10,.I s35),(16,.L iF v52),(17,.I (v52.length:Int)),(18,.I s54),(22,.fn (.yield l33) []),(23,.I v51),(24,.I v58)] [(2003,vR (.I s55) 1),(2004,vR (.I a1) 1)]) ?_;refine a7T hR36 J J J J J J (λe58 o59 o60=>?_);refine S6 1 J ?_;refine⟨J,?_⟩;refine jqE h (λj60=>St.of [(2000003,.ptr 2004 0 0),(2000005,.ptr 2003 0 0),(2000009,.fn (.func 387) [.rptr (a7.Pc v32)]),(1000000,.fn (.yield l33) []),(1000001,.rptr (a7.Pc v32)),(1000004,.I v51),(1000008,.L iF v33),(1000009,.I (v33.length:Int)),(1000010,.I s35),(1000016,.L iF v52),(1000017,.I (v52.length:Int)),(1000018,.I s54),(1000022,.fn (.yield l33) []),(1000023,.I v51),(1000024,.I v58)] [(2003,vR (.I j60) 1),(2004,vR (.I a1) 1)]) (λj60 h=>?_) λκ59 h=>?_
     ·refine⟨J,?_⟩;refine T7 (WE [(1000003,.ptr 2004 0 0),(1000005,.ptr 2003 0 0),(1000009,.fn (.func 387) [.rptr (a7.Pc v32)]),(0,.fn (.yield l33) []),(1,.rptr (a7.Pc v32)),(4,.I v51),(8,.L iF v33),(9,.I (v33.length:Int)),(10,.I s35),(16,.L iF v52),(17,.I (v52.length:Int)),(18,.I s54),(25,.bool true)] [(2003,vR (.I j60) 1),(2004,vR (.I a1) 1)])<|S2 1 J ?_;refine J0 false J (λq=>nomatch q) (λ_=>?_);refine b8<|S6 2 J ?_;exact eL h W
     ·refine c9 ?_;refine S4 3 J ?_;refine cN h (λhc h=>?_) λhc h=>?_
      ·refine S6 3 J ?_;exact eJ h W
      ·refine b8 ?_;exact eJ h W
    ·refine o5 ?_;refine c4<|c4<|k7 ?_;have h:=xL hx56 h;exact eJ h W
  ·refine o5 ?_;refine c4<|c4<|k7<|b6B ?_;refine .inl ⟨J,?_⟩;have h:=xL hx40 h;exact eJ h (WP (λl=>if l=2001 then 2003 else l))

theorem a8x{a0}:PO Tryz.prog 384 [.L c5.Pv a0] (a1H a0) λr=>.fn (.func 388) [.rptr [.L c5.Pv r]]:=by
 refine pO Tryz.func384 λr h _ _=>?_;unfold a1H at h;refine S4 2 J<|S4 2 J<|b6 ?_;cases h;exact f1

theorem b1w{a0}:PO Tryz.prog 389 [.L c5.Pv a0] (a6f a0) λr=>.L iF r:=by
 refine pO Tryz.func389 λr h _ _=>?_;refine S4 1 J<|S4 1 J ?_;refine jq h (λj13=>St.of [(3,.sl 910003)] [(910003,⟨List.map iF j13,(List.map iF j13).length,true,1,true⟩)]) (λj13 h=>?_) λκ12 h=>?_
 ·refine S4 2 J ?_;refine b6 ?_;cases h;exact f1
 ·refine S3 1 J ?_;refine nL J Z2<|S2 1 J<|c9<|lq h (λq=>St.of [(3,.sl 910003),(6,.L c5.Pv a0),(7,.I (a0.length:Int)),(8,.I q.1)] [(910003,⟨List.map iF q.2,(List.map iF q.2).length,true,1,true⟩)]) (Wk.trans (C9 (t:=3) (l:=920003) (z:=1) J J) (WP (λl=>if l=910003 then 920003 else l))) λq18 x17 h hx12=>?_
  obtain⟨s15,s16⟩:=q18;refine S4 1 J<|c8 ?_;refine cN h (λhc h=>?_) λhc h=>?_
  ·refine b8 ?_;refine jq h (λj22=>St.of [(3,.sl 19),(6,.L c5.Pv a0),(7,.I (a0.length:Int)),(8,.I s15)] [(19,⟨List.map iF j22,(List.map iF j22).length,true,1,true⟩)]) (λj22 h=>?_) λκ21 h=>?_
   ·refine S6 2 J ?_;exact eL h (Wk.trans (n0 _ [19]) (WP (λl=>if l=910003 then 19 else l)))
   ·refine c9 ?_;refine sR<|iL h J J Z2 a0J λv23 _ h=>S2 3 J<|S4 3 J ?_;refine cN h (λhc h=>?_) λhc h=>?_
    ·refine S5 3 J ?_;refine y0 J (G1 (f:=iF) (l:=[v23.Key]) J g7 m7 y6 J J nl J J)<|r9 h λv24 hv17 h=>H5 J (F1 (f:=iF) hv17 J J J J J J (.inl ⟨_,J,J⟩) g7 m7 F9 y6 J (λ_=>J)) J J J<|S2 1 J ?_;exact eJ h (Wk.trans (n0 _ [19]) W)
    ·refine b8 ?_;exact eJ h (Wk.trans (n0 _ [910003]) (WP (λl=>if l=19 then 910003 else l)))
  ·refine o5 ?_;refine c4<|c4<|k7 ?_;have h:=xL hx12 h;exact eJ h (Wk.trans (n0 _ [910003]) W)

theorem b2O{a0 a1}:PO Tryz.prog 385 [o0.Pv a0,.rptr [.I a1]] (a3a a0 a1) λr=>.bool r:=by
 refine pO Tryz.func385 λr h _ _=>?_;unfold a3a at h;refine S4 2 J<|S3 3 J<|l4 J (λhg=>oF J b6M J)<|l4 J (λhg=>oS (ct hg) J J C5 J)<|l4 J (λhg=>F6 J C5 J)<|l4 J (λhg=>y5 (ct hg) (ct hg) J)<|y0 J (z7 J J J (λq=>eqT q))<|S2 1 J<|b6 ?_;cases h;exact f1

theorem K1{a0 a1}:PO Tryz.prog 383 [.fn (.func 388) [.rptr [.L c5.Pv a0]],.fn (.func 385) [.rptr [.I a1]]] (B4 a0 a1) λr=>.L o0.Pv r:=by
 refine pO Tryz.func383 λr h _ _=>?_;refine S4 2 J<|S4 1 J ?_;refine jq h (λj16=>St.of [(5,.ptr 2001 0 0)] [(2001,vS (.sl 912501) 1),(912501,⟨List.map o0.Pv j16,(List.map o0.Pv j16).length,true,2,true⟩)]) (λj16 h=>?_) λκ15 h=>?_
 ·refine S4 2 J ?_;refine b6 ?_;cases h;exact f1
 ·refine S4 1 J ?_;refine c9<|a3v (WPE (λl=>if l=2012 then 5 else if l=2013 then 3 else l) [(3,.ptr 2013 0 0),(5,.ptr 2012 0 0),(7,.fn (.func 388) [.rptr [.L c5.Pv a0]])] [(2012,vR (.nl) 1),(2013,vR (.fn (.func 385) [.rptr [.I a1]]) 1)]) ?_
  refine a2h (fn:=Tryz.f388) (N1:=27) J Tryz.func388 J J nl J c3E J J (λl20 e21 o22 hR23=>?_);refine S3 1 J<|cF h b1w J J λv17 _ h=>nL J g7<|S2 1 J<|c9<|lq h (λq=>St.of [(1000003,.ptr 2013 0 0),(1000005,.ptr 2012 0 0),(1000007,.fn (.func 388) [.rptr [.L c5.Pv a0]]),(0,.fn (.yield l20) []),(1,.rptr [.L c5.Pv a0]),(8,.L iF v17),(9,.I (v17.length:Int)),(10,.I q.1)] [(2012,vS (.sl 912512) 1),(2013,vR (.fn (.func 385) [.rptr [.I a1]]) 1),(912512,⟨List.map o0.Pv q.2,(List.map o0.Pv q.2).length,true,2,true⟩)]) (Wk.trans (b2F (l0:=2012) (j:=0) (l:=922512) (z:=2) J J J J J) (WP (λl=>if l=912512 then 922512 else l))) λq22 x21 h hx27=>?_
  obtain⟨s19,s20⟩:=q22;refine S4 1 J<|c8 ?_;refine cN h (λhc h=>?_) λhc h=>?_
  ·refine b8 ?_;refine c8<|c9<|sR<|iL h J J g7 m7 λv23 _ h=>S2 2 J<|S3 2 J<|cA h a5p J J λv24 _ h=>S2 5 J<|S3 3 J<|y0 J (o8 (cs:=[.I v23,.I v24.1]) J c3I a9r J J J)<|T7 (WPE (λl=>if l=2021 then 912512 else l) [(1000003,.ptr 2013 0 0),(1000005,.ptr 2012 0 0),(1000007,.fn (.func 388) [.rptr [.L c5.Pv a0]]),(0,.fn (.yield l20) []),(1,.rptr [.L c5.Pv a0]),(8,.L iF v17),(9,.I (v17.length:Int)),(10,.I s19),(20,.fn (.yield l20) []),(23,.agg [.I v23,.I v24.1])] [(2012,vS (.sl 2021) 1),(2021,⟨List.map o0.Pv s20,(List.map o0.Pv s20).length,true,2,true⟩),(2013,vR (.fn (.func 385) [.rptr [.I a1]]) 1)]) ?_
   refine a7T hR23 J J J J J J (λe30 o31 o32=>?_);refine S6 2 J ?_;refine⟨J,?_⟩;refine jqE h (λj28=>St.of [(2000003,.ptr 2013 0 0),(2000005,.ptr 2012 0 0),(2000007,.fn (.func 388) [.rptr [.L c5.Pv a0]]),(1000000,.fn (.yield l20) []),(1000001,.rptr [.L c5.Pv a0]),(1000008,.L iF v17),(1000009,.I (v17.length:Int)),(1000010,.I s19),(1000020,.fn (.yield l20) []),(1000023,.agg [.I v23,.I v24.1])] [(2012,vS (.sl 15) 1),(15,⟨List.map o0.Pv j28,(List.map o0.Pv j28).length,true,2,true⟩),(2013,vR (.fn (.func 385) [.rptr [.I a1]]) 1)]) (λj28 h=>?_) λκ27 h=>?_
   ·refine⟨J,?_⟩;refine T7 (WPE (λl=>if l=2022 then 15 else l) [(1000003,.ptr 2013 0 0),(1000005,.ptr 2012 0 0),(1000007,.fn (.func 388) [.rptr [.L c5.Pv a0]]),(0,.fn (.yield l20) []),(1,.rptr [.L c5.Pv a0]),(8,.L iF v17),(9,.I (v17.length:Int)),(10,.I s19),(24,.bool true)] [(2012,vS (.sl 2022) 1),(2022,⟨List.map o0.Pv j28,(List.map o0.Pv j28).length,true,2,true⟩),(2013,vR (.fn (.func 385) [.rptr [.I a1]]) 1)])<|S2 1 J ?_
    refine J0 false J (λq=>nomatch q) (λ_=>?_);refine b8<|S6 2 J ?_;exact eL h (Wk.trans (n0 _ [2022]) (WP (λl=>if l=912512 then 2022 else l)))
   ·refine c9 ?_;refine S3 2 J<|cA h b2O J J λv29 _ h=>yN ?_;refine cN h (λhc h=>?_) λhc h=>?_
    ·refine S5 2 J ?_;refine y0 J (G1 (f:=o0.Pv) (l:=[(⟨v23,v24.1⟩:o0)]) J a6X b07 a9r J J nl J J)<|r9 h λv30 hv37 h=>H5 J (F1 (f:=o0.Pv) hv37 J J J J J J (.inl ⟨_,J,J⟩) a6X b07 c3A a9r J (λ_=>J)) J J J<|S2 1 J ?_;exact eJ h (Wk.trans (n0 _ [15]) W)
    ·refine b8 ?_;exact eJ h (Wk.trans (n0 _ [2021]) (WP (λl=>if l=15 then 2021 else l)))
  ·refine o5 ?_;refine c4<|c4<|k7 ?_;refine .inl ⟨J,?_⟩;have h:=xL hx27 h;exact eJ h (Wk.trans (n0 _ [912512]) (WP (λl=>if l=2001 then 2012 else if l=912501 then 912512 else l)))

theorem b45{a0 a1}:PO Tryz.prog 376 [.L c5.Pv a0,.I a1] (a5l a0 a1) λr=>.I r:=by
 refine pO Tryz.func376 λr h _ _=>?_;refine S4 2 J<|S3 1 J<|cF h a8x J J λv1 _ h=>S1 1 J<|r9 h λv2 hv2 h=>ycL J (u6 J K1 J hv2) J<|nL J a6X<|S2 1 J<|b6 ?_;cases h;exact f1

theorem b52{a0 a1 a2}:PO Tryz.prog 358 [a7.Pv a0,.L c5.Pv a1,.I a2] (a5I a0 a1 a2) λr=>.I r:=by
 refine pO Tryz.func358 λr h _ _=>?_;refine S4 2 J<|S3 2 J<|cA h c21 J J λv1 _ h=>S1 2 J<|cA h b45 J J λv2 _ h=>S2 2 J<|b6 ?_;cases h;exact f1

theorem b6F{a0 a1 a2}:PO Tryz.prog 329 [a7.Pv a0,.L c5.Pv a1,.I a2] (a7Q a0 a1 a2) λr=>.I r:=by
 refine pO Tryz.func329 λr h _ _=>?_;refine S4 2 J<|S3 2 J<|cF h C4 J J λv1 _ h=>S2 6 J<|c8<|S4 2 J ?_;refine cN h (λhc h=>?_) λhc h=>?_
 ·refine S4 1 J ?_;refine b6 ?_;cases h;exact f1
 ·refine b8 ?_;refine dr [] o9 (by kernel_rfl) (by kernel_rfl)<|S7 5 J<|r9 h λv2 hv2 h=>d2 J (D4 J b52 J hv2) J<|S8 2 J<|b6 ?_
  cases h;exact f1

theorem b4Z{a0}:PO Tryz.prog 330 [.I a0] (a8v a0) λr=>.bool r:=by
 refine pO Tryz.func330 λr h _ _=>?_;refine S4 1 J<|S3 1 J<|cA h a0n J J λv1 _ h=>S2 1 J<|b6 ?_;cases h;exact f1

theorem b38{a0 a1 a2 a3}:PO Tryz.prog 328 [.I a0,m9.Pv a1,.rptr (a7.Pc a2),.rptr [.L c5.Pv a3]] (a7P a0 a1 a2 a3) λr=>.bool r:=by
 refine pO Tryz.func328 λr h _ _=>?_;refine S4 2 J<|S3 3 J<|cA h b6F J J λv1 _ h=>S1 2 J<|l4 J (λhg=>oF J c44 J)<|l4 J (λhg=>oS (ct hg) J J C5 J)<|r9 h λv2 hv2 h=>l4 J (λhg=>D4 J b4Z (D8 (ct hg) J) (G8 hv2 hg))<|y0 J (C7 J J J (λq=>eqF q))<|S2 1 J<|b6 ?_;cases h;exact f1

theorem b6E{a0 a1}:PO Tryz.prog 261 [a7.Pv a0,.L c5.Pv a1] (a7O a0 a1) λr=>.L iF r:=by
 refine pO Tryz.func261 λr h _ _=>?_;refine S4 3 J<|S3 1 J<|y0 J (o8 (cs:=[.fn (.func 328) [.ptr 2 0 0,.ptr 3 0 0]]) J c9F c9U J J J)<|T7 (a8b 7 (d':=.agg [.fn (.func 328) [.ptr 2 0 0,.ptr 3 0 0]]) J)<|S2 2 J<|S3 2 J<|T7 (WPE (λl=>if l=2001 then 3 else if l=2002 then 2 else l) [(8,.agg [.fn (.func 328) [.ptr 2002 0 0,.ptr 2001 0 0]]),(9,a7.Pv a0)] [(2001,vR (.L c5.Pv a1) 1),(2002,vR (a7.Pv a0) 3)]) ?_
 refine b7C (fn:=Tryz.f331) (N1:=34) J J Tryz.func331 J c9q J J nl (λe1 o2=>?_);refine jqR h (λj36=>St.of [(1000008,.agg [.fn (.func 328) [.ptr 2002 0 0,.ptr 2001 0 0]]),(1000009,a7.Pv a0),(4,.sl 910005)] [(910005,⟨List.map iF j36,(List.map iF j36).length,true,1,true⟩),(2001,vR (.L c5.Pv a1) 1),(2002,vR (a7.Pv a0) 3)]) (λj36 h=>dup ?_) λκ35 h=>?_
 ·refine⟨J,[.sl 910005],⟨J,tr⟩,?_⟩;refine T7 (WPE (λl=>if l=2003 then 910005 else l) [(10,.sl 2003)] [(2003,⟨List.map iF j36,(List.map iF j36).length,true,1,true⟩)])<|S2 1 J<|b6 ?_
  cases h;exact f1
 ·refine S4 3 J ?_;refine S4 1 J ?_;refine jq h (λj54=>St.of [(1000008,.agg [.fn (.func 328) [.ptr 2002 0 0,.ptr 2001 0 0]]),(1000009,a7.Pv a0),(5,.sl 910005)] [(910005,⟨List.map iF j54,(List.map iF j54).length,true,1,true⟩),(2001,vR (.L c5.Pv a1) 1),(2002,vR (a7.Pv a0) 3)]) (λj54 h=>?_) λκ53 h=>?_
  ·refine S4 2 J ?_;refine b6 ?_;exact eJ h (Wk.trans (n0 _ [910005]) W)
  ·refine S3 1 J ?_;refine cF h L6 J J λv55 _ h=>nL J g7<|S2 1 J<|c9<|lq h (λq=>St.of [(1000008,.agg [.fn (.func 328) [.ptr 2002 0 0,.ptr 2001 0 0]]),(1000009,a7.Pv a0),(2,.ptr 2 0 0),(3,.ptr 3 0 0),(5,.sl 910005),(11,.L iF v55),(12,.I (v55.length:Int)),(13,.I q.1)] [(3,vR (a7.Pv a0) 3),(2,vS (.agg [.fn (.func 328) [.ptr 2002 0 0,.ptr 2001 0 0]]) 1),(2001,vR (.L c5.Pv a1) 1),(2002,vR (a7.Pv a0) 3),(910005,⟨List.map iF q.2,(List.map iF q.2).length,true,1,true⟩)]) (Wk.trans (C9 (t:=5) (l:=920005) (z:=1) J J) (WP (λl=>if l=910005 then 920005 else l))) λq60 x59 h hx48=>?_
   obtain⟨s57,s58⟩:=q60;refine S4 1 J<|c8 ?_;refine cN h (λhc h=>?_) λhc h=>?_
   ·refine b8 ?_;refine jq h (λj66=>St.of [(1000008,.agg [.fn (.func 328) [.ptr 2002 0 0,.ptr 2001 0 0]]),(1000009,a7.Pv a0),(2,.ptr 2 0 0),(3,.ptr 3 0 0),(5,.sl 31),(11,.L iF v55),(12,.I (v55.length:Int)),(13,.I s57)] [(31,⟨List.map iF j66,(List.map iF j66).length,true,1,true⟩),(3,vR (a7.Pv a0) 3),(2,vS (.agg [.fn (.func 328) [.ptr 2002 0 0,.ptr 2001 0 0]]) 1),(2001,vR (.L c5.Pv a1) 1),(2002,vR (a7.Pv a0) 3)]) (λj66 h=>?_) λκ65 h=>?_
    ·refine S6 2 J ?_;exact eL h (Wk.trans (n0 _ [31]) (WP (λl=>if l=910005 then 31 else l)))
    ·refine c9 ?_;refine sR<|iL h J J g7 m7 λv67 _ h=>S2 2 J<|S3 2 J<|cF h C4 J J λv68 _ h=>S2 6 J<|S3 4 J<|cA h b38 J J λv69 _ h=>yN ?_;refine cN h (λhc h=>?_) λhc h=>?_
     ·refine S5 2 J ?_;refine y0 J (G1 (f:=iF) (l:=[v67]) J g7 m7 y6 J J nl J J)<|r9 h λv70 hv57 h=>H5 J (F1 (f:=iF) hv57 J J J J J J (.inl ⟨_,J,J⟩) g7 m7 F9 y6 J (λ_=>J)) J J J<|S2 1 J ?_;exact eJ h (Wk.trans (n0 _ [31]) W)
     ·refine b8 ?_;exact eJ h (Wk.trans (n0 _ [910005]) (WP (λl=>if l=31 then 910005 else l)))
   ·refine o5 ?_;refine c4<|c4<|k7 ?_;have h:=xL hx48 h;exact eJ h (Wk.trans (n0 _ [910005]) W)

theorem b27{a0}:PO Tryz.prog 366 [.I a0] (a3f a0) λr=>l5.Pv r:=by
 refine pO Tryz.func366 λr h _ _=>?_;unfold a3f at h;refine S4 1 J<|S3 1 J<|y0 J (o8 (cs:=[.nl,.I a0]) J c9H c9W J J J)<|a44 (x':=.agg [.nl,.I a0]) (cl':=true) J J (.inl J) a5g<|yN<|b6 ?_;cases h;exact⟨J,[_],⟨oL J J J a9k a5g nl J,tr⟩,J,io⟩

theorem a75{a0 a1}:PO Tryz.prog 368 [a7.Pv a0,.I a1] (a0U a0 a1) λr=>.bool r:=by
 refine pO Tryz.func368 λr h _ _=>?_;refine S4 2 J<|S3 2 J<|cF h C4 J J λv1 _ h=>S2 6 J<|S4 3 J<|b6 ?_;cases h;exact f1

theorem V5{a0}:PO Tryz.prog 370 [l5.Pv a0] (L5 a0) λr=>.I r:=by
 refine pO Tryz.func370 λr h _ _=>?_;unfold L5 at h;refine S4 2 J<|S3 2 J<|nL J g7<|S2 1 J<|b6 ?_;cases h;exact f1

theorem a2i{a0 a1 a2}:PO Tryz.prog 377 [.L iF a0,.I a1,.I a2] (P6 a0 a1 a2) λr=>.lst true (List.map iF r):=by
 refine pO Tryz.func377 λr h _ _=>?_;unfold P6 at h;refine S4 1 J<|S3 4 J<|r9 h λv1 hv1 h=>y0 J (c7Y (f:=iF) hv1 J ⟨_,J⟩ ⟨_,J⟩ ⟨_,J⟩ J J g7 m7 (λ_=>J))<|S2 1 J<|b6 ?_;cases h;exact f1

theorem a5z{a0 a1}:PO Tryz.prog 369 [l5.Pv a0,.I a1] (P5 a0 a1) λr=>.tup [l5.Pv r.1,.I r.2]:=by
 refine pO Tryz.func369 λr h _ _=>?_;unfold P5 at h;refine S4 3 J<|c8<|dr [] o9 (by kernel_rfl) (by kernel_rfl)<|S7 1 J<|r9 h λv1 hv1 h=>d2 J (D4 J V5 J hv1) J<|S8 3 J ?_
 refine cN h (λhc h=>?_) λhc h=>?_
 ·refine S4 3 J ?_;refine b6 ?_;cases h;exact⟨J,[_,_],⟨oL J J J a9k a5g nl J,⟨J,tr⟩⟩,J,io⟩
 ·refine b8 ?_;refine dr [] o9 (by kernel_rfl) (by kernel_rfl)<|S7 3 J<|d2 J (D4 J V5 J hv1) J<|r9 h λv2 hv2 h=>d2f J (u6 J a2i J hv2) J<|S7 1 J<|d1n J (G1 (f:=iF) (l:=[a1]) J g7 m7 y6 J J nl J J) J<|r9 h λv3 hv3 h=>d3 J (a4L (f:=iF) hv3 J J (.inl ⟨_,J,J⟩) g7 m7 F9 y6 J (λ_=>J)) J J J<|S7 1 J<|A3 (x':=.agg [.sl 19,.I a0.Cap]) (cl':=false) J J (.inl J) a8p<|G0<|S4 3 J<|b6 ?_
  cases h;exact⟨J,[_,_],⟨oL J J J a9k a5g nl J,⟨J,tr⟩⟩,J,io⟩

theorem b0S{a0 a1}:PO Tryz.prog 378 [l5.Pv a0,.I a1] (a3O a0 a1) λr=>.tup [l5.Pv r.1,.L iF r.2]:=by
 refine pO Tryz.func378 λr h _ _=>?_;refine S4 3 J<|S3 2 J<|cA h V5 J J λv1 hv1 h=>y0 J (d1Z J J J)<|y0 J (c7Z J J J)<|S2 1 J<|S3 3 J<|cF h a2i J J λv2 _ h=>S2 1 J<|dr [] o9 (by kernel_rfl) (by kernel_rfl)<|S7 4 J<|d2 J (D4 J V5 J hv1) J<|r9 h λv3 hv3 h=>d2f J (u6 J a2i J hv3) J<|S7 1 J<|A3 (x':=.agg [.L iF v3,.I a0.Cap]) (cl':=true) J J (.inr J) a8p<|G0<|S4 4 J<|b6 ?_
 cases h;exact⟨J,[_,_],⟨oL J J J a9k a5g nl J,⟨J,tr⟩⟩,J,io⟩

theorem b28{a0}:PO Tryz.prog 371 [l5.Pv a0] (a1g a0) λr=>.tup [l5.Pv r.1,.I r.2.1,.I r.2.2]:=by
 refine pO Tryz.func371 λr h _ _=>?_;refine S4 4 J<|S3 1 J<|cF h b0S J J λv1 _ h=>S2 6 J<|c8<|S3 1 J<|nL J g7<|S2 1 J ?_;refine cN h (λhc h=>?_) λhc h=>?_
 ·refine S4 1 J ?_;refine S4 5 J<|b6 ?_;cases h;exact⟨J,[_,_,_],⟨oL J J J a9k a5g nl J,⟨J,⟨J,tr⟩⟩⟩,J,io⟩
 ·refine b8 ?_;refine dr [2,3] o9 (by kernel_rfl) (by kernel_rfl)<|S7 2 J<|r9 h λv2 hv2 h=>d7 J (λ_ hN=>u7 (f:=iF) (cs:=[.I v2]) hv2 J J g7 m7 J J) J<|d7 J (λ_ hN=>F6 J C5 J) J<|A3 (x':=l5.Pv v1.1) (cl':=true) J J (.inr J) a5g<|S8 2 J<|b6 ?_
  cases h;exact⟨J,[_,_,_],⟨oL J J J a9k a5g nl J,⟨J,⟨J,tr⟩⟩⟩,J,io⟩

theorem a78{a0 a1}:PO Tryz.prog 354 [a7.Pv a0,.L iF a1] (a2l a0 a1) λr=>.abs (X5 (List.map (ent iF PV.bool) r)):=by
 refine pO Tryz.func354 λr h _ _=>?_;refine S4 2 J<|sR<|c1Q (KT:=Int) (VT:=Bool) (EK:=iF) (E:=PV.bool) 5000009 J J<|S2 2 J<|S3 1 J<|cF h L6 J J λv1 _ h=>nL J g7<|cF h b27 J J λv2 _ h=>S2 2 J<|S4 2 J<|S3 2 J<|T7 (WPE (λl=>if l=2001 then 6 else if l=2002 then 5 else if l=2003 then 2 else if l=5002004 then 5000009 else l) [(2,.ptr 2003 0 0),(5,.ptr 2002 0 0),(6,.ptr 2001 0 0),(7,.fn (.func 367) [.ptr 2003 0 0,.ptr 2002 0 0,.ptr 2001 0 0]),(15,.fn (.func 367) [.ptr 2003 0 0,.ptr 2002 0 0,.ptr 2001 0 0]),(16,.L iF a1)] [(2001,vR (l5.Pv v2) 2),(2002,vS (.mp 5002004) 1),(5002004,⟨[.mapc (List.map (ent iF PV.bool) [])],0,false,0,false⟩),(2003,vR (a7.Pv a0) 3)]) ?_
 refine b7C (fn:=Tryz.f367) (N1:=31) J J Tryz.func367 J c3D J J nl (λe3 o4=>?_);refine jqR h (λq=>St.of [(1000002,.ptr 2003 0 0),(1000005,.ptr 2002 0 0),(1000006,.ptr 2001 0 0),(1000007,.fn (.func 367) [.ptr 2003 0 0,.ptr 2002 0 0,.ptr 2001 0 0]),(1000015,.fn (.func 367) [.ptr 2003 0 0,.ptr 2002 0 0,.ptr 2001 0 0]),(1000016,.L iF a1)] [(2001,vR (l5.Pv q.1) 2),(2002,vS (.mp 5002004) 1),(5002004,⟨[.mapc (List.map (ent iF PV.bool) q.2)],0,false,0,false⟩),(2003,vR (a7.Pv a0) 3)]) (λq22 h=>dup ?_) λκ19 h=>?_
 ·obtain⟨j20,j21⟩:=q22;refine⟨J,[],tr,?_⟩;refine T7 (WE [(2,.ptr 2003 0 0),(5,.ptr 2002 0 0),(6,.ptr 2001 0 0),(7,.fn (.func 367) [.ptr 2003 0 0,.ptr 2002 0 0,.ptr 2001 0 0])] [(2001,vR (l5.Pv j20) 2),(2002,vS (.mp 5002004) 1),(5002004,⟨[.mapc (List.map (ent iF PV.bool) j21)],0,false,0,false⟩),(2003,vR (a7.Pv a0) 3)])<|yN ?_;refine jq h (λj68=>St.of [(5,.ptr 2002 0 0)] [(2002,vS (.mp 5002004) 1),(5002004,⟨[.mapc (List.map (ent iF PV.bool) j68)],0,false,0,false⟩)]) (λj68 h=>?_) λκ67 h=>?_
  ·refine S4 2 J ?_;refine a3v (c3p 4 5002004 J J)<|b6 ?_;cases h;exact f1
  ·refine c9 ?_;refine lq h (λq=>St.of [(2,.ptr 2003 0 0),(5,.ptr 2002 0 0),(6,.ptr 2001 0 0),(7,.fn (.func 367) [.ptr 2003 0 0,.ptr 2002 0 0,.ptr 2001 0 0])] [(2001,vR (l5.Pv q.1) 2),(2002,vS (.mp 5002004) 1),(5002004,⟨[.mapc (List.map (ent iF PV.bool) q.2)],0,false,0,false⟩),(2003,vR (a7.Pv a0) 3)]) W λq73 x72 h hx54=>?_;obtain⟨s70,s71⟩:=q73;refine c8<|S3 1 J<|cA h V5 J J λv74 _ h=>S2 1 J ?_;refine cN h (λhc h=>?_) λhc h=>?_
   ·refine b8 ?_;refine c9<|S4 1 J<|S3 1 J<|cF h b28 J J λv75 _ h=>S2 6 J<|S5 3 J<|cF h b3K J J λv76 _ h=>T7 (WE [(2,.ptr 2003 0 0),(5,.ptr 2002 0 0),(6,.ptr 2001 0 0),(7,.fn (.func 367) [.ptr 2003 0 0,.ptr 2002 0 0,.ptr 2001 0 0]),(27,.fn (.func 367) [.ptr 2003 0 0,.ptr 2002 0 0,.ptr 2001 0 0]),(30,.L iF v76)] [(2001,vR (l5.Pv v75.1) 2),(2002,vS (.mp 5002004) 1),(5002004,⟨[.mapc (List.map (ent iF PV.bool) s71)],0,false,0,false⟩),(2003,vR (a7.Pv a0) 3)]) ?_;refine b7C (fn:=Tryz.f367) (N1:=31) J J Tryz.func367 J c3D J J nl (λe58 o59=>?_);refine jqR h (λq=>St.of [(1000002,.ptr 2003 0 0),(1000005,.ptr 2002 0 0),(1000006,.ptr 2001 0 0),(1000007,.fn (.func 367) [.ptr 2003 0 0,.ptr 2002 0 0,.ptr 2001 0 0]),(1000027,.fn (.func 367) [.ptr 2003 0 0,.ptr 2002 0 0,.ptr 2001 0 0]),(1000030,.L iF v76)] [(2001,vR (l5.Pv q.1) 2),(2002,vS (.mp 5002004) 1),(5002004,⟨[.mapc (List.map (ent iF PV.bool) q.2)],0,false,0,false⟩),(2003,vR (a7.Pv a0) 3)]) (λq96 h=>dup ?_) λκ93 h=>?_
    ·obtain⟨j94,j95⟩:=q96;refine⟨J,[],tr,?_⟩;refine T7 (WE [(2,.ptr 2003 0 0),(5,.ptr 2002 0 0),(6,.ptr 2001 0 0),(7,.fn (.func 367) [.ptr 2003 0 0,.ptr 2002 0 0,.ptr 2001 0 0])] [(2001,vR (l5.Pv j94) 2),(2002,vS (.mp 5002004) 1),(5002004,⟨[.mapc (List.map (ent iF PV.bool) j95)],0,false,0,false⟩),(2003,vR (a7.Pv a0) 3)])<|yN ?_;exact eL h W
    ·refine S3 1 J ?_;refine nL J g7<|S2 1 J<|c9<|lq h (λq=>St.of [(1000002,.ptr 2003 0 0),(1000005,.ptr 2002 0 0),(1000006,.ptr 2001 0 0),(1000007,.fn (.func 367) [.ptr 2003 0 0,.ptr 2002 0 0,.ptr 2001 0 0]),(1000027,.fn (.func 367) [.ptr 2003 0 0,.ptr 2002 0 0,.ptr 2001 0 0]),(1000030,.L iF v76),(1,.ptr 2003 0 0),(2,.ptr 2002 0 0),(3,.ptr 2001 0 0),(7,.L iF v76),(8,.I (v76.length:Int)),(9,.I q.1)] [(2001,vR (l5.Pv q.2.1) 2),(2002,vS (.mp 5002004) 1),(5002004,⟨[.mapc (List.map (ent iF PV.bool) q.2.2)],0,false,0,false⟩),(2003,vR (a7.Pv a0) 3)]) W λq102 x101 h hx75=>?_;obtain⟨s98,s99,s100⟩:=q102;refine S4 1 J<|c8 ?_;refine cN h (λhc h=>?_) λhc h=>?_
     ·refine b8 ?_;refine jq h (λq=>St.of [(1000002,.ptr 2003 0 0),(1000005,.ptr 2002 0 0),(1000006,.ptr 2001 0 0),(1000007,.fn (.func 367) [.ptr 2003 0 0,.ptr 2002 0 0,.ptr 2001 0 0]),(1000027,.fn (.func 367) [.ptr 2003 0 0,.ptr 2002 0 0,.ptr 2001 0 0]),(1000030,.L iF v76),(1,.ptr 2003 0 0),(2,.ptr 2002 0 0),(3,.ptr 2001 0 0),(7,.L iF v76),(8,.I (v76.length:Int)),(9,.I s98)] [(2001,vR (l5.Pv q.1) 2),(2002,vS (.mp 5002004) 1),(5002004,⟨[.mapc (List.map (ent iF PV.bool) q.2)],0,false,0,false⟩),(2003,vR (a7.Pv a0) 3)]) (λq109 h=>?_) λκ106 h=>?_
      ·obtain⟨j107,j108⟩:=q109;refine S6 2 J ?_;exact eL h W
      ·refine c9 ?_;refine sR<|iL h J J g7 m7 λv110 _ h=>S2 2 J<|S3 2 J<|cA h a75 J J λv111 _ h=>S1 1 J<|l4 J (λhg=>oS J J J c3u J)<|l4 J (λhg=>mI J) ?_;rcases Bool.eq_false_or_eq_true (v111==true) with hg83 | hg83
       ·have h:=ifT h hg83;refine c83 (es:=s100) (k:=v110) (E:=PV.bool) (EK:=iF) (d:=.bool ((C0 s100 v110).getD (false:Bool))) (congrArg some hg83) (ct hg83) J (ct hg83) a3j (B3 L7) b96 J (lk1 _ _ _)<|y0 (congrArg some hg83) (a2f J J)<|y0 J (a7p J J hg83)<|yN ?_;refine cN h (λhc h=>?_) λhc h=>?_
        ·refine S3 2 J ?_;refine a09 (es:=s100) (k:=v110) (v:=true) (E:=PV.bool) (EK:=iF) (.inl J) J J J J J J a3j (B3 L7)<|yN<|S5 2 J<|cF h a5z J J λv112 _ h=>S2 4 J ?_;exact eJ h W
        ·refine b8 ?_;exact eJ h W
       ·have h:=ifF h hg83;refine a2t (congrArg some hg83)<|a2t (congrArg some hg83)<|y0 J (a9D J J hg83)<|yN ?_;refine J0 false J (λq=>nomatch q) (λ_=>?_);refine b8 ?_;exact eJ h W
     ·refine o5 ?_;refine c4<|c4<|k7 ?_;have h:=xL hx75 h;exact eJ h W
   ·refine o5 ?_;refine c4<|c4<|k7 ?_;have h:=xL hx54 h;exact eJ h W
 ·refine S3 1 J ?_;refine nL J g7<|S2 1 J<|c9<|lq h (λq=>St.of [(1000002,.ptr 2003 0 0),(1000005,.ptr 2002 0 0),(1000006,.ptr 2001 0 0),(1000007,.fn (.func 367) [.ptr 2003 0 0,.ptr 2002 0 0,.ptr 2001 0 0]),(1000015,.fn (.func 367) [.ptr 2003 0 0,.ptr 2002 0 0,.ptr 2001 0 0]),(1000016,.L iF a1),(1,.ptr 2003 0 0),(2,.ptr 2002 0 0),(3,.ptr 2001 0 0),(7,.L iF a1),(8,.I (a1.length:Int)),(9,.I q.1)] [(2001,vR (l5.Pv q.2.1) 2),(2002,vS (.mp 5002004) 1),(5002004,⟨[.mapc (List.map (ent iF PV.bool) q.2.2)],0,false,0,false⟩),(2003,vR (a7.Pv a0) 3)]) W λq118 x117 h hx87=>?_;obtain⟨s114,s115,s116⟩:=q118;refine S4 1 J<|c8 ?_;refine cN h (λhc h=>?_) λhc h=>?_
  ·refine b8 ?_;refine jq h (λq=>St.of [(1000002,.ptr 2003 0 0),(1000005,.ptr 2002 0 0),(1000006,.ptr 2001 0 0),(1000007,.fn (.func 367) [.ptr 2003 0 0,.ptr 2002 0 0,.ptr 2001 0 0]),(1000015,.fn (.func 367) [.ptr 2003 0 0,.ptr 2002 0 0,.ptr 2001 0 0]),(1000016,.L iF a1),(1,.ptr 2003 0 0),(2,.ptr 2002 0 0),(3,.ptr 2001 0 0),(7,.L iF a1),(8,.I (a1.length:Int)),(9,.I s114)] [(2001,vR (l5.Pv q.1) 2),(2002,vS (.mp 5002004) 1),(5002004,⟨[.mapc (List.map (ent iF PV.bool) q.2)],0,false,0,false⟩),(2003,vR (a7.Pv a0) 3)]) (λq125 h=>?_) λκ122 h=>?_
   ·obtain⟨j123,j124⟩:=q125;refine S6 2 J ?_;exact eL h W
   ·refine c9 ?_;refine sR<|iL h J J g7 m7 λv126 _ h=>S2 2 J<|S3 2 J<|cA h a75 J J λv127 _ h=>S1 1 J<|l4 J (λhg=>oS J J J c3u J)<|l4 J (λhg=>mI J) ?_;rcases Bool.eq_false_or_eq_true (v127==true) with hg95 | hg95
    ·have h:=ifT h hg95;refine c83 (es:=s116) (k:=v126) (E:=PV.bool) (EK:=iF) (d:=.bool ((C0 s116 v126).getD (false:Bool))) (congrArg some hg95) (ct hg95) J (ct hg95) a3j (B3 L7) b96 J (lk1 _ _ _)<|y0 (congrArg some hg95) (a2f J J)<|y0 J (a7p J J hg95)<|yN ?_;refine cN h (λhc h=>?_) λhc h=>?_
     ·refine S3 2 J ?_;refine a09 (es:=s116) (k:=v126) (v:=true) (E:=PV.bool) (EK:=iF) (.inl J) J J J J J J a3j (B3 L7)<|yN<|S5 2 J<|cF h a5z J J λv128 _ h=>S2 4 J ?_;exact eJ h W
     ·refine b8 ?_;exact eJ h W
    ·have h:=ifF h hg95;refine a2t (congrArg some hg95)<|a2t (congrArg some hg95)<|y0 J (a9D J J hg95)<|yN ?_;refine J0 false J (λq=>nomatch q) (λ_=>?_);refine b8 ?_;exact eJ h W
  ·refine o5 ?_;refine c4<|c4<|k7 ?_;have h:=xL hx87 h;exact eJ h W

theorem b32{a0 a1}:PO Tryz.prog 379 [.I a0,.rptr [.abs (X5 (List.map (ent iF PV.bool) a1))]] (a4b a0 a1) λr=>.bool r:=by
 refine pO Tryz.func379 λr h _ _=>?_;unfold a4b at h;refine S4 1 J<|S3 2 J<|y0 J (c0E (es:=a1) (k:=a0) (E:=PV.bool) (EK:=iF) (d:=.bool ((C0 a1 a0).getD (false:Bool))) J J a3j (B3 L7) b96 J (lk1 _ _ _))<|S2 1 J<|b6 ?_;cases h;exact f1

theorem a4d{a0 a1}:PO Tryz.prog 355 [a7.Pv a0,.fn (.func 379) [.rptr [.abs (X5 (List.map (ent iF PV.bool) a1))]]] (T2 a0 a1) λr=>.L iF r:=by
 refine pO Tryz.func355 λr h _ _=>?_;refine S4 2 J<|S4 1 J ?_;refine jq h (λj16=>St.of [(5,.sl 910005)] [(910005,⟨List.map iF j16,(List.map iF j16).length,true,1,true⟩)]) (λj16 h=>?_) λκ15 h=>?_
 ·refine S4 2 J ?_;refine b6 ?_;cases h;exact f1
 ·refine S3 1 J ?_;refine cF h L6 J J λv17 _ h=>nL J g7<|S2 1 J<|c9<|lq h (λq=>St.of [(1,.fn (.func 379) [.rptr [.abs (X5 (List.map (ent iF PV.bool) a1))]]),(5,.sl 910005),(9,.L iF v17),(10,.I (v17.length:Int)),(11,.I q.1)] [(910005,⟨List.map iF q.2,(List.map iF q.2).length,true,1,true⟩)]) (Wk.trans (C9 (t:=5) (l:=920005) (z:=1) J J) (WP (λl=>if l=910005 then 920005 else l))) λq22 x21 h hx16=>?_
  obtain⟨s19,s20⟩:=q22;refine S4 1 J<|c8 ?_;refine cN h (λhc h=>?_) λhc h=>?_
  ·refine b8 ?_;refine jq h (λj27=>St.of [(1,.fn (.func 379) [.rptr [.abs (X5 (List.map (ent iF PV.bool) a1))]]),(5,.sl 21),(9,.L iF v17),(10,.I (v17.length:Int)),(11,.I s19)] [(21,⟨List.map iF j27,(List.map iF j27).length,true,1,true⟩)]) (λj27 h=>?_) λκ26 h=>?_
   ·refine S6 2 J ?_;exact eL h (Wk.trans (n0 _ [21]) (WP (λl=>if l=910005 then 21 else l)))
   ·refine c9 ?_;refine sR<|iL h J J g7 m7 λv28 _ h=>S2 2 J<|S3 2 J<|cA h b32 J J λv29 _ h=>yN ?_;refine cN h (λhc h=>?_) λhc h=>?_
    ·refine S5 2 J ?_;refine y0 J (G1 (f:=iF) (l:=[v28]) J g7 m7 y6 J J nl J J)<|r9 h λv30 hv23 h=>H5 J (F1 (f:=iF) hv23 J J J J J J (.inl ⟨_,J,J⟩) g7 m7 F9 y6 J (λ_=>J)) J J J<|S2 1 J ?_;exact eJ h (Wk.trans (n0 _ [21]) W)
    ·refine b8 ?_;exact eJ h (Wk.trans (n0 _ [910005]) (WP (λl=>if l=21 then 910005 else l)))
  ·refine o5 ?_;refine c4<|c4<|k7 ?_;have h:=xL hx16 h;exact eJ h (Wk.trans (n0 _ [910005]) W)

theorem b0t{a0 a1}:PO Tryz.prog 373 [a7.Pv a0,.L iF a1] (a4P a0 a1) λr=>.L iF r:=by
 refine pO Tryz.func373 λr h _ _=>?_;refine S4 2 J<|S3 2 J<|cF h a78 J J λv1 _ h=>S2 2 J<|S3 2 J<|r9 h λv2 hv2 h=>ycL J (u6 J a4d J hv2) J<|S2 1 J<|b6 ?_;cases h;exact f1

theorem b2P{a0}:PO Tryz.prog 386 [o0.Pv a0] (a3b a0) λr=>.bool r:=by
 refine pO Tryz.func386 λr h _ _=>?_;unfold a3b at h;refine S4 2 J<|S4 1 J<|b6 ?_;cases h;exact f1

theorem K2{a0}:PO Tryz.prog 383 [.fn (.func 388) [.rptr [.L c5.Pv a0]],.fn (.func 386) []] (B5 a0) λr=>.L o0.Pv r:=by
 refine pO Tryz.func383 λr h _ _=>?_;refine S4 2 J<|S4 1 J ?_;refine jq h (λj16=>St.of [(5,.ptr 2001 0 0)] [(2001,vS (.sl 912501) 1),(912501,⟨List.map o0.Pv j16,(List.map o0.Pv j16).length,true,2,true⟩)]) (λj16 h=>?_) λκ15 h=>?_
 ·refine S4 2 J ?_;refine b6 ?_;cases h;exact f1
 ·refine S4 1 J ?_;refine c9<|a3v (WPE (λl=>if l=2012 then 5 else if l=2013 then 3 else l) [(3,.ptr 2013 0 0),(5,.ptr 2012 0 0),(7,.fn (.func 388) [.rptr [.L c5.Pv a0]])] [(2012,vR (.nl) 1),(2013,vR (.fn (.func 386) []) 1)]) ?_
  refine a2h (fn:=Tryz.f388) (N1:=27) J Tryz.func388 J J nl J c3E J J (λl20 e21 o22 hR23=>?_);refine S3 1 J<|cF h b1w J J λv17 _ h=>nL J g7<|S2 1 J<|c9<|lq h (λq=>St.of [(1000003,.ptr 2013 0 0),(1000005,.ptr 2012 0 0),(1000007,.fn (.func 388) [.rptr [.L c5.Pv a0]]),(0,.fn (.yield l20) []),(1,.rptr [.L c5.Pv a0]),(8,.L iF v17),(9,.I (v17.length:Int)),(10,.I q.1)] [(2012,vS (.sl 912512) 1),(2013,vR (.fn (.func 386) []) 1),(912512,⟨List.map o0.Pv q.2,(List.map o0.Pv q.2).length,true,2,true⟩)]) (Wk.trans (b2F (l0:=2012) (j:=0) (l:=922512) (z:=2) J J J J J) (WP (λl=>if l=912512 then 922512 else l))) λq22 x21 h hx27=>?_
  obtain⟨s19,s20⟩:=q22;refine S4 1 J<|c8 ?_;refine cN h (λhc h=>?_) λhc h=>?_
  ·refine b8 ?_;refine c8<|c9<|sR<|iL h J J g7 m7 λv23 _ h=>S2 2 J<|S3 2 J<|cA h a5p J J λv24 _ h=>S2 5 J<|S3 3 J<|y0 J (o8 (cs:=[.I v23,.I v24.1]) J c3I a9r J J J)<|T7 (WPE (λl=>if l=2021 then 912512 else l) [(1000003,.ptr 2013 0 0),(1000005,.ptr 2012 0 0),(1000007,.fn (.func 388) [.rptr [.L c5.Pv a0]]),(0,.fn (.yield l20) []),(1,.rptr [.L c5.Pv a0]),(8,.L iF v17),(9,.I (v17.length:Int)),(10,.I s19),(20,.fn (.yield l20) []),(23,.agg [.I v23,.I v24.1])] [(2012,vS (.sl 2021) 1),(2021,⟨List.map o0.Pv s20,(List.map o0.Pv s20).length,true,2,true⟩),(2013,vR (.fn (.func 386) []) 1)]) ?_
   refine a7T hR23 J J J J J J (λe30 o31 o32=>?_);refine S6 2 J ?_;refine⟨J,?_⟩;refine jqE h (λj28=>St.of [(2000003,.ptr 2013 0 0),(2000005,.ptr 2012 0 0),(2000007,.fn (.func 388) [.rptr [.L c5.Pv a0]]),(1000000,.fn (.yield l20) []),(1000001,.rptr [.L c5.Pv a0]),(1000008,.L iF v17),(1000009,.I (v17.length:Int)),(1000010,.I s19),(1000020,.fn (.yield l20) []),(1000023,.agg [.I v23,.I v24.1])] [(2012,vS (.sl 15) 1),(15,⟨List.map o0.Pv j28,(List.map o0.Pv j28).length,true,2,true⟩),(2013,vR (.fn (.func 386) []) 1)]) (λj28 h=>?_) λκ27 h=>?_
   ·refine⟨J,?_⟩;refine T7 (WPE (λl=>if l=2022 then 15 else l) [(1000003,.ptr 2013 0 0),(1000005,.ptr 2012 0 0),(1000007,.fn (.func 388) [.rptr [.L c5.Pv a0]]),(0,.fn (.yield l20) []),(1,.rptr [.L c5.Pv a0]),(8,.L iF v17),(9,.I (v17.length:Int)),(10,.I s19),(24,.bool true)] [(2012,vS (.sl 2022) 1),(2022,⟨List.map o0.Pv j28,(List.map o0.Pv j28).length,true,2,true⟩),(2013,vR (.fn (.func 386) []) 1)])<|S2 1 J ?_
    refine J0 false J (λq=>nomatch q) (λ_=>?_);refine b8<|S6 2 J ?_;exact eL h (Wk.trans (n0 _ [2022]) (WP (λl=>if l=912512 then 2022 else l)))
   ·refine c9 ?_;refine S3 2 J<|cA h b2P J J λv29 _ h=>yN ?_;refine cN h (λhc h=>?_) λhc h=>?_
    ·refine S5 2 J ?_;refine y0 J (G1 (f:=o0.Pv) (l:=[(⟨v23,v24.1⟩:o0)]) J a6X b07 a9r J J nl J J)<|r9 h λv30 hv37 h=>H5 J (F1 (f:=o0.Pv) hv37 J J J J J J (.inl ⟨_,J,J⟩) a6X b07 c3A a9r J (λ_=>J)) J J J<|S2 1 J ?_;exact eJ h (Wk.trans (n0 _ [15]) W)
    ·refine b8 ?_;exact eJ h (Wk.trans (n0 _ [2021]) (WP (λl=>if l=15 then 2021 else l)))
  ·refine o5 ?_;refine c4<|c4<|k7 ?_;refine .inl ⟨J,?_⟩;have h:=xL hx27 h;exact eJ h (Wk.trans (n0 _ [912512]) (WP (λl=>if l=2001 then 2012 else if l=912501 then 912512 else l)))

theorem b46{a0}:PO Tryz.prog 381 [.L c5.Pv a0] (a5m a0) λr=>.L o0.Pv r:=by
 refine pO Tryz.func381 λr h _ _=>?_;refine S4 1 J<|S3 1 J<|cF h a8x J J λv1 _ h=>cF h K2 J J λv2 _ h=>S2 1 J<|b6 ?_;cases h;exact f1

theorem b0k{a0 a1}:PO Tryz.prog 380 [.I a0,.rptr (a7.Pc a1)] (a4C a0 a1) λr=>.bool r:=by
 refine pO Tryz.func380 λr h _ _=>?_;refine S4 1 J<|S3 2 J<|cF h C4 J J λv1 _ h=>S2 6 J<|S4 3 J<|b6 ?_;cases h;exact f1

theorem b8m{a0 a1 a2}:PON Tryz.prog 374 [a7.Pv a0,.L c5.Pv a1,.L iF a2] (b1l a0 a1 a2) λr=>⟨List.map iF r,(List.map iF r).length,true,1,true⟩:=by
 refine pON Tryz.func374 λr h _ _=>?_;refine S4 2 J<|S4 2 J<|S4 1 J ?_;refine jq h (λj20=>St.of [(8,.sl 910008)] [(910008,⟨List.map iF j20,(List.map iF j20).length,true,1,true⟩)]) (λj20 h=>?_) λκ19 h=>?_
 ·refine S4 2 J ?_;refine a3v (n0 _ [910008])<|b6 ?_;cases h;exact⟨J,_,_,J,J,J,J⟩
 ·refine S3 1 J ?_;refine cF h b46 J J λv21 _ h=>nL J a6X<|S2 1 J<|c9<|lq h (λq=>St.of [(2,.L iF a2),(7,.fn (.func 380) [.ptr 3 0 0]),(8,.sl 910008),(13,.L o0.Pv v21),(14,.I (v21.length:Int)),(15,.I q.1)] [(3,vR (a7.Pv a0) 3),(910008,⟨List.map iF q.2,(List.map iF q.2).length,true,1,true⟩)]) (Wk.trans (C9 (t:=8) (l:=920008) (z:=1) J J) (WP (λl=>if l=910008 then 920008 else l))) λq26 x25 h hx20=>?_
  obtain⟨s23,s24⟩:=q26;refine S4 1 J<|c8 ?_;refine cN h (λhc h=>?_) λhc h=>?_
  ·refine b8 ?_;refine jq h (λj33=>St.of [(2,.L iF a2),(7,.fn (.func 380) [.ptr 3 0 0]),(8,.sl 39),(13,.L o0.Pv v21),(14,.I (v21.length:Int)),(15,.I s23)] [(39,⟨List.map iF j33,(List.map iF j33).length,true,1,true⟩),(3,vR (a7.Pv a0) 3)]) (λj33 h=>?_) λκ32 h=>?_
   ·refine S6 2 J ?_;exact eL h (Wk.trans (n0 _ [39]) (WP (λl=>if l=910008 then 39 else l)))
   ·refine c9 ?_;refine sR<|iL h J J a6X b07 λv34 _ h=>S2 3 J<|S3 3 J<|cA h P8 J J λv35 _ h=>S1 1 J<|l4 J (λhg=>om (d:=.fn (.func 380) [.ptr 3 0 0]) J)<|l4 J (λhg=>oF J c5h J)<|l4 J (λhg=>oS (ct hg) J J C5 J)<|r9 h λv36 hv29 h=>l4 J (λhg=>D4 (ct hg) b0k (D8 (ct hg) J) (G8 hv29 hg))<|y0 J (z7 J J J (λq=>eqT q))<|S1 1 J<|l4 J (λhg=>om (d:=.fn (.func 380) [.ptr 3 0 0]) J)<|l4 J (λhg=>oF J b6M J)<|l4 J (λhg=>oS (ct hg) J J C5 J)<|r9 h λv37 hv30 h=>l4 J (λhg=>D4 (ct hg) b0k (D8 (ct hg) J) (G8 hv30 hg))<|y0 J (z7 J J J (λq=>eqT q))<|yN ?_;refine cN h (λhc h=>?_) λhc h=>?_
    ·refine S5 3 J ?_;refine y0 J (G1 (f:=iF) (l:=[v34.Val]) J g7 m7 y6 J J nl J J)<|r9 h λv38 hv31 h=>H5 J (F1 (f:=iF) hv31 J J J J J J (.inl ⟨_,J,J⟩) g7 m7 F9 y6 J (λ_=>J)) J J J<|S2 1 J ?_;exact eJ h (Wk.trans (n0 _ [39]) W)
    ·refine b8 ?_;exact eJ h (Wk.trans (n0 _ [910008]) (WP (λl=>if l=39 then 910008 else l)))
  ·refine o5 ?_;refine c4<|c4<|k7 ?_;have h:=xL hx20 h;exact eJ h (Wk.trans (n0 _ [910008]) W)

theorem b8l{a0 a1 a2}:PO Tryz.prog 357 [a7.Pv a0,.L c5.Pv a1,.L iF a2] (a9x a0 a1 a2) λr=>.tup [.L iF r.1,.I r.2]:=by
 refine pO Tryz.func357 λr h _ _=>?_;refine S4 3 J<|c0Q<|S3 2 J<|cF h b0t J J λv1 _ h=>S2 1 J<|c8<|c0P<|c9<|lq h (λq=>St.of [(1,.L c5.Pv a1),(3,.ptr 3 0 0),(6,.L iF q.1),(7,.I q.2)] [(3,vR (a7.Pv a0) 3)]) W λq6 x5 h hx4=>?_;obtain⟨s3,s4⟩:=q6;refine c9<|S3 3 J<|r9 h λv7 hv5 h=>ycN J (b7e J b8m J hv5) J J<|S2 1 J ?_;refine jq h (λ_=>St.of [(6,.L iF s3),(7,.I s4)] []) (λq16 h=>?_) λκ15 h=>?_
 ·refine S4 4 J ?_;refine b6 ?_;have h:=xL hx4 h;cases h;exact f2
 ·refine S3 1 J ?_;refine y0 J (c0F (f:=iF) J J J g7)<|S2 1 J<|c9<|lq h (λs18=>St.of [(1,.L c5.Pv a1),(3,.ptr 3 0 0),(6,.L iF s3),(7,.I s4),(8,.sl 17),(18,.sl 17),(19,.I (v7.length:Int)),(20,.I s18)] [(17,⟨List.map iF v7,(List.map iF v7).length,true,1,true⟩),(3,vR (a7.Pv a0) 3)]) (Wk.trans (n0 _ [17]) W) λs18 x19 h hx16=>S4 1 J<|c8 ?_;refine cN h (λhc h=>?_) λhc h=>?_
  ·refine b8 ?_;refine c8<|c9<|sR<|r9 h λv20 hv17 h=>y0 J (a0r (f:=iF) hv17 J J J J g7 m7 J)<|y0 J (b3y (f:=iF) hv17 J J J C5 J)<|S2 1 J<|S3 2 J<|cA h P8 J J λv21 _ h=>S2 1 J ?_;refine cN h (λhc h=>?_) λhc h=>?_
   ·refine dr [4] o9 (by kernel_rfl) (by kernel_rfl) ?_
    refine S7 3 J<|r9 h λv22 hv19 h=>d3a J (F1 (f:=iF) hv19 J J J J J J (.inl ⟨_,J,J⟩) g7 m7 F9 y6 J (λ_=>J)) J J J J J<|r9 h λv23 hv20 h=>d5f J (u6 J b0t J hv20) J J<|S8 1 J<|S4 3 J<|o5<|a3Z (by decide)<|c4<|c4<|a3Z (by decide)<|c4<|k7 ?_
    have h:=xL hx16 h;exact eL h W
   ·refine b8 ?_;refine S6 2 J ?_;exact eL h (Wk.trans (n0 _ [17]) W)
  ·refine o5 ?_;refine c4<|c4<|k7 ?_;have h:=xL hx16 h;exact eJ h W

theorem c0g{a0 a1 a2}:PO Tryz.prog 327 [a7.Pv a0,.L c5.Pv a1,.L iF a2] (b1k a0 a1 a2) λr=>.L iF r:=by
 refine pO Tryz.func327 λr h _ _=>?_;refine S4 2 J<|S3 3 J<|cF h b8l J J λv1 _ h=>S2 5 J<|S4 2 J<|b6 ?_;cases h;exact f1

theorem b33{a0 a1}:PO Tryz.prog 356 [.I a0,.rptr [.abs (X5 (List.map (ent iF PV.bool) a1))]] (a4c a0 a1) λr=>.bool r:=by
 refine pO Tryz.func356 λr h _ _=>?_;unfold a4c at h;refine S4 1 J<|S3 2 J<|y0 J (c0E (es:=a1) (k:=a0) (E:=PV.bool) (EK:=iF) (d:=.bool ((C0 a1 a0).getD (false:Bool))) J J a3j (B3 L7) b96 J (lk1 _ _ _))<|S2 2 J<|b6 ?_;cases h;exact f1

theorem a4e{a0 a1}:PO Tryz.prog 355 [a7.Pv a0,.fn (.func 356) [.rptr [.abs (X5 (List.map (ent iF PV.bool) a1))]]] (T3 a0 a1) λr=>.L iF r:=by
 refine pO Tryz.func355 λr h _ _=>?_;refine S4 2 J<|S4 1 J ?_;refine jq h (λj16=>St.of [(5,.sl 910005)] [(910005,⟨List.map iF j16,(List.map iF j16).length,true,1,true⟩)]) (λj16 h=>?_) λκ15 h=>?_
 ·refine S4 2 J ?_;refine b6 ?_;cases h;exact f1
 ·refine S3 1 J ?_;refine cF h L6 J J λv17 _ h=>nL J g7<|S2 1 J<|c9<|lq h (λq=>St.of [(1,.fn (.func 356) [.rptr [.abs (X5 (List.map (ent iF PV.bool) a1))]]),(5,.sl 910005),(9,.L iF v17),(10,.I (v17.length:Int)),(11,.I q.1)] [(910005,⟨List.map iF q.2,(List.map iF q.2).length,true,1,true⟩)]) (Wk.trans (C9 (t:=5) (l:=920005) (z:=1) J J) (WP (λl=>if l=910005 then 920005 else l))) λq22 x21 h hx16=>?_
  obtain⟨s19,s20⟩:=q22;refine S4 1 J<|c8 ?_;refine cN h (λhc h=>?_) λhc h=>?_
  ·refine b8 ?_;refine jq h (λj27=>St.of [(1,.fn (.func 356) [.rptr [.abs (X5 (List.map (ent iF PV.bool) a1))]]),(5,.sl 21),(9,.L iF v17),(10,.I (v17.length:Int)),(11,.I s19)] [(21,⟨List.map iF j27,(List.map iF j27).length,true,1,true⟩)]) (λj27 h=>?_) λκ26 h=>?_
   ·refine S6 2 J ?_;exact eL h (Wk.trans (n0 _ [21]) (WP (λl=>if l=910005 then 21 else l)))
   ·refine c9 ?_;refine sR<|iL h J J g7 m7 λv28 _ h=>S2 2 J<|S3 2 J<|cA h b33 J J λv29 _ h=>yN ?_;refine cN h (λhc h=>?_) λhc h=>?_
    ·refine S5 2 J ?_;refine y0 J (G1 (f:=iF) (l:=[v28]) J g7 m7 y6 J J nl J J)<|r9 h λv30 hv23 h=>H5 J (F1 (f:=iF) hv23 J J J J J J (.inl ⟨_,J,J⟩) g7 m7 F9 y6 J (λ_=>J)) J J J<|S2 1 J ?_;exact eJ h (Wk.trans (n0 _ [21]) W)
    ·refine b8 ?_;exact eJ h (Wk.trans (n0 _ [910005]) (WP (λl=>if l=21 then 910005 else l)))
  ·refine o5 ?_;refine c4<|c4<|k7 ?_;have h:=xL hx16 h;exact eJ h (Wk.trans (n0 _ [910005]) W)

theorem b6z{a0 a1}:PO Tryz.prog 326 [a7.Pv a0,.L iF a1] (a7C a0 a1) λr=>.L iF r:=by
 refine pO Tryz.func326 λr h _ _=>?_;refine S4 2 J<|S3 2 J<|cF h a78 J J λv1 _ h=>S2 2 J<|S3 2 J<|r9 h λv2 hv2 h=>ycL J (u6 J a4e J hv2) J<|S2 1 J<|b6 ?_;cases h;exact f1

theorem c0h{a0 a1 a2}:PO Tryz.prog 260 [a7.Pv a0,.L c5.Pv a1,.L iF a2] (a8z a0 a1 a2) λr=>.L iF r:=by
 refine pO Tryz.func260 λr h _ _=>?_;unfold a8z at h;refine S4 2 J<|dr [] o9 (by kernel_rfl) (by kernel_rfl)<|S7 4 J<|r9 h λv1 hv1 h=>d2f J (u6 J c0g J hv1) J<|r9 h λv2 hv2 h=>d2f J (u6 J b6z J hv2) J<|S8 1 J<|b6 ?_
 cases h;exact f1

theorem b3o{a0 a1}:PO Tryz.prog 177 [a7.Pv a0,.L c5.Pv a1] (a1m a0 a1) λr=>.L iF r:=by
 refine pO Tryz.func177 λr h _ _=>?_;unfold a1m at h;refine S4 2 J<|dr [] o9 (by kernel_rfl) (by kernel_rfl)<|S7 4 J<|r9 h λv1 hv1 h=>d2f J (u6 J b6E J hv1) J<|r9 h λv2 hv2 h=>d2f J (u6 J c0h J hv2) J<|S8 1 J<|b6 ?_
 cases h;exact f1

theorem a1s{a0}:PO Tryz.prog 108 [b7.Pv a0] (N5 a0) λr=>.L iF r:=by
 refine pO Tryz.func108 λr h _ _=>?_;refine S4 2 J<|S3 4 J<|cF h b3o J J λv1 _ h=>S2 1 J<|b6 ?_;cases h;exact f1

theorem b0G{a0 a1}:PO Tryz.prog 166 [.I a0,.rptr (b7.Pc a1)] (a3G a0 a1) λr=>.bool r:=by
 refine pO Tryz.func166 λr h _ _=>?_;refine S4 1 J<|S3 3 J<|cF h C4 J J λv1 _ h=>S2 6 J<|S3 4 J<|l4 J (λhg=>oF J b6I J)<|l4 J (λhg=>oS (ct hg) J J b05 J)<|l4 J (λhg=>a2f (ct hg) J)<|y0 J (z7 J J J (λq=>eqT q))<|S2 1 J<|b6 ?_;cases h;exact f1

theorem a02{a0 a1}:PO Tryz.prog 165 [.L iF a0,.fn (.func 166) [.rptr (b7.Pc a1)]] (H9 a0 a1) λr=>.L iF r:=by
 refine pO Tryz.func165 λr h _ _=>?_;refine S4 1 J<|S4 1 J ?_;refine jq h (λj15=>St.of [(5,.sl 910005)] [(910005,⟨List.map iF j15,(List.map iF j15).length,true,1,true⟩)]) (λj15 h=>?_) λκ14 h=>?_
 ·refine S4 2 J ?_;refine b6 ?_;cases h;exact f1
 ·refine S3 1 J ?_;refine nL J g7<|S2 1 J<|c9<|lq h (λq=>St.of [(1,.fn (.func 166) [.rptr (b7.Pc a1)]),(5,.sl 910005),(8,.L iF a0),(9,.I (a0.length:Int)),(10,.I q.1)] [(910005,⟨List.map iF q.2,(List.map iF q.2).length,true,1,true⟩)]) (Wk.trans (C9 (t:=5) (l:=920005) (z:=1) J J) (WP (λl=>if l=910005 then 920005 else l))) λq20 x19 h hx14=>?_
  obtain⟨s17,s18⟩:=q20;refine S4 1 J<|c8 ?_;refine cN h (λhc h=>?_) λhc h=>?_
  ·refine b8 ?_;refine jq h (λj25=>St.of [(1,.fn (.func 166) [.rptr (b7.Pc a1)]),(5,.sl 20),(8,.L iF a0),(9,.I (a0.length:Int)),(10,.I s17)] [(20,⟨List.map iF j25,(List.map iF j25).length,true,1,true⟩)]) (λj25 h=>?_) λκ24 h=>?_
   ·refine S6 2 J ?_;exact eL h (Wk.trans (n0 _ [20]) (WP (λl=>if l=910005 then 20 else l)))
   ·refine c9 ?_;refine sR<|iL h J J g7 m7 λv26 _ h=>S2 2 J<|S3 2 J<|cA h b0G J J λv27 _ h=>yN ?_;refine cN h (λhc h=>?_) λhc h=>?_
    ·refine S5 2 J ?_;refine y0 J (G1 (f:=iF) (l:=[v26]) J g7 m7 y6 J J nl J J)<|r9 h λv28 hv21 h=>H5 J (F1 (f:=iF) hv21 J J J J J J (.inl ⟨_,J,J⟩) g7 m7 F9 y6 J (λ_=>J)) J J J<|S2 1 J ?_;exact eJ h (Wk.trans (n0 _ [20]) W)
    ·refine b8 ?_;exact eJ h (Wk.trans (n0 _ [910005]) (WP (λl=>if l=20 then 910005 else l)))
  ·refine o5 ?_;refine c4<|c4<|k7 ?_;have h:=xL hx14 h;exact eJ h (Wk.trans (n0 _ [910005]) W)

theorem b2K{a0}:PO Tryz.prog 105 [b7.Pv a0] (a27 a0) λr=>.L iF r:=by
 refine pO Tryz.func105 λr h _ _=>?_;refine S4 2 J<|S3 1 J<|cF h a1s J J λv1 _ h=>S1 1 J<|r9 h λv2 hv2 h=>ycL J (u6 J a02 J hv2) J<|S2 1 J<|b6 ?_;cases h;exact f1

theorem b0H{a0}:PO Tryz.prog 60 [b7.Pv a0] (X6 a0) λr=>.tup [b7.Pv r.1,.I r.2.1,.I r.2.2]:=by
 refine pO Tryz.func60 λr h _ _=>?_;refine S4 4 J<|S3 1 J<|cF h b2K J J λv1 _ h=>S2 1 J ?_;refine jq h (λj10=>St.of [(1,.ptr 1 0 0),(2,.ptr 2 0 0),(5,.L iF v1)] [(2,vR (.agg [.nl,.I 0,.I 0,.nl,.nl,.nl,.nl,.I 0]) 8),(1,vR (b7.Pv j10) 8)]) (λj10 h=>?_) λκ9 h=>?_
 ·refine c8 ?_;refine S3 1 J<|nL J g7<|S2 1 J ?_;refine cN h (λhc h=>?_) λhc h=>?_
  ·refine S3 2 J ?_;refine nL J g7<|S2 3 J<|b6 ?_;cases h;exact⟨J,[_,_,_],⟨oL J J J u9 p9 nl J,⟨J,⟨J,tr⟩⟩⟩,J,io⟩
  ·refine b8 ?_;refine dr [] o9 (by kernel_rfl) (by kernel_rfl)<|S7 2 J<|r9 h λv11 hv8 h=>d2f J (u6 J a1s J hv8) J<|r9 h λv12 hv9 h=>d2f J (u6 J a9a J hv9) J<|r9 h λv13 hv10 h=>d2f J (u6 J a0V J hv10) J<|S7 1 J<|A3 (x':=b7.Pv v13) (cl':=true) J J (.inr J) p9<|G0<|dr [4,8] o9 (by kernel_rfl) (by kernel_rfl)<|S7 3 J<|r9 h λv14 hv11 h=>d2f J (u6 J L6 J hv11) J<|d7 J (λ_ hN=>T8 (f:=iF) J g7) J<|S7 2 J<|r9 h λv15 hv12 h=>d2f J (u6 J L6 J hv12) J<|d7 J (λ_ hN=>T8 (f:=iF) J g7) J<|S7 1 J<|A3 (x':=b7.Pv v13) (cl':=true) J J (.inr J) p9<|S8 2 J<|b6 ?_
   cases h;exact⟨J,[_,_,_],⟨oL J J J u9 p9 nl J,⟨J,⟨J,tr⟩⟩⟩,J,io⟩
 ·refine S3 1 J ?_;refine nL J g7<|S2 1 J<|c9<|lq h (λq=>St.of [(1,.ptr 1 0 0),(2,.ptr 2 0 0),(5,.L iF v1),(11,.L iF v1),(12,.I (v1.length:Int)),(13,.I q.1)] [(2,vR (.agg [.nl,.I 0,.I 0,.nl,.nl,.nl,.nl,.I 0]) 8),(1,vR (b7.Pv q.2) 8)]) W λq20 x19 h hx15=>?_;obtain⟨s17,s18⟩:=q20;refine S4 1 J<|c8 ?_;refine cN h (λhc h=>?_) λhc h=>?_
  ·refine b8 ?_;refine c8<|c9<|sR<|iL h J J g7 m7 λv21 _ h=>S2 2 J<|S5 2 J<|cF h a6L J J λv22 _ h=>S2 1 J<|S6 2 J ?_;exact eL h W
  ·refine o5 ?_;refine c4<|c4<|k7 ?_;have h:=xL hx15 h;exact eJ h W

theorem a5Z{a0 a1}:PO Tryz.prog 294 [g5.Pv a0,.I a1] (a0b a0 a1) λr=>.tup [g5.Pv r.1,.L k9.Pv r.2]:=by
 refine pO Tryz.func294 λr h _ _=>?_;refine S4 3 J<|S3 2 J<|cA h O7 J J λv1 hv1 h=>y0 J (d1Z J J J)<|y0 J (c7Z J J J)<|S2 1 J<|S3 3 J<|cF h V6 J J λv2 _ h=>S2 1 J<|dr [] o9 (by kernel_rfl) (by kernel_rfl)<|S7 4 J<|d2 J (D4 J O7 J hv1) J<|r9 h λv3 hv3 h=>d2f J (u6 J V6 J hv3) J<|S7 1 J<|A3 (x':=.agg [.L k9.Pv v3,.I a0.Cap]) (cl':=true) J J (.inr J) c6B<|G0<|S4 4 J<|b6 ?_
 cases h;exact⟨J,[_,_],⟨oL J J J a5O a11 nl J,⟨J,tr⟩⟩,J,io⟩

theorem a7u{a0}:PO Tryz.prog 222 [g5.Pv a0] (a06 a0) λr=>.tup [g5.Pv r.1,k9.Pv r.2.1,.I r.2.2]:=by
 refine pO Tryz.func222 λr h _ _=>?_;refine S4 4 J<|S3 1 J<|cF h a5Z J J λv1 _ h=>S2 6 J<|c8<|S3 1 J<|nL J a4u<|S2 1 J ?_;refine cN h (λhc h=>?_) λhc h=>?_
 ·refine S4 1 J ?_;refine dr [1,1007] o9 (by kernel_rfl) (by kernel_rfl)<|S7 1 J<|d7 J (λ_ hN=>a37 (cs:=[.I 0,.I 0,.I 0]) hN J J J J a1X K8 nl J) J<|A3 (x':=g5.Pv a0) (cl':=true) J J (.inr J) a11<|A3 (x':=.agg [.I 0,.I 0,.I 0]) (cl':=true) J J (.inl J) K8<|S8 1 J<|b6 ?_
  cases h;exact⟨J,[_,_,_],⟨oL J J J a5O a11 nl J,⟨oL J J J a1X K8 nl J,⟨J,tr⟩⟩⟩,J,io⟩
 ·refine b8 ?_;refine dr [2,3] o9 (by kernel_rfl) (by kernel_rfl)<|S7 2 J<|r9 h λv2 hv2 h=>d7 J (λ_ hN=>u7 (f:=k9.Pv) (cs:=k9.Pc v2) hv2 J J a4u K8 J J) J<|d7 J (λ_ hN=>a8L J a1X K8 nl J) J<|A3 (x':=g5.Pv v1.1) (cl':=true) J J (.inr J) a11<|A3 (x':=k9.Pv v2) (cl':=true) J J (.inl J) K8<|S8 1 J<|b6 ?_
  cases h;exact⟨J,[_,_,_],⟨oL J J J a5O a11 nl J,⟨oL J J J a1X K8 nl J,⟨J,tr⟩⟩⟩,J,io⟩

theorem a7N{a0}:PO Tryz.prog 129 [g5.Pv a0] (a1S a0) λr=>.tup [g5.Pv r.1,k9.Pv r.2.1,.I r.2.2]:=by
 refine pO Tryz.func129 λr h _ _=>?_;refine S4 4 J<|S3 1 J<|cF h a7u J J λv1 _ h=>S2 6 J<|b6 ?_;cases h;exact⟨J,[_,_,_],⟨oL J J J a5O a11 nl J,⟨oL J J J a1X K8 nl J,⟨J,tr⟩⟩⟩,J,io⟩

theorem a4z{a0}:PO Tryz.prog 72 [b7.Pv a0] (a1G a0) λr=>.bool r:=by
 refine pO Tryz.func72 λr h _ _=>?_;refine S4 2 J<|S3 2 J<|cF h a7N J J λv1 _ h=>S2 9 J<|S4 3 J<|b6 ?_;cases h;exact f1

theorem b0i{a0 a1}:PO Tryz.prog 262 [.L (Ls g8.Pv) a0,.I a1] (a4A a0 a1) λr=>.L g8.Pv r:=by
 refine pO Tryz.func262 λr h _ _=>?_;refine S4 1 J<|c8<|S3 3 J<|l4 J (λhg=>mI J)<|l4 J (λhg=>om (d:=.L (Ls g8.Pv) a0) J)<|l4 J (λhg=>T8 (f:=(Ls g8.Pv)) (ct hg) a3D)<|l4 J (λhg=>y5 (ct hg) (ct hg) J)<|y0 J (C7 J J J (λq=>eqF q))<|yN ?_;refine cN h (λhc h=>?_) λhc h=>?_
 ·refine S4 1 J ?_;refine b6 ?_;cases h;exact f1
 ·refine b8 ?_;refine S3 2 J<|iL h J J a3D a9n λv1 _ h=>S2 2 J<|b6 ?_;cases h;exact f1

theorem b6p{a0 a1}:PO Tryz.prog 179 [.L (Ls g8.Pv) a0,k9.Pv a1] (a67 a0 a1) λr=>.I r:=by
 refine pO Tryz.func179 λr h _ _=>?_;refine S4 2 J<|S3 3 J<|cF h b0i J J λv1 _ h=>nL J a21<|S2 2 J<|b6 ?_;cases h;exact f1

theorem b5s{a0 a1}:PO Tryz.prog 264 [b7.Pv a0,.L g8.Pv a1] (a3q a0 a1) λr=>.tup [b7.Pv r.1,.L iF r.2]:=by
 refine pO Tryz.func264 λr h _ _=>?_;refine S4 3 J<|S4 1 J ?_;refine jq h (λq=>St.of [(2,.ptr 2 0 0),(4,.ptr 4 0 0),(6,.sl 910006)] [(910006,⟨List.map iF q.2,(List.map iF q.2).length,true,1,true⟩),(4,vR (.agg [.nl,.I 0,.I 0,.nl,.nl,.nl,.nl,.I 0]) 8),(2,vR (b7.Pv q.1) 8)]) (λq13 h=>?_) λκ10 h=>?_
 ·obtain⟨j11,j12⟩:=q13;refine S4 4 J<|b6 ?_;cases h;exact⟨J,[_,_],⟨oL J J J u9 p9 nl J,⟨J,tr⟩⟩,J,io⟩
 ·refine S3 1 J ?_;refine nL J a21<|S2 1 J<|c9<|lq h (λq=>St.of [(2,.ptr 2 0 0),(4,.ptr 4 0 0),(6,.sl 910006),(10,.L g8.Pv a1),(11,.I (a1.length:Int)),(12,.I q.1)] [(4,vR (.agg [.nl,.I 0,.I 0,.nl,.nl,.nl,.nl,.I 0]) 8),(2,vR (b7.Pv q.2.1) 8),(910006,⟨List.map iF q.2.2,(List.map iF q.2.2).length,true,1,true⟩)]) (Wk.trans (C9 (t:=6) (l:=920006) (z:=1) J J) (WP (λl=>if l=910006 then 920006 else l))) λq19 x18 h hx10=>?_
  obtain⟨s15,s16,s17⟩:=q19;refine S4 1 J<|c8 ?_;refine cN h (λhc h=>?_) λhc h=>?_
  ·refine b8 ?_;refine c8<|c9<|sR<|iL h J J a21 a3X λv20 _ h=>S2 3 J<|S4 1 J<|S3 2 J<|cF h b0n J J λv21 _ h=>S2 6 J<|S5 2 J<|y0 J (G1 (f:=iF) (l:=[v21.2.1]) J g7 m7 y6 J J nl J J)<|r9 h λv22 hv13 h=>H5 J (F1 (f:=iF) hv13 J J J J J J (.inl ⟨_,J,J⟩) g7 m7 F9 y6 J (λ_=>J)) J J J<|S2 1 J<|S6 2 J ?_;exact eL h (Wk.trans (n0 _ [26]) (WP (λl=>if l=910006 then 26 else l)))
  ·refine o5 ?_;refine c4<|c4<|k7 ?_;have h:=xL hx10 h;exact eJ h (Wk.trans (n0 _ [910006]) W)

theorem b6q{a0 a1}:PO Tryz.prog 180 [b7.Pv a0,.L (Ls g8.Pv) a1] (a68 a0 a1) λr=>.tup [b7.Pv r.1,k9.Pv r.2.1,.I r.2.2]:=by
 refine pO Tryz.func180 λr h _ _=>?_;refine S4 4 J<|S3 2 J<|cF h a7N J J λv1 _ h=>S2 9 J<|c8<|S4 2 J ?_;refine cN h (λhc h=>?_) λhc h=>?_
 ·refine S3 1 J ?_;refine y0 J (o8 (cs:=[.I 0,.I 0,.I 0]) J b7O b1a J J J)<|S2 4 J<|b6 ?_;cases h;exact⟨J,[_,_,_],⟨oL J J J u9 p9 nl J,⟨oL J J J a1X K8 nl J,⟨J,tr⟩⟩⟩,J,io⟩
 ·refine b8 ?_;refine S4 3 J<|S4 4 J ?_;refine jq h (λj6=>St.of [(1,.L (Ls g8.Pv) a1),(2,.ptr 2 0 0),(4,.ptr 4 0 0),(5,.ptr 5 0 0),(8,.ptr 8 0 0),(10,.bool (v1.2.1.Kind==1))] [(8,vR (k9.Pv v1.2.1) 3),(5,vR (.agg [.I 0,.I 0,.I 0]) 3),(4,vR (.agg [.nl,.I 0,.I 0,.nl,.nl,.nl,.nl,.I 0]) 8),(2,vR (b7.Pv j6) 8)]) (λj6 h=>?_) λκ5 h=>?_
  ·refine dr [] o9 (by kernel_rfl) (by kernel_rfl) ?_
   refine S7 4 J<|r9 h λv7 hv6 h=>d2f J (u6 J b0i J hv6) J<|r9 h λv8 hv7 h=>d2f J (u6 J b5s J hv7) J<|S7 3 J<|A3 (x':=b7.Pv v8.1) (cl':=true) J J (.inr J) p9<|G0<|c8<|S4 1 J ?_;refine cN h (λhc h=>?_) λhc h=>?_
   ·refine S3 1 J ?_;refine cF h a7h J J λv9 _ h=>S2 4 J<|S5 1 J<|cF h a0V J J λv10 _ h=>S2 1 J<|dr [1,1008] o9 (by kernel_rfl) (by kernel_rfl)<|S7 1 J<|d7 J (λ_ hN=>a37 (cs:=k9.Pc v1.2.1) hN J J J J a1X K8 nl J) J<|A3 (x':=b7.Pv v10) (cl':=true) J J (.inr J) p9<|A3 (x':=k9.Pv v1.2.1) (cl':=true) J J (.inl J) K8<|S8 1 J<|b6 ?_
    cases h;exact⟨J,[_,_,_],⟨oL J J J u9 p9 nl J,⟨oL J J J a1X K8 nl J,⟨J,tr⟩⟩⟩,J,io⟩
   ·refine b8 ?_;refine dr [1,1008] o9 (by kernel_rfl) (by kernel_rfl)<|S7 1 J<|d7 J (λ_ hN=>a37 (cs:=k9.Pc v1.2.1) hN J J J J a1X K8 nl J) J<|A3 (x':=b7.Pv v8.1) (cl':=true) J J (.inr J) p9<|A3 (x':=k9.Pv v1.2.1) (cl':=true) J J (.inl J) K8<|S8 1 J<|b6 ?_
    cases h;exact⟨J,[_,_,_],⟨oL J J J u9 p9 nl J,⟨oL J J J a1X K8 nl J,⟨J,tr⟩⟩⟩,J,io⟩
  ·refine S4 1 J ?_;refine cN h (λhc h=>?_) λhc h=>?_
   ·refine S3 3 J ?_;refine cF h a7h J J λv11 _ h=>S2 4 J<|S5 3 J<|cF h X7 J J λv12 _ h=>cF h a0V J J λv13 _ h=>S2 1 J ?_;exact eJ h W
   ·refine b8 ?_;exact eJ h W

theorem b42{a0 a1 a2}:PO Tryz.prog 61 [b7.Pv a0,.L (Ls g8.Pv) a1,.I a2] (a3l a0 a1 a2) λr=>.tup [b7.Pv r.1,.I r.2.1,.I r.2.2.1,.I r.2.2.2]:=by
 refine pO Tryz.func61 λr h _ _=>?_;refine S4 6 J<|S4 2 J ?_;refine jq h (λq=>St.of [(3,.ptr 2004 0 0),(5,.ptr 2003 0 0),(6,.ptr 2002 0 0),(10,.ptr 2001 0 0)] [(2001,vR (.I q.1) 1),(2002,vR (.agg [.nl,.I 0,.I 0,.nl,.nl,.nl,.nl,.I 0]) 8),(2003,vR (.I q.2.1) 1),(2004,vR (b7.Pv q.2.2) 8)]) (λq17 h=>?_) λκ13 h=>?_
 ·obtain⟨j14,j15,j16⟩:=q17;refine c8<|S3 1 J<|cA h a4z J J λv18 _ h=>S2 1 J ?_;refine cN h (λhc h=>?_) λhc h=>?_
  ·refine dr [1,2,3001,3003] o9 (by kernel_rfl) (by kernel_rfl) ?_
   refine S7 1 J<|d7 J (λ_ hN=>b1L hN J J J J C5 J) J<|d7 J (λ_ hN=>b1L hN J J J J C5 J) J<|A3 (x':=b7.Pv j16) (cl':=true) J J (.inr J) p9<|S8 3 J<|b6 ?_;cases h;exact⟨J,[_,_,_,_],⟨oL J J J u9 p9 nl J,⟨J,⟨J,⟨J,tr⟩⟩⟩⟩,J,io⟩
  ·refine b8 ?_;refine dr [1,2,3001,3003] o9 (by kernel_rfl) (by kernel_rfl)<|S7 1 J<|d7 J (λ_ hN=>b1L hN J J J J C5 J) J<|d7 J (λ_ hN=>b1L hN J J J J C5 J) J<|A3 (x':=b7.Pv j16) (cl':=true) J J (.inr J) p9<|S8 3 J<|b6 ?_
   cases h;exact⟨J,[_,_,_,_],⟨oL J J J u9 p9 nl J,⟨J,⟨J,⟨J,tr⟩⟩⟩⟩,J,io⟩
 ·refine S3 3 J ?_;refine T7 (WPE (λl=>if l=2008 then 10 else if l=2009 then 6 else if l=2010 then 5 else if l=2011 then 3 else l) [(3,.ptr 2011 0 0),(5,.ptr 2010 0 0),(6,.ptr 2009 0 0),(10,.ptr 2008 0 0),(13,b7.Pv a0),(14,.L (Ls g8.Pv) a1),(15,.I a2)] [(2008,vR (.I 0) 1),(2009,vR (.agg [.nl,.I 0,.I 0,.nl,.nl,.nl,.nl,.I 0]) 8),(2010,vR (.I a2) 1),(2011,vR (b7.Pv a0) 8)]) ?_
  refine b7C (fn:=Tryz.f109) (N1:=8) J J Tryz.func109 J c9j J J nl (λe19 o20=>?_);refine S4 4 J<|S4 2 J<|b6 ?_;refine⟨J,[.fn (.func 178) [.ptr 3 0 0,.ptr 4 0 0,.ptr 5 0 0]],⟨J,tr⟩,?_⟩;refine T7 (WPE (λl=>if l=2012 then 5 else if l=2013 then 4 else if l=2014 then 3 else l) [(3,.ptr 2011 0 0),(5,.ptr 2010 0 0),(6,.ptr 2009 0 0),(10,.ptr 2008 0 0),(16,.fn (.func 178) [.ptr 2014 0 0,.ptr 2013 0 0,.ptr 2012 0 0])] [(2012,vR (.I a2) 1),(2013,vR (.L (Ls g8.Pv) a1) 1),(2014,vR (b7.Pv a0) 8),(2008,vR (.I 0) 1),(2009,vR (.agg [.nl,.I 0,.I 0,.nl,.nl,.nl,.nl,.I 0]) 8),(2010,vR (.I a2) 1),(2011,vR (b7.Pv a0) 8)])<|yN<|c9<|a3v (WE [(3,.ptr 2011 0 0),(5,.ptr 2010 0 0),(6,.ptr 2009 0 0),(10,.ptr 2008 0 0),(16,.fn (.func 178) [.ptr 2014 0 0,.ptr 2013 0 0,.ptr 2012 0 0])] [(2012,vR (.I a2) 1),(2013,vR (.L (Ls g8.Pv) a1) 1),(2014,vR (b7.Pv a0) 8),(2008,vR (.I 0) 1),(2009,vR (.agg [.nl,.I 0,.I 0,.nl,.nl,.nl,.nl,.I 0]) 8),(2010,vR (.I a2) 1),(2011,vR (b7.Pv a0) 8)]) ?_
  refine a2h (fn:=Tryz.f178) (N1:=40) J Tryz.func178 J J nl J c9m J J (λl21 e22 o23 hR24=>?_);refine c9<|lq h (λq=>St.of [(1000003,.ptr 2011 0 0),(1000005,.ptr 2010 0 0),(1000006,.ptr 2009 0 0),(1000010,.ptr 2008 0 0),(1000016,.fn (.func 178) [.ptr 2014 0 0,.ptr 2013 0 0,.ptr 2012 0 0]),(0,.fn (.yield l21) []),(1,.ptr 2014 0 0),(2,.ptr 2013 0 0),(3,.ptr 2012 0 0)] [(2012,vR (.I q.1) 1),(2013,vR (.L (Ls g8.Pv) a1) 1),(2014,vR (b7.Pv q.2.1) 8),(2008,vR (.I q.2.2.1) 1),(2009,vR (.agg [.nl,.I 0,.I 0,.nl,.nl,.nl,.nl,.I 0]) 8),(2010,vR (.I q.2.2.2.1) 1),(2011,vR (b7.Pv q.2.2.2.2) 8)]) W λq26 x25 h hx27=>?_;obtain⟨s20,s21,s22,s23,s24⟩:=q26;refine c8<|S3 1 J<|cA h a4z J J λv27 _ h=>S2 1 J ?_;refine cN h (λhc h=>?_) λhc h=>?_
  ·refine b8 ?_;refine c9<|S3 2 J<|cF h a7N J J λv28 _ h=>S2 9 J<|S3 2 J<|cA h b6p J J λv29 _ h=>S2 1 J<|c8<|S4 3 J ?_;refine cN h (λhc h=>?_) λhc h=>?_
   ·refine b6 ?_;refine .inl ⟨J,?_⟩;have h:=xL hx27 h;exact eJ h (WP (λl=>if l=2004 then 2011 else if l=2003 then 2010 else if l=2002 then 2009 else if l=2001 then 2008 else l))
   ·refine b8 ?_;refine S3 2 J<|cF h b6q J J λv30 _ h=>S2 5 J<|S4 4 J<|S3 3 J<|T7 (WE [(1000003,.ptr 2011 0 0),(1000005,.ptr 2010 0 0),(1000006,.ptr 2009 0 0),(1000010,.ptr 2008 0 0),(1000016,.fn (.func 178) [.ptr 2014 0 0,.ptr 2013 0 0,.ptr 2012 0 0]),(0,.fn (.yield l21) []),(1,.ptr 2014 0 0),(2,.ptr 2013 0 0),(3,.ptr 2012 0 0),(35,.fn (.yield l21) []),(36,b7.Pv v30.1),(37,.I (x8 (s20-v29)))] [(2012,vR (.I (x8 (s20-v29))) 1),(2013,vR (.L (Ls g8.Pv) a1) 1),(2014,vR (b7.Pv v30.1) 8),(2008,vR (.I s22) 1),(2009,vR (.agg [.nl,.I 0,.I 0,.nl,.nl,.nl,.nl,.I 0]) 8),(2010,vR (.I s23) 1),(2011,vR (b7.Pv s24) 8)]) ?_;refine a7T hR24 J J J J J J (λe32 o33 o34=>?_);refine S4 2 J<|S6 1 J ?_;refine⟨J,?_⟩;refine c9<|S4 4 J<|S6 3 J ?_;refine⟨J,?_⟩;refine T7 (WE [(1000003,.ptr 2011 0 0),(1000005,.ptr 2010 0 0),(1000006,.ptr 2009 0 0),(1000010,.ptr 2008 0 0),(1000016,.fn (.func 178) [.ptr 2014 0 0,.ptr 2013 0 0,.ptr 2012 0 0]),(0,.fn (.yield l21) []),(1,.ptr 2014 0 0),(2,.ptr 2013 0 0),(3,.ptr 2012 0 0),(38,.bool true)] [(2012,vR (.I (x8 (s20-v29))) 1),(2013,vR (.L (Ls g8.Pv) a1) 1),(2014,vR (b7.Pv v30.1) 8),(2008,vR (.I (x8 (s22+1))) 1),(2009,vR (.agg [.nl,.I 0,.I 0,.nl,.nl,.nl,.nl,.I 0]) 8),(2010,vR (.I (x8 (s20-v29))) 1),(2011,vR (b7.Pv v30.1) 8)])<|S2 1 J ?_;refine J0 false J (λq=>nomatch q) (λ_=>?_);refine b8 ?_;exact eL h W
  ·refine o5 ?_;refine c4<|c4<|k7 ?_;refine .inl ⟨J,?_⟩;have h:=xL hx27 h;exact eJ h (WP (λl=>if l=2004 then 2011 else if l=2003 then 2010 else if l=2002 then 2009 else if l=2001 then 2008 else l))

theorem b8d{a0 a1}:PO Tryz.prog 21 [p6.Pv a0,.L iF a1] (a9v a0 a1) λr=>.tup [p6.Pv r.1,l6.Pv r.2]:=by
 refine pO Tryz.func21 λr h _ _=>?_;refine S4 3 J<|S3 1 J<|cA h b4Y J J λv1 _ h=>S2 6 J<|c8<|S4 2 J ?_;refine cN h (λhc h=>?_) λhc h=>?_
 ·refine S3 2 J ?_;refine y0 J (o8 (cs:=[.I 0,.I v1.2]) J c6z b7V J J J)<|S2 2 J<|b6 ?_;cases h;exact⟨J,[_,_],⟨oL J J J a3C Z3 nl J,⟨oL J J J a5P N4 nl J,tr⟩⟩,J,io⟩
 ·refine b8 ?_;refine S4 1 J<|c8<|S3 1 J<|cF h b30 J J λv2 _ h=>yN<|c9<|sR<|y0 J (b8G (n:=b0y) (d:=.tup [.agg [.I (ifG v2 132 0),.I (ifG v2 132 1),.I (ifG v2 132 2),.I (ifG v2 132 3)],.bool (decide (v2.t=132))]) J c3J c3N J J J)<|S2 2 J ?_;refine cN h (λhc h=>?_) λhc h=>?_
  ·refine S4 2 J ?_;refine S5 4 J<|cF h b0n J J λv3 _ h=>S2 10 J<|dr [1,1008] o9 (by kernel_rfl) (by kernel_rfl)<|S7 1 J<|d7 J (λ_ hN=>a37 (cs:=[.I v3.2.1,.I v3.2.2]) hN J J J J a5P N4 nl J) J<|A3 (x':=.agg [.L b9.Pv v3.1.S.S.a8,.I v3.1.S.S.Last,.I v3.1.S.Serial,.L iF v3.1.Roots,.L g6.Pv v3.1.a8,.L c5.Pv v3.1.T,.L k9.Pv v3.1.Q.L,.I v3.1.Q.Cap,.L (Ls g8.Pv) a0.Progs]) (cl':=true) J J (.inr J) Z3<|A3 (x':=.agg [.I v3.2.1,.I v3.2.2]) (cl':=true) J J (.inl J) N4<|G0<|b6 ?_
   cases h;exact⟨J,[_,_],⟨oL J J J a3C Z3 nl J,⟨oL J J J a5P N4 nl J,tr⟩⟩,J,io⟩
  ·refine sR ?_;refine y0 J (b8G (n:=b0y) (d:=.tup [.agg [],.bool (decide (v2.t=136))]) J c3K c3O J J J)<|S2 2 J ?_;refine cN h (λhc h=>?_) λhc h=>?_
   ·refine S3 1 J ?_;refine d4W J J J c9L<|yN<|S4 2 J<|S3 2 J<|cF h b0H J J λv4 _ h=>S2 8 J<|S6 5 J<|dr [1,1008] o9 (by kernel_rfl) (by kernel_rfl)<|S7 1 J<|d7 J (λ_ hN=>a37 (cs:=[.I (x8 (v4.2.2-v4.2.1)),.I 0]) hN J J J J a5P N4 nl J) J<|A3 (x':=.agg [.L b9.Pv v4.1.S.S.a8,.I v4.1.S.S.Last,.I v4.1.S.Serial,.L iF v4.1.Roots,.L g6.Pv v4.1.a8,.L c5.Pv v4.1.T,.L k9.Pv v4.1.Q.L,.I v4.1.Q.Cap,.L (Ls g8.Pv) a0.Progs]) (cl':=true) J J (.inr J) Z3<|A3 (x':=.agg [.I (x8 (v4.2.2-v4.2.1)),.I 0]) (cl':=true) J J (.inl J) N4<|G0<|b6 ?_
    cases h;exact⟨J,[_,_],⟨oL J J J a3C Z3 nl J,⟨oL J J J a5P N4 nl J,tr⟩⟩,J,io⟩
   ·refine sR ?_;refine y0 J (b8G (n:=b0y) (d:=.tup [.agg [.I (ifG v2 140 0)],.bool (decide (v2.t=140))]) J c3L c3P J J J)<|S2 2 J ?_;refine cN h (λhc h=>?_) λhc h=>?_
    ·refine S4 2 J ?_;refine S5 6 J<|cF h b42 J J λv5 _ h=>S2 11 J<|dr [1,1008] o9 (by kernel_rfl) (by kernel_rfl)<|S7 1 J<|d7 J (λ_ hN=>a37 (cs:=[.I v5.2.1,.I v5.2.2.2]) hN J J J J a5P N4 nl J) J<|A3 (x':=.agg [.L b9.Pv v5.1.S.S.a8,.I v5.1.S.S.Last,.I v5.1.S.Serial,.L iF v5.1.Roots,.L g6.Pv v5.1.a8,.L c5.Pv v5.1.T,.L k9.Pv v5.1.Q.L,.I v5.1.Q.Cap,.L (Ls g8.Pv) a0.Progs]) (cl':=true) J J (.inr J) Z3<|A3 (x':=.agg [.I v5.2.1,.I v5.2.2.2]) (cl':=true) J J (.inl J) N4<|G0<|b6 ?_
     cases h;exact⟨J,[_,_],⟨oL J J J a3C Z3 nl J,⟨oL J J J a5P N4 nl J,tr⟩⟩,J,io⟩
    ·refine b8 ?_;refine dr [1,1008] o9 (by kernel_rfl) (by kernel_rfl)<|S7 1 J<|d7 J (λ_ hN=>a37 (cs:=[.I 0,.I 0]) hN J J J J a5P N4 nl J) J<|A3 (x':=p6.Pv a0) (cl':=true) J J (.inr J) Z3<|A3 (x':=.agg [.I 0,.I 0]) (cl':=true) J J (.inl J) N4<|G0<|b6 ?_
     cases h;exact⟨J,[_,_],⟨oL J J J a3C Z3 nl J,⟨oL J J J a5P N4 nl J,tr⟩⟩,J,io⟩

theorem b0j{a0 a1}:PO Tryz.prog 32 [p6.Pv a0,.L (Ls iF) a1] (a2I a0 a1) λr=>.tup [p6.Pv r.1,.L l6.Pv r.2]:=by
 refine pO Tryz.func32 λr h _ _=>?_;refine S4 3 J<|S4 1 J ?_;refine jq h (λq=>St.of [(2,.ptr 2 0 0),(4,.ptr 4 0 0),(6,.sl 910006)] [(910006,⟨List.map l6.Pv q.2,(List.map l6.Pv q.2).length,true,2,true⟩),(4,vR (.agg [.nl,.I 0,.I 0,.nl,.nl,.nl,.nl,.I 0,.nl]) 9),(2,vR (p6.Pv q.1) 9)]) (λq13 h=>?_) λκ10 h=>?_
 ·obtain⟨j11,j12⟩:=q13;refine S4 4 J<|b6 ?_;cases h;exact⟨J,[_,_],⟨oL J J J a3C Z3 nl J,⟨J,tr⟩⟩,J,io⟩
 ·refine S3 1 J ?_;refine nL J a8n<|S2 1 J<|c9<|lq h (λq=>St.of [(2,.ptr 2 0 0),(4,.ptr 4 0 0),(6,.sl 910006),(10,.L (Ls iF) a1),(11,.I (a1.length:Int)),(12,.I q.1)] [(4,vR (.agg [.nl,.I 0,.I 0,.nl,.nl,.nl,.nl,.I 0,.nl]) 9),(2,vR (p6.Pv q.2.1) 9),(910006,⟨List.map l6.Pv q.2.2,(List.map l6.Pv q.2.2).length,true,2,true⟩)]) (Wk.trans (C9 (t:=6) (l:=920006) (z:=2) J J) (WP (λl=>if l=910006 then 920006 else l))) λq19 x18 h hx10=>?_
  obtain⟨s15,s16,s17⟩:=q19;refine S4 1 J<|c8 ?_;refine cN h (λhc h=>?_) λhc h=>?_
  ·refine b8 ?_;refine c8<|c9<|sR<|iL h J J a8n a8p λv20 _ h=>S2 2 J<|S4 1 J<|S3 2 J<|cF h b8d J J λv21 _ h=>S2 5 J<|S5 2 J<|y0 J (G1 (f:=l6.Pv) (l:=[v21.2]) J a2D N4 b7V J J nl J J)<|r9 h λv22 hv13 h=>H5 J (F1 (f:=l6.Pv) hv13 J J J J J J (.inl ⟨_,J,J⟩) a2D N4 d2s b7V J (λ_=>J)) J J J<|S2 1 J<|S6 2 J ?_;exact eL h (Wk.trans (n0 _ [25]) (WP (λl=>if l=910006 then 25 else l)))
  ·refine o5 ?_;refine c4<|c4<|k7 ?_;have h:=xL hx10 h;exact eJ h (Wk.trans (n0 _ [910006]) W)

theorem a6M{a0}:PO Tryz.prog 65 [e6.Pv a0] (R3 a0) λr=>A4.Pv r:=by
 refine pO Tryz.func65 λr h _ _=>?_;refine S4 2 J<|S4 1 J ?_;refine jq h (λj9=>St.of [(2,.ptr 2 0 0),(3,.ptr 3 0 0)] [(3,vR (A4.Pv j9) 4),(2,vR (.agg [.I 0,.I 0,.I 0,.I 0]) 4)]) (λj9 h=>?_) λκ8 h=>?_
 ·refine S4 2 J ?_;refine b6 ?_;cases h;exact⟨J,[_],⟨oL J J J c6q c6C nl J,tr⟩,J,io⟩
 ·refine S3 2 J ?_;refine nL J N3<|S2 1 J<|c9<|lq h (λq=>St.of [(2,.ptr 2 0 0),(3,.ptr 3 0 0),(7,.L b9.Pv a0.a8),(8,.I (a0.a8.length:Int)),(9,.I q.1)] [(3,vR (A4.Pv q.2) 4),(2,vR (.agg [.I 0,.I 0,.I 0,.I 0]) 4)]) W λq14 x13 h hx9=>?_;obtain⟨s11,s12⟩:=q14;refine S4 1 J<|c8 ?_;refine cN h (λhc h=>?_) λhc h=>?_
  ·refine b8 ?_;refine c8<|c9<|sR<|iL h J J N3 Q0 λv15 _ h=>S2 3 J<|S5 2 J<|r9 h λv16 hv11 h=>y0 J (d1X hv11 J J c6A m7)<|y0 J (oS J J J C5 (A4.get hv11))<|S1 1 J<|y0 J (d1X hv11 J J c6A m7)<|d6G hv11 J J (.inl J) J m7<|yN<|S6 2 J ?_;exact eL h W
  ·refine o5 ?_;refine c4<|c4<|k7 ?_;have h:=xL hx9 h;exact eJ h W

theorem b3Z{a0}:PO Tryz.prog 24 [p6.Pv a0] (a32 a0) λr=>A4.Pv r:=by
 refine pO Tryz.func24 λr h _ _=>?_;refine S4 2 J<|S3 4 J<|cA h a6M J J λv1 _ h=>S2 1 J<|b6 ?_;cases h;exact⟨J,[_],⟨oL J J J c6q c6C nl J,tr⟩,J,io⟩

theorem b2L{a0}:PO Tryz.prog 73 [b7.Pv a0] (a28 a0) λr=>.bool r:=by
 refine pO Tryz.func73 λr h _ _=>?_;refine S4 2 J<|S3 1 J<|cF h a1s J J λv1 _ h=>nL J g7<|S2 2 J<|b6 ?_;cases h;exact f1

theorem b3Y{a0}:PO Tryz.prog 29 [p6.Pv a0] (a31 a0) λr=>.bool r:=by
 refine pO Tryz.func29 λr h _ _=>?_;refine S4 2 J<|S3 2 J<|cA h a4z J J λv1 _ h=>S1 1 J<|l4 J (λhg=>oF J b9X J)<|l4 J (λhg=>oL (ct hg) J J u9 p9 nl J)<|r9 h λv2 hv2 h=>l4 J (λhg=>D4 J b2L (D8 (ct hg) J) (G8 hv2 hg))<|y0 J (z7 J J J (λq=>eqT q))<|S2 1 J<|b6 ?_;cases h;exact f1

theorem b3X{a0}:PO Tryz.prog 27 [p6.Pv a0] (a30 a0) λr=>.L iF r:=by
 refine pO Tryz.func27 λr h _ _=>?_;refine S4 2 J<|S4 1 J ?_;refine jq h (λj11=>St.of [(3,.sl 910003)] [(910003,⟨List.map iF j11,0,true,1,true⟩)]) (λj11 h=>?_) λκ10 h=>?_
 ·refine S3 1 J ?_;obtain⟨v12,hv9,h⟩:=a8s h;refine d1w hv9 J J d2t d1e J J<|yN<|S4 2 J<|b6 ?_;cases h;exact f1
 ·refine S3 3 J ?_;refine cF h L6 J J λv13 _ h=>nL J g7<|S2 1 J<|c9<|lq h (λq=>St.of [(1,.ptr 1 0 0),(3,.sl 910003),(9,.L iF v13),(10,.I (v13.length:Int)),(11,.I q.1)] [(1,vR (p6.Pv a0) 9),(910003,⟨List.map iF q.2,0,true,1,true⟩)]) (Wk.trans (C9 (t:=3) (l:=920003) (z:=1) J J) (WP (λl=>if l=910003 then 920003 else l))) λq18 x17 h hx13=>?_
  obtain⟨s15,s16⟩:=q18;refine S4 1 J<|c8 ?_;refine cN h (λhc h=>?_) λhc h=>?_
  ·refine b8 ?_;refine c8<|c9<|sR<|iL h J J g7 m7 λv19 _ h=>S2 2 J<|S5 4 J<|cA h a5v J J λv20 _ h=>y0 J (G1 (f:=iF) (l:=[v20]) J g7 m7 y6 J J nl J J)<|r9 h λv21 hv16 h=>d2m (f:=iF) (b:=8) [(1,.ptr 1 0 0),(9,.L iF v13),(10,.I (v13.length:Int)),(11,.I s15),(12,.bool (decide (s15<(v13.length:Int)))),(13,.rptr [.I v19]),(14,.I v19),(5,.I v19),(16,.ptr 1 0 0),(17,b7.Pv a0.X),(18,.I v19),(19,.I v20),(20,.lst true (List.map iF [v20]))] [(1,vR (p6.Pv a0) 9)] J hv16 ⟨J,J,J,J,J,J,J,J,J,J,J,J,J,J,J,J,J,J,J,J,J,J,J,J,J,J,J,J,J,J,J,J,J,J,J,J,J,J,J,tr⟩ ⟨rS,tr⟩ J J J J (.inl ⟨_,J,J⟩) g7 m7 F9 y6 J (λ_=>J)<|S2 1 J<|S6 2 J ?_;exact eL h (WP (λl=>if l=910003 then 21 else l))
  ·refine o5 ?_;refine c4<|c4<|k7 ?_;have h:=xL hx13 h;exact eJ h W

theorem b2D:PO Tryz.prog 11 [] (a20) λr=>.bool r:=by
 refine pO Tryz.func11 λr h _ _=>?_;refine S4 1 J<|sR<|cF h a29 J J λv1 _ h=>S2 6 J<|S3 1 J<|y0 J (G1 (f:=iF) (l:=[1,0,1,(-1)]) J g7 m7 y6 J J nl J J)<|y0 J (G1 (f:=iF) (l:=[5,0,0,0]) J g7 m7 y6 J J nl J J)<|y0 J (G1 (f:=iF) (l:=[3,0,0,0]) J g7 m7 y6 J J nl J J)<|y0 J (G1 (f:=iF) (l:=[11,0,0,0]) J g7 m7 y6 J J nl J J)<|y0 J (G1 (f:=iF) (l:=[11,0,0,0]) J g7 m7 y6 J J nl J J)<|y0 J (G1 (f:=iF) (l:=[12,9,0,0]) J g7 m7 y6 J J nl J J)<|y0 J (G1 (f:=iF) (l:=[2,0]) J g7 m7 y6 J J nl J J)<|y0 J (G1 (f:=iF) (l:=[4,0,1,0]) J g7 m7 y6 J J nl J J)<|y0 J (G1 (f:=(Ls iF)) (l:=[[1,0,1,(-1)],[5,0,0,0],[3,0,0,0],[11,0,0,0],[11,0,0,0],[12,9,0,0],[2,0],[4,0,1,0]]) J a8n a8p d2A J J nl J J)<|cF h b0j J J λv2 _ h=>S2 6 J<|sR<|y0 J (o8 (cs:=[.I 11,.I 0,.I 0,.I 0]) J b4c b09 J J J)<|y0 J (G1 (f:=g8.Pv) (l:=[(⟨11,0,0,0⟩:g8)]) J a21 a3X b09 J J nl J J)<|y0 J (G1 (f:=(Ls g8.Pv)) (l:=[[(⟨11,0,0,0⟩:g8)]]) J a3D a9n c9N J J nl J J)<|cF h a29 J J λv3 _ h=>S2 6 J<|sR<|cF h a29 J J λv4 _ h=>S2 6 J<|S3 3 J<|l4 J (λhg=>mI J)<|l4 J (λhg=>y5 (ct hg) J J)<|y0 J (z7 J J J (λq=>eqT q))<|S1 1 J ?_;refine l4 J (λhg=>mI J)<|l4 J (λhg=>y5 (ct hg) J J)<|y0 J (z7 J J J (λq=>eqT q))<|S1 1 J<|l4 J (λhg=>om (d:=.L l6.Pv v2.2) J)<|l4 J (λhg=>T8 (f:=l6.Pv) (ct hg) a2D)<|l4 J (λhg=>y5 (ct hg) J J)<|y0 J (z7 J J J (λq=>eqT q))<|S1 1 J<|l4 J (λhg=>om (d:=.L l6.Pv v2.2) J)<|r9 h λv5 hv5 h=>l4 J (λhg=>u7 (f:=l6.Pv) (cs:=l6.Pc v5) (G8 hv5 hg) (ct hg) J a2D N4 J J)<|l4 J (λhg=>A5 (ct hg) a8o J)<|l4 J (λhg=>F6 (ct hg) C5 J)<|l4 J (λhg=>y5 (ct hg) J J)<|y0 J (z7 J J J (λq=>eqT q))<|S1 1 J<|l4 J (λhg=>om (d:=.L l6.Pv v2.2) J)<|r9 h λv6 hv6 h=>l4 J (λhg=>u7 (f:=l6.Pv) (cs:=l6.Pc v6) (G8 hv6 hg) (ct hg) J a2D N4 J J)<|l4 J (λhg=>A5 (ct hg) a8o J)<|l4 J (λhg=>F6 (ct hg) C5 J)<|l4 J (λhg=>y5 (ct hg) J J)<|y0 J (z7 J J J (λq=>eqT q))<|S1 1 J<|l4 J (λhg=>om (d:=.L l6.Pv v2.2) J)<|r9 h λv7 hv7 h=>l4 J (λhg=>u7 (f:=l6.Pv) (cs:=l6.Pc v7) (G8 hv7 hg) (ct hg) J a2D N4 J J)<|l4 J (λhg=>A5 (ct hg) a8o J)<|l4 J (λhg=>F6 (ct hg) C5 J)<|l4 J (λhg=>y5 (ct hg) J J)<|y0 J (z7 J J J (λq=>eqT q))<|S1 1 J<|l4 J (λhg=>om (d:=.L l6.Pv v2.2) J)<|r9 h λv8 hv8 h=>l4 J (λhg=>u7 (f:=l6.Pv) (cs:=l6.Pc v8) (G8 hv8 hg) (ct hg) J a2D N4 J J)<|l4 J (λhg=>A5 (ct hg) a8o J)<|l4 J (λhg=>F6 (ct hg) C5 J)<|l4 J (λhg=>y5 (ct hg) J J)<|y0 J (z7 J J J (λq=>eqT q))<|S1 1 J<|l4 J (λhg=>om (d:=.L l6.Pv v2.2) J)<|r9 h λv9 hv9 h=>l4 J (λhg=>u7 (f:=l6.Pv) (cs:=l6.Pc v9) (G8 hv9 hg) (ct hg) J a2D N4 J J)<|l4 J (λhg=>A5 (ct hg) a8o J)<|l4 J (λhg=>F6 (ct hg) C5 J)<|l4 J (λhg=>y5 (ct hg) J J)<|y0 J (z7 J J J (λq=>eqT q))<|S1 1 J<|l4 J (λhg=>om (d:=.L l6.Pv v2.2) J)<|r9 h λv10 hv10 h=>l4 J (λhg=>u7 (f:=l6.Pv) (cs:=l6.Pc v10) (G8 hv10 hg) (ct hg) J a2D N4 J J)<|l4 J (λhg=>a8L (ct hg) a5P N4 nl J)<|l4 J (λhg=>o8 (cs:=[.I 0,.I 0]) J c6z b7V J J J)<|l4 J (λhg=>d1V (xs:=l6.Pc v10) (ys:=[.I 0,.I 0]) d2x (ct hg) (ct hg) J)<|y0 J (z7 J J J (λq=>eqT q))<|S1 1 J<|l4 J (λhg=>om (d:=.L l6.Pv v2.2) J)<|r9 h λv11 hv11 h=>l4 J (λhg=>u7 (f:=l6.Pv) (cs:=l6.Pc v11) (G8 hv11 hg) (ct hg) J a2D N4 J J)<|l4 J (λhg=>A5 (ct hg) b92 J)<|l4 J (λhg=>F6 (ct hg) b0x J)<|l4 J (λhg=>y5 (ct hg) J J)<|y0 J (z7 J J J (λq=>eqT q))<|S1 1 J<|l4 J (λhg=>om (d:=.L l6.Pv v2.2) J)<|r9 h λv12 hv12 h=>l4 J (λhg=>u7 (f:=l6.Pv) (cs:=l6.Pc v12) (G8 hv12 hg) (ct hg) J a2D N4 J J)<|l4 J (λhg=>A5 (ct hg) b92 J)<|l4 J (λhg=>F6 (ct hg) b0x J)<|l4 J (λhg=>y5 (ct hg) J J)<|y0 J (z7 J J J (λq=>eqT q))<|S1 1 J<|l4 J (λhg=>oL J J J a3C Z3 nl J)<|r9 h λv13 hv13 h=>l4 J (λhg=>D4 J b3Z (D8 (ct hg) J) (G8 hv13 hg))<|l4 J (λhg=>o8 (cs:=[.I 4,.I 0,.I 0,.I 0]) J d2w d2D J J J)<|l4 J (λhg=>d1V (xs:=A4.Pc v13) (ys:=[.I 4,.I 0,.I 0,.I 0]) d2z (ct hg) (ct hg) J)<|y0 J (z7 J J J (λq=>eqT q))<|S1 1 J<|l4 J (λhg=>oL J J J a3C Z3 nl J)<|r9 h λv14 hv14 h=>l4 J (λhg=>D4 J b3Y (D8 (ct hg) J) (G8 hv14 hg))<|y0 J (z7 J J J (λq=>eqT q))<|S1 1 J<|l4 J (λhg=>oL J J J a3C Z3 nl J)<|r9 h λv15 hv15 h=>d6E J (λhg=>u6 J b3X (D8 (ct hg) J) (G8 hv15 hg))<|l4 J (λhg=>T8 (f:=iF) (ct hg) g7)<|l4 J (λhg=>y5 (ct hg) J J)<|y0 J (z7 J J J (λq=>eqT q))<|S2 1 J<|b6 ?_;cases h;exact f1

theorem c3m{a0}:PO Tryz.prog 99 [m9.Pv a0] (b4J a0) λr=>C6.Pv r:=by
 refine pO Tryz.func99 λr h _ _=>?_;unfold b4J at h;refine S4 2 J<|S3 12 J<|y0 J (o8 (cs:=[.I a0.Serial,.I a0.Strong,.I a0.Weak,.I a0.Prog,.bool a0.Started,.L iF a0.Fields]) J b7R b7W J J J)<|S2 1 J<|b6 ?_;cases h;exact⟨J,[_],⟨oL J J J b4M a6Z nl J,tr⟩,J,io⟩

theorem c3l{a0}:PO Tryz.prog 50 [a7.Pv a0] (b4I a0) λr=>k8.Pv r:=by
 refine pO Tryz.func50 λr h _ _=>?_;refine S4 2 J<|sR<|y0 J (A2 J H6 H2)<|S2 1 J ?_;refine jq h (λj10=>St.of [(1,.ptr 1 0 0),(2,.ptr 2 0 0),(3,.sl 910003)] [(910003,⟨List.map n8.Pv j10,(List.map n8.Pv j10).length,true,8,true⟩),(2,vR (.agg [.nl,.I 0,.I 0]) 3),(1,vR (a7.Pv a0) 3)]) (λj10 h=>?_) λκ9 h=>?_
 ·refine S3 6 J ?_;refine y0 J (o8 (cs:=[.sl 910003,.I a0.S.Last,.I a0.Serial]) J c1Z c12 J J J)<|S2 1 J<|b6 ?_;cases h;exact⟨J,[_],⟨oL J J J a0l Z4 nl J,tr⟩,J,io⟩
 ·refine S4 1 J ?_;refine c9<|lq h (λq=>St.of [(1,.ptr 1 0 0),(2,.ptr 2 0 0),(3,.sl 910003),(4,.I q.1)] [(2,vR (.agg [.nl,.I 0,.I 0]) 3),(1,vR (a7.Pv a0) 3),(910003,⟨List.map n8.Pv q.2,(List.map n8.Pv q.2).length,true,8,true⟩)]) (Wk.trans (C9 (t:=3) (l:=920003) (z:=8) J J) (WP (λl=>if l=910003 then 920003 else l))) λq15 x14 h hx10=>?_
  obtain⟨s12,s13⟩:=q15;refine c8<|S3 4 J<|nL J N3<|S2 1 J ?_;refine cN h (λhc h=>?_) λhc h=>?_
  ·refine b8 ?_;refine c8<|c9<|S3 4 J<|iL h J J N3 Q0 λv16 _ h=>S2 3 J<|a1A [] o9 (by kernel_rfl) (by kernel_rfl)<|S7 7 J<|r9 h λv17 hv12 h=>d2f J (u6 J c3m J hv12) J<|d7 J (λ_ hN=>o8 (cs:=[.I v16.State,.I v16.Gen,.I v17.Serial,.I v17.Strong,.I v17.Weak,.I v17.Prog,.bool v17.Started,.L iF v17.Fields]) J c3F a60 J J J) J<|d1n J (G1 (f:=n8.Pv) (l:=[(⟨v16.State,v16.Gen,v17⟩:n8)]) J H6 H2 a60 J J nl J J) J<|r9 h λv18 hv13 h=>d3a J (F1 (f:=n8.Pv) hv13 J J J J J J (.inl ⟨_,J,J⟩) H6 H2 b7J a60 J (λ_=>J)) J J J J J<|S8 1 J<|S6 3 J ?_
   exact eL h (Wk.trans (n0 _ [31]) (WP (λl=>if l=910003 then 31 else l)))
  ·refine o5 ?_;refine c4<|c4<|k7 ?_;have h:=xL hx10 h;exact eJ h (Wk.trans (n0 _ [910003]) W)

theorem b9B{a0}:PO Tryz.prog 51 [.L g6.Pv a0] (a9W a0) λr=>.L m8.Pv r:=by
 refine pO Tryz.func51 λr h _ _=>?_;refine S4 1 J<|sR<|y0 J (A2 J P1 Q1)<|S2 1 J ?_;refine jq h (λj9=>St.of [(3,.sl 910003)] [(910003,⟨List.map m8.Pv j9,(List.map m8.Pv j9).length,true,3,true⟩)]) (λj9 h=>?_) λκ8 h=>?_
 ·refine S4 2 J ?_;refine b6 ?_;cases h;exact f1
 ·refine S4 1 J ?_;refine c9<|lq h (λq=>St.of [(0,.L g6.Pv a0),(3,.sl 910003),(4,.I q.1)] [(910003,⟨List.map m8.Pv q.2,(List.map m8.Pv q.2).length,true,3,true⟩)]) (Wk.trans (C9 (t:=3) (l:=920003) (z:=3) J J) (WP (λl=>if l=910003 then 920003 else l))) λq14 x13 h hx9=>?_
  obtain⟨s11,s12⟩:=q14;refine c8<|S3 2 J<|nL J R7<|S2 1 J ?_;refine cN h (λhc h=>?_) λhc h=>?_
  ·refine b8 ?_;refine c8<|c9<|S5 3 J<|iL h J J R7 W4 λv15 _ h=>S1 1 J<|y0 J (G1 (f:=m8.Pv) (l:=[(⟨v15.Target,v15.Intact,v15.Call⟩:m8)]) J P1 Q1 a9p J J nl J J)<|r9 h λv16 hv11 h=>H5 J (F1 (f:=m8.Pv) hv11 J J J J J J (.inl ⟨_,J,J⟩) P1 Q1 b7K a9p J (λ_=>J)) J J J<|S2 1 J<|S6 3 J ?_;exact eL h (Wk.trans (n0 _ [18]) (WP (λl=>if l=910003 then 18 else l)))
  ·refine o5 ?_;refine c4<|c4<|k7 ?_;have h:=xL hx9 h;exact eJ h (Wk.trans (n0 _ [910003]) W)

theorem c3n{a0}:PO Tryz.prog 52 [.L c5.Pv a0] (b4K a0) λr=>.L g9.Pv r:=by
 refine pO Tryz.func52 λr h _ _=>?_;refine S4 1 J<|sR<|y0 J (A2 J R8 T9)<|S2 1 J ?_;refine jq h (λj9=>St.of [(3,.sl 910003)] [(910003,⟨List.map g9.Pv j9,(List.map g9.Pv j9).length,true,3,true⟩)]) (λj9 h=>?_) λκ8 h=>?_
 ·refine S4 2 J ?_;refine b6 ?_;cases h;exact f1
 ·refine S4 1 J ?_;refine c9<|lq h (λq=>St.of [(0,.L c5.Pv a0),(3,.sl 910003),(4,.I q.1)] [(910003,⟨List.map g9.Pv q.2,(List.map g9.Pv q.2).length,true,3,true⟩)]) (Wk.trans (C9 (t:=3) (l:=920003) (z:=3) J J) (WP (λl=>if l=910003 then 920003 else l))) λq14 x13 h hx9=>?_
  obtain⟨s11,s12⟩:=q14;refine c8<|S3 2 J<|nL J Z2<|S2 1 J ?_;refine cN h (λhc h=>?_) λhc h=>?_
  ·refine b8 ?_;refine c8<|c9<|S5 3 J<|iL h J J Z2 a0J λv15 _ h=>S1 1 J<|y0 J (G1 (f:=g9.Pv) (l:=[(⟨v15.State,v15.Key,v15.Val⟩:g9)]) J R8 T9 a9q J J nl J J)<|r9 h λv16 hv11 h=>H5 J (F1 (f:=g9.Pv) hv11 J J J J J J (.inl ⟨_,J,J⟩) R8 T9 c3w a9q J (λ_=>J)) J J J<|S2 1 J<|S6 3 J ?_;exact eL h (Wk.trans (n0 _ [18]) (WP (λl=>if l=910003 then 18 else l)))
  ·refine o5 ?_;refine c4<|c4<|k7 ?_;have h:=xL hx9 h;exact eJ h (Wk.trans (n0 _ [910003]) W)

theorem b9F{a0}:PO Tryz.prog 53 [g5.Pv a0] (a9Z a0) λr=>w7.Pv r:=by
 refine pO Tryz.func53 λr h _ _=>?_;refine S4 2 J<|sR<|y0 J (A2 J R9 H3)<|S2 1 J ?_;refine jq h (λj9=>St.of [(1,.ptr 1 0 0),(2,.ptr 2 0 0),(3,.sl 910003)] [(910003,⟨List.map o6.Pv j9,(List.map o6.Pv j9).length,true,3,true⟩),(2,vR (.agg [.nl,.I 0]) 2),(1,vR (g5.Pv a0) 2)]) (λj9 h=>?_) λκ8 h=>?_
 ·refine S3 3 J ?_;refine y0 J (o8 (cs:=[.sl 910003,.I a0.Cap]) J c10 c13 J J J)<|S2 1 J<|b6 ?_;cases h;exact⟨J,[_],⟨oL J J J a8m a4w nl J,tr⟩,J,io⟩
 ·refine S4 1 J ?_;refine c9<|lq h (λq=>St.of [(1,.ptr 1 0 0),(2,.ptr 2 0 0),(3,.sl 910003),(4,.I q.1)] [(2,vR (.agg [.nl,.I 0]) 2),(1,vR (g5.Pv a0) 2),(910003,⟨List.map o6.Pv q.2,(List.map o6.Pv q.2).length,true,3,true⟩)]) (Wk.trans (C9 (t:=3) (l:=920003) (z:=3) J J) (WP (λl=>if l=910003 then 920003 else l))) λq14 x13 h hx9=>?_
  obtain⟨s11,s12⟩:=q14;refine c8<|S3 3 J<|nL J a4u<|S2 1 J ?_;refine cN h (λhc h=>?_) λhc h=>?_
  ·refine b8 ?_;refine c8<|c9<|S5 4 J<|iL h J J a4u K8 λv15 _ h=>S1 1 J<|y0 J (G1 (f:=o6.Pv) (l:=[(⟨v15.Kind,v15.At,v15.Prog⟩:o6)]) J R9 H3 a3Y J J nl J J)<|r9 h λv16 hv11 h=>H5 J (F1 (f:=o6.Pv) hv11 J J J J J J (.inl ⟨_,J,J⟩) R9 H3 b7L a3Y J (λ_=>J)) J J J<|S2 1 J<|S6 3 J ?_;exact eL h (Wk.trans (n0 _ [20]) (WP (λl=>if l=910003 then 20 else l)))
  ·refine o5 ?_;refine c4<|c4<|k7 ?_;have h:=xL hx9 h;exact eJ h (Wk.trans (n0 _ [910003]) W)

theorem b3P{a0}:PO Tryz.prog 17 [b7.Pv a0] (a40 a0) λr=>c7.Pv r:=by
 refine pO Tryz.func17 λr h _ _=>?_;unfold a40 at h;refine S4 2 J<|dr [] o9 (by kernel_rfl) (by kernel_rfl)<|S7 2 J<|r9 h λv1 hv1 h=>d2f J (u6 J c3l J hv1) J<|S7 4 J<|r9 h λv2 hv2 h=>d2f J (u6 J b9B J hv2) J<|S7 2 J<|r9 h λv3 hv3 h=>d2f J (u6 J c3n J hv3) J<|S7 2 J<|r9 h λv4 hv4 h=>d2f J (u6 J b9F J hv4) J<|d7 J (λ_ hN=>o8 (cs:=[.L n8.Pv v1.a8,.I v1.Last,.I v1.Serial,.L iF a0.Roots,.L m8.Pv v2,.L g9.Pv v3,.L o6.Pv v4.L,.I v4.Cap]) J d2v d2C J J J) J<|A3 (x':=.agg [.L n8.Pv v1.a8,.I v1.Last,.I v1.Serial,.L iF a0.Roots,.L m8.Pv v2,.L g9.Pv v3,.L o6.Pv v4.L,.I v4.Cap]) (cl':=true) J J (.inr J) u5<|G0<|b6 ?_
 cases h;exact⟨J,[_],⟨oL J J J A6 u5 nl J,tr⟩,J,io⟩

theorem b9C{a0}:PO Tryz.prog 14 [.L (Ls g8.Pv) a0] (a9X a0) λr=>.L (Ls r8.Pv) r:=by
 refine pO Tryz.func14 λr h _ _=>?_;refine S4 1 J<|sR<|y0 J (A2 J b4N b4f)<|S2 1 J ?_;refine jq h (λj47=>St.of [(3,.sl 910003)] [(910003,⟨List.map (Ls r8.Pv) j47,(List.map (Ls r8.Pv) j47).length,true,1,true⟩)]) (λj47 h=>?_) λκ46 h=>?_
 ·refine S4 2 J ?_;refine b6 ?_;cases h;exact f1
 ·refine S4 1 J ?_;refine c9<|lq h (λq=>St.of [(0,.L (Ls g8.Pv) a0),(3,.sl 910003),(4,.I q.1)] [(910003,⟨List.map (Ls r8.Pv) q.2,(List.map (Ls r8.Pv) q.2).length,true,1,true⟩)]) (Wk.trans (C9 (t:=3) (l:=920003) (z:=1) J J) (WP (λl=>if l=910003 then 920003 else l))) λq52 x51 h hx36=>?_
  obtain⟨s49,s50⟩:=q52;refine c8<|S3 2 J<|nL J a3D<|S2 1 J ?_;refine cN h (λhc h=>?_) λhc h=>?_
  ·refine b8 ?_;refine jq h (λj73=>St.of [(0,.L (Ls g8.Pv) a0),(3,.sl 37),(4,.I s49)] [(37,⟨List.map (Ls r8.Pv) j73,s50.length,true,1,true⟩)]) (λj73 h=>?_) λκ72 h=>?_
   ·refine S6 3 J ?_;exact eL h (Wk.trans (n0 _ [37]) (WP (λl=>if l=910003 then 37 else l)))
   ·refine c9 ?_;refine sR<|y0 J (A2 J a9l a5d)<|S2 1 J ?_;refine jq h (λj83=>St.of [(0,.L (Ls g8.Pv) a0),(3,.sl 910003),(4,.I s49),(5,.sl 910005)] [(910005,⟨List.map r8.Pv j83,(List.map r8.Pv j83).length,true,4,true⟩),(910003,⟨List.map (Ls r8.Pv) s50,(List.map (Ls r8.Pv) s50).length,true,1,true⟩)]) (λj83 h=>?_) λκ82 h=>?_
    ·refine S5 2 J ?_;refine T7 (d6y 35 J)<|y0 J (G1 (f:=(Ls r8.Pv)) (l:=[j83]) J b4N b4f c3M J J nl J J)<|r9 h λv84 hv59 h=>H5 J (F1 (f:=(Ls r8.Pv)) hv59 J J J J J J (.inl ⟨_,J,J⟩) b4N b4f c9g c3M J (λ_=>J)) J J J<|S2 1 J ?_;exact eJ h W
    ·refine S4 1 J ?_;refine c9<|lq h (λq=>St.of [(0,.L (Ls g8.Pv) a0),(3,.sl 910003),(4,.I s49),(5,.sl 910005),(6,.I q.1)] [(910003,⟨List.map (Ls r8.Pv) s50,(List.map (Ls r8.Pv) s50).length,true,1,true⟩),(910005,⟨List.map r8.Pv q.2,(List.map r8.Pv q.2).length,true,4,true⟩)]) (Wk.trans (C9 (t:=5) (l:=920005) (z:=4) J J) (Wk.trans (n0 _ [910003]) (WP (λl=>if l=910005 then 920005 else l)))) λq89 x88 h hx62=>?_
     obtain⟨s86,s87⟩:=q89;refine c8<|S3 3 J<|iL h J J a3D a9n λv90 hv63 h=>S1 1 J<|nL J a21<|S2 1 J ?_;refine cN h (λhc h=>?_) λhc h=>?_
     ·refine b8 ?_;refine c8<|c9<|S5 3 J<|y0 J (u7 (f:=(Ls g8.Pv)) (cs:=[.L g8.Pv v90]) hv63 J J a3D a9n J J)<|S1 2 J<|iL h J J a21 a3X λv91 _ h=>S1 1 J<|y0 J (G1 (f:=r8.Pv) (l:=[(⟨v91.Kind,v91.A,v91.B,v91.C⟩:r8)]) J a9l a5d b08 J J nl J J)<|r9 h λv92 hv65 h=>H5 J (F1 (f:=r8.Pv) hv65 J J J J J J (.inl ⟨_,J,J⟩) a9l a5d c9f b08 J (λ_=>J)) J J J<|S2 1 J<|S6 3 J ?_;exact eL h (Wk.trans (n0 _ [910003,33]) (WP (λl=>if l=910005 then 33 else l)))
     ·refine o5 ?_;refine c4<|c4<|k7 ?_;have h:=xL hx62 h;exact eJ h (Wk.trans (n0 _ [910003,910005]) W)
  ·refine o5 ?_;refine c4<|c4<|k7 ?_;have h:=xL hx36 h;exact eJ h (Wk.trans (n0 _ [910003]) W)

theorem c1H{a0}:PO Tryz.prog 23 [p6.Pv a0] (a9i a0) λr=>w8.Pv r:=by
 refine pO Tryz.func23 λr h _ _=>?_;unfold a9i at h;refine S4 2 J<|dr [] o9 (by kernel_rfl) (by kernel_rfl)<|S7 2 J<|r9 h λv1 hv1 h=>d2f J (u6 J b3P J hv1) J<|S7 2 J<|r9 h λv2 hv2 h=>d2f J (u6 J b9C J hv2) J<|d7 J (λ_ hN=>o8 (cs:=[.L n8.Pv v1.S.a8,.I v1.S.Last,.I v1.S.Serial,.L iF v1.Roots,.L m8.Pv v1.a8,.L g9.Pv v1.T,.L o6.Pv v1.Q.L,.I v1.Q.Cap,.L (Ls r8.Pv) v2]) J b7P b7U J J J) J<|A3 (x':=.agg [.L n8.Pv v1.S.a8,.I v1.S.Last,.I v1.S.Serial,.L iF v1.Roots,.L m8.Pv v1.a8,.L g9.Pv v1.T,.L o6.Pv v1.Q.L,.I v1.Q.Cap,.L (Ls r8.Pv) v2]) (cl':=true) J J (.inr J) a8q<|G0<|b6 ?_
 cases h;exact⟨J,[_],⟨oL J J J b2I a8q nl J,tr⟩,J,io⟩

theorem O9{a0 a1 a2 a3}:PO Tryz.prog 100 [.I a0,.I a1,.I a2,.I a3] (a07 a0 a1 a2 a3) λr=>.I r:=by
 refine pO Tryz.func100 λr h _ _=>?_;refine S4 1 J<|c8<|S3 4 J<|l4 J (λhg=>mI J)<|l4 J (λhg=>mI J)<|l4 J (λhg=>y5 (ct hg) (ct hg) J)<|y0 J (C7 J J J (λq=>eqF q))<|yN ?_;refine cN h (λhc h=>?_) λhc h=>?_
 ·refine S4 2 J ?_;refine b6 ?_;cases h;exact f1
 ·refine b8 ?_;refine S4 1 J<|b6 ?_;cases h;exact f1

theorem X0{a0 a1 a2}:PO Tryz.prog 101 [.I a0,.I a1,.I a2] (Y9 a0 a1 a2) λr=>.I r:=by
 refine pO Tryz.func101 λr h _ _=>?_;refine S4 1 J<|c8<|S4 2 J ?_;refine cN h (λhc h=>?_) λhc h=>?_
 ·refine S4 2 J ?_;refine b6 ?_;cases h;exact f1
 ·refine b8 ?_;refine c8<|S4 2 J ?_;refine cN h (λhc h=>?_) λhc h=>?_
  ·refine S4 2 J ?_;refine b6 ?_;cases h;exact f1
  ·refine b8 ?_;refine S4 2 J<|b6 ?_;cases h;exact f1

theorem b2f{a0}:PO Tryz.prog 56 [r8.Pv a0] (a0S a0) λr=>.I r:=by
 refine pO Tryz.func56 λr h _ _=>?_;refine S4 2 J<|S3 2 J<|cA h O9 J J λv1 _ h=>S2 1 J<|S3 2 J<|cA h O9 J J λv2 _ h=>S2 1 J<|c8<|S4 2 J<|c9<|S4 2 J ?_;refine cN h (λhc h=>?_) λhc h=>?_
 ·refine dr [] o9 (by kernel_rfl) (by kernel_rfl) ?_
  refine S7 3 J<|r9 h λv3 hv3 h=>d2 J (D4 J O9 J hv3) J<|S7 2 J<|r9 h λv4 hv4 h=>d2 J (D4 J O9 J hv4) J<|r9 h λv5 hv5 h=>d2 J (D4 J X0 J hv5) J<|S8 1 J<|b6 ?_;cases h;exact f1
 ·refine jq h (λj7=>St.of [(1,.ptr 1 0 0),(3,.I v1),(4,.I v2),(12,.I a0.Kind),(23,.bool j7)] [(1,vR (r8.Pv a0) 4)]) (λj7 h=>?_) λκ6 h=>?_
  ·refine cN h (λhc h=>?_) λhc h=>?_
   ·refine S3 2 J ?_;refine cA h X0 J J λv8 _ h=>S2 1 J<|b6 ?_;cases h;exact f1
   ·refine S4 2 J ?_;refine cN h (λhc h=>?_) λhc h=>?_
    ·refine S4 2 J ?_;refine b6 ?_;cases h;exact f1
    ·refine S4 2 J ?_;refine cN h (λhc h=>?_) λhc h=>?_
     ·refine S3 4 J ?_;refine cA h O9 J J λv9 _ h=>cA h X0 J J λv10 _ h=>S2 1 J<|b6 ?_;cases h;exact f1
     ·refine S4 2 J ?_;refine cN h (λhc h=>?_) λhc h=>?_
      ·refine dr [] o9 (by kernel_rfl) (by kernel_rfl) ?_
       refine S7 3 J<|r9 h λv11 hv10 h=>d2 J (D4 J O9 J hv10) J<|S7 2 J<|r9 h λv12 hv11 h=>d2 J (D4 J O9 J hv11) J<|r9 h λv13 hv12 h=>d2 J (D4 J X0 J hv12) J<|S8 1 J<|b6 ?_;cases h;exact f1
      ·refine S4 2 J ?_;refine cN h (λhc h=>?_) λhc h=>?_
       ·refine dr [] o9 (by kernel_rfl) (by kernel_rfl) ?_
        refine S7 2 J<|r9 h λv14 hv13 h=>d2 J (D4 J O9 J hv13) J<|S7 2 J<|r9 h λv15 hv14 h=>d2 J (D4 J O9 J hv14) J<|S7 2 J<|r9 h λv16 hv15 h=>d2 J (D4 J O9 J hv15) J<|r9 h λv17 hv16 h=>d2 J (D4 J X0 J hv16) J<|S8 1 J<|b6 ?_;cases h;exact f1
       ·refine S4 2 J ?_;refine cN h (λhc h=>?_) λhc h=>?_
        ·refine S3 3 J ?_;refine cA h O9 J J λv18 _ h=>cA h X0 J J λv19 _ h=>S2 1 J<|b6 ?_;cases h;exact f1
        ·refine S4 2 J ?_;refine cN h (λhc h=>?_) λhc h=>?_
         ·refine S3 3 J ?_;refine cA h O9 J J λv20 _ h=>cA h X0 J J λv21 _ h=>S2 1 J<|b6 ?_;cases h;exact f1
         ·refine S4 2 J ?_;refine cN h (λhc h=>?_) λhc h=>?_
          ·refine S4 1 J ?_;refine b6 ?_;cases h;exact f1
          ·refine S4 2 J ?_;refine cN h (λhc h=>?_) λhc h=>?_
           ·refine S3 2 J ?_;refine cA h O9 J J λv22 _ h=>S2 1 J<|b6 ?_;cases h;exact f1
           ·refine b8 ?_;refine S4 1 J<|b6 ?_;cases h;exact f1
  ·refine S4 2 J ?_;refine cN h (λhc h=>?_) λhc h=>?_
   ·refine b8 ?_;exact eJ h W
   ·refine S4 2 J ?_;refine cN h (λhc h=>?_) λhc h=>?_
    ·refine b8 ?_;exact eJ h W
    ·refine S6 2 J ?_;exact eJ h W

theorem b6y{a0}:PO Tryz.prog 41 [.L iF a0] (a1B a0) λr=>.tup [r8.Pv r.1,.I r.2]:=by
 refine pO Tryz.func41 λr h _ _=>?_;refine S4 2 J<|c8<|S3 1 J<|nL J g7<|S2 1 J ?_;refine cN h (λhc h=>?_) λhc h=>?_
 ·refine sR ?_;refine y0 J (o8 (cs:=[.I 0,.I 0,.I 0,.I 0]) J b7M b08 J J J)<|S2 2 J<|b6 ?_;cases h;exact⟨J,[_,_],⟨oL J J J b7G a5d nl J,⟨J,tr⟩⟩,J,io⟩
 ·refine b8 ?_;refine dr [] o9 (by kernel_rfl) (by kernel_rfl)<|S7 1 J<|r9 h λv1 hv1 h=>d0 J (u7 (f:=iF) (cs:=[.I v1]) hv1 J J g7 m7 J J) J<|S7 2 J<|r9 h λv2 hv2 h=>d0 J (u7 (f:=iF) (cs:=[.I v2]) hv2 J J g7 m7 J J) J<|S7 2 J<|r9 h λv3 hv3 h=>d0 J (u7 (f:=iF) (cs:=[.I v3]) hv3 J J g7 m7 J J) J<|S7 2 J<|r9 h λv4 hv4 h=>d0 J (u7 (f:=iF) (cs:=[.I v4]) hv4 J J g7 m7 J J) J<|S7 1 J<|d7 J (λ_ hN=>o8 (cs:=[.I v1,.I v2,.I v3,.I v4]) J b7M b08 J J J) J<|S7 1 J<|A3 (x':=.agg [.I v1,.I v2,.I v3,.I v4]) (cl':=true) J J (.inl J) a5d<|G0<|S3 1 J<|cA h b2f J J λv5 _ h=>S2 1 J<|c8<|S4 2 J ?_
  refine cN h (λhc h=>?_) λhc h=>?_
  ·refine sR ?_;refine y0 J (o8 (cs:=[.I 0,.I 0,.I 0,.I 0]) J b7M b08 J J J)<|S2 3 J<|b6 ?_;cases h;exact⟨J,[_,_],⟨oL J J J b7G a5d nl J,⟨J,tr⟩⟩,J,io⟩
  ·refine b8 ?_;refine S4 3 J<|b6 ?_;cases h;exact⟨J,[_,_],⟨oL J J J b7G a5d nl J,⟨J,tr⟩⟩,J,io⟩

theorem a8N{a0 a1}:PO Tryz.prog 84 [.I a0,.I a1] (a3w a0 a1) λr=>.I r:=by
 refine pO Tryz.func84 λr h _ _=>?_;refine S4 1 J<|c8<|S3 3 J<|l4 J (λhg=>mI J)<|l4 J (λhg=>y5 (ct hg) J J)<|y0 J (C7 J J J (λq=>eqF q))<|S1 1 J<|l4 J (λhg=>mI J)<|l4 J (λhg=>y5 (ct hg) J J)<|y0 J (C7 J J J (λq=>eqF q))<|S1 1 J<|l4 J (λhg=>mI J)<|l4 J (λhg=>y5 (ct hg) J J)<|y0 J (C7 J J J (λq=>eqF q))<|yN ?_;refine cN h (λhc h=>?_) λhc h=>?_
 ·refine S4 1 J ?_;refine b6 ?_;cases h;exact f1
 ·refine b8 ?_;refine S4 6 J<|b6 ?_;cases h;exact f1

theorem R2{a0}:PO Tryz.prog 67 [k8.Pv a0] (K4 a0) λr=>y7.Pv r:=by
 refine pO Tryz.func67 λr h _ _=>?_;refine S4 2 J<|S3 2 J<|y0 J (o8 (cs:=[.nl,.I a0.Last]) J c3G c3Q J J J)<|S1 1 J<|a44 (x':=.agg [.nl,.I a0.Last]) (cl':=true) J J (.inl J) a1Z<|yN ?_;refine jq h (λj9=>St.of [(2,.ptr 2 0 0),(3,.ptr 3 0 0)] [(3,vS (.agg [.sl 910503,.I a0.Last]) 2),(910503,⟨List.map x4.Pv j9,(List.map x4.Pv j9).length,true,3,true⟩),(2,vR (.agg [.nl,.I 0]) 2)]) (λj9 h=>?_) λκ8 h=>?_
 ·refine S4 2 J ?_;refine b6 ?_;cases h;exact⟨J,[_],⟨oL J J J a3V a1Z nl J,tr⟩,J,io⟩
 ·refine S4 1 J ?_;refine c9<|lq h (λq=>St.of [(1,.ptr 1 0 0),(2,.ptr 2 0 0),(3,.ptr 3 0 0),(4,.I q.1)] [(3,vS (.agg [.sl 910503,.I a0.Last]) 2),(2,vR (.agg [.nl,.I 0]) 2),(1,vR (k8.Pv a0) 3),(910503,⟨List.map x4.Pv q.2,(List.map x4.Pv q.2).length,true,3,true⟩)]) (Wk.trans (b2F (l0:=3) (j:=0) (l:=920503) (z:=3) J J J J J) (WP (λl=>if l=910503 then 920503 else l))) λq14 x13 h hx9=>?_
  obtain⟨s11,s12⟩:=q14;refine c8<|S3 3 J<|nL J H6<|S2 1 J ?_;refine cN h (λhc h=>?_) λhc h=>?_
  ·refine b8 ?_;refine c8<|c9<|a1A [] o9 (by kernel_rfl) (by kernel_rfl)<|S7 5 J<|r9 h λv15 hv10 h=>d0 J (u7 (f:=n8.Pv) (cs:=n8.Pc v15) hv10 J J H6 H2 J J) J<|S7 5 J<|d0 J (u7 (f:=n8.Pv) (cs:=n8.Pc v15) hv10 J J H6 H2 J J) J<|S7 3 J<|d7 J (λ_ hN=>o8 (cs:=[.I v15.State,.I v15.Gen,.I s11]) J b06 a5h J J J) J<|d1n J (G1 (f:=x4.Pv) (l:=[(⟨v15.State,v15.Gen,s11⟩:x4)]) J Q7 U0 a5h J J nl J J) J<|r9 h λv16 hv11 h=>d3a J (F1 (f:=x4.Pv) hv11 J J J J J J (.inl ⟨_,J,J⟩) Q7 U0 c3z a5h J (λ_=>J)) J J J J J<|S7 1 J<|A3 (x':=.agg [.sl 32,.I a0.Last]) (cl':=false) J J (.inl J) c9M<|G0<|S6 3 J ?_
   exact eL h (Wk.trans (n0 _ [32]) (WP (λl=>if l=910503 then 32 else l)))
  ·refine o5 ?_;refine c4<|c4<|k7 ?_;have h:=xL hx9 h;exact eJ h (Wk.trans (n0 _ [910503]) W)

theorem b1R{a0}:PO Tryz.prog 278 [.I a0] (a6p a0) λr=>.bool r:=by
 refine pO Tryz.func278 λr h _ _=>?_;refine S4 1 J<|c8<|S3 3 J<|l4 J (λhg=>mI J)<|l4 J (λhg=>y5 (ct hg) J J)<|y0 J (C7 J J J (λq=>eqF q))<|yN ?_;refine cN h (λhc h=>?_) λhc h=>?_
 ·refine S4 1 J ?_;refine b6 ?_;cases h;exact f1
 ·refine b8 ?_;refine S3 2 J<|r9 h λv1 hv1 h=>y0 J (a74 J J hv1)<|S1 2 J<|r9 h λv2 hv2 h=>y0 J (a74 J J hv2)<|cA h a8N J J λv3 _ h=>S2 3 J<|b6 ?_;cases h;exact f1

theorem a8P{a0}:PO Tryz.prog 204 [.I a0] (a6o a0) λr=>.I r:=by
 refine pO Tryz.func204 λr h _ _=>?_;refine S4 1 J<|c8<|S3 1 J<|cA h b1R J J λv1 _ h=>S2 1 J ?_;refine cN h (λhc h=>?_) λhc h=>?_
 ·refine S4 1 J ?_;refine b6 ?_;cases h;exact f1
 ·refine b8 ?_;refine S3 2 J<|r9 h λv2 hv2 h=>y0 J (a74 J J hv2)<|S2 1 J<|b6 ?_;cases h;exact f1

theorem c2O{a0}:PO Tryz.prog 225 [.I a0] (b4v a0) λr=>.I r:=by
 refine pO Tryz.func225 λr h _ _=>?_;refine S4 1 J<|c8<|S3 1 J<|cA h b1R J J λv1 _ h=>S2 1 J ?_;refine cN h (λhc h=>?_) λhc h=>?_
 ·refine S4 1 J ?_;refine b6 ?_;cases h;exact f1
 ·refine b8 ?_;refine S3 2 J<|r9 h λv2 hv2 h=>y0 J (a74 J J hv2)<|S2 1 J<|b6 ?_;cases h;exact f1

theorem a0t{a0 a1}:PO Tryz.prog 137 [y7.Pv a0,.I a1] (O0 a0 a1) λr=>.tup [.I r.1,.I r.2]:=by
 refine pO Tryz.func137 λr h _ _=>?_;refine S4 3 J<|c8<|S4 2 J ?_;refine cN h (λhc h=>?_) λhc h=>?_
 ·refine S4 2 J ?_;refine b6 ?_;cases h;exact f2
 ·refine b8 ?_;refine S3 1 J<|cA h a8P J J λv1 _ h=>S2 1 J<|c8<|S3 3 J<|l4 J (λhg=>mI J)<|l4 J (λhg=>oF J c46 J)<|l4 J (λhg=>oS (ct hg) J J c9e J)<|l4 J (λhg=>T8 (f:=x4.Pv) (ct hg) Q7)<|l4 J (λhg=>y5 (ct hg) (ct hg) J)<|y0 J (C7 J J J (λq=>eqF q))<|yN ?_;refine cN h (λhc h=>?_) λhc h=>?_
  ·refine S4 2 J ?_;refine b6 ?_;cases h;exact f2
  ·refine b8 ?_;refine S3 3 J<|iL h J J Q7 U0 λv2 _ h=>S2 3 J<|c8<|dr [] o9 (by kernel_rfl) (by kernel_rfl)<|S7 3 J<|r9 h λv3 hv3 h=>d2 J (D4 J c2O J hv3) J<|S7 2 J<|D0 J (λhg _ hN=>oF J b6L J) J<|J7 J (λhg=>oS (ct hg) J J C5 J) J<|D0 J (λhg _ hN=>y5 (ct hg) J J) J<|D0 J (λhg _ hN=>om (d:=.bool (v2.State != 1)) (ct hg)) J<|D0 (b7B J J J) (λhg _ hN=>oF J b6L J) J<|J7 (b7B J J J) (λhg=>oS (ct hg) J J C5 J) J<|D0 (b7B J J J) (λhg _ hN=>y5 (ct hg) J J) J<|D0 J (λhg _ hN=>z7 (ct hg) J J (λq=>d5m hg (eqT q))) J<|d7 J (λ_ hN=>C7 J J J (λq=>eqF q)) J<|G0 ?_
   refine cN h (λhc h=>?_) λhc h=>?_
   ·refine S4 2 J ?_;refine b6 ?_;cases h;exact f2
   ·refine b8 ?_;refine S4 3 J<|b6 ?_;cases h;exact f2

theorem b6w{a0 a1}:PO Tryz.prog 85 [k8.Pv a0,.L iF a1] (a4M a0 a1) λr=>.L iF r:=by
 refine pO Tryz.func85 λr h _ _=>?_;unfold a4M at h;refine S4 2 J<|sR<|y0 J (A2 J g7 m7)<|S1 1 J<|r9 h λv1 hv1 h=>y1 J (a4L (f:=iF) hv1 J J (.inl ⟨_,J,J⟩) g7 m7 F9 y6 J (λ_=>J)) J<|S2 1 J ?_;refine jq h (λj36=>St.of [(5,.sl 15)] [(15,⟨List.map iF j36,0,true,1,true⟩)]) (λj36 h=>?_) λκ35 h=>?_
 ·refine S4 2 J ?_;refine b6 ?_;cases h;exact f1
 ·refine S4 1 J ?_;refine c9<|lq h (λq=>St.of [(2,.ptr 2 0 0),(5,.sl 15),(6,.I q.1)] [(15,⟨List.map iF q.2,0,true,1,true⟩),(2,vR (k8.Pv a0) 3)]) W λq41 x40 h hx31=>?_;obtain⟨s38,s39⟩:=q41;refine c8<|S3 2 J<|y0 J (c0F (f:=iF) J J J g7)<|S2 1 J ?_;refine cN h (λhc h=>?_) λhc h=>?_
  ·refine b8 ?_;refine jq h (λj56=>St.of [(2,.ptr 2 0 0),(5,.sl 15),(6,.I s38)] [(15,⟨List.map iF j56,0,true,1,true⟩),(2,vR (k8.Pv a0) 3)]) (λj56 h=>?_) λκ55 h=>?_
   ·refine S6 3 J ?_;exact eL h W
   ·refine c9 ?_;refine S4 2 J<|c9<|lq h (λq=>St.of [(2,.ptr 2 0 0),(5,.sl 15),(6,.I s38),(7,.I q.1)] [(15,⟨List.map iF q.2,0,true,1,true⟩),(2,vR (k8.Pv a0) 3)]) W λq61 x60 h hx46=>?_;obtain⟨s58,s59⟩:=q61;refine c8<|S4 2 J ?_;refine cN h (λhc h=>?_) λhc h=>?_
    ·refine b8 ?_;refine c8<|c9<|dr [] o9 (by kernel_rfl) (by kernel_rfl)<|S7 1 J<|r9 h λv62 hv47 h=>d2f J (u6 J R2 J hv47) J<|S7 3 J<|r9 h λv63 hv48 h=>d0 J (a0r (f:=iF) hv48 J J J J g7 m7 J) J<|d0 J (b3y (f:=iF) hv48 J J J C5 J) J<|r9 h λv64 hv49 h=>d2 J (D4 J a0t J hv49) J<|S8 5 J<|dr [] o9 (by kernel_rfl) (by kernel_rfl)<|S7 1 J<|d2f J (u6 J R2 J hv47) J<|S7 2 J<|r9 h λv65 hv50 h=>d0 J (a0r (f:=iF) hv50 J J J J g7 m7 J) J<|d0 J (b3y (f:=iF) hv50 J J J C5 J) J<|r9 h λv66 hv51 h=>d2 J (D4 J a0t J hv51) J<|S8 5 J<|c8<|dr [] o9 (by kernel_rfl) (by kernel_rfl)<|S7 3 J<|D0 J (λhg _ hN=>mI J) J<|D0 J (λhg _ hN=>y5 (ct hg) J J) J<|d7 J (λ_ hN=>C7 J J J (λq=>eqF q)) J<|S7 1 J<|D0 J (λhg _ hN=>oF J a3i J) J<|J7 J (λhg=>oS (ct hg) J J a8l J) J<|D0 J (λhg _ hN=>mI J) J<|r9 h λv67 hv52 h=>J7 J (λhg=>u7 (f:=n8.Pv) (cs:=n8.Pc v67) (G8 hv52 hg) (ct hg) (ct hg) H6 H2 J J) J<|D0 J (λhg _ hN=>A5 (ct hg) a9m J) J<|D0 J (λhg _ hN=>A5 (ct hg) b93 J) J<|J7 J (λhg=>F6 (ct hg) C5 J) J<|D0 J (λhg _ hN=>oF J a3i J) J<|J7 J (λhg=>oS (ct hg) J J a8l J) J<|D0 J (λhg _ hN=>mI J) J<|r9 h λv68 hv53 h=>J7 J (λhg=>u7 (f:=n8.Pv) (cs:=n8.Pc v68) (G8 hv53 hg) (ct hg) (ct hg) H6 H2 J J) J<|D0 J (λhg _ hN=>A5 (ct hg) a9m J) J<|D0 J (λhg _ hN=>A5 (ct hg) b93 J) J<|J7 J (λhg=>F6 (ct hg) C5 J) J<|D0 J (λhg _ hN=>y5 (ct hg) (ct hg) J) J<|d7 J (λ_ hN=>C7 J J J (λq=>eqF q)) J<|G0 ?_
     refine cN h (λhc h=>?_) λhc h=>?_
     ·refine o5 ?_;refine c4<|a3Z (by decide)<|c4<|c4<|k7 ?_
      have h:=xL hx46 h;exact eJ h W
     ·refine b8 ?_;refine S3 2 J<|y0 J (a0r (f:=iF) hv50 J J J J g7 m7 J)<|y0 J (b3y (f:=iF) hv50 J J J C5 J)<|S2 1 J<|S3 5 J<|y0 J (a0r (f:=iF) hv48 J J J J g7 m7 J)<|y0 J (b3y (f:=iF) hv48 J J J C5 J)<|y0 J (a0r (f:=iF) hv50 J J J J g7 m7 J)<|a43 (f:=iF) (v:=v63) hv50 J J (.inl J) m7<|yN<|S5 4 J<|r9 h λv69 hv54 h=>y0 J (a0r (f:=iF) hv54 J J J J g7 m7 J)<|a43 (f:=iF) (v:=v65) hv54 J J (.inl J) m7<|yN<|S6 3 J ?_;exact eL h W
    ·refine o5 ?_;refine c4<|c4<|k7 ?_;have h:=xL hx46 h;exact eJ h W
  ·refine o5 ?_;refine c4<|c4<|k7 ?_;have h:=xL hx31 h;exact eJ h W

theorem a0u{a0}:PO Tryz.prog 37 [k8.Pv a0] (R1 a0) λr=>.L iF r:=by
 refine pO Tryz.func37 λr h _ _=>?_;refine S4 2 J<|sR<|y0 J (A2 J g7 m7)<|S2 1 J ?_;refine jq h (λj15=>St.of [(1,.ptr 1 0 0),(3,.sl 910003)] [(910003,⟨List.map iF j15,(List.map iF j15).length,true,1,true⟩),(1,vR (k8.Pv a0) 3)]) (λj15 h=>?_) λκ14 h=>?_
 ·refine S3 2 J ?_;obtain⟨v16,hv12,h⟩:=a8s h;refine ycL J (u6 J b6w J hv12) J<|S2 1 J<|b6 ?_;cases h;exact f1
 ·refine S4 1 J ?_;refine c9<|lq h (λq=>St.of [(1,.ptr 1 0 0),(3,.sl 910003),(4,.I q.1)] [(1,vR (k8.Pv a0) 3),(910003,⟨List.map iF q.2,(List.map iF q.2).length,true,1,true⟩)]) (Wk.trans (C9 (t:=3) (l:=920003) (z:=1) J J) (WP (λl=>if l=910003 then 920003 else l))) λq21 x20 h hx15=>?_
  obtain⟨s18,s19⟩:=q21;refine c8<|S3 3 J<|nL J H6<|S2 1 J ?_;refine cN h (λhc h=>?_) λhc h=>?_
  ·refine b8 ?_;refine jq h (λj26=>St.of [(1,.ptr 1 0 0),(3,.sl 30),(4,.I s18)] [(30,⟨List.map iF j26,(List.map iF j26).length,true,1,true⟩),(1,vR (k8.Pv a0) 3)]) (λj26 h=>?_) λκ25 h=>?_
   ·refine S6 3 J ?_;exact eL h (Wk.trans (n0 _ [30]) (WP (λl=>if l=910003 then 30 else l)))
   ·refine c9 ?_;refine S3 3 J<|iL h J J H6 H2 λv27 hv20 h=>S2 3 J ?_;refine cN h (λhc h=>?_) λhc h=>?_
    ·refine S5 5 J ?_;refine y0 J (u7 (f:=n8.Pv) (cs:=n8.Pc v27) hv20 J J H6 H2 J J)<|S1 2 J<|cA h a8N J J λv28 _ h=>y0 J (G1 (f:=iF) (l:=[v28]) J g7 m7 y6 J J nl J J)<|r9 h λv29 hv22 h=>H5 J (F1 (f:=iF) hv22 J J J J J J (.inl ⟨_,J,J⟩) g7 m7 F9 y6 J (λ_=>J)) J J J<|S2 1 J ?_;exact eJ h (Wk.trans (n0 _ [30]) W)
    ·refine b8 ?_;exact eJ h (Wk.trans (n0 _ [910003]) (WP (λl=>if l=30 then 910003 else l)))
  ·refine o5 ?_;refine c4<|c4<|k7 ?_;have h:=xL hx15 h;exact eJ h (Wk.trans (n0 _ [910003]) W)

theorem b5B{a0 a1}:PO Tryz.prog 86 [y7.Pv a0,.I a1] (b1S a0 a1) λr=>.tup [.I r.1,.I r.2]:=by
 refine pO Tryz.func86 λr h _ _=>?_;refine S4 3 J<|S3 2 J<|cA h a0t J J λv1 _ h=>S2 5 J<|c8<|S4 2 J ?_;refine cN h (λhc h=>?_) λhc h=>?_
 ·refine S4 3 J ?_;refine b6 ?_;cases h;exact f2
 ·refine b8 ?_;refine c8<|S3 3 J<|iL h J J Q7 U0 λv2 hv2 h=>S2 3 J ?_;refine cN h (λhc h=>?_) λhc h=>?_
  ·refine S4 2 J ?_;refine b6 ?_;cases h;exact f2
  ·refine b8 ?_;refine S3 3 J<|y0 J (u7 (f:=x4.Pv) (cs:=x4.Pc v2) hv2 J J Q7 U0 J J)<|S2 4 J<|b6 ?_;cases h;exact f2

end Go.Proofs.YtjlokngooekbcaaGreat.Ok
