/-
 The functions of the program do as the plain functions do.
-/
import Derived.Test.YtjlokngooekbcaaGreatP21aOk1
set_option linter.unusedVariables false
set_option linter.unusedSimpArgs false
set_option linter.unusedSectionVars false
namespace Go.Proofs.YtjlokngooekbcaaGreat.Ok
open Go Go.Pw Go.Sh Go.Proofs
set_option maxRecDepth 100000
set_option maxHeartbeats 4000000
theorem a8x{a0 a1}:PO Tryz.prog 107 [b7.Pv a0,.L iF a1] (a0l a0 a1) λr=>b7.Pv r:=by
 refine pO Tryz.func107 λr h _ _=>?_;refine S4 2 J<|S3 2 J<|cF h a9z J J λv1 _ h=>S2 1 J<|S3 2 J<|cF h b1J J J λv2 _ h=>S2 1 J<|S4 1 J<|S4 2 J ?_;refine jq h (λj13=>St.of [(2,.ptr 2 0 0),(4,.ptr 4 0 0),(5,.L iF v1),(6,.ptr 6 0 0),(7,.fn (.func 172) [.ptr 6 0 0])] [(6,vS (.sl 910506) 1),(910506,⟨List.map iF j13,(List.map iF j13).length,true,1,true⟩),(4,vR (.agg [.nl,.I 0,.I 0,.nl,.nl,.nl,.nl,.I 0]) 8),(2,vR (b7.Pv v2) 8)]) (λj13 h=>?_) λκ12 h=>?_
 ·refine S3 3 J ?_;refine cF h b2d J J λv14 _ h=>S2 5 J<|S3 2 J<|T1 (WPE (λl=>if l=2025 then 6 else if l=2026 then 4 else if l=2027 then 2 else if l=2028 then 910506 else l) [(2,.ptr 2027 0 0),(4,.ptr 2026 0 0),(5,.L iF v1),(6,.ptr 2025 0 0),(12,.L c4.Pv v14.1),(51,.fn (.func 172) [.ptr 2025 0 0]),(52,.L iF v14.2)] [(2025,vS (.sl 2028) 1),(2028,⟨List.map iF j13,(List.map iF j13).length,true,1,true⟩),(2026,vR (.agg [.nl,.I 0,.I 0,.nl,.nl,.nl,.nl,.I 0]) 8),(2027,vR (b7.Pv v2) 8)]) ?_
  refine b63 (fn:=Tryz.f172) (N1:=6) J J Tryz.func172 J c2k J J nl (λe14 o15=>?_);refine S5 2 J<|z7 h λv15 hv16 h=>R2 J (O4 (f:=iF) hv16 J J J J J J (.inl ⟨_,J,J⟩) l4 o8 O7 C2 J (λ_=>J)) J J J<|S2 1 J ?_;refine⟨J,[],tr,?_⟩;refine T1 (WPE (λl=>if l=2029 then 5 else l) [(2,.ptr 2027 0 0),(4,.ptr 2026 0 0),(5,.L iF v1),(6,.ptr 2025 0 0),(12,.L c4.Pv v14.1)] [(2025,vS (.sl 2029) 1),(2029,⟨List.map iF v15,j13.length,true,1,true⟩),(2026,vR (.agg [.nl,.I 0,.I 0,.nl,.nl,.nl,.nl,.I 0]) 8),(2027,vR (b7.Pv v2) 8)])<|yN<|S4 3 J ?_
  refine jq h (λj24=>St.of [(2,.ptr 2027 0 0),(4,.ptr 2026 0 0),(6,.ptr 2025 0 0)] [(2025,vS (.sl 2029) 1),(2029,⟨List.map iF v15,j13.length,true,1,true⟩),(2026,vR (.agg [.nl,.I 0,.I 0,.nl,.nl,.nl,.nl,.I 0]) 8),(2027,vR (b7.Pv j24) 8)]) (λj24 h=>?_) λκ23 h=>?_
  ·refine jq h (λj33=>St.of [(2,.ptr 2027 0 0),(4,.ptr 2026 0 0)] [(2026,vR (.agg [.nl,.I 0,.I 0,.nl,.nl,.nl,.nl,.I 0]) 8),(2027,vR (b7.Pv j33) 8)]) (λj33 h=>?_) λκ32 h=>?_
   ·refine S4 2 J ?_;refine b9 ?_;cases h;exact⟨J,[_],⟨oL J J J u6 p8 nl J,tr⟩,J,io⟩
   ·refine S3 1 J ?_;refine y0 J (c26 (f:=iF) J J J l4)<|S2 1 J<|g6<|lq h (λq=>St.of [(2,.ptr 2027 0 0),(4,.ptr 2026 0 0),(66,.sl 2029),(67,.I (v15.length:Int)),(68,.I q.1)] [(2029,⟨List.map iF v15,j13.length,true,1,true⟩),(2026,vR (.agg [.nl,.I 0,.I 0,.nl,.nl,.nl,.nl,.I 0]) 8),(2027,vR (b7.Pv q.2) 8)]) W λq38 x37 h hx31=>?_;obtain⟨s35,s36⟩:=q38;refine S4 1 J<|g7 ?_;refine cN h (λhc h=>?_) λhc h=>?_
    ·refine c5 ?_;refine g7<|g6<|sR<|z7 h λv39 hv32 h=>y0 J (a3B (f:=iF) hv32 J J J J l4 o8 J)<|y0 J (b4R (f:=iF) hv32 J J J x6 J)<|S2 1 J<|S5 2 J<|cF h W8 J J λv40 _ h=>S2 1 J<|S6 2 J ?_;exact eL h W
    ·refine p6 ?_;refine c7<|c7<|k9 ?_;have h:=xL hx31 h;exact eJ h W
  ·refine S3 1 J ?_;refine nL J l4<|S2 1 J<|g6<|lq h (λq=>St.of [(2,.ptr 2027 0 0),(4,.ptr 2026 0 0),(6,.ptr 2025 0 0),(56,.L iF v1),(57,.I (v1.length:Int)),(58,.I q.1)] [(2025,vS (.sl 2029) 1),(2029,⟨List.map iF v15,j13.length,true,1,true⟩),(2026,vR (.agg [.nl,.I 0,.I 0,.nl,.nl,.nl,.nl,.I 0]) 8),(2027,vR (b7.Pv q.2) 8)]) W λq45 x44 h hx36=>?_;obtain⟨s42,s43⟩:=q45;refine S4 1 J<|g7 ?_;refine cN h (λhc h=>?_) λhc h=>?_
   ·refine c5 ?_;refine g7<|g6<|sR<|iL h J J l4 o8 λv46 _ h=>S2 2 J<|S5 2 J<|cF h b2J J J λv47 _ h=>S2 1 J<|S6 2 J ?_;exact eL h W
   ·refine p6 ?_;refine c7<|c7<|k9 ?_;have h:=xL hx36 h;exact eJ h W
 ·refine S3 1 J ?_;refine nL J l4<|S2 1 J<|g6<|lq h (λq=>St.of [(2,.ptr 2 0 0),(4,.ptr 4 0 0),(5,.L iF v1),(6,.ptr 6 0 0),(7,.fn (.func 172) [.ptr 6 0 0]),(25,.L iF v1),(26,.I (v1.length:Int)),(27,.I q.1)] [(6,vS (.sl 910506) 1),(4,vR (.agg [.nl,.I 0,.I 0,.nl,.nl,.nl,.nl,.I 0]) 8),(2,vR (b7.Pv v2) 8),(910506,⟨List.map iF q.2,(List.map iF q.2).length,true,1,true⟩)]) (Wk.trans (b1Y (l0:=6) (j:=0) (l:=920506) (z:=1) J J J J J) (WP (λl=>if l=910506 then 920506 else l))) λq52 x51 h hx41=>?_
  obtain⟨s49,s50⟩:=q52;refine S4 1 J<|g7 ?_;refine cN h (λhc h=>?_) λhc h=>?_
  ·refine c5 ?_;refine g7<|g6<|sR<|iL h J J l4 o8 λv53 _ h=>S2 2 J<|S3 3 J<|cF h C4 J J λv54 _ h=>S2 6 J<|S5 3 J<|cF h b1U J J λv55 _ h=>T1 (WPE (λl=>if l=2049 then 6 else if l=2050 then 4 else if l=2051 then 2 else if l=2052 then 910506 else l) [(2,.ptr 2051 0 0),(4,.ptr 2050 0 0),(5,.L iF v1),(6,.ptr 2049 0 0),(7,.fn (.func 172) [.ptr 2049 0 0]),(25,.L iF v1),(26,.I (v1.length:Int)),(27,.I s49),(38,.fn (.func 172) [.ptr 2049 0 0]),(41,.L iF v55)] [(2049,vS (.sl 2052) 1),(2052,⟨List.map iF s50,(List.map iF s50).length,true,1,true⟩),(2050,vR (.agg [.nl,.I 0,.I 0,.nl,.nl,.nl,.nl,.I 0]) 8),(2051,vR (b7.Pv v2) 8)]) ?_
   refine b63 (fn:=Tryz.f172) (N1:=6) J J Tryz.func172 J c2k J J nl (λe45 o46=>?_);refine S5 2 J<|z7 h λv56 hv47 h=>R2 J (O4 (f:=iF) hv47 J J J J J J (.inl ⟨_,J,J⟩) l4 o8 O7 C2 J (λ_=>J)) J J J<|S2 1 J ?_;refine⟨J,[],tr,?_⟩;refine T1 (WPE (λl=>if l=2053 then 5 else l) [(2,.ptr 2051 0 0),(4,.ptr 2050 0 0),(5,.L iF v1),(6,.ptr 2049 0 0),(7,.fn (.func 172) [.ptr 2049 0 0]),(25,.L iF v1),(26,.I (v1.length:Int)),(27,.I s49)] [(2049,vS (.sl 2053) 1),(2053,⟨List.map iF v56,s50.length,true,1,true⟩),(2050,vR (.agg [.nl,.I 0,.I 0,.nl,.nl,.nl,.nl,.I 0]) 8),(2051,vR (b7.Pv v2) 8)])<|yN<|S6 2 J ?_
   exact eL h (Wk.trans (p7 _ [2053]) (WP (λl=>if l=2 then 2051 else if l=4 then 2050 else if l=6 then 2049 else if l=910506 then 2053 else l)))
  ·refine p6 ?_;refine c7<|c7<|k9 ?_;have h:=xL hx41 h;exact eJ h (Wk.trans (p7 _ [910506]) W)

theorem a0E{a0}:PO Tryz.prog 103 [b7.Pv a0] (O5 a0) λr=>b7.Pv r:=by
 refine pO Tryz.func103 λr h _ _=>?_;refine S4 2 J<|lqS h (λs2=>St.of [(1,.ptr 1 0 0),(2,.ptr 2 0 0)] [(2,vR (.agg [.nl,.I 0,.I 0,.nl,.nl,.nl,.nl,.I 0]) 8),(1,vR (b7.Pv s2) 8)]) W λs2 x3 h hx3=>S3 1 J<|cF h b5n J J λv4 _ h=>S2 1 J<|g7<|S3 1 J<|nL J l4<|S2 1 J ?_;refine cN h (λhc h=>?_) λhc h=>?_
 ·refine S4 2 J ?_;refine b9 ?_;have h:=xL hx3 h;cases h;exact⟨J,[_],⟨oL J J J u6 p8 nl J,tr⟩,J,io⟩
 ·refine c5 ?_;refine g7<|dr [] w9 (by kernel_rfl) (by kernel_rfl)<|S7 3 J<|z7 h λv5 hv5 h=>d0 J (D2 (f:=iF) (cs:=[.I v5]) hv5 J J l4 o8 J J) J<|S7 1 J<|z7 h λv6 hv6 h=>d2f J (A5 J C4 J hv6) J<|S7 4 J<|F2 (x':=m8.Pv v6.1) (cl':=true) J J (.inr J) a4P<|S8 1 J<|S3 1 J<|cA h a5e J J λv7 _ h=>yN ?_
  refine cN h (λhc h=>?_) λhc h=>?_
  ·refine b0k [] w9 (by kernel_rfl) (by kernel_rfl) ?_
   refine S7 2 J<|d0 J (D2 (f:=iF) (cs:=[.I v5]) hv5 J J l4 o8 J J) J<|S7 1 J<|z7 h λv8 hv8 h=>d2f J (A5 J a6b J hv8) J<|F2 (x':=b7.Pv v8) (cl':=true) J J (.inr J) p8<|Q0<|c3h ?_;exact eS h W
  ·refine b0k [] w9 (by kernel_rfl) (by kernel_rfl) ?_
   refine S7 2 J<|z7 h λv9 hv9 h=>d0 J (d2s (f:=iF) hv9 J J ⟨_,J⟩ l4 o8 (λ_=>J)) J<|z7 h λv10 hv10 h=>d2f J (A5 J a8x J hv10) J<|F2 (x':=b7.Pv v10) (cl':=true) J J (.inr J) p8<|Q0<|c3h ?_;exact eS h W

theorem a43{a0 a1}:PO Tryz.prog 69 [b7.Pv a0,.I a1] (a0h a0 a1) λr=>.I r:=by
 refine pO Tryz.func69 λr h _ _=>?_;refine S4 2 J<|S3 3 J<|cF h C4 J J λv1 _ h=>S2 6 J<|S4 3 J<|b9 ?_;cases h;exact f1

theorem a5t{a0 a1}:PO Tryz.prog 163 [b7.Pv a0,.I a1] (a1d a0 a1) λr=>.I r:=by
 refine pO Tryz.func163 λr h _ _=>?_;unfold a1d at h;refine S4 2 J<|dr [] w9 (by kernel_rfl) (by kernel_rfl)<|S7 3 J<|z7 h λv1 hv1 h=>d2 J (G7 J N3 J hv1) J<|z7 h λv2 hv2 h=>d2 J (G7 J a43 J hv2) J<|S8 1 J<|b9 ?_
 cases h;exact f1

theorem b1f{a0 a1 a2}:PO Tryz.prog 104 [b7.Pv a0,b7.Pv a1,g9.Pv a2] (U5 a0 a1 a2) λr=>.I r:=by
 refine pO Tryz.func104 λr h _ _=>?_;refine S4 4 J<|g7<|S4 2 J<|g6<|S4 2 J ?_;refine cN h (λhc h=>?_) λhc h=>?_
 ·refine S3 3 J ?_;refine cA h a5t J J λv1 _ h=>S2 1 J<|b9 ?_;cases h;exact f1
 ·refine jq h (λj3=>St.of [(3,.ptr 3 0 0),(4,.ptr 4 0 0),(5,.ptr 5 0 0),(8,.I a2.Kind),(15,.bool j3)] [(5,vR (g9.Pv a2) 4),(4,vR (b7.Pv a1) 8),(3,vR (b7.Pv a0) 8)]) (λj3 h=>?_) λκ2 h=>?_
  ·refine cN h (λhc h=>?_) λhc h=>?_
   ·refine S3 3 J ?_;refine cA h a5t J J λv4 _ h=>S2 1 J<|b9 ?_;cases h;exact f1
   ·refine S4 2 J ?_;refine cN h (λhc h=>?_) λhc h=>?_
    ·refine g7 ?_;refine dr [] w9 (by kernel_rfl) (by kernel_rfl)<|S7 3 J<|z7 h λv5 hv4 h=>d2 J (G7 J N3 J hv4) J<|S7 3 J<|z7 h λv6 hv5 h=>d2 J (G7 J N3 J hv5) J<|S8 1 J ?_
     refine cN h (λhc h=>?_) λhc h=>?_
     ·refine S4 1 J ?_;refine b9 ?_;cases h;exact f1
     ·refine c5 ?_;refine S4 1 J<|b9 ?_;cases h;exact f1
    ·refine c5 ?_;refine S3 3 J<|cA h a5t J J λv7 _ h=>S2 1 J<|b9 ?_;cases h;exact f1
  ·refine S4 2 J ?_;refine cN h (λhc h=>?_) λhc h=>?_
   ·refine c5 ?_;exact eJ h W
   ·refine S6 2 J ?_;exact eJ h W

theorem a9P{a0 a1}:PO Tryz.prog 59 [b7.Pv a0,g9.Pv a1] (x4 a0 a1) λr=>.tup [b7.Pv r.1,.I r.2.1,.I r.2.2]:=by
 refine pO Tryz.func59 λr h _ _=>?_;refine S4 5 J<|g7<|S3 1 J<|cA h a5n J J λv1 _ h=>S2 1 J<|S4 2 J ?_;refine cN h (λhc h=>?_) λhc h=>?_
 ·refine S4 5 J ?_;refine b9 ?_;cases h;exact⟨J,[_,_,_],⟨oL J J J u6 p8 nl J,⟨J,⟨J,tr⟩⟩⟩,J,io⟩
 ·refine c5 ?_;refine dr [] w9 (by kernel_rfl) (by kernel_rfl)<|z7 h λv2 hv2 h=>d2f J (A5 J b2l J hv2) J<|S7 2 J<|d4 J (d4z (es:=v2) (k:=a1.Kind) (E:=fvE) (EK:=iF) (d:=.tup [fvE ((B5 v2 a1.Kind).getD (none:Fv)),.bool ((B5 v2 a1.Kind).isSome)]) J J a0c (A8 L4) c8F J (lk2 _ _ _)) J<|S8 5 J<|g7<|S4 2 J ?_
  refine cN h (λhc h=>?_) λhc h=>?_
  ·refine S4 4 J ?_;refine b9 ?_;cases h;exact⟨J,[_,_,_],⟨oL J J J u6 p8 nl J,⟨J,⟨J,tr⟩⟩⟩,J,io⟩
  ·refine c5 ?_;refine S3 3 J<|y0 J (u7 (cs:=[.L b8.Pv a0.S.S.a8,.I a0.S.S.Last,.I a0.S.Serial,.L iF a0.Roots,.L g5.Pv a0.a8,.L c4.Pv a0.T,.L k8.Pv a0.Q.L,.I a0.Q.Cap,.I a1.Kind,.I a1.A,.I a1.B,.I a1.C]) J c8s c8G J J J) ?_;obtain⟨v3,hv3,h⟩:=a9F h;obtain⟨n4,he4,hk5,hp6⟩:=c1d hv3;refine T1 (d00 30 J he4)<|yc J (b7M J hk5 J hp6)<|S2 6 J<|g7<|S4 2 J ?_;refine cN h (λhc h=>?_) λhc h=>?_
   ·refine S4 5 J ?_;refine b9 ?_;cases h;exact⟨J,[_,_,_],⟨oL J J J u6 p8 nl J,⟨J,⟨J,tr⟩⟩⟩,J,io⟩
   ·refine c5 ?_;refine S3 1 J<|cF h a0E J J λv5 _ h=>S2 2 J<|dr [] w9 (by kernel_rfl) (by kernel_rfl)<|S7 4 J<|z7 h λv6 hv8 h=>d2 J (G7 J b1f J hv8) J<|F2 (x':=b7.Pv v5) (cl':=true) J J (.inr J) p8<|S8 2 J<|b9 ?_
    cases h;exact⟨J,[_,_,_],⟨oL J J J u6 p8 nl J,⟨J,⟨J,tr⟩⟩⟩,J,io⟩

theorem b53{a0}:PO Tryz.prog 382 [a7.Pv a0] (a60 a0) λr=>.fn (.func 387) [.rptr (a7.Pc r)]:=by
 refine pO Tryz.func382 λr h _ _=>?_;unfold a60 at h;refine S4 2 J<|S4 2 J<|b9 ?_;cases h;exact f1

theorem b24{a0 a1}:PO Tryz.prog 372 [a7.Pv a0,.I a1] (a52 a0 a1) λr=>.L iF r:=by
 refine pO Tryz.func372 λr h _ _=>?_;refine S4 2 J<|S3 2 J<|cF h C4 J J λv1 _ h=>S2 6 J<|S3 2 J<|cF h b1U J J λv2 _ h=>S2 1 J<|b9 ?_;cases h;exact f1

theorem c1L{a0 a1}:PO Tryz.prog 375 [a7.Pv a0,.I a1] (b3U a0 a1) λr=>.I r:=by
 refine pO Tryz.func375 λr h _ _=>?_;refine S4 3 J<|S4 2 J ?_;refine jq h (λj31=>St.of [(5,.ptr 2001 0 0)] [(2001,vR (.I j31) 1)]) (λj31 h=>?_) λκ30 h=>?_
 ·refine S4 2 J ?_;refine b9 ?_;cases h;exact f1
 ·refine S3 1 J ?_;refine cF h b53 J J λv32 _ h=>yN<|g6<|a3f (WPE (λl=>if l=2003 then 5 else if l=2004 then 3 else l) [(3,.ptr 2004 0 0),(5,.ptr 2003 0 0),(9,.fn (.func 387) [.rptr (a7.Pc v32)])] [(2003,vR (.I 0) 1),(2004,vR (.I a1) 1)]) ?_
  refine a11 (fn:=Tryz.f387) (N1:=29) J Tryz.func387 J J nl J c8k J J (λl33 e34 o35 hR36=>?_);refine b9Z<|g7<|b9Y<|S3 1 J<|cF h L3 J J λv33 _ h=>nL J l4<|S2 1 J<|g6<|lq h (λq=>St.of [(1000003,.ptr 2004 0 0),(1000005,.ptr 2003 0 0),(1000009,.fn (.func 387) [.rptr (a7.Pc v32)]),(0,.fn (.yield l33) []),(1,.rptr (a7.Pc v32)),(8,.L iF v33),(9,.I (v33.length:Int)),(10,.I q.1)] [(2003,vR (.I q.2) 1),(2004,vR (.I a1) 1)]) W λq38 x37 h hx40=>?_;obtain⟨s35,s36⟩:=q38;refine S4 1 J<|g7 ?_;refine cN h (λhc h=>?_) λhc h=>?_
  ·refine c5 ?_;refine jq h (λj50=>St.of [(1000003,.ptr 2004 0 0),(1000005,.ptr 2003 0 0),(1000009,.fn (.func 387) [.rptr (a7.Pc v32)]),(0,.fn (.yield l33) []),(1,.rptr (a7.Pc v32)),(8,.L iF v33),(9,.I (v33.length:Int)),(10,.I s35)] [(2003,vR (.I j50) 1),(2004,vR (.I a1) 1)]) (λj50 h=>?_) λκ49 h=>?_
   ·refine S6 2 J ?_;exact eL h W
   ·refine g6 ?_;refine sR<|iL h J J l4 o8 λv51 _ h=>S2 2 J<|S3 2 J<|cF h b24 J J λv52 _ h=>nL J l4<|S2 1 J<|g6<|lq h (λq=>St.of [(1000003,.ptr 2004 0 0),(1000005,.ptr 2003 0 0),(1000009,.fn (.func 387) [.rptr (a7.Pc v32)]),(0,.fn (.yield l33) []),(1,.rptr (a7.Pc v32)),(4,.I v51),(8,.L iF v33),(9,.I (v33.length:Int)),(10,.I s35),(16,.L iF v52),(17,.I (v52.length:Int)),(18,.I q.1)] [(2003,vR (.I q.2) 1),(2004,vR (.I a1) 1)]) W λq57 x56 h hx56=>?_;obtain⟨s54,s55⟩:=q57;refine S4 1 J<|g7 ?_;refine cN h (λhc h=>?_) λhc h=>?_
    ·refine c5 ?_;refine g7<|g6<|sR<|iL h J J l4 o8 λv58 _ h=>S2 2 J<|S3 3 J<|T1 (WE [(1000003,.ptr 2004 0 0),(1000005,.ptr 2003 0 0),(1000009,.fn (.func 387) [.rptr (a7.Pc v32)]),(0,.fn (.yield l33) []),(1,.rptr (a7.Pc v32)),(4,.I v51),(8,.L iF v33),(9,.I (v33.length:Int)),(10,.I s35),(16,.L iF v52),(17,.I (v52.length:Int)),(18,.I s54),(22,.fn (.yield l33) []),(23,.I v51),(24,.I v58)] [(2003,vR (.I s55) 1),(2004,vR (.I a1) 1)]) ?_;refine a7j hR36 J J J J J J (λe58 o59 o60=>?_);refine S6 1 J ?_;refine⟨J,?_⟩;refine jqE h (λj60=>St.of [(2000003,.ptr 2004 0 0),(2000005,.ptr 2003 0 0),(2000009,.fn (.func 387) [.rptr (a7.Pc v32)]),(1000000,.fn (.yield l33) []),(1000001,.rptr (a7.Pc v32)),(1000004,.I v51),(1000008,.L iF v33),(1000009,.I (v33.length:Int)),(1000010,.I s35),(1000016,.L iF v52),(1000017,.I (v52.length:Int)),(1000018,.I s54),(1000022,.fn (.yield l33) []),(1000023,.I v51),(1000024,.I v58)] [(2003,vR (.I j60) 1),(2004,vR (.I a1) 1)]) (λj60 h=>?_) λκ59 h=>?_
     ·refine⟨J,?_⟩;refine T1 (WE [(1000003,.ptr 2004 0 0),(1000005,.ptr 2003 0 0),(1000009,.fn (.func 387) [.rptr (a7.Pc v32)]),(0,.fn (.yield l33) []),(1,.rptr (a7.Pc v32)),(4,.I v51),(8,.L iF v33),(9,.I (v33.length:Int)),(10,.I s35),(16,.L iF v52),(17,.I (v52.length:Int)),(18,.I s54),(25,.bool true)] [(2003,vR (.I j60) 1),(2004,vR (.I a1) 1)])<|S2 1 J ?_;refine I3 false J (λq=>nomatch q) (λ_=>?_);refine c5<|S6 2 J ?_;exact eL h W
     ·refine g6 ?_;refine S4 3 J ?_;refine cN h (λhc h=>?_) λhc h=>?_
      ·refine S6 3 J ?_;exact eJ h W
      ·refine c5 ?_;exact eJ h W
    ·refine p6 ?_;refine c7<|c7<|k9 ?_;have h:=xL hx56 h;exact eJ h W
  ·refine p6 ?_;refine c7<|c7<|k9<|b54 ?_;refine .inl ⟨J,?_⟩;have h:=xL hx40 h;exact eJ h (WP (λl=>if l=2001 then 2003 else l))

theorem a7T{a0}:PO Tryz.prog 384 [.L c4.Pv a0] (a1n a0) λr=>.fn (.func 388) [.rptr [.L c4.Pv r]]:=by
 refine pO Tryz.func384 λr h _ _=>?_;unfold a1n at h;refine S4 2 J<|S4 2 J<|b9 ?_;cases h;exact f1

theorem b02{a0}:PO Tryz.prog 389 [.L c4.Pv a0] (a5K a0) λr=>.L iF r:=by
 refine pO Tryz.func389 λr h _ _=>?_;refine S4 1 J<|S4 1 J ?_;refine jq h (λj13=>St.of [(3,.sl 910003)] [(910003,⟨List.map iF j13,(List.map iF j13).length,true,1,true⟩)]) (λj13 h=>?_) λκ12 h=>?_
 ·refine S4 2 J ?_;refine b9 ?_;cases h;exact f1
 ·refine S3 1 J ?_;refine nL J Y5<|S2 1 J<|g6<|lq h (λq=>St.of [(3,.sl 910003),(6,.L c4.Pv a0),(7,.I (a0.length:Int)),(8,.I q.1)] [(910003,⟨List.map iF q.2,(List.map iF q.2).length,true,1,true⟩)]) (Wk.trans (I7 (t:=3) (l:=920003) (z:=1) J J) (WP (λl=>if l=910003 then 920003 else l))) λq18 x17 h hx12=>?_
  obtain⟨s15,s16⟩:=q18;refine S4 1 J<|g7 ?_;refine cN h (λhc h=>?_) λhc h=>?_
  ·refine c5 ?_;refine jq h (λj22=>St.of [(3,.sl 19),(6,.L c4.Pv a0),(7,.I (a0.length:Int)),(8,.I s15)] [(19,⟨List.map iF j22,(List.map iF j22).length,true,1,true⟩)]) (λj22 h=>?_) λκ21 h=>?_
   ·refine S6 2 J ?_;exact eL h (Wk.trans (p7 _ [19]) (WP (λl=>if l=910003 then 19 else l)))
   ·refine g6 ?_;refine sR<|iL h J J Y5 a0s λv23 _ h=>S2 3 J<|S4 3 J ?_;refine cN h (λhc h=>?_) λhc h=>?_
    ·refine S5 3 J ?_;refine y0 J (L1 (f:=iF) (l:=[v23.Key]) J l4 o8 C2 J J nl J J)<|z7 h λv24 hv17 h=>R2 J (O4 (f:=iF) hv17 J J J J J J (.inl ⟨_,J,J⟩) l4 o8 O7 C2 J (λ_=>J)) J J J<|S2 1 J ?_;exact eJ h (Wk.trans (p7 _ [19]) W)
    ·refine c5 ?_;exact eJ h (Wk.trans (p7 _ [910003]) (WP (λl=>if l=19 then 910003 else l)))
  ·refine p6 ?_;refine c7<|c7<|k9 ?_;have h:=xL hx12 h;exact eJ h (Wk.trans (p7 _ [910003]) W)

theorem b2b{a0 a1}:PO Tryz.prog 385 [n8.Pv a0,.rptr [.I a1]] (a2T a0 a1) λr=>.bool r:=by
 refine pO Tryz.func385 λr h _ _=>?_;unfold a2T at h;refine S4 2 J<|S3 3 J<|k7 J (λhg=>oF J b6j J)<|k7 J (λhg=>oS (ct hg) J J x6 J)<|k7 J (λhg=>G3 J x6 J)<|k7 J (λhg=>s6 (ct hg) (ct hg) J)<|y0 J (y8 J J J (λq=>eqT q))<|S2 1 J<|b9 ?_;cases h;exact f1

theorem J8{a0 a1}:PO Tryz.prog 383 [.fn (.func 388) [.rptr [.L c4.Pv a0]],.fn (.func 385) [.rptr [.I a1]]] (A9 a0 a1) λr=>.L n8.Pv r:=by
 refine pO Tryz.func383 λr h _ _=>?_;refine S4 2 J<|S4 1 J ?_;refine jq h (λj16=>St.of [(5,.ptr 2001 0 0)] [(2001,vS (.sl 912501) 1),(912501,⟨List.map n8.Pv j16,(List.map n8.Pv j16).length,true,2,true⟩)]) (λj16 h=>?_) λκ15 h=>?_
 ·refine S4 2 J ?_;refine b9 ?_;cases h;exact f1
 ·refine S4 1 J ?_;refine g6<|a3f (WPE (λl=>if l=2012 then 5 else if l=2013 then 3 else l) [(3,.ptr 2013 0 0),(5,.ptr 2012 0 0),(7,.fn (.func 388) [.rptr [.L c4.Pv a0]])] [(2012,vR (.nl) 1),(2013,vR (.fn (.func 385) [.rptr [.I a1]]) 1)]) ?_
  refine a11 (fn:=Tryz.f388) (N1:=27) J Tryz.func388 J J nl J c2n J J (λl20 e21 o22 hR23=>?_);refine S3 1 J<|cF h b02 J J λv17 _ h=>nL J l4<|S2 1 J<|g6<|lq h (λq=>St.of [(1000003,.ptr 2013 0 0),(1000005,.ptr 2012 0 0),(1000007,.fn (.func 388) [.rptr [.L c4.Pv a0]]),(0,.fn (.yield l20) []),(1,.rptr [.L c4.Pv a0]),(8,.L iF v17),(9,.I (v17.length:Int)),(10,.I q.1)] [(2012,vS (.sl 912512) 1),(2013,vR (.fn (.func 385) [.rptr [.I a1]]) 1),(912512,⟨List.map n8.Pv q.2,(List.map n8.Pv q.2).length,true,2,true⟩)]) (Wk.trans (b1Y (l0:=2012) (j:=0) (l:=922512) (z:=2) J J J J J) (WP (λl=>if l=912512 then 922512 else l))) λq22 x21 h hx27=>?_
  obtain⟨s19,s20⟩:=q22;refine S4 1 J<|g7 ?_;refine cN h (λhc h=>?_) λhc h=>?_
  ·refine c5 ?_;refine g7<|g6<|sR<|iL h J J l4 o8 λv23 _ h=>S2 2 J<|S3 2 J<|cA h a4Y J J λv24 _ h=>S2 5 J<|S3 3 J<|y0 J (u7 (cs:=[.I v23,.I v24.1]) J c2p a8J J J J)<|T1 (WPE (λl=>if l=2021 then 912512 else l) [(1000003,.ptr 2013 0 0),(1000005,.ptr 2012 0 0),(1000007,.fn (.func 388) [.rptr [.L c4.Pv a0]]),(0,.fn (.yield l20) []),(1,.rptr [.L c4.Pv a0]),(8,.L iF v17),(9,.I (v17.length:Int)),(10,.I s19),(20,.fn (.yield l20) []),(23,.agg [.I v23,.I v24.1])] [(2012,vS (.sl 2021) 1),(2021,⟨List.map n8.Pv s20,(List.map n8.Pv s20).length,true,2,true⟩),(2013,vR (.fn (.func 385) [.rptr [.I a1]]) 1)]) ?_
   refine a7j hR23 J J J J J J (λe30 o31 o32=>?_);refine S6 2 J ?_;refine⟨J,?_⟩;refine jqE h (λj28=>St.of [(2000003,.ptr 2013 0 0),(2000005,.ptr 2012 0 0),(2000007,.fn (.func 388) [.rptr [.L c4.Pv a0]]),(1000000,.fn (.yield l20) []),(1000001,.rptr [.L c4.Pv a0]),(1000008,.L iF v17),(1000009,.I (v17.length:Int)),(1000010,.I s19),(1000020,.fn (.yield l20) []),(1000023,.agg [.I v23,.I v24.1])] [(2012,vS (.sl 15) 1),(15,⟨List.map n8.Pv j28,(List.map n8.Pv j28).length,true,2,true⟩),(2013,vR (.fn (.func 385) [.rptr [.I a1]]) 1)]) (λj28 h=>?_) λκ27 h=>?_
   ·refine⟨J,?_⟩;refine T1 (WPE (λl=>if l=2022 then 15 else l) [(1000003,.ptr 2013 0 0),(1000005,.ptr 2012 0 0),(1000007,.fn (.func 388) [.rptr [.L c4.Pv a0]]),(0,.fn (.yield l20) []),(1,.rptr [.L c4.Pv a0]),(8,.L iF v17),(9,.I (v17.length:Int)),(10,.I s19),(24,.bool true)] [(2012,vS (.sl 2022) 1),(2022,⟨List.map n8.Pv j28,(List.map n8.Pv j28).length,true,2,true⟩),(2013,vR (.fn (.func 385) [.rptr [.I a1]]) 1)])<|S2 1 J ?_
    refine I3 false J (λq=>nomatch q) (λ_=>?_);refine c5<|S6 2 J ?_;exact eL h (Wk.trans (p7 _ [2022]) (WP (λl=>if l=912512 then 2022 else l)))
   ·refine g6 ?_;refine S3 2 J<|cA h b2b J J λv29 _ h=>yN ?_;refine cN h (λhc h=>?_) λhc h=>?_
    ·refine S5 2 J ?_;refine y0 J (L1 (f:=n8.Pv) (l:=[(⟨v23,v24.1⟩:n8)]) J a6n b0A a8J J J nl J J)<|z7 h λv30 hv37 h=>R2 J (O4 (f:=n8.Pv) hv37 J J J J J J (.inl ⟨_,J,J⟩) a6n b0A c2j a8J J (λ_=>J)) J J J<|S2 1 J ?_;exact eJ h (Wk.trans (p7 _ [15]) W)
    ·refine c5 ?_;exact eJ h (Wk.trans (p7 _ [2021]) (WP (λl=>if l=15 then 2021 else l)))
  ·refine p6 ?_;refine c7<|c7<|k9 ?_;refine .inl ⟨J,?_⟩;have h:=xL hx27 h;exact eJ h (Wk.trans (p7 _ [912512]) (WP (λl=>if l=2001 then 2012 else if l=912501 then 912512 else l)))

theorem b4q{a0 a1}:PO Tryz.prog 376 [.L c4.Pv a0,.I a1] (a4V a0 a1) λr=>.I r:=by
 refine pO Tryz.func376 λr h _ _=>?_;refine S4 2 J<|S3 1 J<|cF h a7T J J λv1 _ h=>S1 1 J<|z7 h λv2 hv2 h=>ycL J (A5 J J8 J hv2) J<|nL J a6n<|S2 1 J<|b9 ?_;cases h;exact f1

theorem b5t{a0 a1 a2}:PO Tryz.prog 358 [a7.Pv a0,.L c4.Pv a1,.I a2] (a5g a0 a1 a2) λr=>.I r:=by
 refine pO Tryz.func358 λr h _ _=>?_;refine S4 2 J<|S3 2 J<|cA h c1L J J λv1 _ h=>S1 2 J<|cA h b4q J J λv2 _ h=>S2 2 J<|b9 ?_;cases h;exact f1

theorem b58{a0 a1 a2}:PO Tryz.prog 329 [a7.Pv a0,.L c4.Pv a1,.I a2] (a7f a0 a1 a2) λr=>.I r:=by
 refine pO Tryz.func329 λr h _ _=>?_;refine S4 2 J<|S3 2 J<|cF h C4 J J λv1 _ h=>S2 6 J<|g7<|S4 2 J ?_;refine cN h (λhc h=>?_) λhc h=>?_
 ·refine S4 1 J ?_;refine b9 ?_;cases h;exact f1
 ·refine c5 ?_;refine dr [] w9 (by kernel_rfl) (by kernel_rfl)<|S7 5 J<|z7 h λv2 hv2 h=>d2 J (G7 J b5t J hv2) J<|S8 2 J<|b9 ?_
  cases h;exact f1

theorem b4k{a0}:PO Tryz.prog 330 [.I a0] (a7R a0) λr=>.bool r:=by
 refine pO Tryz.func330 λr h _ _=>?_;refine S4 1 J<|S3 1 J<|cA h a0d J J λv1 _ h=>S2 1 J<|b9 ?_;cases h;exact f1

theorem b3r{a0 a1 a2 a3}:PO Tryz.prog 328 [.I a0,m8.Pv a1,.rptr (a7.Pc a2),.rptr [.L c4.Pv a3]] (a7e a0 a1 a2 a3) λr=>.bool r:=by
 refine pO Tryz.func328 λr h _ _=>?_;refine S4 2 J<|S3 3 J<|cA h b58 J J λv1 _ h=>S1 2 J<|k7 J (λhg=>oF J c3O J)<|k7 J (λhg=>oS (ct hg) J J x6 J)<|z7 h λv2 hv2 h=>k7 J (λhg=>G7 J b4k (F8 (ct hg) J) (G8 hv2 hg))<|y0 J (x8 J J J (λq=>U0 q))<|S2 1 J<|b9 ?_;cases h;exact f1

theorem b57{a0 a1}:PO Tryz.prog 261 [a7.Pv a0,.L c4.Pv a1] (a7d a0 a1) λr=>.L iF r:=by
 refine pO Tryz.func261 λr h _ _=>?_;refine S4 3 J<|S3 1 J<|y0 J (u7 (cs:=[.fn (.func 328) [.ptr 2 0 0,.ptr 3 0 0]]) J c8x c8K J J J)<|T1 (a7z 7 (d':=.agg [.fn (.func 328) [.ptr 2 0 0,.ptr 3 0 0]]) J)<|S2 2 J<|S3 2 J<|T1 (WPE (λl=>if l=2001 then 3 else if l=2002 then 2 else l) [(8,.agg [.fn (.func 328) [.ptr 2002 0 0,.ptr 2001 0 0]]),(9,a7.Pv a0)] [(2001,vR (.L c4.Pv a1) 1),(2002,vR (a7.Pv a0) 3)]) ?_
 refine b63 (fn:=Tryz.f331) (N1:=34) J J Tryz.func331 J c8g J J nl (λe1 o2=>?_);refine jqR h (λj36=>St.of [(1000008,.agg [.fn (.func 328) [.ptr 2002 0 0,.ptr 2001 0 0]]),(1000009,a7.Pv a0),(4,.sl 910005)] [(910005,⟨List.map iF j36,(List.map iF j36).length,true,1,true⟩),(2001,vR (.L c4.Pv a1) 1),(2002,vR (a7.Pv a0) 3)]) (λj36 h=>dup ?_) λκ35 h=>?_
 ·refine⟨J,[.sl 910005],⟨J,tr⟩,?_⟩;refine T1 (WPE (λl=>if l=2003 then 910005 else l) [(10,.sl 2003)] [(2003,⟨List.map iF j36,(List.map iF j36).length,true,1,true⟩)])<|S2 1 J<|b9 ?_
  cases h;exact f1
 ·refine S4 3 J ?_;refine S4 1 J ?_;refine jq h (λj54=>St.of [(1000008,.agg [.fn (.func 328) [.ptr 2002 0 0,.ptr 2001 0 0]]),(1000009,a7.Pv a0),(5,.sl 910005)] [(910005,⟨List.map iF j54,(List.map iF j54).length,true,1,true⟩),(2001,vR (.L c4.Pv a1) 1),(2002,vR (a7.Pv a0) 3)]) (λj54 h=>?_) λκ53 h=>?_
  ·refine S4 2 J ?_;refine b9 ?_;exact eJ h (Wk.trans (p7 _ [910005]) W)
  ·refine S3 1 J ?_;refine cF h L3 J J λv55 _ h=>nL J l4<|S2 1 J<|g6<|lq h (λq=>St.of [(1000008,.agg [.fn (.func 328) [.ptr 2002 0 0,.ptr 2001 0 0]]),(1000009,a7.Pv a0),(2,.ptr 2 0 0),(3,.ptr 3 0 0),(5,.sl 910005),(11,.L iF v55),(12,.I (v55.length:Int)),(13,.I q.1)] [(3,vR (a7.Pv a0) 3),(2,vS (.agg [.fn (.func 328) [.ptr 2002 0 0,.ptr 2001 0 0]]) 1),(2001,vR (.L c4.Pv a1) 1),(2002,vR (a7.Pv a0) 3),(910005,⟨List.map iF q.2,(List.map iF q.2).length,true,1,true⟩)]) (Wk.trans (I7 (t:=5) (l:=920005) (z:=1) J J) (WP (λl=>if l=910005 then 920005 else l))) λq60 x59 h hx48=>?_
   obtain⟨s57,s58⟩:=q60;refine S4 1 J<|g7 ?_;refine cN h (λhc h=>?_) λhc h=>?_
   ·refine c5 ?_;refine jq h (λj66=>St.of [(1000008,.agg [.fn (.func 328) [.ptr 2002 0 0,.ptr 2001 0 0]]),(1000009,a7.Pv a0),(2,.ptr 2 0 0),(3,.ptr 3 0 0),(5,.sl 31),(11,.L iF v55),(12,.I (v55.length:Int)),(13,.I s57)] [(31,⟨List.map iF j66,(List.map iF j66).length,true,1,true⟩),(3,vR (a7.Pv a0) 3),(2,vS (.agg [.fn (.func 328) [.ptr 2002 0 0,.ptr 2001 0 0]]) 1),(2001,vR (.L c4.Pv a1) 1),(2002,vR (a7.Pv a0) 3)]) (λj66 h=>?_) λκ65 h=>?_
    ·refine S6 2 J ?_;exact eL h (Wk.trans (p7 _ [31]) (WP (λl=>if l=910005 then 31 else l)))
    ·refine g6 ?_;refine sR<|iL h J J l4 o8 λv67 _ h=>S2 2 J<|S3 2 J<|cF h C4 J J λv68 _ h=>S2 6 J<|S3 4 J<|cA h b3r J J λv69 _ h=>yN ?_;refine cN h (λhc h=>?_) λhc h=>?_
     ·refine S5 2 J ?_;refine y0 J (L1 (f:=iF) (l:=[v67]) J l4 o8 C2 J J nl J J)<|z7 h λv70 hv57 h=>R2 J (O4 (f:=iF) hv57 J J J J J J (.inl ⟨_,J,J⟩) l4 o8 O7 C2 J (λ_=>J)) J J J<|S2 1 J ?_;exact eJ h (Wk.trans (p7 _ [31]) W)
     ·refine c5 ?_;exact eJ h (Wk.trans (p7 _ [910005]) (WP (λl=>if l=31 then 910005 else l)))
   ·refine p6 ?_;refine c7<|c7<|k9 ?_;have h:=xL hx48 h;exact eJ h (Wk.trans (p7 _ [910005]) W)

theorem b2v{a0}:PO Tryz.prog 366 [.I a0] (a2Z a0) λr=>l6.Pv r:=by
 refine pO Tryz.func366 λr h _ _=>?_;unfold a2Z at h;refine S4 1 J<|S3 1 J<|y0 J (u7 (cs:=[.nl,.I a0]) J c8z c8M J J J)<|a6j (x':=.agg [.nl,.I a0]) (cl':=true) J J (.inl J) a4Q<|yN<|b9 ?_;cases h;exact⟨J,[_],⟨oL J J J a8F a4Q nl J,tr⟩,J,io⟩

theorem a7v{a0 a1}:PO Tryz.prog 368 [a7.Pv a0,.I a1] (a0D a0 a1) λr=>.bool r:=by
 refine pO Tryz.func368 λr h _ _=>?_;refine S4 2 J<|S3 2 J<|cF h C4 J J λv1 _ h=>S2 6 J<|S4 3 J<|b9 ?_;cases h;exact f1

theorem U8{a0}:PO Tryz.prog 370 [l6.Pv a0] (L2 a0) λr=>.I r:=by
 refine pO Tryz.func370 λr h _ _=>?_;unfold L2 at h;refine S4 2 J<|S3 2 J<|nL J l4<|S2 1 J<|b9 ?_;cases h;exact f1

theorem a12{a0 a1 a2}:PO Tryz.prog 377 [.L iF a0,.I a1,.I a2] (P3 a0 a1 a2) λr=>.lst true (List.map iF r):=by
 refine pO Tryz.func377 λr h _ _=>?_;unfold P3 at h;refine S4 1 J<|S3 4 J<|z7 h λv1 hv1 h=>y0 J (c6E (f:=iF) hv1 J ⟨_,J⟩ ⟨_,J⟩ ⟨_,J⟩ J J l4 o8 (λ_=>J))<|S2 1 J<|b9 ?_;cases h;exact f1

theorem a48{a0 a1}:PO Tryz.prog 369 [l6.Pv a0,.I a1] (P2 a0 a1) λr=>.tup [l6.Pv r.1,.I r.2]:=by
 refine pO Tryz.func369 λr h _ _=>?_;unfold P2 at h;refine S4 3 J<|g7<|dr [] w9 (by kernel_rfl) (by kernel_rfl)<|S7 1 J<|z7 h λv1 hv1 h=>d2 J (G7 J U8 J hv1) J<|S8 3 J ?_
 refine cN h (λhc h=>?_) λhc h=>?_
 ·refine S4 3 J ?_;refine b9 ?_;cases h;exact⟨J,[_,_],⟨oL J J J a8F a4Q nl J,⟨J,tr⟩⟩,J,io⟩
 ·refine c5 ?_;refine dr [] w9 (by kernel_rfl) (by kernel_rfl)<|S7 3 J<|d2 J (G7 J U8 J hv1) J<|z7 h λv2 hv2 h=>d2f J (A5 J a12 J hv2) J<|S7 1 J<|d1n J (L1 (f:=iF) (l:=[a1]) J l4 o8 C2 J J nl J J) J<|z7 h λv3 hv3 h=>d3 J (b6L (f:=iF) hv3 J J (.inl ⟨_,J,J⟩) l4 o8 O7 C2 J (λ_=>J)) J J J<|S7 1 J<|F2 (x':=.agg [.sl 19,.I a0.Cap]) (cl':=false) J J (.inl J) a9Z<|Q0<|S4 3 J<|b9 ?_
  cases h;exact⟨J,[_,_],⟨oL J J J a8F a4Q nl J,⟨J,tr⟩⟩,J,io⟩

theorem b0l{a0 a1}:PO Tryz.prog 378 [l6.Pv a0,.I a1] (a3v a0 a1) λr=>.tup [l6.Pv r.1,.L iF r.2]:=by
 refine pO Tryz.func378 λr h _ _=>?_;refine S4 3 J<|S3 2 J<|cA h U8 J J λv1 hv1 h=>y0 J (d0R J J J)<|y0 J (c6F J J J)<|S2 1 J<|S3 3 J<|cF h a12 J J λv2 _ h=>S2 1 J<|dr [] w9 (by kernel_rfl) (by kernel_rfl)<|S7 4 J<|d2 J (G7 J U8 J hv1) J<|z7 h λv3 hv3 h=>d2f J (A5 J a12 J hv3) J<|S7 1 J<|F2 (x':=.agg [.L iF v3,.I a0.Cap]) (cl':=true) J J (.inr J) a9Z<|Q0<|S4 4 J<|b9 ?_
 cases h;exact⟨J,[_,_],⟨oL J J J a8F a4Q nl J,⟨J,tr⟩⟩,J,io⟩

theorem b2w{a0}:PO Tryz.prog 371 [l6.Pv a0] (a0X a0) λr=>.tup [l6.Pv r.1,.I r.2.1,.I r.2.2]:=by
 refine pO Tryz.func371 λr h _ _=>?_;refine S4 4 J<|S3 1 J<|cF h b0l J J λv1 _ h=>S2 6 J<|g7<|S3 1 J<|nL J l4<|S2 1 J ?_;refine cN h (λhc h=>?_) λhc h=>?_
 ·refine S4 1 J ?_;refine S4 5 J<|b9 ?_;cases h;exact⟨J,[_,_,_],⟨oL J J J a8F a4Q nl J,⟨J,⟨J,tr⟩⟩⟩,J,io⟩
 ·refine c5 ?_;refine dr [2,3] w9 (by kernel_rfl) (by kernel_rfl)<|S7 2 J<|z7 h λv2 hv2 h=>d7 J (λ_ hN=>D2 (f:=iF) (cs:=[.I v2]) hv2 J J l4 o8 J J) J<|d7 J (λ_ hN=>G3 J x6 J) J<|F2 (x':=l6.Pv v1.1) (cl':=true) J J (.inr J) a4Q<|S8 2 J<|b9 ?_
  cases h;exact⟨J,[_,_,_],⟨oL J J J a8F a4Q nl J,⟨J,⟨J,tr⟩⟩⟩,J,io⟩

theorem a7w{a0 a1}:PO Tryz.prog 354 [a7.Pv a0,.L iF a1] (a14 a0 a1) λr=>.abs (W6 (List.map (ent iF PV.bool) r)):=by
 refine pO Tryz.func354 λr h _ _=>?_;refine S4 2 J<|sR<|c0H (KT:=Int) (VT:=Bool) (EK:=iF) (E:=PV.bool) 5000009 J J<|S2 2 J<|S3 1 J<|cF h L3 J J λv1 _ h=>nL J l4<|cF h b2v J J λv2 _ h=>S2 2 J<|S4 2 J<|S3 2 J<|T1 (WPE (λl=>if l=2001 then 6 else if l=2002 then 5 else if l=2003 then 2 else if l=5002004 then 5000009 else l) [(2,.ptr 2003 0 0),(5,.ptr 2002 0 0),(6,.ptr 2001 0 0),(7,.fn (.func 367) [.ptr 2003 0 0,.ptr 2002 0 0,.ptr 2001 0 0]),(15,.fn (.func 367) [.ptr 2003 0 0,.ptr 2002 0 0,.ptr 2001 0 0]),(16,.L iF a1)] [(2001,vR (l6.Pv v2) 2),(2002,vS (.mp 5002004) 1),(5002004,⟨[.mapc (List.map (ent iF PV.bool) [])],0,false,0,false⟩),(2003,vR (a7.Pv a0) 3)]) ?_
 refine b63 (fn:=Tryz.f367) (N1:=31) J J Tryz.func367 J c2m J J nl (λe3 o4=>?_);refine jqR h (λq=>St.of [(1000002,.ptr 2003 0 0),(1000005,.ptr 2002 0 0),(1000006,.ptr 2001 0 0),(1000007,.fn (.func 367) [.ptr 2003 0 0,.ptr 2002 0 0,.ptr 2001 0 0]),(1000015,.fn (.func 367) [.ptr 2003 0 0,.ptr 2002 0 0,.ptr 2001 0 0]),(1000016,.L iF a1)] [(2001,vR (l6.Pv q.1) 2),(2002,vS (.mp 5002004) 1),(5002004,⟨[.mapc (List.map (ent iF PV.bool) q.2)],0,false,0,false⟩),(2003,vR (a7.Pv a0) 3)]) (λq22 h=>dup ?_) λκ19 h=>?_
 ·obtain⟨j20,j21⟩:=q22;refine⟨J,[],tr,?_⟩;refine T1 (WE [(2,.ptr 2003 0 0),(5,.ptr 2002 0 0),(6,.ptr 2001 0 0),(7,.fn (.func 367) [.ptr 2003 0 0,.ptr 2002 0 0,.ptr 2001 0 0])] [(2001,vR (l6.Pv j20) 2),(2002,vS (.mp 5002004) 1),(5002004,⟨[.mapc (List.map (ent iF PV.bool) j21)],0,false,0,false⟩),(2003,vR (a7.Pv a0) 3)])<|yN ?_;refine jq h (λj68=>St.of [(5,.ptr 2002 0 0)] [(2002,vS (.mp 5002004) 1),(5002004,⟨[.mapc (List.map (ent iF PV.bool) j68)],0,false,0,false⟩)]) (λj68 h=>?_) λκ67 h=>?_
  ·refine S4 2 J ?_;refine a3f (c18 4 5002004 J J)<|b9 ?_;cases h;exact f1
  ·refine g6 ?_;refine lq h (λq=>St.of [(2,.ptr 2003 0 0),(5,.ptr 2002 0 0),(6,.ptr 2001 0 0),(7,.fn (.func 367) [.ptr 2003 0 0,.ptr 2002 0 0,.ptr 2001 0 0])] [(2001,vR (l6.Pv q.1) 2),(2002,vS (.mp 5002004) 1),(5002004,⟨[.mapc (List.map (ent iF PV.bool) q.2)],0,false,0,false⟩),(2003,vR (a7.Pv a0) 3)]) W λq73 x72 h hx54=>?_;obtain⟨s70,s71⟩:=q73;refine g7<|S3 1 J<|cA h U8 J J λv74 _ h=>S2 1 J ?_;refine cN h (λhc h=>?_) λhc h=>?_
   ·refine c5 ?_;refine g6<|S4 1 J<|S3 1 J<|cF h b2w J J λv75 _ h=>S2 6 J<|S5 3 J<|cF h b24 J J λv76 _ h=>T1 (WE [(2,.ptr 2003 0 0),(5,.ptr 2002 0 0),(6,.ptr 2001 0 0),(7,.fn (.func 367) [.ptr 2003 0 0,.ptr 2002 0 0,.ptr 2001 0 0]),(27,.fn (.func 367) [.ptr 2003 0 0,.ptr 2002 0 0,.ptr 2001 0 0]),(30,.L iF v76)] [(2001,vR (l6.Pv v75.1) 2),(2002,vS (.mp 5002004) 1),(5002004,⟨[.mapc (List.map (ent iF PV.bool) s71)],0,false,0,false⟩),(2003,vR (a7.Pv a0) 3)]) ?_;refine b63 (fn:=Tryz.f367) (N1:=31) J J Tryz.func367 J c2m J J nl (λe58 o59=>?_);refine jqR h (λq=>St.of [(1000002,.ptr 2003 0 0),(1000005,.ptr 2002 0 0),(1000006,.ptr 2001 0 0),(1000007,.fn (.func 367) [.ptr 2003 0 0,.ptr 2002 0 0,.ptr 2001 0 0]),(1000027,.fn (.func 367) [.ptr 2003 0 0,.ptr 2002 0 0,.ptr 2001 0 0]),(1000030,.L iF v76)] [(2001,vR (l6.Pv q.1) 2),(2002,vS (.mp 5002004) 1),(5002004,⟨[.mapc (List.map (ent iF PV.bool) q.2)],0,false,0,false⟩),(2003,vR (a7.Pv a0) 3)]) (λq96 h=>dup ?_) λκ93 h=>?_
    ·obtain⟨j94,j95⟩:=q96;refine⟨J,[],tr,?_⟩;refine T1 (WE [(2,.ptr 2003 0 0),(5,.ptr 2002 0 0),(6,.ptr 2001 0 0),(7,.fn (.func 367) [.ptr 2003 0 0,.ptr 2002 0 0,.ptr 2001 0 0])] [(2001,vR (l6.Pv j94) 2),(2002,vS (.mp 5002004) 1),(5002004,⟨[.mapc (List.map (ent iF PV.bool) j95)],0,false,0,false⟩),(2003,vR (a7.Pv a0) 3)])<|yN ?_;exact eL h W
    ·refine S3 1 J ?_;refine nL J l4<|S2 1 J<|g6<|lq h (λq=>St.of [(1000002,.ptr 2003 0 0),(1000005,.ptr 2002 0 0),(1000006,.ptr 2001 0 0),(1000007,.fn (.func 367) [.ptr 2003 0 0,.ptr 2002 0 0,.ptr 2001 0 0]),(1000027,.fn (.func 367) [.ptr 2003 0 0,.ptr 2002 0 0,.ptr 2001 0 0]),(1000030,.L iF v76),(1,.ptr 2003 0 0),(2,.ptr 2002 0 0),(3,.ptr 2001 0 0),(7,.L iF v76),(8,.I (v76.length:Int)),(9,.I q.1)] [(2001,vR (l6.Pv q.2.1) 2),(2002,vS (.mp 5002004) 1),(5002004,⟨[.mapc (List.map (ent iF PV.bool) q.2.2)],0,false,0,false⟩),(2003,vR (a7.Pv a0) 3)]) W λq102 x101 h hx75=>?_;obtain⟨s98,s99,s100⟩:=q102;refine S4 1 J<|g7 ?_;refine cN h (λhc h=>?_) λhc h=>?_
     ·refine c5 ?_;refine jq h (λq=>St.of [(1000002,.ptr 2003 0 0),(1000005,.ptr 2002 0 0),(1000006,.ptr 2001 0 0),(1000007,.fn (.func 367) [.ptr 2003 0 0,.ptr 2002 0 0,.ptr 2001 0 0]),(1000027,.fn (.func 367) [.ptr 2003 0 0,.ptr 2002 0 0,.ptr 2001 0 0]),(1000030,.L iF v76),(1,.ptr 2003 0 0),(2,.ptr 2002 0 0),(3,.ptr 2001 0 0),(7,.L iF v76),(8,.I (v76.length:Int)),(9,.I s98)] [(2001,vR (l6.Pv q.1) 2),(2002,vS (.mp 5002004) 1),(5002004,⟨[.mapc (List.map (ent iF PV.bool) q.2)],0,false,0,false⟩),(2003,vR (a7.Pv a0) 3)]) (λq109 h=>?_) λκ106 h=>?_
      ·obtain⟨j107,j108⟩:=q109;refine S6 2 J ?_;exact eL h W
      ·refine g6 ?_;refine sR<|iL h J J l4 o8 λv110 _ h=>S2 2 J<|S3 2 J<|cA h a7v J J λv111 _ h=>S1 1 J<|k7 J (λhg=>oS J J J c2f J)<|k7 J (λhg=>mI J) ?_;rcases Bool.eq_false_or_eq_true (v111==true) with hg83 | hg83
       ·have h:=ifT h hg83;refine c7M (es:=s100) (k:=v110) (E:=PV.bool) (EK:=iF) (d:=.bool ((B5 s100 v110).getD (false:Bool))) (congrArg some hg83) (ct hg83) J (ct hg83) a21 (A8 L4) b9f J (lk1 _ _ _)<|y0 (congrArg some hg83) (a1s J J)<|y0 J (a6Q J J hg83)<|yN ?_;refine cN h (λhc h=>?_) λhc h=>?_
        ·refine S3 2 J ?_;refine a0R (es:=s100) (k:=v110) (v:=true) (E:=PV.bool) (EK:=iF) (.inl J) J J J J J J a21 (A8 L4)<|yN<|S5 2 J<|cF h a48 J J λv112 _ h=>S2 4 J ?_;exact eJ h W
        ·refine c5 ?_;exact eJ h W
       ·have h:=ifF h hg83;refine a2d (congrArg some hg83)<|a2d (congrArg some hg83)<|y0 J (a8U J J hg83)<|yN ?_;refine I3 false J (λq=>nomatch q) (λ_=>?_);refine c5 ?_;exact eJ h W
     ·refine p6 ?_;refine c7<|c7<|k9 ?_;have h:=xL hx75 h;exact eJ h W
   ·refine p6 ?_;refine c7<|c7<|k9 ?_;have h:=xL hx54 h;exact eJ h W
 ·refine S3 1 J ?_;refine nL J l4<|S2 1 J<|g6<|lq h (λq=>St.of [(1000002,.ptr 2003 0 0),(1000005,.ptr 2002 0 0),(1000006,.ptr 2001 0 0),(1000007,.fn (.func 367) [.ptr 2003 0 0,.ptr 2002 0 0,.ptr 2001 0 0]),(1000015,.fn (.func 367) [.ptr 2003 0 0,.ptr 2002 0 0,.ptr 2001 0 0]),(1000016,.L iF a1),(1,.ptr 2003 0 0),(2,.ptr 2002 0 0),(3,.ptr 2001 0 0),(7,.L iF a1),(8,.I (a1.length:Int)),(9,.I q.1)] [(2001,vR (l6.Pv q.2.1) 2),(2002,vS (.mp 5002004) 1),(5002004,⟨[.mapc (List.map (ent iF PV.bool) q.2.2)],0,false,0,false⟩),(2003,vR (a7.Pv a0) 3)]) W λq118 x117 h hx87=>?_;obtain⟨s114,s115,s116⟩:=q118;refine S4 1 J<|g7 ?_;refine cN h (λhc h=>?_) λhc h=>?_
  ·refine c5 ?_;refine jq h (λq=>St.of [(1000002,.ptr 2003 0 0),(1000005,.ptr 2002 0 0),(1000006,.ptr 2001 0 0),(1000007,.fn (.func 367) [.ptr 2003 0 0,.ptr 2002 0 0,.ptr 2001 0 0]),(1000015,.fn (.func 367) [.ptr 2003 0 0,.ptr 2002 0 0,.ptr 2001 0 0]),(1000016,.L iF a1),(1,.ptr 2003 0 0),(2,.ptr 2002 0 0),(3,.ptr 2001 0 0),(7,.L iF a1),(8,.I (a1.length:Int)),(9,.I s114)] [(2001,vR (l6.Pv q.1) 2),(2002,vS (.mp 5002004) 1),(5002004,⟨[.mapc (List.map (ent iF PV.bool) q.2)],0,false,0,false⟩),(2003,vR (a7.Pv a0) 3)]) (λq125 h=>?_) λκ122 h=>?_
   ·obtain⟨j123,j124⟩:=q125;refine S6 2 J ?_;exact eL h W
   ·refine g6 ?_;refine sR<|iL h J J l4 o8 λv126 _ h=>S2 2 J<|S3 2 J<|cA h a7v J J λv127 _ h=>S1 1 J<|k7 J (λhg=>oS J J J c2f J)<|k7 J (λhg=>mI J) ?_;rcases Bool.eq_false_or_eq_true (v127==true) with hg95 | hg95
    ·have h:=ifT h hg95;refine c7M (es:=s116) (k:=v126) (E:=PV.bool) (EK:=iF) (d:=.bool ((B5 s116 v126).getD (false:Bool))) (congrArg some hg95) (ct hg95) J (ct hg95) a21 (A8 L4) b9f J (lk1 _ _ _)<|y0 (congrArg some hg95) (a1s J J)<|y0 J (a6Q J J hg95)<|yN ?_;refine cN h (λhc h=>?_) λhc h=>?_
     ·refine S3 2 J ?_;refine a0R (es:=s116) (k:=v126) (v:=true) (E:=PV.bool) (EK:=iF) (.inl J) J J J J J J a21 (A8 L4)<|yN<|S5 2 J<|cF h a48 J J λv128 _ h=>S2 4 J ?_;exact eJ h W
     ·refine c5 ?_;exact eJ h W
    ·have h:=ifF h hg95;refine a2d (congrArg some hg95)<|a2d (congrArg some hg95)<|y0 J (a8U J J hg95)<|yN ?_;refine I3 false J (λq=>nomatch q) (λ_=>?_);refine c5 ?_;exact eJ h W
  ·refine p6 ?_;refine c7<|c7<|k9 ?_;have h:=xL hx87 h;exact eJ h W

theorem b3m{a0 a1}:PO Tryz.prog 379 [.I a0,.rptr [.abs (W6 (List.map (ent iF PV.bool) a1))]] (a3N a0 a1) λr=>.bool r:=by
 refine pO Tryz.func379 λr h _ _=>?_;unfold a3N at h;refine S4 1 J<|S3 2 J<|y0 J (b9Q (es:=a1) (k:=a0) (E:=PV.bool) (EK:=iF) (d:=.bool ((B5 a1 a0).getD (false:Bool))) J J a21 (A8 L4) b9f J (lk1 _ _ _))<|S2 1 J<|b9 ?_;cases h;exact f1

theorem a3P{a0 a1}:PO Tryz.prog 355 [a7.Pv a0,.fn (.func 379) [.rptr [.abs (W6 (List.map (ent iF PV.bool) a1))]]] (R8 a0 a1) λr=>.L iF r:=by
 refine pO Tryz.func355 λr h _ _=>?_;refine S4 2 J<|S4 1 J ?_;refine jq h (λj16=>St.of [(5,.sl 910005)] [(910005,⟨List.map iF j16,(List.map iF j16).length,true,1,true⟩)]) (λj16 h=>?_) λκ15 h=>?_
 ·refine S4 2 J ?_;refine b9 ?_;cases h;exact f1
 ·refine S3 1 J ?_;refine cF h L3 J J λv17 _ h=>nL J l4<|S2 1 J<|g6<|lq h (λq=>St.of [(1,.fn (.func 379) [.rptr [.abs (W6 (List.map (ent iF PV.bool) a1))]]),(5,.sl 910005),(9,.L iF v17),(10,.I (v17.length:Int)),(11,.I q.1)] [(910005,⟨List.map iF q.2,(List.map iF q.2).length,true,1,true⟩)]) (Wk.trans (I7 (t:=5) (l:=920005) (z:=1) J J) (WP (λl=>if l=910005 then 920005 else l))) λq22 x21 h hx16=>?_
  obtain⟨s19,s20⟩:=q22;refine S4 1 J<|g7 ?_;refine cN h (λhc h=>?_) λhc h=>?_
  ·refine c5 ?_;refine jq h (λj27=>St.of [(1,.fn (.func 379) [.rptr [.abs (W6 (List.map (ent iF PV.bool) a1))]]),(5,.sl 21),(9,.L iF v17),(10,.I (v17.length:Int)),(11,.I s19)] [(21,⟨List.map iF j27,(List.map iF j27).length,true,1,true⟩)]) (λj27 h=>?_) λκ26 h=>?_
   ·refine S6 2 J ?_;exact eL h (Wk.trans (p7 _ [21]) (WP (λl=>if l=910005 then 21 else l)))
   ·refine g6 ?_;refine sR<|iL h J J l4 o8 λv28 _ h=>S2 2 J<|S3 2 J<|cA h b3m J J λv29 _ h=>yN ?_;refine cN h (λhc h=>?_) λhc h=>?_
    ·refine S5 2 J ?_;refine y0 J (L1 (f:=iF) (l:=[v28]) J l4 o8 C2 J J nl J J)<|z7 h λv30 hv23 h=>R2 J (O4 (f:=iF) hv23 J J J J J J (.inl ⟨_,J,J⟩) l4 o8 O7 C2 J (λ_=>J)) J J J<|S2 1 J ?_;exact eJ h (Wk.trans (p7 _ [21]) W)
    ·refine c5 ?_;exact eJ h (Wk.trans (p7 _ [910005]) (WP (λl=>if l=21 then 910005 else l)))
  ·refine p6 ?_;refine c7<|c7<|k9 ?_;have h:=xL hx16 h;exact eJ h (Wk.trans (p7 _ [910005]) W)

theorem a9S{a0 a1}:PO Tryz.prog 373 [a7.Pv a0,.L iF a1] (a4s a0 a1) λr=>.L iF r:=by
 refine pO Tryz.func373 λr h _ _=>?_;refine S4 2 J<|S3 2 J<|cF h a7w J J λv1 _ h=>S2 2 J<|S3 2 J<|z7 h λv2 hv2 h=>ycL J (A5 J a3P J hv2) J<|S2 1 J<|b9 ?_;cases h;exact f1

theorem b2c{a0}:PO Tryz.prog 386 [n8.Pv a0] (a2U a0) λr=>.bool r:=by
 refine pO Tryz.func386 λr h _ _=>?_;unfold a2U at h;refine S4 2 J<|S4 1 J<|b9 ?_;cases h;exact f1

theorem J9{a0}:PO Tryz.prog 383 [.fn (.func 388) [.rptr [.L c4.Pv a0]],.fn (.func 386) []] (B0 a0) λr=>.L n8.Pv r:=by
 refine pO Tryz.func383 λr h _ _=>?_;refine S4 2 J<|S4 1 J ?_;refine jq h (λj16=>St.of [(5,.ptr 2001 0 0)] [(2001,vS (.sl 912501) 1),(912501,⟨List.map n8.Pv j16,(List.map n8.Pv j16).length,true,2,true⟩)]) (λj16 h=>?_) λκ15 h=>?_
 ·refine S4 2 J ?_;refine b9 ?_;cases h;exact f1
 ·refine S4 1 J ?_;refine g6<|a3f (WPE (λl=>if l=2012 then 5 else if l=2013 then 3 else l) [(3,.ptr 2013 0 0),(5,.ptr 2012 0 0),(7,.fn (.func 388) [.rptr [.L c4.Pv a0]])] [(2012,vR (.nl) 1),(2013,vR (.fn (.func 386) []) 1)]) ?_
  refine a11 (fn:=Tryz.f388) (N1:=27) J Tryz.func388 J J nl J c2n J J (λl20 e21 o22 hR23=>?_);refine S3 1 J<|cF h b02 J J λv17 _ h=>nL J l4<|S2 1 J<|g6<|lq h (λq=>St.of [(1000003,.ptr 2013 0 0),(1000005,.ptr 2012 0 0),(1000007,.fn (.func 388) [.rptr [.L c4.Pv a0]]),(0,.fn (.yield l20) []),(1,.rptr [.L c4.Pv a0]),(8,.L iF v17),(9,.I (v17.length:Int)),(10,.I q.1)] [(2012,vS (.sl 912512) 1),(2013,vR (.fn (.func 386) []) 1),(912512,⟨List.map n8.Pv q.2,(List.map n8.Pv q.2).length,true,2,true⟩)]) (Wk.trans (b1Y (l0:=2012) (j:=0) (l:=922512) (z:=2) J J J J J) (WP (λl=>if l=912512 then 922512 else l))) λq22 x21 h hx27=>?_
  obtain⟨s19,s20⟩:=q22;refine S4 1 J<|g7 ?_;refine cN h (λhc h=>?_) λhc h=>?_
  ·refine c5 ?_;refine g7<|g6<|sR<|iL h J J l4 o8 λv23 _ h=>S2 2 J<|S3 2 J<|cA h a4Y J J λv24 _ h=>S2 5 J<|S3 3 J<|y0 J (u7 (cs:=[.I v23,.I v24.1]) J c2p a8J J J J)<|T1 (WPE (λl=>if l=2021 then 912512 else l) [(1000003,.ptr 2013 0 0),(1000005,.ptr 2012 0 0),(1000007,.fn (.func 388) [.rptr [.L c4.Pv a0]]),(0,.fn (.yield l20) []),(1,.rptr [.L c4.Pv a0]),(8,.L iF v17),(9,.I (v17.length:Int)),(10,.I s19),(20,.fn (.yield l20) []),(23,.agg [.I v23,.I v24.1])] [(2012,vS (.sl 2021) 1),(2021,⟨List.map n8.Pv s20,(List.map n8.Pv s20).length,true,2,true⟩),(2013,vR (.fn (.func 386) []) 1)]) ?_
   refine a7j hR23 J J J J J J (λe30 o31 o32=>?_);refine S6 2 J ?_;refine⟨J,?_⟩;refine jqE h (λj28=>St.of [(2000003,.ptr 2013 0 0),(2000005,.ptr 2012 0 0),(2000007,.fn (.func 388) [.rptr [.L c4.Pv a0]]),(1000000,.fn (.yield l20) []),(1000001,.rptr [.L c4.Pv a0]),(1000008,.L iF v17),(1000009,.I (v17.length:Int)),(1000010,.I s19),(1000020,.fn (.yield l20) []),(1000023,.agg [.I v23,.I v24.1])] [(2012,vS (.sl 15) 1),(15,⟨List.map n8.Pv j28,(List.map n8.Pv j28).length,true,2,true⟩),(2013,vR (.fn (.func 386) []) 1)]) (λj28 h=>?_) λκ27 h=>?_
   ·refine⟨J,?_⟩;refine T1 (WPE (λl=>if l=2022 then 15 else l) [(1000003,.ptr 2013 0 0),(1000005,.ptr 2012 0 0),(1000007,.fn (.func 388) [.rptr [.L c4.Pv a0]]),(0,.fn (.yield l20) []),(1,.rptr [.L c4.Pv a0]),(8,.L iF v17),(9,.I (v17.length:Int)),(10,.I s19),(24,.bool true)] [(2012,vS (.sl 2022) 1),(2022,⟨List.map n8.Pv j28,(List.map n8.Pv j28).length,true,2,true⟩),(2013,vR (.fn (.func 386) []) 1)])<|S2 1 J ?_
    refine I3 false J (λq=>nomatch q) (λ_=>?_);refine c5<|S6 2 J ?_;exact eL h (Wk.trans (p7 _ [2022]) (WP (λl=>if l=912512 then 2022 else l)))
   ·refine g6 ?_;refine S3 2 J<|cA h b2c J J λv29 _ h=>yN ?_;refine cN h (λhc h=>?_) λhc h=>?_
    ·refine S5 2 J ?_;refine y0 J (L1 (f:=n8.Pv) (l:=[(⟨v23,v24.1⟩:n8)]) J a6n b0A a8J J J nl J J)<|z7 h λv30 hv37 h=>R2 J (O4 (f:=n8.Pv) hv37 J J J J J J (.inl ⟨_,J,J⟩) a6n b0A c2j a8J J (λ_=>J)) J J J<|S2 1 J ?_;exact eJ h (Wk.trans (p7 _ [15]) W)
    ·refine c5 ?_;exact eJ h (Wk.trans (p7 _ [2021]) (WP (λl=>if l=15 then 2021 else l)))
  ·refine p6 ?_;refine c7<|c7<|k9 ?_;refine .inl ⟨J,?_⟩;have h:=xL hx27 h;exact eJ h (Wk.trans (p7 _ [912512]) (WP (λl=>if l=2001 then 2012 else if l=912501 then 912512 else l)))

theorem b4r{a0}:PO Tryz.prog 381 [.L c4.Pv a0] (a4W a0) λr=>.L n8.Pv r:=by
 refine pO Tryz.func381 λr h _ _=>?_;refine S4 1 J<|S3 1 J<|cF h a7T J J λv1 _ h=>cF h J9 J J λv2 _ h=>S2 1 J<|b9 ?_;cases h;exact f1

theorem a9M{a0 a1}:PO Tryz.prog 380 [.I a0,.rptr (a7.Pc a1)] (a4f a0 a1) λr=>.bool r:=by
 refine pO Tryz.func380 λr h _ _=>?_;refine S4 1 J<|S3 2 J<|cF h C4 J J λv1 _ h=>S2 6 J<|S4 3 J<|b9 ?_;cases h;exact f1

theorem b7x{a0 a1 a2}:PON Tryz.prog 374 [a7.Pv a0,.L c4.Pv a1,.L iF a2] (b0R a0 a1 a2) λr=>⟨List.map iF r,(List.map iF r).length,true,1,true⟩:=by
 refine pON Tryz.func374 λr h _ _=>?_;refine S4 2 J<|S4 2 J<|S4 1 J ?_;refine jq h (λj20=>St.of [(8,.sl 910008)] [(910008,⟨List.map iF j20,(List.map iF j20).length,true,1,true⟩)]) (λj20 h=>?_) λκ19 h=>?_
 ·refine S4 2 J ?_;refine a3f (p7 _ [910008])<|b9 ?_;cases h;exact⟨J,_,_,J,J,J,J⟩
 ·refine S3 1 J ?_;refine cF h b4r J J λv21 _ h=>nL J a6n<|S2 1 J<|g6<|lq h (λq=>St.of [(2,.L iF a2),(7,.fn (.func 380) [.ptr 3 0 0]),(8,.sl 910008),(13,.L n8.Pv v21),(14,.I (v21.length:Int)),(15,.I q.1)] [(3,vR (a7.Pv a0) 3),(910008,⟨List.map iF q.2,(List.map iF q.2).length,true,1,true⟩)]) (Wk.trans (I7 (t:=8) (l:=920008) (z:=1) J J) (WP (λl=>if l=910008 then 920008 else l))) λq26 x25 h hx20=>?_
  obtain⟨s23,s24⟩:=q26;refine S4 1 J<|g7 ?_;refine cN h (λhc h=>?_) λhc h=>?_
  ·refine c5 ?_;refine jq h (λj33=>St.of [(2,.L iF a2),(7,.fn (.func 380) [.ptr 3 0 0]),(8,.sl 39),(13,.L n8.Pv v21),(14,.I (v21.length:Int)),(15,.I s23)] [(39,⟨List.map iF j33,(List.map iF j33).length,true,1,true⟩),(3,vR (a7.Pv a0) 3)]) (λj33 h=>?_) λκ32 h=>?_
   ·refine S6 2 J ?_;exact eL h (Wk.trans (p7 _ [39]) (WP (λl=>if l=910008 then 39 else l)))
   ·refine g6 ?_;refine sR<|iL h J J a6n b0A λv34 _ h=>S2 3 J<|S3 3 J<|cA h P6 J J λv35 _ h=>S1 1 J<|k7 J (λhg=>om (d:=.fn (.func 380) [.ptr 3 0 0]) J)<|k7 J (λhg=>oF J c3Y J)<|k7 J (λhg=>oS (ct hg) J J x6 J)<|z7 h λv36 hv29 h=>k7 J (λhg=>G7 (ct hg) a9M (F8 (ct hg) J) (G8 hv29 hg))<|y0 J (y8 J J J (λq=>eqT q))<|S1 1 J<|k7 J (λhg=>om (d:=.fn (.func 380) [.ptr 3 0 0]) J)<|k7 J (λhg=>oF J b6j J)<|k7 J (λhg=>oS (ct hg) J J x6 J)<|z7 h λv37 hv30 h=>k7 J (λhg=>G7 (ct hg) a9M (F8 (ct hg) J) (G8 hv30 hg))<|y0 J (y8 J J J (λq=>eqT q))<|yN ?_;refine cN h (λhc h=>?_) λhc h=>?_
    ·refine S5 3 J ?_;refine y0 J (L1 (f:=iF) (l:=[v34.Val]) J l4 o8 C2 J J nl J J)<|z7 h λv38 hv31 h=>R2 J (O4 (f:=iF) hv31 J J J J J J (.inl ⟨_,J,J⟩) l4 o8 O7 C2 J (λ_=>J)) J J J<|S2 1 J ?_;exact eJ h (Wk.trans (p7 _ [39]) W)
    ·refine c5 ?_;exact eJ h (Wk.trans (p7 _ [910008]) (WP (λl=>if l=39 then 910008 else l)))
  ·refine p6 ?_;refine c7<|c7<|k9 ?_;have h:=xL hx20 h;exact eJ h (Wk.trans (p7 _ [910008]) W)

theorem b7w{a0 a1 a2}:PO Tryz.prog 357 [a7.Pv a0,.L c4.Pv a1,.L iF a2] (a8O a0 a1 a2) λr=>.tup [.L iF r.1,.I r.2]:=by
 refine pO Tryz.func357 λr h _ _=>?_;refine S4 3 J<|b9Z<|S3 2 J<|cF h a9S J J λv1 _ h=>S2 1 J<|g7<|b9Y<|g6<|lq h (λq=>St.of [(1,.L c4.Pv a1),(3,.ptr 3 0 0),(6,.L iF q.1),(7,.I q.2)] [(3,vR (a7.Pv a0) 3)]) W λq6 x5 h hx4=>?_;obtain⟨s3,s4⟩:=q6;refine g6<|S3 3 J<|z7 h λv7 hv5 h=>ycN J (b6M J b7x J hv5) J J<|S2 1 J ?_;refine jq h (λ_=>St.of [(6,.L iF s3),(7,.I s4)] []) (λq16 h=>?_) λκ15 h=>?_
 ·refine S4 4 J ?_;refine b9 ?_;have h:=xL hx4 h;cases h;exact f2
 ·refine S3 1 J ?_;refine y0 J (c26 (f:=iF) J J J l4)<|S2 1 J<|g6<|lq h (λs18=>St.of [(1,.L c4.Pv a1),(3,.ptr 3 0 0),(6,.L iF s3),(7,.I s4),(8,.sl 17),(18,.sl 17),(19,.I (v7.length:Int)),(20,.I s18)] [(17,⟨List.map iF v7,(List.map iF v7).length,true,1,true⟩),(3,vR (a7.Pv a0) 3)]) (Wk.trans (p7 _ [17]) W) λs18 x19 h hx16=>S4 1 J<|g7 ?_;refine cN h (λhc h=>?_) λhc h=>?_
  ·refine c5 ?_;refine g7<|g6<|sR<|z7 h λv20 hv17 h=>y0 J (a3B (f:=iF) hv17 J J J J l4 o8 J)<|y0 J (b4R (f:=iF) hv17 J J J x6 J)<|S2 1 J<|S3 2 J<|cA h P6 J J λv21 _ h=>S2 1 J ?_;refine cN h (λhc h=>?_) λhc h=>?_
   ·refine dr [4] w9 (by kernel_rfl) (by kernel_rfl) ?_
    refine S7 3 J<|z7 h λv22 hv19 h=>d3a J (O4 (f:=iF) hv19 J J J J J J (.inl ⟨_,J,J⟩) l4 o8 O7 C2 J (λ_=>J)) J J J J J<|z7 h λv23 hv20 h=>d5f J (A5 J a9S J hv20) J J<|S8 1 J<|S4 3 J<|p6<|a3F (by decide)<|c7<|c7<|a3F (by decide)<|c7<|k9 ?_
    have h:=xL hx16 h;exact eL h W
   ·refine c5 ?_;refine S6 2 J ?_;exact eL h (Wk.trans (p7 _ [17]) W)
  ·refine p6 ?_;refine c7<|c7<|k9 ?_;have h:=xL hx16 h;exact eJ h W

theorem b9q{a0 a1 a2}:PO Tryz.prog 327 [a7.Pv a0,.L c4.Pv a1,.L iF a2] (b0Q a0 a1 a2) λr=>.L iF r:=by
 refine pO Tryz.func327 λr h _ _=>?_;refine S4 2 J<|S3 3 J<|cF h b7w J J λv1 _ h=>S2 5 J<|S4 2 J<|b9 ?_;cases h;exact f1

theorem b3n{a0 a1}:PO Tryz.prog 356 [.I a0,.rptr [.abs (W6 (List.map (ent iF PV.bool) a1))]] (a3O a0 a1) λr=>.bool r:=by
 refine pO Tryz.func356 λr h _ _=>?_;unfold a3O at h;refine S4 1 J<|S3 2 J<|y0 J (b9Q (es:=a1) (k:=a0) (E:=PV.bool) (EK:=iF) (d:=.bool ((B5 a1 a0).getD (false:Bool))) J J a21 (A8 L4) b9f J (lk1 _ _ _))<|S2 2 J<|b9 ?_;cases h;exact f1

theorem a3Q{a0 a1}:PO Tryz.prog 355 [a7.Pv a0,.fn (.func 356) [.rptr [.abs (W6 (List.map (ent iF PV.bool) a1))]]] (R9 a0 a1) λr=>.L iF r:=by
 refine pO Tryz.func355 λr h _ _=>?_;refine S4 2 J<|S4 1 J ?_;refine jq h (λj16=>St.of [(5,.sl 910005)] [(910005,⟨List.map iF j16,(List.map iF j16).length,true,1,true⟩)]) (λj16 h=>?_) λκ15 h=>?_
 ·refine S4 2 J ?_;refine b9 ?_;cases h;exact f1
 ·refine S3 1 J ?_;refine cF h L3 J J λv17 _ h=>nL J l4<|S2 1 J<|g6<|lq h (λq=>St.of [(1,.fn (.func 356) [.rptr [.abs (W6 (List.map (ent iF PV.bool) a1))]]),(5,.sl 910005),(9,.L iF v17),(10,.I (v17.length:Int)),(11,.I q.1)] [(910005,⟨List.map iF q.2,(List.map iF q.2).length,true,1,true⟩)]) (Wk.trans (I7 (t:=5) (l:=920005) (z:=1) J J) (WP (λl=>if l=910005 then 920005 else l))) λq22 x21 h hx16=>?_
  obtain⟨s19,s20⟩:=q22;refine S4 1 J<|g7 ?_;refine cN h (λhc h=>?_) λhc h=>?_
  ·refine c5 ?_;refine jq h (λj27=>St.of [(1,.fn (.func 356) [.rptr [.abs (W6 (List.map (ent iF PV.bool) a1))]]),(5,.sl 21),(9,.L iF v17),(10,.I (v17.length:Int)),(11,.I s19)] [(21,⟨List.map iF j27,(List.map iF j27).length,true,1,true⟩)]) (λj27 h=>?_) λκ26 h=>?_
   ·refine S6 2 J ?_;exact eL h (Wk.trans (p7 _ [21]) (WP (λl=>if l=910005 then 21 else l)))
   ·refine g6 ?_;refine sR<|iL h J J l4 o8 λv28 _ h=>S2 2 J<|S3 2 J<|cA h b3n J J λv29 _ h=>yN ?_;refine cN h (λhc h=>?_) λhc h=>?_
    ·refine S5 2 J ?_;refine y0 J (L1 (f:=iF) (l:=[v28]) J l4 o8 C2 J J nl J J)<|z7 h λv30 hv23 h=>R2 J (O4 (f:=iF) hv23 J J J J J J (.inl ⟨_,J,J⟩) l4 o8 O7 C2 J (λ_=>J)) J J J<|S2 1 J ?_;exact eJ h (Wk.trans (p7 _ [21]) W)
    ·refine c5 ?_;exact eJ h (Wk.trans (p7 _ [910005]) (WP (λl=>if l=21 then 910005 else l)))
  ·refine p6 ?_;refine c7<|c7<|k9 ?_;have h:=xL hx16 h;exact eJ h (Wk.trans (p7 _ [910005]) W)

theorem b52{a0 a1}:PO Tryz.prog 326 [a7.Pv a0,.L iF a1] (a6Z a0 a1) λr=>.L iF r:=by
 refine pO Tryz.func326 λr h _ _=>?_;refine S4 2 J<|S3 2 J<|cF h a7w J J λv1 _ h=>S2 2 J<|S3 2 J<|z7 h λv2 hv2 h=>ycL J (A5 J a3Q J hv2) J<|S2 1 J<|b9 ?_;cases h;exact f1

theorem b9r{a0 a1 a2}:PO Tryz.prog 260 [a7.Pv a0,.L c4.Pv a1,.L iF a2] (a7V a0 a1 a2) λr=>.L iF r:=by
 refine pO Tryz.func260 λr h _ _=>?_;unfold a7V at h;refine S4 2 J<|dr [] w9 (by kernel_rfl) (by kernel_rfl)<|S7 4 J<|z7 h λv1 hv1 h=>d2f J (A5 J b9q J hv1) J<|z7 h λv2 hv2 h=>d2f J (A5 J b52 J hv2) J<|S8 1 J<|b9 ?_
 cases h;exact f1

theorem b2P{a0 a1}:PO Tryz.prog 177 [a7.Pv a0,.L c4.Pv a1] (a02 a0 a1) λr=>.L iF r:=by
 refine pO Tryz.func177 λr h _ _=>?_;unfold a02 at h;refine S4 2 J<|dr [] w9 (by kernel_rfl) (by kernel_rfl)<|S7 4 J<|z7 h λv1 hv1 h=>d2f J (A5 J b57 J hv1) J<|z7 h λv2 hv2 h=>d2f J (A5 J b9r J hv2) J<|S8 1 J<|b9 ?_
 cases h;exact f1

theorem a08{a0}:PO Tryz.prog 108 [b7.Pv a0] (M9 a0) λr=>.L iF r:=by
 refine pO Tryz.func108 λr h _ _=>?_;refine S4 2 J<|S3 4 J<|cF h b2P J J λv1 _ h=>S2 1 J<|b9 ?_;cases h;exact f1

theorem a96{a0 a1}:PO Tryz.prog 166 [.I a0,.rptr (b7.Pc a1)] (a3p a0 a1) λr=>.bool r:=by
 refine pO Tryz.func166 λr h _ _=>?_;refine S4 1 J<|S3 3 J<|cF h C4 J J λv1 _ h=>S2 6 J<|S3 4 J<|k7 J (λhg=>oF J b6a J)<|k7 J (λhg=>oS (ct hg) J J b0y J)<|k7 J (λhg=>a1s (ct hg) J)<|y0 J (y8 J J J (λq=>eqT q))<|S2 1 J<|b9 ?_;cases h;exact f1

theorem a0L{a0 a1}:PO Tryz.prog 165 [.L iF a0,.fn (.func 166) [.rptr (b7.Pc a1)]] (H3 a0 a1) λr=>.L iF r:=by
 refine pO Tryz.func165 λr h _ _=>?_;refine S4 1 J<|S4 1 J ?_;refine jq h (λj15=>St.of [(5,.sl 910005)] [(910005,⟨List.map iF j15,(List.map iF j15).length,true,1,true⟩)]) (λj15 h=>?_) λκ14 h=>?_
 ·refine S4 2 J ?_;refine b9 ?_;cases h;exact f1
 ·refine S3 1 J ?_;refine nL J l4<|S2 1 J<|g6<|lq h (λq=>St.of [(1,.fn (.func 166) [.rptr (b7.Pc a1)]),(5,.sl 910005),(8,.L iF a0),(9,.I (a0.length:Int)),(10,.I q.1)] [(910005,⟨List.map iF q.2,(List.map iF q.2).length,true,1,true⟩)]) (Wk.trans (I7 (t:=5) (l:=920005) (z:=1) J J) (WP (λl=>if l=910005 then 920005 else l))) λq20 x19 h hx14=>?_
  obtain⟨s17,s18⟩:=q20;refine S4 1 J<|g7 ?_;refine cN h (λhc h=>?_) λhc h=>?_
  ·refine c5 ?_;refine jq h (λj25=>St.of [(1,.fn (.func 166) [.rptr (b7.Pc a1)]),(5,.sl 20),(8,.L iF a0),(9,.I (a0.length:Int)),(10,.I s17)] [(20,⟨List.map iF j25,(List.map iF j25).length,true,1,true⟩)]) (λj25 h=>?_) λκ24 h=>?_
   ·refine S6 2 J ?_;exact eL h (Wk.trans (p7 _ [20]) (WP (λl=>if l=910005 then 20 else l)))
   ·refine g6 ?_;refine sR<|iL h J J l4 o8 λv26 _ h=>S2 2 J<|S3 2 J<|cA h a96 J J λv27 _ h=>yN ?_;refine cN h (λhc h=>?_) λhc h=>?_
    ·refine S5 2 J ?_;refine y0 J (L1 (f:=iF) (l:=[v26]) J l4 o8 C2 J J nl J J)<|z7 h λv28 hv21 h=>R2 J (O4 (f:=iF) hv21 J J J J J J (.inl ⟨_,J,J⟩) l4 o8 O7 C2 J (λ_=>J)) J J J<|S2 1 J ?_;exact eJ h (Wk.trans (p7 _ [20]) W)
    ·refine c5 ?_;exact eJ h (Wk.trans (p7 _ [910005]) (WP (λl=>if l=20 then 910005 else l)))
  ·refine p6 ?_;refine c7<|c7<|k9 ?_;have h:=xL hx14 h;exact eJ h (Wk.trans (p7 _ [910005]) W)

theorem b17{a0}:PO Tryz.prog 105 [b7.Pv a0] (a2Q a0) λr=>.L iF r:=by
 refine pO Tryz.func105 λr h _ _=>?_;refine S4 2 J<|S3 1 J<|cF h a08 J J λv1 _ h=>S1 1 J<|z7 h λv2 hv2 h=>ycL J (A5 J a0L J hv2) J<|S2 1 J<|b9 ?_;cases h;exact f1

theorem a97{a0}:PO Tryz.prog 60 [b7.Pv a0] (W7 a0) λr=>.tup [b7.Pv r.1,.I r.2.1,.I r.2.2]:=by
 refine pO Tryz.func60 λr h _ _=>?_;refine S4 4 J<|S3 1 J<|cF h b17 J J λv1 _ h=>S2 1 J ?_;refine jq h (λj10=>St.of [(1,.ptr 1 0 0),(2,.ptr 2 0 0),(5,.L iF v1)] [(2,vR (.agg [.nl,.I 0,.I 0,.nl,.nl,.nl,.nl,.I 0]) 8),(1,vR (b7.Pv j10) 8)]) (λj10 h=>?_) λκ9 h=>?_
 ·refine g7 ?_;refine S3 1 J<|nL J l4<|S2 1 J ?_;refine cN h (λhc h=>?_) λhc h=>?_
  ·refine S3 2 J ?_;refine nL J l4<|S2 3 J<|b9 ?_;cases h;exact⟨J,[_,_,_],⟨oL J J J u6 p8 nl J,⟨J,⟨J,tr⟩⟩⟩,J,io⟩
  ·refine c5 ?_;refine dr [] w9 (by kernel_rfl) (by kernel_rfl)<|S7 2 J<|z7 h λv11 hv8 h=>d2f J (A5 J a08 J hv8) J<|z7 h λv12 hv9 h=>d2f J (A5 J a8x J hv9) J<|z7 h λv13 hv10 h=>d2f J (A5 J a0E J hv10) J<|S7 1 J<|F2 (x':=b7.Pv v13) (cl':=true) J J (.inr J) p8<|Q0<|dr [4,8] w9 (by kernel_rfl) (by kernel_rfl)<|S7 3 J<|z7 h λv14 hv11 h=>d2f J (A5 J L3 J hv11) J<|d7 J (λ_ hN=>Z8 (f:=iF) J l4) J<|S7 2 J<|z7 h λv15 hv12 h=>d2f J (A5 J L3 J hv12) J<|d7 J (λ_ hN=>Z8 (f:=iF) J l4) J<|S7 1 J<|F2 (x':=b7.Pv v13) (cl':=true) J J (.inr J) p8<|S8 2 J<|b9 ?_
   cases h;exact⟨J,[_,_,_],⟨oL J J J u6 p8 nl J,⟨J,⟨J,tr⟩⟩⟩,J,io⟩
 ·refine S3 1 J ?_;refine nL J l4<|S2 1 J<|g6<|lq h (λq=>St.of [(1,.ptr 1 0 0),(2,.ptr 2 0 0),(5,.L iF v1),(11,.L iF v1),(12,.I (v1.length:Int)),(13,.I q.1)] [(2,vR (.agg [.nl,.I 0,.I 0,.nl,.nl,.nl,.nl,.I 0]) 8),(1,vR (b7.Pv q.2) 8)]) W λq20 x19 h hx15=>?_;obtain⟨s17,s18⟩:=q20;refine S4 1 J<|g7 ?_;refine cN h (λhc h=>?_) λhc h=>?_
  ·refine c5 ?_;refine g7<|g6<|sR<|iL h J J l4 o8 λv21 _ h=>S2 2 J<|S5 2 J<|cF h a6b J J λv22 _ h=>S2 1 J<|S6 2 J ?_;exact eL h W
  ·refine p6 ?_;refine c7<|c7<|k9 ?_;have h:=xL hx15 h;exact eJ h W

theorem a5v{a0 a1}:PO Tryz.prog 294 [c9.Pv a0,.I a1] (Z2 a0 a1) λr=>.tup [c9.Pv r.1,.L k8.Pv r.2]:=by
 refine pO Tryz.func294 λr h _ _=>?_;refine S4 3 J<|S3 2 J<|cA h O1 J J λv1 hv1 h=>y0 J (d0R J J J)<|y0 J (c6F J J J)<|S2 1 J<|S3 3 J<|cF h U9 J J λv2 _ h=>S2 1 J<|dr [] w9 (by kernel_rfl) (by kernel_rfl)<|S7 4 J<|d2 J (G7 J O1 J hv1) J<|z7 h λv3 hv3 h=>d2f J (A5 J U9 J hv3) J<|S7 1 J<|F2 (x':=.agg [.L k8.Pv v3,.I a0.Cap]) (cl':=true) J J (.inr J) c5c<|Q0<|S4 4 J<|b9 ?_
 cases h;exact⟨J,[_,_],⟨oL J J J a5k a1H nl J,⟨J,tr⟩⟩,J,io⟩

theorem a6V{a0}:PO Tryz.prog 222 [c9.Pv a0] (a0P a0) λr=>.tup [c9.Pv r.1,k8.Pv r.2.1,.I r.2.2]:=by
 refine pO Tryz.func222 λr h _ _=>?_;refine S4 4 J<|S3 1 J<|cF h a5v J J λv1 _ h=>S2 6 J<|g7<|S3 1 J<|nL J a35<|S2 1 J ?_;refine cN h (λhc h=>?_) λhc h=>?_
 ·refine S4 1 J ?_;refine dr [1,1007] w9 (by kernel_rfl) (by kernel_rfl)<|S7 1 J<|d7 J (λ_ hN=>a6M (cs:=[.I 0,.I 0,.I 0]) hN J J J J a1D K4 nl J) J<|F2 (x':=c9.Pv a0) (cl':=true) J J (.inr J) a1H<|F2 (x':=.agg [.I 0,.I 0,.I 0]) (cl':=true) J J (.inl J) K4<|S8 1 J<|b9 ?_
  cases h;exact⟨J,[_,_,_],⟨oL J J J a5k a1H nl J,⟨oL J J J a1D K4 nl J,⟨J,tr⟩⟩⟩,J,io⟩
 ·refine c5 ?_;refine dr [2,3] w9 (by kernel_rfl) (by kernel_rfl)<|S7 2 J<|z7 h λv2 hv2 h=>d7 J (λ_ hN=>D2 (f:=k8.Pv) (cs:=k8.Pc v2) hv2 J J a35 K4 J J) J<|d7 J (λ_ hN=>b9R J a1D K4 nl J) J<|F2 (x':=c9.Pv v1.1) (cl':=true) J J (.inr J) a1H<|F2 (x':=k8.Pv v2) (cl':=true) J J (.inl J) K4<|S8 1 J<|b9 ?_
  cases h;exact⟨J,[_,_,_],⟨oL J J J a5k a1H nl J,⟨oL J J J a1D K4 nl J,⟨J,tr⟩⟩⟩,J,io⟩

theorem a7b{a0}:PO Tryz.prog 129 [c9.Pv a0] (a1A a0) λr=>.tup [c9.Pv r.1,k8.Pv r.2.1,.I r.2.2]:=by
 refine pO Tryz.func129 λr h _ _=>?_;refine S4 4 J<|S3 1 J<|cF h a6V J J λv1 _ h=>S2 6 J<|b9 ?_;cases h;exact⟨J,[_,_,_],⟨oL J J J a5k a1H nl J,⟨oL J J J a1D K4 nl J,⟨J,tr⟩⟩⟩,J,io⟩

theorem a4b{a0}:PO Tryz.prog 72 [b7.Pv a0] (a1m a0) λr=>.bool r:=by
 refine pO Tryz.func72 λr h _ _=>?_;refine S4 2 J<|S3 2 J<|cF h a7b J J λv1 _ h=>S2 9 J<|S4 3 J<|b9 ?_;cases h;exact f1

theorem a9L{a0 a1}:PO Tryz.prog 262 [.L (Ls g9.Pv) a0,.I a1] (a4c a0 a1) λr=>.L g9.Pv r:=by
 refine pO Tryz.func262 λr h _ _=>?_;refine S4 1 J<|g7<|S3 3 J<|k7 J (λhg=>mI J)<|k7 J (λhg=>om (d:=.L (Ls g9.Pv) a0) J)<|k7 J (λhg=>Z8 (f:=(Ls g9.Pv)) (ct hg) a6m)<|k7 J (λhg=>s6 (ct hg) (ct hg) J)<|y0 J (x8 J J J (λq=>U0 q))<|yN ?_;refine cN h (λhc h=>?_) λhc h=>?_
 ·refine S4 1 J ?_;refine b9 ?_;cases h;exact f1
 ·refine c5 ?_;refine S3 2 J<|iL h J J a6m b3x λv1 _ h=>S2 2 J<|b9 ?_;cases h;exact f1

theorem b5S{a0 a1}:PO Tryz.prog 179 [.L (Ls g9.Pv) a0,k8.Pv a1] (a6u a0 a1) λr=>.I r:=by
 refine pO Tryz.func179 λr h _ _=>?_;refine S4 2 J<|S3 3 J<|cF h a9L J J λv1 _ h=>nL J a4M<|S2 2 J<|b9 ?_;cases h;exact f1

theorem b4M{a0 a1}:PO Tryz.prog 264 [b7.Pv a0,.L g9.Pv a1] (a29 a0 a1) λr=>.tup [b7.Pv r.1,.L iF r.2]:=by
 refine pO Tryz.func264 λr h _ _=>?_;refine S4 3 J<|S4 1 J ?_;refine jq h (λq=>St.of [(2,.ptr 2 0 0),(4,.ptr 4 0 0),(6,.sl 910006)] [(910006,⟨List.map iF q.2,(List.map iF q.2).length,true,1,true⟩),(4,vR (.agg [.nl,.I 0,.I 0,.nl,.nl,.nl,.nl,.I 0]) 8),(2,vR (b7.Pv q.1) 8)]) (λq13 h=>?_) λκ10 h=>?_
 ·obtain⟨j11,j12⟩:=q13;refine S4 4 J<|b9 ?_;cases h;exact⟨J,[_,_],⟨oL J J J u6 p8 nl J,⟨J,tr⟩⟩,J,io⟩
 ·refine S3 1 J ?_;refine nL J a4M<|S2 1 J<|g6<|lq h (λq=>St.of [(2,.ptr 2 0 0),(4,.ptr 4 0 0),(6,.sl 910006),(10,.L g9.Pv a1),(11,.I (a1.length:Int)),(12,.I q.1)] [(4,vR (.agg [.nl,.I 0,.I 0,.nl,.nl,.nl,.nl,.I 0]) 8),(2,vR (b7.Pv q.2.1) 8),(910006,⟨List.map iF q.2.2,(List.map iF q.2.2).length,true,1,true⟩)]) (Wk.trans (I7 (t:=6) (l:=920006) (z:=1) J J) (WP (λl=>if l=910006 then 920006 else l))) λq19 x18 h hx10=>?_
  obtain⟨s15,s16,s17⟩:=q19;refine S4 1 J<|g7 ?_;refine cN h (λhc h=>?_) λhc h=>?_
  ·refine c5 ?_;refine g7<|g6<|sR<|iL h J J a4M a4O λv20 _ h=>S2 3 J<|S4 1 J<|S3 2 J<|cF h a9P J J λv21 _ h=>S2 6 J<|S5 2 J<|y0 J (L1 (f:=iF) (l:=[v21.2.1]) J l4 o8 C2 J J nl J J)<|z7 h λv22 hv13 h=>R2 J (O4 (f:=iF) hv13 J J J J J J (.inl ⟨_,J,J⟩) l4 o8 O7 C2 J (λ_=>J)) J J J<|S2 1 J<|S6 2 J ?_;exact eL h (Wk.trans (p7 _ [26]) (WP (λl=>if l=910006 then 26 else l)))
  ·refine p6 ?_;refine c7<|c7<|k9 ?_;have h:=xL hx10 h;exact eJ h (Wk.trans (p7 _ [910006]) W)

theorem b5T{a0 a1}:PO Tryz.prog 180 [b7.Pv a0,.L (Ls g9.Pv) a1] (a6v a0 a1) λr=>.tup [b7.Pv r.1,k8.Pv r.2.1,.I r.2.2]:=by
 refine pO Tryz.func180 λr h _ _=>?_;refine S4 4 J<|S3 2 J<|cF h a7b J J λv1 _ h=>S2 9 J<|g7<|S4 2 J ?_;refine cN h (λhc h=>?_) λhc h=>?_
 ·refine S3 1 J ?_;refine y0 J (u7 (cs:=[.I 0,.I 0,.I 0]) J b66 b0C J J J)<|S2 4 J<|b9 ?_;cases h;exact⟨J,[_,_,_],⟨oL J J J u6 p8 nl J,⟨oL J J J a1D K4 nl J,⟨J,tr⟩⟩⟩,J,io⟩
 ·refine c5 ?_;refine S4 3 J<|S4 4 J ?_;refine jq h (λj6=>St.of [(1,.L (Ls g9.Pv) a1),(2,.ptr 2 0 0),(4,.ptr 4 0 0),(5,.ptr 5 0 0),(8,.ptr 8 0 0),(10,.bool (v1.2.1.Kind==1))] [(8,vR (k8.Pv v1.2.1) 3),(5,vR (.agg [.I 0,.I 0,.I 0]) 3),(4,vR (.agg [.nl,.I 0,.I 0,.nl,.nl,.nl,.nl,.I 0]) 8),(2,vR (b7.Pv j6) 8)]) (λj6 h=>?_) λκ5 h=>?_
  ·refine dr [] w9 (by kernel_rfl) (by kernel_rfl) ?_
   refine S7 4 J<|z7 h λv7 hv6 h=>d2f J (A5 J a9L J hv6) J<|z7 h λv8 hv7 h=>d2f J (A5 J b4M J hv7) J<|S7 3 J<|F2 (x':=b7.Pv v8.1) (cl':=true) J J (.inr J) p8<|Q0<|g7<|S4 1 J ?_;refine cN h (λhc h=>?_) λhc h=>?_
   ·refine S3 1 J ?_;refine cF h a6E J J λv9 _ h=>S2 4 J<|S5 1 J<|cF h a0E J J λv10 _ h=>S2 1 J<|dr [1,1008] w9 (by kernel_rfl) (by kernel_rfl)<|S7 1 J<|d7 J (λ_ hN=>a6M (cs:=k8.Pc v1.2.1) hN J J J J a1D K4 nl J) J<|F2 (x':=b7.Pv v10) (cl':=true) J J (.inr J) p8<|F2 (x':=k8.Pv v1.2.1) (cl':=true) J J (.inl J) K4<|S8 1 J<|b9 ?_
    cases h;exact⟨J,[_,_,_],⟨oL J J J u6 p8 nl J,⟨oL J J J a1D K4 nl J,⟨J,tr⟩⟩⟩,J,io⟩
   ·refine c5 ?_;refine dr [1,1008] w9 (by kernel_rfl) (by kernel_rfl)<|S7 1 J<|d7 J (λ_ hN=>a6M (cs:=k8.Pc v1.2.1) hN J J J J a1D K4 nl J) J<|F2 (x':=b7.Pv v8.1) (cl':=true) J J (.inr J) p8<|F2 (x':=k8.Pv v1.2.1) (cl':=true) J J (.inl J) K4<|S8 1 J<|b9 ?_
    cases h;exact⟨J,[_,_,_],⟨oL J J J u6 p8 nl J,⟨oL J J J a1D K4 nl J,⟨J,tr⟩⟩⟩,J,io⟩
  ·refine S4 1 J ?_;refine cN h (λhc h=>?_) λhc h=>?_
   ·refine S3 3 J ?_;refine cF h a6E J J λv11 _ h=>S2 4 J<|S5 3 J<|cF h W8 J J λv12 _ h=>cF h a0E J J λv13 _ h=>S2 1 J ?_;exact eJ h W
   ·refine c5 ?_;exact eJ h W

theorem b4n{a0 a1 a2}:PO Tryz.prog 61 [b7.Pv a0,.L (Ls g9.Pv) a1,.I a2] (a24 a0 a1 a2) λr=>.tup [b7.Pv r.1,.I r.2.1,.I r.2.2.1,.I r.2.2.2]:=by
 refine pO Tryz.func61 λr h _ _=>?_;refine S4 6 J<|S4 2 J ?_;refine jq h (λq=>St.of [(3,.ptr 2004 0 0),(5,.ptr 2003 0 0),(6,.ptr 2002 0 0),(10,.ptr 2001 0 0)] [(2001,vR (.I q.1) 1),(2002,vR (.agg [.nl,.I 0,.I 0,.nl,.nl,.nl,.nl,.I 0]) 8),(2003,vR (.I q.2.1) 1),(2004,vR (b7.Pv q.2.2) 8)]) (λq17 h=>?_) λκ13 h=>?_
 ·obtain⟨j14,j15,j16⟩:=q17;refine g7<|S3 1 J<|cA h a4b J J λv18 _ h=>S2 1 J ?_;refine cN h (λhc h=>?_) λhc h=>?_
  ·refine dr [1,2,3001,3003] w9 (by kernel_rfl) (by kernel_rfl) ?_
   refine S7 1 J<|d7 J (λ_ hN=>b3I hN J J J J x6 J) J<|d7 J (λ_ hN=>b3I hN J J J J x6 J) J<|F2 (x':=b7.Pv j16) (cl':=true) J J (.inr J) p8<|S8 3 J<|b9 ?_;cases h;exact⟨J,[_,_,_,_],⟨oL J J J u6 p8 nl J,⟨J,⟨J,⟨J,tr⟩⟩⟩⟩,J,io⟩
  ·refine c5 ?_;refine dr [1,2,3001,3003] w9 (by kernel_rfl) (by kernel_rfl)<|S7 1 J<|d7 J (λ_ hN=>b3I hN J J J J x6 J) J<|d7 J (λ_ hN=>b3I hN J J J J x6 J) J<|F2 (x':=b7.Pv j16) (cl':=true) J J (.inr J) p8<|S8 3 J<|b9 ?_
   cases h;exact⟨J,[_,_,_,_],⟨oL J J J u6 p8 nl J,⟨J,⟨J,⟨J,tr⟩⟩⟩⟩,J,io⟩
 ·refine S3 3 J ?_;refine T1 (WPE (λl=>if l=2008 then 10 else if l=2009 then 6 else if l=2010 then 5 else if l=2011 then 3 else l) [(3,.ptr 2011 0 0),(5,.ptr 2010 0 0),(6,.ptr 2009 0 0),(10,.ptr 2008 0 0),(13,b7.Pv a0),(14,.L (Ls g9.Pv) a1),(15,.I a2)] [(2008,vR (.I 0) 1),(2009,vR (.agg [.nl,.I 0,.I 0,.nl,.nl,.nl,.nl,.I 0]) 8),(2010,vR (.I a2) 1),(2011,vR (b7.Pv a0) 8)]) ?_
  refine b63 (fn:=Tryz.f109) (N1:=8) J J Tryz.func109 J c79 J J nl (λe19 o20=>?_);refine S4 4 J<|S4 2 J<|b9 ?_;refine⟨J,[.fn (.func 178) [.ptr 3 0 0,.ptr 4 0 0,.ptr 5 0 0]],⟨J,tr⟩,?_⟩;refine T1 (WPE (λl=>if l=2012 then 5 else if l=2013 then 4 else if l=2014 then 3 else l) [(3,.ptr 2011 0 0),(5,.ptr 2010 0 0),(6,.ptr 2009 0 0),(10,.ptr 2008 0 0),(16,.fn (.func 178) [.ptr 2014 0 0,.ptr 2013 0 0,.ptr 2012 0 0])] [(2012,vR (.I a2) 1),(2013,vR (.L (Ls g9.Pv) a1) 1),(2014,vR (b7.Pv a0) 8),(2008,vR (.I 0) 1),(2009,vR (.agg [.nl,.I 0,.I 0,.nl,.nl,.nl,.nl,.I 0]) 8),(2010,vR (.I a2) 1),(2011,vR (b7.Pv a0) 8)])<|yN<|g6<|a3f (WE [(3,.ptr 2011 0 0),(5,.ptr 2010 0 0),(6,.ptr 2009 0 0),(10,.ptr 2008 0 0),(16,.fn (.func 178) [.ptr 2014 0 0,.ptr 2013 0 0,.ptr 2012 0 0])] [(2012,vR (.I a2) 1),(2013,vR (.L (Ls g9.Pv) a1) 1),(2014,vR (b7.Pv a0) 8),(2008,vR (.I 0) 1),(2009,vR (.agg [.nl,.I 0,.I 0,.nl,.nl,.nl,.nl,.I 0]) 8),(2010,vR (.I a2) 1),(2011,vR (b7.Pv a0) 8)]) ?_
  refine a11 (fn:=Tryz.f178) (N1:=40) J Tryz.func178 J J nl J c8c J J (λl21 e22 o23 hR24=>?_);refine g6<|lq h (λq=>St.of [(1000003,.ptr 2011 0 0),(1000005,.ptr 2010 0 0),(1000006,.ptr 2009 0 0),(1000010,.ptr 2008 0 0),(1000016,.fn (.func 178) [.ptr 2014 0 0,.ptr 2013 0 0,.ptr 2012 0 0]),(0,.fn (.yield l21) []),(1,.ptr 2014 0 0),(2,.ptr 2013 0 0),(3,.ptr 2012 0 0)] [(2012,vR (.I q.1) 1),(2013,vR (.L (Ls g9.Pv) a1) 1),(2014,vR (b7.Pv q.2.1) 8),(2008,vR (.I q.2.2.1) 1),(2009,vR (.agg [.nl,.I 0,.I 0,.nl,.nl,.nl,.nl,.I 0]) 8),(2010,vR (.I q.2.2.2.1) 1),(2011,vR (b7.Pv q.2.2.2.2) 8)]) W λq26 x25 h hx27=>?_;obtain⟨s20,s21,s22,s23,s24⟩:=q26;refine g7<|S3 1 J<|cA h a4b J J λv27 _ h=>S2 1 J ?_;refine cN h (λhc h=>?_) λhc h=>?_
  ·refine c5 ?_;refine g6<|S3 2 J<|cF h a7b J J λv28 _ h=>S2 9 J<|S3 2 J<|cA h b5S J J λv29 _ h=>S2 1 J<|g7<|S4 3 J ?_;refine cN h (λhc h=>?_) λhc h=>?_
   ·refine b9 ?_;refine .inl ⟨J,?_⟩;have h:=xL hx27 h;exact eJ h (WP (λl=>if l=2004 then 2011 else if l=2003 then 2010 else if l=2002 then 2009 else if l=2001 then 2008 else l))
   ·refine c5 ?_;refine S3 2 J<|cF h b5T J J λv30 _ h=>S2 5 J<|S4 4 J<|S3 3 J<|T1 (WE [(1000003,.ptr 2011 0 0),(1000005,.ptr 2010 0 0),(1000006,.ptr 2009 0 0),(1000010,.ptr 2008 0 0),(1000016,.fn (.func 178) [.ptr 2014 0 0,.ptr 2013 0 0,.ptr 2012 0 0]),(0,.fn (.yield l21) []),(1,.ptr 2014 0 0),(2,.ptr 2013 0 0),(3,.ptr 2012 0 0),(35,.fn (.yield l21) []),(36,b7.Pv v30.1),(37,.I (u5 (s20-v29)))] [(2012,vR (.I (u5 (s20-v29))) 1),(2013,vR (.L (Ls g9.Pv) a1) 1),(2014,vR (b7.Pv v30.1) 8),(2008,vR (.I s22) 1),(2009,vR (.agg [.nl,.I 0,.I 0,.nl,.nl,.nl,.nl,.I 0]) 8),(2010,vR (.I s23) 1),(2011,vR (b7.Pv s24) 8)]) ?_;refine a7j hR24 J J J J J J (λe32 o33 o34=>?_);refine S4 2 J<|S6 1 J ?_;refine⟨J,?_⟩;refine g6<|S4 4 J<|S6 3 J ?_;refine⟨J,?_⟩;refine T1 (WE [(1000003,.ptr 2011 0 0),(1000005,.ptr 2010 0 0),(1000006,.ptr 2009 0 0),(1000010,.ptr 2008 0 0),(1000016,.fn (.func 178) [.ptr 2014 0 0,.ptr 2013 0 0,.ptr 2012 0 0]),(0,.fn (.yield l21) []),(1,.ptr 2014 0 0),(2,.ptr 2013 0 0),(3,.ptr 2012 0 0),(38,.bool true)] [(2012,vR (.I (u5 (s20-v29))) 1),(2013,vR (.L (Ls g9.Pv) a1) 1),(2014,vR (b7.Pv v30.1) 8),(2008,vR (.I (u5 (s22+1))) 1),(2009,vR (.agg [.nl,.I 0,.I 0,.nl,.nl,.nl,.nl,.I 0]) 8),(2010,vR (.I (u5 (s20-v29))) 1),(2011,vR (b7.Pv v30.1) 8)])<|S2 1 J ?_;refine I3 false J (λq=>nomatch q) (λ_=>?_);refine c5 ?_;exact eL h W
  ·refine p6 ?_;refine c7<|c7<|k9 ?_;refine .inl ⟨J,?_⟩;have h:=xL hx27 h;exact eJ h (WP (λl=>if l=2004 then 2011 else if l=2003 then 2010 else if l=2002 then 2009 else if l=2001 then 2008 else l))

theorem b0N{a0 a1}:PO Tryz.prog 21 [n9.Pv a0,.L iF a1] (a5H a0 a1) λr=>.tup [n9.Pv r.1,l7.Pv r.2]:=by
 refine pO Tryz.func21 λr h _ _=>?_;refine S4 3 J<|S3 1 J<|cA h b4j J J λv1 _ h=>S2 6 J<|g7<|S4 2 J ?_;refine cN h (λhc h=>?_) λhc h=>?_
 ·refine S3 2 J ?_;refine y0 J (u7 (cs:=[.I 0,.I v1.2]) J c5a b7b J J J)<|S2 2 J<|b9 ?_;cases h;exact⟨J,[_,_],⟨oL J J J a2n T7 nl J,⟨oL J J J a5l M8 nl J,tr⟩⟩,J,io⟩
 ·refine c5 ?_;refine S4 1 J<|g7<|S3 1 J<|cF h b3i J J λv2 _ h=>yN<|g6<|sR<|y0 J (b7O (n:=a9X) (d:=.tup [.agg [.I (ifG v2 132 0),.I (ifG v2 132 1),.I (ifG v2 132 2),.I (ifG v2 132 3)],.bool (decide (v2.t=132))]) J c2q c2u J J J)<|S2 2 J ?_;refine cN h (λhc h=>?_) λhc h=>?_
  ·refine S4 2 J ?_;refine S5 4 J<|cF h a9P J J λv3 _ h=>S2 10 J<|dr [1,1008] w9 (by kernel_rfl) (by kernel_rfl)<|S7 1 J<|d7 J (λ_ hN=>a6M (cs:=[.I v3.2.1,.I v3.2.2]) hN J J J J a5l M8 nl J) J<|F2 (x':=.agg [.L b8.Pv v3.1.S.S.a8,.I v3.1.S.S.Last,.I v3.1.S.Serial,.L iF v3.1.Roots,.L g5.Pv v3.1.a8,.L c4.Pv v3.1.T,.L k8.Pv v3.1.Q.L,.I v3.1.Q.Cap,.L (Ls g9.Pv) a0.Progs]) (cl':=true) J J (.inr J) T7<|F2 (x':=.agg [.I v3.2.1,.I v3.2.2]) (cl':=true) J J (.inl J) M8<|Q0<|b9 ?_
   cases h;exact⟨J,[_,_],⟨oL J J J a2n T7 nl J,⟨oL J J J a5l M8 nl J,tr⟩⟩,J,io⟩
  ·refine sR ?_;refine y0 J (b7O (n:=a9X) (d:=.tup [.agg [],.bool (decide (v2.t=136))]) J c2r c2v J J J)<|S2 2 J ?_;refine cN h (λhc h=>?_) λhc h=>?_
   ·refine S3 1 J ?_;refine d3z J J J c8A<|yN<|S4 2 J<|S3 2 J<|cF h a97 J J λv4 _ h=>S2 8 J<|S6 5 J<|dr [1,1008] w9 (by kernel_rfl) (by kernel_rfl)<|S7 1 J<|d7 J (λ_ hN=>a6M (cs:=[.I (u5 (v4.2.2-v4.2.1)),.I 0]) hN J J J J a5l M8 nl J) J<|F2 (x':=.agg [.L b8.Pv v4.1.S.S.a8,.I v4.1.S.S.Last,.I v4.1.S.Serial,.L iF v4.1.Roots,.L g5.Pv v4.1.a8,.L c4.Pv v4.1.T,.L k8.Pv v4.1.Q.L,.I v4.1.Q.Cap,.L (Ls g9.Pv) a0.Progs]) (cl':=true) J J (.inr J) T7<|F2 (x':=.agg [.I (u5 (v4.2.2-v4.2.1)),.I 0]) (cl':=true) J J (.inl J) M8<|Q0<|b9 ?_
    cases h;exact⟨J,[_,_],⟨oL J J J a2n T7 nl J,⟨oL J J J a5l M8 nl J,tr⟩⟩,J,io⟩
   ·refine sR ?_;refine y0 J (b7O (n:=a9X) (d:=.tup [.agg [.I (ifG v2 140 0)],.bool (decide (v2.t=140))]) J c2s c2w J J J)<|S2 2 J ?_;refine cN h (λhc h=>?_) λhc h=>?_
    ·refine S4 2 J ?_;refine S5 6 J<|cF h b4n J J λv5 _ h=>S2 11 J<|dr [1,1008] w9 (by kernel_rfl) (by kernel_rfl)<|S7 1 J<|d7 J (λ_ hN=>a6M (cs:=[.I v5.2.1,.I v5.2.2.2]) hN J J J J a5l M8 nl J) J<|F2 (x':=.agg [.L b8.Pv v5.1.S.S.a8,.I v5.1.S.S.Last,.I v5.1.S.Serial,.L iF v5.1.Roots,.L g5.Pv v5.1.a8,.L c4.Pv v5.1.T,.L k8.Pv v5.1.Q.L,.I v5.1.Q.Cap,.L (Ls g9.Pv) a0.Progs]) (cl':=true) J J (.inr J) T7<|F2 (x':=.agg [.I v5.2.1,.I v5.2.2.2]) (cl':=true) J J (.inl J) M8<|Q0<|b9 ?_
     cases h;exact⟨J,[_,_],⟨oL J J J a2n T7 nl J,⟨oL J J J a5l M8 nl J,tr⟩⟩,J,io⟩
    ·refine c5 ?_;refine dr [1,1008] w9 (by kernel_rfl) (by kernel_rfl)<|S7 1 J<|d7 J (λ_ hN=>a6M (cs:=[.I 0,.I 0]) hN J J J J a5l M8 nl J) J<|F2 (x':=n9.Pv a0) (cl':=true) J J (.inr J) T7<|F2 (x':=.agg [.I 0,.I 0]) (cl':=true) J J (.inl J) M8<|Q0<|b9 ?_
     cases h;exact⟨J,[_,_],⟨oL J J J a2n T7 nl J,⟨oL J J J a5l M8 nl J,tr⟩⟩,J,io⟩

theorem b5U{a0 a1}:PO Tryz.prog 32 [n9.Pv a0,.L (Ls iF) a1] (a4d a0 a1) λr=>.tup [n9.Pv r.1,.L l7.Pv r.2]:=by
 refine pO Tryz.func32 λr h _ _=>?_;refine S4 3 J<|S4 1 J ?_;refine jq h (λq=>St.of [(2,.ptr 2 0 0),(4,.ptr 4 0 0),(6,.sl 910006)] [(910006,⟨List.map l7.Pv q.2,(List.map l7.Pv q.2).length,true,2,true⟩),(4,vR (.agg [.nl,.I 0,.I 0,.nl,.nl,.nl,.nl,.I 0,.nl]) 9),(2,vR (n9.Pv q.1) 9)]) (λq13 h=>?_) λκ10 h=>?_
 ·obtain⟨j11,j12⟩:=q13;refine S4 4 J<|b9 ?_;cases h;exact⟨J,[_,_],⟨oL J J J a2n T7 nl J,⟨J,tr⟩⟩,J,io⟩
 ·refine S3 1 J ?_;refine nL J a7M<|S2 1 J<|g6<|lq h (λq=>St.of [(2,.ptr 2 0 0),(4,.ptr 4 0 0),(6,.sl 910006),(10,.L (Ls iF) a1),(11,.I (a1.length:Int)),(12,.I q.1)] [(4,vR (.agg [.nl,.I 0,.I 0,.nl,.nl,.nl,.nl,.I 0,.nl]) 9),(2,vR (n9.Pv q.2.1) 9),(910006,⟨List.map l7.Pv q.2.2,(List.map l7.Pv q.2.2).length,true,2,true⟩)]) (Wk.trans (I7 (t:=6) (l:=920006) (z:=2) J J) (WP (λl=>if l=910006 then 920006 else l))) λq19 x18 h hx10=>?_
  obtain⟨s15,s16,s17⟩:=q19;refine S4 1 J<|g7 ?_;refine cN h (λhc h=>?_) λhc h=>?_
  ·refine c5 ?_;refine g7<|g6<|sR<|iL h J J a7M a9Z λv20 _ h=>S2 2 J<|S4 1 J<|S3 2 J<|cF h b0N J J λv21 _ h=>S2 5 J<|S5 2 J<|y0 J (L1 (f:=l7.Pv) (l:=[v21.2]) J a36 M8 b7b J J nl J J)<|z7 h λv22 hv13 h=>R2 J (O4 (f:=l7.Pv) hv13 J J J J J J (.inl ⟨_,J,J⟩) a36 M8 d07 b7b J (λ_=>J)) J J J<|S2 1 J<|S6 2 J ?_;exact eL h (Wk.trans (p7 _ [25]) (WP (λl=>if l=910006 then 25 else l)))
  ·refine p6 ?_;refine c7<|c7<|k9 ?_;have h:=xL hx10 h;exact eJ h (Wk.trans (p7 _ [910006]) W)

theorem a6c{a0}:PO Tryz.prog 65 [c8.Pv a0] (Q7 a0) λr=>A4.Pv r:=by
 refine pO Tryz.func65 λr h _ _=>?_;refine S4 2 J<|S4 1 J ?_;refine jq h (λj9=>St.of [(2,.ptr 2 0 0),(3,.ptr 3 0 0)] [(3,vR (A4.Pv j9) 4),(2,vR (.agg [.I 0,.I 0,.I 0,.I 0]) 4)]) (λj9 h=>?_) λκ8 h=>?_
 ·refine S4 2 J ?_;refine b9 ?_;cases h;exact⟨J,[_],⟨oL J J J c40 c5e nl J,tr⟩,J,io⟩
 ·refine S3 2 J ?_;refine nL J M7<|S2 1 J<|g6<|lq h (λq=>St.of [(2,.ptr 2 0 0),(3,.ptr 3 0 0),(7,.L b8.Pv a0.a8),(8,.I (a0.a8.length:Int)),(9,.I q.1)] [(3,vR (A4.Pv q.2) 4),(2,vR (.agg [.I 0,.I 0,.I 0,.I 0]) 4)]) W λq14 x13 h hx9=>?_;obtain⟨s11,s12⟩:=q14;refine S4 1 J<|g7 ?_;refine cN h (λhc h=>?_) λhc h=>?_
  ·refine c5 ?_;refine g7<|g6<|sR<|iL h J J M7 P8 λv15 _ h=>S2 3 J<|S5 2 J<|z7 h λv16 hv11 h=>y0 J (d0P hv11 J J a9Y o8)<|y0 J (oS J J J x6 (A4.get hv11))<|S1 1 J<|y0 J (d0P hv11 J J a9Y o8)<|d5h hv11 J J (.inl J) J o8<|yN<|S6 2 J ?_;exact eL h W
  ·refine p6 ?_;refine c7<|c7<|k9 ?_;have h:=xL hx9 h;exact eJ h W

theorem a7m{a0}:PO Tryz.prog 24 [n9.Pv a0] (a1K a0) λr=>A4.Pv r:=by
 refine pO Tryz.func24 λr h _ _=>?_;refine S4 2 J<|S3 4 J<|cA h a6c J J λv1 _ h=>S2 1 J<|b9 ?_;cases h;exact⟨J,[_],⟨oL J J J c40 c5e nl J,tr⟩,J,io⟩

theorem b18{a0}:PO Tryz.prog 73 [b7.Pv a0] (a2R a0) λr=>.bool r:=by
 refine pO Tryz.func73 λr h _ _=>?_;refine S4 2 J<|S3 1 J<|cF h a08 J J λv1 _ h=>nL J l4<|S2 2 J<|b9 ?_;cases h;exact f1

theorem b3h{a0}:PO Tryz.prog 29 [n9.Pv a0] (a3G a0) λr=>.bool r:=by
 refine pO Tryz.func29 λr h _ _=>?_;refine S4 2 J<|S3 2 J<|cA h a4b J J λv1 _ h=>S1 1 J<|k7 J (λhg=>oF J b36 J)<|k7 J (λhg=>oL (ct hg) J J u6 p8 nl J)<|z7 h λv2 hv2 h=>k7 J (λhg=>G7 J b18 (F8 (ct hg) J) (G8 hv2 hg))<|y0 J (y8 J J J (λq=>eqT q))<|S2 1 J<|b9 ?_;cases h;exact f1

theorem a7l{a0}:PO Tryz.prog 27 [n9.Pv a0] (a1J a0) λr=>.L iF r:=by
 refine pO Tryz.func27 λr h _ _=>?_;refine S4 2 J<|S4 1 J ?_;refine jq h (λj11=>St.of [(3,.sl 910003)] [(910003,⟨List.map iF j11,0,true,1,true⟩)]) (λj11 h=>?_) λκ10 h=>?_
 ·refine S3 1 J ?_;obtain⟨v12,hv9,h⟩:=a9F h;refine d0p hv9 J J d08 c96 J J<|yN<|S4 2 J<|b9 ?_;cases h;exact f1
 ·refine S3 3 J ?_;refine cF h L3 J J λv13 _ h=>nL J l4<|S2 1 J<|g6<|lq h (λq=>St.of [(1,.ptr 1 0 0),(3,.sl 910003),(9,.L iF v13),(10,.I (v13.length:Int)),(11,.I q.1)] [(1,vR (n9.Pv a0) 9),(910003,⟨List.map iF q.2,0,true,1,true⟩)]) (Wk.trans (I7 (t:=3) (l:=920003) (z:=1) J J) (WP (λl=>if l=910003 then 920003 else l))) λq18 x17 h hx13=>?_
  obtain⟨s15,s16⟩:=q18;refine S4 1 J<|g7 ?_;refine cN h (λhc h=>?_) λhc h=>?_
  ·refine c5 ?_;refine g7<|g6<|sR<|iL h J J l4 o8 λv19 _ h=>S2 2 J<|S5 4 J<|cA h a43 J J λv20 _ h=>y0 J (L1 (f:=iF) (l:=[v20]) J l4 o8 C2 J J nl J J)<|z7 h λv21 hv16 h=>d01 (f:=iF) (b:=8) [(1,.ptr 1 0 0),(9,.L iF v13),(10,.I (v13.length:Int)),(11,.I s15),(12,.bool (decide (s15<(v13.length:Int)))),(13,.rptr [.I v19]),(14,.I v19),(5,.I v19),(16,.ptr 1 0 0),(17,b7.Pv a0.X),(18,.I v19),(19,.I v20),(20,.lst true (List.map iF [v20]))] [(1,vR (n9.Pv a0) 9)] J hv16 ⟨J,J,J,J,J,J,J,J,J,J,J,J,J,J,J,J,J,J,J,J,J,J,J,J,J,J,J,J,J,J,J,J,J,J,J,J,J,J,J,tr⟩ ⟨rS,tr⟩ J J J J (.inl ⟨_,J,J⟩) l4 o8 O7 C2 J (λ_=>J)<|S2 1 J<|S6 2 J ?_;exact eL h (WP (λl=>if l=910003 then 21 else l))
  ·refine p6 ?_;refine c7<|c7<|k9 ?_;have h:=xL hx13 h;exact eJ h W

theorem b1W:PO Tryz.prog 11 [] (a2L) λr=>.bool r:=by
 refine pO Tryz.func11 λr h _ _=>?_;refine S4 1 J<|sR<|cF h a2S J J λv1 _ h=>S2 6 J<|S3 1 J<|y0 J (L1 (f:=iF) (l:=[1,0,1,(-1)]) J l4 o8 C2 J J nl J J)<|y0 J (L1 (f:=iF) (l:=[5,0,0,0]) J l4 o8 C2 J J nl J J)<|y0 J (L1 (f:=iF) (l:=[3,0,0,0]) J l4 o8 C2 J J nl J J)<|y0 J (L1 (f:=iF) (l:=[11,0,0,0]) J l4 o8 C2 J J nl J J)<|y0 J (L1 (f:=iF) (l:=[11,0,0,0]) J l4 o8 C2 J J nl J J)<|y0 J (L1 (f:=iF) (l:=[12,9,0,0]) J l4 o8 C2 J J nl J J)<|y0 J (L1 (f:=iF) (l:=[2,0]) J l4 o8 C2 J J nl J J)<|y0 J (L1 (f:=iF) (l:=[4,0,1,0]) J l4 o8 C2 J J nl J J)<|y0 J (L1 (f:=(Ls iF)) (l:=[[1,0,1,(-1)],[5,0,0,0],[3,0,0,0],[11,0,0,0],[11,0,0,0],[12,9,0,0],[2,0],[4,0,1,0]]) J a7M a9Z d1g J J nl J J)<|cF h b5U J J λv2 _ h=>S2 6 J<|sR<|y0 J (u7 (cs:=[.I 11,.I 0,.I 0,.I 0]) J b3v b0B J J J)<|y0 J (L1 (f:=g9.Pv) (l:=[(⟨11,0,0,0⟩:g9)]) J a4M a4O b0B J J nl J J)<|y0 J (L1 (f:=(Ls g9.Pv)) (l:=[[(⟨11,0,0,0⟩:g9)]]) J a6m b3x c8C J J nl J J)<|cF h a2S J J λv3 _ h=>S2 6 J<|sR<|cF h a2S J J λv4 _ h=>S2 6 J<|S3 3 J<|k7 J (λhg=>mI J)<|k7 J (λhg=>s6 (ct hg) J J)<|y0 J (y8 J J J (λq=>eqT q))<|S1 1 J ?_;refine k7 J (λhg=>mI J)<|k7 J (λhg=>s6 (ct hg) J J)<|y0 J (y8 J J J (λq=>eqT q))<|S1 1 J<|k7 J (λhg=>om (d:=.L l7.Pv v2.2) J)<|k7 J (λhg=>Z8 (f:=l7.Pv) (ct hg) a36)<|k7 J (λhg=>s6 (ct hg) J J)<|y0 J (y8 J J J (λq=>eqT q))<|S1 1 J<|k7 J (λhg=>om (d:=.L l7.Pv v2.2) J)<|z7 h λv5 hv5 h=>k7 J (λhg=>D2 (f:=l7.Pv) (cs:=l7.Pc v5) (G8 hv5 hg) (ct hg) J a36 M8 J J)<|k7 J (λhg=>B6 (ct hg) a7N J)<|k7 J (λhg=>G3 (ct hg) x6 J)<|k7 J (λhg=>s6 (ct hg) J J)<|y0 J (y8 J J J (λq=>eqT q))<|S1 1 J<|k7 J (λhg=>om (d:=.L l7.Pv v2.2) J)<|z7 h λv6 hv6 h=>k7 J (λhg=>D2 (f:=l7.Pv) (cs:=l7.Pc v6) (G8 hv6 hg) (ct hg) J a36 M8 J J)<|k7 J (λhg=>B6 (ct hg) a7N J)<|k7 J (λhg=>G3 (ct hg) x6 J)<|k7 J (λhg=>s6 (ct hg) J J)<|y0 J (y8 J J J (λq=>eqT q))<|S1 1 J<|k7 J (λhg=>om (d:=.L l7.Pv v2.2) J)<|z7 h λv7 hv7 h=>k7 J (λhg=>D2 (f:=l7.Pv) (cs:=l7.Pc v7) (G8 hv7 hg) (ct hg) J a36 M8 J J)<|k7 J (λhg=>B6 (ct hg) a7N J)<|k7 J (λhg=>G3 (ct hg) x6 J)<|k7 J (λhg=>s6 (ct hg) J J)<|y0 J (y8 J J J (λq=>eqT q))<|S1 1 J<|k7 J (λhg=>om (d:=.L l7.Pv v2.2) J)<|z7 h λv8 hv8 h=>k7 J (λhg=>D2 (f:=l7.Pv) (cs:=l7.Pc v8) (G8 hv8 hg) (ct hg) J a36 M8 J J)<|k7 J (λhg=>B6 (ct hg) a7N J)<|k7 J (λhg=>G3 (ct hg) x6 J)<|k7 J (λhg=>s6 (ct hg) J J)<|y0 J (y8 J J J (λq=>eqT q))<|S1 1 J<|k7 J (λhg=>om (d:=.L l7.Pv v2.2) J)<|z7 h λv9 hv9 h=>k7 J (λhg=>D2 (f:=l7.Pv) (cs:=l7.Pc v9) (G8 hv9 hg) (ct hg) J a36 M8 J J)<|k7 J (λhg=>B6 (ct hg) a7N J)<|k7 J (λhg=>G3 (ct hg) x6 J)<|k7 J (λhg=>s6 (ct hg) J J)<|y0 J (y8 J J J (λq=>eqT q))<|S1 1 J<|k7 J (λhg=>om (d:=.L l7.Pv v2.2) J)<|z7 h λv10 hv10 h=>k7 J (λhg=>D2 (f:=l7.Pv) (cs:=l7.Pc v10) (G8 hv10 hg) (ct hg) J a36 M8 J J)<|k7 J (λhg=>b9R (ct hg) a5l M8 nl J)<|k7 J (λhg=>u7 (cs:=[.I 0,.I 0]) J c5a b7b J J J)<|k7 J (λhg=>d0O (xs:=l7.Pc v10) (ys:=[.I 0,.I 0]) d1e (ct hg) (ct hg) J)<|y0 J (y8 J J J (λq=>eqT q))<|S1 1 J<|k7 J (λhg=>om (d:=.L l7.Pv v2.2) J)<|z7 h λv11 hv11 h=>k7 J (λhg=>D2 (f:=l7.Pv) (cs:=l7.Pc v11) (G8 hv11 hg) (ct hg) J a36 M8 J J)<|k7 J (λhg=>B6 (ct hg) b9d J)<|k7 J (λhg=>G3 (ct hg) a9W J)<|k7 J (λhg=>s6 (ct hg) J J)<|y0 J (y8 J J J (λq=>eqT q))<|S1 1 J<|k7 J (λhg=>om (d:=.L l7.Pv v2.2) J)<|z7 h λv12 hv12 h=>k7 J (λhg=>D2 (f:=l7.Pv) (cs:=l7.Pc v12) (G8 hv12 hg) (ct hg) J a36 M8 J J)<|k7 J (λhg=>B6 (ct hg) b9d J)<|k7 J (λhg=>G3 (ct hg) a9W J)<|k7 J (λhg=>s6 (ct hg) J J)<|y0 J (y8 J J J (λq=>eqT q))<|S1 1 J<|k7 J (λhg=>oL J J J a2n T7 nl J)<|z7 h λv13 hv13 h=>k7 J (λhg=>G7 J a7m (F8 (ct hg) J) (G8 hv13 hg))<|k7 J (λhg=>u7 (cs:=[.I 4,.I 0,.I 0,.I 0]) J d1d d1l J J J)<|k7 J (λhg=>d0O (xs:=A4.Pc v13) (ys:=[.I 4,.I 0,.I 0,.I 0]) d1f (ct hg) (ct hg) J)<|y0 J (y8 J J J (λq=>eqT q))<|S1 1 J<|k7 J (λhg=>oL J J J a2n T7 nl J)<|z7 h λv14 hv14 h=>k7 J (λhg=>G7 J b3h (F8 (ct hg) J) (G8 hv14 hg))<|y0 J (y8 J J J (λq=>eqT q))<|S1 1 J<|k7 J (λhg=>oL J J J a2n T7 nl J)<|z7 h λv15 hv15 h=>d5e J (λhg=>A5 J a7l (F8 (ct hg) J) (G8 hv15 hg))<|k7 J (λhg=>Z8 (f:=iF) (ct hg) l4)<|k7 J (λhg=>s6 (ct hg) J J)<|y0 J (y8 J J J (λq=>eqT q))<|S2 1 J<|b9 ?_;cases h;exact f1

theorem b8U{a0}:PO Tryz.prog 45 [a7.Pv a0] (a9r a0) λr=>.bool r:=by
 refine pO Tryz.func45 λr h _ _=>?_;refine S4 2 J ?_;refine jq h (λ_=>St.of [(1,.ptr 1 0 0)] [(1,vR (a7.Pv a0) 3)]) (λq6 h=>?_) λκ5 h=>?_
 ·refine S3 3 J ?_;refine nL J M7<|S2 2 J<|b9 ?_;cases h;exact f1
 ·refine S4 1 J ?_;refine g6<|lq h (λs8=>St.of [(1,.ptr 1 0 0),(3,.I s8)] [(1,vR (a7.Pv a0) 3)]) W λs8 x9 h hx8=>g7<|S3 4 J<|nL J M7<|S1 2 J<|k7 J (λhg=>mI J)<|k7 J (λhg=>s6 (ct hg) J J)<|y0 J (y8 J J J (λq=>eqT q))<|yN ?_;refine cN h (λhc h=>?_) λhc h=>?_
  ·refine c5 ?_;refine g7<|g6<|S3 4 J<|iL h J J M7 P8 λv10 _ h=>S1 3 J<|nL J l4<|S2 1 J ?_;refine cN h (λhc h=>?_) λhc h=>?_
   ·refine S4 1 J ?_;refine b9 ?_;have h:=xL hx8 h;cases h;exact f1
   ·refine c5 ?_;refine S6 3 J ?_;exact eL h W
  ·refine p6 ?_;refine c7<|c7<|k9 ?_;have h:=xL hx8 h;exact eJ h W

theorem c13{a0}:PO Tryz.prog 15 [b7.Pv a0] (b1V a0) λr=>.bool r:=by
 refine pO Tryz.func15 λr h _ _=>?_;refine S4 2 J<|S3 2 J<|cA h b8U J J λv1 _ h=>S1 1 J<|k7 J (λhg=>oF J b35 J)<|k7 J (λhg=>oS (ct hg) J J a7J J)<|k7 J (λhg=>Z8 (f:=iF) (ct hg) l4)<|k7 J (λhg=>s6 (ct hg) J J)<|y0 J (y8 J J J (λq=>eqT q))<|S1 1 J<|k7 J (λhg=>oF J b89 J)<|k7 J (λhg=>oS (ct hg) J J c4X J)<|k7 J (λhg=>Z8 (f:=g5.Pv) (ct hg) R3)<|k7 J (λhg=>s6 (ct hg) J J)<|y0 J (y8 J J J (λq=>eqT q))<|S1 1 J<|k7 J (λhg=>oF J c43 J)<|k7 J (λhg=>oS (ct hg) J J b34 J)<|k7 J (λhg=>Z8 (f:=c4.Pv) (ct hg) Y5)<|k7 J (λhg=>s6 (ct hg) J J)<|y0 J (y8 J J J (λq=>eqT q))<|S1 1 J<|k7 J (λhg=>oF J b9a J)<|k7 J (λhg=>oF (ct hg) c42 J)<|k7 J (λhg=>oS (ct hg) J J d05 J)<|k7 J (λhg=>Z8 (f:=k8.Pv) (ct hg) a35)<|k7 J (λhg=>s6 (ct hg) J J)<|y0 J (y8 J J J (λq=>eqT q))<|S2 1 J<|b9 ?_;cases h;exact f1

theorem c15{a0}:PO Tryz.prog 99 [m8.Pv a0] (b32 a0) λr=>D9.Pv r:=by
 refine pO Tryz.func99 λr h _ _=>?_;unfold b32 at h;refine S4 2 J<|S3 12 J<|y0 J (u7 (cs:=[.I a0.Serial,.I a0.Strong,.I a0.Weak,.I a0.Prog,.bool a0.Started,.L iF a0.Fields]) J c5b c5i J J J)<|S2 1 J<|b9 ?_;cases h;exact⟨J,[_],⟨oL J J J c0Q b15 nl J,tr⟩,J,io⟩

theorem c14{a0}:PO Tryz.prog 50 [a7.Pv a0] (b31 a0) λr=>m9.Pv r:=by
 refine pO Tryz.func50 λr h _ _=>?_;refine S4 2 J<|sR<|y0 J (P1 J Y6 Z3)<|S2 1 J ?_;refine jq h (λj10=>St.of [(1,.ptr 1 0 0),(2,.ptr 2 0 0),(3,.sl 910003)] [(910003,⟨List.map p9.Pv j10,(List.map p9.Pv j10).length,true,8,true⟩),(2,vR (.agg [.nl,.I 0,.I 0]) 3),(1,vR (a7.Pv a0) 3)]) (λj10 h=>?_) λκ9 h=>?_
 ·refine S3 6 J ?_;refine y0 J (u7 (cs:=[.sl 910003,.I a0.S.Last,.I a0.Serial]) J d1a d1i J J J)<|S2 1 J<|b9 ?_;cases h;exact⟨J,[_],⟨oL J J J c0O c0S nl J,tr⟩,J,io⟩
 ·refine S4 1 J ?_;refine g6<|lq h (λq=>St.of [(1,.ptr 1 0 0),(2,.ptr 2 0 0),(3,.sl 910003),(4,.I q.1)] [(2,vR (.agg [.nl,.I 0,.I 0]) 3),(1,vR (a7.Pv a0) 3),(910003,⟨List.map p9.Pv q.2,(List.map p9.Pv q.2).length,true,8,true⟩)]) (Wk.trans (I7 (t:=3) (l:=920003) (z:=8) J J) (WP (λl=>if l=910003 then 920003 else l))) λq15 x14 h hx10=>?_
  obtain⟨s12,s13⟩:=q15;refine g7<|S3 4 J<|nL J M7<|S2 1 J ?_;refine cN h (λhc h=>?_) λhc h=>?_
  ·refine c5 ?_;refine g7<|g6<|S3 4 J<|iL h J J M7 P8 λv16 _ h=>S2 3 J<|b0k [] w9 (by kernel_rfl) (by kernel_rfl)<|S7 7 J<|z7 h λv17 hv12 h=>d2f J (A5 J c15 J hv12) J<|d7 J (λ_ hN=>u7 (cs:=[.I v16.State,.I v16.Gen,.I v17.Serial,.I v17.Strong,.I v17.Weak,.I v17.Prog,.bool v17.Started,.L iF v17.Fields]) J c8l b67 J J J) J<|d1n J (L1 (f:=p9.Pv) (l:=[(⟨v16.State,v16.Gen,v17⟩:p9)]) J Y6 Z3 b67 J J nl J J) J<|z7 h λv18 hv13 h=>d3a J (O4 (f:=p9.Pv) hv13 J J J J J J (.inl ⟨_,J,J⟩) Y6 Z3 c72 b67 J (λ_=>J)) J J J J J<|S8 1 J<|S6 3 J ?_
   exact eL h (Wk.trans (p7 _ [31]) (WP (λl=>if l=910003 then 31 else l)))
  ·refine p6 ?_;refine c7<|c7<|k9 ?_;have h:=xL hx10 h;exact eJ h (Wk.trans (p7 _ [910003]) W)

theorem b8S{a0}:PO Tryz.prog 51 [.L g5.Pv a0] (a9q a0) λr=>.L u9.Pv r:=by
 refine pO Tryz.func51 λr h _ _=>?_;refine S4 1 J<|sR<|y0 J (P1 J a7L b0z)<|S2 1 J ?_;refine jq h (λj9=>St.of [(3,.sl 910003)] [(910003,⟨List.map u9.Pv j9,(List.map u9.Pv j9).length,true,3,true⟩)]) (λj9 h=>?_) λκ8 h=>?_
 ·refine S4 2 J ?_;refine b9 ?_;cases h;exact f1
 ·refine S4 1 J ?_;refine g6<|lq h (λq=>St.of [(0,.L g5.Pv a0),(3,.sl 910003),(4,.I q.1)] [(910003,⟨List.map u9.Pv q.2,(List.map u9.Pv q.2).length,true,3,true⟩)]) (Wk.trans (I7 (t:=3) (l:=920003) (z:=3) J J) (WP (λl=>if l=910003 then 920003 else l))) λq14 x13 h hx9=>?_
  obtain⟨s11,s12⟩:=q14;refine g7<|S3 2 J<|nL J R3<|S2 1 J ?_;refine cN h (λhc h=>?_) λhc h=>?_
  ·refine c5 ?_;refine g7<|g6<|S5 3 J<|iL h J J R3 V7 λv15 _ h=>S1 1 J<|y0 J (L1 (f:=u9.Pv) (l:=[(⟨v15.Target,v15.Intact,v15.Call⟩:u9)]) J a7L b0z c2x J J nl J J)<|z7 h λv16 hv11 h=>R2 J (O4 (f:=u9.Pv) hv11 J J J J J J (.inl ⟨_,J,J⟩) a7L b0z c73 c2x J (λ_=>J)) J J J<|S2 1 J<|S6 3 J ?_;exact eL h (Wk.trans (p7 _ [18]) (WP (λl=>if l=910003 then 18 else l)))
  ·refine p6 ?_;refine c7<|c7<|k9 ?_;have h:=xL hx9 h;exact eJ h (Wk.trans (p7 _ [910003]) W)

theorem c16{a0}:PO Tryz.prog 52 [.L c4.Pv a0] (b33 a0) λr=>.L m7.Pv r:=by
 refine pO Tryz.func52 λr h _ _=>?_;refine S4 1 J<|sR<|y0 J (P1 J a2o a2M)<|S2 1 J ?_;refine jq h (λj9=>St.of [(3,.sl 910003)] [(910003,⟨List.map m7.Pv j9,(List.map m7.Pv j9).length,true,3,true⟩)]) (λj9 h=>?_) λκ8 h=>?_
 ·refine S4 2 J ?_;refine b9 ?_;cases h;exact f1
 ·refine S4 1 J ?_;refine g6<|lq h (λq=>St.of [(0,.L c4.Pv a0),(3,.sl 910003),(4,.I q.1)] [(910003,⟨List.map m7.Pv q.2,(List.map m7.Pv q.2).length,true,3,true⟩)]) (Wk.trans (I7 (t:=3) (l:=920003) (z:=3) J J) (WP (λl=>if l=910003 then 920003 else l))) λq14 x13 h hx9=>?_
  obtain⟨s11,s12⟩:=q14;refine g7<|S3 2 J<|nL J Y5<|S2 1 J ?_;refine cN h (λhc h=>?_) λhc h=>?_
  ·refine c5 ?_;refine g7<|g6<|S5 3 J<|iL h J J Y5 a0s λv15 _ h=>S1 1 J<|y0 J (L1 (f:=m7.Pv) (l:=[(⟨v15.State,v15.Key,v15.Val⟩:m7)]) J a2o a2M c2y J J nl J J)<|z7 h λv16 hv11 h=>R2 J (O4 (f:=m7.Pv) hv11 J J J J J J (.inl ⟨_,J,J⟩) a2o a2M c74 c2y J (λ_=>J)) J J J<|S2 1 J<|S6 3 J ?_;exact eL h (Wk.trans (p7 _ [18]) (WP (λl=>if l=910003 then 18 else l)))
  ·refine p6 ?_;refine c7<|c7<|k9 ?_;have h:=xL hx9 h;exact eJ h (Wk.trans (p7 _ [910003]) W)

theorem b8V{a0}:PO Tryz.prog 53 [c9.Pv a0] (a9s a0) λr=>y7.Pv r:=by
 refine pO Tryz.func53 λr h _ _=>?_;refine S4 2 J<|sR<|y0 J (P1 J a1E a2N)<|S2 1 J ?_;refine jq h (λj9=>St.of [(1,.ptr 1 0 0),(2,.ptr 2 0 0),(3,.sl 910003)] [(910003,⟨List.map w7.Pv j9,(List.map w7.Pv j9).length,true,3,true⟩),(2,vR (.agg [.nl,.I 0]) 2),(1,vR (c9.Pv a0) 2)]) (λj9 h=>?_) λκ8 h=>?_
 ·refine S3 3 J ?_;refine y0 J (u7 (cs:=[.sl 910003,.I a0.Cap]) J d1b d1j J J J)<|S2 1 J<|b9 ?_;cases h;exact⟨J,[_],⟨oL J J J c4Z c5d nl J,tr⟩,J,io⟩
 ·refine S4 1 J ?_;refine g6<|lq h (λq=>St.of [(1,.ptr 1 0 0),(2,.ptr 2 0 0),(3,.sl 910003),(4,.I q.1)] [(2,vR (.agg [.nl,.I 0]) 2),(1,vR (c9.Pv a0) 2),(910003,⟨List.map w7.Pv q.2,(List.map w7.Pv q.2).length,true,3,true⟩)]) (Wk.trans (I7 (t:=3) (l:=920003) (z:=3) J J) (WP (λl=>if l=910003 then 920003 else l))) λq14 x13 h hx9=>?_
  obtain⟨s11,s12⟩:=q14;refine g7<|S3 3 J<|nL J a35<|S2 1 J ?_;refine cN h (λhc h=>?_) λhc h=>?_
  ·refine c5 ?_;refine g7<|g6<|S5 4 J<|iL h J J a35 K4 λv15 _ h=>S1 1 J<|y0 J (L1 (f:=w7.Pv) (l:=[(⟨v15.Kind,v15.At,v15.Prog⟩:w7)]) J a1E a2N c2z J J nl J J)<|z7 h λv16 hv11 h=>R2 J (O4 (f:=w7.Pv) hv11 J J J J J J (.inl ⟨_,J,J⟩) a1E a2N c75 c2z J (λ_=>J)) J J J<|S2 1 J<|S6 3 J ?_;exact eL h (Wk.trans (p7 _ [20]) (WP (λl=>if l=910003 then 20 else l)))
  ·refine p6 ?_;refine c7<|c7<|k9 ?_;have h:=xL hx9 h;exact eJ h (Wk.trans (p7 _ [910003]) W)

theorem b29{a0}:PO Tryz.prog 17 [b7.Pv a0] (a4C a0) λr=>g8.Pv r:=by
 refine pO Tryz.func17 λr h _ _=>?_;unfold a4C at h;refine S4 2 J<|dr [] w9 (by kernel_rfl) (by kernel_rfl)<|S7 2 J<|z7 h λv1 hv1 h=>d2f J (A5 J c14 J hv1) J<|S7 4 J<|z7 h λv2 hv2 h=>d2f J (A5 J b8S J hv2) J<|S7 2 J<|z7 h λv3 hv3 h=>d2f J (A5 J c16 J hv3) J<|S7 2 J<|z7 h λv4 hv4 h=>d2f J (A5 J b8V J hv4) J<|d7 J (λ_ hN=>u7 (cs:=[.L p9.Pv v1.a8,.I v1.Last,.I v1.Serial,.L iF a0.Roots,.L u9.Pv v2,.L m7.Pv v3,.L w7.Pv v4.L,.I v4.Cap]) J d1c d1k J J J) J<|F2 (x':=.agg [.L p9.Pv v1.a8,.I v1.Last,.I v1.Serial,.L iF a0.Roots,.L u9.Pv v2,.L m7.Pv v3,.L w7.Pv v4.L,.I v4.Cap]) (cl':=true) J J (.inr J) a6p<|Q0<|b9 ?_
 cases h;exact⟨J,[_],⟨oL J J J a7K a6p nl J,tr⟩,J,io⟩

theorem a13{a0}:PO Tryz.prog 67 [m9.Pv a0] (K0 a0) λr=>B9.Pv r:=by
 refine pO Tryz.func67 λr h _ _=>?_;refine S4 2 J<|S3 2 J<|y0 J (u7 (cs:=[.nl,.I a0.Last]) J c8q c8E J J J)<|S1 1 J<|a6j (x':=.agg [.nl,.I a0.Last]) (cl':=true) J J (.inl J) c2t<|yN ?_;refine jq h (λj9=>St.of [(2,.ptr 2 0 0),(3,.ptr 3 0 0)] [(3,vS (.agg [.sl 910503,.I a0.Last]) 2),(910503,⟨List.map B8.Pv j9,(List.map B8.Pv j9).length,true,3,true⟩),(2,vR (.agg [.nl,.I 0]) 2)]) (λj9 h=>?_) λκ8 h=>?_
 ·refine S4 2 J ?_;refine b9 ?_;cases h;exact⟨J,[_],⟨oL J J J c71 c2t nl J,tr⟩,J,io⟩
 ·refine S4 1 J ?_;refine g6<|lq h (λq=>St.of [(1,.ptr 1 0 0),(2,.ptr 2 0 0),(3,.ptr 3 0 0),(4,.I q.1)] [(3,vS (.agg [.sl 910503,.I a0.Last]) 2),(2,vR (.agg [.nl,.I 0]) 2),(1,vR (m9.Pv a0) 3),(910503,⟨List.map B8.Pv q.2,(List.map B8.Pv q.2).length,true,3,true⟩)]) (Wk.trans (b1Y (l0:=3) (j:=0) (l:=920503) (z:=3) J J J J J) (WP (λl=>if l=910503 then 920503 else l))) λq14 x13 h hx9=>?_
  obtain⟨s11,s12⟩:=q14;refine g7<|S3 3 J<|nL J Y6<|S2 1 J ?_;refine cN h (λhc h=>?_) λhc h=>?_
  ·refine c5 ?_;refine g7<|g6<|b0k [] w9 (by kernel_rfl) (by kernel_rfl)<|S7 5 J<|z7 h λv15 hv10 h=>d0 J (D2 (f:=p9.Pv) (cs:=p9.Pc v15) hv10 J J Y6 Z3 J J) J<|S7 5 J<|d0 J (D2 (f:=p9.Pv) (cs:=p9.Pc v15) hv10 J J Y6 Z3 J J) J<|S7 3 J<|d7 J (λ_ hN=>u7 (cs:=[.I v15.State,.I v15.Gen,.I s11]) J c8t b69 J J J) J<|d1n J (L1 (f:=B8.Pv) (l:=[(⟨v15.State,v15.Gen,s11⟩:B8)]) J a3E a8G b69 J J nl J J) J<|z7 h λv16 hv11 h=>d3a J (O4 (f:=B8.Pv) hv11 J J J J J J (.inl ⟨_,J,J⟩) a3E a8G c77 b69 J (λ_=>J)) J J J J J<|S7 1 J<|F2 (x':=.agg [.sl 32,.I a0.Last]) (cl':=false) J J (.inl J) c8B<|Q0<|S6 3 J ?_
   exact eL h (Wk.trans (p7 _ [32]) (WP (λl=>if l=910503 then 32 else l)))
  ·refine p6 ?_;refine c7<|c7<|k9 ?_;have h:=xL hx9 h;exact eJ h (Wk.trans (p7 _ [910503]) W)

theorem b71{a0}:PO Tryz.prog 130 [B9.Pv a0] (a8V a0) λr=>.bool r:=by
 refine pO Tryz.func130 λr h _ _=>?_;refine S4 2 J<|g7<|S3 2 J<|nL J a3E<|S1 2 J<|k7 J (λhg=>oF J b12 J)<|k7 J (λhg=>oS (ct hg) J J x6 J)<|k7 J (λhg=>s6 (ct hg) J J)<|y0 J (x8 J J J (λq=>U0 q))<|S1 1 J<|k7 J (λhg=>oF J b12 J)<|k7 J (λhg=>oS (ct hg) J J x6 J)<|k7 J (λhg=>s6 (ct hg) J J)<|y0 J (x8 J J J (λq=>U0 q))<|yN ?_;refine cN h (λhc h=>?_) λhc h=>?_
 ·refine S4 1 J ?_;refine b9 ?_;cases h;exact f1
 ·refine c5 ?_;refine jq h (λ_=>St.of [] []) (λq6 h=>?_) λκ5 h=>?_
  ·refine S4 1 J ?_;refine b9 ?_;cases h;exact f1
  ·refine S4 1 J ?_;refine g6<|lq h (λs8=>St.of [(1,.ptr 1 0 0),(3,.I s8)] [(1,vR (B9.Pv a0) 2)]) W λs8 x9 h hx8=>g7<|S3 3 J<|nL J a3E<|S2 1 J ?_;refine cN h (λhc h=>?_) λhc h=>?_
   ·refine c5 ?_;refine g7<|g6<|S3 3 J<|iL h J J a3E a8G λv10 _ h=>S2 3 J<|S3 4 J<|k7 J (λhg=>oF J b14 J)<|k7 J (λhg=>oS (ct hg) J J x6 J)<|k7 J (λhg=>s6 (ct hg) J J)<|y0 J (x8 J J J (λq=>U0 q))<|S1 1 J<|k7 J (λhg=>oF J b6i J)<|k7 J (λhg=>oS (ct hg) J J x6 J)<|k7 J (λhg=>s6 (ct hg) J J)<|y0 J (x8 J J J (λq=>U0 q))<|S1 1 J<|k7 J (λhg=>oF J b6i J)<|k7 J (λhg=>oS (ct hg) J J x6 J)<|k7 J (λhg=>oF J b12 J)<|k7 J (λhg=>oS (ct hg) J J x6 J)<|k7 J (λhg=>s6 (ct hg) (ct hg) J)<|y0 J (x8 J J J (λq=>U0 q))<|yN ?_;refine cN h (λhc h=>?_) λhc h=>?_
    ·refine S4 1 J ?_;refine b9 ?_;have h:=xL hx8 h;cases h;exact f1
    ·refine c5 ?_;refine S6 3 J ?_;exact eL h W
   ·refine p6 ?_;refine c7<|c7<|k9 ?_;have h:=xL hx8 h;exact eJ h W

theorem b1o{a0}:PO Tryz.prog 131 [p9.Pv a0] (a30 a0) λr=>.bool r:=by
 refine pO Tryz.func131 λr h _ _=>?_;unfold a30 at h;refine S4 2 J<|S3 4 J<|k7 J (λhg=>oF J b11 J)<|k7 J (λhg=>oS (ct hg) J J x6 J)<|k7 J (λhg=>s6 (ct hg) J J)<|y0 J (x8 J J J (λq=>U0 q))<|S2 1 J<|b9 ?_;cases h;exact f1

theorem b77{a0}:PO Tryz.prog 76 [m9.Pv a0] (a8W a0) λr=>.bool r:=by
 refine pO Tryz.func76 λr h _ _=>?_;refine S4 2 J<|g7<|S3 1 J<|cF h a13 J J λv1 _ h=>cA h b71 J J λv2 _ h=>S1 2 J<|k7 J (λhg=>oF J b9b J)<|k7 J (λhg=>oS (ct hg) J J x6 J)<|k7 J (λhg=>s6 (ct hg) J J)<|y0 J (x8 J J J (λq=>U0 q))<|yN ?_;refine cN h (λhc h=>?_) λhc h=>?_
 ·refine S4 1 J ?_;refine b9 ?_;cases h;exact f1
 ·refine c5 ?_;refine jq h (λ_=>St.of [] []) (λq23 h=>?_) λκ22 h=>?_
  ·refine S4 1 J ?_;refine b9 ?_;cases h;exact f1
  ·refine S4 1 J ?_;refine g6<|lq h (λs25=>St.of [(1,.ptr 1 0 0),(3,.I s25)] [(1,vR (m9.Pv a0) 3)]) W λs25 x26 h hx24=>g7<|S3 3 J<|nL J Y6<|S2 1 J ?_;refine cN h (λhc h=>?_) λhc h=>?_
   ·refine c5 ?_;refine jq h (λ_=>St.of [(1,.ptr 1 0 0),(3,.I s25)] [(1,vR (m9.Pv a0) 3)]) (λq35 h=>?_) λκ34 h=>?_
    ·refine S6 3 J ?_;exact eL h W
    ·refine g6 ?_;refine S3 3 J<|iL h J J Y6 Z3 λv36 _ h=>S2 3 J<|S4 4 J<|g7<|S3 1 J<|cA h b1o J J λv37 _ h=>S2 1 J ?_;refine cN h (λhc h=>?_) λhc h=>?_
     ·refine g7 ?_;refine S3 4 J<|k7 J (λhg=>oF J b4a J)<|k7 J (λhg=>oS (ct hg) J J x6 J)<|k7 J (λhg=>s6 (ct hg) J J)<|y0 J (x8 J J J (λq=>U0 q))<|S1 1 J<|k7 J (λhg=>oF J b4b J)<|k7 J (λhg=>oS (ct hg) J J x6 J)<|k7 J (λhg=>s6 (ct hg) J J)<|y0 J (x8 J J J (λq=>U0 q))<|S1 1 J<|k7 J (λhg=>oF J b4c J)<|k7 J (λhg=>oS (ct hg) J J x6 J)<|k7 J (λhg=>s6 (ct hg) J J)<|y0 J (x8 J J J (λq=>U0 q))<|S1 1 J<|k7 J (λhg=>oF J b9e J)<|k7 J (λhg=>oS (ct hg) J J b0y J)<|y0 J (x8 J J J (λq=>U0 q))<|S1 1 J<|k7 J (λhg=>oF J b4d J)<|k7 J (λhg=>oS (ct hg) J J a7J J)<|k7 J (λhg=>Z8 (f:=iF) (ct hg) l4)<|k7 J (λhg=>s6 (ct hg) J J)<|y0 J (x8 J J J (λq=>U0 q))<|yN ?_;refine cN h (λhc h=>?_) λhc h=>?_
      ·refine S4 1 J ?_;refine b9 ?_;have h:=xL hx24 h;cases h;exact f1
      ·refine c5 ?_;refine p6<|c7<|k9 ?_;exact eJ h W
     ·refine c5 ?_;refine g7<|S3 4 J<|k7 J (λhg=>oF J a7O J)<|k7 J (λhg=>oS (ct hg) J J x6 J)<|k7 J (λhg=>oF J b9b J)<|k7 J (λhg=>oS (ct hg) J J x6 J)<|k7 J (λhg=>s6 (ct hg) (ct hg) J)<|y0 J (x8 J J J (λq=>U0 q))<|S1 1 J<|k7 J (λhg=>oF J b4a J)<|k7 J (λhg=>oS (ct hg) J J x6 J)<|k7 J (λhg=>s6 (ct hg) J J)<|y0 J (x8 J J J (λq=>U0 q))<|S1 1 J<|k7 J (λhg=>oF J b4b J)<|k7 J (λhg=>oS (ct hg) J J x6 J)<|k7 J (λhg=>s6 (ct hg) J J)<|y0 J (x8 J J J (λq=>U0 q))<|S1 1 J<|k7 J (λhg=>oF J b4c J)<|k7 J (λhg=>oS (ct hg) J J x6 J)<|k7 J (λhg=>s6 (ct hg) J J)<|y0 J (x8 J J J (λq=>U0 q))<|S1 1 J<|k7 J (λhg=>oF J b4c J)<|k7 J (λhg=>oS (ct hg) J J x6 J)<|k7 J (λhg=>s6 (ct hg) J J)<|y0 J (x8 J J J (λq=>U0 q))<|S1 1 J<|k7 J (λhg=>oF J b4d J) ?_;refine k7 J (λhg=>oS (ct hg) J J a7J J)<|k7 J (λhg=>Z8 (f:=iF) (ct hg) l4)<|k7 J (λhg=>s6 (ct hg) J J)<|y0 J (x8 J J J (λq=>U0 q))<|yN ?_;refine cN h (λhc h=>?_) λhc h=>?_
      ·refine S4 1 J ?_;refine b9 ?_;have h:=xL hx24 h;cases h;exact f1
      ·refine c5 ?_;refine S4 1 J<|g6<|lq h (λs39=>St.of [(1,.ptr 1 0 0),(3,.I s25),(5,.ptr 5 0 0),(6,.I s39)] [(5,vR (D9.Pv v36.Val) 6),(1,vR (m9.Pv a0) 3)]) W λs39 x40 h hx37=>g7<|S4 3 J ?_;refine cN h (λhc h=>?_) λhc h=>?_
       ·refine c5 ?_;refine g7<|g6<|dr [] w9 (by kernel_rfl) (by kernel_rfl)<|S7 3 J<|z7 h λv41 hv38 h=>d0 J (D2 (f:=p9.Pv) (cs:=p9.Pc v41) hv38 J J Y6 Z3 J J) J<|S7 1 J<|z7 h λv42 hv39 h=>d2 J (G7 J b1o J hv39) J<|S7 1 J<|z6 J (λhg _ hN=>oF J b37 J) J<|D1 J (λhg=>oS (ct hg) J J c0N J) J<|z6 J (λhg _ hN=>mI J) J<|D1 J (λhg=>D2 (f:=p9.Pv) (cs:=p9.Pc v41) hv38 (ct hg) (ct hg) Y6 Z3 J J) J<|z6 J (λhg _ hN=>B6 (ct hg) a3U J) J<|z6 J (λhg _ hN=>B6 (ct hg) a7O J) J<|D1 J (λhg=>G3 (ct hg) x6 J) J<|z6 J (λhg _ hN=>oF J a7O J) J<|D1 J (λhg=>oS (ct hg) J J x6 J) J<|z6 J (λhg _ hN=>s6 (ct hg) (ct hg) J) J<|d7 J (λ_ hN=>y8 J J J (λq=>eqT q)) J<|Q0 ?_
        refine cN h (λhc h=>?_) λhc h=>?_
        ·refine S4 1 J ?_;refine b9 ?_;have h:=xL hx37 h;have h:=xL hx24 h;cases h;exact f1
        ·refine c5 ?_;refine S6 3 J ?_;exact eL h W
       ·refine p6 ?_;refine c7<|c7<|k9 ?_;have h:=xL hx37 h;exact eJ h W
   ·refine p6 ?_;refine c7<|c7<|k9 ?_;have h:=xL hx24 h;exact eJ h W

theorem b22{a0 a1}:PO Tryz.prog 132 [.L m7.Pv a0,.I a1] (a0Z a0 a1) λr=>.I r:=by
 refine pO Tryz.func132 λr h _ _=>?_;refine S4 1 J ?_;refine jq h (λ_=>St.of [] []) (λq6 h=>?_) λκ5 h=>?_
 ·refine S4 1 J ?_;refine b9 ?_;cases h;exact f1
 ·refine S4 1 J ?_;refine g6<|lq h (λs8=>St.of [(0,.L m7.Pv a0),(1,.I a1),(5,.I s8)] []) W λs8 x9 h hx8=>g7<|S3 2 J<|nL J a2o<|S2 1 J ?_;refine cN h (λhc h=>?_) λhc h=>?_
  ·refine c5 ?_;refine g7<|g6<|S3 2 J<|iL h J J a2o a2M λv10 hv9 h=>S1 4 J<|k7 J (λhg=>om (d:=.L m7.Pv a0) J)<|k7 J (λhg=>mI J)<|k7 J (λhg=>D2 (f:=m7.Pv) (cs:=m7.Pc v10) hv9 (ct hg) (ct hg) a2o a2M J J)<|k7 J (λhg=>B6 (ct hg) b6e J)<|k7 J (λhg=>G3 (ct hg) x6 J)<|k7 J (λhg=>mI J)<|k7 J (λhg=>s6 (ct hg) (ct hg) J)<|y0 J (y8 J J J (λq=>eqT q))<|yN ?_;refine cN h (λhc h=>?_) λhc h=>?_
   ·refine S4 2 J ?_;refine b9 ?_;have h:=xL hx8 h;cases h;exact f1
   ·refine c5 ?_;refine S6 3 J ?_;exact eL h W
  ·refine p6 ?_;refine c7<|c7<|k9 ?_;have h:=xL hx8 h;exact eJ h W

theorem b95{a0 a1}:PO Tryz.prog 133 [.I a0,.I a1] (b1s a0 a1) λr=>.I r:=by
 refine pO Tryz.func133 λr h _ _=>?_;refine S4 1 J<|g7<|S4 2 J ?_;refine cN h (λhc h=>?_) λhc h=>?_
 ·refine S4 1 J ?_;refine b9 ?_;cases h;exact f1
 ·refine c5 ?_;refine S3 4 J<|z7 h λv1 hv1 h=>y0 J (a3d J J hv1)<|S2 1 J<|g7<|S4 2 J ?_;refine cN h (λhc h=>?_) λhc h=>?_
  ·refine S6 4 J ?_;refine S4 2 J<|b9 ?_;cases h;exact f1
  ·refine c5 ?_;refine S4 2 J<|b9 ?_;cases h;exact f1

theorem b8b{a0}:PO Tryz.prog 77 [.L m7.Pv a0] (a80 a0) λr=>.bool r:=by
 refine pO Tryz.func77 λr h _ _=>?_;refine S4 1 J<|S3 1 J<|nL J a2o<|S2 1 J<|g7<|S3 3 J<|k7 J (λhg=>mI J)<|k7 J (λhg=>s6 (ct hg) J J)<|y0 J (x8 J J J (λq=>U0 q))<|yN ?_;refine cN h (λhc h=>?_) λhc h=>?_
 ·refine S4 1 J ?_;refine b9 ?_;cases h;exact f1
 ·refine c5 ?_;refine jq h (λ_=>St.of [] []) (λq23 h=>?_) λκ22 h=>?_
  ·refine S4 1 J ?_;refine b9 ?_;cases h;exact f1
  ·refine S4 1 J ?_;refine g6<|lq h (λs25=>St.of [(0,.L m7.Pv a0),(3,.I (a0.length:Int)),(4,.I s25)] []) W λs25 x26 h hx24=>g7<|S4 3 J ?_;refine cN h (λhc h=>?_) λhc h=>?_
   ·refine c5 ?_;refine jq h (λ_=>St.of [(0,.L m7.Pv a0),(3,.I (a0.length:Int)),(4,.I s25)] []) (λq36 h=>?_) λκ35 h=>?_
    ·refine S6 3 J ?_;exact eL h W
    ·refine g6 ?_;refine S3 2 J<|iL h J J a2o a2M λv37 _ h=>S2 3 J<|g7<|S3 4 J<|k7 J (λhg=>oF J b6d J)<|k7 J (λhg=>oS (ct hg) J J x6 J)<|k7 J (λhg=>s6 (ct hg) J J)<|y0 J (x8 J J J (λq=>U0 q))<|S1 1 J<|k7 J (λhg=>oF J b6d J)<|k7 J (λhg=>oS (ct hg) J J x6 J)<|k7 J (λhg=>s6 (ct hg) J J)<|k7 J (λhg=>om (d:=.bool (v37.State != 1)) (ct hg))<|k7 (C7 J J J) (λhg=>oF J b6e J)<|k7 (C7 J J J) (λhg=>oS (ct hg) J J x6 J)<|k7 (C7 J J J) (λhg=>s6 (ct hg) J J)<|k7 (C7 J J J) (λhg=>om (d:=.bool (v37.Key != 0)) (ct hg))<|k7 (C7 J J J) (λhg=>oF J c3T J)<|k7 (C7 J J J) (λhg=>oS (ct hg) J J x6 J)<|k7 (C7 J J J) (λhg=>s6 (ct hg) J J)<|k7 (C7 J J J) (λhg=>x8 (ct hg) J J (λq=>b0D hg (U0 q)))<|k7 J (λhg=>y8 (ct hg) J J (λq=>b0D hg (eqT q)))<|y0 J (x8 J J J (λq=>U0 q))<|yN ?_;refine cN h (λhc h=>?_) λhc h=>?_
     ·refine S4 1 J ?_;refine b9 ?_;have h:=xL hx24 h;cases h;exact f1
     ·refine c5 ?_;refine g7<|S4 3 J ?_;refine cN h (λhc h=>?_) λhc h=>?_
      ·refine p6 ?_;refine c7<|k9 ?_;exact eJ h W
      ·refine c5 ?_;refine g7<|S3 3 J<|cA h b22 J J λv38 _ h=>S2 2 J ?_;refine cN h (λhc h=>?_) λhc h=>?_
       ·refine S4 1 J ?_;refine b9 ?_;have h:=xL hx24 h;cases h;exact f1
       ·refine c5 ?_;refine S3 3 J<|cA h b95 J J λv39 _ h=>S2 1 J<|g6<|lq h (λs41=>St.of [(0,.L m7.Pv a0),(3,.I (a0.length:Int)),(4,.I s25),(6,.I s41)] []) W λs41 x42 h hx39=>g7<|S4 3 J ?_;refine cN h (λhc h=>?_) λhc h=>?_
        ·refine c5 ?_;refine g7<|g6<|S3 2 J<|iL h J J a2o a2M λv43 _ h=>S2 3 J ?_;refine cN h (λhc h=>?_) λhc h=>?_
         ·refine S4 1 J ?_;refine b9 ?_;have h:=xL hx39 h;have h:=xL hx24 h;cases h;exact f1
         ·refine c5 ?_;refine S5 3 J<|z7 h λv44 hv41 h=>y0 J (a3d J J hv41)<|S2 1 J ?_;exact eL h W
        ·refine p6 ?_;refine c7<|c7<|k9 ?_;have h:=xL hx39 h;exact eJ h W
   ·refine p6 ?_;refine c7<|c7<|k9 ?_;have h:=xL hx24 h;exact eJ h W

theorem a8a{a0 a1}:PO Tryz.prog 84 [.I a0,.I a1] (a3g a0 a1) λr=>.I r:=by
 refine pO Tryz.func84 λr h _ _=>?_;refine S4 1 J<|g7<|S3 3 J<|k7 J (λhg=>mI J)<|k7 J (λhg=>s6 (ct hg) J J)<|y0 J (x8 J J J (λq=>U0 q))<|S1 1 J<|k7 J (λhg=>mI J)<|k7 J (λhg=>s6 (ct hg) J J)<|y0 J (x8 J J J (λq=>U0 q))<|S1 1 J<|k7 J (λhg=>mI J)<|k7 J (λhg=>s6 (ct hg) J J)<|y0 J (x8 J J J (λq=>U0 q))<|yN ?_;refine cN h (λhc h=>?_) λhc h=>?_
 ·refine S4 1 J ?_;refine b9 ?_;cases h;exact f1
 ·refine c5 ?_;refine S4 6 J<|b9 ?_;cases h;exact f1

end Go.Proofs.YtjlokngooekbcaaGreat.Ok
