/-
 The functions of the program do as the plain functions do.
-/
import Derived.Test.YtjlokngooekbcaaGreatP21cOk1
set_option linter.unusedVariables false
set_option linter.unusedSimpArgs false
set_option linter.unusedSectionVars false
namespace Go.Proofs.YtjlokngooekbcaaGreat.Ok
open Go Go.Pw Go.Sh Go.Proofs
set_option maxRecDepth 100000
set_option maxHeartbeats 4000000
theorem a8F{a0 a1}:PO Tryz.prog 107 [b6.Pv a0,.L iF a1] (a0m a0 a1) λr=>b6.Pv r:=by
 refine pO Tryz.func107 λr h _ _=>?_;refine S4 2 J<|S3 2 J<|cF h a9x J J λv1 _ h=>S2 1 J<|S3 2 J<|cF h b1E J J λv2 _ h=>S2 1 J<|S4 1 J<|S4 2 J ?_;refine jq h (λj13=>St.of [(2,.ptr 2 0 0),(4,.ptr 4 0 0),(5,.L iF v1),(6,.ptr 6 0 0),(7,.fn (.func 172) [.ptr 6 0 0])] [(6,vS (.sl 910506) 1),(910506,⟨List.map iF j13,(List.map iF j13).length,true,1,true⟩),(4,vR (.agg [.nl,.I 0,.I 0,.nl,.nl,.nl,.nl,.I 0]) 8),(2,vR (b6.Pv v2) 8)]) (λj13 h=>?_) λκ12 h=>?_
 ·refine S3 3 J ?_;refine cF h b13 J J λv14 _ h=>S2 5 J<|S3 2 J<|T1 (WPE (λl=>if l=2025 then 6 else if l=2026 then 4 else if l=2027 then 2 else if l=2028 then 910506 else l) [(2,.ptr 2027 0 0),(4,.ptr 2026 0 0),(5,.L iF v1),(6,.ptr 2025 0 0),(12,.L b9.Pv v14.1),(51,.fn (.func 172) [.ptr 2025 0 0]),(52,.L iF v14.2)] [(2025,vS (.sl 2028) 1),(2028,⟨List.map iF j13,(List.map iF j13).length,true,1,true⟩),(2026,vR (.agg [.nl,.I 0,.I 0,.nl,.nl,.nl,.nl,.I 0]) 8),(2027,vR (b6.Pv v2) 8)]) ?_
  refine b6U (fn:=Tryz.f172) (N1:=6) J J Tryz.func172 J c2H J J nl (λe14 o15=>?_);refine S5 2 J<|w8 h λv15 hv16 h=>O5 J (J1 (f:=iF) hv16 J J J J J J (.inl ⟨_,J,J⟩) j5 o5 K1 A3 J (λ_=>J)) J J J<|S2 1 J ?_;refine⟨J,[],tr,?_⟩;refine T1 (WPE (λl=>if l=2029 then 5 else l) [(2,.ptr 2027 0 0),(4,.ptr 2026 0 0),(5,.L iF v1),(6,.ptr 2025 0 0),(12,.L b9.Pv v14.1)] [(2025,vS (.sl 2029) 1),(2029,⟨List.map iF v15,j13.length,true,1,true⟩),(2026,vR (.agg [.nl,.I 0,.I 0,.nl,.nl,.nl,.nl,.I 0]) 8),(2027,vR (b6.Pv v2) 8)])<|yN<|S4 3 J ?_
  refine jq h (λj24=>St.of [(2,.ptr 2027 0 0),(4,.ptr 2026 0 0),(6,.ptr 2025 0 0)] [(2025,vS (.sl 2029) 1),(2029,⟨List.map iF v15,j13.length,true,1,true⟩),(2026,vR (.agg [.nl,.I 0,.I 0,.nl,.nl,.nl,.nl,.I 0]) 8),(2027,vR (b6.Pv j24) 8)]) (λj24 h=>?_) λκ23 h=>?_
  ·refine jq h (λj33=>St.of [(2,.ptr 2027 0 0),(4,.ptr 2026 0 0)] [(2026,vR (.agg [.nl,.I 0,.I 0,.nl,.nl,.nl,.nl,.I 0]) 8),(2027,vR (b6.Pv j33) 8)]) (λj33 h=>?_) λκ32 h=>?_
   ·refine S4 2 J ?_;refine b8 ?_;cases h;exact⟨J,[_],⟨oL J J J s6 o9 nl J,tr⟩,J,io⟩
   ·refine S3 1 J ?_;refine y0 J (c3p (f:=iF) J J J j5)<|S2 1 J<|g5<|lq h (λq=>St.of [(2,.ptr 2027 0 0),(4,.ptr 2026 0 0),(66,.sl 2029),(67,.I (v15.length:Int)),(68,.I q.1)] [(2029,⟨List.map iF v15,j13.length,true,1,true⟩),(2026,vR (.agg [.nl,.I 0,.I 0,.nl,.nl,.nl,.nl,.I 0]) 8),(2027,vR (b6.Pv q.2) 8)]) W λq38 x37 h hx31=>?_;obtain⟨s35,s36⟩:=q38;refine S4 1 J<|e6 ?_;refine cN h (λhc h=>?_) λhc h=>?_
    ·refine c4 ?_;refine e6<|g5<|sR<|w8 h λv39 hv32 h=>y0 J (a3F (f:=iF) hv32 J J J J j5 o5 J)<|y0 J (b4P (f:=iF) hv32 J J J C7 J)<|S2 1 J<|S5 2 J<|cF h W8 J J λv40 _ h=>S2 1 J<|S6 2 J ?_;exact eL h W
    ·refine o8 ?_;refine c5<|c5<|l4 ?_;have h:=xL hx31 h;exact eJ h W
  ·refine S3 1 J ?_;refine nL J j5<|S2 1 J<|g5<|lq h (λq=>St.of [(2,.ptr 2027 0 0),(4,.ptr 2026 0 0),(6,.ptr 2025 0 0),(56,.L iF v1),(57,.I (v1.length:Int)),(58,.I q.1)] [(2025,vS (.sl 2029) 1),(2029,⟨List.map iF v15,j13.length,true,1,true⟩),(2026,vR (.agg [.nl,.I 0,.I 0,.nl,.nl,.nl,.nl,.I 0]) 8),(2027,vR (b6.Pv q.2) 8)]) W λq45 x44 h hx36=>?_;obtain⟨s42,s43⟩:=q45;refine S4 1 J<|e6 ?_;refine cN h (λhc h=>?_) λhc h=>?_
   ·refine c4 ?_;refine e6<|g5<|sR<|iL h J J j5 o5 λv46 _ h=>S2 2 J<|S5 2 J<|cF h b2A J J λv47 _ h=>S2 1 J<|S6 2 J ?_;exact eL h W
   ·refine o8 ?_;refine c5<|c5<|l4 ?_;have h:=xL hx36 h;exact eJ h W
 ·refine S3 1 J ?_;refine nL J j5<|S2 1 J<|g5<|lq h (λq=>St.of [(2,.ptr 2 0 0),(4,.ptr 4 0 0),(5,.L iF v1),(6,.ptr 6 0 0),(7,.fn (.func 172) [.ptr 6 0 0]),(25,.L iF v1),(26,.I (v1.length:Int)),(27,.I q.1)] [(6,vS (.sl 910506) 1),(4,vR (.agg [.nl,.I 0,.I 0,.nl,.nl,.nl,.nl,.I 0]) 8),(2,vR (b6.Pv v2) 8),(910506,⟨List.map iF q.2,(List.map iF q.2).length,true,1,true⟩)]) (Wk.trans (b1P (l0:=6) (j:=0) (l:=920506) (z:=1) J J J J J) (WP (λl=>if l=910506 then 920506 else l))) λq52 x51 h hx41=>?_
  obtain⟨s49,s50⟩:=q52;refine S4 1 J<|e6 ?_;refine cN h (λhc h=>?_) λhc h=>?_
  ·refine c4 ?_;refine e6<|g5<|sR<|iL h J J j5 o5 λv53 _ h=>S2 2 J<|S3 3 J<|cF h C0 J J λv54 _ h=>S2 6 J<|S5 3 J<|cF h b1N J J λv55 _ h=>T1 (WPE (λl=>if l=2049 then 6 else if l=2050 then 4 else if l=2051 then 2 else if l=2052 then 910506 else l) [(2,.ptr 2051 0 0),(4,.ptr 2050 0 0),(5,.L iF v1),(6,.ptr 2049 0 0),(7,.fn (.func 172) [.ptr 2049 0 0]),(25,.L iF v1),(26,.I (v1.length:Int)),(27,.I s49),(38,.fn (.func 172) [.ptr 2049 0 0]),(41,.L iF v55)] [(2049,vS (.sl 2052) 1),(2052,⟨List.map iF s50,(List.map iF s50).length,true,1,true⟩),(2050,vR (.agg [.nl,.I 0,.I 0,.nl,.nl,.nl,.nl,.I 0]) 8),(2051,vR (b6.Pv v2) 8)]) ?_
   refine b6U (fn:=Tryz.f172) (N1:=6) J J Tryz.func172 J c2H J J nl (λe45 o46=>?_);refine S5 2 J<|w8 h λv56 hv47 h=>O5 J (J1 (f:=iF) hv47 J J J J J J (.inl ⟨_,J,J⟩) j5 o5 K1 A3 J (λ_=>J)) J J J<|S2 1 J ?_;refine⟨J,[],tr,?_⟩;refine T1 (WPE (λl=>if l=2053 then 5 else l) [(2,.ptr 2051 0 0),(4,.ptr 2050 0 0),(5,.L iF v1),(6,.ptr 2049 0 0),(7,.fn (.func 172) [.ptr 2049 0 0]),(25,.L iF v1),(26,.I (v1.length:Int)),(27,.I s49)] [(2049,vS (.sl 2053) 1),(2053,⟨List.map iF v56,s50.length,true,1,true⟩),(2050,vR (.agg [.nl,.I 0,.I 0,.nl,.nl,.nl,.nl,.I 0]) 8),(2051,vR (b6.Pv v2) 8)])<|yN<|S6 2 J ?_
   exact eL h (Wk.trans (n8 _ [2053]) (WP (λl=>if l=2 then 2051 else if l=4 then 2050 else if l=6 then 2049 else if l=910506 then 2053 else l)))
  ·refine o8 ?_;refine c5<|c5<|l4 ?_;have h:=xL hx41 h;exact eJ h (Wk.trans (n8 _ [910506]) W)

theorem a0E{a0}:PO Tryz.prog 103 [b6.Pv a0] (O4 a0) λr=>b6.Pv r:=by
 refine pO Tryz.func103 λr h _ _=>?_;refine S4 2 J<|lqS h (λs2=>St.of [(1,.ptr 1 0 0),(2,.ptr 2 0 0)] [(2,vR (.agg [.nl,.I 0,.I 0,.nl,.nl,.nl,.nl,.I 0]) 8),(1,vR (b6.Pv s2) 8)]) W λs2 x3 h hx3=>S3 1 J<|cF h b5h J J λv4 _ h=>S2 1 J<|e6<|S3 1 J<|nL J j5<|S2 1 J ?_;refine cN h (λhc h=>?_) λhc h=>?_
 ·refine S4 2 J ?_;refine b8 ?_;have h:=xL hx3 h;cases h;exact⟨J,[_],⟨oL J J J s6 o9 nl J,tr⟩,J,io⟩
 ·refine c4 ?_;refine e6<|dr [] u5 (by kernel_rfl) (by kernel_rfl)<|S7 3 J<|w8 h λv5 hv5 h=>d0 J (A5 (f:=iF) (cs:=[.I v5]) hv5 J J j5 o5 J J) J<|S7 1 J<|w8 h λv6 hv6 h=>d2f J (y8 J C0 J hv6) J<|S7 4 J<|E8 (x':=m7.Pv v6.1) (cl':=true) J J (.inr J) a4O<|S8 1 J<|S3 1 J<|cA h a5d J J λv7 _ h=>yN ?_
  refine cN h (λhc h=>?_) λhc h=>?_
  ·refine b0e [] u5 (by kernel_rfl) (by kernel_rfl) ?_
   refine S7 2 J<|d0 J (A5 (f:=iF) (cs:=[.I v5]) hv5 J J j5 o5 J J) J<|S7 1 J<|w8 h λv8 hv8 h=>d2f J (y8 J a6d J hv8) J<|E8 (x':=b6.Pv v8) (cl':=true) J J (.inr J) o9<|O2<|c3B ?_;exact eS h W
  ·refine b0e [] u5 (by kernel_rfl) (by kernel_rfl) ?_
   refine S7 2 J<|w8 h λv9 hv9 h=>d0 J (d2Q (f:=iF) hv9 J J ⟨_,J⟩ j5 o5 (λ_=>J)) J<|w8 h λv10 hv10 h=>d2f J (y8 J a8F J hv10) J<|E8 (x':=b6.Pv v10) (cl':=true) J J (.inr J) o9<|O2<|c3B ?_;exact eS h W

theorem a43{a0 a1}:PO Tryz.prog 69 [b6.Pv a0,.I a1] (a0i a0 a1) λr=>.I r:=by
 refine pO Tryz.func69 λr h _ _=>?_;refine S4 2 J<|S3 3 J<|cF h C0 J J λv1 _ h=>S2 6 J<|S4 3 J<|b8 ?_;cases h;exact f1

theorem a5r{a0 a1}:PO Tryz.prog 163 [b6.Pv a0,.I a1] (a1j a0 a1) λr=>.I r:=by
 refine pO Tryz.func163 λr h _ _=>?_;unfold a1j at h;refine S4 2 J<|dr [] u5 (by kernel_rfl) (by kernel_rfl)<|S7 3 J<|w8 h λv1 hv1 h=>d2 J (F1 J M9 J hv1) J<|w8 h λv2 hv2 h=>d2 J (F1 J a43 J hv2) J<|S8 1 J<|b8 ?_
 cases h;exact f1

theorem b06{a0 a1 a2}:PO Tryz.prog 104 [b6.Pv a0,b6.Pv a1,g6.Pv a2] (U6 a0 a1 a2) λr=>.I r:=by
 refine pO Tryz.func104 λr h _ _=>?_;refine S4 4 J<|e6<|S4 2 J<|g5<|S4 2 J ?_;refine cN h (λhc h=>?_) λhc h=>?_
 ·refine S3 3 J ?_;refine cA h a5r J J λv1 _ h=>S2 1 J<|b8 ?_;cases h;exact f1
 ·refine jq h (λj3=>St.of [(3,.ptr 3 0 0),(4,.ptr 4 0 0),(5,.ptr 5 0 0),(8,.I a2.Kind),(15,.bool j3)] [(5,vR (g6.Pv a2) 4),(4,vR (b6.Pv a1) 8),(3,vR (b6.Pv a0) 8)]) (λj3 h=>?_) λκ2 h=>?_
  ·refine cN h (λhc h=>?_) λhc h=>?_
   ·refine S3 3 J ?_;refine cA h a5r J J λv4 _ h=>S2 1 J<|b8 ?_;cases h;exact f1
   ·refine S4 2 J ?_;refine cN h (λhc h=>?_) λhc h=>?_
    ·refine e6 ?_;refine dr [] u5 (by kernel_rfl) (by kernel_rfl)<|S7 3 J<|w8 h λv5 hv4 h=>d2 J (F1 J M9 J hv4) J<|S7 3 J<|w8 h λv6 hv5 h=>d2 J (F1 J M9 J hv5) J<|S8 1 J ?_
     refine cN h (λhc h=>?_) λhc h=>?_
     ·refine S4 1 J ?_;refine b8 ?_;cases h;exact f1
     ·refine c4 ?_;refine S4 1 J<|b8 ?_;cases h;exact f1
    ·refine c4 ?_;refine S3 3 J<|cA h a5r J J λv7 _ h=>S2 1 J<|b8 ?_;cases h;exact f1
  ·refine S4 2 J ?_;refine cN h (λhc h=>?_) λhc h=>?_
   ·refine c4 ?_;exact eJ h W
   ·refine S6 2 J ?_;exact eJ h W

theorem a9L{a0 a1}:PO Tryz.prog 59 [b6.Pv a0,g6.Pv a1] (u7 a0 a1) λr=>.tup [b6.Pv r.1,.I r.2.1,.I r.2.2]:=by
 refine pO Tryz.func59 λr h _ _=>?_;refine S4 5 J<|e6<|S3 1 J<|cA h a5m J J λv1 _ h=>S2 1 J<|S4 2 J ?_;refine cN h (λhc h=>?_) λhc h=>?_
 ·refine S4 5 J ?_;refine b8 ?_;cases h;exact⟨J,[_,_,_],⟨oL J J J s6 o9 nl J,⟨J,⟨J,tr⟩⟩⟩,J,io⟩
 ·refine c4 ?_;refine dr [] u5 (by kernel_rfl) (by kernel_rfl)<|w8 h λv2 hv2 h=>d2f J (y8 J b2b J hv2) J<|S7 2 J<|d4 J (d5c (es:=v2) (k:=a1.Kind) (E:=fvE) (EK:=iF) (d:=.tup [fvE ((B4 v2 a1.Kind).getD (none:Fv)),.bool ((B4 v2 a1.Kind).isSome)]) J J a0e (A1 L4) c82 J (lk2 _ _ _)) J<|S8 5 J<|e6<|S4 2 J ?_
  refine cN h (λhc h=>?_) λhc h=>?_
  ·refine S4 4 J ?_;refine b8 ?_;cases h;exact⟨J,[_,_,_],⟨oL J J J s6 o9 nl J,⟨J,⟨J,tr⟩⟩⟩,J,io⟩
  ·refine c4 ?_;refine S3 3 J<|y0 J (p6 (cs:=[.L b7.Pv a0.S.S.a8,.I a0.S.S.Last,.I a0.S.Serial,.L iF a0.Roots,.L c9.Pv a0.a8,.L b9.Pv a0.T,.L g9.Pv a0.Q.L,.I a0.Q.Cap,.I a1.Kind,.I a1.A,.I a1.B,.I a1.C]) J c8N c83 J J J) ?_;obtain⟨v3,hv3,h⟩:=a7o h;obtain⟨n4,he4,hk5,hp6⟩:=c1n hv3;refine T1 (d1p 30 J he4)<|yc J (b7P J hk5 J hp6)<|S2 6 J<|e6<|S4 2 J ?_;refine cN h (λhc h=>?_) λhc h=>?_
   ·refine S4 5 J ?_;refine b8 ?_;cases h;exact⟨J,[_,_,_],⟨oL J J J s6 o9 nl J,⟨J,⟨J,tr⟩⟩⟩,J,io⟩
   ·refine c4 ?_;refine S3 1 J<|cF h a0E J J λv5 _ h=>S2 2 J<|dr [] u5 (by kernel_rfl) (by kernel_rfl)<|S7 4 J<|w8 h λv6 hv8 h=>d2 J (F1 J b06 J hv8) J<|E8 (x':=b6.Pv v5) (cl':=true) J J (.inr J) o9<|S8 2 J<|b8 ?_
    cases h;exact⟨J,[_,_,_],⟨oL J J J s6 o9 nl J,⟨J,⟨J,tr⟩⟩⟩,J,io⟩

theorem b5T{a0}:PO Tryz.prog 382 [a7.Pv a0] (a65 a0) λr=>.fn (.func 387) [.rptr (a7.Pc r)]:=by
 refine pO Tryz.func382 λr h _ _=>?_;unfold a65 at h;refine S4 2 J<|S4 2 J<|b8 ?_;cases h;exact f1

theorem b2X{a0 a1}:PO Tryz.prog 372 [a7.Pv a0,.I a1] (a54 a0 a1) λr=>.L iF r:=by
 refine pO Tryz.func372 λr h _ _=>?_;refine S4 2 J<|S3 2 J<|cF h C0 J J λv1 _ h=>S2 6 J<|S3 2 J<|cF h b1N J J λv2 _ h=>S2 1 J<|b8 ?_;cases h;exact f1

theorem c15{a0 a1}:PO Tryz.prog 375 [a7.Pv a0,.I a1] (b3O a0 a1) λr=>.I r:=by
 refine pO Tryz.func375 λr h _ _=>?_;refine S4 3 J<|S4 2 J ?_;refine jq h (λj31=>St.of [(5,.ptr 2001 0 0)] [(2001,vR (.I j31) 1)]) (λj31 h=>?_) λκ30 h=>?_
 ·refine S4 2 J ?_;refine b8 ?_;cases h;exact f1
 ·refine S3 1 J ?_;refine cF h b5T J J λv32 _ h=>yN<|g5<|a3e (WPE (λl=>if l=2003 then 5 else if l=2004 then 3 else l) [(3,.ptr 2004 0 0),(5,.ptr 2003 0 0),(9,.fn (.func 387) [.rptr (a7.Pc v32)])] [(2003,vR (.I 0) 1),(2004,vR (.I a1) 1)]) ?_
  refine a13 (fn:=Tryz.f387) (N1:=29) J Tryz.func387 J J nl J c8F J J (λl33 e34 o35 hR36=>?_);refine b91<|e6<|b90<|S3 1 J<|cF h L2 J J λv33 _ h=>nL J j5<|S2 1 J<|g5<|lq h (λq=>St.of [(1000003,.ptr 2004 0 0),(1000005,.ptr 2003 0 0),(1000009,.fn (.func 387) [.rptr (a7.Pc v32)]),(0,.fn (.yield l33) []),(1,.rptr (a7.Pc v32)),(8,.L iF v33),(9,.I (v33.length:Int)),(10,.I q.1)] [(2003,vR (.I q.2) 1),(2004,vR (.I a1) 1)]) W λq38 x37 h hx40=>?_;obtain⟨s35,s36⟩:=q38;refine S4 1 J<|e6 ?_;refine cN h (λhc h=>?_) λhc h=>?_
  ·refine c4 ?_;refine jq h (λj50=>St.of [(1000003,.ptr 2004 0 0),(1000005,.ptr 2003 0 0),(1000009,.fn (.func 387) [.rptr (a7.Pc v32)]),(0,.fn (.yield l33) []),(1,.rptr (a7.Pc v32)),(8,.L iF v33),(9,.I (v33.length:Int)),(10,.I s35)] [(2003,vR (.I j50) 1),(2004,vR (.I a1) 1)]) (λj50 h=>?_) λκ49 h=>?_
   ·refine S6 2 J ?_;exact eL h W
   ·refine g5 ?_;refine sR<|iL h J J j5 o5 λv51 _ h=>S2 2 J<|S3 2 J<|cF h b2X J J λv52 _ h=>nL J j5<|S2 1 J<|g5<|lq h (λq=>St.of [(1000003,.ptr 2004 0 0),(1000005,.ptr 2003 0 0),(1000009,.fn (.func 387) [.rptr (a7.Pc v32)]),(0,.fn (.yield l33) []),(1,.rptr (a7.Pc v32)),(4,.I v51),(8,.L iF v33),(9,.I (v33.length:Int)),(10,.I s35),(16,.L iF v52),(17,.I (v52.length:Int)),(18,.I q.1)] [(2003,vR (.I q.2) 1),(2004,vR (.I a1) 1)]) W λq57 x56 h hx56=>?_;obtain⟨s54,s55⟩:=q57;refine S4 1 J<|e6 ?_;refine cN h (λhc h=>?_) λhc h=>?_
    ·refine c4 ?_;refine e6<|g5<|sR<|iL h J J j5 o5 λv58 _ h=>S2 2 J<|S3 3 J<|T1 (WE [(1000003,.ptr 2004 0 0),(1000005,.ptr 2003 0 0),(1000009,.fn (.func 387) [.rptr (a7.Pc v32)]),(0,.fn (.yield l33) []),(1,.rptr (a7.Pc v32)),(4,.I v51),(8,.L iF v33),(9,.I (v33.length:Int)),(10,.I s35),(16,.L iF v52),(17,.I (v52.length:Int)),(18,.I s54),(22,.fn (.yield l33) []),(23,.I v51),(24,.I v58)] [(2003,vR (.I s55) 1),(2004,vR (.I a1) 1)]) ?_;refine a7n hR36 J J J J J J (λe58 o59 o60=>?_);refine S6 1 J ?_;refine⟨J,?_⟩;refine jqE h (λj60=>St.of [(2000003,.ptr 2004 0 0),(2000005,.ptr 2003 0 0),(2000009,.fn (.func 387) [.rptr (a7.Pc v32)]),(1000000,.fn (.yield l33) []),(1000001,.rptr (a7.Pc v32)),(1000004,.I v51),(1000008,.L iF v33),(1000009,.I (v33.length:Int)),(1000010,.I s35),(1000016,.L iF v52),(1000017,.I (v52.length:Int)),(1000018,.I s54),(1000022,.fn (.yield l33) []),(1000023,.I v51),(1000024,.I v58)] [(2003,vR (.I j60) 1),(2004,vR (.I a1) 1)]) (λj60 h=>?_) λκ59 h=>?_
     ·refine⟨J,?_⟩;refine T1 (WE [(1000003,.ptr 2004 0 0),(1000005,.ptr 2003 0 0),(1000009,.fn (.func 387) [.rptr (a7.Pc v32)]),(0,.fn (.yield l33) []),(1,.rptr (a7.Pc v32)),(4,.I v51),(8,.L iF v33),(9,.I (v33.length:Int)),(10,.I s35),(16,.L iF v52),(17,.I (v52.length:Int)),(18,.I s54),(25,.bool true)] [(2003,vR (.I j60) 1),(2004,vR (.I a1) 1)])<|S2 1 J ?_;refine H9 false J (λq=>nomatch q) (λ_=>?_);refine c4<|S6 2 J ?_;exact eL h W
     ·refine g5 ?_;refine S4 3 J ?_;refine cN h (λhc h=>?_) λhc h=>?_
      ·refine S6 3 J ?_;exact eJ h W
      ·refine c4 ?_;exact eJ h W
    ·refine o8 ?_;refine c5<|c5<|l4 ?_;have h:=xL hx56 h;exact eJ h W
  ·refine o8 ?_;refine c5<|c5<|l4<|b5U ?_;refine .inl ⟨J,?_⟩;have h:=xL hx40 h;exact eJ h (WP (λl=>if l=2001 then 2003 else l))

theorem a7W{a0}:PO Tryz.prog 384 [.L b9.Pv a0] (a1r a0) λr=>.fn (.func 388) [.rptr [.L b9.Pv r]]:=by
 refine pO Tryz.func384 λr h _ _=>?_;unfold a1r at h;refine S4 2 J<|S4 2 J<|b8 ?_;cases h;exact f1

theorem b0T{a0}:PO Tryz.prog 389 [.L b9.Pv a0] (a5I a0) λr=>.L iF r:=by
 refine pO Tryz.func389 λr h _ _=>?_;refine S4 1 J<|S4 1 J ?_;refine jq h (λj13=>St.of [(3,.sl 910003)] [(910003,⟨List.map iF j13,(List.map iF j13).length,true,1,true⟩)]) (λj13 h=>?_) λκ12 h=>?_
 ·refine S4 2 J ?_;refine b8 ?_;cases h;exact f1
 ·refine S3 1 J ?_;refine nL J Y5<|S2 1 J<|g5<|lq h (λq=>St.of [(3,.sl 910003),(6,.L b9.Pv a0),(7,.I (a0.length:Int)),(8,.I q.1)] [(910003,⟨List.map iF q.2,(List.map iF q.2).length,true,1,true⟩)]) (Wk.trans (G2 (t:=3) (l:=920003) (z:=1) J J) (WP (λl=>if l=910003 then 920003 else l))) λq18 x17 h hx12=>?_
  obtain⟨s15,s16⟩:=q18;refine S4 1 J<|e6 ?_;refine cN h (λhc h=>?_) λhc h=>?_
  ·refine c4 ?_;refine jq h (λj22=>St.of [(3,.sl 19),(6,.L b9.Pv a0),(7,.I (a0.length:Int)),(8,.I s15)] [(19,⟨List.map iF j22,(List.map iF j22).length,true,1,true⟩)]) (λj22 h=>?_) λκ21 h=>?_
   ·refine S6 2 J ?_;exact eL h (Wk.trans (n8 _ [19]) (WP (λl=>if l=910003 then 19 else l)))
   ·refine g5 ?_;refine sR<|iL h J J Y5 a0t λv23 _ h=>S2 3 J<|S4 3 J ?_;refine cN h (λhc h=>?_) λhc h=>?_
    ·refine S5 3 J ?_;refine y0 J (H2 (f:=iF) (l:=[v23.Key]) J j5 o5 A3 J J nl J J)<|w8 h λv24 hv17 h=>O5 J (J1 (f:=iF) hv17 J J J J J J (.inl ⟨_,J,J⟩) j5 o5 K1 A3 J (λ_=>J)) J J J<|S2 1 J ?_;exact eJ h (Wk.trans (n8 _ [19]) W)
    ·refine c4 ?_;exact eJ h (Wk.trans (n8 _ [910003]) (WP (λl=>if l=19 then 910003 else l)))
  ·refine o8 ?_;refine c5<|c5<|l4 ?_;have h:=xL hx12 h;exact eJ h (Wk.trans (n8 _ [910003]) W)

theorem b11{a0 a1}:PO Tryz.prog 385 [n0.Pv a0,.rptr [.I a1]] (a2R a0 a1) λr=>.bool r:=by
 refine pO Tryz.func385 λr h _ _=>?_;unfold a2R at h;refine S4 2 J<|S3 3 J<|k7 J (λhg=>oF J b55 J)<|k7 J (λhg=>oS (ct hg) J J C7 J)<|k7 J (λhg=>G6 J C7 J)<|k7 J (λhg=>w7 (ct hg) (ct hg) J)<|y0 J (y6 J J J (λq=>eqT q))<|S2 1 J<|b8 ?_;cases h;exact f1

theorem J3{a0 a1}:PO Tryz.prog 383 [.fn (.func 388) [.rptr [.L b9.Pv a0]],.fn (.func 385) [.rptr [.I a1]]] (A6 a0 a1) λr=>.L n0.Pv r:=by
 refine pO Tryz.func383 λr h _ _=>?_;refine S4 2 J<|S4 1 J ?_;refine jq h (λj16=>St.of [(5,.ptr 2001 0 0)] [(2001,vS (.sl 912501) 1),(912501,⟨List.map n0.Pv j16,(List.map n0.Pv j16).length,true,2,true⟩)]) (λj16 h=>?_) λκ15 h=>?_
 ·refine S4 2 J ?_;refine b8 ?_;cases h;exact f1
 ·refine S4 1 J ?_;refine g5<|a3e (WPE (λl=>if l=2012 then 5 else if l=2013 then 3 else l) [(3,.ptr 2013 0 0),(5,.ptr 2012 0 0),(7,.fn (.func 388) [.rptr [.L b9.Pv a0]])] [(2012,vR (.nl) 1),(2013,vR (.fn (.func 385) [.rptr [.I a1]]) 1)]) ?_
  refine a13 (fn:=Tryz.f388) (N1:=27) J Tryz.func388 J J nl J c2K J J (λl20 e21 o22 hR23=>?_);refine S3 1 J<|cF h b0T J J λv17 _ h=>nL J j5<|S2 1 J<|g5<|lq h (λq=>St.of [(1000003,.ptr 2013 0 0),(1000005,.ptr 2012 0 0),(1000007,.fn (.func 388) [.rptr [.L b9.Pv a0]]),(0,.fn (.yield l20) []),(1,.rptr [.L b9.Pv a0]),(8,.L iF v17),(9,.I (v17.length:Int)),(10,.I q.1)] [(2012,vS (.sl 912512) 1),(2013,vR (.fn (.func 385) [.rptr [.I a1]]) 1),(912512,⟨List.map n0.Pv q.2,(List.map n0.Pv q.2).length,true,2,true⟩)]) (Wk.trans (b1P (l0:=2012) (j:=0) (l:=922512) (z:=2) J J J J J) (WP (λl=>if l=912512 then 922512 else l))) λq22 x21 h hx27=>?_
  obtain⟨s19,s20⟩:=q22;refine S4 1 J<|e6 ?_;refine cN h (λhc h=>?_) λhc h=>?_
  ·refine c4 ?_;refine e6<|g5<|sR<|iL h J J j5 o5 λv23 _ h=>S2 2 J<|S3 2 J<|cA h a4X J J λv24 _ h=>S2 5 J<|S3 3 J<|y0 J (p6 (cs:=[.I v23,.I v24.1]) J c2M a8U J J J)<|T1 (WPE (λl=>if l=2021 then 912512 else l) [(1000003,.ptr 2013 0 0),(1000005,.ptr 2012 0 0),(1000007,.fn (.func 388) [.rptr [.L b9.Pv a0]]),(0,.fn (.yield l20) []),(1,.rptr [.L b9.Pv a0]),(8,.L iF v17),(9,.I (v17.length:Int)),(10,.I s19),(20,.fn (.yield l20) []),(23,.agg [.I v23,.I v24.1])] [(2012,vS (.sl 2021) 1),(2021,⟨List.map n0.Pv s20,(List.map n0.Pv s20).length,true,2,true⟩),(2013,vR (.fn (.func 385) [.rptr [.I a1]]) 1)]) ?_
   refine a7n hR23 J J J J J J (λe30 o31 o32=>?_);refine S6 2 J ?_;refine⟨J,?_⟩;refine jqE h (λj28=>St.of [(2000003,.ptr 2013 0 0),(2000005,.ptr 2012 0 0),(2000007,.fn (.func 388) [.rptr [.L b9.Pv a0]]),(1000000,.fn (.yield l20) []),(1000001,.rptr [.L b9.Pv a0]),(1000008,.L iF v17),(1000009,.I (v17.length:Int)),(1000010,.I s19),(1000020,.fn (.yield l20) []),(1000023,.agg [.I v23,.I v24.1])] [(2012,vS (.sl 15) 1),(15,⟨List.map n0.Pv j28,(List.map n0.Pv j28).length,true,2,true⟩),(2013,vR (.fn (.func 385) [.rptr [.I a1]]) 1)]) (λj28 h=>?_) λκ27 h=>?_
   ·refine⟨J,?_⟩;refine T1 (WPE (λl=>if l=2022 then 15 else l) [(1000003,.ptr 2013 0 0),(1000005,.ptr 2012 0 0),(1000007,.fn (.func 388) [.rptr [.L b9.Pv a0]]),(0,.fn (.yield l20) []),(1,.rptr [.L b9.Pv a0]),(8,.L iF v17),(9,.I (v17.length:Int)),(10,.I s19),(24,.bool true)] [(2012,vS (.sl 2022) 1),(2022,⟨List.map n0.Pv j28,(List.map n0.Pv j28).length,true,2,true⟩),(2013,vR (.fn (.func 385) [.rptr [.I a1]]) 1)])<|S2 1 J ?_
    refine H9 false J (λq=>nomatch q) (λ_=>?_);refine c4<|S6 2 J ?_;exact eL h (Wk.trans (n8 _ [2022]) (WP (λl=>if l=912512 then 2022 else l)))
   ·refine g5 ?_;refine S3 2 J<|cA h b11 J J λv29 _ h=>yN ?_;refine cN h (λhc h=>?_) λhc h=>?_
    ·refine S5 2 J ?_;refine y0 J (H2 (f:=n0.Pv) (l:=[(⟨v23,v24.1⟩:n0)]) J a6r b0t a8U J J nl J J)<|w8 h λv30 hv37 h=>O5 J (J1 (f:=n0.Pv) hv37 J J J J J J (.inl ⟨_,J,J⟩) a6r b0t c2G a8U J (λ_=>J)) J J J<|S2 1 J ?_;exact eJ h (Wk.trans (n8 _ [15]) W)
    ·refine c4 ?_;exact eJ h (Wk.trans (n8 _ [2021]) (WP (λl=>if l=15 then 2021 else l)))
  ·refine o8 ?_;refine c5<|c5<|l4 ?_;refine .inl ⟨J,?_⟩;have h:=xL hx27 h;exact eJ h (Wk.trans (n8 _ [912512]) (WP (λl=>if l=2001 then 2012 else if l=912501 then 912512 else l)))

theorem b4i{a0 a1}:PO Tryz.prog 376 [.L b9.Pv a0,.I a1] (a4U a0 a1) λr=>.I r:=by
 refine pO Tryz.func376 λr h _ _=>?_;refine S4 2 J<|S3 1 J<|cF h a7W J J λv1 _ h=>S1 1 J<|w8 h λv2 hv2 h=>ycL J (y8 J J3 J hv2) J<|nL J a6r<|S2 1 J<|b8 ?_;cases h;exact f1

theorem b5m{a0 a1 a2}:PO Tryz.prog 358 [a7.Pv a0,.L b9.Pv a1,.I a2] (a5f a0 a1 a2) λr=>.I r:=by
 refine pO Tryz.func358 λr h _ _=>?_;refine S4 2 J<|S3 2 J<|cA h c15 J J λv1 _ h=>S1 2 J<|cA h b4i J J λv2 _ h=>S2 2 J<|b8 ?_;cases h;exact f1

theorem b5Y{a0 a1 a2}:PO Tryz.prog 329 [a7.Pv a0,.L b9.Pv a1,.I a2] (a7j a0 a1 a2) λr=>.I r:=by
 refine pO Tryz.func329 λr h _ _=>?_;refine S4 2 J<|S3 2 J<|cF h C0 J J λv1 _ h=>S2 6 J<|e6<|S4 2 J ?_;refine cN h (λhc h=>?_) λhc h=>?_
 ·refine S4 1 J ?_;refine b8 ?_;cases h;exact f1
 ·refine c4 ?_;refine dr [] u5 (by kernel_rfl) (by kernel_rfl)<|S7 5 J<|w8 h λv2 hv2 h=>d2 J (F1 J b5m J hv2) J<|S8 2 J<|b8 ?_
  cases h;exact f1

theorem b4d{a0}:PO Tryz.prog 330 [.I a0] (a7U a0) λr=>.bool r:=by
 refine pO Tryz.func330 λr h _ _=>?_;refine S4 1 J<|S3 1 J<|cA h a0f J J λv1 _ h=>S2 1 J<|b8 ?_;cases h;exact f1

theorem b3j{a0 a1 a2 a3}:PO Tryz.prog 328 [.I a0,m7.Pv a1,.rptr (a7.Pc a2),.rptr [.L b9.Pv a3]] (a7i a0 a1 a2 a3) λr=>.bool r:=by
 refine pO Tryz.func328 λr h _ _=>?_;refine S4 2 J<|S3 3 J<|cA h b5Y J J λv1 _ h=>S1 2 J<|k7 J (λhg=>oF J c38 J)<|k7 J (λhg=>oS (ct hg) J J C7 J)<|w8 h λv2 hv2 h=>k7 J (λhg=>F1 J b4d (E3 (ct hg) J) (F2 hv2 hg))<|y0 J (B6 J J J (λq=>eqF q))<|S2 1 J<|b8 ?_;cases h;exact f1

theorem b5X{a0 a1}:PO Tryz.prog 261 [a7.Pv a0,.L b9.Pv a1] (a7h a0 a1) λr=>.L iF r:=by
 refine pO Tryz.func261 λr h _ _=>?_;refine S4 3 J<|S3 1 J<|y0 J (p6 (cs:=[.fn (.func 328) [.ptr 2 0 0,.ptr 3 0 0]]) J c8S c87 J J J)<|T1 (a7E 7 (d':=.agg [.fn (.func 328) [.ptr 2 0 0,.ptr 3 0 0]]) J)<|S2 2 J<|S3 2 J<|T1 (WPE (λl=>if l=2001 then 3 else if l=2002 then 2 else l) [(8,.agg [.fn (.func 328) [.ptr 2002 0 0,.ptr 2001 0 0]]),(9,a7.Pv a0)] [(2001,vR (.L b9.Pv a1) 1),(2002,vR (a7.Pv a0) 3)]) ?_
 refine b6U (fn:=Tryz.f331) (N1:=34) J J Tryz.func331 J c8B J J nl (λe1 o2=>?_);refine jqR h (λj36=>St.of [(1000008,.agg [.fn (.func 328) [.ptr 2002 0 0,.ptr 2001 0 0]]),(1000009,a7.Pv a0),(4,.sl 910005)] [(910005,⟨List.map iF j36,(List.map iF j36).length,true,1,true⟩),(2001,vR (.L b9.Pv a1) 1),(2002,vR (a7.Pv a0) 3)]) (λj36 h=>dup ?_) λκ35 h=>?_
 ·refine⟨J,[.sl 910005],⟨J,tr⟩,?_⟩;refine T1 (WPE (λl=>if l=2003 then 910005 else l) [(10,.sl 2003)] [(2003,⟨List.map iF j36,(List.map iF j36).length,true,1,true⟩)])<|S2 1 J<|b8 ?_
  cases h;exact f1
 ·refine S4 3 J ?_;refine S4 1 J ?_;refine jq h (λj54=>St.of [(1000008,.agg [.fn (.func 328) [.ptr 2002 0 0,.ptr 2001 0 0]]),(1000009,a7.Pv a0),(5,.sl 910005)] [(910005,⟨List.map iF j54,(List.map iF j54).length,true,1,true⟩),(2001,vR (.L b9.Pv a1) 1),(2002,vR (a7.Pv a0) 3)]) (λj54 h=>?_) λκ53 h=>?_
  ·refine S4 2 J ?_;refine b8 ?_;exact eJ h (Wk.trans (n8 _ [910005]) W)
  ·refine S3 1 J ?_;refine cF h L2 J J λv55 _ h=>nL J j5<|S2 1 J<|g5<|lq h (λq=>St.of [(1000008,.agg [.fn (.func 328) [.ptr 2002 0 0,.ptr 2001 0 0]]),(1000009,a7.Pv a0),(2,.ptr 2 0 0),(3,.ptr 3 0 0),(5,.sl 910005),(11,.L iF v55),(12,.I (v55.length:Int)),(13,.I q.1)] [(3,vR (a7.Pv a0) 3),(2,vS (.agg [.fn (.func 328) [.ptr 2002 0 0,.ptr 2001 0 0]]) 1),(2001,vR (.L b9.Pv a1) 1),(2002,vR (a7.Pv a0) 3),(910005,⟨List.map iF q.2,(List.map iF q.2).length,true,1,true⟩)]) (Wk.trans (G2 (t:=5) (l:=920005) (z:=1) J J) (WP (λl=>if l=910005 then 920005 else l))) λq60 x59 h hx48=>?_
   obtain⟨s57,s58⟩:=q60;refine S4 1 J<|e6 ?_;refine cN h (λhc h=>?_) λhc h=>?_
   ·refine c4 ?_;refine jq h (λj66=>St.of [(1000008,.agg [.fn (.func 328) [.ptr 2002 0 0,.ptr 2001 0 0]]),(1000009,a7.Pv a0),(2,.ptr 2 0 0),(3,.ptr 3 0 0),(5,.sl 31),(11,.L iF v55),(12,.I (v55.length:Int)),(13,.I s57)] [(31,⟨List.map iF j66,(List.map iF j66).length,true,1,true⟩),(3,vR (a7.Pv a0) 3),(2,vS (.agg [.fn (.func 328) [.ptr 2002 0 0,.ptr 2001 0 0]]) 1),(2001,vR (.L b9.Pv a1) 1),(2002,vR (a7.Pv a0) 3)]) (λj66 h=>?_) λκ65 h=>?_
    ·refine S6 2 J ?_;exact eL h (Wk.trans (n8 _ [31]) (WP (λl=>if l=910005 then 31 else l)))
    ·refine g5 ?_;refine sR<|iL h J J j5 o5 λv67 _ h=>S2 2 J<|S3 2 J<|cF h C0 J J λv68 _ h=>S2 6 J<|S3 4 J<|cA h b3j J J λv69 _ h=>yN ?_;refine cN h (λhc h=>?_) λhc h=>?_
     ·refine S5 2 J ?_;refine y0 J (H2 (f:=iF) (l:=[v67]) J j5 o5 A3 J J nl J J)<|w8 h λv70 hv57 h=>O5 J (J1 (f:=iF) hv57 J J J J J J (.inl ⟨_,J,J⟩) j5 o5 K1 A3 J (λ_=>J)) J J J<|S2 1 J ?_;exact eJ h (Wk.trans (n8 _ [31]) W)
     ·refine c4 ?_;exact eJ h (Wk.trans (n8 _ [910005]) (WP (λl=>if l=31 then 910005 else l)))
   ·refine o8 ?_;refine c5<|c5<|l4 ?_;have h:=xL hx48 h;exact eJ h (Wk.trans (n8 _ [910005]) W)

theorem b2l{a0}:PO Tryz.prog 366 [.I a0] (a2W a0) λr=>k8.Pv r:=by
 refine pO Tryz.func366 λr h _ _=>?_;unfold a2W at h;refine S4 1 J<|S3 1 J<|y0 J (p6 (cs:=[.nl,.I a0]) J c8U c89 J J J)<|a2p (x':=.agg [.nl,.I a0]) (cl':=true) J J (.inl J) a4Q<|yN<|b8 ?_;cases h;exact⟨J,[_],⟨oL J J J a8P a4Q nl J,tr⟩,J,io⟩

theorem a7A{a0 a1}:PO Tryz.prog 368 [a7.Pv a0,.I a1] (a0D a0 a1) λr=>.bool r:=by
 refine pO Tryz.func368 λr h _ _=>?_;refine S4 2 J<|S3 2 J<|cF h C0 J J λv1 _ h=>S2 6 J<|S4 3 J<|b8 ?_;cases h;exact f1

theorem U8{a0}:PO Tryz.prog 370 [k8.Pv a0] (L1 a0) λr=>.I r:=by
 refine pO Tryz.func370 λr h _ _=>?_;unfold L1 at h;refine S4 2 J<|S3 2 J<|nL J j5<|S2 1 J<|b8 ?_;cases h;exact f1

theorem a14{a0 a1 a2}:PO Tryz.prog 377 [.L iF a0,.I a1,.I a2] (P2 a0 a1 a2) λr=>.lst true (List.map iF r):=by
 refine pO Tryz.func377 λr h _ _=>?_;unfold P2 at h;refine S4 1 J<|S3 4 J<|w8 h λv1 hv1 h=>y0 J (c65 (f:=iF) hv1 J ⟨_,J⟩ ⟨_,J⟩ ⟨_,J⟩ J J j5 o5 (λ_=>J))<|S2 1 J<|b8 ?_;cases h;exact f1

theorem a49{a0 a1}:PO Tryz.prog 369 [k8.Pv a0,.I a1] (P1 a0 a1) λr=>.tup [k8.Pv r.1,.I r.2]:=by
 refine pO Tryz.func369 λr h _ _=>?_;unfold P1 at h;refine S4 3 J<|e6<|dr [] u5 (by kernel_rfl) (by kernel_rfl)<|S7 1 J<|w8 h λv1 hv1 h=>d2 J (F1 J U8 J hv1) J<|S8 3 J ?_
 refine cN h (λhc h=>?_) λhc h=>?_
 ·refine S4 3 J ?_;refine b8 ?_;cases h;exact⟨J,[_,_],⟨oL J J J a8P a4Q nl J,⟨J,tr⟩⟩,J,io⟩
 ·refine c4 ?_;refine dr [] u5 (by kernel_rfl) (by kernel_rfl)<|S7 3 J<|d2 J (F1 J U8 J hv1) J<|w8 h λv2 hv2 h=>d2f J (y8 J a14 J hv2) J<|S7 1 J<|d1n J (H2 (f:=iF) (l:=[a1]) J j5 o5 A3 J J nl J J) J<|w8 h λv3 hv3 h=>d3 J (b1b (f:=iF) hv3 J J (.inl ⟨_,J,J⟩) j5 o5 K1 A3 J (λ_=>J)) J J J<|S7 1 J<|E8 (x':=.agg [.sl 19,.I a0.Cap]) (cl':=false) J J (.inl J) b1V<|O2<|S4 3 J<|b8 ?_
  cases h;exact⟨J,[_,_],⟨oL J J J a8P a4Q nl J,⟨J,tr⟩⟩,J,io⟩

theorem b0f{a0 a1}:PO Tryz.prog 378 [k8.Pv a0,.I a1] (a3x a0 a1) λr=>.tup [k8.Pv r.1,.L iF r.2]:=by
 refine pO Tryz.func378 λr h _ _=>?_;refine S4 3 J<|S3 2 J<|cA h U8 J J λv1 hv1 h=>y0 J (d1d J J J)<|y0 J (c67 J J J)<|S2 1 J<|S3 3 J<|cF h a14 J J λv2 _ h=>S2 1 J<|dr [] u5 (by kernel_rfl) (by kernel_rfl)<|S7 4 J<|d2 J (F1 J U8 J hv1) J<|w8 h λv3 hv3 h=>d2f J (y8 J a14 J hv3) J<|S7 1 J<|E8 (x':=.agg [.L iF v3,.I a0.Cap]) (cl':=true) J J (.inr J) b1V<|O2<|S4 4 J<|b8 ?_
 cases h;exact⟨J,[_,_],⟨oL J J J a8P a4Q nl J,⟨J,tr⟩⟩,J,io⟩

theorem b2m{a0}:PO Tryz.prog 371 [k8.Pv a0] (a02 a0) λr=>.tup [k8.Pv r.1,.I r.2.1,.I r.2.2]:=by
 refine pO Tryz.func371 λr h _ _=>?_;refine S4 4 J<|S3 1 J<|cF h b0f J J λv1 _ h=>S2 6 J<|e6<|S3 1 J<|nL J j5<|S2 1 J ?_;refine cN h (λhc h=>?_) λhc h=>?_
 ·refine S4 1 J ?_;refine S4 5 J<|b8 ?_;cases h;exact⟨J,[_,_,_],⟨oL J J J a8P a4Q nl J,⟨J,⟨J,tr⟩⟩⟩,J,io⟩
 ·refine c4 ?_;refine dr [2,3] u5 (by kernel_rfl) (by kernel_rfl)<|S7 2 J<|w8 h λv2 hv2 h=>d7 J (λ_ hN=>A5 (f:=iF) (cs:=[.I v2]) hv2 J J j5 o5 J J) J<|d7 J (λ_ hN=>G6 J C7 J) J<|E8 (x':=k8.Pv v1.1) (cl':=true) J J (.inr J) a4Q<|S8 2 J<|b8 ?_
  cases h;exact⟨J,[_,_,_],⟨oL J J J a8P a4Q nl J,⟨J,⟨J,tr⟩⟩⟩,J,io⟩

theorem a7B{a0 a1}:PO Tryz.prog 354 [a7.Pv a0,.L iF a1] (a16 a0 a1) λr=>.abs (W6 (List.map (ent iF PV.bool) r)):=by
 refine pO Tryz.func354 λr h _ _=>?_;refine S4 2 J<|sR<|c0M (KT:=Int) (VT:=Bool) (EK:=iF) (E:=PV.bool) 5000009 J J<|S2 2 J<|S3 1 J<|cF h L2 J J λv1 _ h=>nL J j5<|cF h b2l J J λv2 _ h=>S2 2 J<|S4 2 J<|S3 2 J<|T1 (WPE (λl=>if l=2001 then 6 else if l=2002 then 5 else if l=2003 then 2 else if l=5002004 then 5000009 else l) [(2,.ptr 2003 0 0),(5,.ptr 2002 0 0),(6,.ptr 2001 0 0),(7,.fn (.func 367) [.ptr 2003 0 0,.ptr 2002 0 0,.ptr 2001 0 0]),(15,.fn (.func 367) [.ptr 2003 0 0,.ptr 2002 0 0,.ptr 2001 0 0]),(16,.L iF a1)] [(2001,vR (k8.Pv v2) 2),(2002,vS (.mp 5002004) 1),(5002004,⟨[.mapc (List.map (ent iF PV.bool) [])],0,false,0,false⟩),(2003,vR (a7.Pv a0) 3)]) ?_
 refine b6U (fn:=Tryz.f367) (N1:=31) J J Tryz.func367 J c2J J J nl (λe3 o4=>?_);refine jqR h (λq=>St.of [(1000002,.ptr 2003 0 0),(1000005,.ptr 2002 0 0),(1000006,.ptr 2001 0 0),(1000007,.fn (.func 367) [.ptr 2003 0 0,.ptr 2002 0 0,.ptr 2001 0 0]),(1000015,.fn (.func 367) [.ptr 2003 0 0,.ptr 2002 0 0,.ptr 2001 0 0]),(1000016,.L iF a1)] [(2001,vR (k8.Pv q.1) 2),(2002,vS (.mp 5002004) 1),(5002004,⟨[.mapc (List.map (ent iF PV.bool) q.2)],0,false,0,false⟩),(2003,vR (a7.Pv a0) 3)]) (λq22 h=>dup ?_) λκ19 h=>?_
 ·obtain⟨j20,j21⟩:=q22;refine⟨J,[],tr,?_⟩;refine T1 (WE [(2,.ptr 2003 0 0),(5,.ptr 2002 0 0),(6,.ptr 2001 0 0),(7,.fn (.func 367) [.ptr 2003 0 0,.ptr 2002 0 0,.ptr 2001 0 0])] [(2001,vR (k8.Pv j20) 2),(2002,vS (.mp 5002004) 1),(5002004,⟨[.mapc (List.map (ent iF PV.bool) j21)],0,false,0,false⟩),(2003,vR (a7.Pv a0) 3)])<|yN ?_;refine jq h (λj68=>St.of [(5,.ptr 2002 0 0)] [(2002,vS (.mp 5002004) 1),(5002004,⟨[.mapc (List.map (ent iF PV.bool) j68)],0,false,0,false⟩)]) (λj68 h=>?_) λκ67 h=>?_
  ·refine S4 2 J ?_;refine a3e (c2t 4 5002004 J J)<|b8 ?_;cases h;exact f1
  ·refine g5 ?_;refine lq h (λq=>St.of [(2,.ptr 2003 0 0),(5,.ptr 2002 0 0),(6,.ptr 2001 0 0),(7,.fn (.func 367) [.ptr 2003 0 0,.ptr 2002 0 0,.ptr 2001 0 0])] [(2001,vR (k8.Pv q.1) 2),(2002,vS (.mp 5002004) 1),(5002004,⟨[.mapc (List.map (ent iF PV.bool) q.2)],0,false,0,false⟩),(2003,vR (a7.Pv a0) 3)]) W λq73 x72 h hx54=>?_;obtain⟨s70,s71⟩:=q73;refine e6<|S3 1 J<|cA h U8 J J λv74 _ h=>S2 1 J ?_;refine cN h (λhc h=>?_) λhc h=>?_
   ·refine c4 ?_;refine g5<|S4 1 J<|S3 1 J<|cF h b2m J J λv75 _ h=>S2 6 J<|S5 3 J<|cF h b2X J J λv76 _ h=>T1 (WE [(2,.ptr 2003 0 0),(5,.ptr 2002 0 0),(6,.ptr 2001 0 0),(7,.fn (.func 367) [.ptr 2003 0 0,.ptr 2002 0 0,.ptr 2001 0 0]),(27,.fn (.func 367) [.ptr 2003 0 0,.ptr 2002 0 0,.ptr 2001 0 0]),(30,.L iF v76)] [(2001,vR (k8.Pv v75.1) 2),(2002,vS (.mp 5002004) 1),(5002004,⟨[.mapc (List.map (ent iF PV.bool) s71)],0,false,0,false⟩),(2003,vR (a7.Pv a0) 3)]) ?_;refine b6U (fn:=Tryz.f367) (N1:=31) J J Tryz.func367 J c2J J J nl (λe58 o59=>?_);refine jqR h (λq=>St.of [(1000002,.ptr 2003 0 0),(1000005,.ptr 2002 0 0),(1000006,.ptr 2001 0 0),(1000007,.fn (.func 367) [.ptr 2003 0 0,.ptr 2002 0 0,.ptr 2001 0 0]),(1000027,.fn (.func 367) [.ptr 2003 0 0,.ptr 2002 0 0,.ptr 2001 0 0]),(1000030,.L iF v76)] [(2001,vR (k8.Pv q.1) 2),(2002,vS (.mp 5002004) 1),(5002004,⟨[.mapc (List.map (ent iF PV.bool) q.2)],0,false,0,false⟩),(2003,vR (a7.Pv a0) 3)]) (λq96 h=>dup ?_) λκ93 h=>?_
    ·obtain⟨j94,j95⟩:=q96;refine⟨J,[],tr,?_⟩;refine T1 (WE [(2,.ptr 2003 0 0),(5,.ptr 2002 0 0),(6,.ptr 2001 0 0),(7,.fn (.func 367) [.ptr 2003 0 0,.ptr 2002 0 0,.ptr 2001 0 0])] [(2001,vR (k8.Pv j94) 2),(2002,vS (.mp 5002004) 1),(5002004,⟨[.mapc (List.map (ent iF PV.bool) j95)],0,false,0,false⟩),(2003,vR (a7.Pv a0) 3)])<|yN ?_;exact eL h W
    ·refine S3 1 J ?_;refine nL J j5<|S2 1 J<|g5<|lq h (λq=>St.of [(1000002,.ptr 2003 0 0),(1000005,.ptr 2002 0 0),(1000006,.ptr 2001 0 0),(1000007,.fn (.func 367) [.ptr 2003 0 0,.ptr 2002 0 0,.ptr 2001 0 0]),(1000027,.fn (.func 367) [.ptr 2003 0 0,.ptr 2002 0 0,.ptr 2001 0 0]),(1000030,.L iF v76),(1,.ptr 2003 0 0),(2,.ptr 2002 0 0),(3,.ptr 2001 0 0),(7,.L iF v76),(8,.I (v76.length:Int)),(9,.I q.1)] [(2001,vR (k8.Pv q.2.1) 2),(2002,vS (.mp 5002004) 1),(5002004,⟨[.mapc (List.map (ent iF PV.bool) q.2.2)],0,false,0,false⟩),(2003,vR (a7.Pv a0) 3)]) W λq102 x101 h hx75=>?_;obtain⟨s98,s99,s100⟩:=q102;refine S4 1 J<|e6 ?_;refine cN h (λhc h=>?_) λhc h=>?_
     ·refine c4 ?_;refine jq h (λq=>St.of [(1000002,.ptr 2003 0 0),(1000005,.ptr 2002 0 0),(1000006,.ptr 2001 0 0),(1000007,.fn (.func 367) [.ptr 2003 0 0,.ptr 2002 0 0,.ptr 2001 0 0]),(1000027,.fn (.func 367) [.ptr 2003 0 0,.ptr 2002 0 0,.ptr 2001 0 0]),(1000030,.L iF v76),(1,.ptr 2003 0 0),(2,.ptr 2002 0 0),(3,.ptr 2001 0 0),(7,.L iF v76),(8,.I (v76.length:Int)),(9,.I s98)] [(2001,vR (k8.Pv q.1) 2),(2002,vS (.mp 5002004) 1),(5002004,⟨[.mapc (List.map (ent iF PV.bool) q.2)],0,false,0,false⟩),(2003,vR (a7.Pv a0) 3)]) (λq109 h=>?_) λκ106 h=>?_
      ·obtain⟨j107,j108⟩:=q109;refine S6 2 J ?_;exact eL h W
      ·refine g5 ?_;refine sR<|iL h J J j5 o5 λv110 _ h=>S2 2 J<|S3 2 J<|cA h a7A J J λv111 _ h=>S1 1 J<|k7 J (λhg=>oS J J J c2y J)<|k7 J (λhg=>mI J) ?_;rcases Bool.eq_false_or_eq_true (v111==true) with hg83 | hg83
       ·have h:=ifT h hg83;refine c8e (es:=s100) (k:=v110) (E:=PV.bool) (EK:=iF) (d:=.bool ((B4 s100 v110).getD (false:Bool))) (congrArg some hg83) (ct hg83) J (ct hg83) a2Z (A1 L4) b9k J (lk1 _ _ _)<|y0 (congrArg some hg83) (a1w J J)<|y0 J (a6T J J hg83)<|yN ?_;refine cN h (λhc h=>?_) λhc h=>?_
        ·refine S3 2 J ?_;refine a0U (es:=s100) (k:=v110) (v:=true) (E:=PV.bool) (EK:=iF) (.inl J) J J J J J J a2Z (A1 L4)<|yN<|S5 2 J<|cF h a49 J J λv112 _ h=>S2 4 J ?_;exact eJ h W
        ·refine c4 ?_;exact eJ h W
       ·have h:=ifF h hg83;refine a2e (congrArg some hg83)<|a2e (congrArg some hg83)<|y0 J (a86 J J hg83)<|yN ?_;refine H9 false J (λq=>nomatch q) (λ_=>?_);refine c4 ?_;exact eJ h W
     ·refine o8 ?_;refine c5<|c5<|l4 ?_;have h:=xL hx75 h;exact eJ h W
   ·refine o8 ?_;refine c5<|c5<|l4 ?_;have h:=xL hx54 h;exact eJ h W
 ·refine S3 1 J ?_;refine nL J j5<|S2 1 J<|g5<|lq h (λq=>St.of [(1000002,.ptr 2003 0 0),(1000005,.ptr 2002 0 0),(1000006,.ptr 2001 0 0),(1000007,.fn (.func 367) [.ptr 2003 0 0,.ptr 2002 0 0,.ptr 2001 0 0]),(1000015,.fn (.func 367) [.ptr 2003 0 0,.ptr 2002 0 0,.ptr 2001 0 0]),(1000016,.L iF a1),(1,.ptr 2003 0 0),(2,.ptr 2002 0 0),(3,.ptr 2001 0 0),(7,.L iF a1),(8,.I (a1.length:Int)),(9,.I q.1)] [(2001,vR (k8.Pv q.2.1) 2),(2002,vS (.mp 5002004) 1),(5002004,⟨[.mapc (List.map (ent iF PV.bool) q.2.2)],0,false,0,false⟩),(2003,vR (a7.Pv a0) 3)]) W λq118 x117 h hx87=>?_;obtain⟨s114,s115,s116⟩:=q118;refine S4 1 J<|e6 ?_;refine cN h (λhc h=>?_) λhc h=>?_
  ·refine c4 ?_;refine jq h (λq=>St.of [(1000002,.ptr 2003 0 0),(1000005,.ptr 2002 0 0),(1000006,.ptr 2001 0 0),(1000007,.fn (.func 367) [.ptr 2003 0 0,.ptr 2002 0 0,.ptr 2001 0 0]),(1000015,.fn (.func 367) [.ptr 2003 0 0,.ptr 2002 0 0,.ptr 2001 0 0]),(1000016,.L iF a1),(1,.ptr 2003 0 0),(2,.ptr 2002 0 0),(3,.ptr 2001 0 0),(7,.L iF a1),(8,.I (a1.length:Int)),(9,.I s114)] [(2001,vR (k8.Pv q.1) 2),(2002,vS (.mp 5002004) 1),(5002004,⟨[.mapc (List.map (ent iF PV.bool) q.2)],0,false,0,false⟩),(2003,vR (a7.Pv a0) 3)]) (λq125 h=>?_) λκ122 h=>?_
   ·obtain⟨j123,j124⟩:=q125;refine S6 2 J ?_;exact eL h W
   ·refine g5 ?_;refine sR<|iL h J J j5 o5 λv126 _ h=>S2 2 J<|S3 2 J<|cA h a7A J J λv127 _ h=>S1 1 J<|k7 J (λhg=>oS J J J c2y J)<|k7 J (λhg=>mI J) ?_;rcases Bool.eq_false_or_eq_true (v127==true) with hg95 | hg95
    ·have h:=ifT h hg95;refine c8e (es:=s116) (k:=v126) (E:=PV.bool) (EK:=iF) (d:=.bool ((B4 s116 v126).getD (false:Bool))) (congrArg some hg95) (ct hg95) J (ct hg95) a2Z (A1 L4) b9k J (lk1 _ _ _)<|y0 (congrArg some hg95) (a1w J J)<|y0 J (a6T J J hg95)<|yN ?_;refine cN h (λhc h=>?_) λhc h=>?_
     ·refine S3 2 J ?_;refine a0U (es:=s116) (k:=v126) (v:=true) (E:=PV.bool) (EK:=iF) (.inl J) J J J J J J a2Z (A1 L4)<|yN<|S5 2 J<|cF h a49 J J λv128 _ h=>S2 4 J ?_;exact eJ h W
     ·refine c4 ?_;exact eJ h W
    ·have h:=ifF h hg95;refine a2e (congrArg some hg95)<|a2e (congrArg some hg95)<|y0 J (a86 J J hg95)<|yN ?_;refine H9 false J (λq=>nomatch q) (λ_=>?_);refine c4 ?_;exact eJ h W
  ·refine o8 ?_;refine c5<|c5<|l4 ?_;have h:=xL hx87 h;exact eJ h W

theorem b3d{a0 a1}:PO Tryz.prog 379 [.I a0,.rptr [.abs (W6 (List.map (ent iF PV.bool) a1))]] (a3R a0 a1) λr=>.bool r:=by
 refine pO Tryz.func379 λr h _ _=>?_;unfold a3R at h;refine S4 1 J<|S3 2 J<|y0 J (b9R (es:=a1) (k:=a0) (E:=PV.bool) (EK:=iF) (d:=.bool ((B4 a1 a0).getD (false:Bool))) J J a2Z (A1 L4) b9k J (lk1 _ _ _))<|S2 1 J<|b8 ?_;cases h;exact f1

theorem a3T{a0 a1}:PO Tryz.prog 355 [a7.Pv a0,.fn (.func 379) [.rptr [.abs (W6 (List.map (ent iF PV.bool) a1))]]] (R8 a0 a1) λr=>.L iF r:=by
 refine pO Tryz.func355 λr h _ _=>?_;refine S4 2 J<|S4 1 J ?_;refine jq h (λj16=>St.of [(5,.sl 910005)] [(910005,⟨List.map iF j16,(List.map iF j16).length,true,1,true⟩)]) (λj16 h=>?_) λκ15 h=>?_
 ·refine S4 2 J ?_;refine b8 ?_;cases h;exact f1
 ·refine S3 1 J ?_;refine cF h L2 J J λv17 _ h=>nL J j5<|S2 1 J<|g5<|lq h (λq=>St.of [(1,.fn (.func 379) [.rptr [.abs (W6 (List.map (ent iF PV.bool) a1))]]),(5,.sl 910005),(9,.L iF v17),(10,.I (v17.length:Int)),(11,.I q.1)] [(910005,⟨List.map iF q.2,(List.map iF q.2).length,true,1,true⟩)]) (Wk.trans (G2 (t:=5) (l:=920005) (z:=1) J J) (WP (λl=>if l=910005 then 920005 else l))) λq22 x21 h hx16=>?_
  obtain⟨s19,s20⟩:=q22;refine S4 1 J<|e6 ?_;refine cN h (λhc h=>?_) λhc h=>?_
  ·refine c4 ?_;refine jq h (λj27=>St.of [(1,.fn (.func 379) [.rptr [.abs (W6 (List.map (ent iF PV.bool) a1))]]),(5,.sl 21),(9,.L iF v17),(10,.I (v17.length:Int)),(11,.I s19)] [(21,⟨List.map iF j27,(List.map iF j27).length,true,1,true⟩)]) (λj27 h=>?_) λκ26 h=>?_
   ·refine S6 2 J ?_;exact eL h (Wk.trans (n8 _ [21]) (WP (λl=>if l=910005 then 21 else l)))
   ·refine g5 ?_;refine sR<|iL h J J j5 o5 λv28 _ h=>S2 2 J<|S3 2 J<|cA h b3d J J λv29 _ h=>yN ?_;refine cN h (λhc h=>?_) λhc h=>?_
    ·refine S5 2 J ?_;refine y0 J (H2 (f:=iF) (l:=[v28]) J j5 o5 A3 J J nl J J)<|w8 h λv30 hv23 h=>O5 J (J1 (f:=iF) hv23 J J J J J J (.inl ⟨_,J,J⟩) j5 o5 K1 A3 J (λ_=>J)) J J J<|S2 1 J ?_;exact eJ h (Wk.trans (n8 _ [21]) W)
    ·refine c4 ?_;exact eJ h (Wk.trans (n8 _ [910005]) (WP (λl=>if l=21 then 910005 else l)))
  ·refine o8 ?_;refine c5<|c5<|l4 ?_;have h:=xL hx16 h;exact eJ h (Wk.trans (n8 _ [910005]) W)

theorem a9O{a0 a1}:PO Tryz.prog 373 [a7.Pv a0,.L iF a1] (a4t a0 a1) λr=>.L iF r:=by
 refine pO Tryz.func373 λr h _ _=>?_;refine S4 2 J<|S3 2 J<|cF h a7B J J λv1 _ h=>S2 2 J<|S3 2 J<|w8 h λv2 hv2 h=>ycL J (y8 J a3T J hv2) J<|S2 1 J<|b8 ?_;cases h;exact f1

theorem b12{a0}:PO Tryz.prog 386 [n0.Pv a0] (a2S a0) λr=>.bool r:=by
 refine pO Tryz.func386 λr h _ _=>?_;unfold a2S at h;refine S4 2 J<|S4 1 J<|b8 ?_;cases h;exact f1

theorem J4{a0}:PO Tryz.prog 383 [.fn (.func 388) [.rptr [.L b9.Pv a0]],.fn (.func 386) []] (A7 a0) λr=>.L n0.Pv r:=by
 refine pO Tryz.func383 λr h _ _=>?_;refine S4 2 J<|S4 1 J ?_;refine jq h (λj16=>St.of [(5,.ptr 2001 0 0)] [(2001,vS (.sl 912501) 1),(912501,⟨List.map n0.Pv j16,(List.map n0.Pv j16).length,true,2,true⟩)]) (λj16 h=>?_) λκ15 h=>?_
 ·refine S4 2 J ?_;refine b8 ?_;cases h;exact f1
 ·refine S4 1 J ?_;refine g5<|a3e (WPE (λl=>if l=2012 then 5 else if l=2013 then 3 else l) [(3,.ptr 2013 0 0),(5,.ptr 2012 0 0),(7,.fn (.func 388) [.rptr [.L b9.Pv a0]])] [(2012,vR (.nl) 1),(2013,vR (.fn (.func 386) []) 1)]) ?_
  refine a13 (fn:=Tryz.f388) (N1:=27) J Tryz.func388 J J nl J c2K J J (λl20 e21 o22 hR23=>?_);refine S3 1 J<|cF h b0T J J λv17 _ h=>nL J j5<|S2 1 J<|g5<|lq h (λq=>St.of [(1000003,.ptr 2013 0 0),(1000005,.ptr 2012 0 0),(1000007,.fn (.func 388) [.rptr [.L b9.Pv a0]]),(0,.fn (.yield l20) []),(1,.rptr [.L b9.Pv a0]),(8,.L iF v17),(9,.I (v17.length:Int)),(10,.I q.1)] [(2012,vS (.sl 912512) 1),(2013,vR (.fn (.func 386) []) 1),(912512,⟨List.map n0.Pv q.2,(List.map n0.Pv q.2).length,true,2,true⟩)]) (Wk.trans (b1P (l0:=2012) (j:=0) (l:=922512) (z:=2) J J J J J) (WP (λl=>if l=912512 then 922512 else l))) λq22 x21 h hx27=>?_
  obtain⟨s19,s20⟩:=q22;refine S4 1 J<|e6 ?_;refine cN h (λhc h=>?_) λhc h=>?_
  ·refine c4 ?_;refine e6<|g5<|sR<|iL h J J j5 o5 λv23 _ h=>S2 2 J<|S3 2 J<|cA h a4X J J λv24 _ h=>S2 5 J<|S3 3 J<|y0 J (p6 (cs:=[.I v23,.I v24.1]) J c2M a8U J J J)<|T1 (WPE (λl=>if l=2021 then 912512 else l) [(1000003,.ptr 2013 0 0),(1000005,.ptr 2012 0 0),(1000007,.fn (.func 388) [.rptr [.L b9.Pv a0]]),(0,.fn (.yield l20) []),(1,.rptr [.L b9.Pv a0]),(8,.L iF v17),(9,.I (v17.length:Int)),(10,.I s19),(20,.fn (.yield l20) []),(23,.agg [.I v23,.I v24.1])] [(2012,vS (.sl 2021) 1),(2021,⟨List.map n0.Pv s20,(List.map n0.Pv s20).length,true,2,true⟩),(2013,vR (.fn (.func 386) []) 1)]) ?_
   refine a7n hR23 J J J J J J (λe30 o31 o32=>?_);refine S6 2 J ?_;refine⟨J,?_⟩;refine jqE h (λj28=>St.of [(2000003,.ptr 2013 0 0),(2000005,.ptr 2012 0 0),(2000007,.fn (.func 388) [.rptr [.L b9.Pv a0]]),(1000000,.fn (.yield l20) []),(1000001,.rptr [.L b9.Pv a0]),(1000008,.L iF v17),(1000009,.I (v17.length:Int)),(1000010,.I s19),(1000020,.fn (.yield l20) []),(1000023,.agg [.I v23,.I v24.1])] [(2012,vS (.sl 15) 1),(15,⟨List.map n0.Pv j28,(List.map n0.Pv j28).length,true,2,true⟩),(2013,vR (.fn (.func 386) []) 1)]) (λj28 h=>?_) λκ27 h=>?_
   ·refine⟨J,?_⟩;refine T1 (WPE (λl=>if l=2022 then 15 else l) [(1000003,.ptr 2013 0 0),(1000005,.ptr 2012 0 0),(1000007,.fn (.func 388) [.rptr [.L b9.Pv a0]]),(0,.fn (.yield l20) []),(1,.rptr [.L b9.Pv a0]),(8,.L iF v17),(9,.I (v17.length:Int)),(10,.I s19),(24,.bool true)] [(2012,vS (.sl 2022) 1),(2022,⟨List.map n0.Pv j28,(List.map n0.Pv j28).length,true,2,true⟩),(2013,vR (.fn (.func 386) []) 1)])<|S2 1 J ?_
    refine H9 false J (λq=>nomatch q) (λ_=>?_);refine c4<|S6 2 J ?_;exact eL h (Wk.trans (n8 _ [2022]) (WP (λl=>if l=912512 then 2022 else l)))
   ·refine g5 ?_;refine S3 2 J<|cA h b12 J J λv29 _ h=>yN ?_;refine cN h (λhc h=>?_) λhc h=>?_
    ·refine S5 2 J ?_;refine y0 J (H2 (f:=n0.Pv) (l:=[(⟨v23,v24.1⟩:n0)]) J a6r b0t a8U J J nl J J)<|w8 h λv30 hv37 h=>O5 J (J1 (f:=n0.Pv) hv37 J J J J J J (.inl ⟨_,J,J⟩) a6r b0t c2G a8U J (λ_=>J)) J J J<|S2 1 J ?_;exact eJ h (Wk.trans (n8 _ [15]) W)
    ·refine c4 ?_;exact eJ h (Wk.trans (n8 _ [2021]) (WP (λl=>if l=15 then 2021 else l)))
  ·refine o8 ?_;refine c5<|c5<|l4 ?_;refine .inl ⟨J,?_⟩;have h:=xL hx27 h;exact eJ h (Wk.trans (n8 _ [912512]) (WP (λl=>if l=2001 then 2012 else if l=912501 then 912512 else l)))

theorem b4j{a0}:PO Tryz.prog 381 [.L b9.Pv a0] (a4V a0) λr=>.L n0.Pv r:=by
 refine pO Tryz.func381 λr h _ _=>?_;refine S4 1 J<|S3 1 J<|cF h a7W J J λv1 _ h=>cF h J4 J J λv2 _ h=>S2 1 J<|b8 ?_;cases h;exact f1

theorem a9I{a0 a1}:PO Tryz.prog 380 [.I a0,.rptr (a7.Pc a1)] (a4h a0 a1) λr=>.bool r:=by
 refine pO Tryz.func380 λr h _ _=>?_;refine S4 1 J<|S3 2 J<|cF h C0 J J λv1 _ h=>S2 6 J<|S4 3 J<|b8 ?_;cases h;exact f1

theorem b7x{a0 a1 a2}:PON Tryz.prog 374 [a7.Pv a0,.L b9.Pv a1,.L iF a2] (b0J a0 a1 a2) λr=>⟨List.map iF r,(List.map iF r).length,true,1,true⟩:=by
 refine pON Tryz.func374 λr h _ _=>?_;refine S4 2 J<|S4 2 J<|S4 1 J ?_;refine jq h (λj20=>St.of [(8,.sl 910008)] [(910008,⟨List.map iF j20,(List.map iF j20).length,true,1,true⟩)]) (λj20 h=>?_) λκ19 h=>?_
 ·refine S4 2 J ?_;refine a3e (n8 _ [910008])<|b8 ?_;cases h;exact⟨J,_,_,J,J,J,J⟩
 ·refine S3 1 J ?_;refine cF h b4j J J λv21 _ h=>nL J a6r<|S2 1 J<|g5<|lq h (λq=>St.of [(2,.L iF a2),(7,.fn (.func 380) [.ptr 3 0 0]),(8,.sl 910008),(13,.L n0.Pv v21),(14,.I (v21.length:Int)),(15,.I q.1)] [(3,vR (a7.Pv a0) 3),(910008,⟨List.map iF q.2,(List.map iF q.2).length,true,1,true⟩)]) (Wk.trans (G2 (t:=8) (l:=920008) (z:=1) J J) (WP (λl=>if l=910008 then 920008 else l))) λq26 x25 h hx20=>?_
  obtain⟨s23,s24⟩:=q26;refine S4 1 J<|e6 ?_;refine cN h (λhc h=>?_) λhc h=>?_
  ·refine c4 ?_;refine jq h (λj33=>St.of [(2,.L iF a2),(7,.fn (.func 380) [.ptr 3 0 0]),(8,.sl 39),(13,.L n0.Pv v21),(14,.I (v21.length:Int)),(15,.I s23)] [(39,⟨List.map iF j33,(List.map iF j33).length,true,1,true⟩),(3,vR (a7.Pv a0) 3)]) (λj33 h=>?_) λκ32 h=>?_
   ·refine S6 2 J ?_;exact eL h (Wk.trans (n8 _ [39]) (WP (λl=>if l=910008 then 39 else l)))
   ·refine g5 ?_;refine sR<|iL h J J a6r b0t λv34 _ h=>S2 3 J<|S3 3 J<|cA h P6 J J λv35 _ h=>S1 1 J<|k7 J (λhg=>om (d:=.fn (.func 380) [.ptr 3 0 0]) J)<|k7 J (λhg=>oF J c4i J)<|k7 J (λhg=>oS (ct hg) J J C7 J)<|w8 h λv36 hv29 h=>k7 J (λhg=>F1 (ct hg) a9I (E3 (ct hg) J) (F2 hv29 hg))<|y0 J (y6 J J J (λq=>eqT q))<|S1 1 J<|k7 J (λhg=>om (d:=.fn (.func 380) [.ptr 3 0 0]) J)<|k7 J (λhg=>oF J b55 J)<|k7 J (λhg=>oS (ct hg) J J C7 J)<|w8 h λv37 hv30 h=>k7 J (λhg=>F1 (ct hg) a9I (E3 (ct hg) J) (F2 hv30 hg))<|y0 J (y6 J J J (λq=>eqT q))<|yN ?_;refine cN h (λhc h=>?_) λhc h=>?_
    ·refine S5 3 J ?_;refine y0 J (H2 (f:=iF) (l:=[v34.Val]) J j5 o5 A3 J J nl J J)<|w8 h λv38 hv31 h=>O5 J (J1 (f:=iF) hv31 J J J J J J (.inl ⟨_,J,J⟩) j5 o5 K1 A3 J (λ_=>J)) J J J<|S2 1 J ?_;exact eJ h (Wk.trans (n8 _ [39]) W)
    ·refine c4 ?_;exact eJ h (Wk.trans (n8 _ [910008]) (WP (λl=>if l=39 then 910008 else l)))
  ·refine o8 ?_;refine c5<|c5<|l4 ?_;have h:=xL hx20 h;exact eJ h (Wk.trans (n8 _ [910008]) W)

theorem b7w{a0 a1 a2}:PO Tryz.prog 357 [a7.Pv a0,.L b9.Pv a1,.L iF a2] (a80 a0 a1 a2) λr=>.tup [.L iF r.1,.I r.2]:=by
 refine pO Tryz.func357 λr h _ _=>?_;refine S4 3 J<|b91<|S3 2 J<|cF h a9O J J λv1 _ h=>S2 1 J<|e6<|b90<|g5<|lq h (λq=>St.of [(1,.L b9.Pv a1),(3,.ptr 3 0 0),(6,.L iF q.1),(7,.I q.2)] [(3,vR (a7.Pv a0) 3)]) W λq6 x5 h hx4=>?_;obtain⟨s3,s4⟩:=q6;refine g5<|S3 3 J<|w8 h λv7 hv5 h=>ycN J (b6y J b7x J hv5) J J<|S2 1 J ?_;refine jq h (λ_=>St.of [(6,.L iF s3),(7,.I s4)] []) (λq16 h=>?_) λκ15 h=>?_
 ·refine S4 4 J ?_;refine b8 ?_;have h:=xL hx4 h;cases h;exact f2
 ·refine S3 1 J ?_;refine y0 J (c3p (f:=iF) J J J j5)<|S2 1 J<|g5<|lq h (λs18=>St.of [(1,.L b9.Pv a1),(3,.ptr 3 0 0),(6,.L iF s3),(7,.I s4),(8,.sl 17),(18,.sl 17),(19,.I (v7.length:Int)),(20,.I s18)] [(17,⟨List.map iF v7,(List.map iF v7).length,true,1,true⟩),(3,vR (a7.Pv a0) 3)]) (Wk.trans (n8 _ [17]) W) λs18 x19 h hx16=>S4 1 J<|e6 ?_;refine cN h (λhc h=>?_) λhc h=>?_
  ·refine c4 ?_;refine e6<|g5<|sR<|w8 h λv20 hv17 h=>y0 J (a3F (f:=iF) hv17 J J J J j5 o5 J)<|y0 J (b4P (f:=iF) hv17 J J J C7 J)<|S2 1 J<|S3 2 J<|cA h P6 J J λv21 _ h=>S2 1 J ?_;refine cN h (λhc h=>?_) λhc h=>?_
   ·refine dr [4] u5 (by kernel_rfl) (by kernel_rfl) ?_
    refine S7 3 J<|w8 h λv22 hv19 h=>d3a J (J1 (f:=iF) hv19 J J J J J J (.inl ⟨_,J,J⟩) j5 o5 K1 A3 J (λ_=>J)) J J J J J<|w8 h λv23 hv20 h=>d5f J (y8 J a9O J hv20) J J<|S8 1 J<|S4 3 J<|o8<|a3J (by decide)<|c5<|c5<|a3J (by decide)<|c5<|l4 ?_
    have h:=xL hx16 h;exact eL h W
   ·refine c4 ?_;refine S6 2 J ?_;exact eL h (Wk.trans (n8 _ [17]) W)
  ·refine o8 ?_;refine c5<|c5<|l4 ?_;have h:=xL hx16 h;exact eJ h W

theorem b9t{a0 a1 a2}:PO Tryz.prog 327 [a7.Pv a0,.L b9.Pv a1,.L iF a2] (b0I a0 a1 a2) λr=>.L iF r:=by
 refine pO Tryz.func327 λr h _ _=>?_;refine S4 2 J<|S3 3 J<|cF h b7w J J λv1 _ h=>S2 5 J<|S4 2 J<|b8 ?_;cases h;exact f1

theorem b3e{a0 a1}:PO Tryz.prog 356 [.I a0,.rptr [.abs (W6 (List.map (ent iF PV.bool) a1))]] (a3S a0 a1) λr=>.bool r:=by
 refine pO Tryz.func356 λr h _ _=>?_;unfold a3S at h;refine S4 1 J<|S3 2 J<|y0 J (b9R (es:=a1) (k:=a0) (E:=PV.bool) (EK:=iF) (d:=.bool ((B4 a1 a0).getD (false:Bool))) J J a2Z (A1 L4) b9k J (lk1 _ _ _))<|S2 2 J<|b8 ?_;cases h;exact f1

theorem a3U{a0 a1}:PO Tryz.prog 355 [a7.Pv a0,.fn (.func 356) [.rptr [.abs (W6 (List.map (ent iF PV.bool) a1))]]] (R9 a0 a1) λr=>.L iF r:=by
 refine pO Tryz.func355 λr h _ _=>?_;refine S4 2 J<|S4 1 J ?_;refine jq h (λj16=>St.of [(5,.sl 910005)] [(910005,⟨List.map iF j16,(List.map iF j16).length,true,1,true⟩)]) (λj16 h=>?_) λκ15 h=>?_
 ·refine S4 2 J ?_;refine b8 ?_;cases h;exact f1
 ·refine S3 1 J ?_;refine cF h L2 J J λv17 _ h=>nL J j5<|S2 1 J<|g5<|lq h (λq=>St.of [(1,.fn (.func 356) [.rptr [.abs (W6 (List.map (ent iF PV.bool) a1))]]),(5,.sl 910005),(9,.L iF v17),(10,.I (v17.length:Int)),(11,.I q.1)] [(910005,⟨List.map iF q.2,(List.map iF q.2).length,true,1,true⟩)]) (Wk.trans (G2 (t:=5) (l:=920005) (z:=1) J J) (WP (λl=>if l=910005 then 920005 else l))) λq22 x21 h hx16=>?_
  obtain⟨s19,s20⟩:=q22;refine S4 1 J<|e6 ?_;refine cN h (λhc h=>?_) λhc h=>?_
  ·refine c4 ?_;refine jq h (λj27=>St.of [(1,.fn (.func 356) [.rptr [.abs (W6 (List.map (ent iF PV.bool) a1))]]),(5,.sl 21),(9,.L iF v17),(10,.I (v17.length:Int)),(11,.I s19)] [(21,⟨List.map iF j27,(List.map iF j27).length,true,1,true⟩)]) (λj27 h=>?_) λκ26 h=>?_
   ·refine S6 2 J ?_;exact eL h (Wk.trans (n8 _ [21]) (WP (λl=>if l=910005 then 21 else l)))
   ·refine g5 ?_;refine sR<|iL h J J j5 o5 λv28 _ h=>S2 2 J<|S3 2 J<|cA h b3e J J λv29 _ h=>yN ?_;refine cN h (λhc h=>?_) λhc h=>?_
    ·refine S5 2 J ?_;refine y0 J (H2 (f:=iF) (l:=[v28]) J j5 o5 A3 J J nl J J)<|w8 h λv30 hv23 h=>O5 J (J1 (f:=iF) hv23 J J J J J J (.inl ⟨_,J,J⟩) j5 o5 K1 A3 J (λ_=>J)) J J J<|S2 1 J ?_;exact eJ h (Wk.trans (n8 _ [21]) W)
    ·refine c4 ?_;exact eJ h (Wk.trans (n8 _ [910005]) (WP (λl=>if l=21 then 910005 else l)))
  ·refine o8 ?_;refine c5<|c5<|l4 ?_;have h:=xL hx16 h;exact eJ h (Wk.trans (n8 _ [910005]) W)

theorem b5S{a0 a1}:PO Tryz.prog 326 [a7.Pv a0,.L iF a1] (a64 a0 a1) λr=>.L iF r:=by
 refine pO Tryz.func326 λr h _ _=>?_;refine S4 2 J<|S3 2 J<|cF h a7B J J λv1 _ h=>S2 2 J<|S3 2 J<|w8 h λv2 hv2 h=>ycL J (y8 J a3U J hv2) J<|S2 1 J<|b8 ?_;cases h;exact f1

theorem b9u{a0 a1 a2}:PO Tryz.prog 260 [a7.Pv a0,.L b9.Pv a1,.L iF a2] (a7Y a0 a1 a2) λr=>.L iF r:=by
 refine pO Tryz.func260 λr h _ _=>?_;unfold a7Y at h;refine S4 2 J<|dr [] u5 (by kernel_rfl) (by kernel_rfl)<|S7 4 J<|w8 h λv1 hv1 h=>d2f J (y8 J b9t J hv1) J<|w8 h λv2 hv2 h=>d2f J (y8 J b5S J hv2) J<|S8 1 J<|b8 ?_
 cases h;exact f1

theorem b2G{a0 a1}:PO Tryz.prog 177 [a7.Pv a0,.L b9.Pv a1] (a07 a0 a1) λr=>.L iF r:=by
 refine pO Tryz.func177 λr h _ _=>?_;unfold a07 at h;refine S4 2 J<|dr [] u5 (by kernel_rfl) (by kernel_rfl)<|S7 4 J<|w8 h λv1 hv1 h=>d2f J (y8 J b5X J hv1) J<|w8 h λv2 hv2 h=>d2f J (y8 J b9u J hv2) J<|S8 1 J<|b8 ?_
 cases h;exact f1

theorem a1d{a0}:PO Tryz.prog 108 [b6.Pv a0] (M7 a0) λr=>.L iF r:=by
 refine pO Tryz.func108 λr h _ _=>?_;refine S4 2 J<|S3 4 J<|cF h b2G J J λv1 _ h=>S2 1 J<|b8 ?_;cases h;exact f1

theorem a92{a0 a1}:PO Tryz.prog 166 [.I a0,.rptr (b6.Pc a1)] (a3q a0 a1) λr=>.bool r:=by
 refine pO Tryz.func166 λr h _ _=>?_;refine S4 1 J<|S3 3 J<|cF h C0 J J λv1 _ h=>S2 6 J<|S3 4 J<|k7 J (λhg=>oF J b51 J)<|k7 J (λhg=>oS (ct hg) J J b3Z J)<|k7 J (λhg=>a1w (ct hg) J)<|y0 J (y6 J J J (λq=>eqT q))<|S2 1 J<|b8 ?_;cases h;exact f1

theorem a0N{a0 a1}:PO Tryz.prog 165 [.L iF a0,.fn (.func 166) [.rptr (b6.Pc a1)]] (G7 a0 a1) λr=>.L iF r:=by
 refine pO Tryz.func165 λr h _ _=>?_;refine S4 1 J<|S4 1 J ?_;refine jq h (λj15=>St.of [(5,.sl 910005)] [(910005,⟨List.map iF j15,(List.map iF j15).length,true,1,true⟩)]) (λj15 h=>?_) λκ14 h=>?_
 ·refine S4 2 J ?_;refine b8 ?_;cases h;exact f1
 ·refine S3 1 J ?_;refine nL J j5<|S2 1 J<|g5<|lq h (λq=>St.of [(1,.fn (.func 166) [.rptr (b6.Pc a1)]),(5,.sl 910005),(8,.L iF a0),(9,.I (a0.length:Int)),(10,.I q.1)] [(910005,⟨List.map iF q.2,(List.map iF q.2).length,true,1,true⟩)]) (Wk.trans (G2 (t:=5) (l:=920005) (z:=1) J J) (WP (λl=>if l=910005 then 920005 else l))) λq20 x19 h hx14=>?_
  obtain⟨s17,s18⟩:=q20;refine S4 1 J<|e6 ?_;refine cN h (λhc h=>?_) λhc h=>?_
  ·refine c4 ?_;refine jq h (λj25=>St.of [(1,.fn (.func 166) [.rptr (b6.Pc a1)]),(5,.sl 20),(8,.L iF a0),(9,.I (a0.length:Int)),(10,.I s17)] [(20,⟨List.map iF j25,(List.map iF j25).length,true,1,true⟩)]) (λj25 h=>?_) λκ24 h=>?_
   ·refine S6 2 J ?_;exact eL h (Wk.trans (n8 _ [20]) (WP (λl=>if l=910005 then 20 else l)))
   ·refine g5 ?_;refine sR<|iL h J J j5 o5 λv26 _ h=>S2 2 J<|S3 2 J<|cA h a92 J J λv27 _ h=>yN ?_;refine cN h (λhc h=>?_) λhc h=>?_
    ·refine S5 2 J ?_;refine y0 J (H2 (f:=iF) (l:=[v26]) J j5 o5 A3 J J nl J J)<|w8 h λv28 hv21 h=>O5 J (J1 (f:=iF) hv21 J J J J J J (.inl ⟨_,J,J⟩) j5 o5 K1 A3 J (λ_=>J)) J J J<|S2 1 J ?_;exact eJ h (Wk.trans (n8 _ [20]) W)
    ·refine c4 ?_;exact eJ h (Wk.trans (n8 _ [910005]) (WP (λl=>if l=20 then 910005 else l)))
  ·refine o8 ?_;refine c5<|c5<|l4 ?_;have h:=xL hx14 h;exact eJ h (Wk.trans (n8 _ [910005]) W)

theorem b1X{a0}:PO Tryz.prog 105 [b6.Pv a0] (a2P a0) λr=>.L iF r:=by
 refine pO Tryz.func105 λr h _ _=>?_;refine S4 2 J<|S3 1 J<|cF h a1d J J λv1 _ h=>S1 1 J<|w8 h λv2 hv2 h=>ycL J (y8 J a0N J hv2) J<|S2 1 J<|b8 ?_;cases h;exact f1

theorem a93{a0}:PO Tryz.prog 60 [b6.Pv a0] (W7 a0) λr=>.tup [b6.Pv r.1,.I r.2.1,.I r.2.2]:=by
 refine pO Tryz.func60 λr h _ _=>?_;refine S4 4 J<|S3 1 J<|cF h b1X J J λv1 _ h=>S2 1 J ?_;refine jq h (λj10=>St.of [(1,.ptr 1 0 0),(2,.ptr 2 0 0),(5,.L iF v1)] [(2,vR (.agg [.nl,.I 0,.I 0,.nl,.nl,.nl,.nl,.I 0]) 8),(1,vR (b6.Pv j10) 8)]) (λj10 h=>?_) λκ9 h=>?_
 ·refine e6 ?_;refine S3 1 J<|nL J j5<|S2 1 J ?_;refine cN h (λhc h=>?_) λhc h=>?_
  ·refine S3 2 J ?_;refine nL J j5<|S2 3 J<|b8 ?_;cases h;exact⟨J,[_,_,_],⟨oL J J J s6 o9 nl J,⟨J,⟨J,tr⟩⟩⟩,J,io⟩
  ·refine c4 ?_;refine dr [] u5 (by kernel_rfl) (by kernel_rfl)<|S7 2 J<|w8 h λv11 hv8 h=>d2f J (y8 J a1d J hv8) J<|w8 h λv12 hv9 h=>d2f J (y8 J a8F J hv9) J<|w8 h λv13 hv10 h=>d2f J (y8 J a0E J hv10) J<|S7 1 J<|E8 (x':=b6.Pv v13) (cl':=true) J J (.inr J) o9<|O2<|dr [4,8] u5 (by kernel_rfl) (by kernel_rfl)<|S7 3 J<|w8 h λv14 hv11 h=>d2f J (y8 J L2 J hv11) J<|d7 J (λ_ hN=>X0 (f:=iF) J j5) J<|S7 2 J<|w8 h λv15 hv12 h=>d2f J (y8 J L2 J hv12) J<|d7 J (λ_ hN=>X0 (f:=iF) J j5) J<|S7 1 J<|E8 (x':=b6.Pv v13) (cl':=true) J J (.inr J) o9<|S8 2 J<|b8 ?_
   cases h;exact⟨J,[_,_,_],⟨oL J J J s6 o9 nl J,⟨J,⟨J,tr⟩⟩⟩,J,io⟩
 ·refine S3 1 J ?_;refine nL J j5<|S2 1 J<|g5<|lq h (λq=>St.of [(1,.ptr 1 0 0),(2,.ptr 2 0 0),(5,.L iF v1),(11,.L iF v1),(12,.I (v1.length:Int)),(13,.I q.1)] [(2,vR (.agg [.nl,.I 0,.I 0,.nl,.nl,.nl,.nl,.I 0]) 8),(1,vR (b6.Pv q.2) 8)]) W λq20 x19 h hx15=>?_;obtain⟨s17,s18⟩:=q20;refine S4 1 J<|e6 ?_;refine cN h (λhc h=>?_) λhc h=>?_
  ·refine c4 ?_;refine e6<|g5<|sR<|iL h J J j5 o5 λv21 _ h=>S2 2 J<|S5 2 J<|cF h a6d J J λv22 _ h=>S2 1 J<|S6 2 J ?_;exact eL h W
  ·refine o8 ?_;refine c5<|c5<|l4 ?_;have h:=xL hx15 h;exact eJ h W

theorem a5u{a0 a1}:PO Tryz.prog 294 [c8.Pv a0,.I a1] (Z2 a0 a1) λr=>.tup [c8.Pv r.1,.L g9.Pv r.2]:=by
 refine pO Tryz.func294 λr h _ _=>?_;refine S4 3 J<|S3 2 J<|cA h O0 J J λv1 hv1 h=>y0 J (d1d J J J)<|y0 J (c67 J J J)<|S2 1 J<|S3 3 J<|cF h U9 J J λv2 _ h=>S2 1 J<|dr [] u5 (by kernel_rfl) (by kernel_rfl)<|S7 4 J<|d2 J (F1 J O0 J hv1) J<|w8 h λv3 hv3 h=>d2f J (y8 J U9 J hv3) J<|S7 1 J<|E8 (x':=.agg [.L g9.Pv v3,.I a0.Cap]) (cl':=true) J J (.inr J) c5G<|O2<|S4 4 J<|b8 ?_
 cases h;exact⟨J,[_,_],⟨oL J J J a5j a1M nl J,⟨J,tr⟩⟩,J,io⟩

theorem a6Y{a0}:PO Tryz.prog 222 [c8.Pv a0] (a0R a0) λr=>.tup [c8.Pv r.1,g9.Pv r.2.1,.I r.2.2]:=by
 refine pO Tryz.func222 λr h _ _=>?_;refine S4 4 J<|S3 1 J<|cF h a5u J J λv1 _ h=>S2 6 J<|e6<|S3 1 J<|nL J a4a<|S2 1 J ?_;refine cN h (λhc h=>?_) λhc h=>?_
 ·refine S4 1 J ?_;refine dr [1,1007] u5 (by kernel_rfl) (by kernel_rfl)<|S7 1 J<|d7 J (λ_ hN=>a6P (cs:=[.I 0,.I 0,.I 0]) hN J J J J a1H K2 nl J) J<|E8 (x':=c8.Pv a0) (cl':=true) J J (.inr J) a1M<|E8 (x':=.agg [.I 0,.I 0,.I 0]) (cl':=true) J J (.inl J) K2<|S8 1 J<|b8 ?_
  cases h;exact⟨J,[_,_,_],⟨oL J J J a5j a1M nl J,⟨oL J J J a1H K2 nl J,⟨J,tr⟩⟩⟩,J,io⟩
 ·refine c4 ?_;refine dr [2,3] u5 (by kernel_rfl) (by kernel_rfl)<|S7 2 J<|w8 h λv2 hv2 h=>d7 J (λ_ hN=>A5 (f:=g9.Pv) (cs:=g9.Pc v2) hv2 J J a4a K2 J J) J<|d7 J (λ_ hN=>a8e J a1H K2 nl J) J<|E8 (x':=c8.Pv v1.1) (cl':=true) J J (.inr J) a1M<|E8 (x':=g9.Pv v2) (cl':=true) J J (.inl J) K2<|S8 1 J<|b8 ?_
  cases h;exact⟨J,[_,_,_],⟨oL J J J a5j a1M nl J,⟨oL J J J a1H K2 nl J,⟨J,tr⟩⟩⟩,J,io⟩

theorem a7g{a0}:PO Tryz.prog 129 [c8.Pv a0] (a1E a0) λr=>.tup [c8.Pv r.1,g9.Pv r.2.1,.I r.2.2]:=by
 refine pO Tryz.func129 λr h _ _=>?_;refine S4 4 J<|S3 1 J<|cF h a6Y J J λv1 _ h=>S2 6 J<|b8 ?_;cases h;exact⟨J,[_,_,_],⟨oL J J J a5j a1M nl J,⟨oL J J J a1H K2 nl J,⟨J,tr⟩⟩⟩,J,io⟩

theorem a4e{a0}:PO Tryz.prog 72 [b6.Pv a0] (a1q a0) λr=>.bool r:=by
 refine pO Tryz.func72 λr h _ _=>?_;refine S4 2 J<|S3 2 J<|cF h a7g J J λv1 _ h=>S2 9 J<|S4 3 J<|b8 ?_;cases h;exact f1

theorem a9H{a0 a1}:PO Tryz.prog 262 [.L (Ls g6.Pv) a0,.I a1] (a4f a0 a1) λr=>.L g6.Pv r:=by
 refine pO Tryz.func262 λr h _ _=>?_;refine S4 1 J<|e6<|S3 3 J<|k7 J (λhg=>mI J)<|k7 J (λhg=>om (d:=.L (Ls g6.Pv) a0) J)<|k7 J (λhg=>X0 (f:=(Ls g6.Pv)) (ct hg) a2q)<|k7 J (λhg=>w7 (ct hg) (ct hg) J)<|y0 J (B6 J J J (λq=>eqF q))<|yN ?_;refine cN h (λhc h=>?_) λhc h=>?_
 ·refine S4 1 J ?_;refine b8 ?_;cases h;exact f1
 ·refine c4 ?_;refine S3 2 J<|iL h J J a2q a8R λv1 _ h=>S2 2 J<|b8 ?_;cases h;exact f1

theorem b5J{a0 a1}:PO Tryz.prog 179 [.L (Ls g6.Pv) a0,g9.Pv a1] (a6z a0 a1) λr=>.I r:=by
 refine pO Tryz.func179 λr h _ _=>?_;refine S4 2 J<|S3 3 J<|cF h a9H J J λv1 _ h=>nL J a2K<|S2 2 J<|b8 ?_;cases h;exact f1

theorem b4L{a0 a1}:PO Tryz.prog 264 [b6.Pv a0,.L g6.Pv a1] (a29 a0 a1) λr=>.tup [b6.Pv r.1,.L iF r.2]:=by
 refine pO Tryz.func264 λr h _ _=>?_;refine S4 3 J<|S4 1 J ?_;refine jq h (λq=>St.of [(2,.ptr 2 0 0),(4,.ptr 4 0 0),(6,.sl 910006)] [(910006,⟨List.map iF q.2,(List.map iF q.2).length,true,1,true⟩),(4,vR (.agg [.nl,.I 0,.I 0,.nl,.nl,.nl,.nl,.I 0]) 8),(2,vR (b6.Pv q.1) 8)]) (λq13 h=>?_) λκ10 h=>?_
 ·obtain⟨j11,j12⟩:=q13;refine S4 4 J<|b8 ?_;cases h;exact⟨J,[_,_],⟨oL J J J s6 o9 nl J,⟨J,tr⟩⟩,J,io⟩
 ·refine S3 1 J ?_;refine nL J a2K<|S2 1 J<|g5<|lq h (λq=>St.of [(2,.ptr 2 0 0),(4,.ptr 4 0 0),(6,.sl 910006),(10,.L g6.Pv a1),(11,.I (a1.length:Int)),(12,.I q.1)] [(4,vR (.agg [.nl,.I 0,.I 0,.nl,.nl,.nl,.nl,.I 0]) 8),(2,vR (b6.Pv q.2.1) 8),(910006,⟨List.map iF q.2.2,(List.map iF q.2.2).length,true,1,true⟩)]) (Wk.trans (G2 (t:=6) (l:=920006) (z:=1) J J) (WP (λl=>if l=910006 then 920006 else l))) λq19 x18 h hx10=>?_
  obtain⟨s15,s16,s17⟩:=q19;refine S4 1 J<|e6 ?_;refine cN h (λhc h=>?_) λhc h=>?_
  ·refine c4 ?_;refine e6<|g5<|sR<|iL h J J a2K a3I λv20 _ h=>S2 3 J<|S4 1 J<|S3 2 J<|cF h a9L J J λv21 _ h=>S2 6 J<|S5 2 J<|y0 J (H2 (f:=iF) (l:=[v21.2.1]) J j5 o5 A3 J J nl J J)<|w8 h λv22 hv13 h=>O5 J (J1 (f:=iF) hv13 J J J J J J (.inl ⟨_,J,J⟩) j5 o5 K1 A3 J (λ_=>J)) J J J<|S2 1 J<|S6 2 J ?_;exact eL h (Wk.trans (n8 _ [26]) (WP (λl=>if l=910006 then 26 else l)))
  ·refine o8 ?_;refine c5<|c5<|l4 ?_;have h:=xL hx10 h;exact eJ h (Wk.trans (n8 _ [910006]) W)

theorem b5K{a0 a1}:PO Tryz.prog 180 [b6.Pv a0,.L (Ls g6.Pv) a1] (a6A a0 a1) λr=>.tup [b6.Pv r.1,g9.Pv r.2.1,.I r.2.2]:=by
 refine pO Tryz.func180 λr h _ _=>?_;refine S4 4 J<|S3 2 J<|cF h a7g J J λv1 _ h=>S2 9 J<|e6<|S4 2 J ?_;refine cN h (λhc h=>?_) λhc h=>?_
 ·refine S3 1 J ?_;refine y0 J (p6 (cs:=[.I 0,.I 0,.I 0]) J b63 b0x J J J)<|S2 4 J<|b8 ?_;cases h;exact⟨J,[_,_,_],⟨oL J J J s6 o9 nl J,⟨oL J J J a1H K2 nl J,⟨J,tr⟩⟩⟩,J,io⟩
 ·refine c4 ?_;refine S4 3 J<|S4 4 J ?_;refine jq h (λj6=>St.of [(1,.L (Ls g6.Pv) a1),(2,.ptr 2 0 0),(4,.ptr 4 0 0),(5,.ptr 5 0 0),(8,.ptr 8 0 0),(10,.bool (v1.2.1.Kind==1))] [(8,vR (g9.Pv v1.2.1) 3),(5,vR (.agg [.I 0,.I 0,.I 0]) 3),(4,vR (.agg [.nl,.I 0,.I 0,.nl,.nl,.nl,.nl,.I 0]) 8),(2,vR (b6.Pv j6) 8)]) (λj6 h=>?_) λκ5 h=>?_
  ·refine dr [] u5 (by kernel_rfl) (by kernel_rfl) ?_
   refine S7 4 J<|w8 h λv7 hv6 h=>d2f J (y8 J a9H J hv6) J<|w8 h λv8 hv7 h=>d2f J (y8 J b4L J hv7) J<|S7 3 J<|E8 (x':=b6.Pv v8.1) (cl':=true) J J (.inr J) o9<|O2<|e6<|S4 1 J ?_;refine cN h (λhc h=>?_) λhc h=>?_
   ·refine S3 1 J ?_;refine cF h a6J J J λv9 _ h=>S2 4 J<|S5 1 J<|cF h a0E J J λv10 _ h=>S2 1 J<|dr [1,1008] u5 (by kernel_rfl) (by kernel_rfl)<|S7 1 J<|d7 J (λ_ hN=>a6P (cs:=g9.Pc v1.2.1) hN J J J J a1H K2 nl J) J<|E8 (x':=b6.Pv v10) (cl':=true) J J (.inr J) o9<|E8 (x':=g9.Pv v1.2.1) (cl':=true) J J (.inl J) K2<|S8 1 J<|b8 ?_
    cases h;exact⟨J,[_,_,_],⟨oL J J J s6 o9 nl J,⟨oL J J J a1H K2 nl J,⟨J,tr⟩⟩⟩,J,io⟩
   ·refine c4 ?_;refine dr [1,1008] u5 (by kernel_rfl) (by kernel_rfl)<|S7 1 J<|d7 J (λ_ hN=>a6P (cs:=g9.Pc v1.2.1) hN J J J J a1H K2 nl J) J<|E8 (x':=b6.Pv v8.1) (cl':=true) J J (.inr J) o9<|E8 (x':=g9.Pv v1.2.1) (cl':=true) J J (.inl J) K2<|S8 1 J<|b8 ?_
    cases h;exact⟨J,[_,_,_],⟨oL J J J s6 o9 nl J,⟨oL J J J a1H K2 nl J,⟨J,tr⟩⟩⟩,J,io⟩
  ·refine S4 1 J ?_;refine cN h (λhc h=>?_) λhc h=>?_
   ·refine S3 3 J ?_;refine cF h a6J J J λv11 _ h=>S2 4 J<|S5 3 J<|cF h W8 J J λv12 _ h=>cF h a0E J J λv13 _ h=>S2 1 J ?_;exact eJ h W
   ·refine c4 ?_;exact eJ h W

theorem b4f{a0 a1 a2}:PO Tryz.prog 61 [b6.Pv a0,.L (Ls g6.Pv) a1,.I a2] (a21 a0 a1 a2) λr=>.tup [b6.Pv r.1,.I r.2.1,.I r.2.2.1,.I r.2.2.2]:=by
 refine pO Tryz.func61 λr h _ _=>?_;refine S4 6 J<|S4 2 J ?_;refine jq h (λq=>St.of [(3,.ptr 2004 0 0),(5,.ptr 2003 0 0),(6,.ptr 2002 0 0),(10,.ptr 2001 0 0)] [(2001,vR (.I q.1) 1),(2002,vR (.agg [.nl,.I 0,.I 0,.nl,.nl,.nl,.nl,.I 0]) 8),(2003,vR (.I q.2.1) 1),(2004,vR (b6.Pv q.2.2) 8)]) (λq17 h=>?_) λκ13 h=>?_
 ·obtain⟨j14,j15,j16⟩:=q17;refine e6<|S3 1 J<|cA h a4e J J λv18 _ h=>S2 1 J ?_;refine cN h (λhc h=>?_) λhc h=>?_
  ·refine dr [1,2,3001,3003] u5 (by kernel_rfl) (by kernel_rfl) ?_
   refine S7 1 J<|d7 J (λ_ hN=>b3C hN J J J J C7 J) J<|d7 J (λ_ hN=>b3C hN J J J J C7 J) J<|E8 (x':=b6.Pv j16) (cl':=true) J J (.inr J) o9<|S8 3 J<|b8 ?_;cases h;exact⟨J,[_,_,_,_],⟨oL J J J s6 o9 nl J,⟨J,⟨J,⟨J,tr⟩⟩⟩⟩,J,io⟩
  ·refine c4 ?_;refine dr [1,2,3001,3003] u5 (by kernel_rfl) (by kernel_rfl)<|S7 1 J<|d7 J (λ_ hN=>b3C hN J J J J C7 J) J<|d7 J (λ_ hN=>b3C hN J J J J C7 J) J<|E8 (x':=b6.Pv j16) (cl':=true) J J (.inr J) o9<|S8 3 J<|b8 ?_
   cases h;exact⟨J,[_,_,_,_],⟨oL J J J s6 o9 nl J,⟨J,⟨J,⟨J,tr⟩⟩⟩⟩,J,io⟩
 ·refine S3 3 J ?_;refine T1 (WPE (λl=>if l=2008 then 10 else if l=2009 then 6 else if l=2010 then 5 else if l=2011 then 3 else l) [(3,.ptr 2011 0 0),(5,.ptr 2010 0 0),(6,.ptr 2009 0 0),(10,.ptr 2008 0 0),(13,b6.Pv a0),(14,.L (Ls g6.Pv) a1),(15,.I a2)] [(2008,vR (.I 0) 1),(2009,vR (.agg [.nl,.I 0,.I 0,.nl,.nl,.nl,.nl,.I 0]) 8),(2010,vR (.I a2) 1),(2011,vR (b6.Pv a0) 8)]) ?_
  refine b6U (fn:=Tryz.f109) (N1:=8) J J Tryz.func109 J c8u J J nl (λe19 o20=>?_);refine S4 4 J<|S4 2 J<|b8 ?_;refine⟨J,[.fn (.func 178) [.ptr 3 0 0,.ptr 4 0 0,.ptr 5 0 0]],⟨J,tr⟩,?_⟩;refine T1 (WPE (λl=>if l=2012 then 5 else if l=2013 then 4 else if l=2014 then 3 else l) [(3,.ptr 2011 0 0),(5,.ptr 2010 0 0),(6,.ptr 2009 0 0),(10,.ptr 2008 0 0),(16,.fn (.func 178) [.ptr 2014 0 0,.ptr 2013 0 0,.ptr 2012 0 0])] [(2012,vR (.I a2) 1),(2013,vR (.L (Ls g6.Pv) a1) 1),(2014,vR (b6.Pv a0) 8),(2008,vR (.I 0) 1),(2009,vR (.agg [.nl,.I 0,.I 0,.nl,.nl,.nl,.nl,.I 0]) 8),(2010,vR (.I a2) 1),(2011,vR (b6.Pv a0) 8)])<|yN<|g5<|a3e (WE [(3,.ptr 2011 0 0),(5,.ptr 2010 0 0),(6,.ptr 2009 0 0),(10,.ptr 2008 0 0),(16,.fn (.func 178) [.ptr 2014 0 0,.ptr 2013 0 0,.ptr 2012 0 0])] [(2012,vR (.I a2) 1),(2013,vR (.L (Ls g6.Pv) a1) 1),(2014,vR (b6.Pv a0) 8),(2008,vR (.I 0) 1),(2009,vR (.agg [.nl,.I 0,.I 0,.nl,.nl,.nl,.nl,.I 0]) 8),(2010,vR (.I a2) 1),(2011,vR (b6.Pv a0) 8)]) ?_
  refine a13 (fn:=Tryz.f178) (N1:=40) J Tryz.func178 J J nl J c8x J J (λl21 e22 o23 hR24=>?_);refine g5<|lq h (λq=>St.of [(1000003,.ptr 2011 0 0),(1000005,.ptr 2010 0 0),(1000006,.ptr 2009 0 0),(1000010,.ptr 2008 0 0),(1000016,.fn (.func 178) [.ptr 2014 0 0,.ptr 2013 0 0,.ptr 2012 0 0]),(0,.fn (.yield l21) []),(1,.ptr 2014 0 0),(2,.ptr 2013 0 0),(3,.ptr 2012 0 0)] [(2012,vR (.I q.1) 1),(2013,vR (.L (Ls g6.Pv) a1) 1),(2014,vR (b6.Pv q.2.1) 8),(2008,vR (.I q.2.2.1) 1),(2009,vR (.agg [.nl,.I 0,.I 0,.nl,.nl,.nl,.nl,.I 0]) 8),(2010,vR (.I q.2.2.2.1) 1),(2011,vR (b6.Pv q.2.2.2.2) 8)]) W λq26 x25 h hx27=>?_;obtain⟨s20,s21,s22,s23,s24⟩:=q26;refine e6<|S3 1 J<|cA h a4e J J λv27 _ h=>S2 1 J ?_;refine cN h (λhc h=>?_) λhc h=>?_
  ·refine c4 ?_;refine g5<|S3 2 J<|cF h a7g J J λv28 _ h=>S2 9 J<|S3 2 J<|cA h b5J J J λv29 _ h=>S2 1 J<|e6<|S4 3 J ?_;refine cN h (λhc h=>?_) λhc h=>?_
   ·refine b8 ?_;refine .inl ⟨J,?_⟩;have h:=xL hx27 h;exact eJ h (WP (λl=>if l=2004 then 2011 else if l=2003 then 2010 else if l=2002 then 2009 else if l=2001 then 2008 else l))
   ·refine c4 ?_;refine S3 2 J<|cF h b5K J J λv30 _ h=>S2 5 J<|S4 4 J<|S3 3 J<|T1 (WE [(1000003,.ptr 2011 0 0),(1000005,.ptr 2010 0 0),(1000006,.ptr 2009 0 0),(1000010,.ptr 2008 0 0),(1000016,.fn (.func 178) [.ptr 2014 0 0,.ptr 2013 0 0,.ptr 2012 0 0]),(0,.fn (.yield l21) []),(1,.ptr 2014 0 0),(2,.ptr 2013 0 0),(3,.ptr 2012 0 0),(35,.fn (.yield l21) []),(36,b6.Pv v30.1),(37,.I (u6 (s20-v29)))] [(2012,vR (.I (u6 (s20-v29))) 1),(2013,vR (.L (Ls g6.Pv) a1) 1),(2014,vR (b6.Pv v30.1) 8),(2008,vR (.I s22) 1),(2009,vR (.agg [.nl,.I 0,.I 0,.nl,.nl,.nl,.nl,.I 0]) 8),(2010,vR (.I s23) 1),(2011,vR (b6.Pv s24) 8)]) ?_;refine a7n hR24 J J J J J J (λe32 o33 o34=>?_);refine S4 2 J<|S6 1 J ?_;refine⟨J,?_⟩;refine g5<|S4 4 J<|S6 3 J ?_;refine⟨J,?_⟩;refine T1 (WE [(1000003,.ptr 2011 0 0),(1000005,.ptr 2010 0 0),(1000006,.ptr 2009 0 0),(1000010,.ptr 2008 0 0),(1000016,.fn (.func 178) [.ptr 2014 0 0,.ptr 2013 0 0,.ptr 2012 0 0]),(0,.fn (.yield l21) []),(1,.ptr 2014 0 0),(2,.ptr 2013 0 0),(3,.ptr 2012 0 0),(38,.bool true)] [(2012,vR (.I (u6 (s20-v29))) 1),(2013,vR (.L (Ls g6.Pv) a1) 1),(2014,vR (b6.Pv v30.1) 8),(2008,vR (.I (u6 (s22+1))) 1),(2009,vR (.agg [.nl,.I 0,.I 0,.nl,.nl,.nl,.nl,.I 0]) 8),(2010,vR (.I (u6 (s20-v29))) 1),(2011,vR (b6.Pv v30.1) 8)])<|S2 1 J ?_;refine H9 false J (λq=>nomatch q) (λ_=>?_);refine c4 ?_;exact eL h W
  ·refine o8 ?_;refine c5<|c5<|l4 ?_;refine .inl ⟨J,?_⟩;have h:=xL hx27 h;exact eJ h (WP (λl=>if l=2004 then 2011 else if l=2003 then 2010 else if l=2002 then 2009 else if l=2001 then 2008 else l))

theorem a3M{a0 a1}:PO Tryz.prog 21 [n7.Pv a0,.L iF a1] (a0u a0 a1) λr=>.tup [n7.Pv r.1,k9.Pv r.2]:=by
 refine pO Tryz.func21 λr h _ _=>?_;refine S4 3 J<|S3 1 J<|cA h b4b J J λv1 _ h=>S2 6 J<|e6<|S4 2 J ?_;refine cN h (λhc h=>?_) λhc h=>?_
 ·refine S3 2 J ?_;refine y0 J (p6 (cs:=[.I 0,.I v1.2]) J c0Z b37 J J J)<|S2 2 J<|b8 ?_;cases h;exact⟨J,[_,_],⟨oL J J J a1I T7 nl J,⟨oL J J J a5k M6 nl J,tr⟩⟩,J,io⟩
 ·refine c4 ?_;refine S4 1 J<|e6<|S3 1 J<|cF h b3b J J λv2 _ h=>yN<|g5<|sR<|y0 J (b7R (n:=a9S) (d:=.tup [.agg [.I (ifG v2 132 0),.I (ifG v2 132 1),.I (ifG v2 132 2),.I (ifG v2 132 3)],.bool (decide (v2.t=132))]) J c2N c2R J J J)<|S2 2 J ?_;refine cN h (λhc h=>?_) λhc h=>?_
  ·refine S4 2 J ?_;refine S5 4 J<|cF h a9L J J λv3 _ h=>S2 10 J<|dr [1,1008] u5 (by kernel_rfl) (by kernel_rfl)<|S7 1 J<|d7 J (λ_ hN=>a6P (cs:=[.I v3.2.1,.I v3.2.2]) hN J J J J a5k M6 nl J) J<|E8 (x':=.agg [.L b7.Pv v3.1.S.S.a8,.I v3.1.S.S.Last,.I v3.1.S.Serial,.L iF v3.1.Roots,.L c9.Pv v3.1.a8,.L b9.Pv v3.1.T,.L g9.Pv v3.1.Q.L,.I v3.1.Q.Cap,.L (Ls g6.Pv) a0.Progs]) (cl':=true) J J (.inr J) T7<|E8 (x':=.agg [.I v3.2.1,.I v3.2.2]) (cl':=true) J J (.inl J) M6<|O2<|b8 ?_
   cases h;exact⟨J,[_,_],⟨oL J J J a1I T7 nl J,⟨oL J J J a5k M6 nl J,tr⟩⟩,J,io⟩
  ·refine sR ?_;refine y0 J (b7R (n:=a9S) (d:=.tup [.agg [],.bool (decide (v2.t=136))]) J c2O c2S J J J)<|S2 2 J ?_;refine cN h (λhc h=>?_) λhc h=>?_
   ·refine S3 1 J ?_;refine d3Z J J J c8Y<|yN<|S4 2 J<|S3 2 J<|cF h a93 J J λv4 _ h=>S2 8 J<|S6 5 J<|dr [1,1008] u5 (by kernel_rfl) (by kernel_rfl)<|S7 1 J<|d7 J (λ_ hN=>a6P (cs:=[.I (u6 (v4.2.2-v4.2.1)),.I 0]) hN J J J J a5k M6 nl J) J<|E8 (x':=.agg [.L b7.Pv v4.1.S.S.a8,.I v4.1.S.S.Last,.I v4.1.S.Serial,.L iF v4.1.Roots,.L c9.Pv v4.1.a8,.L b9.Pv v4.1.T,.L g9.Pv v4.1.Q.L,.I v4.1.Q.Cap,.L (Ls g6.Pv) a0.Progs]) (cl':=true) J J (.inr J) T7<|E8 (x':=.agg [.I (u6 (v4.2.2-v4.2.1)),.I 0]) (cl':=true) J J (.inl J) M6<|O2<|b8 ?_
    cases h;exact⟨J,[_,_],⟨oL J J J a1I T7 nl J,⟨oL J J J a5k M6 nl J,tr⟩⟩,J,io⟩
   ·refine sR ?_;refine y0 J (b7R (n:=a9S) (d:=.tup [.agg [.I (ifG v2 140 0)],.bool (decide (v2.t=140))]) J c2P c2T J J J)<|S2 2 J ?_;refine cN h (λhc h=>?_) λhc h=>?_
    ·refine S4 2 J ?_;refine S5 6 J<|cF h b4f J J λv5 _ h=>S2 11 J<|dr [1,1008] u5 (by kernel_rfl) (by kernel_rfl)<|S7 1 J<|d7 J (λ_ hN=>a6P (cs:=[.I v5.2.1,.I v5.2.2.2]) hN J J J J a5k M6 nl J) J<|E8 (x':=.agg [.L b7.Pv v5.1.S.S.a8,.I v5.1.S.S.Last,.I v5.1.S.Serial,.L iF v5.1.Roots,.L c9.Pv v5.1.a8,.L b9.Pv v5.1.T,.L g9.Pv v5.1.Q.L,.I v5.1.Q.Cap,.L (Ls g6.Pv) a0.Progs]) (cl':=true) J J (.inr J) T7<|E8 (x':=.agg [.I v5.2.1,.I v5.2.2.2]) (cl':=true) J J (.inl J) M6<|O2<|b8 ?_
     cases h;exact⟨J,[_,_],⟨oL J J J a1I T7 nl J,⟨oL J J J a5k M6 nl J,tr⟩⟩,J,io⟩
    ·refine c4 ?_;refine dr [1,1008] u5 (by kernel_rfl) (by kernel_rfl)<|S7 1 J<|d7 J (λ_ hN=>a6P (cs:=[.I 0,.I 0]) hN J J J J a5k M6 nl J) J<|E8 (x':=n7.Pv a0) (cl':=true) J J (.inr J) T7<|E8 (x':=.agg [.I 0,.I 0]) (cl':=true) J J (.inl J) M6<|O2<|b8 ?_
     cases h;exact⟨J,[_,_],⟨oL J J J a1I T7 nl J,⟨oL J J J a5k M6 nl J,tr⟩⟩,J,io⟩

theorem a0X{a0 a1}:PO Tryz.prog 32 [n7.Pv a0,.L (Ls iF) a1] (W0 a0 a1) λr=>.tup [n7.Pv r.1,.L k9.Pv r.2]:=by
 refine pO Tryz.func32 λr h _ _=>?_;refine S4 3 J<|S4 1 J ?_;refine jq h (λq=>St.of [(2,.ptr 2 0 0),(4,.ptr 4 0 0),(6,.sl 910006)] [(910006,⟨List.map k9.Pv q.2,(List.map k9.Pv q.2).length,true,2,true⟩),(4,vR (.agg [.nl,.I 0,.I 0,.nl,.nl,.nl,.nl,.I 0,.nl]) 9),(2,vR (n7.Pv q.1) 9)]) (λq13 h=>?_) λκ10 h=>?_
 ·obtain⟨j11,j12⟩:=q13;refine S4 4 J<|b8 ?_;cases h;exact⟨J,[_,_],⟨oL J J J a1I T7 nl J,⟨J,tr⟩⟩,J,io⟩
 ·refine S3 1 J ?_;refine nL J b1U<|S2 1 J<|g5<|lq h (λq=>St.of [(2,.ptr 2 0 0),(4,.ptr 4 0 0),(6,.sl 910006),(10,.L (Ls iF) a1),(11,.I (a1.length:Int)),(12,.I q.1)] [(4,vR (.agg [.nl,.I 0,.I 0,.nl,.nl,.nl,.nl,.I 0,.nl]) 9),(2,vR (n7.Pv q.2.1) 9),(910006,⟨List.map k9.Pv q.2.2,(List.map k9.Pv q.2.2).length,true,2,true⟩)]) (Wk.trans (G2 (t:=6) (l:=920006) (z:=2) J J) (WP (λl=>if l=910006 then 920006 else l))) λq19 x18 h hx10=>?_
  obtain⟨s15,s16,s17⟩:=q19;refine S4 1 J<|e6 ?_;refine cN h (λhc h=>?_) λhc h=>?_
  ·refine c4 ?_;refine e6<|g5<|sR<|iL h J J b1U b1V λv20 _ h=>S2 2 J<|S4 1 J<|S3 2 J<|cF h a3M J J λv21 _ h=>S2 5 J<|S5 2 J<|y0 J (H2 (f:=k9.Pv) (l:=[v21.2]) J a2r M6 b37 J J nl J J)<|w8 h λv22 hv13 h=>O5 J (J1 (f:=k9.Pv) hv13 J J J J J J (.inl ⟨_,J,J⟩) a2r M6 d1y b37 J (λ_=>J)) J J J<|S2 1 J<|S6 2 J ?_;exact eL h (Wk.trans (n8 _ [25]) (WP (λl=>if l=910006 then 25 else l)))
  ·refine o8 ?_;refine c5<|c5<|l4 ?_;have h:=xL hx10 h;exact eJ h (Wk.trans (n8 _ [910006]) W)

theorem a6e{a0}:PO Tryz.prog 65 [c7.Pv a0] (Q8 a0) λr=>A4.Pv r:=by
 refine pO Tryz.func65 λr h _ _=>?_;refine S4 2 J<|S4 1 J ?_;refine jq h (λj9=>St.of [(2,.ptr 2 0 0),(3,.ptr 3 0 0)] [(3,vR (A4.Pv j9) 4),(2,vR (.agg [.I 0,.I 0,.I 0,.I 0]) 4)]) (λj9 h=>?_) λκ8 h=>?_
 ·refine S4 2 J ?_;refine b8 ?_;cases h;exact⟨J,[_],⟨oL J J J c5r c5H nl J,tr⟩,J,io⟩
 ·refine S3 2 J ?_;refine nL J M4<|S2 1 J<|g5<|lq h (λq=>St.of [(2,.ptr 2 0 0),(3,.ptr 3 0 0),(7,.L b7.Pv a0.a8),(8,.I (a0.a8.length:Int)),(9,.I q.1)] [(3,vR (A4.Pv q.2) 4),(2,vR (.agg [.I 0,.I 0,.I 0,.I 0]) 4)]) W λq14 x13 h hx9=>?_;obtain⟨s11,s12⟩:=q14;refine S4 1 J<|e6 ?_;refine cN h (λhc h=>?_) λhc h=>?_
  ·refine c4 ?_;refine e6<|g5<|sR<|iL h J J M4 P8 λv15 _ h=>S2 3 J<|S5 2 J<|w8 h λv16 hv11 h=>y0 J (d1b hv11 J J c00 o5)<|y0 J (oS J J J C7 (A4.get hv11))<|S1 1 J<|y0 J (d1b hv11 J J c00 o5)<|d5I hv11 J J (.inl J) J o5<|yN<|S6 2 J ?_;exact eL h W
  ·refine o8 ?_;refine c5<|c5<|l4 ?_;have h:=xL hx9 h;exact eJ h W

theorem a7r{a0}:PO Tryz.prog 24 [n7.Pv a0] (a1P a0) λr=>A4.Pv r:=by
 refine pO Tryz.func24 λr h _ _=>?_;refine S4 2 J<|S3 4 J<|cA h a6e J J λv1 _ h=>S2 1 J<|b8 ?_;cases h;exact⟨J,[_],⟨oL J J J c5r c5H nl J,tr⟩,J,io⟩

theorem b1Y{a0}:PO Tryz.prog 73 [b6.Pv a0] (a2Q a0) λr=>.bool r:=by
 refine pO Tryz.func73 λr h _ _=>?_;refine S4 2 J<|S3 1 J<|cF h a1d J J λv1 _ h=>nL J j5<|S2 2 J<|b8 ?_;cases h;exact f1

theorem a7q{a0}:PO Tryz.prog 29 [n7.Pv a0] (a1O a0) λr=>.bool r:=by
 refine pO Tryz.func29 λr h _ _=>?_;refine S4 2 J<|S3 2 J<|cA h a4e J J λv1 _ h=>S1 1 J<|k7 J (λhg=>oF J b32 J)<|k7 J (λhg=>oL (ct hg) J J s6 o9 nl J)<|w8 h λv2 hv2 h=>k7 J (λhg=>F1 J b1Y (E3 (ct hg) J) (F2 hv2 hg))<|y0 J (y6 J J J (λq=>eqT q))<|S2 1 J<|b8 ?_;cases h;exact f1

theorem b3a{a0}:PO Tryz.prog 27 [n7.Pv a0] (a3N a0) λr=>.L iF r:=by
 refine pO Tryz.func27 λr h _ _=>?_;refine S4 2 J<|S4 1 J ?_;refine jq h (λj11=>St.of [(3,.sl 910003)] [(910003,⟨List.map iF j11,0,true,1,true⟩)]) (λj11 h=>?_) λκ10 h=>?_
 ·refine S3 1 J ?_;obtain⟨v12,hv9,h⟩:=a7o h;refine d0K hv9 J J d1A d0s J J<|yN<|S4 2 J<|b8 ?_;cases h;exact f1
 ·refine S3 3 J ?_;refine cF h L2 J J λv13 _ h=>nL J j5<|S2 1 J<|g5<|lq h (λq=>St.of [(1,.ptr 1 0 0),(3,.sl 910003),(9,.L iF v13),(10,.I (v13.length:Int)),(11,.I q.1)] [(1,vR (n7.Pv a0) 9),(910003,⟨List.map iF q.2,0,true,1,true⟩)]) (Wk.trans (G2 (t:=3) (l:=920003) (z:=1) J J) (WP (λl=>if l=910003 then 920003 else l))) λq18 x17 h hx13=>?_
  obtain⟨s15,s16⟩:=q18;refine S4 1 J<|e6 ?_;refine cN h (λhc h=>?_) λhc h=>?_
  ·refine c4 ?_;refine e6<|g5<|sR<|iL h J J j5 o5 λv19 _ h=>S2 2 J<|S5 4 J<|cA h a43 J J λv20 _ h=>y0 J (H2 (f:=iF) (l:=[v20]) J j5 o5 A3 J J nl J J)<|w8 h λv21 hv16 h=>d1q (f:=iF) (b:=8) [(1,.ptr 1 0 0),(9,.L iF v13),(10,.I (v13.length:Int)),(11,.I s15),(12,.bool (decide (s15<(v13.length:Int)))),(13,.rptr [.I v19]),(14,.I v19),(5,.I v19),(16,.ptr 1 0 0),(17,b6.Pv a0.X),(18,.I v19),(19,.I v20),(20,.lst true (List.map iF [v20]))] [(1,vR (n7.Pv a0) 9)] J hv16 ⟨J,J,J,J,J,J,J,J,J,J,J,J,J,J,J,J,J,J,J,J,J,J,J,J,J,J,J,J,J,J,J,J,J,J,J,J,J,J,J,tr⟩ ⟨rS,tr⟩ J J J J (.inl ⟨_,J,J⟩) j5 o5 K1 A3 J (λ_=>J)<|S2 1 J<|S6 2 J ?_;exact eL h (WP (λl=>if l=910003 then 21 else l))
  ·refine o8 ?_;refine c5<|c5<|l4 ?_;have h:=xL hx13 h;exact eJ h W

theorem a0I:PO Tryz.prog 11 [] (V3) λr=>.bool r:=by
 refine pO Tryz.func11 λr h _ _=>?_;refine S4 1 J<|sR<|cF h X7 J J λv1 _ h=>S2 6 J<|S3 1 J<|y0 J (H2 (f:=iF) (l:=[1,0,1,(-1)]) J j5 o5 A3 J J nl J J)<|y0 J (H2 (f:=iF) (l:=[5,0,0,0]) J j5 o5 A3 J J nl J J)<|y0 J (H2 (f:=iF) (l:=[3,0,0,0]) J j5 o5 A3 J J nl J J)<|y0 J (H2 (f:=iF) (l:=[11,0,0,0]) J j5 o5 A3 J J nl J J)<|y0 J (H2 (f:=iF) (l:=[11,0,0,0]) J j5 o5 A3 J J nl J J)<|y0 J (H2 (f:=iF) (l:=[12,9,0,0]) J j5 o5 A3 J J nl J J)<|y0 J (H2 (f:=iF) (l:=[2,0]) J j5 o5 A3 J J nl J J)<|y0 J (H2 (f:=iF) (l:=[4,0,1,0]) J j5 o5 A3 J J nl J J)<|y0 J (H2 (f:=(Ls iF)) (l:=[[1,0,1,(-1)],[5,0,0,0],[3,0,0,0],[11,0,0,0],[11,0,0,0],[12,9,0,0],[2,0],[4,0,1,0]]) J b1U b1V d1F J J nl J J)<|cF h a0X J J λv2 _ h=>S2 6 J<|sR<|y0 J (p6 (cs:=[.I 11,.I 0,.I 0,.I 0]) J b3o b0v J J J)<|y0 J (H2 (f:=g6.Pv) (l:=[(⟨11,0,0,0⟩:g6)]) J a2K a3I b0v J J nl J J)<|y0 J (H2 (f:=(Ls g6.Pv)) (l:=[[(⟨11,0,0,0⟩:g6)]]) J a2q a8R c80 J J nl J J)<|cF h X7 J J λv3 _ h=>S2 6 J<|sR<|cF h X7 J J λv4 _ h=>S2 6 J<|S3 3 J<|k7 J (λhg=>mI J)<|k7 J (λhg=>w7 (ct hg) J J)<|y0 J (y6 J J J (λq=>eqT q))<|S1 1 J ?_;refine k7 J (λhg=>mI J)<|k7 J (λhg=>w7 (ct hg) J J)<|y0 J (y6 J J J (λq=>eqT q))<|S1 1 J<|k7 J (λhg=>om (d:=.L k9.Pv v2.2) J)<|k7 J (λhg=>X0 (f:=k9.Pv) (ct hg) a2r)<|k7 J (λhg=>w7 (ct hg) J J)<|y0 J (y6 J J J (λq=>eqT q))<|S1 1 J<|k7 J (λhg=>om (d:=.L k9.Pv v2.2) J)<|w8 h λv5 hv5 h=>k7 J (λhg=>A5 (f:=k9.Pv) (cs:=k9.Pc v5) (F2 hv5 hg) (ct hg) J a2r M6 J J)<|k7 J (λhg=>A8 (ct hg) a7S J)<|k7 J (λhg=>G6 (ct hg) C7 J)<|k7 J (λhg=>w7 (ct hg) J J)<|y0 J (y6 J J J (λq=>eqT q))<|S1 1 J<|k7 J (λhg=>om (d:=.L k9.Pv v2.2) J)<|w8 h λv6 hv6 h=>k7 J (λhg=>A5 (f:=k9.Pv) (cs:=k9.Pc v6) (F2 hv6 hg) (ct hg) J a2r M6 J J)<|k7 J (λhg=>A8 (ct hg) a7S J)<|k7 J (λhg=>G6 (ct hg) C7 J)<|k7 J (λhg=>w7 (ct hg) J J)<|y0 J (y6 J J J (λq=>eqT q))<|S1 1 J<|k7 J (λhg=>om (d:=.L k9.Pv v2.2) J)<|w8 h λv7 hv7 h=>k7 J (λhg=>A5 (f:=k9.Pv) (cs:=k9.Pc v7) (F2 hv7 hg) (ct hg) J a2r M6 J J)<|k7 J (λhg=>A8 (ct hg) a7S J)<|k7 J (λhg=>G6 (ct hg) C7 J)<|k7 J (λhg=>w7 (ct hg) J J)<|y0 J (y6 J J J (λq=>eqT q))<|S1 1 J<|k7 J (λhg=>om (d:=.L k9.Pv v2.2) J)<|w8 h λv8 hv8 h=>k7 J (λhg=>A5 (f:=k9.Pv) (cs:=k9.Pc v8) (F2 hv8 hg) (ct hg) J a2r M6 J J)<|k7 J (λhg=>A8 (ct hg) a7S J)<|k7 J (λhg=>G6 (ct hg) C7 J)<|k7 J (λhg=>w7 (ct hg) J J)<|y0 J (y6 J J J (λq=>eqT q))<|S1 1 J<|k7 J (λhg=>om (d:=.L k9.Pv v2.2) J)<|w8 h λv9 hv9 h=>k7 J (λhg=>A5 (f:=k9.Pv) (cs:=k9.Pc v9) (F2 hv9 hg) (ct hg) J a2r M6 J J)<|k7 J (λhg=>A8 (ct hg) a7S J)<|k7 J (λhg=>G6 (ct hg) C7 J)<|k7 J (λhg=>w7 (ct hg) J J)<|y0 J (y6 J J J (λq=>eqT q))<|S1 1 J<|k7 J (λhg=>om (d:=.L k9.Pv v2.2) J)<|w8 h λv10 hv10 h=>k7 J (λhg=>A5 (f:=k9.Pv) (cs:=k9.Pc v10) (F2 hv10 hg) (ct hg) J a2r M6 J J)<|k7 J (λhg=>a8e (ct hg) a5k M6 nl J)<|k7 J (λhg=>p6 (cs:=[.I 0,.I 0]) J c0Z b37 J J J)<|k7 J (λhg=>c66 (xs:=k9.Pc v10) (ys:=[.I 0,.I 0]) c5F (ct hg) (ct hg) J)<|y0 J (y6 J J J (λq=>eqT q))<|S1 1 J<|k7 J (λhg=>om (d:=.L k9.Pv v2.2) J)<|w8 h λv11 hv11 h=>k7 J (λhg=>A5 (f:=k9.Pv) (cs:=k9.Pc v11) (F2 hv11 hg) (ct hg) J a2r M6 J J)<|k7 J (λhg=>A8 (ct hg) b0q J)<|k7 J (λhg=>G6 (ct hg) a6p J)<|k7 J (λhg=>w7 (ct hg) J J)<|y0 J (y6 J J J (λq=>eqT q))<|S1 1 J<|k7 J (λhg=>om (d:=.L k9.Pv v2.2) J)<|w8 h λv12 hv12 h=>k7 J (λhg=>A5 (f:=k9.Pv) (cs:=k9.Pc v12) (F2 hv12 hg) (ct hg) J a2r M6 J J)<|k7 J (λhg=>A8 (ct hg) b0q J)<|k7 J (λhg=>G6 (ct hg) a6p J)<|k7 J (λhg=>w7 (ct hg) J J)<|y0 J (y6 J J J (λq=>eqT q))<|S1 1 J<|k7 J (λhg=>oL J J J a1I T7 nl J)<|w8 h λv13 hv13 h=>k7 J (λhg=>F1 J a7r (E3 (ct hg) J) (F2 hv13 hg))<|k7 J (λhg=>p6 (cs:=[.I 4,.I 0,.I 0,.I 0]) J d1C d1H J J J)<|k7 J (λhg=>c66 (xs:=A4.Pc v13) (ys:=[.I 4,.I 0,.I 0,.I 0]) d1E (ct hg) (ct hg) J)<|y0 J (y6 J J J (λq=>eqT q))<|S1 1 J<|k7 J (λhg=>oL J J J a1I T7 nl J)<|w8 h λv14 hv14 h=>k7 J (λhg=>F1 J a7q (E3 (ct hg) J) (F2 hv14 hg))<|y0 J (y6 J J J (λq=>eqT q))<|S1 1 J<|k7 J (λhg=>oL J J J a1I T7 nl J)<|w8 h λv15 hv15 h=>c8d J (λhg=>y8 J b3a (E3 (ct hg) J) (F2 hv15 hg))<|k7 J (λhg=>X0 (f:=iF) (ct hg) j5)<|k7 J (λhg=>w7 (ct hg) J J)<|y0 J (y6 J J J (λq=>eqT q))<|S2 1 J<|b8 ?_;cases h;exact f1

theorem b8P{a0}:PO Tryz.prog 14 [.L (Ls g6.Pv) a0] (a9p a0) λr=>.L (Ls r9.Pv) r:=by
 refine pO Tryz.func14 λr h _ _=>?_;refine S4 1 J<|sR<|y0 J (F9 J a5l a6s)<|S2 1 J ?_;refine jq h (λj47=>St.of [(3,.sl 910003)] [(910003,⟨List.map (Ls r9.Pv) j47,(List.map (Ls r9.Pv) j47).length,true,1,true⟩)]) (λj47 h=>?_) λκ46 h=>?_
 ·refine S4 2 J ?_;refine b8 ?_;cases h;exact f1
 ·refine S4 1 J ?_;refine g5<|lq h (λq=>St.of [(0,.L (Ls g6.Pv) a0),(3,.sl 910003),(4,.I q.1)] [(910003,⟨List.map (Ls r9.Pv) q.2,(List.map (Ls r9.Pv) q.2).length,true,1,true⟩)]) (Wk.trans (G2 (t:=3) (l:=920003) (z:=1) J J) (WP (λl=>if l=910003 then 920003 else l))) λq52 x51 h hx36=>?_
  obtain⟨s49,s50⟩:=q52;refine e6<|S3 2 J<|nL J a2q<|S2 1 J ?_;refine cN h (λhc h=>?_) λhc h=>?_
  ·refine c4 ?_;refine jq h (λj73=>St.of [(0,.L (Ls g6.Pv) a0),(3,.sl 37),(4,.I s49)] [(37,⟨List.map (Ls r9.Pv) j73,s50.length,true,1,true⟩)]) (λj73 h=>?_) λκ72 h=>?_
   ·refine S6 3 J ?_;exact eL h (Wk.trans (n8 _ [37]) (WP (λl=>if l=910003 then 37 else l)))
   ·refine g5 ?_;refine sR<|y0 J (F9 J a6q a2L)<|S2 1 J ?_;refine jq h (λj83=>St.of [(0,.L (Ls g6.Pv) a0),(3,.sl 910003),(4,.I s49),(5,.sl 910005)] [(910005,⟨List.map r9.Pv j83,(List.map r9.Pv j83).length,true,4,true⟩),(910003,⟨List.map (Ls r9.Pv) s50,(List.map (Ls r9.Pv) s50).length,true,1,true⟩)]) (λj83 h=>?_) λκ82 h=>?_
    ·refine S5 2 J ?_;refine T1 (d5B 35 J)<|y0 J (H2 (f:=(Ls r9.Pv)) (l:=[j83]) J a5l a6s c2Q J J nl J J)<|w8 h λv84 hv59 h=>O5 J (J1 (f:=(Ls r9.Pv)) hv59 J J J J J J (.inl ⟨_,J,J⟩) a5l a6s c8q c2Q J (λ_=>J)) J J J<|S2 1 J ?_;exact eJ h W
    ·refine S4 1 J ?_;refine g5<|lq h (λq=>St.of [(0,.L (Ls g6.Pv) a0),(3,.sl 910003),(4,.I s49),(5,.sl 910005),(6,.I q.1)] [(910003,⟨List.map (Ls r9.Pv) s50,(List.map (Ls r9.Pv) s50).length,true,1,true⟩),(910005,⟨List.map r9.Pv q.2,(List.map r9.Pv q.2).length,true,4,true⟩)]) (Wk.trans (G2 (t:=5) (l:=920005) (z:=4) J J) (Wk.trans (n8 _ [910003]) (WP (λl=>if l=910005 then 920005 else l)))) λq89 x88 h hx62=>?_
     obtain⟨s86,s87⟩:=q89;refine e6<|S3 3 J<|iL h J J a2q a8R λv90 hv63 h=>S1 1 J<|nL J a2K<|S2 1 J ?_;refine cN h (λhc h=>?_) λhc h=>?_
     ·refine c4 ?_;refine e6<|g5<|S5 3 J<|y0 J (A5 (f:=(Ls g6.Pv)) (cs:=[.L g6.Pv v90]) hv63 J J a2q a8R J J)<|S1 2 J<|iL h J J a2K a3I λv91 _ h=>S1 1 J<|y0 J (H2 (f:=r9.Pv) (l:=[(⟨v91.Kind,v91.A,v91.B,v91.C⟩:r9)]) J a6q a2L b0u J J nl J J)<|w8 h λv92 hv65 h=>O5 J (J1 (f:=r9.Pv) hv65 J J J J J J (.inl ⟨_,J,J⟩) a6q a2L c8p b0u J (λ_=>J)) J J J<|S2 1 J<|S6 3 J ?_;exact eL h (Wk.trans (n8 _ [910003,33]) (WP (λl=>if l=910005 then 33 else l)))
     ·refine o8 ?_;refine c5<|c5<|l4 ?_;have h:=xL hx62 h;exact eJ h (Wk.trans (n8 _ [910003,910005]) W)
  ·refine o8 ?_;refine c5<|c5<|l4 ?_;have h:=xL hx36 h;exact eJ h (Wk.trans (n8 _ [910003]) W)

theorem b8f{a0}:PO Tryz.prog 55 [r9.Pv a0] (Q3 a0) λr=>.bool r:=by
 refine pO Tryz.func55 λr h _ _=>?_;unfold Q3 at h;refine S4 2 J<|S3 4 J<|k7 J (λhg=>oF J c36 J)<|k7 J (λhg=>oS (ct hg) J J C7 J)<|k7 J (λhg=>w7 (ct hg) J J)<|y0 J (y6 J J J (λq=>eqT q))<|S2 1 J<|b8 ?_;cases h;exact f1

theorem O6{a0 a1 a2 a3}:PO Tryz.prog 100 [.I a0,.I a1,.I a2,.I a3] (a0S a0 a1 a2 a3) λr=>.I r:=by
 refine pO Tryz.func100 λr h _ _=>?_;refine S4 1 J<|e6<|S3 4 J<|k7 J (λhg=>mI J)<|k7 J (λhg=>mI J)<|k7 J (λhg=>w7 (ct hg) (ct hg) J)<|y0 J (B6 J J J (λq=>eqF q))<|yN ?_;refine cN h (λhc h=>?_) λhc h=>?_
 ·refine S4 2 J ?_;refine b8 ?_;cases h;exact f1
 ·refine c4 ?_;refine S4 1 J<|b8 ?_;cases h;exact f1

theorem W3{a0 a1 a2}:PO Tryz.prog 101 [.I a0,.I a1,.I a2] (Y1 a0 a1 a2) λr=>.I r:=by
 refine pO Tryz.func101 λr h _ _=>?_;refine S4 1 J<|e6<|S4 2 J ?_;refine cN h (λhc h=>?_) λhc h=>?_
 ·refine S4 2 J ?_;refine b8 ?_;cases h;exact f1
 ·refine c4 ?_;refine e6<|S4 2 J ?_;refine cN h (λhc h=>?_) λhc h=>?_
  ·refine S4 2 J ?_;refine b8 ?_;cases h;exact f1
  ·refine c4 ?_;refine S4 2 J<|b8 ?_;cases h;exact f1

theorem b1t{a0}:PO Tryz.prog 56 [r9.Pv a0] (a0C a0) λr=>.I r:=by
 refine pO Tryz.func56 λr h _ _=>?_;refine S4 2 J<|S3 2 J<|cA h O6 J J λv1 _ h=>S2 1 J<|S3 2 J<|cA h O6 J J λv2 _ h=>S2 1 J<|e6<|S4 2 J<|g5<|S4 2 J ?_;refine cN h (λhc h=>?_) λhc h=>?_
 ·refine dr [] u5 (by kernel_rfl) (by kernel_rfl) ?_
  refine S7 3 J<|w8 h λv3 hv3 h=>d2 J (F1 J O6 J hv3) J<|S7 2 J<|w8 h λv4 hv4 h=>d2 J (F1 J O6 J hv4) J<|w8 h λv5 hv5 h=>d2 J (F1 J W3 J hv5) J<|S8 1 J<|b8 ?_;cases h;exact f1
 ·refine jq h (λj7=>St.of [(1,.ptr 1 0 0),(3,.I v1),(4,.I v2),(12,.I a0.Kind),(23,.bool j7)] [(1,vR (r9.Pv a0) 4)]) (λj7 h=>?_) λκ6 h=>?_
  ·refine cN h (λhc h=>?_) λhc h=>?_
   ·refine S3 2 J ?_;refine cA h W3 J J λv8 _ h=>S2 1 J<|b8 ?_;cases h;exact f1
   ·refine S4 2 J ?_;refine cN h (λhc h=>?_) λhc h=>?_
    ·refine S4 2 J ?_;refine b8 ?_;cases h;exact f1
    ·refine S4 2 J ?_;refine cN h (λhc h=>?_) λhc h=>?_
     ·refine S3 4 J ?_;refine cA h O6 J J λv9 _ h=>cA h W3 J J λv10 _ h=>S2 1 J<|b8 ?_;cases h;exact f1
     ·refine S4 2 J ?_;refine cN h (λhc h=>?_) λhc h=>?_
      ·refine dr [] u5 (by kernel_rfl) (by kernel_rfl) ?_
       refine S7 3 J<|w8 h λv11 hv10 h=>d2 J (F1 J O6 J hv10) J<|S7 2 J<|w8 h λv12 hv11 h=>d2 J (F1 J O6 J hv11) J<|w8 h λv13 hv12 h=>d2 J (F1 J W3 J hv12) J<|S8 1 J<|b8 ?_;cases h;exact f1
      ·refine S4 2 J ?_;refine cN h (λhc h=>?_) λhc h=>?_
       ·refine dr [] u5 (by kernel_rfl) (by kernel_rfl) ?_
        refine S7 2 J<|w8 h λv14 hv13 h=>d2 J (F1 J O6 J hv13) J<|S7 2 J<|w8 h λv15 hv14 h=>d2 J (F1 J O6 J hv14) J<|S7 2 J<|w8 h λv16 hv15 h=>d2 J (F1 J O6 J hv15) J<|w8 h λv17 hv16 h=>d2 J (F1 J W3 J hv16) J<|S8 1 J<|b8 ?_;cases h;exact f1
       ·refine S4 2 J ?_;refine cN h (λhc h=>?_) λhc h=>?_
        ·refine S3 3 J ?_;refine cA h O6 J J λv18 _ h=>cA h W3 J J λv19 _ h=>S2 1 J<|b8 ?_;cases h;exact f1
        ·refine S4 2 J ?_;refine cN h (λhc h=>?_) λhc h=>?_
         ·refine S3 3 J ?_;refine cA h O6 J J λv20 _ h=>cA h W3 J J λv21 _ h=>S2 1 J<|b8 ?_;cases h;exact f1
         ·refine S4 2 J ?_;refine cN h (λhc h=>?_) λhc h=>?_
          ·refine S4 1 J ?_;refine b8 ?_;cases h;exact f1
          ·refine S4 2 J ?_;refine cN h (λhc h=>?_) λhc h=>?_
           ·refine S3 2 J ?_;refine cA h O6 J J λv22 _ h=>S2 1 J<|b8 ?_;cases h;exact f1
           ·refine c4 ?_;refine S4 1 J<|b8 ?_;cases h;exact f1
  ·refine S4 2 J ?_;refine cN h (λhc h=>?_) λhc h=>?_
   ·refine c4 ?_;exact eJ h W
   ·refine S4 2 J ?_;refine cN h (λhc h=>?_) λhc h=>?_
    ·refine c4 ?_;exact eJ h W
    ·refine S6 2 J ?_;exact eJ h W

theorem b8g{a0}:PO Tryz.prog 20 [.L (Ls r9.Pv) a0] (a51 a0) λr=>.bool r:=by
 refine pO Tryz.func20 λr h _ _=>?_;refine S4 1 J<|e6<|S3 1 J<|nL J a5l<|S2 1 J ?_;refine cN h (λhc h=>?_) λhc h=>?_
 ·refine S4 1 J ?_;refine b8 ?_;cases h;exact f1
 ·refine c4 ?_;refine jq h (λ_=>St.of [] []) (λq21 h=>?_) λκ20 h=>?_
  ·refine S4 1 J ?_;refine b8 ?_;cases h;exact f1
  ·refine S4 1 J ?_;refine g5<|lq h (λs23=>St.of [(0,.L (Ls r9.Pv) a0),(3,.I s23)] []) W λs23 x24 h hx22=>e6<|S3 2 J<|nL J a5l<|S2 1 J ?_;refine cN h (λhc h=>?_) λhc h=>?_
   ·refine c4 ?_;refine jq h (λ_=>St.of [(0,.L (Ls r9.Pv) a0),(3,.I s23)] []) (λq33 h=>?_) λκ32 h=>?_
    ·refine S6 3 J ?_;exact eL h W
    ·refine g5 ?_;refine e6<|S3 2 J<|iL h J J a5l a6s λv34 hv31 h=>S1 1 J<|nL J a6q<|S2 1 J ?_;refine cN h (λhc h=>?_) λhc h=>?_
     ·refine S4 1 J ?_;refine b8 ?_;have h:=xL hx22 h;cases h;exact f1
     ·refine c4 ?_;refine S4 1 J<|g5<|lq h (λs36=>St.of [(0,.L (Ls r9.Pv) a0),(3,.I s23),(4,.I s36)] []) W λs36 x37 h hx34=>e6<|S3 3 J<|y0 J (A5 (f:=(Ls r9.Pv)) (cs:=[.L r9.Pv v34]) hv31 J J a5l a6s J J)<|S1 1 J<|nL J a6q<|S2 1 J ?_;refine cN h (λhc h=>?_) λhc h=>?_
      ·refine c4 ?_;refine e6<|g5<|S3 2 J<|y0 J (A5 (f:=(Ls r9.Pv)) (cs:=[.L r9.Pv v34]) hv31 J J a5l a6s J J)<|S1 2 J<|iL h J J a6q a2L λv38 hv35 h=>S1 1 J<|cA h b8f J J λv39 _ h=>S1 2 J<|k7 J (λhg=>om (d:=.L (Ls r9.Pv) a0) J)<|k7 J (λhg=>mI J)<|k7 J (λhg=>A5 (f:=(Ls r9.Pv)) (cs:=[.L r9.Pv v34]) hv31 (ct hg) (ct hg) a5l a6s J J)<|k7 J (λhg=>G6 (ct hg) c8n J)<|k7 J (λhg=>mI J)<|k7 J (λhg=>A5 (f:=r9.Pv) (cs:=r9.Pc v38) hv35 (ct hg) (ct hg) a6q a2L J J)<|k7 J (λhg=>a8e (ct hg) b3m a2L nl J)<|w8 h λv40 hv37 h=>k7 J (λhg=>F1 J b1t (E3 (ct hg) J) (F2 hv37 hg))<|k7 J (λhg=>w7 (ct hg) J J)<|y0 J (B6 J J J (λq=>eqF q))<|yN ?_;refine cN h (λhc h=>?_) λhc h=>?_
       ·refine S4 1 J ?_;refine b8 ?_;have h:=xL hx34 h;have h:=xL hx22 h;cases h;exact f1
       ·refine c4 ?_;refine S6 3 J ?_;exact eL h W
      ·refine o8 ?_;refine c5<|c5<|l4 ?_;have h:=xL hx34 h;exact eJ h W
   ·refine o8 ?_;refine c5<|c5<|l4 ?_;have h:=xL hx22 h;exact eJ h W

theorem c1T{a0 a1}:PO Tryz.prog 150 [.I a0,.I a1] (b72 a0 a1) λr=>C1.Pv r:=by
 refine pO Tryz.func150 λr h _ _=>?_;refine S4 1 J<|e6<|S3 3 J<|k7 J (λhg=>mI J)<|k7 J (λhg=>w7 (ct hg) J J)<|y0 J (B6 J J J (λq=>eqF q))<|S1 1 J<|k7 J (λhg=>mI J)<|k7 J (λhg=>w7 (ct hg) J J)<|y0 J (B6 J J J (λq=>eqF q))<|S1 1 J<|k7 J (λhg=>mI J)<|k7 J (λhg=>w7 (ct hg) J J)<|y0 J (B6 J J J (λq=>eqF q))<|yN ?_;refine cN h (λhc h=>?_) λhc h=>?_
 ·refine sR ?_;refine y0 J (p6 (cs:=[.nl,.I 0]) J b62 b65 J J J)<|a2p (x':=.agg [.nl,.I 0]) (cl':=true) J J (.inl J) b0r<|yN<|b8 ?_;cases h;exact⟨J,[_],⟨oL J J J b6Y b0r nl J,tr⟩,J,io⟩
 ·refine c4 ?_;refine S3 1 J<|w8 h λv1 hv1 h=>y1 J (b4Q (f:=A9.Pv) hv1 J J J a4M a8S b3s c2F J J J) J<|S1 1 J<|y0 J (p6 (cs:=[.sl 21,.I a1]) J b62 b65 J J J)<|S2 1 J<|b8 ?_;cases h;exact⟨J,[_],⟨oL J J J b6Y b0r nl J,tr⟩,J,io⟩

theorem c1U{a0 a1}:PO Tryz.prog 94 [.I a0,.I a1] (b3K a0 a1) λr=>l7.Pv r:=by
 refine pO Tryz.func94 λr h _ _=>?_;refine S4 1 J<|S3 2 J<|cF h c1T J J λv1 _ h=>S2 2 J<|dr [] u5 (by kernel_rfl) (by kernel_rfl)<|S7 2 J<|d0 J (X0 (f:=A9.Pv) J a4M) J<|w8 h λv2 hv2 h=>d1 J (b4Q (f:=o0.Pv) hv2 J J J M5 N5 b3q c2z J J J) J J J<|S7 2 J<|d7 J (λ_ hN=>p6 (cs:=[.sl 12,.I v1.Last,.I 0]) J c5C c5M J J J) J<|E8 (x':=.agg [.sl 12,.I v1.Last,.I 0]) (cl':=false) J J (.inl J) b64<|O2<|b8 ?_
 cases h;exact⟨J,[_],⟨oL J J J c0U b64 nl J,tr⟩,J,io⟩

theorem c1Y{a0}:PO Tryz.prog 95 [.I a0] (c3C a0) λr=>.L o6.Pv r:=by
 refine pO Tryz.func95 λr h _ _=>?_;refine S4 1 J<|sR<|y0 J (F9 J a4b a4P)<|S2 1 J ?_;refine jq h (λj8=>St.of [(3,.sl 910003)] [(910003,⟨List.map o6.Pv j8,(List.map o6.Pv j8).length,true,3,true⟩)]) (λj8 h=>?_) λκ7 h=>?_
 ·refine S4 2 J ?_;refine b8 ?_;cases h;exact f1
 ·refine S4 1 J ?_;refine g5<|lq h (λq=>St.of [(0,.I a0),(3,.sl 910003),(4,.I q.1)] [(910003,⟨List.map o6.Pv q.2,(List.map o6.Pv q.2).length,true,3,true⟩)]) (Wk.trans (G2 (t:=3) (l:=920003) (z:=3) J J) (WP (λl=>if l=910003 then 920003 else l))) λq13 x12 h hx8=>?_
  obtain⟨s10,s11⟩:=q13;refine e6<|S3 4 J<|k7 J (λhg=>mI J)<|k7 J (λhg=>w7 (ct hg) J J)<|y0 J (y6 J J J (λq=>eqT q))<|yN ?_;refine cN h (λhc h=>?_) λhc h=>?_
  ·refine c4 ?_;refine e6<|g5<|S5 1 J<|y0 J (p6 (cs:=[.I 0,.bool false,.I (-1)]) J c8L b0w J J J)<|y0 J (H2 (f:=o6.Pv) (l:=[(⟨0,false,(-1)⟩:o6)]) J a4b a4P b0w J J nl J J)<|w8 h λv14 hv9 h=>O5 J (J1 (f:=o6.Pv) hv9 J J J J J J (.inl ⟨_,J,J⟩) a4b a4P c2B b0w J (λ_=>J)) J J J<|S2 1 J<|S6 3 J ?_;exact eL h (Wk.trans (n8 _ [18]) (WP (λl=>if l=910003 then 18 else l)))
  ·refine o8 ?_;refine c5<|c5<|l4 ?_;have h:=xL hx8 h;exact eJ h (Wk.trans (n8 _ [910003]) W)

theorem c10{a0}:PO Tryz.prog 96 [.I a0] (b8a a0) λr=>.L l5.Pv r:=by
 refine pO Tryz.func96 λr h _ _=>?_;refine S4 1 J<|e6<|S3 3 J<|k7 J (λhg=>mI J)<|k7 J (λhg=>w7 (ct hg) J J)<|y0 J (B6 J J J (λq=>eqF q))<|yN ?_;refine cN h (λhc h=>?_) λhc h=>?_
 ·refine S4 1 J ?_;refine b8 ?_;cases h;exact f1
 ·refine c4 ?_;refine S3 1 J<|w8 h λv1 hv1 h=>y1 J (b4Q (f:=l5.Pv) hv1 J J J a0M a1K b66 c2C J J J) J<|S2 1 J<|b8 ?_;cases h;exact f1

theorem c11:PO Tryz.prog 97 [] (b8e) λr=>w9.Pv r:=by
 refine pO Tryz.func97 λr h _ _=>?_;unfold b8e at h;refine S4 1 J<|sR<|y0 J (p6 (cs:=[.nl,.I 30]) J c5D c5N J J J)<|a2p (x':=.agg [.nl,.I 30]) (cl':=true) J J (.inl J) b34<|yN<|b8 ?_;cases h;exact⟨J,[_],⟨oL J J J b6Z b34 nl J,tr⟩,J,io⟩

theorem c12{a0 a1 a2}:PO Tryz.prog 44 [.I a0,.I a1,.I a2] (a89 a0 a1 a2) λr=>g7.Pv r:=by
 refine pO Tryz.func44 λr h _ _=>?_;refine S4 1 J<|e6<|S3 3 J<|k7 J (λhg=>mI J)<|k7 J (λhg=>w7 (ct hg) J J)<|y0 J (B6 J J J (λq=>eqF q))<|S1 1 J<|k7 J (λhg=>mI J)<|k7 J (λhg=>w7 (ct hg) J J)<|y0 J (B6 J J J (λq=>eqF q))<|S1 1 J<|k7 J (λhg=>mI J)<|k7 J (λhg=>w7 (ct hg) J J)<|y0 J (B6 J J J (λq=>eqF q))<|S1 1 J<|k7 J (λhg=>mI J)<|k7 J (λhg=>w7 (ct hg) J J)<|y0 J (B6 J J J (λq=>eqF q))<|S1 1 J<|k7 J (λhg=>mI J)<|k7 J (λhg=>w7 (ct hg) J J)<|y0 J (B6 J J J (λq=>eqF q))<|yN ?_;refine cN h (λhc h=>?_) λhc h=>?_
 ·refine sR ?_;refine y0 J (p6 (cs:=[.nl,.I 0,.I 0,.nl,.nl,.nl,.nl,.I 0]) J c0X c02 J J J)<|a2p (x':=.agg [.nl,.I 0,.I 0,.nl,.nl,.nl,.nl,.I 0]) (cl':=true) J J (.inl J) a9T<|yN<|b8 ?_;cases h;exact⟨J,[_],⟨oL J J J b60 a9T nl J,tr⟩,J,io⟩
 ·refine c4 ?_;refine dr [] u5 (by kernel_rfl) (by kernel_rfl)<|S7 2 J<|w8 h λv1 hv1 h=>d2f J (y8 J c1U J hv1) J<|w8 h λv2 hv2 h=>d1 J (b4Q (f:=iF) hv2 J J J j5 o5 A3 K1 J J J) J J J<|w8 h λv3 hv3 h=>d2f J (y8 J c1Y J hv3) J<|S7 1 J<|w8 h λv4 hv4 h=>d2f J (y8 J c10 J hv4) J<|w8 h λv5 hv5 h=>d2f J (y8 J c11 J hv5) J<|d7 J (λ_ hN=>p6 (cs:=[.L o0.Pv v1.a8,.I v1.Last,.I v1.Serial,.sl 33,.L o6.Pv v3,.L l5.Pv v4,.L s7.Pv v5.L,.I v5.Cap]) J c0X c02 J J J) J<|E8 (x':=.agg [.L o0.Pv v1.a8,.I v1.Last,.I v1.Serial,.sl 33,.L o6.Pv v3,.L l5.Pv v4,.L s7.Pv v5.L,.I v5.Cap]) (cl':=false) J J (.inr J) a9T<|O2<|b8 ?_
  cases h;exact⟨J,[_],⟨oL J J J b60 a9T nl J,tr⟩,J,io⟩

theorem c14{a0 a1 a2 a3}:PO Tryz.prog 13 [.I a0,.I a1,.I a2,.L (Ls r9.Pv) a3] (b1u a0 a1 a2 a3) λr=>.tup [A2.Pv r.1,.I r.2]:=by
 refine pO Tryz.func13 λr h _ _=>?_;refine S4 2 J<|e6<|S3 1 J<|cA h b8g J J λv1 _ h=>S2 1 J ?_;refine cN h (λhc h=>?_) λhc h=>?_
 ·refine sR ?_;refine y0 J (p6 (cs:=[.nl,.I 0,.I 0,.nl,.nl,.nl,.nl,.I 0,.nl]) J c0Y c03 J J J)<|a2p (x':=.agg [.nl,.I 0,.I 0,.nl,.nl,.nl,.nl,.I 0,.nl]) (cl':=true) J J (.inl J) b35<|S2 1 J<|b8 ?_;cases h;exact⟨J,[_,_],⟨oL J J J c0V b35 nl J,⟨J,tr⟩⟩,J,io⟩
 ·refine c4 ?_;refine S3 3 J<|cF h c12 J J λv2 _ h=>S2 2 J<|e6<|S3 2 J<|nL J j5<|S2 1 J ?_;refine cN h (λhc h=>?_) λhc h=>?_
  ·refine sR ?_;refine y0 J (p6 (cs:=[.nl,.I 0,.I 0,.nl,.nl,.nl,.nl,.I 0,.nl]) J c0Y c03 J J J)<|a2p (x':=.agg [.nl,.I 0,.I 0,.nl,.nl,.nl,.nl,.I 0,.nl]) (cl':=true) J J (.inl J) b35<|S2 1 J<|b8 ?_;cases h;exact⟨J,[_,_],⟨oL J J J c0V b35 nl J,⟨J,tr⟩⟩,J,io⟩
  ·refine c4 ?_;refine S3 2 J<|y0 J (p6 (cs:=[.L o0.Pv v2.S.a8,.I v2.S.Last,.I v2.S.Serial,.L iF v2.Roots,.L o6.Pv v2.a8,.L l5.Pv v2.T,.L s7.Pv v2.Q.L,.I v2.Q.Cap,.L (Ls r9.Pv) a3]) J c0Y c03 J J J)<|S2 2 J<|b8 ?_;cases h;exact⟨J,[_,_],⟨oL J J J c0V b35 nl J,⟨J,tr⟩⟩,J,io⟩

theorem b8Q{a0}:PO Tryz.prog 45 [a7.Pv a0] (a9q a0) λr=>.bool r:=by
 refine pO Tryz.func45 λr h _ _=>?_;refine S4 2 J ?_;refine jq h (λ_=>St.of [(1,.ptr 1 0 0)] [(1,vR (a7.Pv a0) 3)]) (λq6 h=>?_) λκ5 h=>?_
 ·refine S3 3 J ?_;refine nL J M4<|S2 2 J<|b8 ?_;cases h;exact f1
 ·refine S4 1 J ?_;refine g5<|lq h (λs8=>St.of [(1,.ptr 1 0 0),(3,.I s8)] [(1,vR (a7.Pv a0) 3)]) W λs8 x9 h hx8=>e6<|S3 4 J<|nL J M4<|S1 2 J<|k7 J (λhg=>mI J)<|k7 J (λhg=>w7 (ct hg) J J)<|y0 J (y6 J J J (λq=>eqT q))<|yN ?_;refine cN h (λhc h=>?_) λhc h=>?_
  ·refine c4 ?_;refine e6<|g5<|S3 4 J<|iL h J J M4 P8 λv10 _ h=>S1 3 J<|nL J j5<|S2 1 J ?_;refine cN h (λhc h=>?_) λhc h=>?_
   ·refine S4 1 J ?_;refine b8 ?_;have h:=xL hx8 h;cases h;exact f1
   ·refine c4 ?_;refine S6 3 J ?_;exact eL h W
  ·refine o8 ?_;refine c5<|c5<|l4 ?_;have h:=xL hx8 h;exact eJ h W

theorem b5r{a0}:PO Tryz.prog 15 [b6.Pv a0] (a7l a0) λr=>.bool r:=by
 refine pO Tryz.func15 λr h _ _=>?_;refine S4 2 J<|S3 2 J<|cA h b8Q J J λv1 _ h=>S1 1 J<|k7 J (λhg=>oF J b31 J)<|k7 J (λhg=>oS (ct hg) J J a7O J)<|k7 J (λhg=>X0 (f:=iF) (ct hg) j5)<|k7 J (λhg=>w7 (ct hg) J J)<|y0 J (y6 J J J (λq=>eqT q))<|S1 1 J<|k7 J (λhg=>oF J b86 J)<|k7 J (λhg=>oS (ct hg) J J c5n J)<|k7 J (λhg=>X0 (f:=c9.Pv) (ct hg) R3)<|k7 J (λhg=>w7 (ct hg) J J)<|y0 J (y6 J J J (λq=>eqT q))<|S1 1 J<|k7 J (λhg=>oF J c5u J)<|k7 J (λhg=>oS (ct hg) J J b3Y J)<|k7 J (λhg=>X0 (f:=b9.Pv) (ct hg) Y5)<|k7 J (λhg=>w7 (ct hg) J J)<|y0 J (y6 J J J (λq=>eqT q))<|S1 1 J<|k7 J (λhg=>oF J b87 J)<|k7 J (λhg=>oF (ct hg) c5t J)<|k7 J (λhg=>oS (ct hg) J J d1w J)<|k7 J (λhg=>X0 (f:=g9.Pv) (ct hg) a4a)<|k7 J (λhg=>w7 (ct hg) J J)<|y0 J (y6 J J J (λq=>eqT q))<|S2 1 J<|b8 ?_;cases h;exact f1

theorem c2q{a0}:PO Tryz.prog 99 [m7.Pv a0] (b3W a0) λr=>C5.Pv r:=by
 refine pO Tryz.func99 λr h _ _=>?_;unfold b3W at h;refine S4 2 J<|S3 12 J<|y0 J (p6 (cs:=[.I a0.Serial,.I a0.Strong,.I a0.Weak,.I a0.Prog,.bool a0.Started,.L iF a0.Fields]) J c5E c5P J J J)<|S2 1 J<|b8 ?_;cases h;exact⟨J,[_],⟨oL J J J b30 a9U nl J,tr⟩,J,io⟩

theorem c2p{a0}:PO Tryz.prog 50 [a7.Pv a0] (b3V a0) λr=>l7.Pv r:=by
 refine pO Tryz.func50 λr h _ _=>?_;refine S4 2 J<|sR<|y0 J (F9 J M5 N5)<|S2 1 J ?_;refine jq h (λj10=>St.of [(1,.ptr 1 0 0),(2,.ptr 2 0 0),(3,.sl 910003)] [(910003,⟨List.map o0.Pv j10,(List.map o0.Pv j10).length,true,8,true⟩),(2,vR (.agg [.nl,.I 0,.I 0]) 3),(1,vR (a7.Pv a0) 3)]) (λj10 h=>?_) λκ9 h=>?_
 ·refine S3 6 J ?_;refine y0 J (p6 (cs:=[.sl 910003,.I a0.S.Last,.I a0.Serial]) J c5C c5M J J J)<|S2 1 J<|b8 ?_;cases h;exact⟨J,[_],⟨oL J J J c0U b64 nl J,tr⟩,J,io⟩
 ·refine S4 1 J ?_;refine g5<|lq h (λq=>St.of [(1,.ptr 1 0 0),(2,.ptr 2 0 0),(3,.sl 910003),(4,.I q.1)] [(2,vR (.agg [.nl,.I 0,.I 0]) 3),(1,vR (a7.Pv a0) 3),(910003,⟨List.map o0.Pv q.2,(List.map o0.Pv q.2).length,true,8,true⟩)]) (Wk.trans (G2 (t:=3) (l:=920003) (z:=8) J J) (WP (λl=>if l=910003 then 920003 else l))) λq15 x14 h hx10=>?_
  obtain⟨s12,s13⟩:=q15;refine e6<|S3 4 J<|nL J M4<|S2 1 J ?_;refine cN h (λhc h=>?_) λhc h=>?_
  ·refine c4 ?_;refine e6<|g5<|S3 4 J<|iL h J J M4 P8 λv16 _ h=>S2 3 J<|b0e [] u5 (by kernel_rfl) (by kernel_rfl)<|S7 7 J<|w8 h λv17 hv12 h=>d2f J (y8 J c2q J hv12) J<|d7 J (λ_ hN=>p6 (cs:=[.I v16.State,.I v16.Gen,.I v17.Serial,.I v17.Strong,.I v17.Weak,.I v17.Prog,.bool v17.Started,.L iF v17.Fields]) J c8G b3q J J J) J<|d1n J (H2 (f:=o0.Pv) (l:=[(⟨v16.State,v16.Gen,v17⟩:o0)]) J M5 N5 b3q J J nl J J) J<|w8 h λv18 hv13 h=>d3a J (J1 (f:=o0.Pv) hv13 J J J J J J (.inl ⟨_,J,J⟩) M5 N5 c2z b3q J (λ_=>J)) J J J J J<|S8 1 J<|S6 3 J ?_
   exact eL h (Wk.trans (n8 _ [31]) (WP (λl=>if l=910003 then 31 else l)))
  ·refine o8 ?_;refine c5<|c5<|l4 ?_;have h:=xL hx10 h;exact eJ h (Wk.trans (n8 _ [910003]) W)

theorem b8O{a0}:PO Tryz.prog 51 [.L c9.Pv a0] (a9o a0) λr=>.L o6.Pv r:=by
 refine pO Tryz.func51 λr h _ _=>?_;refine S4 1 J<|sR<|y0 J (F9 J a4b a4P)<|S2 1 J ?_;refine jq h (λj9=>St.of [(3,.sl 910003)] [(910003,⟨List.map o6.Pv j9,(List.map o6.Pv j9).length,true,3,true⟩)]) (λj9 h=>?_) λκ8 h=>?_
 ·refine S4 2 J ?_;refine b8 ?_;cases h;exact f1
 ·refine S4 1 J ?_;refine g5<|lq h (λq=>St.of [(0,.L c9.Pv a0),(3,.sl 910003),(4,.I q.1)] [(910003,⟨List.map o6.Pv q.2,(List.map o6.Pv q.2).length,true,3,true⟩)]) (Wk.trans (G2 (t:=3) (l:=920003) (z:=3) J J) (WP (λl=>if l=910003 then 920003 else l))) λq14 x13 h hx9=>?_
  obtain⟨s11,s12⟩:=q14;refine e6<|S3 2 J<|nL J R3<|S2 1 J ?_;refine cN h (λhc h=>?_) λhc h=>?_
  ·refine c4 ?_;refine e6<|g5<|S5 3 J<|iL h J J R3 V7 λv15 _ h=>S1 1 J<|y0 J (H2 (f:=o6.Pv) (l:=[(⟨v15.Target,v15.Intact,v15.Call⟩:o6)]) J a4b a4P b0w J J nl J J)<|w8 h λv16 hv11 h=>O5 J (J1 (f:=o6.Pv) hv11 J J J J J J (.inl ⟨_,J,J⟩) a4b a4P c2B b0w J (λ_=>J)) J J J<|S2 1 J<|S6 3 J ?_;exact eL h (Wk.trans (n8 _ [18]) (WP (λl=>if l=910003 then 18 else l)))
  ·refine o8 ?_;refine c5<|c5<|l4 ?_;have h:=xL hx9 h;exact eJ h (Wk.trans (n8 _ [910003]) W)

theorem c2r{a0}:PO Tryz.prog 52 [.L b9.Pv a0] (b3X a0) λr=>.L l5.Pv r:=by
 refine pO Tryz.func52 λr h _ _=>?_;refine S4 1 J<|sR<|y0 J (F9 J a0M a1K)<|S2 1 J ?_;refine jq h (λj9=>St.of [(3,.sl 910003)] [(910003,⟨List.map l5.Pv j9,(List.map l5.Pv j9).length,true,3,true⟩)]) (λj9 h=>?_) λκ8 h=>?_
 ·refine S4 2 J ?_;refine b8 ?_;cases h;exact f1
 ·refine S4 1 J ?_;refine g5<|lq h (λq=>St.of [(0,.L b9.Pv a0),(3,.sl 910003),(4,.I q.1)] [(910003,⟨List.map l5.Pv q.2,(List.map l5.Pv q.2).length,true,3,true⟩)]) (Wk.trans (G2 (t:=3) (l:=920003) (z:=3) J J) (WP (λl=>if l=910003 then 920003 else l))) λq14 x13 h hx9=>?_
  obtain⟨s11,s12⟩:=q14;refine e6<|S3 2 J<|nL J Y5<|S2 1 J ?_;refine cN h (λhc h=>?_) λhc h=>?_
  ·refine c4 ?_;refine e6<|g5<|S5 3 J<|iL h J J Y5 a0t λv15 _ h=>S1 1 J<|y0 J (H2 (f:=l5.Pv) (l:=[(⟨v15.State,v15.Key,v15.Val⟩:l5)]) J a0M a1K b66 J J nl J J)<|w8 h λv16 hv11 h=>O5 J (J1 (f:=l5.Pv) hv11 J J J J J J (.inl ⟨_,J,J⟩) a0M a1K c2C b66 J (λ_=>J)) J J J<|S2 1 J<|S6 3 J ?_;exact eL h (Wk.trans (n8 _ [18]) (WP (λl=>if l=910003 then 18 else l)))
  ·refine o8 ?_;refine c5<|c5<|l4 ?_;have h:=xL hx9 h;exact eJ h (Wk.trans (n8 _ [910003]) W)

theorem b8R{a0}:PO Tryz.prog 53 [c8.Pv a0] (a9r a0) λr=>w9.Pv r:=by
 refine pO Tryz.func53 λr h _ _=>?_;refine S4 2 J<|sR<|y0 J (F9 J a7Q b0s)<|S2 1 J ?_;refine jq h (λj9=>St.of [(1,.ptr 1 0 0),(2,.ptr 2 0 0),(3,.sl 910003)] [(910003,⟨List.map s7.Pv j9,(List.map s7.Pv j9).length,true,3,true⟩),(2,vR (.agg [.nl,.I 0]) 2),(1,vR (c8.Pv a0) 2)]) (λj9 h=>?_) λκ8 h=>?_
 ·refine S3 3 J ?_;refine y0 J (p6 (cs:=[.sl 910003,.I a0.Cap]) J c5D c5N J J J)<|S2 1 J<|b8 ?_;cases h;exact⟨J,[_],⟨oL J J J b6Z b34 nl J,tr⟩,J,io⟩
 ·refine S4 1 J ?_;refine g5<|lq h (λq=>St.of [(1,.ptr 1 0 0),(2,.ptr 2 0 0),(3,.sl 910003),(4,.I q.1)] [(2,vR (.agg [.nl,.I 0]) 2),(1,vR (c8.Pv a0) 2),(910003,⟨List.map s7.Pv q.2,(List.map s7.Pv q.2).length,true,3,true⟩)]) (Wk.trans (G2 (t:=3) (l:=920003) (z:=3) J J) (WP (λl=>if l=910003 then 920003 else l))) λq14 x13 h hx9=>?_
  obtain⟨s11,s12⟩:=q14;refine e6<|S3 3 J<|nL J a4a<|S2 1 J ?_;refine cN h (λhc h=>?_) λhc h=>?_
  ·refine c4 ?_;refine e6<|g5<|S5 4 J<|iL h J J a4a K2 λv15 _ h=>S1 1 J<|y0 J (H2 (f:=s7.Pv) (l:=[(⟨v15.Kind,v15.At,v15.Prog⟩:s7)]) J a7Q b0s c2U J J nl J J)<|w8 h λv16 hv11 h=>O5 J (J1 (f:=s7.Pv) hv11 J J J J J J (.inl ⟨_,J,J⟩) a7Q b0s c8r c2U J (λ_=>J)) J J J<|S2 1 J<|S6 3 J ?_;exact eL h (Wk.trans (n8 _ [20]) (WP (λl=>if l=910003 then 20 else l)))
  ·refine o8 ?_;refine c5<|c5<|l4 ?_;have h:=xL hx9 h;exact eJ h (Wk.trans (n8 _ [910003]) W)

theorem b22{a0}:PO Tryz.prog 17 [b6.Pv a0] (a3m a0) λr=>g7.Pv r:=by
 refine pO Tryz.func17 λr h _ _=>?_;unfold a3m at h;refine S4 2 J<|dr [] u5 (by kernel_rfl) (by kernel_rfl)<|S7 2 J<|w8 h λv1 hv1 h=>d2f J (y8 J c2p J hv1) J<|S7 4 J<|w8 h λv2 hv2 h=>d2f J (y8 J b8O J hv2) J<|S7 2 J<|w8 h λv3 hv3 h=>d2f J (y8 J c2r J hv3) J<|S7 2 J<|w8 h λv4 hv4 h=>d2f J (y8 J b8R J hv4) J<|d7 J (λ_ hN=>p6 (cs:=[.L o0.Pv v1.a8,.I v1.Last,.I v1.Serial,.L iF a0.Roots,.L o6.Pv v2,.L l5.Pv v3,.L s7.Pv v4.L,.I v4.Cap]) J c0X c02 J J J) J<|E8 (x':=.agg [.L o0.Pv v1.a8,.I v1.Last,.I v1.Serial,.L iF a0.Roots,.L o6.Pv v2,.L l5.Pv v3,.L s7.Pv v4.L,.I v4.Cap]) (cl':=true) J J (.inr J) a9T<|O2<|b8 ?_
 cases h;exact⟨J,[_],⟨oL J J J b60 a9T nl J,tr⟩,J,io⟩

theorem a5a{a0 a1}:PO Tryz.prog 26 [.L iF a0,.L iF a1] (a15 a0 a1) λr=>.bool r:=by
 refine pO Tryz.func26 λr h _ _=>?_;refine S4 1 J<|e6<|S3 1 J<|nL J j5<|S1 1 J<|nL J j5<|S2 1 J ?_;refine cN h (λhc h=>?_) λhc h=>?_
 ·refine S4 1 J ?_;refine b8 ?_;cases h;exact f1
 ·refine c4 ?_;refine jq h (λ_=>St.of [] []) (λq7 h=>?_) λκ6 h=>?_
  ·refine S4 1 J ?_;refine b8 ?_;cases h;exact f1
  ·refine S4 1 J ?_;refine g5<|lq h (λs9=>St.of [(0,.L iF a0),(1,.L iF a1),(5,.I s9)] []) W λs9 x10 h hx9=>e6<|S3 2 J<|nL J j5<|S2 1 J ?_;refine cN h (λhc h=>?_) λhc h=>?_
   ·refine c4 ?_;refine e6<|g5<|dr [] u5 (by kernel_rfl) (by kernel_rfl)<|S7 2 J<|w8 h λv11 hv10 h=>d0 J (A5 (f:=iF) (cs:=[.I v11]) hv10 J J j5 o5 J J) J<|S7 3 J<|w8 h λv12 hv11 h=>d0 J (A5 (f:=iF) (cs:=[.I v12]) hv11 J J j5 o5 J J) J<|S8 2 J ?_
    refine cN h (λhc h=>?_) λhc h=>?_
    ·refine S4 1 J ?_;refine b8 ?_;have h:=xL hx9 h;cases h;exact f1
    ·refine c4 ?_;refine S6 3 J ?_;exact eL h W
   ·refine o8 ?_;refine c5<|c5<|l4 ?_;have h:=xL hx9 h;exact eJ h W

end Go.Proofs.YtjlokngooekbcaaGreat.Ok
