/-
 The functions of the program do as the plain functions do.
-/
import Derived.Test.YtjpgbnlcefhaiaaGreatW24aOk1
set_option linter.unusedVariables false
set_option linter.unusedSimpArgs false
set_option linter.unusedSectionVars false
namespace Go.Proofs.YtjpgbnlcefhaiaaGreat.Ok
open Go Go.Pw Go.Sh Go.Proofs
set_option maxRecDepth 100000
set_option maxHeartbeats 4000000
theorem a7F{a0 a1}:PO Tryz.prog 46 [b6.Pv a0,.L iF a1] (Z0 a0 a1) λr=>b6.Pv r:=by
 refine pO Tryz.func46 λr h _ _=>?_;refine S4 2 J<|S3 2 J<|cF h a8A J J λv1 _ h=>S2 1 J<|S3 2 J<|cF h b0y J J λv2 _ h=>S2 1 J<|S4 1 J<|S4 2 J ?_;refine jq h (λj13=>St.of [(2,.ptr 2 0 0),(4,.ptr 4 0 0),(5,.L iF v1),(6,.ptr 6 0 0),(7,.fn (.func 86) [.ptr 6 0 0])] [(6,vS (.sl 910506) 1),(910506,⟨List.map iF j13,(List.map iF j13).length,true,1,true⟩),(4,vR (.agg [.nl,.I 0,.I 0,.nl,.nl,.nl,.nl,.I 0]) 8),(2,vR (b6.Pv v2) 8)]) (λj13 h=>?_) λκ12 h=>?_
 ·refine S3 3 J ?_;refine cF h b0U J J λv14 _ h=>S2 5 J<|S3 2 J<|P8 (WPE (λl=>if l=2025 then 6 else if l=2026 then 4 else if l=2027 then 2 else if l=2028 then 910506 else l) [(2,.ptr 2027 0 0),(4,.ptr 2026 0 0),(5,.L iF v1),(6,.ptr 2025 0 0),(12,.L b8.Pv v14.1),(51,.fn (.func 86) [.ptr 2025 0 0]),(52,.L iF v14.2)] [(2025,vS (.sl 2028) 1),(2028,⟨List.map iF j13,(List.map iF j13).length,true,1,true⟩),(2026,vR (.agg [.nl,.I 0,.I 0,.nl,.nl,.nl,.nl,.I 0]) 8),(2027,vR (b6.Pv v2) 8)]) ?_
  refine b5o (fn:=Tryz.f86) (N1:=6) J J Tryz.func86 J c2n J J nl (λe14 o15=>?_);refine S5 2 J<|A2 h λv15 hv16 h=>a10 J (a1C (f:=iF) hv16 J J J J J J (.inl ⟨_,J,J⟩) l5 o9 Y3 E0 J (λ_=>J)) J J J<|S2 1 J ?_;refine⟨J,[],tr,?_⟩;refine P8 (WPE (λl=>if l=2029 then 5 else l) [(2,.ptr 2027 0 0),(4,.ptr 2026 0 0),(5,.L iF v1),(6,.ptr 2025 0 0),(12,.L b8.Pv v14.1)] [(2025,vS (.sl 2029) 1),(2029,⟨List.map iF v15,j13.length,true,1,true⟩),(2026,vR (.agg [.nl,.I 0,.I 0,.nl,.nl,.nl,.nl,.I 0]) 8),(2027,vR (b6.Pv v2) 8)])<|yN<|S4 3 J ?_
  refine jq h (λj24=>St.of [(2,.ptr 2027 0 0),(4,.ptr 2026 0 0),(6,.ptr 2025 0 0)] [(2025,vS (.sl 2029) 1),(2029,⟨List.map iF v15,j13.length,true,1,true⟩),(2026,vR (.agg [.nl,.I 0,.I 0,.nl,.nl,.nl,.nl,.I 0]) 8),(2027,vR (b6.Pv j24) 8)]) (λj24 h=>?_) λκ23 h=>?_
  ·refine jq h (λj33=>St.of [(2,.ptr 2027 0 0),(4,.ptr 2026 0 0)] [(2026,vR (.agg [.nl,.I 0,.I 0,.nl,.nl,.nl,.nl,.I 0]) 8),(2027,vR (b6.Pv j33) 8)]) (λj33 h=>?_) λκ32 h=>?_
   ·refine S4 2 J ?_;refine b9 ?_;cases h;exact⟨J,[_],⟨oL J J J o7 n8 nl J,tr⟩,J,io⟩
   ·refine S3 1 J ?_;refine y0 J (c3U (f:=iF) J J J l5)<|S2 1 J<|j5<|lq h (λq=>St.of [(2,.ptr 2027 0 0),(4,.ptr 2026 0 0),(66,.sl 2029),(67,.I (v15.length:Int)),(68,.I q.1)] [(2029,⟨List.map iF v15,j13.length,true,1,true⟩),(2026,vR (.agg [.nl,.I 0,.I 0,.nl,.nl,.nl,.nl,.I 0]) 8),(2027,vR (b6.Pv q.2) 8)]) W λq38 x37 h hx31=>?_;obtain⟨s35,s36⟩:=q38;refine S4 1 J<|g7 ?_;refine cN h (λhc h=>?_) λhc h=>?_
    ·refine c5 ?_;refine g7<|j5<|sR<|A2 h λv39 hv32 h=>y0 J (a8R (f:=iF) hv32 J J J J l5 o9 J)<|y0 J (c3T (f:=iF) hv32 J J J G5 J)<|S2 1 J<|S5 2 J<|cF h U5 J J λv40 _ h=>S2 1 J<|S6 2 J ?_;exact eL h W
    ·refine u4 ?_;refine g5<|g5<|n0 ?_;have h:=xL hx31 h;exact eJ h W
  ·refine S3 1 J ?_;refine nL J l5<|S2 1 J<|j5<|lq h (λq=>St.of [(2,.ptr 2027 0 0),(4,.ptr 2026 0 0),(6,.ptr 2025 0 0),(56,.L iF v1),(57,.I (v1.length:Int)),(58,.I q.1)] [(2025,vS (.sl 2029) 1),(2029,⟨List.map iF v15,j13.length,true,1,true⟩),(2026,vR (.agg [.nl,.I 0,.I 0,.nl,.nl,.nl,.nl,.I 0]) 8),(2027,vR (b6.Pv q.2) 8)]) W λq45 x44 h hx36=>?_;obtain⟨s42,s43⟩:=q45;refine S4 1 J<|g7 ?_;refine cN h (λhc h=>?_) λhc h=>?_
   ·refine c5 ?_;refine g7<|j5<|sR<|iL h J J l5 o9 λv46 _ h=>S2 2 J<|S5 2 J<|cF h b1r J J λv47 _ h=>S2 1 J<|S6 2 J ?_;exact eL h W
   ·refine u4 ?_;refine g5<|g5<|n0 ?_;have h:=xL hx36 h;exact eJ h W
 ·refine S3 1 J ?_;refine nL J l5<|S2 1 J<|j5<|lq h (λq=>St.of [(2,.ptr 2 0 0),(4,.ptr 4 0 0),(5,.L iF v1),(6,.ptr 6 0 0),(7,.fn (.func 86) [.ptr 6 0 0]),(25,.L iF v1),(26,.I (v1.length:Int)),(27,.I q.1)] [(6,vS (.sl 910506) 1),(4,vR (.agg [.nl,.I 0,.I 0,.nl,.nl,.nl,.nl,.I 0]) 8),(2,vR (b6.Pv v2) 8),(910506,⟨List.map iF q.2,(List.map iF q.2).length,true,1,true⟩)]) (Wk.trans (b2E (l0:=6) (j:=0) (l:=920506) (z:=1) J J J J J) (WP (λl=>if l=910506 then 920506 else l))) λq52 x51 h hx41=>?_
  obtain⟨s49,s50⟩:=q52;refine S4 1 J<|g7 ?_;refine cN h (λhc h=>?_) λhc h=>?_
  ·refine c5 ?_;refine g7<|j5<|sR<|iL h J J l5 o9 λv53 _ h=>S2 2 J<|S3 3 J<|cF h A0 J J λv54 _ h=>S2 6 J<|S5 3 J<|cF h b0H J J λv55 _ h=>P8 (WPE (λl=>if l=2049 then 6 else if l=2050 then 4 else if l=2051 then 2 else if l=2052 then 910506 else l) [(2,.ptr 2051 0 0),(4,.ptr 2050 0 0),(5,.L iF v1),(6,.ptr 2049 0 0),(7,.fn (.func 86) [.ptr 2049 0 0]),(25,.L iF v1),(26,.I (v1.length:Int)),(27,.I s49),(38,.fn (.func 86) [.ptr 2049 0 0]),(41,.L iF v55)] [(2049,vS (.sl 2052) 1),(2052,⟨List.map iF s50,(List.map iF s50).length,true,1,true⟩),(2050,vR (.agg [.nl,.I 0,.I 0,.nl,.nl,.nl,.nl,.I 0]) 8),(2051,vR (b6.Pv v2) 8)]) ?_
   refine b5o (fn:=Tryz.f86) (N1:=6) J J Tryz.func86 J c2n J J nl (λe45 o46=>?_);refine S5 2 J<|A2 h λv56 hv47 h=>a10 J (a1C (f:=iF) hv47 J J J J J J (.inl ⟨_,J,J⟩) l5 o9 Y3 E0 J (λ_=>J)) J J J<|S2 1 J ?_;refine⟨J,[],tr,?_⟩;refine P8 (WPE (λl=>if l=2053 then 5 else l) [(2,.ptr 2051 0 0),(4,.ptr 2050 0 0),(5,.L iF v1),(6,.ptr 2049 0 0),(7,.fn (.func 86) [.ptr 2049 0 0]),(25,.L iF v1),(26,.I (v1.length:Int)),(27,.I s49)] [(2049,vS (.sl 2053) 1),(2053,⟨List.map iF v56,s50.length,true,1,true⟩),(2050,vR (.agg [.nl,.I 0,.I 0,.nl,.nl,.nl,.nl,.I 0]) 8),(2051,vR (b6.Pv v2) 8)])<|yN<|S6 2 J ?_
   exact eL h (Wk.trans (p9 _ [2053]) (WP (λl=>if l=2 then 2051 else if l=4 then 2050 else if l=6 then 2049 else if l=910506 then 2053 else l)))
  ·refine u4 ?_;refine g5<|g5<|n0 ?_;have h:=xL hx41 h;exact eJ h (Wk.trans (p9 _ [910506]) W)

theorem a0k{a0}:PO Tryz.prog 42 [b6.Pv a0] (L9 a0) λr=>b6.Pv r:=by
 refine pO Tryz.func42 λr h _ _=>?_;refine S4 2 J<|lqS h (λs2=>St.of [(1,.ptr 1 0 0),(2,.ptr 2 0 0)] [(2,vR (.agg [.nl,.I 0,.I 0,.nl,.nl,.nl,.nl,.I 0]) 8),(1,vR (b6.Pv s2) 8)]) W λs2 x3 h hx3=>S3 1 J<|cF h b3O J J λv4 _ h=>S2 1 J<|g7<|S3 1 J<|nL J l5<|S2 1 J ?_;refine cN h (λhc h=>?_) λhc h=>?_
 ·refine S4 2 J ?_;refine b9 ?_;have h:=xL hx3 h;cases h;exact⟨J,[_],⟨oL J J J o7 n8 nl J,tr⟩,J,io⟩
 ·refine c5 ?_;refine g7<|dr [] u5 (by kernel_rfl) (by kernel_rfl)<|S7 3 J<|A2 h λv5 hv5 h=>d0 J (J2 (f:=iF) (cs:=[.I v5]) hv5 J J l5 o9 J J) J<|S7 1 J<|A2 h λv6 hv6 h=>d2f J (y8 J A0 J hv6) J<|S7 4 J<|C6 (x':=l6.Pv v6.1) (cl':=true) J J (.inr J) a6X<|S8 1 J<|S3 1 J<|cA h a4v J J λv7 _ h=>yN ?_
  refine cN h (λhc h=>?_) λhc h=>?_
  ·refine b6j [] u5 (by kernel_rfl) (by kernel_rfl) ?_
   refine S7 2 J<|d0 J (J2 (f:=iF) (cs:=[.I v5]) hv5 J J l5 o9 J J) J<|S7 1 J<|A2 h λv8 hv8 h=>d2f J (y8 J a5q J hv8) J<|C6 (x':=b6.Pv v8) (cl':=true) J J (.inr J) n8<|T0<|c0M ?_;exact eS h W
  ·refine b6j [] u5 (by kernel_rfl) (by kernel_rfl) ?_
   refine S7 2 J<|A2 h λv9 hv9 h=>d0 J (c9a (f:=iF) hv9 J J ⟨_,J⟩ l5 o9 (λ_=>J)) J<|A2 h λv10 hv10 h=>d2f J (y8 J a7F J hv10) J<|C6 (x':=b6.Pv v10) (cl':=true) J J (.inr J) n8<|T0<|c0M ?_;exact eS h W

theorem a4o{a0 a1}:PO Tryz.prog 34 [b6.Pv a0,.I a1] (Y8 a0 a1) λr=>.I r:=by
 refine pO Tryz.func34 λr h _ _=>?_;refine S4 2 J<|S3 3 J<|cF h A0 J J λv1 _ h=>S2 6 J<|S4 3 J<|b9 ?_;cases h;exact f1

theorem a4L{a0 a1}:PO Tryz.prog 77 [b6.Pv a0,.I a1] (a0Z a0 a1) λr=>.I r:=by
 refine pO Tryz.func77 λr h _ _=>?_;unfold a0Z at h;refine S4 2 J<|dr [] u5 (by kernel_rfl) (by kernel_rfl)<|S7 3 J<|A2 h λv1 hv1 h=>d2 J (P0 J K4 J hv1) J<|A2 h λv2 hv2 h=>d2 J (P0 J a4o J hv2) J<|S8 1 J<|b9 ?_
 cases h;exact f1

theorem b0b{a0 a1 a2}:PO Tryz.prog 43 [b6.Pv a0,b6.Pv a1,c9.Pv a2] (R2 a0 a1 a2) λr=>.I r:=by
 refine pO Tryz.func43 λr h _ _=>?_;refine S4 4 J<|g7<|S4 2 J<|j5<|S4 2 J ?_;refine cN h (λhc h=>?_) λhc h=>?_
 ·refine S3 3 J ?_;refine cA h a4L J J λv1 _ h=>S2 1 J<|b9 ?_;cases h;exact f1
 ·refine jq h (λj3=>St.of [(3,.ptr 3 0 0),(4,.ptr 4 0 0),(5,.ptr 5 0 0),(8,.I a2.Kind),(15,.bool j3)] [(5,vR (c9.Pv a2) 4),(4,vR (b6.Pv a1) 8),(3,vR (b6.Pv a0) 8)]) (λj3 h=>?_) λκ2 h=>?_
  ·refine cN h (λhc h=>?_) λhc h=>?_
   ·refine S3 3 J ?_;refine cA h a4L J J λv4 _ h=>S2 1 J<|b9 ?_;cases h;exact f1
   ·refine S4 2 J ?_;refine cN h (λhc h=>?_) λhc h=>?_
    ·refine g7 ?_;refine dr [] u5 (by kernel_rfl) (by kernel_rfl)<|S7 3 J<|A2 h λv5 hv4 h=>d2 J (P0 J K4 J hv4) J<|S7 3 J<|A2 h λv6 hv5 h=>d2 J (P0 J K4 J hv5) J<|S8 1 J ?_
     refine cN h (λhc h=>?_) λhc h=>?_
     ·refine S4 1 J ?_;refine b9 ?_;cases h;exact f1
     ·refine c5 ?_;refine S4 1 J<|b9 ?_;cases h;exact f1
    ·refine c5 ?_;refine S3 3 J<|cA h a4L J J λv7 _ h=>S2 1 J<|b9 ?_;cases h;exact f1
  ·refine S4 2 J ?_;refine cN h (λhc h=>?_) λhc h=>?_
   ·refine c5 ?_;exact eJ h W
   ·refine S6 2 J ?_;exact eJ h W

theorem a8Q{a0 a1}:PO Tryz.prog 29 [b6.Pv a0,c9.Pv a1] (p6 a0 a1) λr=>.tup [b6.Pv r.1,.I r.2.1,.I r.2.2]:=by
 refine pO Tryz.func29 λr h _ _=>?_;refine S4 5 J<|g7<|S3 1 J<|cA h a4G J J λv1 _ h=>S2 1 J<|S4 2 J ?_;refine cN h (λhc h=>?_) λhc h=>?_
 ·refine S4 5 J ?_;refine b9 ?_;cases h;exact⟨J,[_,_,_],⟨oL J J J o7 n8 nl J,⟨J,⟨J,tr⟩⟩⟩,J,io⟩
 ·refine c5 ?_;refine dr [] u5 (by kernel_rfl) (by kernel_rfl)<|A2 h λv2 hv2 h=>d2f J (y8 J b01 J hv2) J<|S7 2 J<|d4 J (d0P (es:=v2) (k:=a1.Kind) (E:=fvE) (EK:=iF) (d:=.tup [fvE ((z6 v2 a1.Kind).getD (none:Fv)),.bool ((z6 v2 a1.Kind).isSome)]) J J Y4 (x4 I8) c5s J (lk2 _ _ _)) J<|S8 5 J<|g7<|S4 2 J ?_
  refine cN h (λhc h=>?_) λhc h=>?_
  ·refine S4 4 J ?_;refine b9 ?_;cases h;exact⟨J,[_,_,_],⟨oL J J J o7 n8 nl J,⟨J,⟨J,tr⟩⟩⟩,J,io⟩
  ·refine c5 ?_;refine S3 3 J<|y0 J (s7 (cs:=[.L b7.Pv a0.S.S.a8,.I a0.S.S.Last,.I a0.S.Serial,.L iF a0.Roots,.L c8.Pv a0.a8,.L b8.Pv a0.T,.L g9.Pv a0.Q.L,.I a0.Q.Cap,.I a1.Kind,.I a1.A,.I a1.B,.I a1.C]) J c5l c5t J J J) ?_;obtain⟨v3,hv3,h⟩:=a9D h;obtain⟨n4,he4,hk5,hp6⟩:=b86 hv3;refine P8 (c7Q 30 J he4)<|yc J (b57 J hk5 J hp6)<|S2 6 J<|g7<|S4 2 J ?_;refine cN h (λhc h=>?_) λhc h=>?_
   ·refine S4 5 J ?_;refine b9 ?_;cases h;exact⟨J,[_,_,_],⟨oL J J J o7 n8 nl J,⟨J,⟨J,tr⟩⟩⟩,J,io⟩
   ·refine c5 ?_;refine S3 1 J<|cF h a0k J J λv5 _ h=>S2 2 J<|dr [] u5 (by kernel_rfl) (by kernel_rfl)<|S7 4 J<|A2 h λv6 hv8 h=>d2 J (P0 J b0b J hv8) J<|C6 (x':=b6.Pv v5) (cl':=true) J J (.inr J) n8<|S8 2 J<|b9 ?_
    cases h;exact⟨J,[_,_,_],⟨oL J J J o7 n8 nl J,⟨J,⟨J,tr⟩⟩⟩,J,io⟩

theorem b4q{a0}:PO Tryz.prog 242 [a7.Pv a0] (a6g a0) λr=>.fn (.func 247) [.rptr (a7.Pc r)]:=by
 refine pO Tryz.func242 λr h _ _=>?_;unfold a6g at h;refine S4 2 J<|S4 2 J<|b9 ?_;cases h;exact f1

theorem b1M{a0 a1}:PO Tryz.prog 232 [a7.Pv a0,.I a1] (a5j a0 a1) λr=>.L iF r:=by
 refine pO Tryz.func232 λr h _ _=>?_;refine S4 2 J<|S3 2 J<|cF h A0 J J λv1 _ h=>S2 6 J<|S3 2 J<|cF h b0H J J λv2 _ h=>S2 1 J<|b9 ?_;cases h;exact f1

theorem b9A{a0 a1}:PO Tryz.prog 235 [a7.Pv a0,.I a1] (b2w a0 a1) λr=>.I r:=by
 refine pO Tryz.func235 λr h _ _=>?_;refine S4 3 J<|S4 2 J ?_;refine jq h (λj31=>St.of [(5,.ptr 2001 0 0)] [(2001,vR (.I j31) 1)]) (λj31 h=>?_) λκ30 h=>?_
 ·refine S4 2 J ?_;refine b9 ?_;cases h;exact f1
 ·refine S3 1 J ?_;refine cF h b4q J J λv32 _ h=>yN<|j5<|a2H (WPE (λl=>if l=2003 then 5 else if l=2004 then 3 else l) [(3,.ptr 2004 0 0),(5,.ptr 2003 0 0),(9,.fn (.func 247) [.rptr (a7.Pc v32)])] [(2003,vR (.I 0) 1),(2004,vR (.I a1) 1)]) ?_
  refine a1E (fn:=Tryz.f247) (N1:=29) J Tryz.func247 J J nl J c5k J J (λl33 e34 o35 hR36=>?_);refine b7X<|g7<|b7W<|S3 1 J<|cF h I7 J J λv33 _ h=>nL J l5<|S2 1 J<|j5<|lq h (λq=>St.of [(1000003,.ptr 2004 0 0),(1000005,.ptr 2003 0 0),(1000009,.fn (.func 247) [.rptr (a7.Pc v32)]),(0,.fn (.yield l33) []),(1,.rptr (a7.Pc v32)),(8,.L iF v33),(9,.I (v33.length:Int)),(10,.I q.1)] [(2003,vR (.I q.2) 1),(2004,vR (.I a1) 1)]) W λq38 x37 h hx40=>?_;obtain⟨s35,s36⟩:=q38;refine S4 1 J<|g7 ?_;refine cN h (λhc h=>?_) λhc h=>?_
  ·refine c5 ?_;refine jq h (λj50=>St.of [(1000003,.ptr 2004 0 0),(1000005,.ptr 2003 0 0),(1000009,.fn (.func 247) [.rptr (a7.Pc v32)]),(0,.fn (.yield l33) []),(1,.rptr (a7.Pc v32)),(8,.L iF v33),(9,.I (v33.length:Int)),(10,.I s35)] [(2003,vR (.I j50) 1),(2004,vR (.I a1) 1)]) (λj50 h=>?_) λκ49 h=>?_
   ·refine S6 2 J ?_;exact eL h W
   ·refine j5 ?_;refine sR<|iL h J J l5 o9 λv51 _ h=>S2 2 J<|S3 2 J<|cF h b1M J J λv52 _ h=>nL J l5<|S2 1 J<|j5<|lq h (λq=>St.of [(1000003,.ptr 2004 0 0),(1000005,.ptr 2003 0 0),(1000009,.fn (.func 247) [.rptr (a7.Pc v32)]),(0,.fn (.yield l33) []),(1,.rptr (a7.Pc v32)),(4,.I v51),(8,.L iF v33),(9,.I (v33.length:Int)),(10,.I s35),(16,.L iF v52),(17,.I (v52.length:Int)),(18,.I q.1)] [(2003,vR (.I q.2) 1),(2004,vR (.I a1) 1)]) W λq57 x56 h hx56=>?_;obtain⟨s54,s55⟩:=q57;refine S4 1 J<|g7 ?_;refine cN h (λhc h=>?_) λhc h=>?_
    ·refine c5 ?_;refine g7<|j5<|sR<|iL h J J l5 o9 λv58 _ h=>S2 2 J<|S3 3 J<|P8 (WE [(1000003,.ptr 2004 0 0),(1000005,.ptr 2003 0 0),(1000009,.fn (.func 247) [.rptr (a7.Pc v32)]),(0,.fn (.yield l33) []),(1,.rptr (a7.Pc v32)),(4,.I v51),(8,.L iF v33),(9,.I (v33.length:Int)),(10,.I s35),(16,.L iF v52),(17,.I (v52.length:Int)),(18,.I s54),(22,.fn (.yield l33) []),(23,.I v51),(24,.I v58)] [(2003,vR (.I s55) 1),(2004,vR (.I a1) 1)]) ?_;refine a6y hR36 J J J J J J (λe58 o59 o60=>?_);refine S6 1 J ?_;refine⟨J,?_⟩;refine jqE h (λj60=>St.of [(2000003,.ptr 2004 0 0),(2000005,.ptr 2003 0 0),(2000009,.fn (.func 247) [.rptr (a7.Pc v32)]),(1000000,.fn (.yield l33) []),(1000001,.rptr (a7.Pc v32)),(1000004,.I v51),(1000008,.L iF v33),(1000009,.I (v33.length:Int)),(1000010,.I s35),(1000016,.L iF v52),(1000017,.I (v52.length:Int)),(1000018,.I s54),(1000022,.fn (.yield l33) []),(1000023,.I v51),(1000024,.I v58)] [(2003,vR (.I j60) 1),(2004,vR (.I a1) 1)]) (λj60 h=>?_) λκ59 h=>?_
     ·refine⟨J,?_⟩;refine P8 (WE [(1000003,.ptr 2004 0 0),(1000005,.ptr 2003 0 0),(1000009,.fn (.func 247) [.rptr (a7.Pc v32)]),(0,.fn (.yield l33) []),(1,.rptr (a7.Pc v32)),(4,.I v51),(8,.L iF v33),(9,.I (v33.length:Int)),(10,.I s35),(16,.L iF v52),(17,.I (v52.length:Int)),(18,.I s54),(25,.bool true)] [(2003,vR (.I j60) 1),(2004,vR (.I a1) 1)])<|S2 1 J ?_;refine F8 false J (λq=>nomatch q) (λ_=>?_);refine c5<|S6 2 J ?_;exact eL h W
     ·refine j5 ?_;refine S4 3 J ?_;refine cN h (λhc h=>?_) λhc h=>?_
      ·refine S6 3 J ?_;exact eJ h W
      ·refine c5 ?_;exact eJ h W
    ·refine u4 ?_;refine g5<|g5<|n0 ?_;have h:=xL hx56 h;exact eJ h W
  ·refine u4 ?_;refine g5<|g5<|n0<|b4r ?_;refine .inl ⟨J,?_⟩;have h:=xL hx40 h;exact eJ h (WP (λl=>if l=2001 then 2003 else l))

theorem a63{a0}:PO Tryz.prog 244 [.L b8.Pv a0] (a08 a0) λr=>.fn (.func 248) [.rptr [.L b8.Pv r]]:=by
 refine pO Tryz.func244 λr h _ _=>?_;unfold a08 at h;refine S4 2 J<|S4 2 J<|b9 ?_;cases h;exact f1

theorem a9Z{a0}:PO Tryz.prog 249 [.L b8.Pv a0] (a43 a0) λr=>.L iF r:=by
 refine pO Tryz.func249 λr h _ _=>?_;refine S4 1 J<|S4 1 J ?_;refine jq h (λj13=>St.of [(3,.sl 910003)] [(910003,⟨List.map iF j13,(List.map iF j13).length,true,1,true⟩)]) (λj13 h=>?_) λκ12 h=>?_
 ·refine S4 2 J ?_;refine b9 ?_;cases h;exact f1
 ·refine S3 1 J ?_;refine nL J a0R<|S2 1 J<|j5<|lq h (λq=>St.of [(3,.sl 910003),(6,.L b8.Pv a0),(7,.I (a0.length:Int)),(8,.I q.1)] [(910003,⟨List.map iF q.2,(List.map iF q.2).length,true,1,true⟩)]) (Wk.trans (X0 (t:=3) (l:=920003) (z:=1) J J) (WP (λl=>if l=910003 then 920003 else l))) λq18 x17 h hx12=>?_
  obtain⟨s15,s16⟩:=q18;refine S4 1 J<|g7 ?_;refine cN h (λhc h=>?_) λhc h=>?_
  ·refine c5 ?_;refine jq h (λj22=>St.of [(3,.sl 19),(6,.L b8.Pv a0),(7,.I (a0.length:Int)),(8,.I s15)] [(19,⟨List.map iF j22,(List.map iF j22).length,true,1,true⟩)]) (λj22 h=>?_) λκ21 h=>?_
   ·refine S6 2 J ?_;exact eL h (Wk.trans (p9 _ [19]) (WP (λl=>if l=910003 then 19 else l)))
   ·refine j5 ?_;refine sR<|iL h J J a0R a0M λv23 _ h=>S2 3 J<|S4 3 J ?_;refine cN h (λhc h=>?_) λhc h=>?_
    ·refine S5 3 J ?_;refine y0 J (a0t (f:=iF) (l:=[v23.Key]) J l5 o9 E0 J J nl J J)<|A2 h λv24 hv17 h=>a10 J (a1C (f:=iF) hv17 J J J J J J (.inl ⟨_,J,J⟩) l5 o9 Y3 E0 J (λ_=>J)) J J J<|S2 1 J ?_;exact eJ h (Wk.trans (p9 _ [19]) W)
    ·refine c5 ?_;exact eJ h (Wk.trans (p9 _ [910003]) (WP (λl=>if l=19 then 910003 else l)))
  ·refine u4 ?_;refine g5<|g5<|n0 ?_;have h:=xL hx12 h;exact eJ h (Wk.trans (p9 _ [910003]) W)

theorem b0S{a0 a1}:PO Tryz.prog 245 [m7.Pv a0,.rptr [.I a1]] (a2o a0 a1) λr=>.bool r:=by
 refine pO Tryz.func245 λr h _ _=>?_;unfold a2o at h;refine S4 2 J<|S3 3 J<|m9 J (λhg=>oF J b4y J)<|m9 J (λhg=>oS (ct hg) J J G5 J)<|m9 J (λhg=>K7 J G5 J)<|m9 J (λhg=>B8 (ct hg) (ct hg) J)<|y0 J (E6 J J J (λq=>eqT q))<|S2 1 J<|b9 ?_;cases h;exact f1

theorem H3{a0 a1}:PO Tryz.prog 243 [.fn (.func 248) [.rptr [.L b8.Pv a0]],.fn (.func 245) [.rptr [.I a1]]] (x8 a0 a1) λr=>.L m7.Pv r:=by
 refine pO Tryz.func243 λr h _ _=>?_;refine S4 2 J<|S4 1 J ?_;refine jq h (λj16=>St.of [(5,.ptr 2001 0 0)] [(2001,vS (.sl 912501) 1),(912501,⟨List.map m7.Pv j16,(List.map m7.Pv j16).length,true,2,true⟩)]) (λj16 h=>?_) λκ15 h=>?_
 ·refine S4 2 J ?_;refine b9 ?_;cases h;exact f1
 ·refine S4 1 J ?_;refine j5<|a2H (WPE (λl=>if l=2012 then 5 else if l=2013 then 3 else l) [(3,.ptr 2013 0 0),(5,.ptr 2012 0 0),(7,.fn (.func 248) [.rptr [.L b8.Pv a0]])] [(2012,vR (.nl) 1),(2013,vR (.fn (.func 245) [.rptr [.I a1]]) 1)]) ?_
  refine a1E (fn:=Tryz.f248) (N1:=27) J Tryz.func248 J J nl J b98 J J (λl20 e21 o22 hR23=>?_);refine S3 1 J<|cF h a9Z J J λv17 _ h=>nL J l5<|S2 1 J<|j5<|lq h (λq=>St.of [(1000003,.ptr 2013 0 0),(1000005,.ptr 2012 0 0),(1000007,.fn (.func 248) [.rptr [.L b8.Pv a0]]),(0,.fn (.yield l20) []),(1,.rptr [.L b8.Pv a0]),(8,.L iF v17),(9,.I (v17.length:Int)),(10,.I q.1)] [(2012,vS (.sl 912512) 1),(2013,vR (.fn (.func 245) [.rptr [.I a1]]) 1),(912512,⟨List.map m7.Pv q.2,(List.map m7.Pv q.2).length,true,2,true⟩)]) (Wk.trans (b2E (l0:=2012) (j:=0) (l:=922512) (z:=2) J J J J J) (WP (λl=>if l=912512 then 922512 else l))) λq22 x21 h hx27=>?_
  obtain⟨s19,s20⟩:=q22;refine S4 1 J<|g7 ?_;refine cN h (λhc h=>?_) λhc h=>?_
  ·refine c5 ?_;refine g7<|j5<|sR<|iL h J J l5 o9 λv23 _ h=>S2 2 J<|S3 2 J<|cA h a4i J J λv24 _ h=>S2 5 J<|S3 3 J<|y0 J (s7 (cs:=[.I v23,.I v24.1]) J c0a a7Q J J J)<|P8 (WPE (λl=>if l=2021 then 912512 else l) [(1000003,.ptr 2013 0 0),(1000005,.ptr 2012 0 0),(1000007,.fn (.func 248) [.rptr [.L b8.Pv a0]]),(0,.fn (.yield l20) []),(1,.rptr [.L b8.Pv a0]),(8,.L iF v17),(9,.I (v17.length:Int)),(10,.I s19),(20,.fn (.yield l20) []),(23,.agg [.I v23,.I v24.1])] [(2012,vS (.sl 2021) 1),(2021,⟨List.map m7.Pv s20,(List.map m7.Pv s20).length,true,2,true⟩),(2013,vR (.fn (.func 245) [.rptr [.I a1]]) 1)]) ?_
   refine a6y hR23 J J J J J J (λe30 o31 o32=>?_);refine S6 2 J ?_;refine⟨J,?_⟩;refine jqE h (λj28=>St.of [(2000003,.ptr 2013 0 0),(2000005,.ptr 2012 0 0),(2000007,.fn (.func 248) [.rptr [.L b8.Pv a0]]),(1000000,.fn (.yield l20) []),(1000001,.rptr [.L b8.Pv a0]),(1000008,.L iF v17),(1000009,.I (v17.length:Int)),(1000010,.I s19),(1000020,.fn (.yield l20) []),(1000023,.agg [.I v23,.I v24.1])] [(2012,vS (.sl 15) 1),(15,⟨List.map m7.Pv j28,(List.map m7.Pv j28).length,true,2,true⟩),(2013,vR (.fn (.func 245) [.rptr [.I a1]]) 1)]) (λj28 h=>?_) λκ27 h=>?_
   ·refine⟨J,?_⟩;refine P8 (WPE (λl=>if l=2022 then 15 else l) [(1000003,.ptr 2013 0 0),(1000005,.ptr 2012 0 0),(1000007,.fn (.func 248) [.rptr [.L b8.Pv a0]]),(0,.fn (.yield l20) []),(1,.rptr [.L b8.Pv a0]),(8,.L iF v17),(9,.I (v17.length:Int)),(10,.I s19),(24,.bool true)] [(2012,vS (.sl 2022) 1),(2022,⟨List.map m7.Pv j28,(List.map m7.Pv j28).length,true,2,true⟩),(2013,vR (.fn (.func 245) [.rptr [.I a1]]) 1)])<|S2 1 J ?_
    refine F8 false J (λq=>nomatch q) (λ_=>?_);refine c5<|S6 2 J ?_;exact eL h (Wk.trans (p9 _ [2022]) (WP (λl=>if l=912512 then 2022 else l)))
   ·refine j5 ?_;refine S3 2 J<|cA h b0S J J λv29 _ h=>yN ?_;refine cN h (λhc h=>?_) λhc h=>?_
    ·refine S5 2 J ?_;refine y0 J (a0t (f:=m7.Pv) (l:=[(⟨v23,v24.1⟩:m7)]) J a5C a9A a7Q J J nl J J)<|A2 h λv30 hv37 h=>a10 J (a1C (f:=m7.Pv) hv37 J J J J J J (.inl ⟨_,J,J⟩) a5C a9A b95 a7Q J (λ_=>J)) J J J<|S2 1 J ?_;exact eJ h (Wk.trans (p9 _ [15]) W)
    ·refine c5 ?_;exact eJ h (Wk.trans (p9 _ [2021]) (WP (λl=>if l=15 then 2021 else l)))
  ·refine u4 ?_;refine g5<|g5<|n0 ?_;refine .inl ⟨J,?_⟩;have h:=xL hx27 h;exact eJ h (Wk.trans (p9 _ [912512]) (WP (λl=>if l=2001 then 2012 else if l=912501 then 912512 else l)))

theorem b2U{a0 a1}:PO Tryz.prog 236 [.L b8.Pv a0,.I a1] (a4f a0 a1) λr=>.I r:=by
 refine pO Tryz.func236 λr h _ _=>?_;refine S4 2 J<|S3 1 J<|cF h a63 J J λv1 _ h=>S1 1 J<|A2 h λv2 hv2 h=>ycL J (y8 J H3 J hv2) J<|nL J a5C<|S2 1 J<|b9 ?_;cases h;exact f1

theorem b3V{a0 a1 a2}:PO Tryz.prog 218 [a7.Pv a0,.L b8.Pv a1,.I a2] (a4y a0 a1 a2) λr=>.I r:=by
 refine pO Tryz.func218 λr h _ _=>?_;refine S4 2 J<|S3 2 J<|cA h b9A J J λv1 _ h=>S1 2 J<|cA h b2U J J λv2 _ h=>S2 2 J<|b9 ?_;cases h;exact f1

theorem b4v{a0 a1 a2}:PO Tryz.prog 193 [a7.Pv a0,.L b8.Pv a1,.I a2] (a6t a0 a1 a2) λr=>.I r:=by
 refine pO Tryz.func193 λr h _ _=>?_;refine S4 2 J<|S3 2 J<|cF h A0 J J λv1 _ h=>S2 6 J<|g7<|S4 2 J ?_;refine cN h (λhc h=>?_) λhc h=>?_
 ·refine S4 1 J ?_;refine b9 ?_;cases h;exact f1
 ·refine c5 ?_;refine dr [] u5 (by kernel_rfl) (by kernel_rfl)<|S7 5 J<|A2 h λv2 hv2 h=>d2 J (P0 J b3V J hv2) J<|S8 2 J<|b9 ?_
  cases h;exact f1

theorem b2N{a0}:PO Tryz.prog 194 [.I a0] (a60 a0) λr=>.bool r:=by
 refine pO Tryz.func194 λr h _ _=>?_;refine S4 1 J<|S3 1 J<|cA h Y5 J J λv1 _ h=>S2 1 J<|b9 ?_;cases h;exact f1

theorem b13{a0 a1 a2 a3}:PO Tryz.prog 192 [.I a0,l6.Pv a1,.rptr (a7.Pc a2),.rptr [.L b8.Pv a3]] (a6s a0 a1 a2 a3) λr=>.bool r:=by
 refine pO Tryz.func192 λr h _ _=>?_;refine S4 2 J<|S3 3 J<|cA h b4v J J λv1 _ h=>S1 2 J<|m9 J (λhg=>oF J c2j J)<|m9 J (λhg=>oS (ct hg) J J G5 J)<|A2 h λv2 hv2 h=>m9 J (λhg=>P0 J b2N (U2 (ct hg) J) (P6 hv2 hg))<|y0 J (E8 J J J (λq=>eqF q))<|S2 1 J<|b9 ?_;cases h;exact f1

theorem b4u{a0 a1}:PO Tryz.prog 142 [a7.Pv a0,.L b8.Pv a1] (a6r a0 a1) λr=>.L iF r:=by
 refine pO Tryz.func142 λr h _ _=>?_;refine S4 3 J<|S3 1 J<|y0 J (s7 (cs:=[.fn (.func 192) [.ptr 2 0 0,.ptr 3 0 0]]) J c5p c5x J J J)<|P8 (a6L 7 (d':=.agg [.fn (.func 192) [.ptr 2 0 0,.ptr 3 0 0]]) J)<|S2 2 J<|S3 2 J<|P8 (WPE (λl=>if l=2001 then 3 else if l=2002 then 2 else l) [(8,.agg [.fn (.func 192) [.ptr 2002 0 0,.ptr 2001 0 0]]),(9,a7.Pv a0)] [(2001,vR (.L b8.Pv a1) 1),(2002,vR (a7.Pv a0) 3)]) ?_
 refine b5o (fn:=Tryz.f195) (N1:=34) J J Tryz.func195 J c5g J J nl (λe1 o2=>?_);refine jqR h (λj36=>St.of [(1000008,.agg [.fn (.func 192) [.ptr 2002 0 0,.ptr 2001 0 0]]),(1000009,a7.Pv a0),(4,.sl 910005)] [(910005,⟨List.map iF j36,(List.map iF j36).length,true,1,true⟩),(2001,vR (.L b8.Pv a1) 1),(2002,vR (a7.Pv a0) 3)]) (λj36 h=>dup ?_) λκ35 h=>?_
 ·refine⟨J,[.sl 910005],⟨J,tr⟩,?_⟩;refine P8 (WPE (λl=>if l=2003 then 910005 else l) [(10,.sl 2003)] [(2003,⟨List.map iF j36,(List.map iF j36).length,true,1,true⟩)])<|S2 1 J<|b9 ?_
  cases h;exact f1
 ·refine S4 3 J ?_;refine S4 1 J ?_;refine jq h (λj54=>St.of [(1000008,.agg [.fn (.func 192) [.ptr 2002 0 0,.ptr 2001 0 0]]),(1000009,a7.Pv a0),(5,.sl 910005)] [(910005,⟨List.map iF j54,(List.map iF j54).length,true,1,true⟩),(2001,vR (.L b8.Pv a1) 1),(2002,vR (a7.Pv a0) 3)]) (λj54 h=>?_) λκ53 h=>?_
  ·refine S4 2 J ?_;refine b9 ?_;exact eJ h (Wk.trans (p9 _ [910005]) W)
  ·refine S3 1 J ?_;refine cF h I7 J J λv55 _ h=>nL J l5<|S2 1 J<|j5<|lq h (λq=>St.of [(1000008,.agg [.fn (.func 192) [.ptr 2002 0 0,.ptr 2001 0 0]]),(1000009,a7.Pv a0),(2,.ptr 2 0 0),(3,.ptr 3 0 0),(5,.sl 910005),(11,.L iF v55),(12,.I (v55.length:Int)),(13,.I q.1)] [(3,vR (a7.Pv a0) 3),(2,vS (.agg [.fn (.func 192) [.ptr 2002 0 0,.ptr 2001 0 0]]) 1),(2001,vR (.L b8.Pv a1) 1),(2002,vR (a7.Pv a0) 3),(910005,⟨List.map iF q.2,(List.map iF q.2).length,true,1,true⟩)]) (Wk.trans (X0 (t:=5) (l:=920005) (z:=1) J J) (WP (λl=>if l=910005 then 920005 else l))) λq60 x59 h hx48=>?_
   obtain⟨s57,s58⟩:=q60;refine S4 1 J<|g7 ?_;refine cN h (λhc h=>?_) λhc h=>?_
   ·refine c5 ?_;refine jq h (λj66=>St.of [(1000008,.agg [.fn (.func 192) [.ptr 2002 0 0,.ptr 2001 0 0]]),(1000009,a7.Pv a0),(2,.ptr 2 0 0),(3,.ptr 3 0 0),(5,.sl 31),(11,.L iF v55),(12,.I (v55.length:Int)),(13,.I s57)] [(31,⟨List.map iF j66,(List.map iF j66).length,true,1,true⟩),(3,vR (a7.Pv a0) 3),(2,vS (.agg [.fn (.func 192) [.ptr 2002 0 0,.ptr 2001 0 0]]) 1),(2001,vR (.L b8.Pv a1) 1),(2002,vR (a7.Pv a0) 3)]) (λj66 h=>?_) λκ65 h=>?_
    ·refine S6 2 J ?_;exact eL h (Wk.trans (p9 _ [31]) (WP (λl=>if l=910005 then 31 else l)))
    ·refine j5 ?_;refine sR<|iL h J J l5 o9 λv67 _ h=>S2 2 J<|S3 2 J<|cF h A0 J J λv68 _ h=>S2 6 J<|S3 4 J<|cA h b13 J J λv69 _ h=>yN ?_;refine cN h (λhc h=>?_) λhc h=>?_
     ·refine S5 2 J ?_;refine y0 J (a0t (f:=iF) (l:=[v67]) J l5 o9 E0 J J nl J J)<|A2 h λv70 hv57 h=>a10 J (a1C (f:=iF) hv57 J J J J J J (.inl ⟨_,J,J⟩) l5 o9 Y3 E0 J (λ_=>J)) J J J<|S2 1 J ?_;exact eJ h (Wk.trans (p9 _ [31]) W)
     ·refine c5 ?_;exact eJ h (Wk.trans (p9 _ [910005]) (WP (λl=>if l=31 then 910005 else l)))
   ·refine u4 ?_;refine g5<|g5<|n0 ?_;have h:=xL hx48 h;exact eJ h (Wk.trans (p9 _ [910005]) W)

theorem b1b{a0}:PO Tryz.prog 226 [.I a0] (a2s a0) λr=>g8.Pv r:=by
 refine pO Tryz.func226 λr h _ _=>?_;unfold a2s at h;refine S4 1 J<|S3 1 J<|y0 J (s7 (cs:=[.nl,.I a0]) J c5r c5z J J J)<|a7N (x':=.agg [.nl,.I a0]) (cl':=true) J J (.inl J) a4a<|yN<|b9 ?_;cases h;exact⟨J,[_],⟨oL J J J a7P a4a nl J,tr⟩,J,io⟩

theorem a6H{a0 a1}:PO Tryz.prog 228 [a7.Pv a0,.I a1] (a0i a0 a1) λr=>.bool r:=by
 refine pO Tryz.func228 λr h _ _=>?_;refine S4 2 J<|S3 2 J<|cF h A0 J J λv1 _ h=>S2 6 J<|S4 3 J<|b9 ?_;cases h;exact f1

theorem R4{a0}:PO Tryz.prog 230 [g8.Pv a0] (I6 a0) λr=>.I r:=by
 refine pO Tryz.func230 λr h _ _=>?_;unfold I6 at h;refine S4 2 J<|S3 2 J<|nL J l5<|S2 1 J<|b9 ?_;cases h;exact f1

theorem a1F{a0 a1 a2}:PO Tryz.prog 237 [.L iF a0,.I a1,.I a2] (M4 a0 a1 a2) λr=>.lst true (List.map iF r):=by
 refine pO Tryz.func237 λr h _ _=>?_;unfold M4 at h;refine S4 1 J<|S3 4 J<|A2 h λv1 hv1 h=>y0 J (c3S (f:=iF) hv1 J ⟨_,J⟩ ⟨_,J⟩ ⟨_,J⟩ J J l5 o9 (λ_=>J))<|S2 1 J<|b9 ?_;cases h;exact f1

theorem a4s{a0 a1}:PO Tryz.prog 229 [g8.Pv a0,.I a1] (M3 a0 a1) λr=>.tup [g8.Pv r.1,.I r.2]:=by
 refine pO Tryz.func229 λr h _ _=>?_;unfold M3 at h;refine S4 3 J<|g7<|dr [] u5 (by kernel_rfl) (by kernel_rfl)<|S7 1 J<|A2 h λv1 hv1 h=>d2 J (P0 J R4 J hv1) J<|S8 3 J ?_
 refine cN h (λhc h=>?_) λhc h=>?_
 ·refine S4 3 J ?_;refine b9 ?_;cases h;exact⟨J,[_,_],⟨oL J J J a7P a4a nl J,⟨J,tr⟩⟩,J,io⟩
 ·refine c5 ?_;refine dr [] u5 (by kernel_rfl) (by kernel_rfl)<|S7 3 J<|d2 J (P0 J R4 J hv1) J<|A2 h λv2 hv2 h=>d2f J (y8 J a1F J hv2) J<|S7 1 J<|d1n J (a0t (f:=iF) (l:=[a1]) J l5 o9 E0 J J nl J J) J<|A2 h λv3 hv3 h=>d3 J (b7M (f:=iF) hv3 J J (.inl ⟨_,J,J⟩) l5 o9 Y3 E0 J (λ_=>J)) J J J<|S7 1 J<|C6 (x':=.agg [.sl 19,.I a0.Cap]) (cl':=false) J J (.inl J) a5E<|T0<|S4 3 J<|b9 ?_
  cases h;exact⟨J,[_,_],⟨oL J J J a7P a4a nl J,⟨J,tr⟩⟩,J,io⟩

theorem a9n{a0 a1}:PO Tryz.prog 238 [g8.Pv a0,.I a1] (a20 a0 a1) λr=>.tup [g8.Pv r.1,.L iF r.2]:=by
 refine pO Tryz.func238 λr h _ _=>?_;refine S4 3 J<|S3 2 J<|cA h R4 J J λv1 hv1 h=>y0 J (c7F J J J)<|y0 J (c3W J J J)<|S2 1 J<|S3 3 J<|cF h a1F J J λv2 _ h=>S2 1 J<|dr [] u5 (by kernel_rfl) (by kernel_rfl)<|S7 4 J<|d2 J (P0 J R4 J hv1) J<|A2 h λv3 hv3 h=>d2f J (y8 J a1F J hv3) J<|S7 1 J<|C6 (x':=.agg [.L iF v3,.I a0.Cap]) (cl':=true) J J (.inr J) a5E<|T0<|S4 4 J<|b9 ?_
 cases h;exact⟨J,[_,_],⟨oL J J J a7P a4a nl J,⟨J,tr⟩⟩,J,io⟩

theorem b1c{a0}:PO Tryz.prog 231 [g8.Pv a0] (a0I a0) λr=>.tup [g8.Pv r.1,.I r.2.1,.I r.2.2]:=by
 refine pO Tryz.func231 λr h _ _=>?_;refine S4 4 J<|S3 1 J<|cF h a9n J J λv1 _ h=>S2 6 J<|g7<|S3 1 J<|nL J l5<|S2 1 J ?_;refine cN h (λhc h=>?_) λhc h=>?_
 ·refine S4 1 J ?_;refine S4 5 J<|b9 ?_;cases h;exact⟨J,[_,_,_],⟨oL J J J a7P a4a nl J,⟨J,⟨J,tr⟩⟩⟩,J,io⟩
 ·refine c5 ?_;refine dr [2,3] u5 (by kernel_rfl) (by kernel_rfl)<|S7 2 J<|A2 h λv2 hv2 h=>d7 J (λ_ hN=>J2 (f:=iF) (cs:=[.I v2]) hv2 J J l5 o9 J J) J<|d7 J (λ_ hN=>K7 J G5 J) J<|C6 (x':=g8.Pv v1.1) (cl':=true) J J (.inr J) a4a<|S8 2 J<|b9 ?_
  cases h;exact⟨J,[_,_,_],⟨oL J J J a7P a4a nl J,⟨J,⟨J,tr⟩⟩⟩,J,io⟩

theorem a6I{a0 a1}:PO Tryz.prog 214 [a7.Pv a0,.L iF a1] (a1H a0 a1) λr=>.abs (U0 (List.map (ent iF PV.bool) r)):=by
 refine pO Tryz.func214 λr h _ _=>?_;refine S4 2 J<|sR<|b8x (KT:=Int) (VT:=Bool) (EK:=iF) (E:=PV.bool) 5000009 J J<|S2 2 J<|S3 1 J<|cF h I7 J J λv1 _ h=>nL J l5<|cF h b1b J J λv2 _ h=>S2 2 J<|S4 2 J<|S3 2 J<|P8 (WPE (λl=>if l=2001 then 6 else if l=2002 then 5 else if l=2003 then 2 else if l=5002004 then 5000009 else l) [(2,.ptr 2003 0 0),(5,.ptr 2002 0 0),(6,.ptr 2001 0 0),(7,.fn (.func 227) [.ptr 2003 0 0,.ptr 2002 0 0,.ptr 2001 0 0]),(15,.fn (.func 227) [.ptr 2003 0 0,.ptr 2002 0 0,.ptr 2001 0 0]),(16,.L iF a1)] [(2001,vR (g8.Pv v2) 2),(2002,vS (.mp 5002004) 1),(5002004,⟨[.mapc (List.map (ent iF PV.bool) [])],0,false,0,false⟩),(2003,vR (a7.Pv a0) 3)]) ?_
 refine b5o (fn:=Tryz.f227) (N1:=31) J J Tryz.func227 J b97 J J nl (λe3 o4=>?_);refine jqR h (λq=>St.of [(1000002,.ptr 2003 0 0),(1000005,.ptr 2002 0 0),(1000006,.ptr 2001 0 0),(1000007,.fn (.func 227) [.ptr 2003 0 0,.ptr 2002 0 0,.ptr 2001 0 0]),(1000015,.fn (.func 227) [.ptr 2003 0 0,.ptr 2002 0 0,.ptr 2001 0 0]),(1000016,.L iF a1)] [(2001,vR (g8.Pv q.1) 2),(2002,vS (.mp 5002004) 1),(5002004,⟨[.mapc (List.map (ent iF PV.bool) q.2)],0,false,0,false⟩),(2003,vR (a7.Pv a0) 3)]) (λq22 h=>dup ?_) λκ19 h=>?_
 ·obtain⟨j20,j21⟩:=q22;refine⟨J,[],tr,?_⟩;refine P8 (WE [(2,.ptr 2003 0 0),(5,.ptr 2002 0 0),(6,.ptr 2001 0 0),(7,.fn (.func 227) [.ptr 2003 0 0,.ptr 2002 0 0,.ptr 2001 0 0])] [(2001,vR (g8.Pv j20) 2),(2002,vS (.mp 5002004) 1),(5002004,⟨[.mapc (List.map (ent iF PV.bool) j21)],0,false,0,false⟩),(2003,vR (a7.Pv a0) 3)])<|yN ?_;refine jq h (λj68=>St.of [(5,.ptr 2002 0 0)] [(2002,vS (.mp 5002004) 1),(5002004,⟨[.mapc (List.map (ent iF PV.bool) j68)],0,false,0,false⟩)]) (λj68 h=>?_) λκ67 h=>?_
  ·refine S4 2 J ?_;refine a2H (b9V 4 5002004 J J)<|b9 ?_;cases h;exact f1
  ·refine j5 ?_;refine lq h (λq=>St.of [(2,.ptr 2003 0 0),(5,.ptr 2002 0 0),(6,.ptr 2001 0 0),(7,.fn (.func 227) [.ptr 2003 0 0,.ptr 2002 0 0,.ptr 2001 0 0])] [(2001,vR (g8.Pv q.1) 2),(2002,vS (.mp 5002004) 1),(5002004,⟨[.mapc (List.map (ent iF PV.bool) q.2)],0,false,0,false⟩),(2003,vR (a7.Pv a0) 3)]) W λq73 x72 h hx54=>?_;obtain⟨s70,s71⟩:=q73;refine g7<|S3 1 J<|cA h R4 J J λv74 _ h=>S2 1 J ?_;refine cN h (λhc h=>?_) λhc h=>?_
   ·refine c5 ?_;refine j5<|S4 1 J<|S3 1 J<|cF h b1c J J λv75 _ h=>S2 6 J<|S5 3 J<|cF h b1M J J λv76 _ h=>P8 (WE [(2,.ptr 2003 0 0),(5,.ptr 2002 0 0),(6,.ptr 2001 0 0),(7,.fn (.func 227) [.ptr 2003 0 0,.ptr 2002 0 0,.ptr 2001 0 0]),(27,.fn (.func 227) [.ptr 2003 0 0,.ptr 2002 0 0,.ptr 2001 0 0]),(30,.L iF v76)] [(2001,vR (g8.Pv v75.1) 2),(2002,vS (.mp 5002004) 1),(5002004,⟨[.mapc (List.map (ent iF PV.bool) s71)],0,false,0,false⟩),(2003,vR (a7.Pv a0) 3)]) ?_;refine b5o (fn:=Tryz.f227) (N1:=31) J J Tryz.func227 J b97 J J nl (λe58 o59=>?_);refine jqR h (λq=>St.of [(1000002,.ptr 2003 0 0),(1000005,.ptr 2002 0 0),(1000006,.ptr 2001 0 0),(1000007,.fn (.func 227) [.ptr 2003 0 0,.ptr 2002 0 0,.ptr 2001 0 0]),(1000027,.fn (.func 227) [.ptr 2003 0 0,.ptr 2002 0 0,.ptr 2001 0 0]),(1000030,.L iF v76)] [(2001,vR (g8.Pv q.1) 2),(2002,vS (.mp 5002004) 1),(5002004,⟨[.mapc (List.map (ent iF PV.bool) q.2)],0,false,0,false⟩),(2003,vR (a7.Pv a0) 3)]) (λq96 h=>dup ?_) λκ93 h=>?_
    ·obtain⟨j94,j95⟩:=q96;refine⟨J,[],tr,?_⟩;refine P8 (WE [(2,.ptr 2003 0 0),(5,.ptr 2002 0 0),(6,.ptr 2001 0 0),(7,.fn (.func 227) [.ptr 2003 0 0,.ptr 2002 0 0,.ptr 2001 0 0])] [(2001,vR (g8.Pv j94) 2),(2002,vS (.mp 5002004) 1),(5002004,⟨[.mapc (List.map (ent iF PV.bool) j95)],0,false,0,false⟩),(2003,vR (a7.Pv a0) 3)])<|yN ?_;exact eL h W
    ·refine S3 1 J ?_;refine nL J l5<|S2 1 J<|j5<|lq h (λq=>St.of [(1000002,.ptr 2003 0 0),(1000005,.ptr 2002 0 0),(1000006,.ptr 2001 0 0),(1000007,.fn (.func 227) [.ptr 2003 0 0,.ptr 2002 0 0,.ptr 2001 0 0]),(1000027,.fn (.func 227) [.ptr 2003 0 0,.ptr 2002 0 0,.ptr 2001 0 0]),(1000030,.L iF v76),(1,.ptr 2003 0 0),(2,.ptr 2002 0 0),(3,.ptr 2001 0 0),(7,.L iF v76),(8,.I (v76.length:Int)),(9,.I q.1)] [(2001,vR (g8.Pv q.2.1) 2),(2002,vS (.mp 5002004) 1),(5002004,⟨[.mapc (List.map (ent iF PV.bool) q.2.2)],0,false,0,false⟩),(2003,vR (a7.Pv a0) 3)]) W λq102 x101 h hx75=>?_;obtain⟨s98,s99,s100⟩:=q102;refine S4 1 J<|g7 ?_;refine cN h (λhc h=>?_) λhc h=>?_
     ·refine c5 ?_;refine jq h (λq=>St.of [(1000002,.ptr 2003 0 0),(1000005,.ptr 2002 0 0),(1000006,.ptr 2001 0 0),(1000007,.fn (.func 227) [.ptr 2003 0 0,.ptr 2002 0 0,.ptr 2001 0 0]),(1000027,.fn (.func 227) [.ptr 2003 0 0,.ptr 2002 0 0,.ptr 2001 0 0]),(1000030,.L iF v76),(1,.ptr 2003 0 0),(2,.ptr 2002 0 0),(3,.ptr 2001 0 0),(7,.L iF v76),(8,.I (v76.length:Int)),(9,.I s98)] [(2001,vR (g8.Pv q.1) 2),(2002,vS (.mp 5002004) 1),(5002004,⟨[.mapc (List.map (ent iF PV.bool) q.2)],0,false,0,false⟩),(2003,vR (a7.Pv a0) 3)]) (λq109 h=>?_) λκ106 h=>?_
      ·obtain⟨j107,j108⟩:=q109;refine S6 2 J ?_;exact eL h W
      ·refine j5 ?_;refine sR<|iL h J J l5 o9 λv110 _ h=>S2 2 J<|S3 2 J<|cA h a6H J J λv111 _ h=>S1 1 J<|m9 J (λhg=>oS J J J b92 J)<|m9 J (λhg=>mI J) ?_;rcases Bool.eq_false_or_eq_true (v111==true) with hg83 | hg83
       ·have h:=ifT h hg83;refine c40 (es:=s100) (k:=v110) (E:=PV.bool) (EK:=iF) (d:=.bool ((z6 s100 v110).getD (false:Bool))) (congrArg some hg83) (ct hg83) J (ct hg83) a2u (x4 I8) b7f J (lk1 _ _ _)<|y0 (congrArg some hg83) (a2F J J)<|y0 J (a57 J J hg83)<|yN ?_;refine cN h (λhc h=>?_) λhc h=>?_
        ·refine S3 2 J ?_;refine a0y (es:=s100) (k:=v110) (v:=true) (E:=PV.bool) (EK:=iF) (.inl J) J J J J J J a2u (x4 I8)<|yN<|S5 2 J<|cF h a4s J J λv112 _ h=>S2 4 J ?_;exact eJ h W
        ·refine c5 ?_;exact eJ h W
       ·have h:=ifF h hg83;refine a2k (congrArg some hg83)<|a2k (congrArg some hg83)<|y0 J (a72 J J hg83)<|yN ?_;refine F8 false J (λq=>nomatch q) (λ_=>?_);refine c5 ?_;exact eJ h W
     ·refine u4 ?_;refine g5<|g5<|n0 ?_;have h:=xL hx75 h;exact eJ h W
   ·refine u4 ?_;refine g5<|g5<|n0 ?_;have h:=xL hx54 h;exact eJ h W
 ·refine S3 1 J ?_;refine nL J l5<|S2 1 J<|j5<|lq h (λq=>St.of [(1000002,.ptr 2003 0 0),(1000005,.ptr 2002 0 0),(1000006,.ptr 2001 0 0),(1000007,.fn (.func 227) [.ptr 2003 0 0,.ptr 2002 0 0,.ptr 2001 0 0]),(1000015,.fn (.func 227) [.ptr 2003 0 0,.ptr 2002 0 0,.ptr 2001 0 0]),(1000016,.L iF a1),(1,.ptr 2003 0 0),(2,.ptr 2002 0 0),(3,.ptr 2001 0 0),(7,.L iF a1),(8,.I (a1.length:Int)),(9,.I q.1)] [(2001,vR (g8.Pv q.2.1) 2),(2002,vS (.mp 5002004) 1),(5002004,⟨[.mapc (List.map (ent iF PV.bool) q.2.2)],0,false,0,false⟩),(2003,vR (a7.Pv a0) 3)]) W λq118 x117 h hx87=>?_;obtain⟨s114,s115,s116⟩:=q118;refine S4 1 J<|g7 ?_;refine cN h (λhc h=>?_) λhc h=>?_
  ·refine c5 ?_;refine jq h (λq=>St.of [(1000002,.ptr 2003 0 0),(1000005,.ptr 2002 0 0),(1000006,.ptr 2001 0 0),(1000007,.fn (.func 227) [.ptr 2003 0 0,.ptr 2002 0 0,.ptr 2001 0 0]),(1000015,.fn (.func 227) [.ptr 2003 0 0,.ptr 2002 0 0,.ptr 2001 0 0]),(1000016,.L iF a1),(1,.ptr 2003 0 0),(2,.ptr 2002 0 0),(3,.ptr 2001 0 0),(7,.L iF a1),(8,.I (a1.length:Int)),(9,.I s114)] [(2001,vR (g8.Pv q.1) 2),(2002,vS (.mp 5002004) 1),(5002004,⟨[.mapc (List.map (ent iF PV.bool) q.2)],0,false,0,false⟩),(2003,vR (a7.Pv a0) 3)]) (λq125 h=>?_) λκ122 h=>?_
   ·obtain⟨j123,j124⟩:=q125;refine S6 2 J ?_;exact eL h W
   ·refine j5 ?_;refine sR<|iL h J J l5 o9 λv126 _ h=>S2 2 J<|S3 2 J<|cA h a6H J J λv127 _ h=>S1 1 J<|m9 J (λhg=>oS J J J b92 J)<|m9 J (λhg=>mI J) ?_;rcases Bool.eq_false_or_eq_true (v127==true) with hg95 | hg95
    ·have h:=ifT h hg95;refine c40 (es:=s116) (k:=v126) (E:=PV.bool) (EK:=iF) (d:=.bool ((z6 s116 v126).getD (false:Bool))) (congrArg some hg95) (ct hg95) J (ct hg95) a2u (x4 I8) b7f J (lk1 _ _ _)<|y0 (congrArg some hg95) (a2F J J)<|y0 J (a57 J J hg95)<|yN ?_;refine cN h (λhc h=>?_) λhc h=>?_
     ·refine S3 2 J ?_;refine a0y (es:=s116) (k:=v126) (v:=true) (E:=PV.bool) (EK:=iF) (.inl J) J J J J J J a2u (x4 I8)<|yN<|S5 2 J<|cF h a4s J J λv128 _ h=>S2 4 J ?_;exact eJ h W
     ·refine c5 ?_;exact eJ h W
    ·have h:=ifF h hg95;refine a2k (congrArg some hg95)<|a2k (congrArg some hg95)<|y0 J (a72 J J hg95)<|yN ?_;refine F8 false J (λq=>nomatch q) (λ_=>?_);refine c5 ?_;exact eJ h W
  ·refine u4 ?_;refine g5<|g5<|n0 ?_;have h:=xL hx87 h;exact eJ h W

theorem b1Y{a0 a1}:PO Tryz.prog 239 [.I a0,.rptr [.abs (U0 (List.map (ent iF PV.bool) a1))]] (a3f a0 a1) λr=>.bool r:=by
 refine pO Tryz.func239 λr h _ _=>?_;unfold a3f at h;refine S4 1 J<|S3 2 J<|y0 J (b7N (es:=a1) (k:=a0) (E:=PV.bool) (EK:=iF) (d:=.bool ((z6 a1 a0).getD (false:Bool))) J J a2u (x4 I8) b7f J (lk1 _ _ _))<|S2 1 J<|b9 ?_;cases h;exact f1

theorem a3h{a0 a1}:PO Tryz.prog 215 [a7.Pv a0,.fn (.func 239) [.rptr [.abs (U0 (List.map (ent iF PV.bool) a1))]]] (P1 a0 a1) λr=>.L iF r:=by
 refine pO Tryz.func215 λr h _ _=>?_;refine S4 2 J<|S4 1 J ?_;refine jq h (λj16=>St.of [(5,.sl 910005)] [(910005,⟨List.map iF j16,(List.map iF j16).length,true,1,true⟩)]) (λj16 h=>?_) λκ15 h=>?_
 ·refine S4 2 J ?_;refine b9 ?_;cases h;exact f1
 ·refine S3 1 J ?_;refine cF h I7 J J λv17 _ h=>nL J l5<|S2 1 J<|j5<|lq h (λq=>St.of [(1,.fn (.func 239) [.rptr [.abs (U0 (List.map (ent iF PV.bool) a1))]]),(5,.sl 910005),(9,.L iF v17),(10,.I (v17.length:Int)),(11,.I q.1)] [(910005,⟨List.map iF q.2,(List.map iF q.2).length,true,1,true⟩)]) (Wk.trans (X0 (t:=5) (l:=920005) (z:=1) J J) (WP (λl=>if l=910005 then 920005 else l))) λq22 x21 h hx16=>?_
  obtain⟨s19,s20⟩:=q22;refine S4 1 J<|g7 ?_;refine cN h (λhc h=>?_) λhc h=>?_
  ·refine c5 ?_;refine jq h (λj27=>St.of [(1,.fn (.func 239) [.rptr [.abs (U0 (List.map (ent iF PV.bool) a1))]]),(5,.sl 21),(9,.L iF v17),(10,.I (v17.length:Int)),(11,.I s19)] [(21,⟨List.map iF j27,(List.map iF j27).length,true,1,true⟩)]) (λj27 h=>?_) λκ26 h=>?_
   ·refine S6 2 J ?_;exact eL h (Wk.trans (p9 _ [21]) (WP (λl=>if l=910005 then 21 else l)))
   ·refine j5 ?_;refine sR<|iL h J J l5 o9 λv28 _ h=>S2 2 J<|S3 2 J<|cA h b1Y J J λv29 _ h=>yN ?_;refine cN h (λhc h=>?_) λhc h=>?_
    ·refine S5 2 J ?_;refine y0 J (a0t (f:=iF) (l:=[v28]) J l5 o9 E0 J J nl J J)<|A2 h λv30 hv23 h=>a10 J (a1C (f:=iF) hv23 J J J J J J (.inl ⟨_,J,J⟩) l5 o9 Y3 E0 J (λ_=>J)) J J J<|S2 1 J ?_;exact eJ h (Wk.trans (p9 _ [21]) W)
    ·refine c5 ?_;exact eJ h (Wk.trans (p9 _ [910005]) (WP (λl=>if l=21 then 910005 else l)))
  ·refine u4 ?_;refine g5<|g5<|n0 ?_;have h:=xL hx16 h;exact eJ h (Wk.trans (p9 _ [910005]) W)

theorem a8U{a0 a1}:PO Tryz.prog 233 [a7.Pv a0,.L iF a1] (a3Q a0 a1) λr=>.L iF r:=by
 refine pO Tryz.func233 λr h _ _=>?_;refine S4 2 J<|S3 2 J<|cF h a6I J J λv1 _ h=>S2 2 J<|S3 2 J<|A2 h λv2 hv2 h=>ycL J (y8 J a3h J hv2) J<|S2 1 J<|b9 ?_;cases h;exact f1

theorem b0T{a0}:PO Tryz.prog 246 [m7.Pv a0] (a2p a0) λr=>.bool r:=by
 refine pO Tryz.func246 λr h _ _=>?_;unfold a2p at h;refine S4 2 J<|S4 1 J<|b9 ?_;cases h;exact f1

theorem H4{a0}:PO Tryz.prog 243 [.fn (.func 248) [.rptr [.L b8.Pv a0]],.fn (.func 246) []] (y4 a0) λr=>.L m7.Pv r:=by
 refine pO Tryz.func243 λr h _ _=>?_;refine S4 2 J<|S4 1 J ?_;refine jq h (λj16=>St.of [(5,.ptr 2001 0 0)] [(2001,vS (.sl 912501) 1),(912501,⟨List.map m7.Pv j16,(List.map m7.Pv j16).length,true,2,true⟩)]) (λj16 h=>?_) λκ15 h=>?_
 ·refine S4 2 J ?_;refine b9 ?_;cases h;exact f1
 ·refine S4 1 J ?_;refine j5<|a2H (WPE (λl=>if l=2012 then 5 else if l=2013 then 3 else l) [(3,.ptr 2013 0 0),(5,.ptr 2012 0 0),(7,.fn (.func 248) [.rptr [.L b8.Pv a0]])] [(2012,vR (.nl) 1),(2013,vR (.fn (.func 246) []) 1)]) ?_
  refine a1E (fn:=Tryz.f248) (N1:=27) J Tryz.func248 J J nl J b98 J J (λl20 e21 o22 hR23=>?_);refine S3 1 J<|cF h a9Z J J λv17 _ h=>nL J l5<|S2 1 J<|j5<|lq h (λq=>St.of [(1000003,.ptr 2013 0 0),(1000005,.ptr 2012 0 0),(1000007,.fn (.func 248) [.rptr [.L b8.Pv a0]]),(0,.fn (.yield l20) []),(1,.rptr [.L b8.Pv a0]),(8,.L iF v17),(9,.I (v17.length:Int)),(10,.I q.1)] [(2012,vS (.sl 912512) 1),(2013,vR (.fn (.func 246) []) 1),(912512,⟨List.map m7.Pv q.2,(List.map m7.Pv q.2).length,true,2,true⟩)]) (Wk.trans (b2E (l0:=2012) (j:=0) (l:=922512) (z:=2) J J J J J) (WP (λl=>if l=912512 then 922512 else l))) λq22 x21 h hx27=>?_
  obtain⟨s19,s20⟩:=q22;refine S4 1 J<|g7 ?_;refine cN h (λhc h=>?_) λhc h=>?_
  ·refine c5 ?_;refine g7<|j5<|sR<|iL h J J l5 o9 λv23 _ h=>S2 2 J<|S3 2 J<|cA h a4i J J λv24 _ h=>S2 5 J<|S3 3 J<|y0 J (s7 (cs:=[.I v23,.I v24.1]) J c0a a7Q J J J)<|P8 (WPE (λl=>if l=2021 then 912512 else l) [(1000003,.ptr 2013 0 0),(1000005,.ptr 2012 0 0),(1000007,.fn (.func 248) [.rptr [.L b8.Pv a0]]),(0,.fn (.yield l20) []),(1,.rptr [.L b8.Pv a0]),(8,.L iF v17),(9,.I (v17.length:Int)),(10,.I s19),(20,.fn (.yield l20) []),(23,.agg [.I v23,.I v24.1])] [(2012,vS (.sl 2021) 1),(2021,⟨List.map m7.Pv s20,(List.map m7.Pv s20).length,true,2,true⟩),(2013,vR (.fn (.func 246) []) 1)]) ?_
   refine a6y hR23 J J J J J J (λe30 o31 o32=>?_);refine S6 2 J ?_;refine⟨J,?_⟩;refine jqE h (λj28=>St.of [(2000003,.ptr 2013 0 0),(2000005,.ptr 2012 0 0),(2000007,.fn (.func 248) [.rptr [.L b8.Pv a0]]),(1000000,.fn (.yield l20) []),(1000001,.rptr [.L b8.Pv a0]),(1000008,.L iF v17),(1000009,.I (v17.length:Int)),(1000010,.I s19),(1000020,.fn (.yield l20) []),(1000023,.agg [.I v23,.I v24.1])] [(2012,vS (.sl 15) 1),(15,⟨List.map m7.Pv j28,(List.map m7.Pv j28).length,true,2,true⟩),(2013,vR (.fn (.func 246) []) 1)]) (λj28 h=>?_) λκ27 h=>?_
   ·refine⟨J,?_⟩;refine P8 (WPE (λl=>if l=2022 then 15 else l) [(1000003,.ptr 2013 0 0),(1000005,.ptr 2012 0 0),(1000007,.fn (.func 248) [.rptr [.L b8.Pv a0]]),(0,.fn (.yield l20) []),(1,.rptr [.L b8.Pv a0]),(8,.L iF v17),(9,.I (v17.length:Int)),(10,.I s19),(24,.bool true)] [(2012,vS (.sl 2022) 1),(2022,⟨List.map m7.Pv j28,(List.map m7.Pv j28).length,true,2,true⟩),(2013,vR (.fn (.func 246) []) 1)])<|S2 1 J ?_
    refine F8 false J (λq=>nomatch q) (λ_=>?_);refine c5<|S6 2 J ?_;exact eL h (Wk.trans (p9 _ [2022]) (WP (λl=>if l=912512 then 2022 else l)))
   ·refine j5 ?_;refine S3 2 J<|cA h b0T J J λv29 _ h=>yN ?_;refine cN h (λhc h=>?_) λhc h=>?_
    ·refine S5 2 J ?_;refine y0 J (a0t (f:=m7.Pv) (l:=[(⟨v23,v24.1⟩:m7)]) J a5C a9A a7Q J J nl J J)<|A2 h λv30 hv37 h=>a10 J (a1C (f:=m7.Pv) hv37 J J J J J J (.inl ⟨_,J,J⟩) a5C a9A b95 a7Q J (λ_=>J)) J J J<|S2 1 J ?_;exact eJ h (Wk.trans (p9 _ [15]) W)
    ·refine c5 ?_;exact eJ h (Wk.trans (p9 _ [2021]) (WP (λl=>if l=15 then 2021 else l)))
  ·refine u4 ?_;refine g5<|g5<|n0 ?_;refine .inl ⟨J,?_⟩;have h:=xL hx27 h;exact eJ h (Wk.trans (p9 _ [912512]) (WP (λl=>if l=2001 then 2012 else if l=912501 then 912512 else l)))

theorem b2V{a0}:PO Tryz.prog 241 [.L b8.Pv a0] (a4g a0) λr=>.L m7.Pv r:=by
 refine pO Tryz.func241 λr h _ _=>?_;refine S4 1 J<|S3 1 J<|cF h a63 J J λv1 _ h=>cF h H4 J J λv2 _ h=>S2 1 J<|b9 ?_;cases h;exact f1

theorem a8N{a0 a1}:PO Tryz.prog 240 [.I a0,.rptr (a7.Pc a1)] (a3D a0 a1) λr=>.bool r:=by
 refine pO Tryz.func240 λr h _ _=>?_;refine S4 1 J<|S3 2 J<|cF h A0 J J λv1 _ h=>S2 6 J<|S4 3 J<|b9 ?_;cases h;exact f1

theorem b5P{a0 a1 a2}:PON Tryz.prog 234 [a7.Pv a0,.L b8.Pv a1,.L iF a2] (a9O a0 a1 a2) λr=>⟨List.map iF r,(List.map iF r).length,true,1,true⟩:=by
 refine pON Tryz.func234 λr h _ _=>?_;refine S4 2 J<|S4 2 J<|S4 1 J ?_;refine jq h (λj20=>St.of [(8,.sl 910008)] [(910008,⟨List.map iF j20,(List.map iF j20).length,true,1,true⟩)]) (λj20 h=>?_) λκ19 h=>?_
 ·refine S4 2 J ?_;refine a2H (p9 _ [910008])<|b9 ?_;cases h;exact⟨J,_,_,J,J,J,J⟩
 ·refine S3 1 J ?_;refine cF h b2V J J λv21 _ h=>nL J a5C<|S2 1 J<|j5<|lq h (λq=>St.of [(2,.L iF a2),(7,.fn (.func 240) [.ptr 3 0 0]),(8,.sl 910008),(13,.L m7.Pv v21),(14,.I (v21.length:Int)),(15,.I q.1)] [(3,vR (a7.Pv a0) 3),(910008,⟨List.map iF q.2,(List.map iF q.2).length,true,1,true⟩)]) (Wk.trans (X0 (t:=8) (l:=920008) (z:=1) J J) (WP (λl=>if l=910008 then 920008 else l))) λq26 x25 h hx20=>?_
  obtain⟨s23,s24⟩:=q26;refine S4 1 J<|g7 ?_;refine cN h (λhc h=>?_) λhc h=>?_
  ·refine c5 ?_;refine jq h (λj33=>St.of [(2,.L iF a2),(7,.fn (.func 240) [.ptr 3 0 0]),(8,.sl 39),(13,.L m7.Pv v21),(14,.I (v21.length:Int)),(15,.I s23)] [(39,⟨List.map iF j33,(List.map iF j33).length,true,1,true⟩),(3,vR (a7.Pv a0) 3)]) (λj33 h=>?_) λκ32 h=>?_
   ·refine S6 2 J ?_;exact eL h (Wk.trans (p9 _ [39]) (WP (λl=>if l=910008 then 39 else l)))
   ·refine j5 ?_;refine sR<|iL h J J a5C a9A λv34 _ h=>S2 3 J<|S3 3 J<|cA h M7 J J λv35 _ h=>S1 1 J<|m9 J (λhg=>om (d:=.fn (.func 240) [.ptr 3 0 0]) J)<|m9 J (λhg=>oF J c1n J)<|m9 J (λhg=>oS (ct hg) J J G5 J)<|A2 h λv36 hv29 h=>m9 J (λhg=>P0 (ct hg) a8N (U2 (ct hg) J) (P6 hv29 hg))<|y0 J (E6 J J J (λq=>eqT q))<|S1 1 J<|m9 J (λhg=>om (d:=.fn (.func 240) [.ptr 3 0 0]) J)<|m9 J (λhg=>oF J b4y J)<|m9 J (λhg=>oS (ct hg) J J G5 J)<|A2 h λv37 hv30 h=>m9 J (λhg=>P0 (ct hg) a8N (U2 (ct hg) J) (P6 hv30 hg))<|y0 J (E6 J J J (λq=>eqT q))<|yN ?_;refine cN h (λhc h=>?_) λhc h=>?_
    ·refine S5 3 J ?_;refine y0 J (a0t (f:=iF) (l:=[v34.Val]) J l5 o9 E0 J J nl J J)<|A2 h λv38 hv31 h=>a10 J (a1C (f:=iF) hv31 J J J J J J (.inl ⟨_,J,J⟩) l5 o9 Y3 E0 J (λ_=>J)) J J J<|S2 1 J ?_;exact eJ h (Wk.trans (p9 _ [39]) W)
    ·refine c5 ?_;exact eJ h (Wk.trans (p9 _ [910008]) (WP (λl=>if l=39 then 910008 else l)))
  ·refine u4 ?_;refine g5<|g5<|n0 ?_;have h:=xL hx20 h;exact eJ h (Wk.trans (p9 _ [910008]) W)

theorem b5O{a0 a1 a2}:PO Tryz.prog 217 [a7.Pv a0,.L b8.Pv a1,.L iF a2] (a7V a0 a1 a2) λr=>.tup [.L iF r.1,.I r.2]:=by
 refine pO Tryz.func217 λr h _ _=>?_;refine S4 3 J<|b7X<|S3 2 J<|cF h a8U J J λv1 _ h=>S2 1 J<|g7<|b7W<|j5<|lq h (λq=>St.of [(1,.L b8.Pv a1),(3,.ptr 3 0 0),(6,.L iF q.1),(7,.I q.2)] [(3,vR (a7.Pv a0) 3)]) W λq6 x5 h hx4=>?_;obtain⟨s3,s4⟩:=q6;refine j5<|S3 3 J<|A2 h λv7 hv5 h=>ycN J (b43 J b5P J hv5) J J<|S2 1 J ?_;refine jq h (λ_=>St.of [(6,.L iF s3),(7,.I s4)] []) (λq16 h=>?_) λκ15 h=>?_
 ·refine S4 4 J ?_;refine b9 ?_;have h:=xL hx4 h;cases h;exact f2
 ·refine S3 1 J ?_;refine y0 J (c3U (f:=iF) J J J l5)<|S2 1 J<|j5<|lq h (λs18=>St.of [(1,.L b8.Pv a1),(3,.ptr 3 0 0),(6,.L iF s3),(7,.I s4),(8,.sl 17),(18,.sl 17),(19,.I (v7.length:Int)),(20,.I s18)] [(17,⟨List.map iF v7,(List.map iF v7).length,true,1,true⟩),(3,vR (a7.Pv a0) 3)]) (Wk.trans (p9 _ [17]) W) λs18 x19 h hx16=>S4 1 J<|g7 ?_;refine cN h (λhc h=>?_) λhc h=>?_
  ·refine c5 ?_;refine g7<|j5<|sR<|A2 h λv20 hv17 h=>y0 J (a8R (f:=iF) hv17 J J J J l5 o9 J)<|y0 J (c3T (f:=iF) hv17 J J J G5 J)<|S2 1 J<|S3 2 J<|cA h M7 J J λv21 _ h=>S2 1 J ?_;refine cN h (λhc h=>?_) λhc h=>?_
   ·refine dr [4] u5 (by kernel_rfl) (by kernel_rfl) ?_
    refine S7 3 J<|A2 h λv22 hv19 h=>d3a J (a1C (f:=iF) hv19 J J J J J J (.inl ⟨_,J,J⟩) l5 o9 Y3 E0 J (λ_=>J)) J J J J J<|A2 h λv23 hv20 h=>d5f J (y8 J a8U J hv20) J J<|S8 1 J<|S4 3 J<|u4<|a5H (by decide)<|g5<|g5<|a5H (by decide)<|g5<|n0 ?_
    have h:=xL hx16 h;exact eL h W
   ·refine c5 ?_;refine S6 2 J ?_;exact eL h (Wk.trans (p9 _ [17]) W)
  ·refine u4 ?_;refine g5<|g5<|n0 ?_;have h:=xL hx16 h;exact eJ h W

theorem b7p{a0 a1 a2}:PO Tryz.prog 191 [a7.Pv a0,.L b8.Pv a1,.L iF a2] (a9N a0 a1 a2) λr=>.L iF r:=by
 refine pO Tryz.func191 λr h _ _=>?_;refine S4 2 J<|S3 3 J<|cF h b5O J J λv1 _ h=>S2 5 J<|S4 2 J<|b9 ?_;cases h;exact f1

theorem b1Z{a0 a1}:PO Tryz.prog 216 [.I a0,.rptr [.abs (U0 (List.map (ent iF PV.bool) a1))]] (a3g a0 a1) λr=>.bool r:=by
 refine pO Tryz.func216 λr h _ _=>?_;unfold a3g at h;refine S4 1 J<|S3 2 J<|y0 J (b7N (es:=a1) (k:=a0) (E:=PV.bool) (EK:=iF) (d:=.bool ((z6 a1 a0).getD (false:Bool))) J J a2u (x4 I8) b7f J (lk1 _ _ _))<|S2 2 J<|b9 ?_;cases h;exact f1

theorem a3i{a0 a1}:PO Tryz.prog 215 [a7.Pv a0,.fn (.func 216) [.rptr [.abs (U0 (List.map (ent iF PV.bool) a1))]]] (P2 a0 a1) λr=>.L iF r:=by
 refine pO Tryz.func215 λr h _ _=>?_;refine S4 2 J<|S4 1 J ?_;refine jq h (λj16=>St.of [(5,.sl 910005)] [(910005,⟨List.map iF j16,(List.map iF j16).length,true,1,true⟩)]) (λj16 h=>?_) λκ15 h=>?_
 ·refine S4 2 J ?_;refine b9 ?_;cases h;exact f1
 ·refine S3 1 J ?_;refine cF h I7 J J λv17 _ h=>nL J l5<|S2 1 J<|j5<|lq h (λq=>St.of [(1,.fn (.func 216) [.rptr [.abs (U0 (List.map (ent iF PV.bool) a1))]]),(5,.sl 910005),(9,.L iF v17),(10,.I (v17.length:Int)),(11,.I q.1)] [(910005,⟨List.map iF q.2,(List.map iF q.2).length,true,1,true⟩)]) (Wk.trans (X0 (t:=5) (l:=920005) (z:=1) J J) (WP (λl=>if l=910005 then 920005 else l))) λq22 x21 h hx16=>?_
  obtain⟨s19,s20⟩:=q22;refine S4 1 J<|g7 ?_;refine cN h (λhc h=>?_) λhc h=>?_
  ·refine c5 ?_;refine jq h (λj27=>St.of [(1,.fn (.func 216) [.rptr [.abs (U0 (List.map (ent iF PV.bool) a1))]]),(5,.sl 21),(9,.L iF v17),(10,.I (v17.length:Int)),(11,.I s19)] [(21,⟨List.map iF j27,(List.map iF j27).length,true,1,true⟩)]) (λj27 h=>?_) λκ26 h=>?_
   ·refine S6 2 J ?_;exact eL h (Wk.trans (p9 _ [21]) (WP (λl=>if l=910005 then 21 else l)))
   ·refine j5 ?_;refine sR<|iL h J J l5 o9 λv28 _ h=>S2 2 J<|S3 2 J<|cA h b1Z J J λv29 _ h=>yN ?_;refine cN h (λhc h=>?_) λhc h=>?_
    ·refine S5 2 J ?_;refine y0 J (a0t (f:=iF) (l:=[v28]) J l5 o9 E0 J J nl J J)<|A2 h λv30 hv23 h=>a10 J (a1C (f:=iF) hv23 J J J J J J (.inl ⟨_,J,J⟩) l5 o9 Y3 E0 J (λ_=>J)) J J J<|S2 1 J ?_;exact eJ h (Wk.trans (p9 _ [21]) W)
    ·refine c5 ?_;exact eJ h (Wk.trans (p9 _ [910005]) (WP (λl=>if l=21 then 910005 else l)))
  ·refine u4 ?_;refine g5<|g5<|n0 ?_;have h:=xL hx16 h;exact eJ h (Wk.trans (p9 _ [910005]) W)

theorem b4p{a0 a1}:PO Tryz.prog 190 [a7.Pv a0,.L iF a1] (a6f a0 a1) λr=>.L iF r:=by
 refine pO Tryz.func190 λr h _ _=>?_;refine S4 2 J<|S3 2 J<|cF h a6I J J λv1 _ h=>S2 2 J<|S3 2 J<|A2 h λv2 hv2 h=>ycL J (y8 J a3i J hv2) J<|S2 1 J<|b9 ?_;cases h;exact f1

theorem b7q{a0 a1 a2}:PO Tryz.prog 141 [a7.Pv a0,.L b8.Pv a1,.L iF a2] (a65 a0 a1 a2) λr=>.L iF r:=by
 refine pO Tryz.func141 λr h _ _=>?_;unfold a65 at h;refine S4 2 J<|dr [] u5 (by kernel_rfl) (by kernel_rfl)<|S7 4 J<|A2 h λv1 hv1 h=>d2f J (y8 J b7p J hv1) J<|A2 h λv2 hv2 h=>d2f J (y8 J b4p J hv2) J<|S8 1 J<|b9 ?_
 cases h;exact f1

theorem b1x{a0 a1}:PO Tryz.prog 91 [a7.Pv a0,.L b8.Pv a1] (a0K a0 a1) λr=>.L iF r:=by
 refine pO Tryz.func91 λr h _ _=>?_;unfold a0K at h;refine S4 2 J<|dr [] u5 (by kernel_rfl) (by kernel_rfl)<|S7 4 J<|A2 h λv1 hv1 h=>d2f J (y8 J b4u J hv1) J<|A2 h λv2 hv2 h=>d2f J (y8 J b7q J hv2) J<|S8 1 J<|b9 ?_
 cases h;exact f1

theorem a3z{a0}:PO Tryz.prog 47 [b6.Pv a0] (N5 a0) λr=>.L iF r:=by
 refine pO Tryz.func47 λr h _ _=>?_;refine S4 2 J<|S3 4 J<|cF h b1x J J λv1 _ h=>S2 1 J<|b9 ?_;cases h;exact f1

theorem a89{a0 a1}:PO Tryz.prog 80 [.I a0,.rptr (b6.Pc a1)] (a2S a0 a1) λr=>.bool r:=by
 refine pO Tryz.func80 λr h _ _=>?_;refine S4 1 J<|S3 3 J<|cF h A0 J J λv1 _ h=>S2 6 J<|S3 4 J<|m9 J (λhg=>oF J b7d J)<|m9 J (λhg=>oS (ct hg) J J b7a J)<|m9 J (λhg=>a2F (ct hg) J)<|y0 J (E6 J J J (λq=>eqT q))<|S2 1 J<|b9 ?_;cases h;exact f1

theorem a0q{a0 a1}:PO Tryz.prog 79 [.L iF a0,.fn (.func 80) [.rptr (b6.Pc a1)]] (E5 a0 a1) λr=>.L iF r:=by
 refine pO Tryz.func79 λr h _ _=>?_;refine S4 1 J<|S4 1 J ?_;refine jq h (λj15=>St.of [(5,.sl 910005)] [(910005,⟨List.map iF j15,(List.map iF j15).length,true,1,true⟩)]) (λj15 h=>?_) λκ14 h=>?_
 ·refine S4 2 J ?_;refine b9 ?_;cases h;exact f1
 ·refine S3 1 J ?_;refine nL J l5<|S2 1 J<|j5<|lq h (λq=>St.of [(1,.fn (.func 80) [.rptr (b6.Pc a1)]),(5,.sl 910005),(8,.L iF a0),(9,.I (a0.length:Int)),(10,.I q.1)] [(910005,⟨List.map iF q.2,(List.map iF q.2).length,true,1,true⟩)]) (Wk.trans (X0 (t:=5) (l:=920005) (z:=1) J J) (WP (λl=>if l=910005 then 920005 else l))) λq20 x19 h hx14=>?_
  obtain⟨s17,s18⟩:=q20;refine S4 1 J<|g7 ?_;refine cN h (λhc h=>?_) λhc h=>?_
  ·refine c5 ?_;refine jq h (λj25=>St.of [(1,.fn (.func 80) [.rptr (b6.Pc a1)]),(5,.sl 20),(8,.L iF a0),(9,.I (a0.length:Int)),(10,.I s17)] [(20,⟨List.map iF j25,(List.map iF j25).length,true,1,true⟩)]) (λj25 h=>?_) λκ24 h=>?_
   ·refine S6 2 J ?_;exact eL h (Wk.trans (p9 _ [20]) (WP (λl=>if l=910005 then 20 else l)))
   ·refine j5 ?_;refine sR<|iL h J J l5 o9 λv26 _ h=>S2 2 J<|S3 2 J<|cA h a89 J J λv27 _ h=>yN ?_;refine cN h (λhc h=>?_) λhc h=>?_
    ·refine S5 2 J ?_;refine y0 J (a0t (f:=iF) (l:=[v26]) J l5 o9 E0 J J nl J J)<|A2 h λv28 hv21 h=>a10 J (a1C (f:=iF) hv21 J J J J J J (.inl ⟨_,J,J⟩) l5 o9 Y3 E0 J (λ_=>J)) J J J<|S2 1 J ?_;exact eJ h (Wk.trans (p9 _ [20]) W)
    ·refine c5 ?_;exact eJ h (Wk.trans (p9 _ [910005]) (WP (λl=>if l=20 then 910005 else l)))
  ·refine u4 ?_;refine g5<|g5<|n0 ?_;have h:=xL hx14 h;exact eJ h (Wk.trans (p9 _ [910005]) W)

theorem b0O{a0}:PO Tryz.prog 44 [b6.Pv a0] (a2n a0) λr=>.L iF r:=by
 refine pO Tryz.func44 λr h _ _=>?_;refine S4 2 J<|S3 1 J<|cF h a3z J J λv1 _ h=>S1 1 J<|A2 h λv2 hv2 h=>ycL J (y8 J a0q J hv2) J<|S2 1 J<|b9 ?_;cases h;exact f1

theorem a9a{a0}:PO Tryz.prog 30 [b6.Pv a0] (U1 a0) λr=>.tup [b6.Pv r.1,.I r.2.1,.I r.2.2]:=by
 refine pO Tryz.func30 λr h _ _=>?_;refine S4 4 J<|S3 1 J<|cF h b0O J J λv1 _ h=>S2 1 J ?_;refine jq h (λj10=>St.of [(1,.ptr 1 0 0),(2,.ptr 2 0 0),(5,.L iF v1)] [(2,vR (.agg [.nl,.I 0,.I 0,.nl,.nl,.nl,.nl,.I 0]) 8),(1,vR (b6.Pv j10) 8)]) (λj10 h=>?_) λκ9 h=>?_
 ·refine g7 ?_;refine S3 1 J<|nL J l5<|S2 1 J ?_;refine cN h (λhc h=>?_) λhc h=>?_
  ·refine S3 2 J ?_;refine nL J l5<|S2 3 J<|b9 ?_;cases h;exact⟨J,[_,_,_],⟨oL J J J o7 n8 nl J,⟨J,⟨J,tr⟩⟩⟩,J,io⟩
  ·refine c5 ?_;refine dr [] u5 (by kernel_rfl) (by kernel_rfl)<|S7 2 J<|A2 h λv11 hv8 h=>d2f J (y8 J a3z J hv8) J<|A2 h λv12 hv9 h=>d2f J (y8 J a7F J hv9) J<|A2 h λv13 hv10 h=>d2f J (y8 J a0k J hv10) J<|S7 1 J<|C6 (x':=b6.Pv v13) (cl':=true) J J (.inr J) n8<|T0<|dr [4,8] u5 (by kernel_rfl) (by kernel_rfl)<|S7 3 J<|A2 h λv14 hv11 h=>d2f J (y8 J I7 J hv11) J<|d7 J (λ_ hN=>a28 (f:=iF) J l5) J<|S7 2 J<|A2 h λv15 hv12 h=>d2f J (y8 J I7 J hv12) J<|d7 J (λ_ hN=>a28 (f:=iF) J l5) J<|S7 1 J<|C6 (x':=b6.Pv v13) (cl':=true) J J (.inr J) n8<|S8 2 J<|b9 ?_
   cases h;exact⟨J,[_,_,_],⟨oL J J J o7 n8 nl J,⟨J,⟨J,tr⟩⟩⟩,J,io⟩
 ·refine S3 1 J ?_;refine nL J l5<|S2 1 J<|j5<|lq h (λq=>St.of [(1,.ptr 1 0 0),(2,.ptr 2 0 0),(5,.L iF v1),(11,.L iF v1),(12,.I (v1.length:Int)),(13,.I q.1)] [(2,vR (.agg [.nl,.I 0,.I 0,.nl,.nl,.nl,.nl,.I 0]) 8),(1,vR (b6.Pv q.2) 8)]) W λq20 x19 h hx15=>?_;obtain⟨s17,s18⟩:=q20;refine S4 1 J<|g7 ?_;refine cN h (λhc h=>?_) λhc h=>?_
  ·refine c5 ?_;refine g7<|j5<|sR<|iL h J J l5 o9 λv21 _ h=>S2 2 J<|S5 2 J<|cF h a5q J J λv22 _ h=>S2 1 J<|S6 2 J ?_;exact eL h W
  ·refine u4 ?_;refine g5<|g5<|n0 ?_;have h:=xL hx15 h;exact eJ h W

theorem a4P{a0 a1}:PO Tryz.prog 196 [c7.Pv a0,.I a1] (W8 a0 a1) λr=>.tup [c7.Pv r.1,.L g9.Pv r.2]:=by
 refine pO Tryz.func196 λr h _ _=>?_;refine S4 3 J<|S3 2 J<|cA h L6 J J λv1 hv1 h=>y0 J (c7F J J J)<|y0 J (c3W J J J)<|S2 1 J<|S3 3 J<|cF h R5 J J λv2 _ h=>S2 1 J<|dr [] u5 (by kernel_rfl) (by kernel_rfl)<|S7 4 J<|d2 J (P0 J L6 J hv1) J<|A2 h λv3 hv3 h=>d2f J (y8 J R5 J hv3) J<|S7 1 J<|C6 (x':=.agg [.L g9.Pv v3,.I a0.Cap]) (cl':=true) J J (.inr J) c2v<|T0<|S4 4 J<|b9 ?_
 cases h;exact⟨J,[_,_],⟨oL J J J a4D a1q nl J,⟨J,tr⟩⟩,J,io⟩

theorem a6c{a0}:PO Tryz.prog 143 [c7.Pv a0] (a0w a0) λr=>.tup [c7.Pv r.1,g9.Pv r.2.1,.I r.2.2]:=by
 refine pO Tryz.func143 λr h _ _=>?_;refine S4 4 J<|S3 1 J<|cF h a4P J J λv1 _ h=>S2 6 J<|g7<|S3 1 J<|nL J a6V<|S2 1 J ?_;refine cN h (λhc h=>?_) λhc h=>?_
 ·refine S4 1 J ?_;refine dr [1,1007] u5 (by kernel_rfl) (by kernel_rfl)<|S7 1 J<|d7 J (λ_ hN=>a51 (cs:=[.I 0,.I 0,.I 0]) hN J J J J a1n J7 nl J) J<|C6 (x':=c7.Pv a0) (cl':=true) J J (.inr J) a1q<|C6 (x':=.agg [.I 0,.I 0,.I 0]) (cl':=true) J J (.inl J) J7<|S8 1 J<|b9 ?_
  cases h;exact⟨J,[_,_,_],⟨oL J J J a4D a1q nl J,⟨oL J J J a1n J7 nl J,⟨J,tr⟩⟩⟩,J,io⟩
 ·refine c5 ?_;refine dr [2,3] u5 (by kernel_rfl) (by kernel_rfl)<|S7 2 J<|A2 h λv2 hv2 h=>d7 J (λ_ hN=>J2 (f:=g9.Pv) (cs:=g9.Pc v2) hv2 J J a6V J7 J J) J<|d7 J (λ_ hN=>c3V J a1n J7 nl J) J<|C6 (x':=c7.Pv v1.1) (cl':=true) J J (.inr J) a1q<|C6 (x':=g9.Pv v2) (cl':=true) J J (.inl J) J7<|S8 1 J<|b9 ?_
  cases h;exact⟨J,[_,_,_],⟨oL J J J a4D a1q nl J,⟨oL J J J a1n J7 nl J,⟨J,tr⟩⟩⟩,J,io⟩

theorem a6q{a0}:PO Tryz.prog 93 [c7.Pv a0] (a1j a0) λr=>.tup [c7.Pv r.1,g9.Pv r.2.1,.I r.2.2]:=by
 refine pO Tryz.func93 λr h _ _=>?_;refine S4 4 J<|S3 1 J<|cF h a6c J J λv1 _ h=>S2 6 J<|b9 ?_;cases h;exact⟨J,[_,_,_],⟨oL J J J a4D a1q nl J,⟨oL J J J a1n J7 nl J,⟨J,tr⟩⟩⟩,J,io⟩

theorem a61{a0}:PO Tryz.prog 49 [b6.Pv a0] (a2x a0) λr=>.bool r:=by
 refine pO Tryz.func49 λr h _ _=>?_;refine S4 2 J<|S3 2 J<|cF h a6q J J λv1 _ h=>S2 9 J<|S4 3 J<|b9 ?_;cases h;exact f1

theorem a8L{a0 a1}:PO Tryz.prog 144 [.L (Ls c9.Pv) a0,.I a1] (a3B a0 a1) λr=>.L c9.Pv r:=by
 refine pO Tryz.func144 λr h _ _=>?_;refine S4 1 J<|g7<|S3 3 J<|m9 J (λhg=>mI J)<|m9 J (λhg=>om (d:=.L (Ls c9.Pv) a0) J)<|m9 J (λhg=>a28 (f:=(Ls c9.Pv)) (ct hg) a6W)<|m9 J (λhg=>B8 (ct hg) (ct hg) J)<|y0 J (E8 J J J (λq=>eqF q))<|yN ?_;refine cN h (λhc h=>?_) λhc h=>?_
 ·refine S4 1 J ?_;refine b9 ?_;cases h;exact f1
 ·refine c5 ?_;refine S3 2 J<|iL h J J a6W b8H λv1 _ h=>S2 2 J<|b9 ?_;cases h;exact f1

theorem b4i{a0 a1}:PO Tryz.prog 94 [.L (Ls c9.Pv) a0,g9.Pv a1] (a5L a0 a1) λr=>.I r:=by
 refine pO Tryz.func94 λr h _ _=>?_;refine S4 2 J<|S3 3 J<|cF h a8L J J λv1 _ h=>nL J a8Z<|S2 2 J<|b9 ?_;cases h;exact f1

theorem b3i{a0 a1}:PO Tryz.prog 146 [b6.Pv a0,.L c9.Pv a1] (a2B a0 a1) λr=>.tup [b6.Pv r.1,.L iF r.2]:=by
 refine pO Tryz.func146 λr h _ _=>?_;refine S4 3 J<|S4 1 J ?_;refine jq h (λq=>St.of [(2,.ptr 2 0 0),(4,.ptr 4 0 0),(6,.sl 910006)] [(910006,⟨List.map iF q.2,(List.map iF q.2).length,true,1,true⟩),(4,vR (.agg [.nl,.I 0,.I 0,.nl,.nl,.nl,.nl,.I 0]) 8),(2,vR (b6.Pv q.1) 8)]) (λq13 h=>?_) λκ10 h=>?_
 ·obtain⟨j11,j12⟩:=q13;refine S4 4 J<|b9 ?_;cases h;exact⟨J,[_,_],⟨oL J J J o7 n8 nl J,⟨J,tr⟩⟩,J,io⟩
 ·refine S3 1 J ?_;refine nL J a8Z<|S2 1 J<|j5<|lq h (λq=>St.of [(2,.ptr 2 0 0),(4,.ptr 4 0 0),(6,.sl 910006),(10,.L c9.Pv a1),(11,.I (a1.length:Int)),(12,.I q.1)] [(4,vR (.agg [.nl,.I 0,.I 0,.nl,.nl,.nl,.nl,.I 0]) 8),(2,vR (b6.Pv q.2.1) 8),(910006,⟨List.map iF q.2.2,(List.map iF q.2.2).length,true,1,true⟩)]) (Wk.trans (X0 (t:=6) (l:=920006) (z:=1) J J) (WP (λl=>if l=910006 then 920006 else l))) λq19 x18 h hx10=>?_
  obtain⟨s15,s16,s17⟩:=q19;refine S4 1 J<|g7 ?_;refine cN h (λhc h=>?_) λhc h=>?_
  ·refine c5 ?_;refine g7<|j5<|sR<|iL h J J a8Z a81 λv20 _ h=>S2 3 J<|S4 1 J<|S3 2 J<|cF h a8Q J J λv21 _ h=>S2 6 J<|S5 2 J<|y0 J (a0t (f:=iF) (l:=[v21.2.1]) J l5 o9 E0 J J nl J J)<|A2 h λv22 hv13 h=>a10 J (a1C (f:=iF) hv13 J J J J J J (.inl ⟨_,J,J⟩) l5 o9 Y3 E0 J (λ_=>J)) J J J<|S2 1 J<|S6 2 J ?_;exact eL h (Wk.trans (p9 _ [26]) (WP (λl=>if l=910006 then 26 else l)))
  ·refine u4 ?_;refine g5<|g5<|n0 ?_;have h:=xL hx10 h;exact eJ h (Wk.trans (p9 _ [910006]) W)

theorem b4j{a0 a1}:PO Tryz.prog 95 [b6.Pv a0,.L (Ls c9.Pv) a1] (a5M a0 a1) λr=>.tup [b6.Pv r.1,g9.Pv r.2.1,.I r.2.2]:=by
 refine pO Tryz.func95 λr h _ _=>?_;refine S4 4 J<|S3 2 J<|cF h a6q J J λv1 _ h=>S2 9 J<|g7<|S4 2 J ?_;refine cN h (λhc h=>?_) λhc h=>?_
 ·refine S3 1 J ?_;refine y0 J (s7 (cs:=[.I 0,.I 0,.I 0]) J b5t a9B J J J)<|S2 4 J<|b9 ?_;cases h;exact⟨J,[_,_,_],⟨oL J J J o7 n8 nl J,⟨oL J J J a1n J7 nl J,⟨J,tr⟩⟩⟩,J,io⟩
 ·refine c5 ?_;refine S4 3 J<|S4 4 J ?_;refine jq h (λj6=>St.of [(1,.L (Ls c9.Pv) a1),(2,.ptr 2 0 0),(4,.ptr 4 0 0),(5,.ptr 5 0 0),(8,.ptr 8 0 0),(10,.bool (v1.2.1.Kind==1))] [(8,vR (g9.Pv v1.2.1) 3),(5,vR (.agg [.I 0,.I 0,.I 0]) 3),(4,vR (.agg [.nl,.I 0,.I 0,.nl,.nl,.nl,.nl,.I 0]) 8),(2,vR (b6.Pv j6) 8)]) (λj6 h=>?_) λκ5 h=>?_
  ·refine dr [] u5 (by kernel_rfl) (by kernel_rfl) ?_
   refine S7 4 J<|A2 h λv7 hv6 h=>d2f J (y8 J a8L J hv6) J<|A2 h λv8 hv7 h=>d2f J (y8 J b3i J hv7) J<|S7 3 J<|C6 (x':=b6.Pv v8.1) (cl':=true) J J (.inr J) n8<|T0<|g7<|S4 1 J ?_;refine cN h (λhc h=>?_) λhc h=>?_
   ·refine S3 1 J ?_;refine cF h a5V J J λv9 _ h=>S2 4 J<|S5 1 J<|cF h a0k J J λv10 _ h=>S2 1 J<|dr [1,1008] u5 (by kernel_rfl) (by kernel_rfl)<|S7 1 J<|d7 J (λ_ hN=>a51 (cs:=g9.Pc v1.2.1) hN J J J J a1n J7 nl J) J<|C6 (x':=b6.Pv v10) (cl':=true) J J (.inr J) n8<|C6 (x':=g9.Pv v1.2.1) (cl':=true) J J (.inl J) J7<|S8 1 J<|b9 ?_
    cases h;exact⟨J,[_,_,_],⟨oL J J J o7 n8 nl J,⟨oL J J J a1n J7 nl J,⟨J,tr⟩⟩⟩,J,io⟩
   ·refine c5 ?_;refine dr [1,1008] u5 (by kernel_rfl) (by kernel_rfl)<|S7 1 J<|d7 J (λ_ hN=>a51 (cs:=g9.Pc v1.2.1) hN J J J J a1n J7 nl J) J<|C6 (x':=b6.Pv v8.1) (cl':=true) J J (.inr J) n8<|C6 (x':=g9.Pv v1.2.1) (cl':=true) J J (.inl J) J7<|S8 1 J<|b9 ?_
    cases h;exact⟨J,[_,_,_],⟨oL J J J o7 n8 nl J,⟨oL J J J a1n J7 nl J,⟨J,tr⟩⟩⟩,J,io⟩
  ·refine S4 1 J ?_;refine cN h (λhc h=>?_) λhc h=>?_
   ·refine S3 3 J ?_;refine cF h a5V J J λv11 _ h=>S2 4 J<|S5 3 J<|cF h U5 J J λv12 _ h=>cF h a0k J J λv13 _ h=>S2 1 J ?_;exact eJ h W
   ·refine c5 ?_;exact eJ h W

theorem b2R{a0 a1 a2}:PO Tryz.prog 31 [b6.Pv a0,.L (Ls c9.Pv) a1,.I a2] (a2w a0 a1 a2) λr=>.tup [b6.Pv r.1,.I r.2.1,.I r.2.2.1,.I r.2.2.2]:=by
 refine pO Tryz.func31 λr h _ _=>?_;refine S4 6 J<|S4 2 J ?_;refine jq h (λq=>St.of [(3,.ptr 2004 0 0),(5,.ptr 2003 0 0),(6,.ptr 2002 0 0),(10,.ptr 2001 0 0)] [(2001,vR (.I q.1) 1),(2002,vR (.agg [.nl,.I 0,.I 0,.nl,.nl,.nl,.nl,.I 0]) 8),(2003,vR (.I q.2.1) 1),(2004,vR (b6.Pv q.2.2) 8)]) (λq17 h=>?_) λκ13 h=>?_
 ·obtain⟨j14,j15,j16⟩:=q17;refine g7<|S3 1 J<|cA h a61 J J λv18 _ h=>S2 1 J ?_;refine cN h (λhc h=>?_) λhc h=>?_
  ·refine dr [1,2,3001,3003] u5 (by kernel_rfl) (by kernel_rfl) ?_
   refine S7 1 J<|d7 J (λ_ hN=>b2j hN J J J J G5 J) J<|d7 J (λ_ hN=>b2j hN J J J J G5 J) J<|C6 (x':=b6.Pv j16) (cl':=true) J J (.inr J) n8<|S8 3 J<|b9 ?_;cases h;exact⟨J,[_,_,_,_],⟨oL J J J o7 n8 nl J,⟨J,⟨J,⟨J,tr⟩⟩⟩⟩,J,io⟩
  ·refine c5 ?_;refine dr [1,2,3001,3003] u5 (by kernel_rfl) (by kernel_rfl)<|S7 1 J<|d7 J (λ_ hN=>b2j hN J J J J G5 J) J<|d7 J (λ_ hN=>b2j hN J J J J G5 J) J<|C6 (x':=b6.Pv j16) (cl':=true) J J (.inr J) n8<|S8 3 J<|b9 ?_
   cases h;exact⟨J,[_,_,_,_],⟨oL J J J o7 n8 nl J,⟨J,⟨J,⟨J,tr⟩⟩⟩⟩,J,io⟩
 ·refine S3 3 J ?_;refine P8 (WPE (λl=>if l=2008 then 10 else if l=2009 then 6 else if l=2010 then 5 else if l=2011 then 3 else l) [(3,.ptr 2011 0 0),(5,.ptr 2010 0 0),(6,.ptr 2009 0 0),(10,.ptr 2008 0 0),(13,b6.Pv a0),(14,.L (Ls c9.Pv) a1),(15,.I a2)] [(2008,vR (.I 0) 1),(2009,vR (.agg [.nl,.I 0,.I 0,.nl,.nl,.nl,.nl,.I 0]) 8),(2010,vR (.I a2) 1),(2011,vR (b6.Pv a0) 8)]) ?_
  refine b5o (fn:=Tryz.f48) (N1:=8) J J Tryz.func48 J c7Y J J nl (λe19 o20=>?_);refine S4 4 J<|S4 2 J<|b9 ?_;refine⟨J,[.fn (.func 92) [.ptr 3 0 0,.ptr 4 0 0,.ptr 5 0 0]],⟨J,tr⟩,?_⟩;refine P8 (WPE (λl=>if l=2012 then 5 else if l=2013 then 4 else if l=2014 then 3 else l) [(3,.ptr 2011 0 0),(5,.ptr 2010 0 0),(6,.ptr 2009 0 0),(10,.ptr 2008 0 0),(16,.fn (.func 92) [.ptr 2014 0 0,.ptr 2013 0 0,.ptr 2012 0 0])] [(2012,vR (.I a2) 1),(2013,vR (.L (Ls c9.Pv) a1) 1),(2014,vR (b6.Pv a0) 8),(2008,vR (.I 0) 1),(2009,vR (.agg [.nl,.I 0,.I 0,.nl,.nl,.nl,.nl,.I 0]) 8),(2010,vR (.I a2) 1),(2011,vR (b6.Pv a0) 8)])<|yN<|j5<|a2H (WE [(3,.ptr 2011 0 0),(5,.ptr 2010 0 0),(6,.ptr 2009 0 0),(10,.ptr 2008 0 0),(16,.fn (.func 92) [.ptr 2014 0 0,.ptr 2013 0 0,.ptr 2012 0 0])] [(2012,vR (.I a2) 1),(2013,vR (.L (Ls c9.Pv) a1) 1),(2014,vR (b6.Pv a0) 8),(2008,vR (.I 0) 1),(2009,vR (.agg [.nl,.I 0,.I 0,.nl,.nl,.nl,.nl,.I 0]) 8),(2010,vR (.I a2) 1),(2011,vR (b6.Pv a0) 8)]) ?_
  refine a1E (fn:=Tryz.f92) (N1:=40) J Tryz.func92 J J nl J c71 J J (λl21 e22 o23 hR24=>?_);refine j5<|lq h (λq=>St.of [(1000003,.ptr 2011 0 0),(1000005,.ptr 2010 0 0),(1000006,.ptr 2009 0 0),(1000010,.ptr 2008 0 0),(1000016,.fn (.func 92) [.ptr 2014 0 0,.ptr 2013 0 0,.ptr 2012 0 0]),(0,.fn (.yield l21) []),(1,.ptr 2014 0 0),(2,.ptr 2013 0 0),(3,.ptr 2012 0 0)] [(2012,vR (.I q.1) 1),(2013,vR (.L (Ls c9.Pv) a1) 1),(2014,vR (b6.Pv q.2.1) 8),(2008,vR (.I q.2.2.1) 1),(2009,vR (.agg [.nl,.I 0,.I 0,.nl,.nl,.nl,.nl,.I 0]) 8),(2010,vR (.I q.2.2.2.1) 1),(2011,vR (b6.Pv q.2.2.2.2) 8)]) W λq26 x25 h hx27=>?_;obtain⟨s20,s21,s22,s23,s24⟩:=q26;refine g7<|S3 1 J<|cA h a61 J J λv27 _ h=>S2 1 J ?_;refine cN h (λhc h=>?_) λhc h=>?_
  ·refine c5 ?_;refine j5<|S3 2 J<|cF h a6q J J λv28 _ h=>S2 9 J<|S3 2 J<|cA h b4i J J λv29 _ h=>S2 1 J<|g7<|S4 3 J ?_;refine cN h (λhc h=>?_) λhc h=>?_
   ·refine b9 ?_;refine .inl ⟨J,?_⟩;have h:=xL hx27 h;exact eJ h (WP (λl=>if l=2004 then 2011 else if l=2003 then 2010 else if l=2002 then 2009 else if l=2001 then 2008 else l))
   ·refine c5 ?_;refine S3 2 J<|cF h b4j J J λv30 _ h=>S2 5 J<|S4 4 J<|S3 3 J<|P8 (WE [(1000003,.ptr 2011 0 0),(1000005,.ptr 2010 0 0),(1000006,.ptr 2009 0 0),(1000010,.ptr 2008 0 0),(1000016,.fn (.func 92) [.ptr 2014 0 0,.ptr 2013 0 0,.ptr 2012 0 0]),(0,.fn (.yield l21) []),(1,.ptr 2014 0 0),(2,.ptr 2013 0 0),(3,.ptr 2012 0 0),(35,.fn (.yield l21) []),(36,b6.Pv v30.1),(37,.I (r7 (s20-v29)))] [(2012,vR (.I (r7 (s20-v29))) 1),(2013,vR (.L (Ls c9.Pv) a1) 1),(2014,vR (b6.Pv v30.1) 8),(2008,vR (.I s22) 1),(2009,vR (.agg [.nl,.I 0,.I 0,.nl,.nl,.nl,.nl,.I 0]) 8),(2010,vR (.I s23) 1),(2011,vR (b6.Pv s24) 8)]) ?_;refine a6y hR24 J J J J J J (λe32 o33 o34=>?_);refine S4 2 J<|S6 1 J ?_;refine⟨J,?_⟩;refine j5<|S4 4 J<|S6 3 J ?_;refine⟨J,?_⟩;refine P8 (WE [(1000003,.ptr 2011 0 0),(1000005,.ptr 2010 0 0),(1000006,.ptr 2009 0 0),(1000010,.ptr 2008 0 0),(1000016,.fn (.func 92) [.ptr 2014 0 0,.ptr 2013 0 0,.ptr 2012 0 0]),(0,.fn (.yield l21) []),(1,.ptr 2014 0 0),(2,.ptr 2013 0 0),(3,.ptr 2012 0 0),(38,.bool true)] [(2012,vR (.I (r7 (s20-v29))) 1),(2013,vR (.L (Ls c9.Pv) a1) 1),(2014,vR (b6.Pv v30.1) 8),(2008,vR (.I (r7 (s22+1))) 1),(2009,vR (.agg [.nl,.I 0,.I 0,.nl,.nl,.nl,.nl,.I 0]) 8),(2010,vR (.I (r7 (s20-v29))) 1),(2011,vR (b6.Pv v30.1) 8)])<|S2 1 J ?_;refine F8 false J (λq=>nomatch q) (λ_=>?_);refine c5 ?_;exact eL h W
  ·refine u4 ?_;refine g5<|g5<|n0 ?_;refine .inl ⟨J,?_⟩;have h:=xL hx27 h;exact eJ h (WP (λl=>if l=2004 then 2011 else if l=2003 then 2010 else if l=2002 then 2009 else if l=2001 then 2008 else l))

theorem Z8{a0 a1}:PO Tryz.prog 17 [k7.Pv a0,.L iF a1] (V1 a0 a1) λr=>.tup [k7.Pv r.1,k9.Pv r.2]:=by
 refine pO Tryz.func17 λr h _ _=>?_;refine S4 3 J<|S3 1 J<|cA h b2M J J λv1 _ h=>S2 6 J<|g7<|S4 2 J ?_;refine cN h (λhc h=>?_) λhc h=>?_
 ·refine S3 2 J ?_;refine y0 J (s7 (cs:=[.I 0,.I v1.2]) J c73 b8J J J J)<|S2 2 J<|b9 ?_;cases h;exact⟨J,[_,_],⟨oL J J J Y2 H2 nl J,⟨oL J J J a5B K2 nl J,tr⟩⟩,J,io⟩
 ·refine c5 ?_;refine S4 1 J<|g7<|S3 1 J<|cF h b1W J J λv2 _ h=>yN<|j5<|sR<|y0 J (b59 (n:=a80) (d:=.tup [.agg [.I (ifG v2 85 0),.I (ifG v2 85 1),.I (ifG v2 85 2),.I (ifG v2 85 3)],.bool (decide (v2.t=85))]) J c2r c2A J J J)<|S2 2 J ?_;refine cN h (λhc h=>?_) λhc h=>?_
  ·refine S4 2 J ?_;refine S5 4 J<|cF h a8Q J J λv3 _ h=>S2 10 J<|dr [1,1008] u5 (by kernel_rfl) (by kernel_rfl)<|S7 1 J<|d7 J (λ_ hN=>a51 (cs:=[.I v3.2.1,.I v3.2.2]) hN J J J J a5B K2 nl J) J<|C6 (x':=.agg [.L b7.Pv v3.1.S.S.a8,.I v3.1.S.S.Last,.I v3.1.S.Serial,.L iF v3.1.Roots,.L c8.Pv v3.1.a8,.L b8.Pv v3.1.T,.L g9.Pv v3.1.Q.L,.I v3.1.Q.Cap,.L (Ls c9.Pv) a0.Progs]) (cl':=true) J J (.inr J) H2<|C6 (x':=.agg [.I v3.2.1,.I v3.2.2]) (cl':=true) J J (.inl J) K2<|T0<|b9 ?_
   cases h;exact⟨J,[_,_],⟨oL J J J Y2 H2 nl J,⟨oL J J J a5B K2 nl J,tr⟩⟩,J,io⟩
  ·refine sR ?_;refine y0 J (b59 (n:=a80) (d:=.tup [.agg [],.bool (decide (v2.t=89))]) J c2s c2B J J J)<|S2 2 J ?_;refine cN h (λhc h=>?_) λhc h=>?_
   ·refine S3 1 J ?_;refine c90 J J J c8a<|yN<|S4 2 J<|S3 2 J<|cF h a9a J J λv4 _ h=>S2 8 J<|S6 5 J<|dr [1,1008] u5 (by kernel_rfl) (by kernel_rfl)<|S7 1 J<|d7 J (λ_ hN=>a51 (cs:=[.I (r7 (v4.2.2-v4.2.1)),.I 0]) hN J J J J a5B K2 nl J) J<|C6 (x':=.agg [.L b7.Pv v4.1.S.S.a8,.I v4.1.S.S.Last,.I v4.1.S.Serial,.L iF v4.1.Roots,.L c8.Pv v4.1.a8,.L b8.Pv v4.1.T,.L g9.Pv v4.1.Q.L,.I v4.1.Q.Cap,.L (Ls c9.Pv) a0.Progs]) (cl':=true) J J (.inr J) H2<|C6 (x':=.agg [.I (r7 (v4.2.2-v4.2.1)),.I 0]) (cl':=true) J J (.inl J) K2<|T0<|b9 ?_
    cases h;exact⟨J,[_,_],⟨oL J J J Y2 H2 nl J,⟨oL J J J a5B K2 nl J,tr⟩⟩,J,io⟩
   ·refine sR ?_;refine y0 J (b59 (n:=a80) (d:=.tup [.agg [.I (ifG v2 93 0)],.bool (decide (v2.t=93))]) J c2t c2C J J J)<|S2 2 J ?_;refine cN h (λhc h=>?_) λhc h=>?_
    ·refine S4 2 J ?_;refine S5 6 J<|cF h b2R J J λv5 _ h=>S2 11 J<|dr [1,1008] u5 (by kernel_rfl) (by kernel_rfl)<|S7 1 J<|d7 J (λ_ hN=>a51 (cs:=[.I v5.2.1,.I v5.2.2.2]) hN J J J J a5B K2 nl J) J<|C6 (x':=.agg [.L b7.Pv v5.1.S.S.a8,.I v5.1.S.S.Last,.I v5.1.S.Serial,.L iF v5.1.Roots,.L c8.Pv v5.1.a8,.L b8.Pv v5.1.T,.L g9.Pv v5.1.Q.L,.I v5.1.Q.Cap,.L (Ls c9.Pv) a0.Progs]) (cl':=true) J J (.inr J) H2<|C6 (x':=.agg [.I v5.2.1,.I v5.2.2.2]) (cl':=true) J J (.inl J) K2<|T0<|b9 ?_
     cases h;exact⟨J,[_,_],⟨oL J J J Y2 H2 nl J,⟨oL J J J a5B K2 nl J,tr⟩⟩,J,io⟩
    ·refine c5 ?_;refine dr [1,1008] u5 (by kernel_rfl) (by kernel_rfl)<|S7 1 J<|d7 J (λ_ hN=>a51 (cs:=[.I 0,.I 0]) hN J J J J a5B K2 nl J) J<|C6 (x':=k7.Pv a0) (cl':=true) J J (.inr J) H2<|C6 (x':=.agg [.I 0,.I 0]) (cl':=true) J J (.inl J) K2<|T0<|b9 ?_
     cases h;exact⟨J,[_,_],⟨oL J J J Y2 H2 nl J,⟨oL J J J a5B K2 nl J,tr⟩⟩,J,io⟩

theorem a0C{a0 a1}:PO Tryz.prog 15 [k7.Pv a0,.L (Ls iF) a1] (T5 a0 a1) λr=>.tup [k7.Pv r.1,.L k9.Pv r.2]:=by
 refine pO Tryz.func15 λr h _ _=>?_;refine S4 3 J<|S4 1 J ?_;refine jq h (λq=>St.of [(2,.ptr 2 0 0),(4,.ptr 4 0 0),(6,.sl 910006)] [(910006,⟨List.map k9.Pv q.2,(List.map k9.Pv q.2).length,true,2,true⟩),(4,vR (.agg [.nl,.I 0,.I 0,.nl,.nl,.nl,.nl,.I 0,.nl]) 9),(2,vR (k7.Pv q.1) 9)]) (λq13 h=>?_) λκ10 h=>?_
 ·obtain⟨j11,j12⟩:=q13;refine S4 4 J<|b9 ?_;cases h;exact⟨J,[_,_],⟨oL J J J Y2 H2 nl J,⟨J,tr⟩⟩,J,io⟩
 ·refine S3 1 J ?_;refine nL J a4E<|S2 1 J<|j5<|lq h (λq=>St.of [(2,.ptr 2 0 0),(4,.ptr 4 0 0),(6,.sl 910006),(10,.L (Ls iF) a1),(11,.I (a1.length:Int)),(12,.I q.1)] [(4,vR (.agg [.nl,.I 0,.I 0,.nl,.nl,.nl,.nl,.I 0,.nl]) 9),(2,vR (k7.Pv q.2.1) 9),(910006,⟨List.map k9.Pv q.2.2,(List.map k9.Pv q.2.2).length,true,2,true⟩)]) (Wk.trans (X0 (t:=6) (l:=920006) (z:=2) J J) (WP (λl=>if l=910006 then 920006 else l))) λq19 x18 h hx10=>?_
  obtain⟨s15,s16,s17⟩:=q19;refine S4 1 J<|g7 ?_;refine cN h (λhc h=>?_) λhc h=>?_
  ·refine c5 ?_;refine g7<|j5<|sR<|iL h J J a4E a5E λv20 _ h=>S2 2 J<|S4 1 J<|S3 2 J<|cF h Z8 J J λv21 _ h=>S2 5 J<|S5 2 J<|y0 J (a0t (f:=k9.Pv) (l:=[v21.2]) J a2P K2 b8J J J nl J J)<|A2 h λv22 hv13 h=>a10 J (a1C (f:=k9.Pv) hv13 J J J J J J (.inl ⟨_,J,J⟩) a2P K2 c7W b8J J (λ_=>J)) J J J<|S2 1 J<|S6 2 J ?_;exact eL h (Wk.trans (p9 _ [25]) (WP (λl=>if l=910006 then 25 else l)))
  ·refine u4 ?_;refine g5<|g5<|n0 ?_;have h:=xL hx10 h;exact eJ h (Wk.trans (p9 _ [910006]) W)

theorem a5r{a0}:PO Tryz.prog 32 [c4.Pv a0] (O3 a0) λr=>A4.Pv r:=by
 refine pO Tryz.func32 λr h _ _=>?_;refine S4 2 J<|S4 1 J ?_;refine jq h (λj9=>St.of [(2,.ptr 2 0 0),(3,.ptr 3 0 0)] [(3,vR (A4.Pv j9) 4),(2,vR (.agg [.I 0,.I 0,.I 0,.I 0]) 4)]) (λj9 h=>?_) λκ8 h=>?_
 ·refine S4 2 J ?_;refine b9 ?_;cases h;exact⟨J,[_],⟨oL J J J c2e c2w nl J,tr⟩,J,io⟩
 ·refine S3 2 J ?_;refine nL J Q3<|S2 1 J<|j5<|lq h (λq=>St.of [(2,.ptr 2 0 0),(3,.ptr 3 0 0),(7,.L b7.Pv a0.a8),(8,.I (a0.a8.length:Int)),(9,.I q.1)] [(3,vR (A4.Pv q.2) 4),(2,vR (.agg [.I 0,.I 0,.I 0,.I 0]) 4)]) W λq14 x13 h hx9=>?_;obtain⟨s11,s12⟩:=q14;refine S4 1 J<|g7 ?_;refine cN h (λhc h=>?_) λhc h=>?_
  ·refine c5 ?_;refine g7<|j5<|sR<|iL h J J Q3 a0p λv15 _ h=>S2 3 J<|S5 2 J<|A2 h λv16 hv11 h=>y0 J (c7D hv11 J J c2u o9)<|y0 J (oS J J J G5 (A4.get hv11))<|S1 1 J<|y0 J (c7D hv11 J J c2u o9)<|d1c hv11 J J (.inl J) J o9<|yN<|S6 2 J ?_;exact eL h W
  ·refine u4 ?_;refine g5<|g5<|n0 ?_;have h:=xL hx9 h;exact eJ h W

theorem U4{a0}:PO Tryz.prog 20 [k7.Pv a0] (N7 a0) λr=>A4.Pv r:=by
 refine pO Tryz.func20 λr h _ _=>?_;refine S4 2 J<|S3 4 J<|cA h a5r J J λv1 _ h=>S2 1 J<|b9 ?_;cases h;exact⟨J,[_],⟨oL J J J c2e c2w nl J,tr⟩,J,io⟩

theorem a1l:PO Tryz.prog 14 [] (Z6) λr=>.bool r:=by
 refine pO Tryz.func14 λr h _ _=>?_;refine S4 1 J<|sR<|cF h a7M J J λv1 _ h=>cF h V9 J J λv2 _ h=>cF h V9 J J λv3 _ h=>cF h V9 J J λv4 _ h=>cF h V9 J J λv5 _ h=>cF h V9 J J λv6 _ h=>cF h V9 J J λv7 _ h=>cF h V9 J J λv8 _ h=>y0 J (a0t (f:=(Ls iF)) (l:=[v2,v3,v4,v5,v6,v7,v8]) J a4E a5E c8b J J nl J J)<|cF h a0C J J λv9 _ h=>S2 6 J<|S3 1 J<|nL J a2P<|S1 2 J<|m9 J (λhg=>om (d:=.L k9.Pv v9.2) J)<|A2 h λv10 hv10 h=>m9 J (λhg=>J2 (f:=k9.Pv) (cs:=k9.Pc v10) (P6 hv10 hg) (ct hg) J a2P K2 J J)<|m9 J (λhg=>a0f (ct hg) a4W J)<|m9 J (λhg=>K7 (ct hg) G5 J)<|m9 J (λhg=>B8 (ct hg) J J)<|y0 J (E6 J J J (λq=>eqT q))<|S1 1 J<|m9 J (λhg=>om (d:=.L k9.Pv v9.2) J)<|A2 h λv11 hv11 h=>m9 J (λhg=>J2 (f:=k9.Pv) (cs:=k9.Pc v11) (P6 hv11 hg) (ct hg) J a2P K2 J J)<|m9 J (λhg=>a0f (ct hg) a4W J)<|m9 J (λhg=>K7 (ct hg) G5 J)<|m9 J (λhg=>B8 (ct hg) J J)<|y0 J (E6 J J J (λq=>eqT q))<|S1 1 J<|m9 J (λhg=>om (d:=.L k9.Pv v9.2) J)<|A2 h λv12 hv12 h=>m9 J (λhg=>J2 (f:=k9.Pv) (cs:=k9.Pc v12) (P6 hv12 hg) (ct hg) J a2P K2 J J)<|m9 J (λhg=>a0f (ct hg) a4W J)<|m9 J (λhg=>K7 (ct hg) G5 J)<|m9 J (λhg=>B8 (ct hg) J J)<|y0 J (E6 J J J (λq=>eqT q))<|S1 1 J<|m9 J (λhg=>om (d:=.L k9.Pv v9.2) J)<|A2 h λv13 hv13 h=>m9 J (λhg=>J2 (f:=k9.Pv) (cs:=k9.Pc v13) (P6 hv13 hg) (ct hg) J a2P K2 J J)<|m9 J (λhg=>a0f (ct hg) b7c J)<|m9 J (λhg=>K7 (ct hg) a8Y J)<|m9 J (λhg=>B8 (ct hg) J J)<|y0 J (E6 J J J (λq=>eqT q))<|S1 1 J<|m9 J (λhg=>oL J J J Y2 H2 nl J)<|A2 h λv14 hv14 h=>m9 J (λhg=>P0 J U4 (U2 (ct hg) J) (P6 hv14 hg))<|m9 J (λhg=>s7 (cs:=[.I 0,.I 2,.I 0,.I 0]) J c75 c8e J J J)<|m9 J (λhg=>c7C (xs:=A4.Pc v14) (ys:=[.I 0,.I 2,.I 0,.I 0]) b8G (ct hg) (ct hg) J)<|y0 J (E6 J J J (λq=>eqT q))<|S2 1 J<|b9 ?_;cases h;exact f1

theorem U3{a0}:PO Tryz.prog 21 [k7.Pv a0] (L4 a0) λr=>.L iF r:=by
 refine pO Tryz.func21 λr h _ _=>?_;refine S4 2 J<|S4 1 J ?_;refine jq h (λj11=>St.of [(3,.sl 910003)] [(910003,⟨List.map iF j11,0,true,1,true⟩)]) (λj11 h=>?_) λκ10 h=>?_
 ·refine S3 1 J ?_;obtain⟨v12,hv9,h⟩:=a9D h;refine c7a hv9 J J c7X c6U J J<|yN<|S4 2 J<|b9 ?_;cases h;exact f1
 ·refine S3 3 J ?_;refine cF h I7 J J λv13 _ h=>nL J l5<|S2 1 J<|j5<|lq h (λq=>St.of [(1,.ptr 1 0 0),(3,.sl 910003),(9,.L iF v13),(10,.I (v13.length:Int)),(11,.I q.1)] [(1,vR (k7.Pv a0) 9),(910003,⟨List.map iF q.2,0,true,1,true⟩)]) (Wk.trans (X0 (t:=3) (l:=920003) (z:=1) J J) (WP (λl=>if l=910003 then 920003 else l))) λq18 x17 h hx13=>?_
  obtain⟨s15,s16⟩:=q18;refine S4 1 J<|g7 ?_;refine cN h (λhc h=>?_) λhc h=>?_
  ·refine c5 ?_;refine g7<|j5<|sR<|iL h J J l5 o9 λv19 _ h=>S2 2 J<|S5 4 J<|cA h a4o J J λv20 _ h=>y0 J (a0t (f:=iF) (l:=[v20]) J l5 o9 E0 J J nl J J)<|A2 h λv21 hv16 h=>c7R (f:=iF) (b:=8) [(1,.ptr 1 0 0),(9,.L iF v13),(10,.I (v13.length:Int)),(11,.I s15),(12,.bool (decide (s15<(v13.length:Int)))),(13,.rptr [.I v19]),(14,.I v19),(5,.I v19),(16,.ptr 1 0 0),(17,b6.Pv a0.X),(18,.I v19),(19,.I v20),(20,.lst true (List.map iF [v20]))] [(1,vR (k7.Pv a0) 9)] J hv16 ⟨J,J,J,J,J,J,J,J,J,J,J,J,J,J,J,J,J,J,J,J,J,J,J,J,J,J,J,J,J,J,J,J,J,J,J,J,J,J,J,tr⟩ ⟨rS,tr⟩ J J J J (.inl ⟨_,J,J⟩) l5 o9 Y3 E0 J (λ_=>J)<|S2 1 J<|S6 2 J ?_;exact eL h (WP (λl=>if l=910003 then 21 else l))
  ·refine u4 ?_;refine g5<|g5<|n0 ?_;have h:=xL hx13 h;exact eJ h W

theorem b1K{a0 a1}:PO Tryz.prog 25 [.L iF a0,.L iF a1] (a2I a0 a1) λr=>.bool r:=by
 refine pO Tryz.func25 λr h _ _=>?_;refine S4 1 J<|g7<|S3 1 J<|nL J l5<|S1 1 J<|nL J l5<|S2 1 J ?_;refine cN h (λhc h=>?_) λhc h=>?_
 ·refine S4 1 J ?_;refine b9 ?_;cases h;exact f1
 ·refine c5 ?_;refine jq h (λ_=>St.of [] []) (λq7 h=>?_) λκ6 h=>?_
  ·refine S4 1 J ?_;refine b9 ?_;cases h;exact f1
  ·refine S4 1 J ?_;refine j5<|lq h (λs9=>St.of [(0,.L iF a0),(1,.L iF a1),(5,.I s9)] []) W λs9 x10 h hx9=>g7<|S3 2 J<|nL J l5<|S2 1 J ?_;refine cN h (λhc h=>?_) λhc h=>?_
   ·refine c5 ?_;refine g7<|j5<|dr [] u5 (by kernel_rfl) (by kernel_rfl)<|S7 2 J<|A2 h λv11 hv10 h=>d0 J (J2 (f:=iF) (cs:=[.I v11]) hv10 J J l5 o9 J J) J<|S7 3 J<|A2 h λv12 hv11 h=>d0 J (J2 (f:=iF) (cs:=[.I v12]) hv11 J J l5 o9 J J) J<|S8 2 J ?_
    refine cN h (λhc h=>?_) λhc h=>?_
    ·refine S4 1 J ?_;refine b9 ?_;have h:=xL hx9 h;cases h;exact f1
    ·refine c5 ?_;refine S6 3 J ?_;exact eL h W
   ·refine u4 ?_;refine g5<|g5<|n0 ?_;have h:=xL hx9 h;exact eJ h W

theorem wt_TopErrors_ok{a0 a1 a2 a3 a4}:PO Tryz.prog 10 [.int .u8 a0,.L (Ls c9.Pv) a1,.L (Ls iF) a2,.L iF a3,.L (Ls iF) a4] (a6w a0 a1 a2 a3 a4) λr=>.bool r:=by
 refine pO Tryz.func10 λr h _ _=>?_;refine S4 1 J<|g7<|S3 2 J<|cA h a6x J J λv1 _ h=>S1 2 J<|m9 J (λhg=>om (d:=.L (Ls iF) a4) J)<|A2 h λv2 hv2 h=>m9 J (λhg=>P0 J a6x (U2 J (U2 (ct hg) (U2 J J))) (P6 hv2 hg))<|m9 J (λhg=>a2F (ct hg) J)<|y0 J (E8 J J J (λq=>eqF q))<|S1 1 J<|m9 J (λhg=>om (d:=.L iF a3) J)<|m9 J (λhg=>a28 (f:=iF) (ct hg) l5)<|m9 J (λhg=>B8 (ct hg) J J)<|y0 J (E8 J J J (λq=>eqF q))<|S1 1 J<|A2 h λv3 hv3 h=>m9 J (λhg=>P0 J a1l J (P6 hv3 hg))<|m9 J (λhg=>a2F (ct hg) J)<|y0 J (E8 J J J (λq=>eqF q))<|yN ?_;refine cN h (λhc h=>?_) λhc h=>?_
 ·refine sR ?_;refine cA h a1l J J λv4 _ h=>S2 1 J<|b9 ?_;cases h;exact f1
 ·refine c5 ?_;refine S3 1 J<|y0 J (b06 J b4A b4z J)<|A2 h λv5 hv5 h=>y0 J (a5b J J hv5)<|S1 2 J<|cF h a8M J J λv6 _ h=>S2 6 J<|g7<|S4 2 J ?_;refine cN h (λhc h=>?_) λhc h=>?_
  ·refine S4 3 J ?_;refine b9 ?_;cases h;exact f1
  ·refine c5 ?_;refine S3 2 J<|cF h a0C J J λv7 _ h=>S2 4 J<|S3 2 J<|cF h Z8 J J λv8 _ h=>S2 7 J<|g7<|S3 4 J<|m9 J (λhg=>oF J b7c J)<|m9 J (λhg=>oS (ct hg) J J a8Y J)<|m9 J (λhg=>B8 (ct hg) J J)<|m9 J (λhg=>om (d:=.bool (v8.2.E==12)) (ct hg))<|m9 (a1k J J J) (λhg=>om (d:=.L iF a3) J)<|m9 (a1k J J J) (λhg=>a28 (f:=iF) (ct hg) l5)<|m9 (a1k J J J) (λhg=>B8 (ct hg) J J)<|m9 J (λhg=>E6 (ct hg) J J (λq=>c5A hg (eqT q)))<|m9 J (λhg=>om (d:=.bool ((v8.2.E==12)&&((a3.length:Int)==4))) (ct hg))<|m9 (a1k J J J) (λhg=>om (d:=.L iF a3) J)<|A2 h λv9 hv9 h=>m9 (a1k J J J) (λhg=>J2 (f:=iF) (cs:=[.I v9]) (P6 hv9 hg) (ct hg) J l5 o9 J J)<|m9 (a1k J J J) (λhg=>K7 (ct hg) G5 J)<|m9 (a1k J J J) (λhg=>B8 (ct hg) J J)<|m9 J (λhg=>E6 (ct hg) J J (λq=>c5A hg (eqT q)))<|y0 J (E8 J J J (λq=>eqF q))<|yN ?_;refine cN h (λhc h=>?_) λhc h=>?_
   ·refine S4 1 J ?_;refine b9 ?_;cases h;exact f1
   ·refine c5 ?_;refine S3 2 J<|cF h a0C J J λv10 _ h=>S2 6 J<|S3 2 J<|cF h a0C J J λv11 _ h=>S2 6 J<|g7<|dr [] u5 (by kernel_rfl) (by kernel_rfl)<|S7 4 J<|N6 J (λhg _ hN=>om (d:=.L k9.Pv v10.2) J) J<|a07 J (λhg=>a28 (f:=k9.Pv) (ct hg) a2P) J<|N6 J (λhg _ hN=>om (d:=.L k9.Pv v11.2) J) J<|a07 J (λhg=>a28 (f:=k9.Pv) (ct hg) a2P) J<|N6 J (λhg _ hN=>B8 (ct hg) (ct hg) J) J<|d7 J (λ_ hN=>E8 J J J (λq=>eqF q)) J<|S7 1 J<|a07 J (λhg=>oL J J J Y2 H2 nl J) J<|A2 h λv12 hv12 h=>b7l J (λhg=>P0 J U4 (U2 (ct hg) J) (P6 hv12 hg)) J<|a07 J (λhg=>oL J J J Y2 H2 nl J) J<|A2 h λv13 hv13 h=>b7l J (λhg=>P0 J U4 (U2 (ct hg) J) (P6 hv13 hg)) J<|N6 J (λhg _ hN=>c7G (xs:=A4.Pc v12) (ys:=A4.Pc v13) b8G (ct hg) (ct hg) J J) J<|d7 J (λ_ hN=>E8 J J J (λq=>eqF q)) J<|S7 1 J<|a07 J (λhg=>oL J J J Y2 H2 nl J) J<|A2 h λv14 hv14 h=>c2Y J (λhg=>y8 J U3 (U2 (ct hg) J) (P6 hv14 hg)) J<|a07 J (λhg=>oL J J J Y2 H2 nl J) J<|A2 h λv15 hv15 h=>c2Y J (λhg=>y8 J U3 (U2 (ct hg) J) (P6 hv15 hg)) J<|A2 h λv16 hv16 h=>b7l J (λhg=>P0 J b1K (U2 (ct hg) (U2 (ct hg) J)) (P6 hv16 hg)) J<|N6 J (λhg _ hN=>a2F (ct hg) J) J<|d7 J (λ_ hN=>E8 J J J (λq=>eqF q)) J<|T0 ?_
    refine cN h (λhc h=>?_) λhc h=>?_
    ·refine S4 1 J ?_;refine b9 ?_;cases h;exact f1
    ·refine c5 ?_;refine jq h (λ_=>St.of [(11,.ptr 11 0 0),(13,.ptr 13 0 0)] [(13,vR (k7.Pv v8.1) 9),(11,vR (k7.Pv v7.1) 9)]) (λq23 h=>?_) λκ22 h=>?_
     ·refine dr [] u5 (by kernel_rfl) (by kernel_rfl) ?_
      refine S7 1 J<|A2 h λv24 hv23 h=>d2f J (y8 J U3 J hv23) J<|S7 1 J<|A2 h λv25 hv24 h=>d2f J (y8 J U3 J hv24) J<|A2 h λv26 hv25 h=>d2 J (P0 J b1K J hv25) J<|S7 1 J<|a07 J (λhg=>oL J J J Y2 H2 nl J) J<|A2 h λv27 hv26 h=>b7l J (λhg=>P0 J U4 (U2 (ct hg) J) (P6 hv26 hg)) J<|a07 J (λhg=>oL J J J Y2 H2 nl J) J<|A2 h λv28 hv27 h=>b7l J (λhg=>P0 J U4 (U2 (ct hg) J) (P6 hv27 hg)) J<|N6 J (λhg _ hN=>c7C (xs:=A4.Pc v27) (ys:=A4.Pc v28) b8G (ct hg) (ct hg) J) J<|d7 J (λ_ hN=>E6 J J J (λq=>eqT q)) J<|S8 1 J<|b9 ?_;cases h;exact f1
     ·refine S4 1 J ?_;refine j5<|lq h (λs30=>St.of [(11,.ptr 11 0 0),(13,.ptr 13 0 0),(16,.L k9.Pv v10.2),(18,.L k9.Pv v11.2),(19,.I s30)] [(13,vR (k7.Pv v8.1) 9),(11,vR (k7.Pv v7.1) 9)]) W λs30 x31 h hx30=>g7<|S3 2 J<|nL J a2P<|S2 1 J ?_;refine cN h (λhc h=>?_) λhc h=>?_
      ·refine c5 ?_;refine g7<|j5<|dr [] u5 (by kernel_rfl) (by kernel_rfl)<|S7 2 J<|A2 h λv32 hv31 h=>d0 J (J2 (f:=k9.Pv) (cs:=k9.Pc v32) hv31 J J a2P K2 J J) J<|S7 3 J<|A2 h λv33 hv32 h=>d0 J (J2 (f:=k9.Pv) (cs:=k9.Pc v33) hv32 J J a2P K2 J J) J<|S7 1 J<|d7 J (λ_ hN=>c7G (xs:=k9.Pc v32) (ys:=k9.Pc v33) c79 J J J J) J<|T0 ?_
       refine cN h (λhc h=>?_) λhc h=>?_
       ·refine S4 1 J ?_;refine b9 ?_;have h:=xL hx30 h;cases h;exact f1
       ·refine c5 ?_;refine S6 3 J ?_;exact eL h W
      ·refine u4 ?_;refine g5<|g5<|n0 ?_;have h:=xL hx30 h;exact eJ h W

theorem wt_TopSerials_ok{a0 a1 a2}:PO Tryz.prog 11 [.int .u8 a0,.int .u8 a1,.L (Ls iF) a2] (a4S a0 a1 a2) λr=>.bool r:=by
 refine pO Tryz.func11 λr h _ _=>?_;refine S4 1 J<|g7<|S3 1 J<|cA h a6x J J λv1 _ h=>S1 2 J<|A2 h λv2 hv2 h=>m9 J (λhg=>P0 J a1l J (P6 hv2 hg))<|m9 J (λhg=>a2F (ct hg) J)<|y0 J (E8 J J J (λq=>eqF q))<|yN ?_;refine cN h (λhc h=>?_) λhc h=>?_
 ·refine sR ?_;refine cA h a1l J J λv3 _ h=>S2 1 J<|b9 ?_;cases h;exact f1
 ·refine c5 ?_;refine S3 1 J<|y0 J (b06 J b4A b4z J)<|A2 h λv4 hv4 h=>y0 J (a5b J J hv4)<|S1 2 J<|y0 J (b06 J b4A b4z J)<|A2 h λv5 hv5 h=>y0 J (a5b J J hv5)<|cF h a7M J J λv6 _ h=>S2 2 J<|S4 1 J ?_;refine jq h (λ_=>St.of [] []) (λq56 h=>?_) λκ55 h=>?_
  ·refine S4 1 J ?_;refine b9 ?_;cases h;exact f1
  ·refine S4 1 J ?_;refine j5<|lq h (λq=>St.of [(2,.L (Ls iF) a2),(7,.ptr 7 0 0),(8,.I q.1),(9,.I q.2.1)] [(7,vR (k7.Pv q.2.2) 9)]) W λq62 x61 h hx48=>?_;obtain⟨s58,s59,s60⟩:=q62;refine g7<|S3 2 J<|nL J a4E<|S2 1 J ?_;refine cN h (λhc h=>?_) λhc h=>?_
   ·refine c5 ?_;refine jq h (λq=>St.of [(2,.L (Ls iF) a2),(7,.ptr 7 0 0),(8,.I q.1),(9,.I s59)] [(7,vR (k7.Pv q.2) 9)]) (λq85 h=>?_) λκ82 h=>?_
    ·obtain⟨j83,j84⟩:=q85;refine S6 3 J ?_;exact eL h W
    ·refine j5 ?_;refine dr [] u5 (by kernel_rfl) (by kernel_rfl)<|S7 3 J<|A2 h λv86 hv67 h=>d0 J (J2 (f:=(Ls iF)) (cs:=[.L iF v86]) hv67 J J a4E a5E J J) J<|S7 1 J<|A2 h λv87 hv68 h=>d2f J (y8 J Z8 J hv68) J<|S7 5 J<|C6 (x':=k7.Pv v87.1) (cl':=true) J J (.inr J) H2<|C6 (x':=k9.Pv v87.2) (cl':=true) J J (.inl J) K2<|T0 ?_
     refine jq h (λj90=>St.of [(2,.L (Ls iF) a2),(7,.ptr 7 0 0),(8,.I j90),(9,.I s59),(10,.ptr 10 0 0)] [(10,vR (k7.Pv v87.1) 9),(7,vR (k7.Pv s60) 9)]) (λj90 h=>?_) λκ89 h=>?_
     ·refine S3 1 J ?_;refine cF h U3 J J λv91 _ h=>S2 1 J ?_;refine jq h (λ_=>St.of [(2,.L (Ls iF) a2),(7,.ptr 7 0 0),(8,.I j90),(9,.I s59),(10,.ptr 10 0 0)] [(10,vR (k7.Pv v87.1) 9),(7,vR (k7.Pv s60) 9)]) (λq98 h=>?_) λκ97 h=>?_
      ·refine S6 2 J ?_;exact eJ h W
      ·refine S4 1 J ?_;refine j5<|lq h (λs100=>St.of [(2,.L (Ls iF) a2),(7,.ptr 7 0 0),(8,.I j90),(9,.I s59),(10,.ptr 10 0 0),(12,.L iF v91),(13,.I s100)] [(10,vR (k7.Pv v87.1) 9),(7,vR (k7.Pv s60) 9)]) W λs100 x101 h hx80=>g7<|S3 2 J<|nL J l5<|S1 2 J<|m9 J (λhg=>mI J)<|m9 J (λhg=>B8 (ct hg) J J)<|y0 J (E6 J J J (λq=>eqT q))<|yN ?_;refine cN h (λhc h=>?_) λhc h=>?_
       ·refine c5 ?_;refine g7<|j5<|dr [] u5 (by kernel_rfl) (by kernel_rfl)<|S7 2 J<|A2 h λv102 hv81 h=>d0 J (J2 (f:=iF) (cs:=[.I v102]) hv81 J J l5 o9 J J) J<|S7 3 J<|N6 J (λhg _ hN=>om (d:=.L iF v91) J) J<|N6 J (λhg _ hN=>mI J) J<|a07 J (λhg=>J2 (f:=iF) (cs:=[.I v102]) hv81 (ct hg) (ct hg) l5 o9 J J) J<|a07 J (λhg=>K7 (ct hg) G5 J) J<|N6 J (λhg _ hN=>mI J) J<|N6 J (λhg _ hN=>B8 (ct hg) (ct hg) J) J<|d7 J (λ_ hN=>E8 J J J (λq=>eqF q)) J<|S7 1 J<|N6 J (λhg _ hN=>mI J) J<|N6 J (λhg _ hN=>B8 (ct hg) J J) J<|N6 J (λhg _ hN=>om (d:=.bool (decide (s100 > 0))) (ct hg)) J<|N6 (a1k J J J) (λhg _ hN=>om (d:=.L iF v91) J) J<|N6 (a1k J J J) (λhg _ hN=>mI J) J<|a07 (a1k J J J) (λhg=>J2 (f:=iF) (cs:=[.I v102]) hv81 (ct hg) (ct hg) l5 o9 J J) J<|a07 (a1k J J J) (λhg=>K7 (ct hg) G5 J) J<|N6 (a1k J J J) (λhg _ hN=>om (d:=.L iF v91) J) J<|N6 (a1k J J J) (λhg _ hN=>mI J) J<|N6 (a1k J J J) (λhg _ hN=>a5b (ct hg) J J) J<|A2 h λv103 hv82 h=>a07 (a1k J J J) (λhg=>J2 (f:=iF) (cs:=[.I v103]) (P6 hv82 hg) (ct hg) (ct hg) l5 o9 J J) J<|a07 (a1k J J J) (λhg=>K7 (ct hg) G5 J) J<|N6 (a1k J J J) (λhg _ hN=>B8 (ct hg) (ct hg) J) J<|N6 J (λhg _ hN=>E6 (ct hg) J J (λq=>c5A hg (eqT q))) J<|d7 J (λ_ hN=>E8 J J J (λq=>eqF q)) J<|T0 ?_
        refine cN h (λhc h=>?_) λhc h=>?_
        ·refine S4 1 J ?_;refine b9 ?_;have h:=xL hx80 h;have h:=xL hx48 h;cases h;exact f1
        ·refine c5 ?_;refine S6 3 J ?_;exact eL h W
       ·refine u4 ?_;refine g5<|g5<|n0 ?_;have h:=xL hx80 h;exact eJ h W
     ·refine S3 4 J ?_;refine m9 J (λhg=>om (d:=.L (Ls iF) a2) J)<|m9 J (λhg=>mI J)<|m9 J (λhg=>J2 (f:=(Ls iF)) (cs:=[.L iF v86]) hv67 (ct hg) (ct hg) a4E a5E J J)<|m9 J (λhg=>K7 (ct hg) b2F J)<|m9 J (λhg=>a28 (f:=iF) (ct hg) l5)<|m9 J (λhg=>B8 (ct hg) J J)<|y0 J (E6 J J J (λq=>eqT q))<|S1 1 J<|m9 J (λhg=>om (d:=.L (Ls iF) a2) J)<|m9 J (λhg=>mI J)<|m9 J (λhg=>J2 (f:=(Ls iF)) (cs:=[.L iF v86]) hv67 (ct hg) (ct hg) a4E a5E J J)<|m9 J (λhg=>K7 (ct hg) b2F J)<|A2 h λv104 hv83 h=>m9 J (λhg=>J2 (f:=iF) (cs:=[.I v104]) (P6 hv83 hg) (ct hg) J l5 o9 J J)<|m9 J (λhg=>K7 (ct hg) G5 J)<|m9 J (λhg=>B8 (ct hg) J J)<|y0 J (E6 J J J (λq=>eqT q))<|yN ?_;refine cN h (λhc h=>?_) λhc h=>?_
      ·refine S4 3 J ?_;refine S4 4 J ?_;refine cN h (λhc h=>?_) λhc h=>?_
       ·refine S4 1 J ?_;refine b9 ?_;have h:=xL hx48 h;cases h;exact f1
       ·refine c5 ?_;exact eJ h W
      ·refine c5 ?_;exact eJ h W
   ·refine u4 ?_;refine g5<|g5<|n0 ?_;have h:=xL hx48 h;exact eJ h W

theorem wt_TopSame_ok{a0 a1 a2 a3}:PO Tryz.prog 12 [.int .u8 a0,.L (Ls iF) a1,.int .u8 a2,.int .u8 a3] (a9w a0 a1 a2 a3) λr=>.bool r:=by
 refine pO Tryz.func12 λr h _ _=>?_;refine S4 1 J<|g7<|S3 1 J<|cA h a6x J J λv1 _ h=>S1 2 J<|A2 h λv2 hv2 h=>m9 J (λhg=>P0 J a1l J (P6 hv2 hg))<|m9 J (λhg=>a2F (ct hg) J)<|y0 J (E8 J J J (λq=>eqF q))<|yN ?_;refine cN h (λhc h=>?_) λhc h=>?_
 ·refine sR ?_;refine cA h a1l J J λv3 _ h=>S2 1 J<|b9 ?_;cases h;exact f1
 ·refine c5 ?_;refine S3 1 J<|y0 J (b06 J b4A b4z J)<|A2 h λv4 hv4 h=>y0 J (a5b J J hv4)<|S1 1 J<|cF h a7M J J λv5 _ h=>S1 1 J<|cF h a0C J J λv6 _ h=>S2 6 J<|S3 1 J<|y0 J (b06 J b4A b4z J)<|A2 h λv7 hv7 h=>y0 J (a5b J J hv7)<|S2 1 J<|S3 1 J<|y0 J (b06 J b4A b4z J)<|A2 h λv8 hv8 h=>y0 J (a5b J J hv8)<|S2 1 J<|dr [] u5 (by kernel_rfl) (by kernel_rfl)<|S7 3 J<|A2 h λv9 hv9 h=>d2f J (y8 J V9 J hv9) J<|A2 h λv10 hv10 h=>d2f J (y8 J Z8 J hv10) J<|S7 5 J<|C6 (x':=k7.Pv v10.1) (cl':=true) J J (.inr J) H2<|C6 (x':=k9.Pv v10.2) (cl':=true) J J (.inl J) K2<|T0<|dr [] u5 (by kernel_rfl) (by kernel_rfl)<|S7 3 J<|A2 h λv11 hv11 h=>d2f J (y8 J V9 J hv11) J<|A2 h λv12 hv12 h=>d2f J (y8 J Z8 J hv12) J<|S7 5 J<|C6 (x':=k7.Pv v12.1) (cl':=true) J J (.inr J) H2<|C6 (x':=k9.Pv v12.2) (cl':=true) J J (.inl J) K2<|T0<|dr [] u5 (by kernel_rfl) (by kernel_rfl)<|S7 3 J<|A2 h λv13 hv13 h=>d2f J (y8 J V9 J hv13) J<|A2 h λv14 hv14 h=>d2f J (y8 J Z8 J hv14) J<|S7 5 J<|C6 (x':=k7.Pv v14.1) (cl':=true) J J (.inr J) H2<|C6 (x':=k9.Pv v14.2) (cl':=true) J J (.inl J) K2<|T0<|S3 4 J<|m9 J (λhg=>oF J a4W J)<|m9 J (λhg=>oS (ct hg) J J G5 J)<|m9 J (λhg=>B8 (ct hg) J J)<|m9 J (λhg=>oF J a4W J)<|m9 J (λhg=>oS (ct hg) J J G5 J)<|m9 J (λhg=>oF J a4W J)<|m9 J (λhg=>oS (ct hg) J J G5 J)<|m9 J (λhg=>B8 (ct hg) (ct hg) J)<|m9 J (λhg=>d0O (ct hg) (ct hg) d0b J)<|y0 J (E6 J J J (λq=>eqT q))<|S2 1 J<|b9 ?_
  cases h;exact f1

end Go.Proofs.YtjpgbnlcefhaiaaGreat.Ok
