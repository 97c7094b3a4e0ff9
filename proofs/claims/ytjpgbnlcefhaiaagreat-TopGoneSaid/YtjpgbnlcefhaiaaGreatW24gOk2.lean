/-
 The functions of the program do as the plain functions do.
-/
import Derived.Test.YtjpgbnlcefhaiaaGreatW24gOk1
set_option linter.unusedVariables false
set_option linter.unusedSimpArgs false
set_option linter.unusedSectionVars false
namespace Go.Proofs.YtjpgbnlcefhaiaaGreat.Ok
open Go Go.Pw Go.Sh Go.Proofs
set_option maxRecDepth 100000
set_option maxHeartbeats 4000000
theorem a7w{a0 a1}:PO Tryz.prog 46 [b6.Pv a0,.L iF a1] (Y4 a0 a1) λr=>b6.Pv r:=by
 refine pO Tryz.func46 λr h _ _=>?_;refine S4 2 J<|S3 2 J<|cF h a8q J J λv1 _ h=>S2 1 J<|S3 2 J<|cF h b0w J J λv2 _ h=>S2 1 J<|S4 1 J<|S4 2 J ?_;refine jq h (λj13=>St.of [(2,.ptr 2 0 0),(4,.ptr 4 0 0),(5,.L iF v1),(6,.ptr 6 0 0),(7,.fn (.func 86) [.ptr 6 0 0])] [(6,vS (.sl 910506) 1),(910506,⟨List.map iF j13,(List.map iF j13).length,true,1,true⟩),(4,vR (.agg [.nl,.I 0,.I 0,.nl,.nl,.nl,.nl,.I 0]) 8),(2,vR (b6.Pv v2) 8)]) (λj13 h=>?_) λκ12 h=>?_
 ·refine S3 3 J ?_;refine cF h b0T J J λv14 _ h=>S2 5 J<|S3 2 J<|P5 (WPE (λl=>if l=2025 then 6 else if l=2026 then 4 else if l=2027 then 2 else if l=2028 then 910506 else l) [(2,.ptr 2027 0 0),(4,.ptr 2026 0 0),(5,.L iF v1),(6,.ptr 2025 0 0),(12,.L b8.Pv v14.1),(51,.fn (.func 86) [.ptr 2025 0 0]),(52,.L iF v14.2)] [(2025,vS (.sl 2028) 1),(2028,⟨List.map iF j13,(List.map iF j13).length,true,1,true⟩),(2026,vR (.agg [.nl,.I 0,.I 0,.nl,.nl,.nl,.nl,.I 0]) 8),(2027,vR (b6.Pv v2) 8)]) ?_;refine b5t (fn:=Tryz.f86) (N1:=6) J J Tryz.func86 J c2v J J nl (λe14 o15=>?_);refine S5 2 J<|C1 h λv15 hv16 h=>a1S J (a1v (f:=iF) hv16 J J J J J J (.inl ⟨_,J,J⟩) l7 p9 X0 E1 J (λ_=>J)) J J J<|S2 1 J ?_;refine⟨J,[],tr,?_⟩;refine P5 (WPE (λl=>if l=2029 then 5 else l) [(2,.ptr 2027 0 0),(4,.ptr 2026 0 0),(5,.L iF v1),(6,.ptr 2025 0 0),(12,.L b8.Pv v14.1)] [(2025,vS (.sl 2029) 1),(2029,⟨List.map iF v15,j13.length,true,1,true⟩),(2026,vR (.agg [.nl,.I 0,.I 0,.nl,.nl,.nl,.nl,.I 0]) 8),(2027,vR (b6.Pv v2) 8)])<|yN<|S4 3 J ?_;refine jq h (λj24=>St.of [(2,.ptr 2027 0 0),(4,.ptr 2026 0 0),(6,.ptr 2025 0 0)] [(2025,vS (.sl 2029) 1),(2029,⟨List.map iF v15,j13.length,true,1,true⟩),(2026,vR (.agg [.nl,.I 0,.I 0,.nl,.nl,.nl,.nl,.I 0]) 8),(2027,vR (b6.Pv j24) 8)]) (λj24 h=>?_) λκ23 h=>?_
  ·refine jq h (λj33=>St.of [(2,.ptr 2027 0 0),(4,.ptr 2026 0 0)] [(2026,vR (.agg [.nl,.I 0,.I 0,.nl,.nl,.nl,.nl,.I 0]) 8),(2027,vR (b6.Pv j33) 8)]) (λj33 h=>?_) λκ32 h=>?_
   ·refine S4 2 J ?_;refine b9 ?_;cases h;exact⟨J,[_],⟨oL J J J o7 n7 nl J,tr⟩,J,io⟩
   ·refine S3 1 J ?_;refine y0 J (c3Z (f:=iF) J J J l7)<|S2 1 J<|k7<|lq h (λq=>St.of [(2,.ptr 2027 0 0),(4,.ptr 2026 0 0),(66,.sl 2029),(67,.I (v15.length:Int)),(68,.I q.1)] [(2029,⟨List.map iF v15,j13.length,true,1,true⟩),(2026,vR (.agg [.nl,.I 0,.I 0,.nl,.nl,.nl,.nl,.I 0]) 8),(2027,vR (b6.Pv q.2) 8)]) W λq38 x37 h hx31=>?_;obtain⟨s35,s36⟩:=q38;refine S4 1 J<|j5 ?_;refine cN h (λhc h=>?_) λhc h=>?_
    ·refine c8 ?_;refine j5<|k7<|sR<|C1 h λv39 hv32 h=>y0 J (a8H (f:=iF) hv32 J J J J l7 p9 J)<|y0 J (c3Y (f:=iF) hv32 J J J I7 J)<|S2 1 J<|S5 2 J<|cF h T8 J J λv40 _ h=>S2 1 J<|S6 2 J ?_;exact eL h W
    ·refine s7 ?_;refine g6<|g6<|m9 ?_;have h:=xL hx31 h;exact eJ h W
  ·refine S3 1 J ?_;refine nL J l7<|S2 1 J<|k7<|lq h (λq=>St.of [(2,.ptr 2027 0 0),(4,.ptr 2026 0 0),(6,.ptr 2025 0 0),(56,.L iF v1),(57,.I (v1.length:Int)),(58,.I q.1)] [(2025,vS (.sl 2029) 1),(2029,⟨List.map iF v15,j13.length,true,1,true⟩),(2026,vR (.agg [.nl,.I 0,.I 0,.nl,.nl,.nl,.nl,.I 0]) 8),(2027,vR (b6.Pv q.2) 8)]) W λq45 x44 h hx36=>?_;obtain⟨s42,s43⟩:=q45;refine S4 1 J<|j5 ?_;refine cN h (λhc h=>?_) λhc h=>?_
   ·refine c8 ?_;refine j5<|k7<|sR<|iL h J J l7 p9 λv46 _ h=>S2 2 J<|S5 2 J<|cF h b1r J J λv47 _ h=>S2 1 J<|S6 2 J ?_;exact eL h W
   ·refine s7 ?_;refine g6<|g6<|m9 ?_;have h:=xL hx36 h;exact eJ h W
 ·refine S3 1 J ?_;refine nL J l7<|S2 1 J<|k7<|lq h (λq=>St.of [(2,.ptr 2 0 0),(4,.ptr 4 0 0),(5,.L iF v1),(6,.ptr 6 0 0),(7,.fn (.func 86) [.ptr 6 0 0]),(25,.L iF v1),(26,.I (v1.length:Int)),(27,.I q.1)] [(6,vS (.sl 910506) 1),(4,vR (.agg [.nl,.I 0,.I 0,.nl,.nl,.nl,.nl,.I 0]) 8),(2,vR (b6.Pv v2) 8),(910506,⟨List.map iF q.2,(List.map iF q.2).length,true,1,true⟩)]) (Wk.trans (b2F (l0:=6) (j:=0) (l:=920506) (z:=1) J J J J J) (WP (λl=>if l=910506 then 920506 else l))) λq52 x51 h hx41=>?_;obtain⟨s49,s50⟩:=q52;refine S4 1 J<|j5 ?_;refine cN h (λhc h=>?_) λhc h=>?_
  ·refine c8 ?_;refine j5<|k7<|sR<|iL h J J l7 p9 λv53 _ h=>S2 2 J<|S3 3 J<|cF h A1 J J λv54 _ h=>S2 6 J<|S5 3 J<|cF h b0D J J λv55 _ h=>P5 (WPE (λl=>if l=2049 then 6 else if l=2050 then 4 else if l=2051 then 2 else if l=2052 then 910506 else l) [(2,.ptr 2051 0 0),(4,.ptr 2050 0 0),(5,.L iF v1),(6,.ptr 2049 0 0),(7,.fn (.func 86) [.ptr 2049 0 0]),(25,.L iF v1),(26,.I (v1.length:Int)),(27,.I s49),(38,.fn (.func 86) [.ptr 2049 0 0]),(41,.L iF v55)] [(2049,vS (.sl 2052) 1),(2052,⟨List.map iF s50,(List.map iF s50).length,true,1,true⟩),(2050,vR (.agg [.nl,.I 0,.I 0,.nl,.nl,.nl,.nl,.I 0]) 8),(2051,vR (b6.Pv v2) 8)]) ?_;refine b5t (fn:=Tryz.f86) (N1:=6) J J Tryz.func86 J c2v J J nl (λe45 o46=>?_);refine S5 2 J<|C1 h λv56 hv47 h=>a1S J (a1v (f:=iF) hv47 J J J J J J (.inl ⟨_,J,J⟩) l7 p9 X0 E1 J (λ_=>J)) J J J<|S2 1 J ?_;refine⟨J,[],tr,?_⟩;refine P5 (WPE (λl=>if l=2053 then 5 else l) [(2,.ptr 2051 0 0),(4,.ptr 2050 0 0),(5,.L iF v1),(6,.ptr 2049 0 0),(7,.fn (.func 86) [.ptr 2049 0 0]),(25,.L iF v1),(26,.I (v1.length:Int)),(27,.I s49)] [(2049,vS (.sl 2053) 1),(2053,⟨List.map iF v56,s50.length,true,1,true⟩),(2050,vR (.agg [.nl,.I 0,.I 0,.nl,.nl,.nl,.nl,.I 0]) 8),(2051,vR (b6.Pv v2) 8)])<|yN<|S6 2 J ?_;exact eL h (Wk.trans (p8 _ [2053]) (WP (λl=>if l=2 then 2051 else if l=4 then 2050 else if l=6 then 2049 else if l=910506 then 2053 else l)))
  ·refine s7 ?_;refine g6<|g6<|m9 ?_;have h:=xL hx41 h;exact eJ h (Wk.trans (p8 _ [910506]) W)

theorem a0d{a0}:PO Tryz.prog 42 [b6.Pv a0] (L7 a0) λr=>b6.Pv r:=by
 refine pO Tryz.func42 λr h _ _=>?_;refine S4 2 J<|lqS h (λs2=>St.of [(1,.ptr 1 0 0),(2,.ptr 2 0 0)] [(2,vR (.agg [.nl,.I 0,.I 0,.nl,.nl,.nl,.nl,.I 0]) 8),(1,vR (b6.Pv s2) 8)]) W λs2 x3 h hx3=>S3 1 J<|cF h b3U J J λv4 _ h=>S2 1 J<|j5<|S3 1 J<|nL J l7<|S2 1 J ?_;refine cN h (λhc h=>?_) λhc h=>?_
 ·refine S4 2 J ?_;refine b9 ?_;have h:=xL hx3 h;cases h;exact⟨J,[_],⟨oL J J J o7 n7 nl J,tr⟩,J,io⟩
 ·refine c8 ?_;refine j5<|dr [] w7 (by kernel_rfl) (by kernel_rfl)<|S7 3 J<|C1 h λv5 hv5 h=>d0 J (a0i (f:=iF) (cs:=[.I v5]) hv5 J J l7 p9 J J) J<|S7 1 J<|C1 h λv6 hv6 h=>d2f J (z8 J A1 J hv6) J<|S7 4 J<|D1 (x':=l4.Pv v6.1) (cl':=true) J J (.inr J) a6P<|S8 1 J<|S3 1 J<|cA h a4s J J λv7 _ h=>yN ?_;refine cN h (λhc h=>?_) λhc h=>?_
  ·refine b09 [] w7 (by kernel_rfl) (by kernel_rfl) ?_;refine S7 2 J<|d0 J (a0i (f:=iF) (cs:=[.I v5]) hv5 J J l7 p9 J J) J<|S7 1 J<|C1 h λv8 hv8 h=>d2f J (z8 J a5f J hv8) J<|D1 (x':=b6.Pv v8) (cl':=true) J J (.inr J) n7<|X7<|c0W ?_;exact eS h W
  ·refine b09 [] w7 (by kernel_rfl) (by kernel_rfl) ?_;refine S7 2 J<|C1 h λv9 hv9 h=>d0 J (c9y (f:=iF) hv9 J J ⟨_,J⟩ l7 p9 (λ_=>J)) J<|C1 h λv10 hv10 h=>d2f J (z8 J a7w J hv10) J<|D1 (x':=b6.Pv v10) (cl':=true) J J (.inr J) n7<|X7<|c0W ?_;exact eS h W

theorem a4k{a0 a1}:PO Tryz.prog 34 [b6.Pv a0,.I a1] (Y2 a0 a1) λr=>.I r:=by
 refine pO Tryz.func34 λr h _ _=>?_;refine S4 2 J<|S3 3 J<|cF h A1 J J λv1 _ h=>S2 6 J<|S4 3 J<|b9 ?_;cases h;exact f1

theorem a4G{a0 a1}:PO Tryz.prog 77 [b6.Pv a0,.I a1] (a0Q a0 a1) λr=>.I r:=by
 refine pO Tryz.func77 λr h _ _=>?_;unfold a0Q at h;refine S4 2 J<|dr [] w7 (by kernel_rfl) (by kernel_rfl)<|S7 3 J<|C1 h λv1 hv1 h=>d2 J (Z8 J K3 J hv1) J<|C1 h λv2 hv2 h=>d2 J (Z8 J a4k J hv2) J<|S8 1 J<|b9 ?_;cases h;exact f1

theorem a97{a0 a1 a2}:PO Tryz.prog 43 [b6.Pv a0,b6.Pv a1,c9.Pv a2] (Q7 a0 a1 a2) λr=>.I r:=by
 refine pO Tryz.func43 λr h _ _=>?_;refine S4 4 J<|j5<|S4 2 J<|k7<|S4 2 J ?_;refine cN h (λhc h=>?_) λhc h=>?_
 ·refine S3 3 J ?_;refine cA h a4G J J λv1 _ h=>S2 1 J<|b9 ?_;cases h;exact f1
 ·refine jq h (λj3=>St.of [(3,.ptr 3 0 0),(4,.ptr 4 0 0),(5,.ptr 5 0 0),(8,.I a2.Kind),(15,.bool j3)] [(5,vR (c9.Pv a2) 4),(4,vR (b6.Pv a1) 8),(3,vR (b6.Pv a0) 8)]) (λj3 h=>?_) λκ2 h=>?_
  ·refine cN h (λhc h=>?_) λhc h=>?_
   ·refine S3 3 J ?_;refine cA h a4G J J λv4 _ h=>S2 1 J<|b9 ?_;cases h;exact f1
   ·refine S4 2 J ?_;refine cN h (λhc h=>?_) λhc h=>?_
    ·refine j5 ?_;refine dr [] w7 (by kernel_rfl) (by kernel_rfl)<|S7 3 J<|C1 h λv5 hv4 h=>d2 J (Z8 J K3 J hv4) J<|S7 3 J<|C1 h λv6 hv5 h=>d2 J (Z8 J K3 J hv5) J<|S8 1 J ?_;refine cN h (λhc h=>?_) λhc h=>?_
     ·refine S4 1 J ?_;refine b9 ?_;cases h;exact f1
     ·refine c8 ?_;refine S4 1 J<|b9 ?_;cases h;exact f1
    ·refine c8 ?_;refine S3 3 J<|cA h a4G J J λv7 _ h=>S2 1 J<|b9 ?_;cases h;exact f1
  ·refine S4 2 J ?_;refine cN h (λhc h=>?_) λhc h=>?_
   ·refine c8 ?_;exact eJ h W
   ·refine S6 2 J ?_;exact eJ h W

theorem a8G{a0 a1}:PO Tryz.prog 29 [b6.Pv a0,c9.Pv a1] (o9 a0 a1) λr=>.tup [b6.Pv r.1,.I r.2.1,.I r.2.2]:=by
 refine pO Tryz.func29 λr h _ _=>?_;refine S4 5 J<|j5<|S3 1 J<|cA h a4B J J λv1 _ h=>S2 1 J<|S4 2 J ?_;refine cN h (λhc h=>?_) λhc h=>?_
 ·refine S4 5 J ?_;refine b9 ?_;cases h;exact⟨J,[_,_,_],⟨oL J J J o7 n7 nl J,⟨J,⟨J,tr⟩⟩⟩,J,io⟩
 ·refine c8 ?_;refine dr [] w7 (by kernel_rfl) (by kernel_rfl)<|C1 h λv2 hv2 h=>d2f J (z8 J b01 J hv2) J<|S7 2 J<|d4 J (d1i (es:=v2) (k:=a1.Kind) (E:=fvE) (EK:=iF) (d:=.tup [fvE ((y8 v2 a1.Kind).getD (none:Fv)),.bool ((y8 v2 a1.Kind).isSome)]) J J X4 (w9 I8) c5A J (lk2 _ _ _)) J<|S8 5 J<|j5<|S4 2 J ?_;refine cN h (λhc h=>?_) λhc h=>?_
  ·refine S4 4 J ?_;refine b9 ?_;cases h;exact⟨J,[_,_,_],⟨oL J J J o7 n7 nl J,⟨J,⟨J,tr⟩⟩⟩,J,io⟩
  ·refine c8 ?_;refine S3 3 J<|y0 J (s6 (cs:=[.L b7.Pv a0.S.S.a8,.I a0.S.S.Last,.I a0.S.Serial,.L iF a0.Roots,.L c5.Pv a0.a8,.L b8.Pv a0.T,.L g8.Pv a0.Q.L,.I a0.Q.Cap,.I a1.Kind,.I a1.A,.I a1.B,.I a1.C]) J c5t c5B J J J) ?_;obtain⟨v3,hv3,h⟩:=a9y h;obtain⟨n4,he4,hk5,hp6⟩:=b9b hv3;refine P5 (c76 30 J he4)<|yc J (b6d J hk5 J hp6)<|S2 6 J<|j5<|S4 2 J ?_;refine cN h (λhc h=>?_) λhc h=>?_
   ·refine S4 5 J ?_;refine b9 ?_;cases h;exact⟨J,[_,_,_],⟨oL J J J o7 n7 nl J,⟨J,⟨J,tr⟩⟩⟩,J,io⟩
   ·refine c8 ?_;refine S3 1 J<|cF h a0d J J λv5 _ h=>S2 2 J<|dr [] w7 (by kernel_rfl) (by kernel_rfl)<|S7 4 J<|C1 h λv6 hv8 h=>d2 J (Z8 J a97 J hv8) J<|D1 (x':=b6.Pv v5) (cl':=true) J J (.inr J) n7<|S8 2 J<|b9 ?_;cases h;exact⟨J,[_,_,_],⟨oL J J J o7 n7 nl J,⟨J,⟨J,tr⟩⟩⟩,J,io⟩

theorem b4v{a0}:PO Tryz.prog 242 [a7.Pv a0] (a54 a0) λr=>.fn (.func 247) [.rptr (a7.Pc r)]:=by
 refine pO Tryz.func242 λr h _ _=>?_;unfold a54 at h;refine S4 2 J<|S4 2 J<|b9 ?_;cases h;exact f1

theorem b1J{a0 a1}:PO Tryz.prog 232 [a7.Pv a0,.I a1] (a48 a0 a1) λr=>.L iF r:=by
 refine pO Tryz.func232 λr h _ _=>?_;refine S4 2 J<|S3 2 J<|cF h A1 J J λv1 _ h=>S2 6 J<|S3 2 J<|cF h b0D J J λv2 _ h=>S2 1 J<|b9 ?_;cases h;exact f1

theorem b9G{a0 a1}:PO Tryz.prog 235 [a7.Pv a0,.I a1] (b2x a0 a1) λr=>.I r:=by
 refine pO Tryz.func235 λr h _ _=>?_;refine S4 3 J<|S4 2 J ?_;refine jq h (λj31=>St.of [(5,.ptr 2001 0 0)] [(2001,vR (.I j31) 1)]) (λj31 h=>?_) λκ30 h=>?_
 ·refine S4 2 J ?_;refine b9 ?_;cases h;exact f1
 ·refine S3 1 J ?_;refine cF h b4v J J λv32 _ h=>yN<|k7<|a2D (WPE (λl=>if l=2003 then 5 else if l=2004 then 3 else l) [(3,.ptr 2004 0 0),(5,.ptr 2003 0 0),(9,.fn (.func 247) [.rptr (a7.Pc v32)])] [(2003,vR (.I 0) 1),(2004,vR (.I a1) 1)]) ?_;refine a1y (fn:=Tryz.f247) (N1:=29) J Tryz.func247 J J nl J c5s J J (λl33 e34 o35 hR36=>?_);refine b74<|j5<|b73<|S3 1 J<|cF h I6 J J λv33 _ h=>nL J l7<|S2 1 J<|k7<|lq h (λq=>St.of [(1000003,.ptr 2004 0 0),(1000005,.ptr 2003 0 0),(1000009,.fn (.func 247) [.rptr (a7.Pc v32)]),(0,.fn (.yield l33) []),(1,.rptr (a7.Pc v32)),(8,.L iF v33),(9,.I (v33.length:Int)),(10,.I q.1)] [(2003,vR (.I q.2) 1),(2004,vR (.I a1) 1)]) W λq38 x37 h hx40=>?_;obtain⟨s35,s36⟩:=q38;refine S4 1 J<|j5 ?_;refine cN h (λhc h=>?_) λhc h=>?_
  ·refine c8 ?_;refine jq h (λj50=>St.of [(1000003,.ptr 2004 0 0),(1000005,.ptr 2003 0 0),(1000009,.fn (.func 247) [.rptr (a7.Pc v32)]),(0,.fn (.yield l33) []),(1,.rptr (a7.Pc v32)),(8,.L iF v33),(9,.I (v33.length:Int)),(10,.I s35)] [(2003,vR (.I j50) 1),(2004,vR (.I a1) 1)]) (λj50 h=>?_) λκ49 h=>?_
   ·refine S6 2 J ?_;exact eL h W
   ·refine k7 ?_;refine sR<|iL h J J l7 p9 λv51 _ h=>S2 2 J<|S3 2 J<|cF h b1J J J λv52 _ h=>nL J l7<|S2 1 J<|k7<|lq h (λq=>St.of [(1000003,.ptr 2004 0 0),(1000005,.ptr 2003 0 0),(1000009,.fn (.func 247) [.rptr (a7.Pc v32)]),(0,.fn (.yield l33) []),(1,.rptr (a7.Pc v32)),(4,.I v51),(8,.L iF v33),(9,.I (v33.length:Int)),(10,.I s35),(16,.L iF v52),(17,.I (v52.length:Int)),(18,.I q.1)] [(2003,vR (.I q.2) 1),(2004,vR (.I a1) 1)]) W λq57 x56 h hx56=>?_;obtain⟨s54,s55⟩:=q57;refine S4 1 J<|j5 ?_;refine cN h (λhc h=>?_) λhc h=>?_
    ·refine c8 ?_;refine j5<|k7<|sR<|iL h J J l7 p9 λv58 _ h=>S2 2 J<|S3 3 J<|P5 (WE [(1000003,.ptr 2004 0 0),(1000005,.ptr 2003 0 0),(1000009,.fn (.func 247) [.rptr (a7.Pc v32)]),(0,.fn (.yield l33) []),(1,.rptr (a7.Pc v32)),(4,.I v51),(8,.L iF v33),(9,.I (v33.length:Int)),(10,.I s35),(16,.L iF v52),(17,.I (v52.length:Int)),(18,.I s54),(22,.fn (.yield l33) []),(23,.I v51),(24,.I v58)] [(2003,vR (.I s55) 1),(2004,vR (.I a1) 1)]) ?_;refine a6l hR36 J J J J J J (λe58 o59 o60=>?_);refine S6 1 J ?_;refine⟨J,?_⟩;refine jqE h (λj60=>St.of [(2000003,.ptr 2004 0 0),(2000005,.ptr 2003 0 0),(2000009,.fn (.func 247) [.rptr (a7.Pc v32)]),(1000000,.fn (.yield l33) []),(1000001,.rptr (a7.Pc v32)),(1000004,.I v51),(1000008,.L iF v33),(1000009,.I (v33.length:Int)),(1000010,.I s35),(1000016,.L iF v52),(1000017,.I (v52.length:Int)),(1000018,.I s54),(1000022,.fn (.yield l33) []),(1000023,.I v51),(1000024,.I v58)] [(2003,vR (.I j60) 1),(2004,vR (.I a1) 1)]) (λj60 h=>?_) λκ59 h=>?_
     ·refine⟨J,?_⟩;refine P5 (WE [(1000003,.ptr 2004 0 0),(1000005,.ptr 2003 0 0),(1000009,.fn (.func 247) [.rptr (a7.Pc v32)]),(0,.fn (.yield l33) []),(1,.rptr (a7.Pc v32)),(4,.I v51),(8,.L iF v33),(9,.I (v33.length:Int)),(10,.I s35),(16,.L iF v52),(17,.I (v52.length:Int)),(18,.I s54),(25,.bool true)] [(2003,vR (.I j60) 1),(2004,vR (.I a1) 1)])<|S2 1 J ?_;refine F7 false J (λq=>nomatch q) (λ_=>?_);refine c8<|S6 2 J ?_;exact eL h W
     ·refine k7 ?_;refine S4 3 J ?_;refine cN h (λhc h=>?_) λhc h=>?_
      ·refine S6 3 J ?_;exact eJ h W
      ·refine c8 ?_;exact eJ h W
    ·refine s7 ?_;refine g6<|g6<|m9 ?_;have h:=xL hx56 h;exact eJ h W
  ·refine s7 ?_;refine g6<|g6<|m9<|b4w ?_;refine .inl ⟨J,?_⟩;have h:=xL hx40 h;exact eJ h (WP (λl=>if l=2001 then 2003 else l))

theorem a6V{a0}:PO Tryz.prog 244 [.L b8.Pv a0] (a0Z a0) λr=>.fn (.func 248) [.rptr [.L b8.Pv r]]:=by
 refine pO Tryz.func244 λr h _ _=>?_;unfold a0Z at h;refine S4 2 J<|S4 2 J<|b9 ?_;cases h;exact f1

theorem a9V{a0}:PO Tryz.prog 249 [.L b8.Pv a0] (a4T a0) λr=>.L iF r:=by
 refine pO Tryz.func249 λr h _ _=>?_;refine S4 1 J<|S4 1 J ?_;refine jq h (λj13=>St.of [(3,.sl 910003)] [(910003,⟨List.map iF j13,(List.map iF j13).length,true,1,true⟩)]) (λj13 h=>?_) λκ12 h=>?_
 ·refine S4 2 J ?_;refine b9 ?_;cases h;exact f1
 ·refine S3 1 J ?_;refine nL J a0I<|S2 1 J<|k7<|lq h (λq=>St.of [(3,.sl 910003),(6,.L b8.Pv a0),(7,.I (a0.length:Int)),(8,.I q.1)] [(910003,⟨List.map iF q.2,(List.map iF q.2).length,true,1,true⟩)]) (Wk.trans (W1 (t:=3) (l:=920003) (z:=1) J J) (WP (λl=>if l=910003 then 920003 else l))) λq18 x17 h hx12=>?_;obtain⟨s15,s16⟩:=q18;refine S4 1 J<|j5 ?_;refine cN h (λhc h=>?_) λhc h=>?_
  ·refine c8 ?_;refine jq h (λj22=>St.of [(3,.sl 19),(6,.L b8.Pv a0),(7,.I (a0.length:Int)),(8,.I s15)] [(19,⟨List.map iF j22,(List.map iF j22).length,true,1,true⟩)]) (λj22 h=>?_) λκ21 h=>?_
   ·refine S6 2 J ?_;exact eL h (Wk.trans (p8 _ [19]) (WP (λl=>if l=910003 then 19 else l)))
   ·refine k7 ?_;refine sR<|iL h J J a0I a0D λv23 _ h=>S2 3 J<|S4 3 J ?_;refine cN h (λhc h=>?_) λhc h=>?_
    ·refine S5 3 J ?_;refine y0 J (a0m (f:=iF) (l:=[v23.Key]) J l7 p9 E1 J J nl J J)<|C1 h λv24 hv17 h=>a1S J (a1v (f:=iF) hv17 J J J J J J (.inl ⟨_,J,J⟩) l7 p9 X0 E1 J (λ_=>J)) J J J<|S2 1 J ?_;exact eJ h (Wk.trans (p8 _ [19]) W)
    ·refine c8 ?_;exact eJ h (Wk.trans (p8 _ [910003]) (WP (λl=>if l=19 then 910003 else l)))
  ·refine s7 ?_;refine g6<|g6<|m9 ?_;have h:=xL hx12 h;exact eJ h (Wk.trans (p8 _ [910003]) W)

theorem b0R{a0 a1}:PO Tryz.prog 245 [l6.Pv a0,.rptr [.I a1]] (a2j a0 a1) λr=>.bool r:=by
 refine pO Tryz.func245 λr h _ _=>?_;unfold a2j at h;refine S4 2 J<|S3 3 J<|n0 J (λhg=>oF J b4E J)<|n0 J (λhg=>oS (ct hg) J J I7 J)<|n0 J (λhg=>a1w J I7 J)<|n0 J (λhg=>C8 (ct hg) (ct hg) J)<|y0 J (E7 J J J (λq=>eqT q))<|S2 1 J<|b9 ?_;cases h;exact f1

theorem G9{a0 a1}:PO Tryz.prog 243 [.fn (.func 248) [.rptr [.L b8.Pv a0]],.fn (.func 245) [.rptr [.I a1]]] (x6 a0 a1) λr=>.L l6.Pv r:=by
 refine pO Tryz.func243 λr h _ _=>?_;refine S4 2 J<|S4 1 J ?_;refine jq h (λj16=>St.of [(5,.ptr 2001 0 0)] [(2001,vS (.sl 912501) 1),(912501,⟨List.map l6.Pv j16,(List.map l6.Pv j16).length,true,2,true⟩)]) (λj16 h=>?_) λκ15 h=>?_
 ·refine S4 2 J ?_;refine b9 ?_;cases h;exact f1
 ·refine S4 1 J ?_;refine k7<|a2D (WPE (λl=>if l=2012 then 5 else if l=2013 then 3 else l) [(3,.ptr 2013 0 0),(5,.ptr 2012 0 0),(7,.fn (.func 248) [.rptr [.L b8.Pv a0]])] [(2012,vR (.nl) 1),(2013,vR (.fn (.func 245) [.rptr [.I a1]]) 1)]) ?_;refine a1y (fn:=Tryz.f248) (N1:=27) J Tryz.func248 J J nl J c0f J J (λl20 e21 o22 hR23=>?_);refine S3 1 J<|cF h a9V J J λv17 _ h=>nL J l7<|S2 1 J<|k7<|lq h (λq=>St.of [(1000003,.ptr 2013 0 0),(1000005,.ptr 2012 0 0),(1000007,.fn (.func 248) [.rptr [.L b8.Pv a0]]),(0,.fn (.yield l20) []),(1,.rptr [.L b8.Pv a0]),(8,.L iF v17),(9,.I (v17.length:Int)),(10,.I q.1)] [(2012,vS (.sl 912512) 1),(2013,vR (.fn (.func 245) [.rptr [.I a1]]) 1),(912512,⟨List.map l6.Pv q.2,(List.map l6.Pv q.2).length,true,2,true⟩)]) (Wk.trans (b2F (l0:=2012) (j:=0) (l:=922512) (z:=2) J J J J J) (WP (λl=>if l=912512 then 922512 else l))) λq22 x21 h hx27=>?_;obtain⟨s19,s20⟩:=q22;refine S4 1 J<|j5 ?_;refine cN h (λhc h=>?_) λhc h=>?_
  ·refine c8 ?_;refine j5<|k7<|sR<|iL h J J l7 p9 λv23 _ h=>S2 2 J<|S3 2 J<|cA h a4e J J λv24 _ h=>S2 5 J<|S3 3 J<|y0 J (s6 (cs:=[.I v23,.I v24.1]) J c0h a7H J J J)<|P5 (WPE (λl=>if l=2021 then 912512 else l) [(1000003,.ptr 2013 0 0),(1000005,.ptr 2012 0 0),(1000007,.fn (.func 248) [.rptr [.L b8.Pv a0]]),(0,.fn (.yield l20) []),(1,.rptr [.L b8.Pv a0]),(8,.L iF v17),(9,.I (v17.length:Int)),(10,.I s19),(20,.fn (.yield l20) []),(23,.agg [.I v23,.I v24.1])] [(2012,vS (.sl 2021) 1),(2021,⟨List.map l6.Pv s20,(List.map l6.Pv s20).length,true,2,true⟩),(2013,vR (.fn (.func 245) [.rptr [.I a1]]) 1)]) ?_;refine a6l hR23 J J J J J J (λe30 o31 o32=>?_);refine S6 2 J ?_;refine⟨J,?_⟩;refine jqE h (λj28=>St.of [(2000003,.ptr 2013 0 0),(2000005,.ptr 2012 0 0),(2000007,.fn (.func 248) [.rptr [.L b8.Pv a0]]),(1000000,.fn (.yield l20) []),(1000001,.rptr [.L b8.Pv a0]),(1000008,.L iF v17),(1000009,.I (v17.length:Int)),(1000010,.I s19),(1000020,.fn (.yield l20) []),(1000023,.agg [.I v23,.I v24.1])] [(2012,vS (.sl 15) 1),(15,⟨List.map l6.Pv j28,(List.map l6.Pv j28).length,true,2,true⟩),(2013,vR (.fn (.func 245) [.rptr [.I a1]]) 1)]) (λj28 h=>?_) λκ27 h=>?_
   ·refine⟨J,?_⟩;refine P5 (WPE (λl=>if l=2022 then 15 else l) [(1000003,.ptr 2013 0 0),(1000005,.ptr 2012 0 0),(1000007,.fn (.func 248) [.rptr [.L b8.Pv a0]]),(0,.fn (.yield l20) []),(1,.rptr [.L b8.Pv a0]),(8,.L iF v17),(9,.I (v17.length:Int)),(10,.I s19),(24,.bool true)] [(2012,vS (.sl 2022) 1),(2022,⟨List.map l6.Pv j28,(List.map l6.Pv j28).length,true,2,true⟩),(2013,vR (.fn (.func 245) [.rptr [.I a1]]) 1)])<|S2 1 J ?_;refine F7 false J (λq=>nomatch q) (λ_=>?_);refine c8<|S6 2 J ?_;exact eL h (Wk.trans (p8 _ [2022]) (WP (λl=>if l=912512 then 2022 else l)))
   ·refine k7 ?_;refine S3 2 J<|cA h b0R J J λv29 _ h=>yN ?_;refine cN h (λhc h=>?_) λhc h=>?_
    ·refine S5 2 J ?_;refine y0 J (a0m (f:=l6.Pv) (l:=[(⟨v23,v24.1⟩:l6)]) J a5s a9v a7H J J nl J J)<|C1 h λv30 hv37 h=>a1S J (a1v (f:=l6.Pv) hv37 J J J J J J (.inl ⟨_,J,J⟩) a5s a9v c0c a7H J (λ_=>J)) J J J<|S2 1 J ?_;exact eJ h (Wk.trans (p8 _ [15]) W)
    ·refine c8 ?_;exact eJ h (Wk.trans (p8 _ [2021]) (WP (λl=>if l=15 then 2021 else l)))
  ·refine s7 ?_;refine g6<|g6<|m9 ?_;refine .inl ⟨J,?_⟩;have h:=xL hx27 h;exact eJ h (Wk.trans (p8 _ [912512]) (WP (λl=>if l=2001 then 2012 else if l=912501 then 912512 else l)))

theorem b2Z{a0 a1}:PO Tryz.prog 236 [.L b8.Pv a0,.I a1] (a4b a0 a1) λr=>.I r:=by
 refine pO Tryz.func236 λr h _ _=>?_;refine S4 2 J<|S3 1 J<|cF h a6V J J λv1 _ h=>S1 1 J<|C1 h λv2 hv2 h=>ycL J (z8 J G9 J hv2) J<|nL J a5s<|S2 1 J<|b9 ?_;cases h;exact f1

theorem b30{a0 a1 a2}:PO Tryz.prog 218 [a7.Pv a0,.L b8.Pv a1,.I a2] (a4v a0 a1 a2) λr=>.I r:=by
 refine pO Tryz.func218 λr h _ _=>?_;refine S4 2 J<|S3 2 J<|cA h b9G J J λv1 _ h=>S1 2 J<|cA h b2Z J J λv2 _ h=>S2 2 J<|b9 ?_;cases h;exact f1

theorem b4B{a0 a1 a2}:PO Tryz.prog 193 [a7.Pv a0,.L b8.Pv a1,.I a2] (a6j a0 a1 a2) λr=>.I r:=by
 refine pO Tryz.func193 λr h _ _=>?_;refine S4 2 J<|S3 2 J<|cF h A1 J J λv1 _ h=>S2 6 J<|j5<|S4 2 J ?_;refine cN h (λhc h=>?_) λhc h=>?_
 ·refine S4 1 J ?_;refine b9 ?_;cases h;exact f1
 ·refine c8 ?_;refine dr [] w7 (by kernel_rfl) (by kernel_rfl)<|S7 5 J<|C1 h λv2 hv2 h=>d2 J (Z8 J b30 J hv2) J<|S8 2 J<|b9 ?_;cases h;exact f1

theorem b2S{a0}:PO Tryz.prog 194 [.I a0] (a6S a0) λr=>.bool r:=by
 refine pO Tryz.func194 λr h _ _=>?_;refine S4 1 J<|S3 1 J<|cA h X6 J J λv1 _ h=>S2 1 J<|b9 ?_;cases h;exact f1

theorem b12{a0 a1 a2 a3}:PO Tryz.prog 192 [.I a0,l4.Pv a1,.rptr (a7.Pc a2),.rptr [.L b8.Pv a3]] (a6i a0 a1 a2 a3) λr=>.bool r:=by
 refine pO Tryz.func192 λr h _ _=>?_;refine S4 2 J<|S3 3 J<|cA h b4B J J λv1 _ h=>S1 2 J<|n0 J (λhg=>oF J b7f J)<|n0 J (λhg=>oS (ct hg) J J I7 J)<|C1 h λv2 hv2 h=>n0 J (λhg=>Z8 J b2S (a3x (ct hg) J) (a2Z hv2 hg))<|y0 J (M1 J J J (λq=>eqF q))<|S2 1 J<|b9 ?_;cases h;exact f1

theorem b4A{a0 a1}:PO Tryz.prog 142 [a7.Pv a0,.L b8.Pv a1] (a6h a0 a1) λr=>.L iF r:=by
 refine pO Tryz.func142 λr h _ _=>?_;refine S4 3 J<|S3 1 J<|y0 J (s6 (cs:=[.fn (.func 192) [.ptr 2 0 0,.ptr 3 0 0]]) J c5x c5F J J J)<|P5 (a6B 7 (d':=.agg [.fn (.func 192) [.ptr 2 0 0,.ptr 3 0 0]]) J)<|S2 2 J<|S3 2 J<|P5 (WPE (λl=>if l=2001 then 3 else if l=2002 then 2 else l) [(8,.agg [.fn (.func 192) [.ptr 2002 0 0,.ptr 2001 0 0]]),(9,a7.Pv a0)] [(2001,vR (.L b8.Pv a1) 1),(2002,vR (a7.Pv a0) 3)]) ?_;refine b5t (fn:=Tryz.f195) (N1:=34) J J Tryz.func195 J c5o J J nl (λe1 o2=>?_);refine jqR h (λj36=>St.of [(1000008,.agg [.fn (.func 192) [.ptr 2002 0 0,.ptr 2001 0 0]]),(1000009,a7.Pv a0),(4,.sl 910005)] [(910005,⟨List.map iF j36,(List.map iF j36).length,true,1,true⟩),(2001,vR (.L b8.Pv a1) 1),(2002,vR (a7.Pv a0) 3)]) (λj36 h=>dup ?_) λκ35 h=>?_
 ·refine⟨J,[.sl 910005],⟨J,tr⟩,?_⟩;refine P5 (WPE (λl=>if l=2003 then 910005 else l) [(10,.sl 2003)] [(2003,⟨List.map iF j36,(List.map iF j36).length,true,1,true⟩)])<|S2 1 J<|b9 ?_;cases h;exact f1
 ·refine S4 3 J ?_;refine S4 1 J ?_;refine jq h (λj54=>St.of [(1000008,.agg [.fn (.func 192) [.ptr 2002 0 0,.ptr 2001 0 0]]),(1000009,a7.Pv a0),(5,.sl 910005)] [(910005,⟨List.map iF j54,(List.map iF j54).length,true,1,true⟩),(2001,vR (.L b8.Pv a1) 1),(2002,vR (a7.Pv a0) 3)]) (λj54 h=>?_) λκ53 h=>?_
  ·refine S4 2 J ?_;refine b9 ?_;exact eJ h (Wk.trans (p8 _ [910005]) W)
  ·refine S3 1 J ?_;refine cF h I6 J J λv55 _ h=>nL J l7<|S2 1 J<|k7<|lq h (λq=>St.of [(1000008,.agg [.fn (.func 192) [.ptr 2002 0 0,.ptr 2001 0 0]]),(1000009,a7.Pv a0),(2,.ptr 2 0 0),(3,.ptr 3 0 0),(5,.sl 910005),(11,.L iF v55),(12,.I (v55.length:Int)),(13,.I q.1)] [(3,vR (a7.Pv a0) 3),(2,vS (.agg [.fn (.func 192) [.ptr 2002 0 0,.ptr 2001 0 0]]) 1),(2001,vR (.L b8.Pv a1) 1),(2002,vR (a7.Pv a0) 3),(910005,⟨List.map iF q.2,(List.map iF q.2).length,true,1,true⟩)]) (Wk.trans (W1 (t:=5) (l:=920005) (z:=1) J J) (WP (λl=>if l=910005 then 920005 else l))) λq60 x59 h hx48=>?_;obtain⟨s57,s58⟩:=q60;refine S4 1 J<|j5 ?_;refine cN h (λhc h=>?_) λhc h=>?_
   ·refine c8 ?_;refine jq h (λj66=>St.of [(1000008,.agg [.fn (.func 192) [.ptr 2002 0 0,.ptr 2001 0 0]]),(1000009,a7.Pv a0),(2,.ptr 2 0 0),(3,.ptr 3 0 0),(5,.sl 31),(11,.L iF v55),(12,.I (v55.length:Int)),(13,.I s57)] [(31,⟨List.map iF j66,(List.map iF j66).length,true,1,true⟩),(3,vR (a7.Pv a0) 3),(2,vS (.agg [.fn (.func 192) [.ptr 2002 0 0,.ptr 2001 0 0]]) 1),(2001,vR (.L b8.Pv a1) 1),(2002,vR (a7.Pv a0) 3)]) (λj66 h=>?_) λκ65 h=>?_
    ·refine S6 2 J ?_;exact eL h (Wk.trans (p8 _ [31]) (WP (λl=>if l=910005 then 31 else l)))
    ·refine k7 ?_;refine sR<|iL h J J l7 p9 λv67 _ h=>S2 2 J<|S3 2 J<|cF h A1 J J λv68 _ h=>S2 6 J<|S3 4 J<|cA h b12 J J λv69 _ h=>yN ?_;refine cN h (λhc h=>?_) λhc h=>?_
     ·refine S5 2 J ?_;refine y0 J (a0m (f:=iF) (l:=[v67]) J l7 p9 E1 J J nl J J)<|C1 h λv70 hv57 h=>a1S J (a1v (f:=iF) hv57 J J J J J J (.inl ⟨_,J,J⟩) l7 p9 X0 E1 J (λ_=>J)) J J J<|S2 1 J ?_;exact eJ h (Wk.trans (p8 _ [31]) W)
     ·refine c8 ?_;exact eJ h (Wk.trans (p8 _ [910005]) (WP (λl=>if l=31 then 910005 else l)))
   ·refine s7 ?_;refine g6<|g6<|m9 ?_;have h:=xL hx48 h;exact eJ h (Wk.trans (p8 _ [910005]) W)

theorem b1b{a0}:PO Tryz.prog 226 [.I a0] (a2n a0) λr=>g9.Pv r:=by
 refine pO Tryz.func226 λr h _ _=>?_;unfold a2n at h;refine S4 1 J<|S3 1 J<|y0 J (s6 (cs:=[.nl,.I a0]) J c5z c5H J J J)<|a7F (x':=.agg [.nl,.I a0]) (cl':=true) J J (.inl J) a36<|yN<|b9 ?_;cases h;exact⟨J,[_],⟨oL J J J a7G a36 nl J,tr⟩,J,io⟩

theorem a6w{a0 a1}:PO Tryz.prog 228 [a7.Pv a0,.I a1] (a0c a0 a1) λr=>.bool r:=by
 refine pO Tryz.func228 λr h _ _=>?_;refine S4 2 J<|S3 2 J<|cF h A1 J J λv1 _ h=>S2 6 J<|S4 3 J<|b9 ?_;cases h;exact f1

theorem Q9{a0}:PO Tryz.prog 230 [g9.Pv a0] (I5 a0) λr=>.I r:=by
 refine pO Tryz.func230 λr h _ _=>?_;unfold I5 at h;refine S4 2 J<|S3 2 J<|nL J l7<|S2 1 J<|b9 ?_;cases h;exact f1

theorem a1z{a0 a1 a2}:PO Tryz.prog 237 [.L iF a0,.I a1,.I a2] (M3 a0 a1 a2) λr=>.lst true (List.map iF r):=by
 refine pO Tryz.func237 λr h _ _=>?_;unfold M3 at h;refine S4 1 J<|S3 4 J<|C1 h λv1 hv1 h=>y0 J (c3W (f:=iF) hv1 J ⟨_,J⟩ ⟨_,J⟩ ⟨_,J⟩ J J l7 p9 (λ_=>J))<|S2 1 J<|b9 ?_;cases h;exact f1

theorem a4p{a0 a1}:PO Tryz.prog 229 [g9.Pv a0,.I a1] (M2 a0 a1) λr=>.tup [g9.Pv r.1,.I r.2]:=by
 refine pO Tryz.func229 λr h _ _=>?_;unfold M2 at h;refine S4 3 J<|j5<|dr [] w7 (by kernel_rfl) (by kernel_rfl)<|S7 1 J<|C1 h λv1 hv1 h=>d2 J (Z8 J Q9 J hv1) J<|S8 3 J ?_;refine cN h (λhc h=>?_) λhc h=>?_
 ·refine S4 3 J ?_;refine b9 ?_;cases h;exact⟨J,[_,_],⟨oL J J J a7G a36 nl J,⟨J,tr⟩⟩,J,io⟩
 ·refine c8 ?_;refine dr [] w7 (by kernel_rfl) (by kernel_rfl)<|S7 3 J<|d2 J (Z8 J Q9 J hv1) J<|C1 h λv2 hv2 h=>d2f J (z8 J a1z J hv2) J<|S7 1 J<|d1n J (a0m (f:=iF) (l:=[a1]) J l7 p9 E1 J J nl J J) J<|C1 h λv3 hv3 h=>d3 J (b7T (f:=iF) hv3 J J (.inl ⟨_,J,J⟩) l7 p9 X0 E1 J (λ_=>J)) J J J<|S7 1 J<|D1 (x':=.agg [.sl 19,.I a0.Cap]) (cl':=false) J J (.inl J) b0J<|X7<|S4 3 J<|b9 ?_;cases h;exact⟨J,[_,_],⟨oL J J J a7G a36 nl J,⟨J,tr⟩⟩,J,io⟩

theorem a9f{a0 a1}:PO Tryz.prog 238 [g9.Pv a0,.I a1] (a2T a0 a1) λr=>.tup [g9.Pv r.1,.L iF r.2]:=by
 refine pO Tryz.func238 λr h _ _=>?_;refine S4 3 J<|S3 2 J<|cA h Q9 J J λv1 hv1 h=>y0 J (c7W J J J)<|y0 J (c31 J J J)<|S2 1 J<|S3 3 J<|cF h a1z J J λv2 _ h=>S2 1 J<|dr [] w7 (by kernel_rfl) (by kernel_rfl)<|S7 4 J<|d2 J (Z8 J Q9 J hv1) J<|C1 h λv3 hv3 h=>d2f J (z8 J a1z J hv3) J<|S7 1 J<|D1 (x':=.agg [.L iF v3,.I a0.Cap]) (cl':=true) J J (.inr J) b0J<|X7<|S4 4 J<|b9 ?_;cases h;exact⟨J,[_,_],⟨oL J J J a7G a36 nl J,⟨J,tr⟩⟩,J,io⟩

theorem b1c{a0}:PO Tryz.prog 231 [g9.Pv a0] (a0y a0) λr=>.tup [g9.Pv r.1,.I r.2.1,.I r.2.2]:=by
 refine pO Tryz.func231 λr h _ _=>?_;refine S4 4 J<|S3 1 J<|cF h a9f J J λv1 _ h=>S2 6 J<|j5<|S3 1 J<|nL J l7<|S2 1 J ?_;refine cN h (λhc h=>?_) λhc h=>?_
 ·refine S4 1 J ?_;refine S4 5 J<|b9 ?_;cases h;exact⟨J,[_,_,_],⟨oL J J J a7G a36 nl J,⟨J,⟨J,tr⟩⟩⟩,J,io⟩
 ·refine c8 ?_;refine dr [2,3] w7 (by kernel_rfl) (by kernel_rfl)<|S7 2 J<|C1 h λv2 hv2 h=>d7 J (λ_ hN=>a0i (f:=iF) (cs:=[.I v2]) hv2 J J l7 p9 J J) J<|d7 J (λ_ hN=>a1w J I7 J) J<|D1 (x':=g9.Pv v1.1) (cl':=true) J J (.inr J) a36<|S8 2 J<|b9 ?_;cases h;exact⟨J,[_,_,_],⟨oL J J J a7G a36 nl J,⟨J,⟨J,tr⟩⟩⟩,J,io⟩

theorem a6x{a0 a1}:PO Tryz.prog 214 [a7.Pv a0,.L iF a1] (a1B a0 a1) λr=>.abs (T6 (List.map (ent iF PV.bool) r)):=by
 refine pO Tryz.func214 λr h _ _=>?_;refine S4 2 J<|sR<|b8H (KT:=Int) (VT:=Bool) (EK:=iF) (E:=PV.bool) 5000009 J J<|S2 2 J<|S3 1 J<|cF h I6 J J λv1 _ h=>nL J l7<|cF h b1b J J λv2 _ h=>S2 2 J<|S4 2 J<|S3 2 J<|P5 (WPE (λl=>if l=2001 then 6 else if l=2002 then 5 else if l=2003 then 2 else if l=5002004 then 5000009 else l) [(2,.ptr 2003 0 0),(5,.ptr 2002 0 0),(6,.ptr 2001 0 0),(7,.fn (.func 227) [.ptr 2003 0 0,.ptr 2002 0 0,.ptr 2001 0 0]),(15,.fn (.func 227) [.ptr 2003 0 0,.ptr 2002 0 0,.ptr 2001 0 0]),(16,.L iF a1)] [(2001,vR (g9.Pv v2) 2),(2002,vS (.mp 5002004) 1),(5002004,⟨[.mapc (List.map (ent iF PV.bool) [])],0,false,0,false⟩),(2003,vR (a7.Pv a0) 3)]) ?_;refine b5t (fn:=Tryz.f227) (N1:=31) J J Tryz.func227 J c0e J J nl (λe3 o4=>?_);refine jqR h (λq=>St.of [(1000002,.ptr 2003 0 0),(1000005,.ptr 2002 0 0),(1000006,.ptr 2001 0 0),(1000007,.fn (.func 227) [.ptr 2003 0 0,.ptr 2002 0 0,.ptr 2001 0 0]),(1000015,.fn (.func 227) [.ptr 2003 0 0,.ptr 2002 0 0,.ptr 2001 0 0]),(1000016,.L iF a1)] [(2001,vR (g9.Pv q.1) 2),(2002,vS (.mp 5002004) 1),(5002004,⟨[.mapc (List.map (ent iF PV.bool) q.2)],0,false,0,false⟩),(2003,vR (a7.Pv a0) 3)]) (λq22 h=>dup ?_) λκ19 h=>?_
 ·obtain⟨j20,j21⟩:=q22;refine⟨J,[],tr,?_⟩;refine P5 (WE [(2,.ptr 2003 0 0),(5,.ptr 2002 0 0),(6,.ptr 2001 0 0),(7,.fn (.func 227) [.ptr 2003 0 0,.ptr 2002 0 0,.ptr 2001 0 0])] [(2001,vR (g9.Pv j20) 2),(2002,vS (.mp 5002004) 1),(5002004,⟨[.mapc (List.map (ent iF PV.bool) j21)],0,false,0,false⟩),(2003,vR (a7.Pv a0) 3)])<|yN ?_;refine jq h (λj68=>St.of [(5,.ptr 2002 0 0)] [(2002,vS (.mp 5002004) 1),(5002004,⟨[.mapc (List.map (ent iF PV.bool) j68)],0,false,0,false⟩)]) (λj68 h=>?_) λκ67 h=>?_
  ·refine S4 2 J ?_;refine a2D (b90 4 5002004 J J)<|b9 ?_;cases h;exact f1
  ·refine k7 ?_;refine lq h (λq=>St.of [(2,.ptr 2003 0 0),(5,.ptr 2002 0 0),(6,.ptr 2001 0 0),(7,.fn (.func 227) [.ptr 2003 0 0,.ptr 2002 0 0,.ptr 2001 0 0])] [(2001,vR (g9.Pv q.1) 2),(2002,vS (.mp 5002004) 1),(5002004,⟨[.mapc (List.map (ent iF PV.bool) q.2)],0,false,0,false⟩),(2003,vR (a7.Pv a0) 3)]) W λq73 x72 h hx54=>?_;obtain⟨s70,s71⟩:=q73;refine j5<|S3 1 J<|cA h Q9 J J λv74 _ h=>S2 1 J ?_;refine cN h (λhc h=>?_) λhc h=>?_
   ·refine c8 ?_;refine k7<|S4 1 J<|S3 1 J<|cF h b1c J J λv75 _ h=>S2 6 J<|S5 3 J<|cF h b1J J J λv76 _ h=>P5 (WE [(2,.ptr 2003 0 0),(5,.ptr 2002 0 0),(6,.ptr 2001 0 0),(7,.fn (.func 227) [.ptr 2003 0 0,.ptr 2002 0 0,.ptr 2001 0 0]),(27,.fn (.func 227) [.ptr 2003 0 0,.ptr 2002 0 0,.ptr 2001 0 0]),(30,.L iF v76)] [(2001,vR (g9.Pv v75.1) 2),(2002,vS (.mp 5002004) 1),(5002004,⟨[.mapc (List.map (ent iF PV.bool) s71)],0,false,0,false⟩),(2003,vR (a7.Pv a0) 3)]) ?_;refine b5t (fn:=Tryz.f227) (N1:=31) J J Tryz.func227 J c0e J J nl (λe58 o59=>?_);refine jqR h (λq=>St.of [(1000002,.ptr 2003 0 0),(1000005,.ptr 2002 0 0),(1000006,.ptr 2001 0 0),(1000007,.fn (.func 227) [.ptr 2003 0 0,.ptr 2002 0 0,.ptr 2001 0 0]),(1000027,.fn (.func 227) [.ptr 2003 0 0,.ptr 2002 0 0,.ptr 2001 0 0]),(1000030,.L iF v76)] [(2001,vR (g9.Pv q.1) 2),(2002,vS (.mp 5002004) 1),(5002004,⟨[.mapc (List.map (ent iF PV.bool) q.2)],0,false,0,false⟩),(2003,vR (a7.Pv a0) 3)]) (λq96 h=>dup ?_) λκ93 h=>?_
    ·obtain⟨j94,j95⟩:=q96;refine⟨J,[],tr,?_⟩;refine P5 (WE [(2,.ptr 2003 0 0),(5,.ptr 2002 0 0),(6,.ptr 2001 0 0),(7,.fn (.func 227) [.ptr 2003 0 0,.ptr 2002 0 0,.ptr 2001 0 0])] [(2001,vR (g9.Pv j94) 2),(2002,vS (.mp 5002004) 1),(5002004,⟨[.mapc (List.map (ent iF PV.bool) j95)],0,false,0,false⟩),(2003,vR (a7.Pv a0) 3)])<|yN ?_;exact eL h W
    ·refine S3 1 J ?_;refine nL J l7<|S2 1 J<|k7<|lq h (λq=>St.of [(1000002,.ptr 2003 0 0),(1000005,.ptr 2002 0 0),(1000006,.ptr 2001 0 0),(1000007,.fn (.func 227) [.ptr 2003 0 0,.ptr 2002 0 0,.ptr 2001 0 0]),(1000027,.fn (.func 227) [.ptr 2003 0 0,.ptr 2002 0 0,.ptr 2001 0 0]),(1000030,.L iF v76),(1,.ptr 2003 0 0),(2,.ptr 2002 0 0),(3,.ptr 2001 0 0),(7,.L iF v76),(8,.I (v76.length:Int)),(9,.I q.1)] [(2001,vR (g9.Pv q.2.1) 2),(2002,vS (.mp 5002004) 1),(5002004,⟨[.mapc (List.map (ent iF PV.bool) q.2.2)],0,false,0,false⟩),(2003,vR (a7.Pv a0) 3)]) W λq102 x101 h hx75=>?_;obtain⟨s98,s99,s100⟩:=q102;refine S4 1 J<|j5 ?_;refine cN h (λhc h=>?_) λhc h=>?_
     ·refine c8 ?_;refine jq h (λq=>St.of [(1000002,.ptr 2003 0 0),(1000005,.ptr 2002 0 0),(1000006,.ptr 2001 0 0),(1000007,.fn (.func 227) [.ptr 2003 0 0,.ptr 2002 0 0,.ptr 2001 0 0]),(1000027,.fn (.func 227) [.ptr 2003 0 0,.ptr 2002 0 0,.ptr 2001 0 0]),(1000030,.L iF v76),(1,.ptr 2003 0 0),(2,.ptr 2002 0 0),(3,.ptr 2001 0 0),(7,.L iF v76),(8,.I (v76.length:Int)),(9,.I s98)] [(2001,vR (g9.Pv q.1) 2),(2002,vS (.mp 5002004) 1),(5002004,⟨[.mapc (List.map (ent iF PV.bool) q.2)],0,false,0,false⟩),(2003,vR (a7.Pv a0) 3)]) (λq109 h=>?_) λκ106 h=>?_
      ·obtain⟨j107,j108⟩:=q109;refine S6 2 J ?_;exact eL h W
      ·refine k7 ?_;refine sR<|iL h J J l7 p9 λv110 _ h=>S2 2 J<|S3 2 J<|cA h a6w J J λv111 _ h=>S1 1 J<|n0 J (λhg=>oS J J J b99 J)<|n0 J (λhg=>mI J) ?_;rcases Bool.eq_false_or_eq_true (v111==true) with hg83 | hg83
       ·have h:=ifT h hg83;refine c48 (es:=s100) (k:=v110) (E:=PV.bool) (EK:=iF) (d:=.bool ((y8 s100 v110).getD (false:Bool))) (congrArg some hg83) (ct hg83) J (ct hg83) a2p (w9 I8) b7j J (lk1 _ _ _)<|y0 (congrArg some hg83) (a4Y J J)<|y0 J (a5U J J hg83)<|yN ?_;refine cN h (λhc h=>?_) λhc h=>?_
        ·refine S3 2 J ?_;refine a0r (es:=s100) (k:=v110) (v:=true) (E:=PV.bool) (EK:=iF) (.inl J) J J J J J J a2p (w9 I8)<|yN<|S5 2 J<|cF h a4p J J λv112 _ h=>S2 4 J ?_;exact eJ h W
        ·refine c8 ?_;exact eJ h W
       ·have h:=ifF h hg83;refine a1J (congrArg some hg83)<|a1J (congrArg some hg83)<|y0 J (a7U J J hg83)<|yN ?_;refine F7 false J (λq=>nomatch q) (λ_=>?_);refine c8 ?_;exact eJ h W
     ·refine s7 ?_;refine g6<|g6<|m9 ?_;have h:=xL hx75 h;exact eJ h W
   ·refine s7 ?_;refine g6<|g6<|m9 ?_;have h:=xL hx54 h;exact eJ h W
 ·refine S3 1 J ?_;refine nL J l7<|S2 1 J<|k7<|lq h (λq=>St.of [(1000002,.ptr 2003 0 0),(1000005,.ptr 2002 0 0),(1000006,.ptr 2001 0 0),(1000007,.fn (.func 227) [.ptr 2003 0 0,.ptr 2002 0 0,.ptr 2001 0 0]),(1000015,.fn (.func 227) [.ptr 2003 0 0,.ptr 2002 0 0,.ptr 2001 0 0]),(1000016,.L iF a1),(1,.ptr 2003 0 0),(2,.ptr 2002 0 0),(3,.ptr 2001 0 0),(7,.L iF a1),(8,.I (a1.length:Int)),(9,.I q.1)] [(2001,vR (g9.Pv q.2.1) 2),(2002,vS (.mp 5002004) 1),(5002004,⟨[.mapc (List.map (ent iF PV.bool) q.2.2)],0,false,0,false⟩),(2003,vR (a7.Pv a0) 3)]) W λq118 x117 h hx87=>?_;obtain⟨s114,s115,s116⟩:=q118;refine S4 1 J<|j5 ?_;refine cN h (λhc h=>?_) λhc h=>?_
  ·refine c8 ?_;refine jq h (λq=>St.of [(1000002,.ptr 2003 0 0),(1000005,.ptr 2002 0 0),(1000006,.ptr 2001 0 0),(1000007,.fn (.func 227) [.ptr 2003 0 0,.ptr 2002 0 0,.ptr 2001 0 0]),(1000015,.fn (.func 227) [.ptr 2003 0 0,.ptr 2002 0 0,.ptr 2001 0 0]),(1000016,.L iF a1),(1,.ptr 2003 0 0),(2,.ptr 2002 0 0),(3,.ptr 2001 0 0),(7,.L iF a1),(8,.I (a1.length:Int)),(9,.I s114)] [(2001,vR (g9.Pv q.1) 2),(2002,vS (.mp 5002004) 1),(5002004,⟨[.mapc (List.map (ent iF PV.bool) q.2)],0,false,0,false⟩),(2003,vR (a7.Pv a0) 3)]) (λq125 h=>?_) λκ122 h=>?_
   ·obtain⟨j123,j124⟩:=q125;refine S6 2 J ?_;exact eL h W
   ·refine k7 ?_;refine sR<|iL h J J l7 p9 λv126 _ h=>S2 2 J<|S3 2 J<|cA h a6w J J λv127 _ h=>S1 1 J<|n0 J (λhg=>oS J J J b99 J)<|n0 J (λhg=>mI J) ?_;rcases Bool.eq_false_or_eq_true (v127==true) with hg95 | hg95
    ·have h:=ifT h hg95;refine c48 (es:=s116) (k:=v126) (E:=PV.bool) (EK:=iF) (d:=.bool ((y8 s116 v126).getD (false:Bool))) (congrArg some hg95) (ct hg95) J (ct hg95) a2p (w9 I8) b7j J (lk1 _ _ _)<|y0 (congrArg some hg95) (a4Y J J)<|y0 J (a5U J J hg95)<|yN ?_;refine cN h (λhc h=>?_) λhc h=>?_
     ·refine S3 2 J ?_;refine a0r (es:=s116) (k:=v126) (v:=true) (E:=PV.bool) (EK:=iF) (.inl J) J J J J J J a2p (w9 I8)<|yN<|S5 2 J<|cF h a4p J J λv128 _ h=>S2 4 J ?_;exact eJ h W
     ·refine c8 ?_;exact eJ h W
    ·have h:=ifF h hg95;refine a1J (congrArg some hg95)<|a1J (congrArg some hg95)<|y0 J (a7U J J hg95)<|yN ?_;refine F7 false J (λq=>nomatch q) (λ_=>?_);refine c8 ?_;exact eJ h W
  ·refine s7 ?_;refine g6<|g6<|m9 ?_;have h:=xL hx87 h;exact eJ h W

theorem b1Y{a0 a1}:PO Tryz.prog 239 [.I a0,.rptr [.abs (T6 (List.map (ent iF PV.bool) a1))]] (a3a a0 a1) λr=>.bool r:=by
 refine pO Tryz.func239 λr h _ _=>?_;unfold a3a at h;refine S4 1 J<|S3 2 J<|y0 J (b7U (es:=a1) (k:=a0) (E:=PV.bool) (EK:=iF) (d:=.bool ((y8 a1 a0).getD (false:Bool))) J J a2p (w9 I8) b7j J (lk1 _ _ _))<|S2 1 J<|b9 ?_;cases h;exact f1

theorem a3c{a0 a1}:PO Tryz.prog 215 [a7.Pv a0,.fn (.func 239) [.rptr [.abs (T6 (List.map (ent iF PV.bool) a1))]]] (O9 a0 a1) λr=>.L iF r:=by
 refine pO Tryz.func215 λr h _ _=>?_;refine S4 2 J<|S4 1 J ?_;refine jq h (λj16=>St.of [(5,.sl 910005)] [(910005,⟨List.map iF j16,(List.map iF j16).length,true,1,true⟩)]) (λj16 h=>?_) λκ15 h=>?_
 ·refine S4 2 J ?_;refine b9 ?_;cases h;exact f1
 ·refine S3 1 J ?_;refine cF h I6 J J λv17 _ h=>nL J l7<|S2 1 J<|k7<|lq h (λq=>St.of [(1,.fn (.func 239) [.rptr [.abs (T6 (List.map (ent iF PV.bool) a1))]]),(5,.sl 910005),(9,.L iF v17),(10,.I (v17.length:Int)),(11,.I q.1)] [(910005,⟨List.map iF q.2,(List.map iF q.2).length,true,1,true⟩)]) (Wk.trans (W1 (t:=5) (l:=920005) (z:=1) J J) (WP (λl=>if l=910005 then 920005 else l))) λq22 x21 h hx16=>?_;obtain⟨s19,s20⟩:=q22;refine S4 1 J<|j5 ?_;refine cN h (λhc h=>?_) λhc h=>?_
  ·refine c8 ?_;refine jq h (λj27=>St.of [(1,.fn (.func 239) [.rptr [.abs (T6 (List.map (ent iF PV.bool) a1))]]),(5,.sl 21),(9,.L iF v17),(10,.I (v17.length:Int)),(11,.I s19)] [(21,⟨List.map iF j27,(List.map iF j27).length,true,1,true⟩)]) (λj27 h=>?_) λκ26 h=>?_
   ·refine S6 2 J ?_;exact eL h (Wk.trans (p8 _ [21]) (WP (λl=>if l=910005 then 21 else l)))
   ·refine k7 ?_;refine sR<|iL h J J l7 p9 λv28 _ h=>S2 2 J<|S3 2 J<|cA h b1Y J J λv29 _ h=>yN ?_;refine cN h (λhc h=>?_) λhc h=>?_
    ·refine S5 2 J ?_;refine y0 J (a0m (f:=iF) (l:=[v28]) J l7 p9 E1 J J nl J J)<|C1 h λv30 hv23 h=>a1S J (a1v (f:=iF) hv23 J J J J J J (.inl ⟨_,J,J⟩) l7 p9 X0 E1 J (λ_=>J)) J J J<|S2 1 J ?_;exact eJ h (Wk.trans (p8 _ [21]) W)
    ·refine c8 ?_;exact eJ h (Wk.trans (p8 _ [910005]) (WP (λl=>if l=21 then 910005 else l)))
  ·refine s7 ?_;refine g6<|g6<|m9 ?_;have h:=xL hx16 h;exact eJ h (Wk.trans (p8 _ [910005]) W)

theorem a8K{a0 a1}:PO Tryz.prog 233 [a7.Pv a0,.L iF a1] (a3P a0 a1) λr=>.L iF r:=by
 refine pO Tryz.func233 λr h _ _=>?_;refine S4 2 J<|S3 2 J<|cF h a6x J J λv1 _ h=>S2 2 J<|S3 2 J<|C1 h λv2 hv2 h=>ycL J (z8 J a3c J hv2) J<|S2 1 J<|b9 ?_;cases h;exact f1

theorem b0S{a0}:PO Tryz.prog 246 [l6.Pv a0] (a2k a0) λr=>.bool r:=by
 refine pO Tryz.func246 λr h _ _=>?_;unfold a2k at h;refine S4 2 J<|S4 1 J<|b9 ?_;cases h;exact f1

theorem H0{a0}:PO Tryz.prog 243 [.fn (.func 248) [.rptr [.L b8.Pv a0]],.fn (.func 246) []] (x8 a0) λr=>.L l6.Pv r:=by
 refine pO Tryz.func243 λr h _ _=>?_;refine S4 2 J<|S4 1 J ?_;refine jq h (λj16=>St.of [(5,.ptr 2001 0 0)] [(2001,vS (.sl 912501) 1),(912501,⟨List.map l6.Pv j16,(List.map l6.Pv j16).length,true,2,true⟩)]) (λj16 h=>?_) λκ15 h=>?_
 ·refine S4 2 J ?_;refine b9 ?_;cases h;exact f1
 ·refine S4 1 J ?_;refine k7<|a2D (WPE (λl=>if l=2012 then 5 else if l=2013 then 3 else l) [(3,.ptr 2013 0 0),(5,.ptr 2012 0 0),(7,.fn (.func 248) [.rptr [.L b8.Pv a0]])] [(2012,vR (.nl) 1),(2013,vR (.fn (.func 246) []) 1)]) ?_;refine a1y (fn:=Tryz.f248) (N1:=27) J Tryz.func248 J J nl J c0f J J (λl20 e21 o22 hR23=>?_);refine S3 1 J<|cF h a9V J J λv17 _ h=>nL J l7<|S2 1 J<|k7<|lq h (λq=>St.of [(1000003,.ptr 2013 0 0),(1000005,.ptr 2012 0 0),(1000007,.fn (.func 248) [.rptr [.L b8.Pv a0]]),(0,.fn (.yield l20) []),(1,.rptr [.L b8.Pv a0]),(8,.L iF v17),(9,.I (v17.length:Int)),(10,.I q.1)] [(2012,vS (.sl 912512) 1),(2013,vR (.fn (.func 246) []) 1),(912512,⟨List.map l6.Pv q.2,(List.map l6.Pv q.2).length,true,2,true⟩)]) (Wk.trans (b2F (l0:=2012) (j:=0) (l:=922512) (z:=2) J J J J J) (WP (λl=>if l=912512 then 922512 else l))) λq22 x21 h hx27=>?_;obtain⟨s19,s20⟩:=q22;refine S4 1 J<|j5 ?_;refine cN h (λhc h=>?_) λhc h=>?_
  ·refine c8 ?_;refine j5<|k7<|sR<|iL h J J l7 p9 λv23 _ h=>S2 2 J<|S3 2 J<|cA h a4e J J λv24 _ h=>S2 5 J<|S3 3 J<|y0 J (s6 (cs:=[.I v23,.I v24.1]) J c0h a7H J J J)<|P5 (WPE (λl=>if l=2021 then 912512 else l) [(1000003,.ptr 2013 0 0),(1000005,.ptr 2012 0 0),(1000007,.fn (.func 248) [.rptr [.L b8.Pv a0]]),(0,.fn (.yield l20) []),(1,.rptr [.L b8.Pv a0]),(8,.L iF v17),(9,.I (v17.length:Int)),(10,.I s19),(20,.fn (.yield l20) []),(23,.agg [.I v23,.I v24.1])] [(2012,vS (.sl 2021) 1),(2021,⟨List.map l6.Pv s20,(List.map l6.Pv s20).length,true,2,true⟩),(2013,vR (.fn (.func 246) []) 1)]) ?_;refine a6l hR23 J J J J J J (λe30 o31 o32=>?_);refine S6 2 J ?_;refine⟨J,?_⟩;refine jqE h (λj28=>St.of [(2000003,.ptr 2013 0 0),(2000005,.ptr 2012 0 0),(2000007,.fn (.func 248) [.rptr [.L b8.Pv a0]]),(1000000,.fn (.yield l20) []),(1000001,.rptr [.L b8.Pv a0]),(1000008,.L iF v17),(1000009,.I (v17.length:Int)),(1000010,.I s19),(1000020,.fn (.yield l20) []),(1000023,.agg [.I v23,.I v24.1])] [(2012,vS (.sl 15) 1),(15,⟨List.map l6.Pv j28,(List.map l6.Pv j28).length,true,2,true⟩),(2013,vR (.fn (.func 246) []) 1)]) (λj28 h=>?_) λκ27 h=>?_
   ·refine⟨J,?_⟩;refine P5 (WPE (λl=>if l=2022 then 15 else l) [(1000003,.ptr 2013 0 0),(1000005,.ptr 2012 0 0),(1000007,.fn (.func 248) [.rptr [.L b8.Pv a0]]),(0,.fn (.yield l20) []),(1,.rptr [.L b8.Pv a0]),(8,.L iF v17),(9,.I (v17.length:Int)),(10,.I s19),(24,.bool true)] [(2012,vS (.sl 2022) 1),(2022,⟨List.map l6.Pv j28,(List.map l6.Pv j28).length,true,2,true⟩),(2013,vR (.fn (.func 246) []) 1)])<|S2 1 J ?_;refine F7 false J (λq=>nomatch q) (λ_=>?_);refine c8<|S6 2 J ?_;exact eL h (Wk.trans (p8 _ [2022]) (WP (λl=>if l=912512 then 2022 else l)))
   ·refine k7 ?_;refine S3 2 J<|cA h b0S J J λv29 _ h=>yN ?_;refine cN h (λhc h=>?_) λhc h=>?_
    ·refine S5 2 J ?_;refine y0 J (a0m (f:=l6.Pv) (l:=[(⟨v23,v24.1⟩:l6)]) J a5s a9v a7H J J nl J J)<|C1 h λv30 hv37 h=>a1S J (a1v (f:=l6.Pv) hv37 J J J J J J (.inl ⟨_,J,J⟩) a5s a9v c0c a7H J (λ_=>J)) J J J<|S2 1 J ?_;exact eJ h (Wk.trans (p8 _ [15]) W)
    ·refine c8 ?_;exact eJ h (Wk.trans (p8 _ [2021]) (WP (λl=>if l=15 then 2021 else l)))
  ·refine s7 ?_;refine g6<|g6<|m9 ?_;refine .inl ⟨J,?_⟩;have h:=xL hx27 h;exact eJ h (Wk.trans (p8 _ [912512]) (WP (λl=>if l=2001 then 2012 else if l=912501 then 912512 else l)))

theorem b20{a0}:PO Tryz.prog 241 [.L b8.Pv a0] (a4c a0) λr=>.L l6.Pv r:=by
 refine pO Tryz.func241 λr h _ _=>?_;refine S4 1 J<|S3 1 J<|cF h a6V J J λv1 _ h=>cF h H0 J J λv2 _ h=>S2 1 J<|b9 ?_;cases h;exact f1

theorem a8D{a0 a1}:PO Tryz.prog 240 [.I a0,.rptr (a7.Pc a1)] (a3B a0 a1) λr=>.bool r:=by
 refine pO Tryz.func240 λr h _ _=>?_;refine S4 1 J<|S3 2 J<|cF h A1 J J λv1 _ h=>S2 6 J<|S4 3 J<|b9 ?_;cases h;exact f1

theorem b5V{a0 a1 a2}:PON Tryz.prog 234 [a7.Pv a0,.L b8.Pv a1,.L iF a2] (a9K a0 a1 a2) λr=>⟨List.map iF r,(List.map iF r).length,true,1,true⟩:=by
 refine pON Tryz.func234 λr h _ _=>?_;refine S4 2 J<|S4 2 J<|S4 1 J ?_;refine jq h (λj20=>St.of [(8,.sl 910008)] [(910008,⟨List.map iF j20,(List.map iF j20).length,true,1,true⟩)]) (λj20 h=>?_) λκ19 h=>?_
 ·refine S4 2 J ?_;refine a2D (p8 _ [910008])<|b9 ?_;cases h;exact⟨J,_,_,J,J,J,J⟩
 ·refine S3 1 J ?_;refine cF h b20 J J λv21 _ h=>nL J a5s<|S2 1 J<|k7<|lq h (λq=>St.of [(2,.L iF a2),(7,.fn (.func 240) [.ptr 3 0 0]),(8,.sl 910008),(13,.L l6.Pv v21),(14,.I (v21.length:Int)),(15,.I q.1)] [(3,vR (a7.Pv a0) 3),(910008,⟨List.map iF q.2,(List.map iF q.2).length,true,1,true⟩)]) (Wk.trans (W1 (t:=8) (l:=920008) (z:=1) J J) (WP (λl=>if l=910008 then 920008 else l))) λq26 x25 h hx20=>?_;obtain⟨s23,s24⟩:=q26;refine S4 1 J<|j5 ?_;refine cN h (λhc h=>?_) λhc h=>?_
  ·refine c8 ?_;refine jq h (λj33=>St.of [(2,.L iF a2),(7,.fn (.func 240) [.ptr 3 0 0]),(8,.sl 39),(13,.L l6.Pv v21),(14,.I (v21.length:Int)),(15,.I s23)] [(39,⟨List.map iF j33,(List.map iF j33).length,true,1,true⟩),(3,vR (a7.Pv a0) 3)]) (λj33 h=>?_) λκ32 h=>?_
   ·refine S6 2 J ?_;exact eL h (Wk.trans (p8 _ [39]) (WP (λl=>if l=910008 then 39 else l)))
   ·refine k7 ?_;refine sR<|iL h J J a5s a9v λv34 _ h=>S2 3 J<|S3 3 J<|cA h M6 J J λv35 _ h=>S1 1 J<|n0 J (λhg=>om (d:=.fn (.func 240) [.ptr 3 0 0]) J)<|n0 J (λhg=>oF J c1v J)<|n0 J (λhg=>oS (ct hg) J J I7 J)<|C1 h λv36 hv29 h=>n0 J (λhg=>Z8 (ct hg) a8D (a3x (ct hg) J) (a2Z hv29 hg))<|y0 J (E7 J J J (λq=>eqT q))<|S1 1 J<|n0 J (λhg=>om (d:=.fn (.func 240) [.ptr 3 0 0]) J)<|n0 J (λhg=>oF J b4E J)<|n0 J (λhg=>oS (ct hg) J J I7 J)<|C1 h λv37 hv30 h=>n0 J (λhg=>Z8 (ct hg) a8D (a3x (ct hg) J) (a2Z hv30 hg))<|y0 J (E7 J J J (λq=>eqT q))<|yN ?_;refine cN h (λhc h=>?_) λhc h=>?_
    ·refine S5 3 J ?_;refine y0 J (a0m (f:=iF) (l:=[v34.Val]) J l7 p9 E1 J J nl J J)<|C1 h λv38 hv31 h=>a1S J (a1v (f:=iF) hv31 J J J J J J (.inl ⟨_,J,J⟩) l7 p9 X0 E1 J (λ_=>J)) J J J<|S2 1 J ?_;exact eJ h (Wk.trans (p8 _ [39]) W)
    ·refine c8 ?_;exact eJ h (Wk.trans (p8 _ [910008]) (WP (λl=>if l=39 then 910008 else l)))
  ·refine s7 ?_;refine g6<|g6<|m9 ?_;have h:=xL hx20 h;exact eJ h (Wk.trans (p8 _ [910008]) W)

theorem b5U{a0 a1 a2}:PO Tryz.prog 217 [a7.Pv a0,.L b8.Pv a1,.L iF a2] (a7N a0 a1 a2) λr=>.tup [.L iF r.1,.I r.2]:=by
 refine pO Tryz.func217 λr h _ _=>?_;refine S4 3 J<|b74<|S3 2 J<|cF h a8K J J λv1 _ h=>S2 1 J<|j5<|b73<|k7<|lq h (λq=>St.of [(1,.L b8.Pv a1),(3,.ptr 3 0 0),(6,.L iF q.1),(7,.I q.2)] [(3,vR (a7.Pv a0) 3)]) W λq6 x5 h hx4=>?_;obtain⟨s3,s4⟩:=q6;refine k7<|S3 3 J<|C1 h λv7 hv5 h=>ycN J (b49 J b5V J hv5) J J<|S2 1 J ?_;refine jq h (λ_=>St.of [(6,.L iF s3),(7,.I s4)] []) (λq16 h=>?_) λκ15 h=>?_
 ·refine S4 4 J ?_;refine b9 ?_;have h:=xL hx4 h;cases h;exact f2
 ·refine S3 1 J ?_;refine y0 J (c3Z (f:=iF) J J J l7)<|S2 1 J<|k7<|lq h (λs18=>St.of [(1,.L b8.Pv a1),(3,.ptr 3 0 0),(6,.L iF s3),(7,.I s4),(8,.sl 17),(18,.sl 17),(19,.I (v7.length:Int)),(20,.I s18)] [(17,⟨List.map iF v7,(List.map iF v7).length,true,1,true⟩),(3,vR (a7.Pv a0) 3)]) (Wk.trans (p8 _ [17]) W) λs18 x19 h hx16=>S4 1 J<|j5 ?_;refine cN h (λhc h=>?_) λhc h=>?_
  ·refine c8 ?_;refine j5<|k7<|sR<|C1 h λv20 hv17 h=>y0 J (a8H (f:=iF) hv17 J J J J l7 p9 J)<|y0 J (c3Y (f:=iF) hv17 J J J I7 J)<|S2 1 J<|S3 2 J<|cA h M6 J J λv21 _ h=>S2 1 J ?_;refine cN h (λhc h=>?_) λhc h=>?_
   ·refine dr [4] w7 (by kernel_rfl) (by kernel_rfl) ?_;refine S7 3 J<|C1 h λv22 hv19 h=>d3a J (a1v (f:=iF) hv19 J J J J J J (.inl ⟨_,J,J⟩) l7 p9 X0 E1 J (λ_=>J)) J J J J J<|C1 h λv23 hv20 h=>d5f J (z8 J a8K J hv20) J J<|S8 1 J<|S4 3 J<|s7<|a5w (by decide)<|g6<|g6<|a5w (by decide)<|g6<|m9 ?_;have h:=xL hx16 h;exact eL h W
   ·refine c8 ?_;refine S6 2 J ?_;exact eL h (Wk.trans (p8 _ [17]) W)
  ·refine s7 ?_;refine g6<|g6<|m9 ?_;have h:=xL hx16 h;exact eJ h W

theorem b7t{a0 a1 a2}:PO Tryz.prog 191 [a7.Pv a0,.L b8.Pv a1,.L iF a2] (a9J a0 a1 a2) λr=>.L iF r:=by
 refine pO Tryz.func191 λr h _ _=>?_;refine S4 2 J<|S3 3 J<|cF h b5U J J λv1 _ h=>S2 5 J<|S4 2 J<|b9 ?_;cases h;exact f1

theorem b1Z{a0 a1}:PO Tryz.prog 216 [.I a0,.rptr [.abs (T6 (List.map (ent iF PV.bool) a1))]] (a3b a0 a1) λr=>.bool r:=by
 refine pO Tryz.func216 λr h _ _=>?_;unfold a3b at h;refine S4 1 J<|S3 2 J<|y0 J (b7U (es:=a1) (k:=a0) (E:=PV.bool) (EK:=iF) (d:=.bool ((y8 a1 a0).getD (false:Bool))) J J a2p (w9 I8) b7j J (lk1 _ _ _))<|S2 2 J<|b9 ?_;cases h;exact f1

theorem a3d{a0 a1}:PO Tryz.prog 215 [a7.Pv a0,.fn (.func 216) [.rptr [.abs (T6 (List.map (ent iF PV.bool) a1))]]] (P0 a0 a1) λr=>.L iF r:=by
 refine pO Tryz.func215 λr h _ _=>?_;refine S4 2 J<|S4 1 J ?_;refine jq h (λj16=>St.of [(5,.sl 910005)] [(910005,⟨List.map iF j16,(List.map iF j16).length,true,1,true⟩)]) (λj16 h=>?_) λκ15 h=>?_
 ·refine S4 2 J ?_;refine b9 ?_;cases h;exact f1
 ·refine S3 1 J ?_;refine cF h I6 J J λv17 _ h=>nL J l7<|S2 1 J<|k7<|lq h (λq=>St.of [(1,.fn (.func 216) [.rptr [.abs (T6 (List.map (ent iF PV.bool) a1))]]),(5,.sl 910005),(9,.L iF v17),(10,.I (v17.length:Int)),(11,.I q.1)] [(910005,⟨List.map iF q.2,(List.map iF q.2).length,true,1,true⟩)]) (Wk.trans (W1 (t:=5) (l:=920005) (z:=1) J J) (WP (λl=>if l=910005 then 920005 else l))) λq22 x21 h hx16=>?_;obtain⟨s19,s20⟩:=q22;refine S4 1 J<|j5 ?_;refine cN h (λhc h=>?_) λhc h=>?_
  ·refine c8 ?_;refine jq h (λj27=>St.of [(1,.fn (.func 216) [.rptr [.abs (T6 (List.map (ent iF PV.bool) a1))]]),(5,.sl 21),(9,.L iF v17),(10,.I (v17.length:Int)),(11,.I s19)] [(21,⟨List.map iF j27,(List.map iF j27).length,true,1,true⟩)]) (λj27 h=>?_) λκ26 h=>?_
   ·refine S6 2 J ?_;exact eL h (Wk.trans (p8 _ [21]) (WP (λl=>if l=910005 then 21 else l)))
   ·refine k7 ?_;refine sR<|iL h J J l7 p9 λv28 _ h=>S2 2 J<|S3 2 J<|cA h b1Z J J λv29 _ h=>yN ?_;refine cN h (λhc h=>?_) λhc h=>?_
    ·refine S5 2 J ?_;refine y0 J (a0m (f:=iF) (l:=[v28]) J l7 p9 E1 J J nl J J)<|C1 h λv30 hv23 h=>a1S J (a1v (f:=iF) hv23 J J J J J J (.inl ⟨_,J,J⟩) l7 p9 X0 E1 J (λ_=>J)) J J J<|S2 1 J ?_;exact eJ h (Wk.trans (p8 _ [21]) W)
    ·refine c8 ?_;exact eJ h (Wk.trans (p8 _ [910005]) (WP (λl=>if l=21 then 910005 else l)))
  ·refine s7 ?_;refine g6<|g6<|m9 ?_;have h:=xL hx16 h;exact eJ h (Wk.trans (p8 _ [910005]) W)

theorem b4u{a0 a1}:PO Tryz.prog 190 [a7.Pv a0,.L iF a1] (a52 a0 a1) λr=>.L iF r:=by
 refine pO Tryz.func190 λr h _ _=>?_;refine S4 2 J<|S3 2 J<|cF h a6x J J λv1 _ h=>S2 2 J<|S3 2 J<|C1 h λv2 hv2 h=>ycL J (z8 J a3d J hv2) J<|S2 1 J<|b9 ?_;cases h;exact f1

theorem b7u{a0 a1 a2}:PO Tryz.prog 141 [a7.Pv a0,.L b8.Pv a1,.L iF a2] (a6X a0 a1 a2) λr=>.L iF r:=by
 refine pO Tryz.func141 λr h _ _=>?_;unfold a6X at h;refine S4 2 J<|dr [] w7 (by kernel_rfl) (by kernel_rfl)<|S7 4 J<|C1 h λv1 hv1 h=>d2f J (z8 J b7t J hv1) J<|C1 h λv2 hv2 h=>d2f J (z8 J b4u J hv2) J<|S8 1 J<|b9 ?_;cases h;exact f1

theorem b1w{a0 a1}:PO Tryz.prog 91 [a7.Pv a0,.L b8.Pv a1] (a0B a0 a1) λr=>.L iF r:=by
 refine pO Tryz.func91 λr h _ _=>?_;unfold a0B at h;refine S4 2 J<|dr [] w7 (by kernel_rfl) (by kernel_rfl)<|S7 4 J<|C1 h λv1 hv1 h=>d2f J (z8 J b4A J hv1) J<|C1 h λv2 hv2 h=>d2f J (z8 J b7u J hv2) J<|S8 1 J<|b9 ?_;cases h;exact f1

theorem a3w{a0}:PO Tryz.prog 47 [b6.Pv a0] (N6 a0) λr=>.L iF r:=by
 refine pO Tryz.func47 λr h _ _=>?_;refine S4 2 J<|S3 4 J<|cF h b1w J J λv1 _ h=>S2 1 J<|b9 ?_;cases h;exact f1

theorem a81{a0 a1}:PO Tryz.prog 80 [.I a0,.rptr (b6.Pc a1)] (a2N a0 a1) λr=>.bool r:=by
 refine pO Tryz.func80 λr h _ _=>?_;refine S4 1 J<|S3 3 J<|cF h A1 J J λv1 _ h=>S2 6 J<|S3 4 J<|n0 J (λhg=>oF J b7h J)<|n0 J (λhg=>oS (ct hg) J J b7c J)<|n0 J (λhg=>a4Y (ct hg) J)<|y0 J (E7 J J J (λq=>eqT q))<|S2 1 J<|b9 ?_;cases h;exact f1

theorem a0k{a0 a1}:PO Tryz.prog 79 [.L iF a0,.fn (.func 80) [.rptr (b6.Pc a1)]] (E6 a0 a1) λr=>.L iF r:=by
 refine pO Tryz.func79 λr h _ _=>?_;refine S4 1 J<|S4 1 J ?_;refine jq h (λj15=>St.of [(5,.sl 910005)] [(910005,⟨List.map iF j15,(List.map iF j15).length,true,1,true⟩)]) (λj15 h=>?_) λκ14 h=>?_
 ·refine S4 2 J ?_;refine b9 ?_;cases h;exact f1
 ·refine S3 1 J ?_;refine nL J l7<|S2 1 J<|k7<|lq h (λq=>St.of [(1,.fn (.func 80) [.rptr (b6.Pc a1)]),(5,.sl 910005),(8,.L iF a0),(9,.I (a0.length:Int)),(10,.I q.1)] [(910005,⟨List.map iF q.2,(List.map iF q.2).length,true,1,true⟩)]) (Wk.trans (W1 (t:=5) (l:=920005) (z:=1) J J) (WP (λl=>if l=910005 then 920005 else l))) λq20 x19 h hx14=>?_;obtain⟨s17,s18⟩:=q20;refine S4 1 J<|j5 ?_;refine cN h (λhc h=>?_) λhc h=>?_
  ·refine c8 ?_;refine jq h (λj25=>St.of [(1,.fn (.func 80) [.rptr (b6.Pc a1)]),(5,.sl 20),(8,.L iF a0),(9,.I (a0.length:Int)),(10,.I s17)] [(20,⟨List.map iF j25,(List.map iF j25).length,true,1,true⟩)]) (λj25 h=>?_) λκ24 h=>?_
   ·refine S6 2 J ?_;exact eL h (Wk.trans (p8 _ [20]) (WP (λl=>if l=910005 then 20 else l)))
   ·refine k7 ?_;refine sR<|iL h J J l7 p9 λv26 _ h=>S2 2 J<|S3 2 J<|cA h a81 J J λv27 _ h=>yN ?_;refine cN h (λhc h=>?_) λhc h=>?_
    ·refine S5 2 J ?_;refine y0 J (a0m (f:=iF) (l:=[v26]) J l7 p9 E1 J J nl J J)<|C1 h λv28 hv21 h=>a1S J (a1v (f:=iF) hv21 J J J J J J (.inl ⟨_,J,J⟩) l7 p9 X0 E1 J (λ_=>J)) J J J<|S2 1 J ?_;exact eJ h (Wk.trans (p8 _ [20]) W)
    ·refine c8 ?_;exact eJ h (Wk.trans (p8 _ [910005]) (WP (λl=>if l=20 then 910005 else l)))
  ·refine s7 ?_;refine g6<|g6<|m9 ?_;have h:=xL hx14 h;exact eJ h (Wk.trans (p8 _ [910005]) W)

theorem b0M{a0}:PO Tryz.prog 44 [b6.Pv a0] (a2i a0) λr=>.L iF r:=by
 refine pO Tryz.func44 λr h _ _=>?_;refine S4 2 J<|S3 1 J<|cF h a3w J J λv1 _ h=>S1 1 J<|C1 h λv2 hv2 h=>ycL J (z8 J a0k J hv2) J<|S2 1 J<|b9 ?_;cases h;exact f1

theorem a82{a0}:PO Tryz.prog 30 [b6.Pv a0] (T7 a0) λr=>.tup [b6.Pv r.1,.I r.2.1,.I r.2.2]:=by
 refine pO Tryz.func30 λr h _ _=>?_;refine S4 4 J<|S3 1 J<|cF h b0M J J λv1 _ h=>S2 1 J ?_;refine jq h (λj10=>St.of [(1,.ptr 1 0 0),(2,.ptr 2 0 0),(5,.L iF v1)] [(2,vR (.agg [.nl,.I 0,.I 0,.nl,.nl,.nl,.nl,.I 0]) 8),(1,vR (b6.Pv j10) 8)]) (λj10 h=>?_) λκ9 h=>?_
 ·refine j5 ?_;refine S3 1 J<|nL J l7<|S2 1 J ?_;refine cN h (λhc h=>?_) λhc h=>?_
  ·refine S3 2 J ?_;refine nL J l7<|S2 3 J<|b9 ?_;cases h;exact⟨J,[_,_,_],⟨oL J J J o7 n7 nl J,⟨J,⟨J,tr⟩⟩⟩,J,io⟩
  ·refine c8 ?_;refine dr [] w7 (by kernel_rfl) (by kernel_rfl)<|S7 2 J<|C1 h λv11 hv8 h=>d2f J (z8 J a3w J hv8) J<|C1 h λv12 hv9 h=>d2f J (z8 J a7w J hv9) J<|C1 h λv13 hv10 h=>d2f J (z8 J a0d J hv10) J<|S7 1 J<|D1 (x':=b6.Pv v13) (cl':=true) J J (.inr J) n7<|X7<|dr [4,8] w7 (by kernel_rfl) (by kernel_rfl)<|S7 3 J<|C1 h λv14 hv11 h=>d2f J (z8 J I6 J hv11) J<|d7 J (λ_ hN=>a6v (f:=iF) J l7) J<|S7 2 J<|C1 h λv15 hv12 h=>d2f J (z8 J I6 J hv12) J<|d7 J (λ_ hN=>a6v (f:=iF) J l7) J<|S7 1 J<|D1 (x':=b6.Pv v13) (cl':=true) J J (.inr J) n7<|S8 2 J<|b9 ?_;cases h;exact⟨J,[_,_,_],⟨oL J J J o7 n7 nl J,⟨J,⟨J,tr⟩⟩⟩,J,io⟩
 ·refine S3 1 J ?_;refine nL J l7<|S2 1 J<|k7<|lq h (λq=>St.of [(1,.ptr 1 0 0),(2,.ptr 2 0 0),(5,.L iF v1),(11,.L iF v1),(12,.I (v1.length:Int)),(13,.I q.1)] [(2,vR (.agg [.nl,.I 0,.I 0,.nl,.nl,.nl,.nl,.I 0]) 8),(1,vR (b6.Pv q.2) 8)]) W λq20 x19 h hx15=>?_;obtain⟨s17,s18⟩:=q20;refine S4 1 J<|j5 ?_;refine cN h (λhc h=>?_) λhc h=>?_
  ·refine c8 ?_;refine j5<|k7<|sR<|iL h J J l7 p9 λv21 _ h=>S2 2 J<|S5 2 J<|cF h a5f J J λv22 _ h=>S2 1 J<|S6 2 J ?_;exact eL h W
  ·refine s7 ?_;refine g6<|g6<|m9 ?_;have h:=xL hx15 h;exact eJ h W

theorem a4J{a0 a1}:PO Tryz.prog 196 [c7.Pv a0,.I a1] (V8 a0 a1) λr=>.tup [c7.Pv r.1,.L g8.Pv r.2]:=by
 refine pO Tryz.func196 λr h _ _=>?_;refine S4 3 J<|S3 2 J<|cA h L2 J J λv1 hv1 h=>y0 J (c7W J J J)<|y0 J (c31 J J J)<|S2 1 J<|S3 3 J<|cF h R1 J J λv2 _ h=>S2 1 J<|dr [] w7 (by kernel_rfl) (by kernel_rfl)<|S7 4 J<|d2 J (Z8 J L2 J hv1) J<|C1 h λv3 hv3 h=>d2f J (z8 J R1 J hv3) J<|S7 1 J<|D1 (x':=.agg [.L g8.Pv v3,.I a0.Cap]) (cl':=true) J J (.inr J) c2C<|X7<|S4 4 J<|b9 ?_;cases h;exact⟨J,[_,_],⟨oL J J J a4z a1e nl J,⟨J,tr⟩⟩,J,io⟩

theorem a5Y{a0}:PO Tryz.prog 143 [c7.Pv a0] (a0p a0) λr=>.tup [c7.Pv r.1,g8.Pv r.2.1,.I r.2.2]:=by
 refine pO Tryz.func143 λr h _ _=>?_;refine S4 4 J<|S3 1 J<|cF h a4J J J λv1 _ h=>S2 6 J<|j5<|S3 1 J<|nL J a6N<|S2 1 J ?_;refine cN h (λhc h=>?_) λhc h=>?_
 ·refine S4 1 J ?_;refine dr [1,1007] w7 (by kernel_rfl) (by kernel_rfl)<|S7 1 J<|d7 J (λ_ hN=>a5Q (cs:=[.I 0,.I 0,.I 0]) hN J J J J a1a J7 nl J) J<|D1 (x':=c7.Pv a0) (cl':=true) J J (.inr J) a1e<|D1 (x':=.agg [.I 0,.I 0,.I 0]) (cl':=true) J J (.inl J) J7<|S8 1 J<|b9 ?_;cases h;exact⟨J,[_,_,_],⟨oL J J J a4z a1e nl J,⟨oL J J J a1a J7 nl J,⟨J,tr⟩⟩⟩,J,io⟩
 ·refine c8 ?_;refine dr [2,3] w7 (by kernel_rfl) (by kernel_rfl)<|S7 2 J<|C1 h λv2 hv2 h=>d7 J (λ_ hN=>a0i (f:=g8.Pv) (cs:=g8.Pc v2) hv2 J J a6N J7 J J) J<|d7 J (λ_ hN=>c30 J a1a J7 nl J) J<|D1 (x':=c7.Pv v1.1) (cl':=true) J J (.inr J) a1e<|D1 (x':=g8.Pv v2) (cl':=true) J J (.inl J) J7<|S8 1 J<|b9 ?_;cases h;exact⟨J,[_,_,_],⟨oL J J J a4z a1e nl J,⟨oL J J J a1a J7 nl J,⟨J,tr⟩⟩⟩,J,io⟩

theorem a6g{a0}:PO Tryz.prog 93 [c7.Pv a0] (a08 a0) λr=>.tup [c7.Pv r.1,g8.Pv r.2.1,.I r.2.2]:=by
 refine pO Tryz.func93 λr h _ _=>?_;refine S4 4 J<|S3 1 J<|cF h a5Y J J λv1 _ h=>S2 6 J<|b9 ?_;cases h;exact⟨J,[_,_,_],⟨oL J J J a4z a1e nl J,⟨oL J J J a1a J7 nl J,⟨J,tr⟩⟩⟩,J,io⟩

theorem a6T{a0}:PO Tryz.prog 49 [b6.Pv a0] (a2t a0) λr=>.bool r:=by
 refine pO Tryz.func49 λr h _ _=>?_;refine S4 2 J<|S3 2 J<|cF h a6g J J λv1 _ h=>S2 9 J<|S4 3 J<|b9 ?_;cases h;exact f1

theorem a8B{a0 a1}:PO Tryz.prog 144 [.L (Ls c9.Pv) a0,.I a1] (a3z a0 a1) λr=>.L c9.Pv r:=by
 refine pO Tryz.func144 λr h _ _=>?_;refine S4 1 J<|j5<|S3 3 J<|n0 J (λhg=>mI J)<|n0 J (λhg=>om (d:=.L (Ls c9.Pv) a0) J)<|n0 J (λhg=>a6v (f:=(Ls c9.Pv)) (ct hg) a6O)<|n0 J (λhg=>C8 (ct hg) (ct hg) J)<|y0 J (M1 J J J (λq=>eqF q))<|yN ?_;refine cN h (λhc h=>?_) λhc h=>?_
 ·refine S4 1 J ?_;refine b9 ?_;cases h;exact f1
 ·refine c8 ?_;refine S3 2 J<|iL h J J a6O b8P λv1 _ h=>S2 2 J<|b9 ?_;cases h;exact f1

theorem b4m{a0 a1}:PO Tryz.prog 94 [.L (Ls c9.Pv) a0,g8.Pv a1] (a5z a0 a1) λr=>.I r:=by
 refine pO Tryz.func94 λr h _ _=>?_;refine S4 2 J<|S3 3 J<|cF h a8B J J λv1 _ h=>nL J a8R<|S2 2 J<|b9 ?_;cases h;exact f1

theorem b3l{a0 a1}:PO Tryz.prog 146 [b6.Pv a0,.L c9.Pv a1] (a2y a0 a1) λr=>.tup [b6.Pv r.1,.L iF r.2]:=by
 refine pO Tryz.func146 λr h _ _=>?_;refine S4 3 J<|S4 1 J ?_;refine jq h (λq=>St.of [(2,.ptr 2 0 0),(4,.ptr 4 0 0),(6,.sl 910006)] [(910006,⟨List.map iF q.2,(List.map iF q.2).length,true,1,true⟩),(4,vR (.agg [.nl,.I 0,.I 0,.nl,.nl,.nl,.nl,.I 0]) 8),(2,vR (b6.Pv q.1) 8)]) (λq13 h=>?_) λκ10 h=>?_
 ·obtain⟨j11,j12⟩:=q13;refine S4 4 J<|b9 ?_;cases h;exact⟨J,[_,_],⟨oL J J J o7 n7 nl J,⟨J,tr⟩⟩,J,io⟩
 ·refine S3 1 J ?_;refine nL J a8R<|S2 1 J<|k7<|lq h (λq=>St.of [(2,.ptr 2 0 0),(4,.ptr 4 0 0),(6,.sl 910006),(10,.L c9.Pv a1),(11,.I (a1.length:Int)),(12,.I q.1)] [(4,vR (.agg [.nl,.I 0,.I 0,.nl,.nl,.nl,.nl,.I 0]) 8),(2,vR (b6.Pv q.2.1) 8),(910006,⟨List.map iF q.2.2,(List.map iF q.2.2).length,true,1,true⟩)]) (Wk.trans (W1 (t:=6) (l:=920006) (z:=1) J J) (WP (λl=>if l=910006 then 920006 else l))) λq19 x18 h hx10=>?_;obtain⟨s15,s16,s17⟩:=q19;refine S4 1 J<|j5 ?_;refine cN h (λhc h=>?_) λhc h=>?_
  ·refine c8 ?_;refine j5<|k7<|sR<|iL h J J a8R a8T λv20 _ h=>S2 3 J<|S4 1 J<|S3 2 J<|cF h a8G J J λv21 _ h=>S2 6 J<|S5 2 J<|y0 J (a0m (f:=iF) (l:=[v21.2.1]) J l7 p9 E1 J J nl J J)<|C1 h λv22 hv13 h=>a1S J (a1v (f:=iF) hv13 J J J J J J (.inl ⟨_,J,J⟩) l7 p9 X0 E1 J (λ_=>J)) J J J<|S2 1 J<|S6 2 J ?_;exact eL h (Wk.trans (p8 _ [26]) (WP (λl=>if l=910006 then 26 else l)))
  ·refine s7 ?_;refine g6<|g6<|m9 ?_;have h:=xL hx10 h;exact eJ h (Wk.trans (p8 _ [910006]) W)

theorem b4n{a0 a1}:PO Tryz.prog 95 [b6.Pv a0,.L (Ls c9.Pv) a1] (a5A a0 a1) λr=>.tup [b6.Pv r.1,g8.Pv r.2.1,.I r.2.2]:=by
 refine pO Tryz.func95 λr h _ _=>?_;refine S4 4 J<|S3 2 J<|cF h a6g J J λv1 _ h=>S2 9 J<|j5<|S4 2 J ?_;refine cN h (λhc h=>?_) λhc h=>?_
 ·refine S3 1 J ?_;refine y0 J (s6 (cs:=[.I 0,.I 0,.I 0]) J b5y a9w J J J)<|S2 4 J<|b9 ?_;cases h;exact⟨J,[_,_,_],⟨oL J J J o7 n7 nl J,⟨oL J J J a1a J7 nl J,⟨J,tr⟩⟩⟩,J,io⟩
 ·refine c8 ?_;refine S4 3 J<|S4 4 J ?_;refine jq h (λj6=>St.of [(1,.L (Ls c9.Pv) a1),(2,.ptr 2 0 0),(4,.ptr 4 0 0),(5,.ptr 5 0 0),(8,.ptr 8 0 0),(10,.bool (v1.2.1.Kind==1))] [(8,vR (g8.Pv v1.2.1) 3),(5,vR (.agg [.I 0,.I 0,.I 0]) 3),(4,vR (.agg [.nl,.I 0,.I 0,.nl,.nl,.nl,.nl,.I 0]) 8),(2,vR (b6.Pv j6) 8)]) (λj6 h=>?_) λκ5 h=>?_
  ·refine dr [] w7 (by kernel_rfl) (by kernel_rfl) ?_;refine S7 4 J<|C1 h λv7 hv6 h=>d2f J (z8 J a8B J hv6) J<|C1 h λv8 hv7 h=>d2f J (z8 J b3l J hv7) J<|S7 3 J<|D1 (x':=b6.Pv v8.1) (cl':=true) J J (.inr J) n7<|X7<|j5<|S4 1 J ?_;refine cN h (λhc h=>?_) λhc h=>?_
   ·refine S3 1 J ?_;refine cF h a5K J J λv9 _ h=>S2 4 J<|S5 1 J<|cF h a0d J J λv10 _ h=>S2 1 J<|dr [1,1008] w7 (by kernel_rfl) (by kernel_rfl)<|S7 1 J<|d7 J (λ_ hN=>a5Q (cs:=g8.Pc v1.2.1) hN J J J J a1a J7 nl J) J<|D1 (x':=b6.Pv v10) (cl':=true) J J (.inr J) n7<|D1 (x':=g8.Pv v1.2.1) (cl':=true) J J (.inl J) J7<|S8 1 J<|b9 ?_;cases h;exact⟨J,[_,_,_],⟨oL J J J o7 n7 nl J,⟨oL J J J a1a J7 nl J,⟨J,tr⟩⟩⟩,J,io⟩
   ·refine c8 ?_;refine dr [1,1008] w7 (by kernel_rfl) (by kernel_rfl)<|S7 1 J<|d7 J (λ_ hN=>a5Q (cs:=g8.Pc v1.2.1) hN J J J J a1a J7 nl J) J<|D1 (x':=b6.Pv v8.1) (cl':=true) J J (.inr J) n7<|D1 (x':=g8.Pv v1.2.1) (cl':=true) J J (.inl J) J7<|S8 1 J<|b9 ?_;cases h;exact⟨J,[_,_,_],⟨oL J J J o7 n7 nl J,⟨oL J J J a1a J7 nl J,⟨J,tr⟩⟩⟩,J,io⟩
  ·refine S4 1 J ?_;refine cN h (λhc h=>?_) λhc h=>?_
   ·refine S3 3 J ?_;refine cF h a5K J J λv11 _ h=>S2 4 J<|S5 3 J<|cF h T8 J J λv12 _ h=>cF h a0d J J λv13 _ h=>S2 1 J ?_;exact eJ h W
   ·refine c8 ?_;exact eJ h W

theorem b2W{a0 a1 a2}:PO Tryz.prog 31 [b6.Pv a0,.L (Ls c9.Pv) a1,.I a2] (a2s a0 a1 a2) λr=>.tup [b6.Pv r.1,.I r.2.1,.I r.2.2.1,.I r.2.2.2]:=by
 refine pO Tryz.func31 λr h _ _=>?_;refine S4 6 J<|S4 2 J ?_;refine jq h (λq=>St.of [(3,.ptr 2004 0 0),(5,.ptr 2003 0 0),(6,.ptr 2002 0 0),(10,.ptr 2001 0 0)] [(2001,vR (.I q.1) 1),(2002,vR (.agg [.nl,.I 0,.I 0,.nl,.nl,.nl,.nl,.I 0]) 8),(2003,vR (.I q.2.1) 1),(2004,vR (b6.Pv q.2.2) 8)]) (λq17 h=>?_) λκ13 h=>?_
 ·obtain⟨j14,j15,j16⟩:=q17;refine j5<|S3 1 J<|cA h a6T J J λv18 _ h=>S2 1 J ?_;refine cN h (λhc h=>?_) λhc h=>?_
  ·refine dr [1,2,3001,3003] w7 (by kernel_rfl) (by kernel_rfl) ?_;refine S7 1 J<|d7 J (λ_ hN=>b2j hN J J J J I7 J) J<|d7 J (λ_ hN=>b2j hN J J J J I7 J) J<|D1 (x':=b6.Pv j16) (cl':=true) J J (.inr J) n7<|S8 3 J<|b9 ?_;cases h;exact⟨J,[_,_,_,_],⟨oL J J J o7 n7 nl J,⟨J,⟨J,⟨J,tr⟩⟩⟩⟩,J,io⟩
  ·refine c8 ?_;refine dr [1,2,3001,3003] w7 (by kernel_rfl) (by kernel_rfl)<|S7 1 J<|d7 J (λ_ hN=>b2j hN J J J J I7 J) J<|d7 J (λ_ hN=>b2j hN J J J J I7 J) J<|D1 (x':=b6.Pv j16) (cl':=true) J J (.inr J) n7<|S8 3 J<|b9 ?_;cases h;exact⟨J,[_,_,_,_],⟨oL J J J o7 n7 nl J,⟨J,⟨J,⟨J,tr⟩⟩⟩⟩,J,io⟩
 ·refine S3 3 J ?_;refine P5 (WPE (λl=>if l=2008 then 10 else if l=2009 then 6 else if l=2010 then 5 else if l=2011 then 3 else l) [(3,.ptr 2011 0 0),(5,.ptr 2010 0 0),(6,.ptr 2009 0 0),(10,.ptr 2008 0 0),(13,b6.Pv a0),(14,.L (Ls c9.Pv) a1),(15,.I a2)] [(2008,vR (.I 0) 1),(2009,vR (.agg [.nl,.I 0,.I 0,.nl,.nl,.nl,.nl,.I 0]) 8),(2010,vR (.I a2) 1),(2011,vR (b6.Pv a0) 8)]) ?_;refine b5t (fn:=Tryz.f48) (N1:=8) J J Tryz.func48 J c8e J J nl (λe19 o20=>?_);refine S4 4 J<|S4 2 J<|b9 ?_;refine⟨J,[.fn (.func 92) [.ptr 3 0 0,.ptr 4 0 0,.ptr 5 0 0]],⟨J,tr⟩,?_⟩;refine P5 (WPE (λl=>if l=2012 then 5 else if l=2013 then 4 else if l=2014 then 3 else l) [(3,.ptr 2011 0 0),(5,.ptr 2010 0 0),(6,.ptr 2009 0 0),(10,.ptr 2008 0 0),(16,.fn (.func 92) [.ptr 2014 0 0,.ptr 2013 0 0,.ptr 2012 0 0])] [(2012,vR (.I a2) 1),(2013,vR (.L (Ls c9.Pv) a1) 1),(2014,vR (b6.Pv a0) 8),(2008,vR (.I 0) 1),(2009,vR (.agg [.nl,.I 0,.I 0,.nl,.nl,.nl,.nl,.I 0]) 8),(2010,vR (.I a2) 1),(2011,vR (b6.Pv a0) 8)])<|yN<|k7<|a2D (WE [(3,.ptr 2011 0 0),(5,.ptr 2010 0 0),(6,.ptr 2009 0 0),(10,.ptr 2008 0 0),(16,.fn (.func 92) [.ptr 2014 0 0,.ptr 2013 0 0,.ptr 2012 0 0])] [(2012,vR (.I a2) 1),(2013,vR (.L (Ls c9.Pv) a1) 1),(2014,vR (b6.Pv a0) 8),(2008,vR (.I 0) 1),(2009,vR (.agg [.nl,.I 0,.I 0,.nl,.nl,.nl,.nl,.I 0]) 8),(2010,vR (.I a2) 1),(2011,vR (b6.Pv a0) 8)]) ?_;refine a1y (fn:=Tryz.f92) (N1:=40) J Tryz.func92 J J nl J c8h J J (λl21 e22 o23 hR24=>?_);refine k7<|lq h (λq=>St.of [(1000003,.ptr 2011 0 0),(1000005,.ptr 2010 0 0),(1000006,.ptr 2009 0 0),(1000010,.ptr 2008 0 0),(1000016,.fn (.func 92) [.ptr 2014 0 0,.ptr 2013 0 0,.ptr 2012 0 0]),(0,.fn (.yield l21) []),(1,.ptr 2014 0 0),(2,.ptr 2013 0 0),(3,.ptr 2012 0 0)] [(2012,vR (.I q.1) 1),(2013,vR (.L (Ls c9.Pv) a1) 1),(2014,vR (b6.Pv q.2.1) 8),(2008,vR (.I q.2.2.1) 1),(2009,vR (.agg [.nl,.I 0,.I 0,.nl,.nl,.nl,.nl,.I 0]) 8),(2010,vR (.I q.2.2.2.1) 1),(2011,vR (b6.Pv q.2.2.2.2) 8)]) W λq26 x25 h hx27=>?_;obtain⟨s20,s21,s22,s23,s24⟩:=q26;refine j5<|S3 1 J<|cA h a6T J J λv27 _ h=>S2 1 J ?_;refine cN h (λhc h=>?_) λhc h=>?_
  ·refine c8 ?_;refine k7<|S3 2 J<|cF h a6g J J λv28 _ h=>S2 9 J<|S3 2 J<|cA h b4m J J λv29 _ h=>S2 1 J<|j5<|S4 3 J ?_;refine cN h (λhc h=>?_) λhc h=>?_
   ·refine b9 ?_;refine .inl ⟨J,?_⟩;have h:=xL hx27 h;exact eJ h (WP (λl=>if l=2004 then 2011 else if l=2003 then 2010 else if l=2002 then 2009 else if l=2001 then 2008 else l))
   ·refine c8 ?_;refine S3 2 J<|cF h b4n J J λv30 _ h=>S2 5 J<|S4 4 J<|S3 3 J<|P5 (WE [(1000003,.ptr 2011 0 0),(1000005,.ptr 2010 0 0),(1000006,.ptr 2009 0 0),(1000010,.ptr 2008 0 0),(1000016,.fn (.func 92) [.ptr 2014 0 0,.ptr 2013 0 0,.ptr 2012 0 0]),(0,.fn (.yield l21) []),(1,.ptr 2014 0 0),(2,.ptr 2013 0 0),(3,.ptr 2012 0 0),(35,.fn (.yield l21) []),(36,b6.Pv v30.1),(37,.I (r8 (s20-v29)))] [(2012,vR (.I (r8 (s20-v29))) 1),(2013,vR (.L (Ls c9.Pv) a1) 1),(2014,vR (b6.Pv v30.1) 8),(2008,vR (.I s22) 1),(2009,vR (.agg [.nl,.I 0,.I 0,.nl,.nl,.nl,.nl,.I 0]) 8),(2010,vR (.I s23) 1),(2011,vR (b6.Pv s24) 8)]) ?_;refine a6l hR24 J J J J J J (λe32 o33 o34=>?_);refine S4 2 J<|S6 1 J ?_;refine⟨J,?_⟩;refine k7<|S4 4 J<|S6 3 J ?_;refine⟨J,?_⟩;refine P5 (WE [(1000003,.ptr 2011 0 0),(1000005,.ptr 2010 0 0),(1000006,.ptr 2009 0 0),(1000010,.ptr 2008 0 0),(1000016,.fn (.func 92) [.ptr 2014 0 0,.ptr 2013 0 0,.ptr 2012 0 0]),(0,.fn (.yield l21) []),(1,.ptr 2014 0 0),(2,.ptr 2013 0 0),(3,.ptr 2012 0 0),(38,.bool true)] [(2012,vR (.I (r8 (s20-v29))) 1),(2013,vR (.L (Ls c9.Pv) a1) 1),(2014,vR (b6.Pv v30.1) 8),(2008,vR (.I (r8 (s22+1))) 1),(2009,vR (.agg [.nl,.I 0,.I 0,.nl,.nl,.nl,.nl,.I 0]) 8),(2010,vR (.I (r8 (s20-v29))) 1),(2011,vR (b6.Pv v30.1) 8)])<|S2 1 J ?_;refine F7 false J (λq=>nomatch q) (λ_=>?_);refine c8 ?_;exact eL h W
  ·refine s7 ?_;refine g6<|g6<|m9 ?_;refine .inl ⟨J,?_⟩;have h:=xL hx27 h;exact eJ h (WP (λl=>if l=2004 then 2011 else if l=2003 then 2010 else if l=2002 then 2009 else if l=2001 then 2008 else l))

theorem a1g{a0 a1}:PO Tryz.prog 17 [g5.Pv a0,.L iF a1] (a0Y a0 a1) λr=>.tup [g5.Pv r.1,m7.Pv r.2]:=by
 refine pO Tryz.func17 λr h _ _=>?_;refine S4 3 J<|S3 1 J<|cA h b2P J J λv1 _ h=>S2 6 J<|j5<|S4 2 J ?_;refine cN h (λhc h=>?_) λhc h=>?_
 ·refine S3 2 J ?_;refine y0 J (s6 (cs:=[.I 0,.I v1.2]) J c8j b8R J J J)<|S2 2 J<|b9 ?_;cases h;exact⟨J,[_,_],⟨oL J J J a1b K7 nl J,⟨oL J J J a5r O5 nl J,tr⟩⟩,J,io⟩
 ·refine c8 ?_;refine S4 1 J<|j5<|S3 1 J<|cF h b1W J J λv2 _ h=>yN<|k7<|sR<|y0 J (b6f (n:=a8S) (d:=.tup [.agg [.I (ifG v2 85 0),.I (ifG v2 85 1),.I (ifG v2 85 2),.I (ifG v2 85 3)],.bool (decide (v2.t=85))]) J c2z c2H J J J)<|S2 2 J ?_;refine cN h (λhc h=>?_) λhc h=>?_
  ·refine S4 2 J ?_;refine S5 4 J<|cF h a8G J J λv3 _ h=>S2 10 J<|dr [1,1008] w7 (by kernel_rfl) (by kernel_rfl)<|S7 1 J<|d7 J (λ_ hN=>a5Q (cs:=[.I v3.2.1,.I v3.2.2]) hN J J J J a5r O5 nl J) J<|D1 (x':=.agg [.L b7.Pv v3.1.S.S.a8,.I v3.1.S.S.Last,.I v3.1.S.Serial,.L iF v3.1.Roots,.L c5.Pv v3.1.a8,.L b8.Pv v3.1.T,.L g8.Pv v3.1.Q.L,.I v3.1.Q.Cap,.L (Ls c9.Pv) a0.Progs]) (cl':=true) J J (.inr J) K7<|D1 (x':=.agg [.I v3.2.1,.I v3.2.2]) (cl':=true) J J (.inl J) O5<|X7<|b9 ?_;cases h;exact⟨J,[_,_],⟨oL J J J a1b K7 nl J,⟨oL J J J a5r O5 nl J,tr⟩⟩,J,io⟩
  ·refine sR ?_;refine y0 J (b6f (n:=a8S) (d:=.tup [.agg [],.bool (decide (v2.t=89))]) J c2A c2I J J J)<|S2 2 J ?_;refine cN h (λhc h=>?_) λhc h=>?_
   ·refine S3 1 J ?_;refine d0r J J J c8q<|yN<|S4 2 J<|S3 2 J<|cF h a82 J J λv4 _ h=>S2 8 J<|S6 5 J<|dr [1,1008] w7 (by kernel_rfl) (by kernel_rfl)<|S7 1 J<|d7 J (λ_ hN=>a5Q (cs:=[.I (r8 (v4.2.2-v4.2.1)),.I 0]) hN J J J J a5r O5 nl J) J<|D1 (x':=.agg [.L b7.Pv v4.1.S.S.a8,.I v4.1.S.S.Last,.I v4.1.S.Serial,.L iF v4.1.Roots,.L c5.Pv v4.1.a8,.L b8.Pv v4.1.T,.L g8.Pv v4.1.Q.L,.I v4.1.Q.Cap,.L (Ls c9.Pv) a0.Progs]) (cl':=true) J J (.inr J) K7<|D1 (x':=.agg [.I (r8 (v4.2.2-v4.2.1)),.I 0]) (cl':=true) J J (.inl J) O5<|X7<|b9 ?_;cases h;exact⟨J,[_,_],⟨oL J J J a1b K7 nl J,⟨oL J J J a5r O5 nl J,tr⟩⟩,J,io⟩
   ·refine sR ?_;refine y0 J (b6f (n:=a8S) (d:=.tup [.agg [.I (ifG v2 93 0)],.bool (decide (v2.t=93))]) J c2B c2J J J J)<|S2 2 J ?_;refine cN h (λhc h=>?_) λhc h=>?_
    ·refine S4 2 J ?_;refine S5 6 J<|cF h b2W J J λv5 _ h=>S2 11 J<|dr [1,1008] w7 (by kernel_rfl) (by kernel_rfl)<|S7 1 J<|d7 J (λ_ hN=>a5Q (cs:=[.I v5.2.1,.I v5.2.2.2]) hN J J J J a5r O5 nl J) J<|D1 (x':=.agg [.L b7.Pv v5.1.S.S.a8,.I v5.1.S.S.Last,.I v5.1.S.Serial,.L iF v5.1.Roots,.L c5.Pv v5.1.a8,.L b8.Pv v5.1.T,.L g8.Pv v5.1.Q.L,.I v5.1.Q.Cap,.L (Ls c9.Pv) a0.Progs]) (cl':=true) J J (.inr J) K7<|D1 (x':=.agg [.I v5.2.1,.I v5.2.2.2]) (cl':=true) J J (.inl J) O5<|X7<|b9 ?_;cases h;exact⟨J,[_,_],⟨oL J J J a1b K7 nl J,⟨oL J J J a5r O5 nl J,tr⟩⟩,J,io⟩
    ·refine c8 ?_;refine dr [1,1008] w7 (by kernel_rfl) (by kernel_rfl)<|S7 1 J<|d7 J (λ_ hN=>a5Q (cs:=[.I 0,.I 0]) hN J J J J a5r O5 nl J) J<|D1 (x':=g5.Pv a0) (cl':=true) J J (.inr J) K7<|D1 (x':=.agg [.I 0,.I 0]) (cl':=true) J J (.inl J) O5<|X7<|b9 ?_;cases h;exact⟨J,[_,_],⟨oL J J J a1b K7 nl J,⟨oL J J J a5r O5 nl J,tr⟩⟩,J,io⟩

theorem a8C{a0 a1}:PO Tryz.prog 15 [g5.Pv a0,.L (Ls iF) a1] (a1Z a0 a1) λr=>.tup [g5.Pv r.1,.L m7.Pv r.2]:=by
 refine pO Tryz.func15 λr h _ _=>?_;refine S4 3 J<|S4 1 J ?_;refine jq h (λq=>St.of [(2,.ptr 2 0 0),(4,.ptr 4 0 0),(6,.sl 910006)] [(910006,⟨List.map m7.Pv q.2,(List.map m7.Pv q.2).length,true,2,true⟩),(4,vR (.agg [.nl,.I 0,.I 0,.nl,.nl,.nl,.nl,.I 0,.nl]) 9),(2,vR (g5.Pv q.1) 9)]) (λq13 h=>?_) λκ10 h=>?_
 ·obtain⟨j11,j12⟩:=q13;refine S4 4 J<|b9 ?_;cases h;exact⟨J,[_,_],⟨oL J J J a1b K7 nl J,⟨J,tr⟩⟩,J,io⟩
 ·refine S3 1 J ?_;refine nL J b0I<|S2 1 J<|k7<|lq h (λq=>St.of [(2,.ptr 2 0 0),(4,.ptr 4 0 0),(6,.sl 910006),(10,.L (Ls iF) a1),(11,.I (a1.length:Int)),(12,.I q.1)] [(4,vR (.agg [.nl,.I 0,.I 0,.nl,.nl,.nl,.nl,.I 0,.nl]) 9),(2,vR (g5.Pv q.2.1) 9),(910006,⟨List.map m7.Pv q.2.2,(List.map m7.Pv q.2.2).length,true,2,true⟩)]) (Wk.trans (W1 (t:=6) (l:=920006) (z:=2) J J) (WP (λl=>if l=910006 then 920006 else l))) λq19 x18 h hx10=>?_;obtain⟨s15,s16,s17⟩:=q19;refine S4 1 J<|j5 ?_;refine cN h (λhc h=>?_) λhc h=>?_
  ·refine c8 ?_;refine j5<|k7<|sR<|iL h J J b0I b0J λv20 _ h=>S2 2 J<|S4 1 J<|S3 2 J<|cF h a1g J J λv21 _ h=>S2 5 J<|S5 2 J<|y0 J (a0m (f:=m7.Pv) (l:=[v21.2]) J a8Q O5 b8R J J nl J J)<|C1 h λv22 hv13 h=>a1S J (a1v (f:=m7.Pv) hv13 J J J J J J (.inl ⟨_,J,J⟩) a8Q O5 c8c b8R J (λ_=>J)) J J J<|S2 1 J<|S6 2 J ?_;exact eL h (Wk.trans (p8 _ [25]) (WP (λl=>if l=910006 then 25 else l)))
  ·refine s7 ?_;refine g6<|g6<|m9 ?_;have h:=xL hx10 h;exact eJ h (Wk.trans (p8 _ [910006]) W)

theorem a5g{a0}:PO Tryz.prog 32 [c4.Pv a0] (O1 a0) λr=>A4.Pv r:=by
 refine pO Tryz.func32 λr h _ _=>?_;refine S4 2 J<|S4 1 J ?_;refine jq h (λj9=>St.of [(2,.ptr 2 0 0),(3,.ptr 3 0 0)] [(3,vR (A4.Pv j9) 4),(2,vR (.agg [.I 0,.I 0,.I 0,.I 0]) 4)]) (λj9 h=>?_) λκ8 h=>?_
 ·refine S4 2 J ?_;refine b9 ?_;cases h;exact⟨J,[_],⟨oL J J J c2p c2D nl J,tr⟩,J,io⟩
 ·refine S3 2 J ?_;refine nL J N2<|S2 1 J<|k7<|lq h (λq=>St.of [(2,.ptr 2 0 0),(3,.ptr 3 0 0),(7,.L b7.Pv a0.a8),(8,.I (a0.a8.length:Int)),(9,.I q.1)] [(3,vR (A4.Pv q.2) 4),(2,vR (.agg [.I 0,.I 0,.I 0,.I 0]) 4)]) W λq14 x13 h hx9=>?_;obtain⟨s11,s12⟩:=q14;refine S4 1 J<|j5 ?_;refine cN h (λhc h=>?_) λhc h=>?_
  ·refine c8 ?_;refine j5<|k7<|sR<|iL h J J N2 X5 λv15 _ h=>S2 3 J<|S5 2 J<|C1 h λv16 hv11 h=>y0 J (c7U hv11 J J b5A p9)<|y0 J (oS J J J I7 (A4.get hv11))<|S1 1 J<|y0 J (c7U hv11 J J b5A p9)<|d1H hv11 J J (.inl J) J p9<|yN<|S6 2 J ?_;exact eL h W
  ·refine s7 ?_;refine g6<|g6<|m9 ?_;have h:=xL hx9 h;exact eJ h W

theorem a6n{a0}:PO Tryz.prog 20 [g5.Pv a0] (a1i a0) λr=>A4.Pv r:=by
 refine pO Tryz.func20 λr h _ _=>?_;refine S4 2 J<|S3 4 J<|cA h a5g J J λv1 _ h=>S2 1 J<|b9 ?_;cases h;exact⟨J,[_],⟨oL J J J c2p c2D nl J,tr⟩,J,io⟩

theorem b1R:PO Tryz.prog 14 [] (a3Z) λr=>.bool r:=by
 refine pO Tryz.func14 λr h _ _=>?_;refine S4 1 J<|sR<|cF h b1Q J J λv1 _ h=>cF h R6 J J λv2 _ h=>cF h R6 J J λv3 _ h=>cF h R6 J J λv4 _ h=>cF h R6 J J λv5 _ h=>cF h R6 J J λv6 _ h=>cF h R6 J J λv7 _ h=>cF h R6 J J λv8 _ h=>y0 J (a0m (f:=(Ls iF)) (l:=[v2,v3,v4,v5,v6,v7,v8]) J b0I b0J c8r J J nl J J)<|cF h a8C J J λv9 _ h=>S2 6 J<|S3 1 J<|nL J a8Q<|S1 2 J<|n0 J (λhg=>om (d:=.L m7.Pv v9.2) J)<|C1 h λv10 hv10 h=>n0 J (λhg=>a0i (f:=m7.Pv) (cs:=m7.Pc v10) (a2Z hv10 hg) (ct hg) J a8Q O5 J J)<|n0 J (λhg=>Z9 (ct hg) a9u J)<|n0 J (λhg=>a1w (ct hg) I7 J)<|n0 J (λhg=>C8 (ct hg) J J)<|y0 J (E7 J J J (λq=>eqT q))<|S1 1 J<|n0 J (λhg=>om (d:=.L m7.Pv v9.2) J)<|C1 h λv11 hv11 h=>n0 J (λhg=>a0i (f:=m7.Pv) (cs:=m7.Pc v11) (a2Z hv11 hg) (ct hg) J a8Q O5 J J)<|n0 J (λhg=>Z9 (ct hg) a9u J)<|n0 J (λhg=>a1w (ct hg) I7 J)<|n0 J (λhg=>C8 (ct hg) J J)<|y0 J (E7 J J J (λq=>eqT q))<|S1 1 J<|n0 J (λhg=>om (d:=.L m7.Pv v9.2) J)<|C1 h λv12 hv12 h=>n0 J (λhg=>a0i (f:=m7.Pv) (cs:=m7.Pc v12) (a2Z hv12 hg) (ct hg) J a8Q O5 J J)<|n0 J (λhg=>Z9 (ct hg) a9u J)<|n0 J (λhg=>a1w (ct hg) I7 J)<|n0 J (λhg=>C8 (ct hg) J J)<|y0 J (E7 J J J (λq=>eqT q))<|S1 1 J<|n0 J (λhg=>om (d:=.L m7.Pv v9.2) J)<|C1 h λv13 hv13 h=>n0 J (λhg=>a0i (f:=m7.Pv) (cs:=m7.Pc v13) (a2Z hv13 hg) (ct hg) J a8Q O5 J J)<|n0 J (λhg=>Z9 (ct hg) b7e J)<|n0 J (λhg=>a1w (ct hg) a8P J)<|n0 J (λhg=>C8 (ct hg) J J)<|y0 J (E7 J J J (λq=>eqT q))<|S1 1 J<|n0 J (λhg=>oL J J J a1b K7 nl J)<|C1 h λv14 hv14 h=>n0 J (λhg=>Z8 J a6n (a3x (ct hg) J) (a2Z hv14 hg))<|n0 J (λhg=>s6 (cs:=[.I 0,.I 2,.I 0,.I 0]) J c8l c8u J J J)<|n0 J (λhg=>d1h (xs:=A4.Pc v14) (ys:=[.I 0,.I 2,.I 0,.I 0]) c8p (ct hg) (ct hg) J)<|y0 J (E7 J J J (λq=>eqT q))<|S2 1 J<|b9 ?_;cases h;exact f1

theorem b92{a0 a1}:PO Tryz.prog 19 [g5.Pv a0,.I a1] (b2G a0 a1) λr=>.tup [g5.Pv r.1,.bool r.2]:=by
 refine pO Tryz.func19 λr h _ _=>?_;refine S4 3 J ?_;refine jq h (λj11=>St.of [(2,.ptr 2 0 0),(4,.ptr 4 0 0)] [(4,vR (.agg [.nl,.I 0,.I 0,.nl,.nl,.nl,.nl,.I 0,.nl]) 9),(2,vR (g5.Pv j11) 9)]) (λj11 h=>?_) λκ10 h=>?_
 ·refine S4 3 J ?_;refine b9 ?_;cases h;exact⟨J,[_,_],⟨oL J J J a1b K7 nl J,⟨J,tr⟩⟩,J,io⟩
 ·refine S4 1 J ?_;refine k7<|lq h (λq=>St.of [(1,.I a1),(2,.ptr 2 0 0),(4,.ptr 4 0 0),(6,.I q.1)] [(4,vR (.agg [.nl,.I 0,.I 0,.nl,.nl,.nl,.nl,.I 0,.nl]) 9),(2,vR (g5.Pv q.2) 9)]) W λq16 x15 h hx11=>?_;obtain⟨s13,s14⟩:=q16;refine j5<|S4 3 J ?_;refine cN h (λhc h=>?_) λhc h=>?_
  ·refine c8 ?_;refine j5<|k7<|dr [] w7 (by kernel_rfl) (by kernel_rfl)<|S7 1 J<|C1 h λv17 hv12 h=>d2f J (z8 J R6 J hv12) J<|C1 h λv18 hv13 h=>d2f J (z8 J a1g J hv13) J<|S7 5 J<|D1 (x':=g5.Pv v18.1) (cl':=true) J J (.inr J) K7<|D1 (x':=m7.Pv v18.2) (cl':=true) J J (.inl J) O5<|X7<|dr [] w7 (by kernel_rfl) (by kernel_rfl)<|S7 1 J<|C1 h λv19 hv14 h=>d2f J (z8 J R6 J hv14) J<|C1 h λv20 hv15 h=>d2f J (z8 J a1g J hv15) J<|S7 5 J<|D1 (x':=g5.Pv v20.1) (cl':=true) J J (.inr J) K7<|D1 (x':=m7.Pv v20.2) (cl':=true) J J (.inl J) O5<|X7<|S4 2 J<|S3 4 J<|n0 J (λhg=>oF J a9u J)<|n0 J (λhg=>oS (ct hg) J J I7 J)<|n0 J (λhg=>C8 (ct hg) J J)<|y0 J (E7 J J J (λq=>eqT q))<|S1 1 J<|n0 J (λhg=>oF J b7e J)<|n0 J (λhg=>oS (ct hg) J J a8P J)<|n0 J (λhg=>C8 (ct hg) J J)<|y0 J (E7 J J J (λq=>eqT q))<|yN ?_;refine cN h (λhc h=>?_) λhc h=>?_
   ·refine S4 3 J ?_;refine b9 ?_;have h:=xL hx11 h;cases h;exact⟨J,[_,_],⟨oL J J J a1b K7 nl J,⟨J,tr⟩⟩,J,io⟩
   ·refine c8 ?_;refine S6 3 J ?_;exact eL h W
  ·refine s7 ?_;refine g6<|g6<|m9 ?_;have h:=xL hx11 h;exact eJ h W

theorem b1V{a0}:PO Tryz.prog 21 [g5.Pv a0] (a1h a0) λr=>.L iF r:=by
 refine pO Tryz.func21 λr h _ _=>?_;refine S4 2 J<|S4 1 J ?_;refine jq h (λj11=>St.of [(3,.sl 910003)] [(910003,⟨List.map iF j11,0,true,1,true⟩)]) (λj11 h=>?_) λκ10 h=>?_
 ·refine S3 1 J ?_;obtain⟨v12,hv9,h⟩:=a9y h;refine c7s hv9 J J c8d c69 J J<|yN<|S4 2 J<|b9 ?_;cases h;exact f1
 ·refine S3 3 J ?_;refine cF h I6 J J λv13 _ h=>nL J l7<|S2 1 J<|k7<|lq h (λq=>St.of [(1,.ptr 1 0 0),(3,.sl 910003),(9,.L iF v13),(10,.I (v13.length:Int)),(11,.I q.1)] [(1,vR (g5.Pv a0) 9),(910003,⟨List.map iF q.2,0,true,1,true⟩)]) (Wk.trans (W1 (t:=3) (l:=920003) (z:=1) J J) (WP (λl=>if l=910003 then 920003 else l))) λq18 x17 h hx13=>?_;obtain⟨s15,s16⟩:=q18;refine S4 1 J<|j5 ?_;refine cN h (λhc h=>?_) λhc h=>?_
  ·refine c8 ?_;refine j5<|k7<|sR<|iL h J J l7 p9 λv19 _ h=>S2 2 J<|S5 4 J<|cA h a4k J J λv20 _ h=>y0 J (a0m (f:=iF) (l:=[v20]) J l7 p9 E1 J J nl J J)<|C1 h λv21 hv16 h=>c77 (f:=iF) (b:=8) [(1,.ptr 1 0 0),(9,.L iF v13),(10,.I (v13.length:Int)),(11,.I s15),(12,.bool (decide (s15<(v13.length:Int)))),(13,.rptr [.I v19]),(14,.I v19),(5,.I v19),(16,.ptr 1 0 0),(17,b6.Pv a0.X),(18,.I v19),(19,.I v20),(20,.lst true (List.map iF [v20]))] [(1,vR (g5.Pv a0) 9)] J hv16 ⟨J,J,J,J,J,J,J,J,J,J,J,J,J,J,J,J,J,J,J,J,J,J,J,J,J,J,J,J,J,J,J,J,J,J,J,J,J,J,J,tr⟩ ⟨rS,tr⟩ J J J J (.inl ⟨_,J,J⟩) l7 p9 X0 E1 J (λ_=>J)<|S2 1 J<|S6 2 J ?_;exact eL h (WP (λl=>if l=910003 then 21 else l))
  ·refine s7 ?_;refine g6<|g6<|m9 ?_;have h:=xL hx13 h;exact eJ h W

theorem wt_TopGone_ok{a0 a1}:PO Tryz.prog 3 [.int .u8 a0,.L (Ls iF) a1] (a9p a0 a1) λr=>.bool r:=by
 refine pO Tryz.func3 λr h _ _=>?_;refine S4 1 J<|j5<|S3 1 J<|cA h b93 J J λv1 _ h=>S1 2 J<|C1 h λv2 hv2 h=>n0 J (λhg=>Z8 J b1R J (a2Z hv2 hg))<|n0 J (λhg=>a4Y (ct hg) J)<|y0 J (M1 J J J (λq=>eqF q))<|yN ?_;refine cN h (λhc h=>?_) λhc h=>?_
 ·refine sR ?_;refine cA h b1R J J λv3 _ h=>S2 1 J<|b9 ?_;cases h;exact f1
 ·refine c8 ?_;refine S3 1 J<|y0 J (c9w J d0C d0A J)<|C1 h λv4 hv4 h=>y0 J (b3p J J hv4)<|S1 1 J<|cF h b1Q J J λv5 _ h=>S1 1 J<|cF h a8C J J λv6 _ h=>S2 6 J ?_;refine jq h (λj15=>St.of [(5,.ptr 5 0 0)] [(5,vR (g5.Pv j15) 9)]) (λj15 h=>?_) λκ14 h=>?_
  ·refine jq h (λj24=>St.of [(5,.ptr 5 0 0)] [(5,vR (g5.Pv j24) 9)]) (λj24 h=>?_) λκ23 h=>?_
   ·refine S3 1 J ?_;refine cF h b92 J J λv25 _ h=>S2 6 J<|S4 1 J<|S4 1 J ?_;refine jq h (λq=>St.of [(9,.ptr 9 0 0),(10,.bool v25.2),(11,.I q.1),(12,.I q.2)] [(9,vR (g5.Pv v25.1) 9)]) (λq45 h=>?_) λκ42 h=>?_
    ·obtain⟨j43,j44⟩:=q45;refine S3 1 J<|cA h a6n J J λv46 _ h=>S2 2 J<|S3 2 J<|n0 J (λhg=>c3X (m:=2) (k2:=2) J J J nl b5A p9 J)<|n0 J (λhg=>oS (ct hg) J J I7 J)<|n0 J (λhg=>mI J)<|n0 J (λhg=>C8 (ct hg) (ct hg) J)<|y0 J (E7 J J J (λq=>eqT q))<|S1 1 J<|n0 J (λhg=>mI J)<|n0 J (λhg=>C8 (ct hg) J J)<|n0 J (λhg=>om (d:=.bool (decide (j43 > 0))) (ct hg))<|n0 (a6z J J J) (λhg=>c3X (m:=1) (k2:=1) J J J nl b5A p9 J)<|n0 (a6z J J J) (λhg=>oS (ct hg) J J I7 J)<|n0 (a6z J J J) (λhg=>C8 (ct hg) J J)<|n0 (a6z J J J) (λhg=>om (d:=.bool (v46.b==0)) (ct hg))<|n0 (a6z J J J) (λhg=>oL J J J a1b K7 nl J)<|C1 h λv47 hv30 h=>d1F (a6z J J J) (λhg=>z8 J b1V (a3x (ct hg) J) (a2Z hv30 hg))<|n0 (a6z J J J) (λhg=>a6v (f:=iF) (ct hg) l7)<|n0 (a6z J J J) (λhg=>C8 (ct hg) J J)<|n0 (a6z J J J) (λhg=>E7 (ct hg) J J (λq=>c8x hg (eqT q)))<|n0 J (λhg=>M1 (ct hg) J J (λq=>c8x hg (eqF q)))<|y0 J (E7 J J J (λq=>eqT q))<|S2 1 J<|b9 ?_;cases h;exact f1
    ·refine S4 1 J ?_;refine k7<|lq h (λq=>St.of [(9,.ptr 9 0 0),(10,.bool v25.2),(11,.I q.1),(12,.I q.2.1),(13,.I q.2.2)] [(9,vR (g5.Pv v25.1) 9)]) W λq53 x52 h hx33=>?_;obtain⟨s49,s50,s51⟩:=q53;refine j5<|S3 6 J<|nL J N2<|S1 2 J<|n0 J (λhg=>mI J)<|n0 J (λhg=>C8 (ct hg) J J)<|y0 J (E7 J J J (λq=>eqT q))<|yN ?_;refine cN h (λhc h=>?_) λhc h=>?_
     ·refine c8 ?_;refine jq h (λq=>St.of [(9,.ptr 9 0 0),(10,.bool v25.2),(11,.I q.1),(12,.I q.2),(13,.I s51)] [(9,vR (g5.Pv v25.1) 9)]) (λq60 h=>?_) λκ57 h=>?_
      ·obtain⟨j58,j59⟩:=q60;refine S6 3 J ?_;exact eL h W
      ·refine k7 ?_;refine S3 6 J<|iL h J J N2 X5 λv61 _ h=>S2 3 J ?_;refine jq h (λj63=>St.of [(9,.ptr 9 0 0),(10,.bool v25.2),(11,.I j63),(12,.I s50),(13,.I s51),(14,.ptr 14 0 0)] [(14,vR (b7.Pv v61) 8),(9,vR (g5.Pv v25.1) 9)]) (λj63 h=>?_) λκ62 h=>?_
       ·refine S3 4 J ?_;refine n0 J (λhg=>oF J b2I J)<|n0 J (λhg=>oF (ct hg) b7g J)<|n0 J (λhg=>oS (ct hg) J J I7 J)<|n0 J (λhg=>C8 (ct hg) J J)<|y0 J (E7 J J J (λq=>eqT q))<|yN ?_;refine cN h (λhc h=>?_) λhc h=>?_
        ·refine S6 3 J ?_;exact eJ h W
        ·refine c8 ?_;exact eJ h W
       ·refine S3 4 J ?_;refine n0 J (λhg=>oF J b2I J)<|n0 J (λhg=>oF (ct hg) b7f J)<|n0 J (λhg=>oS (ct hg) J J I7 J)<|n0 J (λhg=>C8 (ct hg) J J)<|y0 J (E7 J J J (λq=>eqT q))<|yN ?_;refine cN h (λhc h=>?_) λhc h=>?_
        ·refine S6 3 J ?_;exact eJ h W
        ·refine c8 ?_;exact eJ h W
     ·refine s7 ?_;refine g6<|g6<|m9 ?_;have h:=xL hx33 h;exact eJ h W
   ·refine S4 1 J ?_;refine k7<|lq h (λq=>St.of [(5,.ptr 5 0 0),(8,.I q.1)] [(5,vR (g5.Pv q.2) 9)]) W λq68 x67 h hx41=>?_;obtain⟨s65,s66⟩:=q68;refine j5<|S4 2 J ?_;refine cN h (λhc h=>?_) λhc h=>?_
    ·refine c8 ?_;refine j5<|k7<|b09 [] w7 (by kernel_rfl) (by kernel_rfl)<|S7 2 J<|C1 h λv69 hv42 h=>d2f J (z8 J R6 J hv42) J<|C1 h λv70 hv43 h=>d2f J (z8 J a1g J hv43) J<|S7 3 J<|D1 (x':=g5.Pv v70.1) (cl':=true) J J (.inr J) K7<|X7<|S6 3 J ?_;exact eL h W
    ·refine s7 ?_;refine g6<|g6<|m9 ?_;have h:=xL hx41 h;exact eJ h W
  ·refine S4 1 J ?_;refine k7<|lq h (λq=>St.of [(5,.ptr 5 0 0),(7,.I q.1)] [(5,vR (g5.Pv q.2) 9)]) W λq75 x74 h hx46=>?_;obtain⟨s72,s73⟩:=q75;refine j5<|S4 2 J ?_;refine cN h (λhc h=>?_) λhc h=>?_
   ·refine c8 ?_;refine j5<|k7<|b09 [] w7 (by kernel_rfl) (by kernel_rfl)<|S7 2 J<|C1 h λv76 hv47 h=>d2f J (z8 J R6 J hv47) J<|C1 h λv77 hv48 h=>d2f J (z8 J a1g J hv48) J<|S7 3 J<|D1 (x':=g5.Pv v77.1) (cl':=true) J J (.inr J) K7<|X7<|S6 3 J ?_;exact eL h W
   ·refine s7 ?_;refine g6<|g6<|m9 ?_;have h:=xL hx46 h;exact eJ h W

end Go.Proofs.YtjpgbnlcefhaiaaGreat.Ok
