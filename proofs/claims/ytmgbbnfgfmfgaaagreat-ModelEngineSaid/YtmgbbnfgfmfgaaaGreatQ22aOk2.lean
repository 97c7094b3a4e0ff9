/- A part. -/
import Derived.Test.YtmgbbnfgfmfgaaaGreatQ22aOk1
set_option linter.unusedVariables false
set_option linter.unusedSimpArgs false
set_option linter.unusedSectionVars false
namespace Go.Proofs.YtmgbbnfgfmfgaaaGreat.Ok
open Go Go.Pw Go.Sh Go.Proofs
set_option maxRecDepth 100000
set_option maxHeartbeats 4000000
theorem rk{a0 a1}:PO Tryz.prog 175 [g7.Pv a0,.I a1] (aQ a0 a1) λr=>.bool r:=by
 refine pO Tryz.func175 λr h _ _=>?_;refine S4 3 J ?_;refine jq h (λ_=>St.of [(4,.ptr 2001 0 0)] [(2001,vR (.bool false) 1)]) (λq7 h=>?_) λκ6 h=>?_
 .refine S4 1 J ?_;refine c5 ?_;cases h;exact⟨J,[_],⟨oS J J J vZ J,tr⟩,J,io⟩
 .refine S3 1 J ?_;refine cF h AA J J λv8 _ h=>yN<|g9<|bW (sq (λl=>if l=2003 then 4 else if l=2004 then 3 else l) [(3,.ptr 2004 0 0),(4,.ptr 2003 0 0),(7,.fn (.func 277) [.rptr (g7.Pc v8.1),.rptr [.I v8.2]])] [(2003,vR (.bool false) 1),(2004,vR (.I a1) 1)]) ?_;refine bV (fn:=Tryz.f277) (N1:=24) J Tryz.func277 J J nl J IK J J (λl16 e17 o18 hR19=>?_);refine S3 2 J<|nL J I2<|S2 1 J<|g9<|lq h (λs10=>St.of [(1000003,.ptr 2004 0 0),(1000004,.ptr 2003 0 0),(1000007,.fn (.func 277) [.rptr (g7.Pc v8.1),.rptr [.I v8.2]]),(0,.fn (.yield l16) []),(2,.rptr [.I v8.2]),(7,.L g6.Pv v8.1.L),(8,.I (v8.1.L.length:Int)),(9,.I s10)] [(2003,vR (.bool false) 1),(2004,vR (.I a1) 1)]) W λs10 x11 h hx22=>S4 1 J<|k9 ?_;refine cN h (λhc h=>?_) λhc h=>?_
  .refine c7 ?_;refine k9<|g9<|sR<|iL h J J I2 C8 λv12 _ h=>S2 3 J<|S3 5 J<|m8 J (λhg=>om (d:=.fn (.yield l16) []) J)<|m8 J (λhg=>oL J J J cp C8 nl J) ?_;rcases zau ((v12.Kind==v8.2)==true) with hg24 | hg24
   .have h:=Uc h hg24;refine O8 (WE [(1000003,.ptr 2004 0 0),(1000004,.ptr 2003 0 0),(1000007,.fn (.func 277) [.rptr (g7.Pc v8.1),.rptr [.I v8.2]]),(0,.fn (.yield l16) []),(2,.rptr [.I v8.2]),(7,.L g6.Pv v8.1.L),(8,.I (v8.1.L.length:Int)),(9,.I s10),(17,.bool (v12.Kind==v8.2)),(18,.fn (.yield l16) []),(19,g6.Pv v12)] [(2003,vR (.bool false) 1),(2004,vR (.I a1) 1)]) ?_;refine js hR19 (wd some hg24) J J J J J (λe25 o26 o27=>?_);refine S6 2 J ?_;refine⟨J,?_⟩;refine g9<|S4 4 J ?_;refine cN h (λhc h=>?_) λhc h=>?_
    .refine S4 1 J ?_;refine c5 ?_;refine⟨J,?_⟩;refine O8 (WE [(1000003,.ptr 2004 0 0),(1000004,.ptr 2003 0 0),(1000007,.fn (.func 277) [.rptr (g7.Pc v8.1),.rptr [.I v8.2]]),(0,.fn (.yield l16) []),(2,.rptr [.I v8.2]),(7,.L g6.Pv v8.1.L),(8,.I (v8.1.L.length:Int)),(9,.I s10),(17,.bool (v12.Kind==v8.2)),(20,.bool false)] [(2003,vR (.bool true) 1),(2004,vR (.I a1) 1)])<|y0 (wd some hg24) (dA J J)<|y0 J (kZ J J hg24)<|yN ?_;refine H3 true J (λ_=>?_) (λq=>nomatch q);refine c5 ?_;refine .inr ⟨.ret,J,RQ ?_⟩;have h:=xL hx22 h;cases h;exact⟨J,[_],⟨oS J J J vZ J,tr⟩,J,io⟩
    .refine c7 ?_;refine⟨J,?_⟩;refine O8 (WE [(1000003,.ptr 2004 0 0),(1000004,.ptr 2003 0 0),(1000007,.fn (.func 277) [.rptr (g7.Pc v8.1),.rptr [.I v8.2]]),(0,.fn (.yield l16) []),(2,.rptr [.I v8.2]),(7,.L g6.Pv v8.1.L),(8,.I (v8.1.L.length:Int)),(9,.I s10),(17,.bool (v12.Kind==v8.2)),(20,.bool true)] [(2003,vR (.bool false) 1),(2004,vR (.I a1) 1)])<|y0 (wd some hg24) (dA J J)<|y0 J (kZ J J hg24)<|yN ?_;refine H3 false J (λq=>nomatch q) (λ_=>?_);refine c7<|S6 2 J ?_;exact eL h W
   .have h:=Ub h hg24;refine dj (wd some hg24)<|dj (wd some hg24)<|y0 J (nq J J hg24)<|yN ?_;refine H3 false J (λq=>nomatch q) (λ_=>?_);refine c7<|S6 2 J ?_;exact eL h W
  .refine o5 ?_;refine e6<|e6<|l7 ?_;refine .inl ⟨J,?_⟩;have h:=xL hx22 h;exact eJ h (WP (λl=>if l=2001 then 2003 else l))
theorem wG{a0 a1}:PO Tryz.prog 272 [.L j5.Pv a0,.I a1] (kh a0 a1) λr=>.bool r:=by
 refine pO Tryz.func272 λr h _ _=>?_;unfold kh at h;refine S4 1 J<|S3 3 J<|m8 J (λhg=>mI J)<|m8 J (λhg=>om (d:=.L j5.Pv a0) J)<|m8 J (λhg=>Y5 (f:=j5.Pv) (ct hg) Q4)<|m8 J (λhg=>B2 (ct hg) (ct hg) J)<|y0 J (C7 J J J (λq=>jJ q))<|S2 1 J<|c5 ?_;cases h;exact f1
theorem wF{a0 a1 a2 a3}:PO Tryz.prog 176 [.L j5.Pv a0,.I a1,.I a2,.I a3] (kg a0 a1 a2 a3) λr=>.tup [.L j5.Pv r.1,.I r.2.1,.I r.2.2]:=by
 refine pO Tryz.func176 λr h _ _=>?_;refine S4 3 J<|k9<|S3 2 J<|cA h wG J J λv1 _ h=>S2 1 J ?_;refine cN h (λhc h=>?_) λhc h=>?_
 .refine S4 4 J ?_;refine c5 ?_;cases h;exact f3
 .refine c7 ?_;refine S3 1 J<|w7 h λv2 hv2 h=>KI J (ib J oi J hv2) J J<|S2 1 J<|S3 6 J<|y0 J (p6 (cs:=[.I a2,.bool (a2 != 0),.I a3]) J QK CC J J J)<|w7 h λv3 hv3 h=>y0 J (aY (f:=j5.Pv) hv3 J J J J Q4 V4 J)<|ou (f:=j5.Pv) (v:=(⟨a2,(a2 != 0),a3⟩:j5)) hv3 J J (.inl J) V4<|yN<|dr [] r9 (by kernel_rfl) (by kernel_rfl)<|S7 3 J<|w7 h λv4 hv4 h=>d0 J (J5 (f:=j5.Pv) (cs:=j5.Pc v4) hv4 J J Q4 V4 J J) J<|S8 5 J<|c5 ?_;cases h;exact f3
theorem tT{a0 a1 a2}:PO Tryz.prog 93 [a8.Pv a0,.I a1,k8.Pv a2] (fB a0 a1 a2) λr=>.tup [a8.Pv r.1,.I r.2]:=by
 refine pO Tryz.func93 λr h _ _=>?_;refine S4 4 J<|k9<|S3 4 J<|m8 J (λhg=>mI J)<|m8 J (λhg=>B2 (ct hg) J J)<|y0 J (C7 J J J (λq=>jJ q))<|yN ?_;refine cN h (λhc h=>?_) λhc h=>?_
 .refine S4 3 J ?_;refine c5 ?_;cases h;exact⟨J,[_,_],⟨oL J J J A1 u7 nl J,⟨J,tr⟩⟩,J,io⟩
 .refine c7 ?_;refine k9<|dr [] r9 (by kernel_rfl) (by kernel_rfl)<|S7 1 J<|w7 h λv1 hv1 h=>cY J (u4 J cK J hv1) J<|S7 2 J<|w7 h λv2 hv2 h=>d2 J (P4 J rk J hv2) J<|I6 ?_;refine cN h (λhc h=>?_) λhc h=>?_
  .refine S4 3 J ?_;refine c5 ?_;cases h;exact⟨J,[_,_],⟨oL J J J A1 u7 nl J,⟨J,tr⟩⟩,J,io⟩
  .refine c7 ?_;refine S3 7 J<|cF h wF J J λv3 _ h=>S2 7 J<|k9<|S4 2 J ?_;refine cN h (λhc h=>?_) λhc h=>?_
   .refine S4 4 J ?_;refine c5 ?_;cases h;exact⟨J,[_,_],⟨oL J J J A1 u7 nl J,⟨J,tr⟩⟩,J,io⟩
   .refine c7 ?_;refine S4 3 J<|S3 2 J<|cF h kW J J λv4 _ h=>S2 2 J<|c5 ?_;cases h;exact⟨J,[_,_],⟨oL J J J A1 u7 nl J,⟨J,tr⟩⟩,J,io⟩
theorem fC{a0 a1 a2}:PO Tryz.prog 90 [a8.Pv a0,.I a1,k8.Pv a2,.fn (.func 93) []] (J0 a0 a1 a2) λr=>.tup [a8.Pv r.1,g8.Pv r.2]:=by
 refine pO Tryz.func90 λr h _ _=>?_;refine S4 4 J<|S3 4 J<|cF h tT J J λv1 _ h=>S2 6 J<|k9<|S4 2 J ?_;refine cN h (λhc h=>?_) λhc h=>?_
 .refine S3 2 J ?_;refine y0 J (p6 (cs:=[.I 0,.I v1.2]) J bp U9 J J J)<|S2 2 J<|c5 ?_;cases h;exact⟨J,[_,_],⟨oL J J J A1 u7 nl J,⟨oL J J J H4 A6 nl J,tr⟩⟩,J,io⟩
 .refine c7 ?_;refine S3 1 J<|cF h N7 J J λv2 _ h=>S1 1 J<|y0 J (p6 (cs:=[.I a1,.I 0]) J bp U9 J J J)<|S2 2 J<|c5 ?_;cases h;exact⟨J,[_,_],⟨oL J J J A1 u7 nl J,⟨oL J J J H4 A6 nl J,tr⟩⟩,J,io⟩
theorem tR{a0 a1}:PO Tryz.prog 177 [k7.Pv a0,.rptr (b8.Pc a1)] (fz a0 a1) λr=>.bool r:=by
 refine pO Tryz.func177 λr h _ _=>?_;unfold fz at h;refine S4 2 J<|S4 6 J<|c5 ?_;cases h;exact f1
theorem ar{a0 a1}:Qc Tryz.prog 163 [.L k7.Pv a0,.fn (.func 177) [.rptr (b8.Pc a1)]] (D6 a0 a1) λr=>⟨List.map k7.Pv r,(List.map k7.Pv r).length,true,2,true⟩:=by
 refine Ul Tryz.func163 λr h _ _=>?_;refine S4 1 J<|S4 1 J ?_;refine jq h (λj15=>St.of [(5,.sl 910005)] [(910005,⟨List.map k7.Pv j15,(List.map k7.Pv j15).length,true,2,true⟩)]) (λj15 h=>?_) λκ14 h=>?_
 .refine S4 2 J ?_;refine bW (m9 _ [910005])<|c5 ?_;cases h;exact⟨J,_,_,J,J,J,J⟩
 .refine S3 1 J ?_;refine nL J N3<|S2 1 J<|g9<|lq h (λq=>St.of [(1,.fn (.func 177) [.rptr (b8.Pc a1)]),(5,.sl 910005),(8,.L k7.Pv a0),(9,.I (a0.length:Int)),(10,.I q.1)] [(910005,⟨List.map k7.Pv q.2,(List.map k7.Pv q.2).length,true,2,true⟩)]) (Wk.trans (E7 (t:=5) (l:=920005) (z:=2) J J) (WP (λl=>if l=910005 then 920005 else l))) λq20 x19 h hx14=>?_;obtain⟨s17,s18⟩:=q20;refine S4 1 J<|k9 ?_;refine cN h (λhc h=>?_) λhc h=>?_
  .refine c7 ?_;refine jq h (λj25=>St.of [(1,.fn (.func 177) [.rptr (b8.Pc a1)]),(5,.sl 20),(8,.L k7.Pv a0),(9,.I (a0.length:Int)),(10,.I s17)] [(20,⟨List.map k7.Pv j25,(List.map k7.Pv j25).length,true,2,true⟩)]) (λj25 h=>?_) λκ24 h=>?_
   .refine S6 2 J ?_;exact eL h (Wk.trans (m9 _ [20]) (WP (λl=>if l=910005 then 20 else l)))
   .refine g9 ?_;refine sR<|iL h J J N3 U5 λv26 _ h=>S2 3 J<|S3 2 J<|cA h tR J J λv27 _ h=>yN ?_;refine cN h (λhc h=>?_) λhc h=>?_
    .refine S5 2 J ?_;refine y0 J (H6 (f:=k7.Pv) (l:=[v26]) J N3 U5 aD J J nl J J)<|w7 h λv28 hv21 h=>J2 J (H0 (f:=k7.Pv) hv21 J J J J J J (.inl ⟨_,J,J⟩) N3 U5 pT aD J (λ_=>J)) J J J<|S2 1 J ?_;exact eJ h (Wk.trans (m9 _ [20]) W)
    .refine c7 ?_;exact eJ h (Wk.trans (m9 _ [910005]) (WP (λl=>if l=20 then 910005 else l)))
  .refine o5 ?_;refine e6<|e6<|l7 ?_;have h:=xL hx14 h;exact eJ h (Wk.trans (m9 _ [910005]) W)
theorem wZ{a0 a1 a2}:PO Tryz.prog 94 [a8.Pv a0,.I a1,k8.Pv a2] (je a0 a1 a2) λr=>.tup [a8.Pv r.1,.I r.2]:=by
 refine pO Tryz.func94 λr h _ _=>?_;refine S4 4 J<|S3 3 J<|cF h dL J J λv1 _ h=>S2 6 J<|k9<|S4 2 J ?_;refine cN h (λhc h=>?_) λhc h=>?_
 .refine S4 4 J ?_;refine c5 ?_;cases h;exact⟨J,[_,_],⟨oL J J J A1 u7 nl J,⟨J,tr⟩⟩,J,io⟩
 .refine c7 ?_;refine S3 3 J<|w7 h λv2 hv2 h=>KI J (ib J ar J hv2) J J<|S2 1 J<|k9<|S4 2 J ?_;refine cN h (λhc h=>?_) λhc h=>?_
  .refine S4 3 J ?_;refine S4 3 J<|c5 ?_;cases h;exact⟨J,[_,_],⟨oL J J J A1 u7 nl J,⟨J,tr⟩⟩,J,io⟩
  .refine c7 ?_;refine k9<|S3 1 J<|y0 J (JU (f:=k7.Pv) J J J N3)<|S2 3 J ?_;refine cN h (λhc h=>?_) λhc h=>?_
   .refine S4 3 J ?_;refine c5 ?_;cases h;exact⟨J,[_,_],⟨oL J J J A1 u7 nl J,⟨J,tr⟩⟩,J,io⟩
   .refine c7 ?_;refine S3 2 J<|cF h gK J J λv3 _ h=>S2 1 J<|S3 4 J<|y0 J (p6 (cs:=[.I v1.1.Serial,.I a1]) J Cy aD J J J)<|y0 J (H6 (f:=k7.Pv) (l:=[(⟨v1.1.Serial,a1⟩:k7)]) J N3 U5 aD J J nl J J)<|w7 h λv4 hv4 h=>J2 J (H0 (f:=k7.Pv) hv4 J J J J J J (.inl ⟨_,J,J⟩) N3 U5 pT aD J (λ_=>J)) J J J<|S2 2 J<|S4 3 J<|c5 ?_;cases h;exact⟨J,[_,_],⟨oL J J J A1 u7 nl J,⟨J,tr⟩⟩,J,io⟩
theorem gp{a0 a1 a2}:PO Tryz.prog 90 [a8.Pv a0,.I a1,k8.Pv a2,.fn (.func 94) []] (K5 a0 a1 a2) λr=>.tup [a8.Pv r.1,g8.Pv r.2]:=by
 refine pO Tryz.func90 λr h _ _=>?_;refine S4 4 J<|S3 4 J<|cF h wZ J J λv1 _ h=>S2 6 J<|k9<|S4 2 J ?_;refine cN h (λhc h=>?_) λhc h=>?_
 .refine S3 2 J ?_;refine y0 J (p6 (cs:=[.I 0,.I v1.2]) J bp U9 J J J)<|S2 2 J<|c5 ?_;cases h;exact⟨J,[_,_],⟨oL J J J A1 u7 nl J,⟨oL J J J H4 A6 nl J,tr⟩⟩,J,io⟩
 .refine c7 ?_;refine S3 1 J<|cF h N7 J J λv2 _ h=>S1 1 J<|y0 J (p6 (cs:=[.I a1,.I 0]) J bp U9 J J J)<|S2 2 J<|c5 ?_;cases h;exact⟨J,[_,_],⟨oL J J J A1 u7 nl J,⟨oL J J J H4 A6 nl J,tr⟩⟩,J,io⟩
theorem AH{a0}:PO Tryz.prog 178 [.I a0] (qv a0) λr=>.tup [.L iF r.1,.I r.2]:=by
 refine pO Tryz.func178 λr h _ _=>?_;refine S4 2 J<|k9<|S3 3 J<|m8 J (λhg=>mI J)<|m8 J (λhg=>B2 (ct hg) J J)<|y0 J (I7 J J J (λq=>kr q))<|yN ?_;refine cN h (λhc h=>?_) λhc h=>?_
 .refine S4 2 J ?_;refine c5 ?_;cases h;exact f2
 .refine c7 ?_;refine S3 1 J<|w7 h λv1 hv1 h=>y1 J (Bg (f:=iF) hv1 J J J l6 o6 B9 Q0 J J J) J<|S2 2 J<|c5 ?_;cases h;exact f2
theorem oa{a0 a1 a2}:PO Tryz.prog 97 [a8.Pv a0,.I a1,.I a2] (aL a0 a1 a2) λr=>.tup [a8.Pv r.1,g8.Pv r.2]:=by
 refine pO Tryz.func97 λr h _ _=>?_;refine S4 3 J<|S3 3 J<|cF h iH J J λv1 _ h=>cF h N7 J J λv2 _ h=>S2 1 J<|dr [2,4,5,1003] r9 (by kernel_rfl) (by kernel_rfl)<|S7 2 J<|d7 J (λ_ hN=>tU hN J J J J iu J) J<|S7 1 J<|w7 h λv3 hv3 h=>d7 J (λ_ hN=>J5 (f:=iF) (cs:=[.I v3]) hv3 J J l6 o6 J J) J<|d7 J (λ_ hN=>W2 J K1 J) J<|d7 J (λ_ hN=>p6 (cs:=[.I v3,.I 0]) J bp U9 J J J) J<|C0 (x':=a8.Pv v2) (cl':=true) J J (.inr J) u7<|C0 (x':=.agg [.I v3,.I 0]) (cl':=true) J J (.inl J) A6<|I6<|c5 ?_;cases h;exact⟨J,[_,_],⟨oL J J J A1 u7 nl J,⟨oL J J J H4 A6 nl J,tr⟩⟩,J,io⟩
theorem vr{a0 a1}:PO Tryz.prog 95 [a8.Pv a0,k8.Pv a1] (dw a0 a1) λr=>.tup [a8.Pv r.1,g8.Pv r.2]:=by
 refine pO Tryz.func95 λr h _ _=>?_;refine S4 4 J<|S3 2 J<|cF h AH J J λv1 _ h=>S2 5 J<|k9<|S4 2 J ?_;refine cN h (λhc h=>?_) λhc h=>?_
 .refine S3 2 J ?_;refine y0 J (p6 (cs:=[.I 0,.I v1.2]) J bp U9 J J J)<|S2 2 J<|c5 ?_;cases h;exact⟨J,[_,_],⟨oL J J J A1 u7 nl J,⟨oL J J J H4 A6 nl J,tr⟩⟩,J,io⟩
 .refine c7 ?_;refine S3 2 J<|cA h eM J J λv2 _ h=>S2 1 J<|k9<|S4 2 J ?_;refine cN h (λhc h=>?_) λhc h=>?_
  .refine S3 1 J ?_;refine y0 J (p6 (cs:=[.I 0,.I 4]) J bp U9 J J J)<|S2 2 J<|c5 ?_;cases h;exact⟨J,[_,_],⟨oL J J J A1 u7 nl J,⟨oL J J J H4 A6 nl J,tr⟩⟩,J,io⟩
  .refine c7 ?_;refine S4 5 J<|S3 2 J<|w7 h λv3 hv3 h=>KI J (ib J J6 J hv3) J J<|S2 2 J<|S3 5 J<|w7 h λv4 hv4 h=>y0 J (aY (f:=iF) hv4 J J J J l6 o6 J)<|ou (f:=iF) (v:=w9 (a0.Serial+1)) hv4 J J (.inl J) o6<|yN<|dr [] r9 (by kernel_rfl) (by kernel_rfl)<|S7 2 J<|w7 h λv5 hv5 h=>Zv J (ib J B1 J hv5) J J J<|S7 6 J<|d7 J (λ_ hN=>p6 (cs:=[.I (w9 (a0.Serial+1)),.I v2,.I a1.C,.bool false,.bool true,.bool false,.L iF v1.1]) J IP aB J J J) J<|Vk J (H6 (f:=b8.Pv) (l:=[(⟨w9 (a0.Serial+1),v2,a1.C,false,true,false,v1.1⟩:b8)]) J B7 w8 aB J J nl J J) J<|w7 h λv6 hv6 h=>Zc J (H0 (f:=b8.Pv) hv6 J J J J J J (.inl ⟨_,J,J⟩) B7 w8 mK aB J (λ_=>J)) J J J J J<|S7 1 J<|C0 (x':=.agg [.sl 52,.sl 33,.L iF a0.Gens,.I a0.Last,.I a0.Places,.I (w9 (a0.Serial+1)),.L iF a0.Roots,.L j5.Pv a0.b7,.L k7.Pv a0.Pairs,.L g6.Pv a0.Tasks,.L (Ls k8.Pv) a0.Progs]) (cl':=false) J J (.inl J) UM<|I6<|S3 5 J<|w7 h λv7 hv7 h=>KH J (u4 J oa J hv7) J<|S2 4 J<|c5 ?_;cases h;exact⟨J,[_,_],⟨oL J J J A1 u7 nl J,⟨oL J J J H4 A6 nl J,tr⟩⟩,J,io⟩
theorem Co{a0 a1}:PO Tryz.prog 182 [.L iF a0,.I a1] (iO a0 a1) λr=>.tup [.I r.1,.I r.2]:=by
 refine pO Tryz.func182 λr h _ _=>?_;refine S4 2 J<|k9<|S3 2 J<|cA h AI J J λv1 _ h=>S2 1 J ?_;refine cN h (λhc h=>?_) λhc h=>?_
 .refine S4 2 J ?_;refine c5 ?_;cases h;exact f2
 .refine c7 ?_;refine S3 2 J<|iL h J J l6 o6 λv2 _ h=>S2 3 J<|c5 ?_;cases h;exact f2
theorem uN{a0 a1}:PO Tryz.prog 183 [.L j5.Pv a0,.I a1] (cS a0 a1) λr=>.tup [.I r.1,.I r.2]:=by
 refine pO Tryz.func183 λr h _ _=>?_;refine S4 2 J<|k9<|S3 2 J<|cA h wG J J λv1 _ h=>S2 1 J ?_;refine cN h (λhc h=>?_) λhc h=>?_
 .refine S4 2 J ?_;refine c5 ?_;cases h;exact f2
 .refine c7 ?_;refine k9<|S3 2 J<|iL h J J Q4 V4 λv2 hv2 h=>S1 4 J<|m8 J (λhg=>om (d:=.L j5.Pv a0) J)<|m8 J (λhg=>mI J)<|m8 J (λhg=>J5 (f:=j5.Pv) (cs:=j5.Pc v2) hv2 (ct hg) (ct hg) Q4 V4 J J)<|m8 J (λhg=>aM (ct hg) KP J)<|m8 J (λhg=>W2 (ct hg) vZ J)<|m8 J (λhg=>dA (ct hg) J)<|y0 J (I7 J J J (λq=>kr q))<|yN ?_;refine cN h (λhc h=>?_) λhc h=>?_
  .refine S4 2 J ?_;refine c5 ?_;cases h;exact f2
  .refine c7 ?_;refine S3 2 J<|y0 J (J5 (f:=j5.Pv) (cs:=j5.Pc v2) hv2 J J Q4 V4 J J)<|S2 4 J<|c5 ?_;cases h;exact f2
theorem yT{a0 a1}:PO Tryz.prog 96 [a8.Pv a0,k8.Pv a1] (bT a0 a1) λr=>.tup [.I r.1,.I r.2]:=by
 refine pO Tryz.func96 λr h _ _=>?_;refine S4 4 J<|k9<|S4 2 J<|g9<|S4 2 J ?_;refine cN h (λhc h=>?_) λhc h=>?_
 .refine S3 4 J ?_;refine iL h J J l6 o6 λv1 _ h=>S2 3 J<|c5 ?_;cases h;exact f2
 .refine S4 2 J ?_;refine cN h (λhc h=>?_) λhc h=>?_
  .refine S3 3 J ?_;refine cF h dL J J λv2 _ h=>S2 6 J<|k9<|S4 2 J ?_;refine cN h (λhc h=>?_) λhc h=>?_
   .refine S4 3 J ?_;refine c5 ?_;cases h;exact f2
   .refine c7 ?_;refine S3 4 J<|cA h Co J J λv3 _ h=>S2 4 J<|c5 ?_;cases h;exact f2
  .refine S4 2 J ?_;refine cN h (λhc h=>?_) λhc h=>?_
   .refine S3 4 J ?_;refine cA h uN J J λv4 _ h=>S2 4 J<|c5 ?_;cases h;exact f2
   .refine S4 2 J ?_;refine cN h (λhc h=>?_) λhc h=>?_
    .refine S3 3 J ?_;refine cF h dL J J λv5 _ h=>S2 6 J<|k9<|S4 2 J ?_;refine cN h (λhc h=>?_) λhc h=>?_
     .refine S4 3 J ?_;refine c5 ?_;cases h;exact f2
     .refine c7 ?_;refine k9<|S3 3 J<|cF h kX J J λv6 _ h=>S2 1 J<|S3 1 J<|nL J l6<|S2 1 J ?_;refine cN h (λhc h=>?_) λhc h=>?_
      .refine S3 1 J ?_;refine iL h J J l6 o6 λv7 _ h=>S2 3 J<|c5 ?_;cases h;exact f2
      .refine c7 ?_;refine S4 2 J<|c5 ?_;cases h;exact f2
    .refine c7 ?_;refine S4 2 J<|c5 ?_;cases h;exact f2
theorem qX{a0 a1}:PO Tryz.prog 53 [a8.Pv a0,k8.Pv a1] (bU a0 a1) λr=>.tup [a8.Pv r.1,g8.Pv r.2]:=by
 refine pO Tryz.func53 λr h _ _=>?_;refine S4 4 J<|k9<|S4 2 J<|g9<|S4 2 J ?_;refine cN h (λhc h=>?_) λhc h=>?_
 .refine k9 ?_;refine dr [] r9 (by kernel_rfl) (by kernel_rfl)<|S7 4 J<|w7 h λv1 hv1 h=>d0 J (J5 (f:=iF) (cs:=[.I v1]) hv1 J J l6 o6 J J) J<|S7 5 J<|w7 h λv2 hv2 h=>d0 J (J5 (f:=iF) (cs:=[.I v2]) hv2 J J l6 o6 J J) J<|S8 2 J ?_;refine cN h (λhc h=>?_) λhc h=>?_
  .refine S3 1 J ?_;refine y0 J (p6 (cs:=[.I 1,.I 0]) J bp U9 J J J)<|S2 2 J<|c5 ?_;cases h;exact⟨J,[_,_],⟨oL J J J A1 u7 nl J,⟨oL J J J H4 A6 nl J,tr⟩⟩,J,io⟩
  .refine c7 ?_;refine S3 1 J<|y0 J (p6 (cs:=[.I 0,.I 0]) J bp U9 J J J)<|S2 2 J<|c5 ?_;cases h;exact⟨J,[_,_],⟨oL J J J A1 u7 nl J,⟨oL J J J H4 A6 nl J,tr⟩⟩,J,io⟩
 .refine S4 2 J ?_;refine cN h (λhc h=>?_) λhc h=>?_
  .refine dr [] r9 (by kernel_rfl) (by kernel_rfl) ?_;refine S7 4 J<|w7 h λv3 hv3 h=>d2 J (P4 J dy J hv3) J<|S7 1 J<|w7 h λv4 hv4 h=>cY J (u4 J gq J hv4) J<|S7 2 J<|C0 (x':=a8.Pv v4.1) (cl':=true) J J (.inr J) u7<|C0 (x':=g8.Pv v4.2) (cl':=true) J J (.inl J) A6<|I6<|c5 ?_;cases h;exact⟨J,[_,_],⟨oL J J J A1 u7 nl J,⟨oL J J J H4 A6 nl J,tr⟩⟩,J,io⟩
  .refine S4 2 J ?_;refine cN h (λhc h=>?_) λhc h=>?_
   .refine dr [] r9 (by kernel_rfl) (by kernel_rfl) ?_;refine S7 4 J<|w7 h λv5 hv5 h=>d2 J (P4 J dy J hv5) J<|S7 1 J<|w7 h λv6 hv6 h=>cY J (u4 J fC J hv6) J<|S7 2 J<|C0 (x':=a8.Pv v6.1) (cl':=true) J J (.inr J) u7<|C0 (x':=g8.Pv v6.2) (cl':=true) J J (.inl J) A6<|I6<|c5 ?_;cases h;exact⟨J,[_,_],⟨oL J J J A1 u7 nl J,⟨oL J J J H4 A6 nl J,tr⟩⟩,J,io⟩
   .refine S4 2 J ?_;refine cN h (λhc h=>?_) λhc h=>?_
    .refine dr [] r9 (by kernel_rfl) (by kernel_rfl) ?_;refine S7 4 J<|w7 h λv7 hv7 h=>d2 J (P4 J dy J hv7) J<|S7 1 J<|w7 h λv8 hv8 h=>cY J (u4 J gp J hv8) J<|S7 2 J<|C0 (x':=a8.Pv v8.1) (cl':=true) J J (.inr J) u7<|C0 (x':=g8.Pv v8.2) (cl':=true) J J (.inl J) A6<|I6<|c5 ?_;cases h;exact⟨J,[_,_],⟨oL J J J A1 u7 nl J,⟨oL J J J H4 A6 nl J,tr⟩⟩,J,io⟩
    .refine S4 2 J ?_;refine cN h (λhc h=>?_) λhc h=>?_
     .refine S3 2 J ?_;refine cF h vr J J λv9 _ h=>S2 4 J<|c5 ?_;cases h;exact⟨J,[_,_],⟨oL J J J A1 u7 nl J,⟨oL J J J H4 A6 nl J,tr⟩⟩,J,io⟩
     .refine c7 ?_;refine S3 2 J<|cA h yT J J λv10 _ h=>S2 5 J<|k9<|S4 2 J ?_;refine cN h (λhc h=>?_) λhc h=>?_
      .refine S3 2 J ?_;refine y0 J (p6 (cs:=[.I 0,.I v10.2]) J bp U9 J J J)<|S2 2 J<|c5 ?_;cases h;exact⟨J,[_,_],⟨oL J J J A1 u7 nl J,⟨oL J J J H4 A6 nl J,tr⟩⟩,J,io⟩
      .refine c7 ?_;refine S3 4 J<|cF h oa J J λv11 _ h=>S2 4 J<|c5 ?_;cases h;exact⟨J,[_,_],⟨oL J J J A1 u7 nl J,⟨oL J J J H4 A6 nl J,tr⟩⟩,J,io⟩
theorem Ds{a0 a1}:PO Tryz.prog 171 [a8.Pv a0,.L k8.Pv a1] (jx a0 a1) λr=>a8.Pv r:=by
 refine pO Tryz.func171 λr h _ _=>?_;refine S4 2 J ?_;refine jq h (λj9=>St.of [(2,.ptr 2 0 0),(4,.ptr 4 0 0)] [(4,vR (.agg [.nl,.nl,.nl,.I 0,.I 0,.I 0,.nl,.nl,.nl,.nl,.nl]) 11),(2,vR (a8.Pv j9) 11)]) (λj9 h=>?_) λκ8 h=>?_
 .refine S4 2 J ?_;refine c5 ?_;cases h;exact⟨J,[_],⟨oL J J J A1 u7 nl J,tr⟩,J,io⟩
 .refine S3 1 J ?_;refine nL J gD<|S2 1 J<|g9<|lq h (λq=>St.of [(2,.ptr 2 0 0),(4,.ptr 4 0 0),(7,.L k8.Pv a1),(8,.I (a1.length:Int)),(9,.I q.1)] [(4,vR (.agg [.nl,.nl,.nl,.I 0,.I 0,.I 0,.nl,.nl,.nl,.nl,.nl]) 11),(2,vR (a8.Pv q.2) 11)]) W λq14 x13 h hx9=>?_;obtain⟨s11,s12⟩:=q14;refine S4 1 J<|k9 ?_;refine cN h (λhc h=>?_) λhc h=>?_
  .refine c7 ?_;refine k9<|g9<|sR<|iL h J J gD iZ λv15 _ h=>S2 3 J<|S5 2 J<|cF h qX J J λv16 _ h=>S2 4 J<|S6 2 J ?_;exact eL h W
  .refine o5 ?_;refine e6<|e6<|l7 ?_;have h:=xL hx9 h;exact eJ h W
theorem vy{a0 a1}:PO Tryz.prog 89 [a8.Pv a0,g6.Pv a1] (dz a0 a1) λr=>a8.Pv r:=by
 refine pO Tryz.func89 λr h _ _=>?_;refine S4 3 J<|S4 4 J ?_;refine jq h (λj3=>St.of [(2,.ptr 2 0 0),(3,.ptr 3 0 0),(4,.ptr 4 0 0),(5,.bool (a1.Kind==1))] [(4,vR (.agg [.nl,.nl,.nl,.I 0,.I 0,.I 0,.nl,.nl,.nl,.nl,.nl]) 11),(3,vR (g6.Pv a1) 3),(2,vR (a8.Pv j3) 11)]) (λj3 h=>?_) λκ2 h=>?_
 .refine S3 1 J ?_;refine cF h cK J J λv4 _ h=>cF h jm J J λv5 _ h=>S2 9 J<|S4 4 J ?_;refine jq h (λj8=>St.of [(2,.ptr 2 0 0),(3,.ptr 3 0 0),(4,.ptr 4 0 0),(5,.bool (a1.Kind==1))] [(4,vR (.agg [.nl,.nl,.nl,.I 0,.I 0,.I 0,.nl,.nl,.nl,.nl,.nl]) 11),(3,vR (g6.Pv a1) 3),(2,vR (a8.Pv j8) 11)]) (λj8 h=>?_) λκ7 h=>?_
  .refine dr [] r9 (by kernel_rfl) (by kernel_rfl) ?_;refine S7 5 J<|w7 h λv9 hv7 h=>cY J (u4 J lx J hv7) J<|w7 h λv10 hv8 h=>cY J (u4 J Ds J hv8) J<|C0 (x':=a8.Pv v10) (cl':=true) J J (.inr J) u7<|I6<|k9<|S4 1 J ?_;refine cN h (λhc h=>?_) λhc h=>?_
   .refine S5 1 J ?_;refine cF h iH J J λv11 _ h=>cF h N7 J J λv12 _ h=>S2 1 J<|S4 2 J<|c5 ?_;cases h;exact⟨J,[_],⟨oL J J J A1 u7 nl J,tr⟩,J,io⟩
   .refine c7 ?_;refine S4 2 J<|c5 ?_;cases h;exact⟨J,[_],⟨oL J J J A1 u7 nl J,tr⟩,J,io⟩
  .refine S4 1 J ?_;refine cN h (λhc h=>?_) λhc h=>?_
   .refine S5 1 J ?_;refine cF h N7 J J λv13 _ h=>S2 1 J ?_;exact eJ h W
   .refine c7 ?_;exact eJ h W
 .refine S4 1 J ?_;refine cN h (λhc h=>?_) λhc h=>?_
  .refine S5 3 J ?_;refine cF h iH J J λv14 _ h=>S2 1 J ?_;exact eJ h W
  .refine c7 ?_;exact eJ h W
theorem vt{a0 a1}:PO Tryz.prog 52 [a8.Pv a0,.I a1] (gL a0 a1) λr=>.tup [a8.Pv r.1,g8.Pv r.2]:=by
 refine pO Tryz.func52 λr h _ _=>?_;refine S4 3 J<|S4 1 J ?_;refine jq h (λq=>St.of [(2,.ptr 2 0 0),(4,.ptr 4 0 0),(5,.ptr 5 0 0),(6,.I q.1)] [(5,vR (.agg [.I 0,.I 0]) 2),(4,vR (.agg [.nl,.nl,.nl,.I 0,.I 0,.I 0,.nl,.nl,.nl,.nl,.nl]) 11),(2,vR (a8.Pv q.2) 11)]) (λq13 h=>?_) λκ10 h=>?_
 .obtain⟨j11,j12⟩:=q13;refine S3 2 J<|y0 J (p6 (cs:=[.I j11,.I 0]) J bp U9 J J J)<|S2 2 J<|c5 ?_;cases h;exact⟨J,[_,_],⟨oL J J J A1 u7 nl J,⟨oL J J J H4 A6 nl J,tr⟩⟩,J,io⟩
 .refine g9 ?_;refine lq h (λq=>St.of [(1,.I q.1),(2,.ptr 2 0 0),(4,.ptr 4 0 0),(5,.ptr 5 0 0),(6,.I q.2.1)] [(5,vR (.agg [.I 0,.I 0]) 2),(4,vR (.agg [.nl,.nl,.nl,.I 0,.I 0,.I 0,.nl,.nl,.nl,.nl,.nl]) 11),(2,vR (a8.Pv q.2.2) 11)]) W λq19 x18 h hx10=>?_;obtain⟨s15,s16,s17⟩:=q19;refine k9<|S3 2 J<|nL J I2<|S2 1 J ?_;refine cN h (λhc h=>?_) λhc h=>?_
  .refine c7 ?_;refine g9<|dr [] r9 (by kernel_rfl) (by kernel_rfl)<|S7 4 J<|w7 h λv20 hv11 h=>d0 J (J5 (f:=g6.Pv) (cs:=g6.Pc v20) hv11 J J I2 C8 J J) J<|S7 1 J<|w7 h λv21 hv12 h=>d2 J (P4 J qR J hv12) J<|S8 1 J<|k9<|S4 3 J ?_;refine cN h (λhc h=>?_) λhc h=>?_
   .refine S3 2 J ?_;refine y0 J (p6 (cs:=[.I s16,.I 12]) J bp U9 J J J)<|S2 2 J<|c5 ?_;have h:=xL hx10 h;cases h;exact⟨J,[_,_],⟨oL J J J A1 u7 nl J,⟨oL J J J H4 A6 nl J,tr⟩⟩,J,io⟩
   .refine c7 ?_;refine S4 4 J<|dr [] r9 (by kernel_rfl) (by kernel_rfl)<|S7 3 J<|d0 J (J5 (f:=g6.Pv) (cs:=g6.Pc v20) hv11 J J I2 C8 J J) J<|S7 1 J<|w7 h λv22 hv13 h=>cY J (u4 J vy J hv13) J<|C0 (x':=a8.Pv v22) (cl':=true) J J (.inr J) u7<|I6<|S6 3 J ?_;exact eL h W
  .refine o5 ?_;refine e6<|e6<|l7 ?_;have h:=xL hx10 h;exact eJ h W
theorem wi{a0 a1}:PO Tryz.prog 19 [a8.Pv a0,.L iF a1] (lU a0 a1) λr=>.tup [a8.Pv r.1,g8.Pv r.2]:=by
 refine pO Tryz.func19 λr h _ _=>?_;refine S4 3 J<|S3 1 J<|cA h oM J J λv1 _ h=>S2 6 J<|k9<|S4 2 J ?_;refine cN h (λhc h=>?_) λhc h=>?_
 .refine S3 2 J ?_;refine y0 J (p6 (cs:=[.I 0,.I v1.2]) J bp U9 J J J)<|S2 2 J<|c5 ?_;cases h;exact⟨J,[_,_],⟨oL J J J A1 u7 nl J,⟨oL J J J H4 A6 nl J,tr⟩⟩,J,io⟩
 .refine c7 ?_;refine k9<|S4 2 J<|g9<|S4 2 J ?_;refine cN h (λhc h=>?_) λhc h=>?_
  .refine S3 1 J ?_;refine cF h rJ J J λv2 _ h=>S2 4 J<|c5 ?_;cases h;exact⟨J,[_,_],⟨oL J J J A1 u7 nl J,⟨oL J J J H4 A6 nl J,tr⟩⟩,J,io⟩
  .refine S4 2 J ?_;refine cN h (λhc h=>?_) λhc h=>?_
   .refine S3 3 J ?_;refine cF h vt J J λv3 _ h=>S2 4 J<|c5 ?_;cases h;exact⟨J,[_,_],⟨oL J J J A1 u7 nl J,⟨oL J J J H4 A6 nl J,tr⟩⟩,J,io⟩
   .refine c7 ?_;refine S3 2 J<|cF h qX J J λv4 _ h=>S2 4 J<|c5 ?_;cases h;exact⟨J,[_,_],⟨oL J J J A1 u7 nl J,⟨oL J J J H4 A6 nl J,tr⟩⟩,J,io⟩
theorem Dr{a0 a1}:PO Tryz.prog 32 [a8.Pv a0,.L (Ls iF) a1] (cG a0 a1) λr=>.tup [a8.Pv r.1,.L g8.Pv r.2]:=by
 refine pO Tryz.func32 λr h _ _=>?_;refine S4 3 J<|S4 1 J ?_;refine jq h (λq=>St.of [(2,.ptr 2 0 0),(4,.ptr 4 0 0),(6,.sl 910006)] [(910006,⟨List.map g8.Pv q.2,(List.map g8.Pv q.2).length,true,2,true⟩),(4,vR (.agg [.nl,.nl,.nl,.I 0,.I 0,.I 0,.nl,.nl,.nl,.nl,.nl]) 11),(2,vR (a8.Pv q.1) 11)]) (λq13 h=>?_) λκ10 h=>?_
 .obtain⟨j11,j12⟩:=q13;refine S4 4 J<|c5 ?_;cases h;exact⟨J,[_,_],⟨oL J J J A1 u7 nl J,⟨J,tr⟩⟩,J,io⟩
 .refine S3 1 J ?_;refine nL J X4<|S2 1 J<|g9<|lq h (λq=>St.of [(2,.ptr 2 0 0),(4,.ptr 4 0 0),(6,.sl 910006),(10,.L (Ls iF) a1),(11,.I (a1.length:Int)),(12,.I q.1)] [(4,vR (.agg [.nl,.nl,.nl,.I 0,.I 0,.I 0,.nl,.nl,.nl,.nl,.nl]) 11),(2,vR (a8.Pv q.2.1) 11),(910006,⟨List.map g8.Pv q.2.2,(List.map g8.Pv q.2.2).length,true,2,true⟩)]) (Wk.trans (E7 (t:=6) (l:=920006) (z:=2) J J) (WP (λl=>if l=910006 then 920006 else l))) λq19 x18 h hx10=>?_;obtain⟨s15,s16,s17⟩:=q19;refine S4 1 J<|k9 ?_;refine cN h (λhc h=>?_) λhc h=>?_
  .refine c7 ?_;refine k9<|g9<|sR<|iL h J J X4 aA λv20 _ h=>S2 2 J<|S4 1 J<|S3 2 J<|cF h wi J J λv21 _ h=>S2 5 J<|S5 2 J<|y0 J (H6 (f:=g8.Pv) (l:=[v21.2]) J jF A6 U9 J J nl J J)<|w7 h λv22 hv13 h=>J2 J (H0 (f:=g8.Pv) hv13 J J J J J J (.inl ⟨_,J,J⟩) jF A6 Mv U9 J (λ_=>J)) J J J<|S2 1 J<|S6 2 J ?_;exact eL h (Wk.trans (m9 _ [25]) (WP (λl=>if l=910006 then 25 else l)))
  .refine o5 ?_;refine e6<|e6<|l7 ?_;have h:=xL hx10 h;exact eJ h (Wk.trans (m9 _ [910006]) W)
theorem wO{a0}:PO Tryz.prog 64 [k8.Pv a0] (mY a0) λr=>Yb rp r:=by
 refine pO Tryz.func64 λr h _ _=>?_;refine S4 2 J<|k9<|S4 2 J<|g9<|S4 2 J ?_;refine cN h (λhc h=>?_) λhc h=>?_
 .refine sR ?_;refine y0 J (p6 (cs:=[]) J QN Ja J J J)<|y0 J (HL (n:=rp) (T:=166) (xs:=[]) J IU J)<|S2 1 J<|c5 ?_;cases h;exact f1
 .refine S4 2 J ?_;refine cN h (λhc h=>?_) λhc h=>?_
  .refine S3 2 J ?_;refine y0 J (p6 (cs:=[.I a0.A]) J QO Jb J J J)<|y0 J (HL (n:=rp) (T:=170) (xs:=[a0.A]) J IV J)<|S2 1 J<|c5 ?_;cases h;exact f1
  .refine c7 ?_;refine S3 1 J<|y0 J (p6 (cs:=[.I a0.Kind,.I a0.A,.I a0.B,.I a0.C]) J QM IZ J J J)<|y0 J (HL (n:=rp) (T:=162) (xs:=[a0.Kind,a0.A,a0.B,a0.C]) J IT J)<|S2 1 J<|c5 ?_;cases h;exact f1
theorem vn:PO Tryz.prog 123 [] (gI) λr=>.abs (U8 (List.map (cu iF tf) r)):=by
 refine pO Tryz.func123 λr h _ _=>?_;unfold gI at h;refine S4 1 J<|sR<|Cr (KT:=Int) (VT:=Fv) (EK:=iF) (E:=tf) 5000001 J J<|lF (es:=[]) (k:=1) (v:=(some 203)) (E:=tf) (EK:=iF) (.inr J) J J J J J J bJ (y5 I5)<|lF (es:=(p7 [] 1 (some 203))) (k:=2) (v:=(some 204)) (E:=tf) (EK:=iF) (.inr J) J J J J J J bJ (y5 I5)<|lF (es:=(p7 (p7 [] 1 (some 203)) 2 (some 204))) (k:=3) (v:=(some 205)) (E:=tf) (EK:=iF) (.inr J) J J J J J J bJ (y5 I5)<|lF (es:=(p7 (p7 (p7 [] 1 (some 203)) 2 (some 204)) 3 (some 205))) (k:=4) (v:=(some 206)) (E:=tf) (EK:=iF) (.inr J) J J J J J J bJ (y5 I5)<|lF (es:=(p7 (p7 (p7 (p7 [] 1 (some 203)) 2 (some 204)) 3 (some 205)) 4 (some 206))) (k:=5) (v:=(some 207)) (E:=tf) (EK:=iF) (.inr J) J J J J J J bJ (y5 I5)<|lF (es:=(p7 (p7 (p7 (p7 (p7 [] 1 (some 203)) 2 (some 204)) 3 (some 205)) 4 (some 206)) 5 (some 207))) (k:=6) (v:=(some 208)) (E:=tf) (EK:=iF) (.inr J) J J J J J J bJ (y5 I5)<|lF (es:=(p7 (p7 (p7 (p7 (p7 (p7 [] 1 (some 203)) 2 (some 204)) 3 (some 205)) 4 (some 206)) 5 (some 207)) 6 (some 208))) (k:=7) (v:=(some 209)) (E:=tf) (EK:=iF) (.inr J) J J J J J J bJ (y5 I5)<|lF (es:=(p7 (p7 (p7 (p7 (p7 (p7 (p7 [] 1 (some 203)) 2 (some 204)) 3 (some 205)) 4 (some 206)) 5 (some 207)) 6 (some 208)) 7 (some 209))) (k:=8) (v:=(some 210)) (E:=tf) (EK:=iF) (.inr J) J J J J J J bJ (y5 I5)<|lF (es:=(p7 (p7 (p7 (p7 (p7 (p7 (p7 (p7 [] 1 (some 203)) 2 (some 204)) 3 (some 205)) 4 (some 206)) 5 (some 207)) 6 (some 208)) 7 (some 209)) 8 (some 210))) (k:=9) (v:=(some 211)) (E:=tf) (EK:=iF) (.inr J) J J J J J J bJ (y5 I5)<|lF (es:=(p7 (p7 (p7 (p7 (p7 (p7 (p7 (p7 (p7 [] 1 (some 203)) 2 (some 204)) 3 (some 205)) 4 (some 206)) 5 (some 207)) 6 (some 208)) 7 (some 209)) 8 (some 210)) 9 (some 211))) (k:=10) (v:=(some 212)) (E:=tf) (EK:=iF) (.inr J) J J J J J J bJ (y5 I5)<|S2 2 J<|bW (Eo 0 5000001 J J)<|c5 ?_;cases h;exact f1
theorem pL{a0}:PO Tryz.prog 317 [.I a0] (W7 a0) λr=>.bool r:=by
 refine pO Tryz.func317 λr h _ _=>?_;unfold W7 at h;refine S4 1 J<|S3 3 J<|m8 J (λhg=>mI J)<|m8 J (λhg=>B2 (ct hg) J J)<|y0 J (C7 J J J (λq=>jJ q))<|S2 1 J<|c5 ?_;cases h;exact f1
theorem nK{a0}:PO Tryz.prog 348 [l4.Pv a0] (Q9 a0) λr=>.fn (.func 363) [.rptr (l4.Pc r)]:=by
 refine pO Tryz.func348 λr h _ _=>?_;unfold Q9 at h;refine S4 2 J<|S4 2 J<|c5 ?_;cases h;exact f1
theorem P7{a0}:Qc Tryz.prog 352 [.L c8.Pv a0] (z6 a0) λr=>⟨List.map c8.Pv r,0,true,8,true⟩:=by
 refine Ul Tryz.func352 λr h _ _=>?_;unfold z6 at h;refine S4 1 J<|k9<|S3 1 J<|uP J T4 λb hb=>yN ?_;refine H3 b J (λhc=>?_) (λhc=>?_)
 .obtain rfl:a0 = []:=by simpa using hb hc
  refine S4 1 J<|bW (E7 (t:=2) (l:=920000) (z:=8) J J)<|c5 ?_;cases h;exact⟨J,_,_,J,J,J,J⟩
 .refine c7 ?_;refine sR<|y0 J (dB J T4 V5)<|S1 1 J<|y1 J (yW (f:=c8.Pv) h J J (.inl ⟨_,J,J⟩) T4 V5 IH pW J (λ_=>J)) J<|S2 1 J<|c5 ?_;exact⟨J,_,_,J,J,J,J⟩
theorem M0{a0 a1 a2}:PO Tryz.prog 327 [l4.Pv a0,.I a1,c8.Pv a2] (E5 a0 a1 a2) λr=>l4.Pv r:=by
 refine pO Tryz.func327 λr h _ _=>?_;unfold E5 at h;refine S4 3 J<|S3 2 J<|w7 h λv1 hv1 h=>KI J (ib J P7 J hv1) J J<|S2 2 J<|S3 4 J<|w7 h λv2 hv2 h=>y0 J (aY (f:=c8.Pv) hv2 J J J J T4 V5 J)<|ou (f:=c8.Pv) (v:=a2) hv2 J J (.inr J) V5<|yN<|S4 2 J<|c5 ?_;cases h;exact⟨J,[_],⟨oL J J J iv eR nl J,tr⟩,J,io⟩
theorem oY{a0 a1}:PO Tryz.prog 132 [.I a0,.I a1] (eC a0 a1) λr=>.I r:=by
 refine pO Tryz.func132 λr h _ _=>?_;refine S4 1 J<|k9<|S3 3 J<|m8 J (λhg=>mI J)<|m8 J (λhg=>B2 (ct hg) J J)<|y0 J (I7 J J J (λq=>kr q))<|S1 1 J<|m8 J (λhg=>mI J)<|m8 J (λhg=>B2 (ct hg) J J)<|y0 J (I7 J J J (λq=>kr q))<|S1 1 J<|m8 J (λhg=>mI J)<|m8 J (λhg=>B2 (ct hg) J J)<|y0 J (I7 J J J (λq=>kr q))<|yN ?_;refine cN h (λhc h=>?_) λhc h=>?_
 .refine S4 1 J ?_;refine c5 ?_;cases h;exact f1
 .refine c7 ?_;refine S4 7 J<|c5 ?_;cases h;exact f1
theorem nJ{a0 a1}:PO Tryz.prog 318 [l4.Pv a0,n0.Pv a1] (M4 a0 a1) λr=>.tup [l4.Pv r.1,.I r.2.1,.I r.2.2]:=by
 refine pO Tryz.func318 λr h _ _=>?_;refine S4 5 J ?_;refine jq h (λ_=>St.of [(2,.ptr 2005 0 0),(4,.ptr 2003 0 0),(5,.ptr 2002 0 0),(6,.ptr 2001 0 0)] [(2001,vR (.I 0) 1),(2002,vR (.I 0) 1),(2003,vR (.agg [.nl,.I 0]) 2),(2005,vR (l4.Pv a0) 2)]) (λq10 h=>?_) λκ9 h=>?_
 .refine S4 4 J ?_;refine c5 ?_;cases h;exact⟨J,[_,_,_],⟨oL J J J iv eR nl J,⟨oS J J J K1 J,⟨oS J J J uS J,tr⟩⟩⟩,J,io⟩
 .refine S3 1 J ?_;refine cF h nK J J λv11 _ h=>yN<|g9<|bW (sq (λl=>if l=2006 then 6 else if l=2007 then 5 else if l=2008 then 4 else if l=2009 then 3 else if l=2010 then 2 else l) [(2,.ptr 2010 0 0),(3,.ptr 2009 0 0),(4,.ptr 2008 0 0),(5,.ptr 2007 0 0),(6,.ptr 2006 0 0),(10,.fn (.func 363) [.rptr (l4.Pc v11)])] [(2006,vR (.I 0) 1),(2007,vR (.I 0) 1),(2008,vR (.agg [.nl,.I 0]) 2),(2009,vR (n0.Pv a1) 6),(2010,vR (l4.Pv a0) 2)]) ?_;refine bV (fn:=Tryz.f363) (N1:=23) J Tryz.func363 J J nl J QI J J (λl19 e20 o21 hR22=>?_);refine S3 2 J<|nL J T4<|S2 1 J<|g9<|lq h (λs13=>St.of [(1000002,.ptr 2010 0 0),(1000003,.ptr 2009 0 0),(1000004,.ptr 2008 0 0),(1000005,.ptr 2007 0 0),(1000006,.ptr 2006 0 0),(1000010,.fn (.func 363) [.rptr (l4.Pc v11)]),(0,.fn (.yield l19) []),(6,.L c8.Pv v11.b7),(7,.I (v11.b7.length:Int)),(8,.I s13)] [(2006,vR (.I 0) 1),(2007,vR (.I 0) 1),(2008,vR (.agg [.nl,.I 0]) 2),(2009,vR (n0.Pv a1) 6),(2010,vR (l4.Pv a0) 2)]) W λs13 x14 h hx25=>S4 1 J<|k9 ?_;refine cN h (λhc h=>?_) λhc h=>?_
  .refine c7 ?_;refine k9<|g9<|S3 1 J<|iL h J J T4 V5 λv15 _ h=>S2 4 J<|S3 4 J<|m8 J (λhg=>om (d:=.fn (.yield l19) []) J)<|m8 J (λhg=>mI J) ?_;rcases zau ((v15.State==0)==true) with hg27 | hg27
   .have h:=Uc h hg27;refine O8 (WE [(1000002,.ptr 2010 0 0),(1000003,.ptr 2009 0 0),(1000004,.ptr 2008 0 0),(1000005,.ptr 2007 0 0),(1000006,.ptr 2006 0 0),(1000010,.fn (.func 363) [.rptr (l4.Pc v11)]),(0,.fn (.yield l19) []),(6,.L c8.Pv v11.b7),(7,.I (v11.b7.length:Int)),(8,.I s13),(16,.bool (v15.State==0)),(17,.fn (.yield l19) []),(18,.I s13)] [(2006,vR (.I 0) 1),(2007,vR (.I 0) 1),(2008,vR (.agg [.nl,.I 0]) 2),(2009,vR (n0.Pv a1) 6),(2010,vR (l4.Pv a0) 2)]) ?_;refine js hR22 (wd some hg27) J J J J J (λe28 o29 o30=>?_);refine S6 1 J ?_;refine⟨J,?_⟩;refine g9<|S3 3 J<|iL h J J T4 V5 λv16 _ h=>S2 3 J<|S3 4 J<|y0 J (p6 (cs:=[.I 1,.I v16.Gen,.I a1.Serial,.I a1.Strong,.I a1.Weak,.I a1.Prog,.bool a1.Started,.L iF a1.Fields]) J xk pW J J J)<|cF h M0 J J λv17 _ h=>S1 2 J<|cA h oY J J λv18 _ h=>S2 3 J<|c5 ?_;refine⟨J,?_⟩;refine O8 (WE [(1000002,.ptr 2010 0 0),(1000003,.ptr 2009 0 0),(1000004,.ptr 2008 0 0),(1000005,.ptr 2007 0 0),(1000006,.ptr 2006 0 0),(1000010,.fn (.func 363) [.rptr (l4.Pc v11)]),(0,.fn (.yield l19) []),(6,.L c8.Pv v11.b7),(7,.I (v11.b7.length:Int)),(8,.I s13),(16,.bool (v15.State==0)),(19,.bool false)] [(2006,vR (.I 0) 1),(2007,vR (.I v18) 1),(2008,vR (l4.Pv v17) 2),(2009,vR (n0.Pv a1) 6),(2010,vR (l4.Pv a0) 2)])<|y0 (wd some hg27) (dA J J)<|y0 J (kZ J J hg27)<|yN ?_;refine H3 true J (λ_=>?_) (λq=>nomatch q);refine c5 ?_;refine .inr ⟨.ret,J,RQ ?_⟩;have h:=xL hx25 h;cases h;exact⟨J,[_,_,_],⟨oL J J J iv eR nl J,⟨oS J J J K1 J,⟨oS J J J uS J,tr⟩⟩⟩,J,io⟩
   .have h:=Ub h hg27;refine dj (wd some hg27)<|dj (wd some hg27)<|y0 J (nq J J hg27)<|yN ?_;refine H3 false J (λq=>nomatch q) (λ_=>?_);refine c7<|S6 2 J ?_;exact eL h W
  .refine o5 ?_;refine e6<|e6<|l7 ?_;refine .inl ⟨J,?_⟩;have h:=xL hx25 h;exact eJ h (WP (λl=>if l=2005 then 2010 else if l=2003 then 2008 else if l=2002 then 2007 else if l=2001 then 2006 else l))
theorem Bq{a0 a1 a2}:PO Tryz.prog 278 [b6.Pv a0,.I a1,.I a2] (Y4 a0 a1 a2) λr=>.tup [b6.Pv r.1,.I r.2.1,.I r.2.2]:=by
 refine pO Tryz.func278 λr h _ _=>?_;refine S4 4 J<|S3 1 J<|cF h AH J J λv1 _ h=>S2 5 J<|k9<|S4 2 J ?_;refine cN h (λhc h=>?_) λhc h=>?_
 .refine S4 5 J ?_;refine c5 ?_;cases h;exact⟨J,[_,_,_],⟨oL J J J mJ mO nl J,⟨J,⟨J,tr⟩⟩⟩,J,io⟩
 .refine c7 ?_;refine k9<|S3 1 J<|cA h pL J J λv2 _ h=>S2 1 J ?_;refine cN h (λhc h=>?_) λhc h=>?_
  .refine S4 4 J ?_;refine c5 ?_;cases h;exact⟨J,[_,_,_],⟨oL J J J mJ mO nl J,⟨J,⟨J,tr⟩⟩⟩,J,io⟩
  .refine c7 ?_;refine S3 7 J<|y0 J (p6 (cs:=[.I (w9 (a0.Serial+1)),.I 0,.I 0,.I a2,.bool false,.L iF v1.1]) J QP Rc J J J)<|cF h nJ J J λv3 _ h=>S2 8 J<|k9<|S4 2 J ?_;refine cN h (λhc h=>?_) λhc h=>?_
   .refine S4 5 J ?_;refine c5 ?_;cases h;exact⟨J,[_,_,_],⟨oL J J J mJ mO nl J,⟨J,⟨J,tr⟩⟩⟩,J,io⟩
   .refine c7 ?_;refine S3 4 J<|y0 J (p6 (cs:=[.L c8.Pv v3.1.b7,.I v3.1.Last,.I (w9 (a0.Serial+1))]) J MH MO J J J)<|S2 4 J<|c5 ?_;cases h;exact⟨J,[_,_,_],⟨oL J J J mJ mO nl J,⟨J,⟨J,tr⟩⟩⟩,J,io⟩
theorem nW{a0}:PO Tryz.prog 356 [.I a0] (eY a0) λr=>.tup [.I r.1,.I r.2.1,.bool r.2.2]:=by
 refine pO Tryz.func356 λr h _ _=>?_;refine S4 3 J<|k9<|S4 2 J ?_;refine cN h (λhc h=>?_) λhc h=>?_
 .refine S4 3 J ?_;refine c5 ?_;cases h;exact f3
 .refine c7 ?_;refine S3 2 J<|w7 h λv1 hv1 h=>y0 J (qY J J hv1)<|w7 h λv2 hv2 h=>y0 J (qY J J hv2)<|S1 2 J<|w7 h λv3 hv3 h=>y0 J (qY J J hv3)<|S2 2 J<|k9<|S3 3 J<|m8 J (λhg=>mI J)<|m8 J (λhg=>B2 (ct hg) J J)<|y0 J (I7 J J J (λq=>kr q))<|yN ?_;refine cN h (λhc h=>?_) λhc h=>?_
  .refine S4 3 J ?_;refine c5 ?_;cases h;exact f3
  .refine c7 ?_;refine S4 5 J<|c5 ?_;cases h;exact f3
theorem oZ{a0}:PO Tryz.prog 334 [.I a0] (gX a0) λr=>.I r:=by
 refine pO Tryz.func334 λr h _ _=>?_;refine S4 1 J<|S3 1 J<|cA h nW J J λv1 _ h=>S2 7 J<|S4 2 J<|c5 ?_;cases h;exact f1
theorem qT{a0}:PO Tryz.prog 335 [.I a0] (jM a0) λr=>.I r:=by
 refine pO Tryz.func335 λr h _ _=>?_;refine S4 1 J<|S3 1 J<|cA h nW J J λv1 _ h=>S2 7 J<|S4 2 J<|c5 ?_;cases h;exact f1
theorem L9{a0 a1}:PO Tryz.prog 308 [l4.Pv a0,.I a1] (x6 a0 a1) λr=>.tup [.I r.1,.I r.2]:=by
 refine pO Tryz.func308 λr h _ _=>?_;refine S4 3 J<|k9<|S4 2 J ?_;refine cN h (λhc h=>?_) λhc h=>?_
 .refine S4 2 J ?_;refine c5 ?_;cases h;exact f2
 .refine c7 ?_;refine S3 1 J<|cA h oZ J J λv1 _ h=>S2 1 J<|k9<|S3 3 J<|m8 J (λhg=>mI J)<|m8 J (λhg=>oF J MC J)<|m8 J (λhg=>oS (ct hg) J J UA J)<|m8 J (λhg=>Y5 (f:=c8.Pv) (ct hg) T4)<|m8 J (λhg=>B2 (ct hg) (ct hg) J)<|y0 J (I7 J J J (λq=>kr q))<|yN ?_;refine cN h (λhc h=>?_) λhc h=>?_
  .refine S4 2 J ?_;refine c5 ?_;cases h;exact f2
  .refine c7 ?_;refine S3 3 J<|iL h J J T4 V5 λv2 _ h=>S2 3 J<|k9<|dr [] r9 (by kernel_rfl) (by kernel_rfl)<|S7 3 J<|w7 h λv3 hv3 h=>d2 J (P4 J qT J hv3) J<|S7 2 J<|bN J (λhg _ hN=>oF J Bw J) J ?_;refine iR J (λhg=>oS (ct hg) J J K1 J) J<|bN J (λhg _ hN=>B2 (ct hg) J J) J<|bN J (λhg _ hN=>om (d:=.bool (v2.State != 1)) (ct hg)) J<|bN (Cp J J J) (λhg _ hN=>oF J Bw J) J ?_;refine iR (Cp J J J) (λhg=>oS (ct hg) J J K1 J) J<|bN (Cp J J J) (λhg _ hN=>B2 (ct hg) J J) J<|bN J (λhg _ hN=>C7 (ct hg) J J (λq=>XH hg (jJ q))) J<|d7 J (λ_ hN=>I7 J J J (λq=>kr q)) J<|I6 ?_;refine cN h (λhc h=>?_) λhc h=>?_
   .refine S4 2 J ?_;refine c5 ?_;cases h;exact f2
   .refine c7 ?_;refine S4 3 J<|c5 ?_;cases h;exact f2
theorem fZ{a0 a1}:PO Tryz.prog 234 [l4.Pv a0,.I a1] (F3 a0 a1) λr=>.tup [n0.Pv r.1,.I r.2]:=by
 refine pO Tryz.func234 λr h _ _=>?_;refine S4 3 J<|S4 1 J<|S3 2 J<|cA h L9 J J λv1 _ h=>S2 5 J<|k9<|S4 2 J ?_;refine cN h (λhc h=>?_) λhc h=>?_
 .refine S3 2 J ?_;refine iX (x':=.agg [.I 0,.I 0,.I 0,.I 0,.bool false,.nl]) (cl':=true) J J (.inl J) kG<|S2 1 J<|c5 ?_;cases h;exact⟨J,[_,_],⟨oL J J J sx kG nl J,⟨J,tr⟩⟩,J,io⟩
 .refine c7 ?_;refine k9<|S3 3 J<|iL h J J T4 V5 λv2 hv2 h=>S2 3 J ?_;refine cN h (λhc h=>?_) λhc h=>?_
  .refine S3 1 J ?_;refine iX (x':=.agg [.I 0,.I 0,.I 0,.I 0,.bool false,.nl]) (cl':=true) J J (.inl J) kG<|S2 1 J<|c5 ?_;cases h;exact⟨J,[_,_],⟨oL J J J sx kG nl J,⟨J,tr⟩⟩,J,io⟩
  .refine c7 ?_;refine S3 3 J<|y0 J (J5 (f:=c8.Pv) (cs:=c8.Pc v2) hv2 J J T4 V5 J J)<|S2 4 J<|c5 ?_;cases h;exact⟨J,[_,_],⟨oL J J J sx kG nl J,⟨J,tr⟩⟩,J,io⟩
theorem D1{a0 a1}:PO Tryz.prog 136 [b6.Pv a0,.I a1] (x4 a0 a1) λr=>.tup [n0.Pv r.1,.I r.2]:=by
 refine pO Tryz.func136 λr h _ _=>?_;refine S4 3 J<|S3 3 J<|cF h fZ J J λv1 _ h=>S2 4 J<|c5 ?_;cases h;exact⟨J,[_,_],⟨oL J J J sx kG nl J,⟨J,tr⟩⟩,J,io⟩
theorem yD{a0 a1}:PO Tryz.prog 349 [b9.Pv a0,.I a1] (kN a0 a1) λr=>.bool r:=by
 refine pO Tryz.func349 λr h _ _=>?_;refine S4 2 J<|S3 3 J<|cF h D1 J J λv1 _ h=>S2 6 J<|S4 3 J<|c5 ?_;cases h;exact f1
theorem Z7{a0 a1}:PO Tryz.prog 319 [b9.Pv a0,.I a1] (O3 a0 a1) λr=>.bool r:=by
 refine pO Tryz.func319 λr h _ _=>?_;unfold O3 at h;refine S4 2 J<|S3 3 J<|m8 J (λhg=>oL J J J u5 p8 nl J)<|m8 J (λhg=>mI J)<|w7 h λv1 hv1 h=>m8 J (λhg=>P4 J yD (T5 (ct hg) (T5 (ct hg) J)) (W3 hv1 hg))<|y0 J (I7 J J J (λq=>kr q))<|S2 1 J<|c5 ?_;cases h;exact f1
theorem bM{a0}:PO Tryz.prog 353 [.I a0] (I9 a0) λr=>.bool r:=by
 refine pO Tryz.func353 λr h _ _=>?_;unfold I9 at h;refine S4 1 J<|S4 3 J<|c5 ?_;cases h;exact f1
theorem sK{a0}:PO Tryz.prog 330 [.I a0] (jI a0) λr=>.tup [.I r.1,.I r.2]:=by
 refine pO Tryz.func330 λr h _ _=>?_;refine S4 2 J<|k9<|S3 1 J<|cA h bM J J λv1 _ h=>yN ?_;refine cN h (λhc h=>?_) λhc h=>?_
 .refine S4 2 J ?_;refine c5 ?_;cases h;exact f2
 .refine c7 ?_;refine S3 1 J<|y0 J (OB J J J)<|S2 3 J<|c5 ?_;cases h;exact f2
theorem CJ{a0}:PO Tryz.prog 289 [.I a0] (pX a0) λr=>.I r:=by
 refine pO Tryz.func289 λr h _ _=>?_;refine S4 1 J<|S3 1 J<|cA h sK J J λv1 _ h=>S2 5 J<|S4 2 J<|c5 ?_;cases h;exact f1
theorem oC{a0 a1 a2}:PO Tryz.prog 286 [l4.Pv a0,.I a1,n0.Pv a2] (aP a0 a1 a2) λr=>.tup [l4.Pv r.1,.I r.2]:=by
 refine pO Tryz.func286 λr h _ _=>?_;refine S4 4 J<|S3 2 J<|cA h L9 J J λv1 _ h=>S2 5 J<|k9<|S4 2 J ?_;refine cN h (λhc h=>?_) λhc h=>?_
 .refine S4 4 J ?_;refine c5 ?_;cases h;exact⟨J,[_,_],⟨oL J J J iv eR nl J,⟨J,tr⟩⟩,J,io⟩
 .refine c7 ?_;refine S3 3 J<|iL h J J T4 V5 λv2 _ h=>S2 3 J<|S4 3 J<|S3 3 J<|cF h M0 J J λv3 _ h=>S2 2 J<|c5 ?_;cases h;exact⟨J,[_,_],⟨oL J J J iv eR nl J,⟨J,tr⟩⟩,J,io⟩
theorem cQ{a0 a1 a2}:PO Tryz.prog 219 [b6.Pv a0,.I a1,n0.Pv a2] (T1 a0 a1 a2) λr=>.tup [b6.Pv r.1,.I r.2]:=by
 refine pO Tryz.func219 λr h _ _=>?_;refine S4 4 J<|S4 1 J<|S3 4 J<|cF h oC J J λv1 _ h=>S2 6 J<|S4 4 J<|c5 ?_;cases h;exact⟨J,[_,_],⟨oL J J J mJ mO nl J,⟨J,tr⟩⟩,J,io⟩
theorem jP{a0 a1}:PO Tryz.prog 288 [b9.Pv a0,.I a1,.fn (.func 289) []] (Z6 a0 a1) λr=>b9.Pv r:=by
 refine pO Tryz.func288 λr h _ _=>?_;refine S4 2 J<|S3 3 J<|cF h D1 J J λv1 _ h=>S2 6 J<|k9<|S4 2 J ?_;refine cN h (λhc h=>?_) λhc h=>?_
 .refine S3 3 J ?_;refine cA h CJ J J λv2 _ h=>S2 2 J<|S5 4 J<|cF h cQ J J λv3 _ h=>S2 5 J<|S4 2 J<|c5 ?_;cases h;exact⟨J,[_],⟨oL J J J u5 p8 nl J,tr⟩,J,io⟩
 .refine c7 ?_;refine S4 2 J<|c5 ?_;cases h;exact⟨J,[_],⟨oL J J J u5 p8 nl J,tr⟩,J,io⟩
theorem fa{a0 a1}:PO Tryz.prog 221 [b9.Pv a0,.I a1] (bR a0 a1) λr=>b9.Pv r:=by
 refine pO Tryz.func221 λr h _ _=>?_;refine S4 2 J<|S3 2 J<|cF h jP J J λv1 _ h=>S2 1 J<|c5 ?_;cases h;exact⟨J,[_],⟨oL J J J u5 p8 nl J,tr⟩,J,io⟩
theorem oy{a0 a1}:PO Tryz.prog 343 [L7.Pv a0,b9.Pv a1] (T6 a0 a1) λr=>b9.Pv r:=by
 refine pO Tryz.func343 λr h _ _=>?_;unfold T6 at h;refine S4 3 J<|S3 2 J<|w7 h λv1 hv1 h=>KI J (ib J J6 J hv1) J J<|S2 2 J<|S3 6 J<|w7 h λv2 hv2 h=>y0 J (aY (f:=iF) hv2 J J J J l6 o6 J)<|ou (f:=iF) (v:=a0.h) hv2 J J (.inl J) o6<|yN<|S4 2 J<|c5 ?_;cases h;exact⟨J,[_],⟨oL J J J u5 p8 nl J,tr⟩,J,io⟩
theorem qC{a0}:PO Tryz.prog 336 [.I a0] (gi a0) λr=>.tup [.I r.1,.I r.2]:=by
 refine pO Tryz.func336 λr h _ _=>?_;refine S4 2 J<|k9<|S3 1 J<|cA h bM J J λv1 _ h=>yN ?_;refine cN h (λhc h=>?_) λhc h=>?_
 .refine S4 2 J ?_;refine c5 ?_;cases h;exact f2
 .refine c7 ?_;refine k9<|S4 2 J ?_;refine cN h (λhc h=>?_) λhc h=>?_
  .refine S4 2 J ?_;refine c5 ?_;cases h;exact f2
  .refine c7 ?_;refine S4 4 J<|c5 ?_;cases h;exact f2
theorem CI{a0}:PO Tryz.prog 295 [.I a0] (uY a0) λr=>.tup [.I r.1,.I r.2]:=by
 refine pO Tryz.func295 λr h _ _=>?_;refine S4 2 J<|S3 1 J<|cA h qC J J λv1 _ h=>S2 5 J<|S4 4 J<|c5 ?_;cases h;exact f2
theorem tB{a0}:PO Tryz.prog 294 [.I a0] (eZ a0) λr=>.I r:=by
 refine pO Tryz.func294 λr h _ _=>?_;refine S4 1 J<|S3 1 J<|cA h CI J J λv1 _ h=>S2 5 J<|k9<|S4 2 J ?_;refine cN h (λhc h=>?_) λhc h=>?_
 .refine S4 2 J ?_;refine c5 ?_;cases h;exact f1
 .refine c7 ?_;refine S4 2 J<|c5 ?_;cases h;exact f1
theorem fS{a0 a1}:PO Tryz.prog 288 [b9.Pv a0,.I a1,.fn (.func 294) []] (Q5 a0 a1) λr=>b9.Pv r:=by
 refine pO Tryz.func288 λr h _ _=>?_;refine S4 2 J<|S3 3 J<|cF h D1 J J λv1 _ h=>S2 6 J<|k9<|S4 2 J ?_;refine cN h (λhc h=>?_) λhc h=>?_
 .refine S3 3 J ?_;refine cA h tB J J λv2 _ h=>S2 2 J<|S5 4 J<|cF h cQ J J λv3 _ h=>S2 5 J<|S4 2 J<|c5 ?_;cases h;exact⟨J,[_],⟨oL J J J u5 p8 nl J,tr⟩,J,io⟩
 .refine c7 ?_;refine S4 2 J<|c5 ?_;cases h;exact⟨J,[_],⟨oL J J J u5 p8 nl J,tr⟩,J,io⟩
theorem aU{a0 a1}:PO Tryz.prog 228 [b9.Pv a0,.I a1] (E4 a0 a1) λr=>b9.Pv r:=by
 refine pO Tryz.func228 λr h _ _=>?_;refine S4 2 J<|S3 2 J<|cF h fS J J λv1 _ h=>S2 1 J<|c5 ?_;cases h;exact⟨J,[_],⟨oL J J J u5 p8 nl J,tr⟩,J,io⟩
theorem dT{a0 a1 a2 a3}:PO Tryz.prog 320 [b9.Pv a0,.I a1,.I a2,.abs (TK 343 [L7.Pv a3])] (H2 a0 a1 a2 a3) λr=>b9.Pv r:=by
 refine pO Tryz.func320 λr h _ _=>?_;refine S4 2 J<|S3 3 J<|cF h fa J J λv1 _ h=>w7 h λv2 hv2 h=>Es (xs:=[b9.Pv v1]) J J QH J (oy.2 _ hv2)<|S1 1 J<|cF h aU J J λv3 _ h=>S2 1 J<|c5 ?_;cases h;exact⟨J,[_],⟨oL J J J u5 p8 nl J,tr⟩,J,io⟩
theorem ng{a0 a1 a2}:PO Tryz.prog 298 [b9.Pv a0,.I a1,.I a2] (cC a0 a1 a2) λr=>.tup [b9.Pv r.1,.I r.2]:=by
 refine pO Tryz.func298 λr h _ _=>?_;refine S4 3 J<|k9<|S3 3 J<|m8 J (λhg=>mI J)<|m8 J (λhg=>oF J sy J)<|m8 J (λhg=>oS (ct hg) J J iu J)<|m8 J (λhg=>Y5 (f:=iF) (ct hg) l6)<|m8 J (λhg=>B2 (ct hg) (ct hg) J)<|y0 J (I7 J J J (λq=>kr q))<|yN ?_;refine cN h (λhc h=>?_) λhc h=>?_
 .refine S4 3 J ?_;refine c5 ?_;cases h;exact⟨J,[_,_],⟨oL J J J u5 p8 nl J,⟨J,tr⟩⟩,J,io⟩
 .refine c7 ?_;refine k9<|S3 2 J<|cA h Z7 J J λv1 _ h=>S2 1 J ?_;refine cN h (λhc h=>?_) λhc h=>?_
  .refine S4 3 J ?_;refine c5 ?_;cases h;exact⟨J,[_,_],⟨oL J J J u5 p8 nl J,⟨J,tr⟩⟩,J,io⟩
  .refine c7 ?_;refine dr [] r9 (by kernel_rfl) (by kernel_rfl)<|S7 4 J<|w7 h λv2 hv2 h=>d0 J (J5 (f:=iF) (cs:=[.I v2]) hv2 J J l6 o6 J J) J<|S7 4 J<|d7 J (λ_ hN=>p6 (cs:=[.I a1,.I a2]) J QY Rm J J J) J<|d7 J (λ_ hN=>vA (d:=.agg [.I a1,.I a2]) J) J<|w7 h λv3 hv3 h=>cY J (u4 J dT J hv3) J<|C0 (x':=b9.Pv v3) (cl':=true) J J (.inr J) p8<|S8 1 J<|c5 ?_;cases h;exact⟨J,[_,_],⟨oL J J J u5 p8 nl J,⟨J,tr⟩⟩,J,io⟩
theorem K2{a0 a1 a2}:PO Tryz.prog 279 [s6.Pv a0,.I a1,.I a2] (C4 a0 a1 a2) λr=>.tup [b9.Pv r.1,.I r.2]:=by
 refine pO Tryz.func279 λr h _ _=>?_;refine S4 3 J<|k9<|S4 2 J ?_;refine cN h (λhc h=>?_) λhc h=>?_
 .refine S4 5 J ?_;refine c5 ?_;cases h;exact⟨J,[_,_],⟨oL J J J u5 p8 nl J,⟨J,tr⟩⟩,J,io⟩
 .refine c7 ?_;refine S3 6 J<|cF h ng J J λv1 _ h=>S2 4 J<|c5 ?_;cases h;exact⟨J,[_,_],⟨oL J J J u5 p8 nl J,⟨J,tr⟩⟩,J,io⟩
theorem fh{a0}:PO Tryz.prog 203 [s6.Pv a0] (Y9 a0) λr=>.tup [b9.Pv r.1,.I r.2]:=by
 refine pO Tryz.func203 λr h _ _=>?_;refine S4 3 J<|S3 9 J<|cF h Bq J J λv1 _ h=>S2 8 J<|k9<|S4 2 J ?_;refine cN h (λhc h=>?_) λhc h=>?_
 .refine S4 5 J ?_;refine c5 ?_;cases h;exact⟨J,[_,_],⟨oL J J J u5 p8 nl J,⟨J,tr⟩⟩,J,io⟩
 .refine c7 ?_;refine S4 4 J<|S3 2 J<|cF h K2 J J λv2 _ h=>S2 4 J<|c5 ?_;cases h;exact⟨J,[_,_],⟨oL J J J u5 p8 nl J,⟨J,tr⟩⟩,J,io⟩
theorem Q6{a0 a1}:PO Tryz.prog 216 [b9.Pv a0,.I a1] (O5 a0 a1) λr=>.I r:=by
 refine pO Tryz.func216 λr h _ _=>?_;refine S4 2 J<|k9<|S3 3 J<|m8 J (λhg=>mI J)<|m8 J (λhg=>oF J sy J)<|m8 J (λhg=>oS (ct hg) J J iu J)<|m8 J (λhg=>Y5 (f:=iF) (ct hg) l6)<|m8 J (λhg=>B2 (ct hg) (ct hg) J)<|y0 J (I7 J J J (λq=>kr q))<|yN ?_;refine cN h (λhc h=>?_) λhc h=>?_
 .refine S4 1 J ?_;refine c5 ?_;cases h;exact f1
 .refine c7 ?_;refine S3 3 J<|iL h J J l6 o6 λv1 _ h=>S2 2 J<|c5 ?_;cases h;exact f1
theorem cU{a0}:PO Tryz.prog 204 [s6.Pv a0] (L8 a0) λr=>.tup [b9.Pv r.1,.I r.2]:=by
 refine pO Tryz.func204 λr h _ _=>?_;unfold L8 at h;refine S4 3 J<|dr [] r9 (by kernel_rfl) (by kernel_rfl)<|S7 6 J<|w7 h λv1 hv1 h=>d2 J (P4 J Q6 J hv1) J<|w7 h λv2 hv2 h=>cY J (u4 J K2 J hv2) J<|S7 2 J<|C0 (x':=b9.Pv v2.1) (cl':=true) J J (.inr J) p8<|S8 1 J<|c5 ?_;cases h;exact⟨J,[_,_],⟨oL J J J u5 p8 nl J,⟨J,tr⟩⟩,J,io⟩
theorem hU{a0}:PO Tryz.prog 205 [s6.Pv a0] (bC a0) λr=>.tup [b9.Pv r.1,.I r.2]:=by
 refine pO Tryz.func205 λr h _ _=>?_;refine S4 3 J<|S3 1 J<|cF h K2 J J λv1 _ h=>S2 4 J<|c5 ?_;cases h;exact⟨J,[_,_],⟨oL J J J u5 p8 nl J,⟨J,tr⟩⟩,J,io⟩
theorem V8{a0 a1}:PO Tryz.prog 280 [b9.Pv a0,.I a1] (P0 a0 a1) λr=>.tup [.I r.1,.I r.2]:=by
 refine pO Tryz.func280 λr h _ _=>?_;refine S4 3 J<|S3 2 J<|cA h Q6 J J λv1 _ h=>S2 1 J<|k9<|S4 2 J ?_;refine cN h (λhc h=>?_) λhc h=>?_
 .refine S4 2 J ?_;refine c5 ?_;cases h;exact f2
 .refine c7 ?_;refine S4 3 J<|c5 ?_;cases h;exact f2
theorem pK{a0 a1 a2}:PO Tryz.prog 281 [b6.Pv a0,.I a1,.I a2] (K4 a0 a1 a2) λr=>.tup [.I r.1,.I r.2]:=by
 refine pO Tryz.func281 λr h _ _=>?_;refine S4 3 J<|S3 2 J<|cF h D1 J J λv1 _ h=>S2 6 J<|k9<|S4 2 J ?_;refine cN h (λhc h=>?_) λhc h=>?_
 .refine S4 3 J ?_;refine c5 ?_;cases h;exact f2
 .refine c7 ?_;refine S3 3 J<|cA h Co J J λv2 _ h=>S2 4 J<|c5 ?_;cases h;exact f2
theorem hZ{a0}:PO Tryz.prog 206 [s6.Pv a0] (bD a0) λr=>.tup [b9.Pv r.1,.I r.2]:=by
 refine pO Tryz.func206 λr h _ _=>?_;refine S4 3 J<|S3 5 J<|cA h V8 J J λv1 _ h=>S2 5 J<|k9<|S4 2 J ?_;refine cN h (λhc h=>?_) λhc h=>?_
 .refine S4 5 J ?_;refine c5 ?_;cases h;exact⟨J,[_,_],⟨oL J J J u5 p8 nl J,⟨J,tr⟩⟩,J,io⟩
 .refine c7 ?_;refine dr [] r9 (by kernel_rfl) (by kernel_rfl)<|S7 8 J<|w7 h λv2 hv2 h=>d2 J (P4 J pK J hv2) J<|S7 2 J<|w7 h λv3 hv3 h=>cY J (u4 J K2 J hv3) J<|S7 2 J<|C0 (x':=b9.Pv v3.1) (cl':=true) J J (.inr J) p8<|S8 1 J<|c5 ?_;cases h;exact⟨J,[_,_],⟨oL J J J u5 p8 nl J,⟨J,tr⟩⟩,J,io⟩
theorem Ed{a0 a1 a2 a3}:PO Tryz.prog 350 [b6.Pv a0,.I a1,.I a2,.I a3] (qq a0 a1 a2 a3) λr=>.tup [b6.Pv r.1,.I r.2]:=by
 refine pO Tryz.func350 λr h _ _=>?_;refine S4 3 J<|S3 2 J<|cF h D1 J J λv1 _ h=>S2 6 J<|k9<|S4 2 J ?_;refine cN h (λhc h=>?_) λhc h=>?_
 .refine S4 4 J ?_;refine c5 ?_;cases h;exact⟨J,[_,_],⟨oL J J J mJ mO nl J,⟨J,tr⟩⟩,J,io⟩
 .refine c7 ?_;refine k9<|S3 4 J<|cF h wz J J λv2 _ h=>S2 6 J<|S4 2 J ?_;refine cN h (λhc h=>?_) λhc h=>?_
  .refine S4 4 J ?_;refine c5 ?_;cases h;exact⟨J,[_,_],⟨oL J J J mJ mO nl J,⟨J,tr⟩⟩,J,io⟩
  .refine c7 ?_;refine S3 3 J<|cF h cQ J J λv3 _ h=>S2 4 J<|c5 ?_;cases h;exact⟨J,[_,_],⟨oL J J J mJ mO nl J,⟨J,tr⟩⟩,J,io⟩
theorem nh{a0 a1}:PO Tryz.prog 321 [H9.Pv a0,b9.Pv a1] (da a0 a1) λr=>b9.Pv r:=by
 refine pO Tryz.func321 λr h _ _=>?_;refine S4 3 J<|S3 8 J<|cF h Ed J J λv1 _ h=>S2 5 J<|S4 2 J<|c5 ?_;cases h;exact⟨J,[_],⟨oL J J J u5 p8 nl J,tr⟩,J,io⟩
theorem dv{a0 a1 a2 a3}:PO Tryz.prog 320 [b9.Pv a0,.I a1,.I a2,.abs (TK 321 [H9.Pv a3])] (G5 a0 a1 a2 a3) λr=>b9.Pv r:=by
 refine pO Tryz.func320 λr h _ _=>?_;refine S4 2 J<|S3 3 J<|cF h fa J J λv1 _ h=>w7 h λv2 hv2 h=>Es (xs:=[b9.Pv v1]) J J QD J (nh.2 _ hv2)<|S1 1 J<|cF h aU J J λv3 _ h=>S2 1 J<|c5 ?_;cases h;exact⟨J,[_],⟨oL J J J u5 p8 nl J,tr⟩,J,io⟩
theorem Bf{a0 a1 a2 a3}:PO Tryz.prog 282 [b9.Pv a0,.I a1,.I a2,.I a3] (aH a0 a1 a2 a3) λr=>.tup [b9.Pv r.1,.I r.2]:=by
 refine pO Tryz.func282 λr h _ _=>?_;refine S4 3 J<|S3 4 J<|cA h pK J J λv1 _ h=>S2 5 J<|k9<|S4 2 J ?_;refine cN h (λhc h=>?_) λhc h=>?_
 .refine S4 4 J ?_;refine c5 ?_;cases h;exact⟨J,[_,_],⟨oL J J J u5 p8 nl J,⟨J,tr⟩⟩,J,io⟩
 .refine c7 ?_;refine k9<|S3 2 J<|cA h Z7 J J λv2 _ h=>S2 1 J ?_;refine cN h (λhc h=>?_) λhc h=>?_
  .refine S4 3 J ?_;refine c5 ?_;cases h;exact⟨J,[_,_],⟨oL J J J u5 p8 nl J,⟨J,tr⟩⟩,J,io⟩
  .refine c7 ?_;refine S3 6 J<|y0 J (p6 (cs:=[.I a1,.I a2,.I a3]) J QV Rj J J J)<|y0 J (vA (d:=.agg [.I a1,.I a2,.I a3]) J)<|cF h dv J J λv3 _ h=>S2 2 J<|c5 ?_;cases h;exact⟨J,[_,_],⟨oL J J J u5 p8 nl J,⟨J,tr⟩⟩,J,io⟩
theorem fW{a0}:PO Tryz.prog 207 [s6.Pv a0] (aJ a0) λr=>.tup [b9.Pv r.1,.I r.2]:=by
 refine pO Tryz.func207 λr h _ _=>?_;refine S4 3 J<|S3 5 J<|cA h V8 J J λv1 _ h=>S2 5 J<|k9<|S4 2 J ?_;refine cN h (λhc h=>?_) λhc h=>?_
 .refine S4 5 J ?_;refine c5 ?_;cases h;exact⟨J,[_,_],⟨oL J J J u5 p8 nl J,⟨J,tr⟩⟩,J,io⟩
 .refine c7 ?_;refine dr [] r9 (by kernel_rfl) (by kernel_rfl)<|S7 11 J<|w7 h λv2 hv2 h=>d2 J (P4 J Q6 J hv2) J<|w7 h λv3 hv3 h=>cY J (u4 J Bf J hv3) J<|S7 2 J<|C0 (x':=b9.Pv v3.1) (cl':=true) J J (.inr J) p8<|S8 1 J<|c5 ?_;cases h;exact⟨J,[_,_],⟨oL J J J u5 p8 nl J,⟨J,tr⟩⟩,J,io⟩
theorem pf{a0 a1 a2}:PO Tryz.prog 323 [b9.Pv a0,.I a1,.I a2] (ay a0 a1 a2) λr=>b9.Pv r:=by
 refine pO Tryz.func323 λr h _ _=>?_;refine S4 2 J<|S3 4 J<|cA h L9 J J λv1 _ h=>S2 5 J<|k9<|S4 2 J ?_;refine cN h (λhc h=>?_) λhc h=>?_
 .refine S3 5 J ?_;refine iL h J J T4 V5 λv2 _ h=>S2 4 J<|S4 6 J<|S5 4 J<|cF h cQ J J λv3 _ h=>S2 5 J<|S4 2 J<|c5 ?_;cases h;exact⟨J,[_],⟨oL J J J u5 p8 nl J,tr⟩,J,io⟩
 .refine c7 ?_;refine S4 2 J<|c5 ?_;cases h;exact⟨J,[_],⟨oL J J J u5 p8 nl J,tr⟩,J,io⟩
theorem fM{a0 a1}:PO Tryz.prog 293 [l4.Pv a0,.I a1] (Q8 a0 a1) λr=>.tup [l4.Pv r.1,.I r.2]:=by
 refine pO Tryz.func293 λr h _ _=>?_;refine S4 3 J<|S3 2 J<|cA h L9 J J λv1 _ h=>S2 5 J<|k9<|S4 2 J ?_;refine cN h (λhc h=>?_) λhc h=>?_
 .refine S4 4 J ?_;refine c5 ?_;cases h;exact⟨J,[_,_],⟨oL J J J iv eR nl J,⟨J,tr⟩⟩,J,io⟩
 .refine c7 ?_;refine S3 3 J<|iL h J J T4 V5 λv2 _ h=>S2 3 J<|k9<|S4 4 J ?_;refine cN h (λhc h=>?_) λhc h=>?_
  .refine S3 3 J ?_;refine y0 J (p6 (cs:=[.I 3,.I v2.Gen,.I 0,.I 0,.I 0,.I 0,.bool false,.nl]) J xk pW J J J)<|cF h M0 J J λv3 _ h=>S2 2 J<|c5 ?_;cases h;exact⟨J,[_,_],⟨oL J J J iv eR nl J,⟨J,tr⟩⟩,J,io⟩
  .refine c7 ?_;refine S3 4 J<|y0 J (p6 (cs:=[.I 0,.I (w9 (v2.Gen+1)),.I 0,.I 0,.I 0,.I 0,.bool false,.nl]) J xk pW J J J)<|cF h M0 J J λv4 _ h=>S2 2 J<|c5 ?_;cases h;exact⟨J,[_,_],⟨oL J J J iv eR nl J,⟨J,tr⟩⟩,J,io⟩
theorem vi{a0 a1}:PO Tryz.prog 322 [b9.Pv a0,.I a1] (bc a0 a1) λr=>b9.Pv r:=by
 refine pO Tryz.func322 λr h _ _=>?_;refine S4 2 J<|S3 2 J<|cF h pf J J λv1 _ h=>S2 1 J<|S3 4 J<|cA h L9 J J λv2 _ h=>S2 5 J<|k9<|S4 2 J ?_;refine cN h (λhc h=>?_) λhc h=>?_
 .refine S4 2 J ?_;refine c5 ?_;cases h;exact⟨J,[_],⟨oL J J J u5 p8 nl J,tr⟩,J,io⟩
 .refine c7 ?_;refine k9<|S3 5 J<|iL h J J T4 V5 λv3 _ h=>S2 3 J<|S3 4 J<|m8 J (λhg=>oF J KV J)<|m8 J (λhg=>oF (ct hg) KU J)<|m8 J (λhg=>oS (ct hg) J J K1 J)<|m8 J (λhg=>B2 (ct hg) J J)<|y0 J (C7 J J J (λq=>jJ q))<|yN ?_;refine cN h (λhc h=>?_) λhc h=>?_
  .refine S5 4 J ?_;refine cF h fM J J λv4 _ h=>S2 6 J<|S4 2 J<|c5 ?_;cases h;exact⟨J,[_],⟨oL J J J u5 p8 nl J,tr⟩,J,io⟩
  .refine c7 ?_;refine S4 2 J<|c5 ?_;cases h;exact⟨J,[_],⟨oL J J J u5 p8 nl J,tr⟩,J,io⟩
theorem tC{a0 a1 a2 a3}:PO Tryz.prog 283 [b9.Pv a0,.I a1,.I a2,.I a3] (S9 a0 a1 a2 a3) λr=>.tup [b9.Pv r.1,.I r.2]:=by
 refine pO Tryz.func283 λr h _ _=>?_;unfold S9 at h;refine S4 3 J<|k9<|S3 3 J<|m8 J (λhg=>mI J)<|m8 J (λhg=>oF J EH J)<|m8 J (λhg=>oS (ct hg) J J Cv J)<|m8 J (λhg=>Y5 (f:=j5.Pv) (ct hg) Q4)<|m8 J (λhg=>B2 (ct hg) (ct hg) J)<|y0 J (I7 J J J (λq=>kr q))<|S1 1 J<|m8 J (λhg=>oF J EI J)<|m8 J (λhg=>oL (ct hg) J J jE cW nl J)<|m8 J (λhg=>mI J)<|w7 h λv1 hv1 h=>m8 J (λhg=>P4 J rk (T5 (ct hg) (T5 (ct hg) J)) (W3 hv1 hg))<|y0 J (I7 J J J (λq=>kr q))<|yN ?_;refine cN h (λhc h=>?_) λhc h=>?_
 .refine S4 3 J ?_;refine c5 ?_;cases h;exact⟨J,[_,_],⟨oL J J J u5 p8 nl J,⟨J,tr⟩⟩,J,io⟩
 .refine c7 ?_;refine k9<|S3 2 J<|cA h Z7 J J λv2 _ h=>S2 1 J ?_;refine cN h (λhc h=>?_) λhc h=>?_
  .refine S4 3 J ?_;refine c5 ?_;cases h;exact⟨J,[_,_],⟨oL J J J u5 p8 nl J,⟨J,tr⟩⟩,J,io⟩
  .refine c7 ?_;refine S3 5 J<|cF h wF J J λv3 _ h=>S2 7 J<|S4 3 J<|S3 2 J<|cF h pf J J λv4 _ h=>S1 1 J<|cF h vi J J λv5 _ h=>S2 2 J<|c5 ?_;cases h;exact⟨J,[_,_],⟨oL J J J u5 p8 nl J,⟨J,tr⟩⟩,J,io⟩
theorem fi{a0}:PO Tryz.prog 208 [s6.Pv a0] (M2 a0) λr=>.tup [b9.Pv r.1,.I r.2]:=by
 refine pO Tryz.func208 λr h _ _=>?_;refine S4 3 J<|k9<|S4 4 J ?_;refine cN h (λhc h=>?_) λhc h=>?_
 .refine S3 8 J ?_;refine cF h tC J J λv1 _ h=>S2 4 J<|c5 ?_;cases h;exact⟨J,[_,_],⟨oL J J J u5 p8 nl J,⟨J,tr⟩⟩,J,io⟩
 .refine c7 ?_;refine S3 5 J<|cA h V8 J J λv2 _ h=>S2 5 J<|k9<|S4 2 J ?_;refine cN h (λhc h=>?_) λhc h=>?_
  .refine S4 5 J ?_;refine c5 ?_;cases h;exact⟨J,[_,_],⟨oL J J J u5 p8 nl J,⟨J,tr⟩⟩,J,io⟩
  .refine c7 ?_;refine S3 9 J<|cF h tC J J λv3 _ h=>S2 4 J<|c5 ?_;cases h;exact⟨J,[_,_],⟨oL J J J u5 p8 nl J,⟨J,tr⟩⟩,J,io⟩
theorem jR{a0}:PO Tryz.prog 209 [s6.Pv a0] (aV a0) λr=>.tup [b9.Pv r.1,.I r.2]:=by
 refine pO Tryz.func209 λr h _ _=>?_;unfold aV at h;refine S4 3 J<|dr [] r9 (by kernel_rfl) (by kernel_rfl)<|S7 7 J<|w7 h λv1 hv1 h=>d2 J (P4 J uN J hv1) J<|S7 2 J<|w7 h λv2 hv2 h=>cY J (u4 J K2 J hv2) J<|S7 2 J<|C0 (x':=b9.Pv v2.1) (cl':=true) J J (.inr J) p8<|S8 1 J<|c5 ?_;cases h;exact⟨J,[_,_],⟨oL J J J u5 p8 nl J,⟨J,tr⟩⟩,J,io⟩
theorem tu{a0 a1}:PO Tryz.prog 354 [.I a0,.I a1] (jw a0 a1) λr=>.fn (.func 364) [.rptr [.I r.1],.rptr [.I r.2]]:=by
 refine pO Tryz.func354 λr h _ _=>?_;unfold jw at h;refine S4 3 J<|S4 2 J<|c5 ?_;cases h;exact f1
theorem tp{a0 a1}:PO Tryz.prog 365 [.I a0,.I a1] (eD a0 a1) λr=>.I r:=by
 refine pO Tryz.func365 λr h _ _=>?_;refine S4 1 J<|k9<|S4 2 J ?_;refine cN h (λhc h=>?_) λhc h=>?_
 .refine S4 1 J ?_;refine c5 ?_;cases h;exact f1
 .refine c7 ?_;refine S3 4 J<|w7 h λv1 hv1 h=>y0 J (qY J J hv1)<|S2 1 J<|k9<|S4 2 J ?_;refine cN h (λhc h=>?_) λhc h=>?_
  .refine S6 4 J ?_;refine S4 2 J<|c5 ?_;cases h;exact f1
  .refine c7 ?_;refine S4 2 J<|c5 ?_;cases h;exact f1
theorem nb{a0 a1}:PO Tryz.prog 332 [.L g5.Pv a0,.I a1] (bb a0 a1) λr=>.I r:=by
 refine pO Tryz.func332 λr h _ _=>?_;refine S4 3 J ?_;refine jq h (λ_=>St.of [(4,.ptr 2001 0 0)] [(2001,vR (.I 0) 1)]) (λq9 h=>?_) λκ8 h=>?_
 .refine S4 1 J ?_;refine c5 ?_;cases h;exact⟨J,[_],⟨oS J J J K1 J,tr⟩,J,io⟩
 .refine S3 1 J ?_;refine nL J bo<|S1 1 J<|cF h tu J J λv10 _ h=>yN<|g9<|bW (sq (λl=>if l=2004 then 4 else if l=2005 then 3 else if l=2006 then 2 else l) [(2,.ptr 2006 0 0),(3,.ptr 2005 0 0),(4,.ptr 2004 0 0),(9,.fn (.func 364) [.rptr [.I v10.1],.rptr [.I v10.2]])] [(2004,vR (.I 0) 1),(2005,vR (.I a1) 1),(2006,vR (.L g5.Pv a0) 1)]) ?_;refine bV (fn:=Tryz.f364) (N1:=20) J Tryz.func364 J J nl J IL J J (λl17 e18 o19 hR20=>?_);refine S4 2 J<|g9<|lq h (λs12=>St.of [(1000002,.ptr 2006 0 0),(1000003,.ptr 2005 0 0),(1000004,.ptr 2004 0 0),(1000009,.fn (.func 364) [.rptr [.I v10.1],.rptr [.I v10.2]]),(0,.fn (.yield l17) []),(1,.rptr [.I v10.1]),(2,.rptr [.I v10.2]),(5,.I v10.1),(6,.I s12)] [(2004,vR (.I 0) 1),(2005,vR (.I a1) 1),(2006,vR (.L g5.Pv a0) 1)]) W λs12 x13 h hx23=>S4 1 J<|k9 ?_;refine cN h (λhc h=>?_) λhc h=>?_
  .refine c7 ?_;refine k9<|g9<|S4 2 J<|Zd [] 8 r9 (by kernel_rfl) (by kernel_rfl) (by kernel_rfl) (by kernel_rfl) nl<|S7 3 J<|w7 h λv14 hv24 h=>d2 J (P4 J tp J hv24) J<|S7 3 J<|w7 h λv15 hv25 h=>d7 J (λ_ hN=>qY J J hv25) J<|I6<|DA (WE [(1000002,.ptr 2006 0 0),(1000003,.ptr 2005 0 0),(1000004,.ptr 2004 0 0),(1000009,.fn (.func 364) [.rptr [.I v10.1],.rptr [.I v10.2]]),(0,.fn (.yield l17) []),(1,.rptr [.I v10.1]),(2,.rptr [.I v10.2]),(5,.I v10.1),(6,.I s12),(9,.fn (.yield l17) []),(16,.I v15)] [(2004,vR (.I 0) 1),(2005,vR (.I a1) 1),(2006,vR (.L g5.Pv a0) 1)]) ?_;refine AP J hR20 J J J J J J (λe26 o27 o28=>?_);refine S6 1 J ?_;refine⟨J,?_⟩;refine g9<|k9<|S3 2 J<|iL h J J bo cr λv16 hv29 h=>S2 3 J ?_;refine cN h (λhc h=>?_) λhc h=>?_
   .refine o5 ?_;refine e6<|mQ (by decide) ?_;refine⟨J,?_⟩;refine⟨_,uO [(1000002,.ptr 2006 0 0),(1000003,.ptr 2005 0 0),(1000004,.ptr 2004 0 0),(1000009,.fn (.func 364) [.rptr [.I v10.1],.rptr [.I v10.2]]),(0,.fn (.yield l17) []),(1,.rptr [.I v10.1]),(2,.rptr [.I v10.2]),(5,.I v10.1),(6,.I s12),(17,.bool false)] [(2004,vR (.I 0) 1),(2005,vR (.I a1) 1),(2006,vR (.L g5.Pv a0) 1)] ⟨J,J,J,J,J,J,J,J,J,J,J,J,J,J,J,J,J,J,J,J,J,J,J,J,J,J,J,J,J,J,tr⟩ ⟨rS,rS,rS,tr⟩,?_⟩;refine S8 1 J ?_;refine H3 true J (λ_=>?_) (λq=>nomatch q);refine c5 ?_;refine .inr ⟨.exit 0,J,ZK ?_⟩;refine l7 ?_;have h:=xL hx23 h;exact eJ h (WP (λl=>if l=2001 then 2004 else l))
   .refine c7 ?_;refine dr [] r9 (by kernel_rfl) (by kernel_rfl)<|S7 2 J<|d0 J (J5 (f:=g5.Pv) (cs:=g5.Pc v16) hv29 J J bo cr J J) J<|S7 4 J<|iR J (λhg=>oS J J J xU J) J<|bN J (λhg _ hN=>mI J) J ?_;refine iR J (λhg=>J5 (f:=g5.Pv) (cs:=g5.Pc v16) hv29 (ct hg) (ct hg) bo cr J J) J<|bN J (λhg _ hN=>aM (ct hg) KX J) J ?_;refine iR J (λhg=>W2 (ct hg) K1 J) J<|iR J (λhg=>oS J J J K1 J) J<|bN J (λhg _ hN=>B2 (ct hg) (ct hg) J) J<|d7 J (λ_ hN=>C7 J J J (λq=>jJ q)) J<|I6 ?_;refine cN h (λhc h=>?_) λhc h=>?_
    .refine S4 2 J ?_;refine c5 ?_;refine⟨J,?_⟩;refine⟨_,uO [(1000002,.ptr 2006 0 0),(1000003,.ptr 2005 0 0),(1000004,.ptr 2004 0 0),(1000009,.fn (.func 364) [.rptr [.I v10.1],.rptr [.I v10.2]]),(0,.fn (.yield l17) []),(1,.rptr [.I v10.1]),(2,.rptr [.I v10.2]),(5,.I v10.1),(6,.I s12),(17,.bool false)] [(2004,vR (.I v15) 1),(2005,vR (.I a1) 1),(2006,vR (.L g5.Pv a0) 1)] ⟨J,J,J,J,J,J,J,J,J,J,J,J,J,J,J,J,J,J,J,J,J,J,J,J,J,J,J,J,J,J,tr⟩ ⟨rS,rS,rS,tr⟩,?_⟩;refine S8 1 J ?_;refine H3 true J (λ_=>?_) (λq=>nomatch q);refine c5 ?_;refine .inr ⟨.ret,J,RQ ?_⟩;have h:=xL hx23 h;cases h;exact⟨J,[_],⟨oS J J J K1 J,tr⟩,J,io⟩
    .refine c7 ?_;refine⟨J,?_⟩;refine⟨_,uO [(1000002,.ptr 2006 0 0),(1000003,.ptr 2005 0 0),(1000004,.ptr 2004 0 0),(1000009,.fn (.func 364) [.rptr [.I v10.1],.rptr [.I v10.2]]),(0,.fn (.yield l17) []),(1,.rptr [.I v10.1]),(2,.rptr [.I v10.2]),(5,.I v10.1),(6,.I s12),(17,.bool true)] [(2004,vR (.I 0) 1),(2005,vR (.I a1) 1),(2006,vR (.L g5.Pv a0) 1)] ⟨J,J,J,J,J,J,J,J,J,J,J,J,J,J,J,J,J,J,J,J,J,J,J,J,J,J,J,J,J,J,tr⟩ ⟨rS,rS,rS,tr⟩,?_⟩;refine S8 1 J ?_;refine H3 false J (λq=>nomatch q) (λ_=>?_);refine c7<|S6 2 J ?_;exact eL h W
  .refine o5 ?_;refine e6<|e6<|l7 ?_;refine .inl ⟨J,?_⟩;have h:=xL hx23 h;exact eJ h (WP (λl=>if l=2001 then 2004 else l))
theorem kM{a0 a1}:PO Tryz.prog 326 [.L g5.Pv a0,.I a1] (Z5 a0 a1) λr=>.tup [.I r.1,.I r.2]:=by
 refine pO Tryz.func326 λr h _ _=>?_;refine S4 2 J<|S3 2 J<|cA h nb J J λv1 _ h=>S2 1 J<|k9<|S4 2 J ?_;refine cN h (λhc h=>?_) λhc h=>?_
 .refine S4 2 J ?_;refine c5 ?_;cases h;exact f2
 .refine c7 ?_;refine S3 2 J<|iL h J J bo cr λv2 _ h=>S2 4 J<|c5 ?_;cases h;exact f2
theorem cd{a0}:Qc Tryz.prog 355 [.L g5.Pv a0] (F4 a0) λr=>⟨List.map g5.Pv r,0,true,3,true⟩:=by
 refine Ul Tryz.func355 λr h _ _=>?_;unfold F4 at h;refine S4 1 J<|k9<|S3 1 J<|uP J bo λb hb=>yN ?_;refine H3 b J (λhc=>?_) (λhc=>?_)
 .obtain rfl:a0 = []:=by simpa using hb hc
  refine S4 1 J<|bW (E7 (t:=2) (l:=920000) (z:=3) J J)<|c5 ?_;cases h;exact⟨J,_,_,J,J,J,J⟩
 .refine c7 ?_;refine sR<|y0 J (dB J bo cr)<|S1 1 J<|y1 J (yW (f:=g5.Pv) h J J (.inl ⟨_,J,J⟩) bo cr II xn J (λ_=>J)) J<|S2 1 J<|c5 ?_;exact⟨J,_,_,J,J,J,J⟩
theorem nc{a0 a1 a2}:PO Tryz.prog 333 [.L g5.Pv a0,.I a1,g5.Pv a2] (eE a0 a1 a2) λr=>.L g5.Pv r:=by
 refine pO Tryz.func333 λr h _ _=>?_;unfold eE at h;refine S4 2 J<|S3 1 J<|w7 h λv1 hv1 h=>KI J (ib J cd J hv1) J J<|S2 1 J<|S3 3 J<|w7 h λv2 hv2 h=>y0 J (aY (f:=g5.Pv) hv2 J J J J bo cr J)<|ou (f:=g5.Pv) (v:=a2) hv2 J J (.inl J) cr<|yN<|S4 2 J<|c5 ?_;cases h;exact f1
theorem th{a0 a1}:PO Tryz.prog 291 [.L g5.Pv a0,.I a1] (ba a0 a1) λr=>.tup [.L g5.Pv r.1,.I r.2.1,.I r.2.2]:=by
 refine pO Tryz.func291 λr h _ _=>?_;refine S4 3 J<|S3 2 J<|cA h nb J J λv1 _ h=>S2 1 J<|k9<|S4 2 J ?_;refine cN h (λhc h=>?_) λhc h=>?_
 .refine S4 4 J ?_;refine c5 ?_;cases h;exact f3
 .refine c7 ?_;refine dr [] r9 (by kernel_rfl) (by kernel_rfl)<|S7 2 J<|d7 J (λ_ hN=>p6 (cs:=[.I 2,.I 0,.I 0]) J IS xn J J J) J<|w7 h λv2 hv2 h=>cY J (u4 J nc J hv2) J<|S7 2 J<|w7 h λv3 hv3 h=>d0 J (J5 (f:=g5.Pv) (cs:=g5.Pc v3) hv3 J J bo cr J J) J<|S8 5 J<|c5 ?_;cases h;exact f3
theorem Fs{a0 a1 a2}:PO Tryz.prog 351 [.L g5.Pv a0,.I a1,.I a2] (pb a0 a1 a2) λr=>.tup [.L g5.Pv r.1,.I r.2]:=by
 refine pO Tryz.func351 λr h _ _=>?_;refine S4 3 J<|S3 2 J<|y0 J (p6 (cs:=[.I 1,.I a1,.I a2]) J IS xn J J J)<|S2 2 J<|k9<|S3 2 J<|cA h nb J J λv1 _ h=>S2 1 J<|S4 2 J ?_;refine cN h (λhc h=>?_) λhc h=>?_
 .refine S3 3 J ?_;refine cF h nc J J λv2 _ h=>S2 2 J<|c5 ?_;cases h;exact⟨J,[_,_],⟨oS J J J xU J,⟨oS J J J uS J,tr⟩⟩,J,io⟩
 .refine c7 ?_;refine jq h (λ_=>St.of [(3,.ptr 2004 0 0),(6,.ptr 2003 0 0),(7,.ptr 2002 0 0)] [(2002,vR (.I 0) 1),(2003,vR (.nl) 1),(2004,vR (.L g5.Pv a0) 1)]) (λq12 h=>?_) λκ11 h=>?_
  .refine S4 3 J ?_;refine c5 ?_;cases h;exact⟨J,[_,_],⟨oS J J J xU J,⟨oS J J J uS J,tr⟩⟩,J,io⟩
  .refine S3 1 J ?_;refine nL J bo<|S1 1 J<|cF h tu J J λv13 _ h=>yN<|g9<|bW (sq (λl=>if l=2005 then 8 else if l=2006 then 7 else if l=2007 then 6 else if l=2008 then 3 else l) [(3,.ptr 2008 0 0),(6,.ptr 2007 0 0),(7,.ptr 2006 0 0),(8,.ptr 2005 0 0),(26,.fn (.func 364) [.rptr [.I v13.1],.rptr [.I v13.2]])] [(2005,vR (.agg [.I 1,.I a1,.I a2]) 3),(2006,vR (.I 0) 1),(2007,vR (.nl) 1),(2008,vR (.L g5.Pv a0) 1)]) ?_;refine bV (fn:=Tryz.f364) (N1:=20) J Tryz.func364 J J nl J IL J J (λl20 e21 o22 hR23=>?_);refine S4 2 J<|g9<|lq h (λs15=>St.of [(1000003,.ptr 2008 0 0),(1000006,.ptr 2007 0 0),(1000007,.ptr 2006 0 0),(1000008,.ptr 2005 0 0),(1000026,.fn (.func 364) [.rptr [.I v13.1],.rptr [.I v13.2]]),(0,.fn (.yield l20) []),(1,.rptr [.I v13.1]),(2,.rptr [.I v13.2]),(5,.I v13.1),(6,.I s15)] [(2005,vR (.agg [.I 1,.I a1,.I a2]) 3),(2006,vR (.I 0) 1),(2007,vR (.nl) 1),(2008,vR (.L g5.Pv a0) 1)]) W λs15 x16 h hx26=>S4 1 J<|k9 ?_;refine cN h (λhc h=>?_) λhc h=>?_
   .refine c7 ?_;refine k9<|g9<|S4 2 J<|Zd [] 8 r9 (by kernel_rfl) (by kernel_rfl) (by kernel_rfl) (by kernel_rfl) nl<|S7 3 J<|w7 h λv17 hv27 h=>d2 J (P4 J tp J hv27) J<|S7 3 J<|w7 h λv18 hv28 h=>d7 J (λ_ hN=>qY J J hv28) J<|I6<|DA (WE [(1000003,.ptr 2008 0 0),(1000006,.ptr 2007 0 0),(1000007,.ptr 2006 0 0),(1000008,.ptr 2005 0 0),(1000026,.fn (.func 364) [.rptr [.I v13.1],.rptr [.I v13.2]]),(0,.fn (.yield l20) []),(1,.rptr [.I v13.1]),(2,.rptr [.I v13.2]),(5,.I v13.1),(6,.I s15),(9,.fn (.yield l20) []),(16,.I v18)] [(2005,vR (.agg [.I 1,.I a1,.I a2]) 3),(2006,vR (.I 0) 1),(2007,vR (.nl) 1),(2008,vR (.L g5.Pv a0) 1)]) ?_;refine AP J hR23 J J J J J J (λe29 o30 o31=>?_);refine S6 1 J ?_;refine⟨J,?_⟩;refine g9<|S3 2 J<|iL h J J bo cr λv19 _ h=>S2 3 J ?_;refine cN h (λhc h=>?_) λhc h=>?_
    .refine S3 3 J ?_;refine cF h nc J J λv20 _ h=>S2 2 J<|c5 ?_;refine⟨J,?_⟩;refine⟨_,uO [(1000003,.ptr 2008 0 0),(1000006,.ptr 2007 0 0),(1000007,.ptr 2006 0 0),(1000008,.ptr 2005 0 0),(1000026,.fn (.func 364) [.rptr [.I v13.1],.rptr [.I v13.2]]),(0,.fn (.yield l20) []),(1,.rptr [.I v13.1]),(2,.rptr [.I v13.2]),(5,.I v13.1),(6,.I s15),(17,.bool false)] [(2005,vR (.agg [.I 1,.I a1,.I a2]) 3),(2006,vR (.I 0) 1),(2007,vR (.L g5.Pv v20) 1),(2008,vR (.L g5.Pv a0) 1)] ⟨J,J,J,J,J,J,J,J,J,J,J,J,J,J,J,J,J,J,J,J,J,J,J,J,J,J,J,J,J,J,J,J,J,tr⟩ ⟨rS,rS,rS,rS,tr⟩,?_⟩;refine S8 1 J ?_;refine H3 true J (λ_=>?_) (λq=>nomatch q);refine c5 ?_;refine .inr ⟨.ret,J,RQ ?_⟩;have h:=xL hx26 h;cases h;exact⟨J,[_,_],⟨oS J J J xU J,⟨oS J J J uS J,tr⟩⟩,J,io⟩
    .refine c7 ?_;refine⟨J,?_⟩;refine⟨_,uO [(1000003,.ptr 2008 0 0),(1000006,.ptr 2007 0 0),(1000007,.ptr 2006 0 0),(1000008,.ptr 2005 0 0),(1000026,.fn (.func 364) [.rptr [.I v13.1],.rptr [.I v13.2]]),(0,.fn (.yield l20) []),(1,.rptr [.I v13.1]),(2,.rptr [.I v13.2]),(5,.I v13.1),(6,.I s15),(17,.bool true)] [(2005,vR (.agg [.I 1,.I a1,.I a2]) 3),(2006,vR (.I 0) 1),(2007,vR (.nl) 1),(2008,vR (.L g5.Pv a0) 1)] ⟨J,J,J,J,J,J,J,J,J,J,J,J,J,J,J,J,J,J,J,J,J,J,J,J,J,J,J,J,J,J,J,J,J,tr⟩ ⟨rS,rS,rS,rS,tr⟩,?_⟩;refine S8 1 J ?_;refine H3 false J (λq=>nomatch q) (λ_=>?_);refine c7<|S6 2 J ?_;exact eL h W
   .refine o5 ?_;refine e6<|e6<|l7 ?_;refine .inl ⟨J,?_⟩;have h:=xL hx26 h;exact eJ h (WP (λl=>if l=2004 then 2008 else if l=2003 then 2007 else if l=2002 then 2006 else l))
theorem CQ{a0 a1 a2}:PO Tryz.prog 324 [.L g5.Pv a0,.I a1,.I a2] (V3 a0 a1 a2) λr=>.tup [.L g5.Pv r.1,.I r.2.1,.I r.2.2]:=by
 refine pO Tryz.func324 λr h _ _=>?_;refine S4 3 J<|k9<|S4 2 J ?_;refine cN h (λhc h=>?_) λhc h=>?_
 .refine S4 4 J ?_;refine c5 ?_;cases h;exact f3
 .refine c7 ?_;refine S3 2 J<|cA h kM J J λv1 _ h=>S2 5 J<|k9<|S4 2 J ?_;refine cN h (λhc h=>?_) λhc h=>?_
  .refine S3 2 J ?_;refine cF h th J J λv2 _ h=>S2 7 J<|S4 5 J<|c5 ?_;cases h;exact f3
  .refine c7 ?_;refine S3 3 J<|cF h Fs J J λv3 _ h=>S2 5 J<|k9<|S4 2 J ?_;refine cN h (λhc h=>?_) λhc h=>?_
   .refine S4 5 J ?_;refine c5 ?_;cases h;exact f3
   .refine c7 ?_;refine S4 5 J<|c5 ?_;cases h;exact f3
theorem ow{a0 a1}:PO Tryz.prog 325 [L6.Pv a0,b9.Pv a1] (aI a0 a1) λr=>b9.Pv r:=by
 refine pO Tryz.func325 λr h _ _=>?_;unfold aI at h;refine S4 3 J<|S4 4 J<|S4 2 J<|c5 ?_;cases h;exact⟨J,[_],⟨oL J J J u5 p8 nl J,tr⟩,J,io⟩
theorem dS{a0 a1 a2 a3}:PO Tryz.prog 320 [b9.Pv a0,.I a1,.I a2,.abs (TK 325 [L6.Pv a3])] (E2 a0 a1 a2 a3) λr=>b9.Pv r:=by
 refine pO Tryz.func320 λr h _ _=>?_;refine S4 2 J<|S3 3 J<|cF h fa J J λv1 _ h=>w7 h λv2 hv2 h=>Es (xs:=[b9.Pv v1]) J J QE J (ow.2 _ hv2)<|S1 1 J<|cF h aU J J λv3 _ h=>S2 1 J<|c5 ?_;cases h;exact⟨J,[_],⟨oL J J J u5 p8 nl J,tr⟩,J,io⟩
theorem De{a0 a1 a2}:PO Tryz.prog 284 [b9.Pv a0,.I a1,.I a2] (cy a0 a1 a2) λr=>.tup [b9.Pv r.1,.I r.2]:=by
 refine pO Tryz.func284 λr h _ _=>?_;refine S4 3 J<|k9<|S4 2 J ?_;refine cN h (λhc h=>?_) λhc h=>?_
 .refine S4 3 J ?_;refine c5 ?_;cases h;exact⟨J,[_,_],⟨oL J J J u5 p8 nl J,⟨J,tr⟩⟩,J,io⟩
 .refine c7 ?_;refine k9<|S3 2 J<|cA h Z7 J J λv1 _ h=>S1 2 J<|m8 J (λhg=>oL J J J u5 p8 nl J)<|m8 J (λhg=>mI J)<|w7 h λv2 hv2 h=>m8 J (λhg=>P4 J Z7 (T5 (ct hg) (T5 (ct hg) J)) (W3 hv2 hg))<|m8 J (λhg=>dA (ct hg) J)<|y0 J (I7 J J J (λq=>kr q))<|yN ?_;refine cN h (λhc h=>?_) λhc h=>?_
  .refine S4 3 J ?_;refine c5 ?_;cases h;exact⟨J,[_,_],⟨oL J J J u5 p8 nl J,⟨J,tr⟩⟩,J,io⟩
  .refine c7 ?_;refine S3 4 J<|cF h CQ J J λv3 _ h=>S2 7 J<|k9<|S4 2 J ?_;refine cN h (λhc h=>?_) λhc h=>?_
   .refine S4 4 J ?_;refine c5 ?_;cases h;exact⟨J,[_,_],⟨oL J J J u5 p8 nl J,⟨J,tr⟩⟩,J,io⟩
   .refine c7 ?_;refine S3 4 J<|y0 J (p6 (cs:=[.L g5.Pv v3.1]) J QW Rk J J J)<|y0 J (vA (d:=.agg [.L g5.Pv v3.1]) J)<|cF h dS J J λv4 _ h=>S2 2 J<|c5 ?_;cases h;exact⟨J,[_,_],⟨oL J J J u5 p8 nl J,⟨J,tr⟩⟩,J,io⟩
theorem ia{a0}:PO Tryz.prog 210 [s6.Pv a0] (bE a0) λr=>.tup [b9.Pv r.1,.I r.2]:=by
 refine pO Tryz.func210 λr h _ _=>?_;refine S4 3 J<|S3 5 J<|cA h V8 J J λv1 _ h=>S2 5 J<|k9<|S4 2 J ?_;refine cN h (λhc h=>?_) λhc h=>?_
 .refine S4 5 J ?_;refine c5 ?_;cases h;exact⟨J,[_,_],⟨oL J J J u5 p8 nl J,⟨J,tr⟩⟩,J,io⟩
 .refine c7 ?_;refine dr [] r9 (by kernel_rfl) (by kernel_rfl)<|S7 8 J<|w7 h λv2 hv2 h=>d2 J (P4 J Q6 J hv2) J<|w7 h λv3 hv3 h=>cY J (u4 J De J hv3) J<|S7 2 J<|C0 (x':=b9.Pv v3.1) (cl':=true) J J (.inr J) p8<|S8 1 J<|c5 ?_;cases h;exact⟨J,[_,_],⟨oL J J J u5 p8 nl J,⟨J,tr⟩⟩,J,io⟩
theorem CP{a0 a1}:PO Tryz.prog 285 [.L g5.Pv a0,.I a1] (va a0 a1) λr=>.tup [.I r.1,.I r.2]:=by
 refine pO Tryz.func285 λr h _ _=>?_;refine S4 2 J<|S3 2 J<|cA h kM J J λv1 _ h=>S2 4 J<|c5 ?_;cases h;exact f2
theorem iT{a0}:PO Tryz.prog 211 [s6.Pv a0] (cD a0) λr=>.tup [b9.Pv r.1,.I r.2]:=by
 refine pO Tryz.func211 λr h _ _=>?_;refine S4 3 J<|S3 5 J<|cA h V8 J J λv1 _ h=>S2 5 J<|k9<|S4 2 J ?_;refine cN h (λhc h=>?_) λhc h=>?_
 .refine S4 5 J ?_;refine c5 ?_;cases h;exact⟨J,[_,_],⟨oL J J J u5 p8 nl J,⟨J,tr⟩⟩,J,io⟩
 .refine c7 ?_;refine dr [] r9 (by kernel_rfl) (by kernel_rfl)<|S7 5 J<|w7 h λv2 hv2 h=>d2 J (P4 J CP J hv2) J<|S7 2 J<|w7 h λv3 hv3 h=>cY J (u4 J K2 J hv3) J<|S7 2 J<|C0 (x':=b9.Pv v3.1) (cl':=true) J J (.inr J) p8<|S8 1 J<|c5 ?_;cases h;exact⟨J,[_,_],⟨oL J J J u5 p8 nl J,⟨J,tr⟩⟩,J,io⟩
theorem fV{a0}:PO Tryz.prog 212 [s6.Pv a0] (T7 a0) λr=>.tup [b9.Pv r.1,.I r.2]:=by
 refine pO Tryz.func212 λr h _ _=>?_;unfold T7 at h;refine S4 3 J<|S4 4 J<|c5 ?_;cases h;exact⟨J,[_,_],⟨oL J J J u5 p8 nl J,⟨J,tr⟩⟩,J,io⟩
theorem HD{f:Fv}{a0:s6}{r:b9 × Int}(h:xw f a0=some r):∃n,f=some n/\A7 Tryz.prog n/\bm Tryz.prog n [s6.Pv a0] (.tup [b9.Pv r.1,.I r.2]):=by
 unfold xw at h;by_cases e203:f=some 203
 .rw[zb e203] at h;exact⟨203,e203,(@fh a0).1,(@fh a0).2 _ h⟩
 rw[za e203] at h;by_cases e204:f=some 204
 .rw[zb e204] at h;exact⟨204,e204,(@cU a0).1,(@cU a0).2 _ h⟩
 rw[za e204] at h;by_cases e205:f=some 205
 .rw[zb e205] at h;exact⟨205,e205,(@hU a0).1,(@hU a0).2 _ h⟩
 rw[za e205] at h;by_cases e206:f=some 206
 .rw[zb e206] at h;exact⟨206,e206,(@hZ a0).1,(@hZ a0).2 _ h⟩
 rw[za e206] at h;by_cases e207:f=some 207
 .rw[zb e207] at h;exact⟨207,e207,(@fW a0).1,(@fW a0).2 _ h⟩
 rw[za e207] at h;by_cases e208:f=some 208
 .rw[zb e208] at h;exact⟨208,e208,(@fi a0).1,(@fi a0).2 _ h⟩
 rw[za e208] at h;by_cases e209:f=some 209
 .rw[zb e209] at h;exact⟨209,e209,(@jR a0).1,(@jR a0).2 _ h⟩
 rw[za e209] at h;by_cases e210:f=some 210
 .rw[zb e210] at h;exact⟨210,e210,(@ia a0).1,(@ia a0).2 _ h⟩
 rw[za e210] at h;by_cases e211:f=some 211
 .rw[zb e211] at h;exact⟨211,e211,(@iT a0).1,(@iT a0).2 _ h⟩
 rw[za e211] at h;by_cases e212:f=some 212
 .rw[zb e212] at h;exact⟨212,e212,(@fV a0).1,(@fV a0).2 _ h⟩
 rw[za e212] at h;cases h
theorem lJ{a0}:PO Tryz.prog 233 [.I a0] (dt a0) λr=>.bool r:=by
 refine pO Tryz.func233 λr h _ _=>?_;unfold dt at h;refine S4 1 J<|S4 4 J<|c5 ?_;cases h;exact f1
theorem rv{a0 a1}:PO Tryz.prog 135 [.I a0,.I a1] (iw a0 a1) λr=>.I r:=by
 refine pO Tryz.func135 λr h _ _=>?_;refine S4 1 J<|S3 1 J<|cA h lJ J J λv1 _ h=>S2 1 J<|S3 1 J<|cA h lJ J J λv2 _ h=>S2 1 J<|k9<|S4 1 J ?_;refine cN h (λhc h=>?_) λhc h=>?_
 .refine k9 ?_;refine S4 1 J ?_;refine cN h (λhc h=>?_) λhc h=>?_
  .refine S4 1 J ?_;refine c5 ?_;cases h;exact f1
  .refine c7 ?_;refine S4 1 J<|c5 ?_;cases h;exact f1
 .refine c7 ?_;refine k9<|S4 1 J ?_;refine cN h (λhc h=>?_) λhc h=>?_
  .refine S4 1 J ?_;refine c5 ?_;cases h;exact f1
  .refine c7 ?_;refine k9<|S4 3 J ?_;refine cN h (λhc h=>?_) λhc h=>?_
   .refine S4 1 J ?_;refine c5 ?_;cases h;exact f1
   .refine c7 ?_;refine k9<|S4 3 J ?_;refine cN h (λhc h=>?_) λhc h=>?_
    .refine S4 1 J ?_;refine c5 ?_;cases h;exact f1
    .refine c7 ?_;refine S4 1 J<|c5 ?_;cases h;exact f1
theorem xe{a0 a1 a2}:PO Tryz.prog 134 [.I a0,.I a1,.rptr [.abs (U8 (List.map (cu iF iF) a2))]] (jl a0 a1 a2) λr=>.I r:=by
 refine pO Tryz.func134 λr h _ _=>?_;refine S4 1 J<|S3 2 J<|y0 J (BZ (es:=a2) (k:=a0) (E:=iF) (EK:=iF) (d:=.I ((A2 a2 a0).getD (0:Int))) J J xX (y5 I5) B9 J (NZ _ _ _))<|S1 2 J<|y0 J (BZ (es:=a2) (k:=a1) (E:=iF) (EK:=iF) (d:=.I ((A2 a2 a1).getD (0:Int))) J J xX (y5 I5) B9 J (NZ _ _ _))<|cA h rv J J λv1 _ h=>S2 1 J<|c5 ?_;cases h;exact f1
theorem O7{a0}:PO Tryz.prog 69 [b6.Pv a0] (F5 a0) λr=>.L iF r:=by
 refine pO Tryz.func69 λr h _ _=>?_;refine S4 2 J<|S4 1 J<|sR<|Cr (KT:=Int) (VT:=Int) (EK:=iF) (E:=iF) 5000008 J J<|S2 2 J ?_;refine jq h (λq=>St.of [(3,.sl 910003),(4,.ptr 4 0 0)] [(4,vS (.mp 5000008) 1),(5000008,⟨[.mapc (List.map (cu iF iF) q.1)],0,false,0,false⟩),(910003,⟨List.map iF q.2,0,true,1,true⟩)]) (λq20 h=>?_) λκ17 h=>?_
 .obtain⟨j18,j19⟩:=q20;refine S3 2 J<|O8 (Wk.trans (TG 5000008 nl J) (Xn 4 0 5000008 J J J J))<|w7 h λv21 hv12 h=>Xq hv12 J J Qy Xd J J J Qz J J J J J (λp q r h=>xe.2 r h)<|yN<|S4 2 J<|c5 ?_;cases h;exact f1
 .refine S3 3 J ?_;refine nL J T4<|S2 1 J<|g9<|lq h (λq=>St.of [(3,.sl 910003),(4,.ptr 4 0 0),(11,.L c8.Pv a0.S.b7),(12,.I (a0.S.b7.length:Int)),(13,.I q.1)] [(4,vS (.mp 5000008) 1),(5000008,⟨[.mapc (List.map (cu iF iF) q.2.1)],0,false,0,false⟩),(910003,⟨List.map iF q.2.2,0,true,1,true⟩)]) (Wk.trans (E7 (t:=3) (l:=920003) (z:=1) J J) (WP (λl=>if l=910003 then 920003 else l))) λq27 x26 h hx15=>?_;obtain⟨s23,s24,s25⟩:=q27;refine S4 1 J<|k9 ?_;refine cN h (λhc h=>?_) λhc h=>?_
  .refine c7 ?_;refine jq h (λq=>St.of [(3,.sl 33),(4,.ptr 4 0 0),(11,.L c8.Pv a0.S.b7),(12,.I (a0.S.b7.length:Int)),(13,.I s23)] [(4,vS (.mp 5000008) 1),(5000008,⟨[.mapc (List.map (cu iF iF) q.1)],0,false,0,false⟩),(33,⟨List.map iF q.2,0,true,1,true⟩)]) (λq34 h=>?_) λκ31 h=>?_
   .obtain⟨j32,j33⟩:=q34;refine S6 2 J ?_;exact eL h (WP (λl=>if l=910003 then 33 else l))
   .refine g9 ?_;refine S3 1 J<|iL h J J T4 V5 λv35 _ h=>S2 4 J<|S4 3 J ?_;refine cN h (λhc h=>?_) λhc h=>?_
    .refine S3 3 J ?_;refine cA h oY J J λv36 _ h=>S2 1 J<|S3 5 J<|ak (es:=s24) (k:=v36) (v:=v35.Val.Serial) (E:=iF) (EK:=iF) (.inl J) J J J J J J xX (y5 I5)<|yN<|S5 2 J<|y0 J (H6 (f:=iF) (l:=[v36]) J l6 o6 B9 J J nl J J)<|w7 h λv37 hv22 h=>Uv (f:=iF) (b:=8) [(4,.ptr 4 0 0),(11,.L c8.Pv a0.S.b7),(12,.I (a0.S.b7.length:Int)),(13,.I s23),(14,.bool (decide (s23<(a0.S.b7.length:Int)))),(15,.I s23),(16,.rptr (c8.Pc v35)),(17,c8.Pv v35),(6,.ptr 6 0 0),(5,.I s23),(18,.ptr 6 0 0),(19,.I v35.State),(20,.bool (v35.State==1)),(21,.I s23),(22,.ptr 6 0 1),(23,.I v35.Gen),(24,.I v36),(7,.I v36),(25,.mp 5000008),(26,.I v36),(27,.ptr 6 0 2),(28,.ptr 6 0 2),(29,.I v35.Val.Serial),(31,.I v36),(32,.lst true (List.map iF [v36]))] [(6,vR (c8.Pv v35) 8),(5000008,⟨[.mapc (List.map (cu iF iF) (p7 s24 v36 v35.Val.Serial))],0,false,0,false⟩),(4,vS (.mp 5000008) 1)] J hv22 ⟨J,J,J,J,J,J,J,J,J,J,J,J,J,J,J,J,J,J,J,J,J,J,J,J,J,J,J,J,J,J,J,J,J,J,J,J,J,J,J,J,J,J,J,J,J,J,J,J,J,J,J,J,J,J,J,J,J,J,J,J,J,J,J,J,J,J,J,J,J,J,J,J,J,J,J,tr⟩ ⟨rS,Y2 J J J (λq=>nomatch q) J J J J,Y2 J J J (λq=>nomatch q) J J J J,tr⟩ J J J J (.inl ⟨_,J,J⟩) l6 o6 Q0 B9 J (λ_=>J)<|S2 1 J ?_;exact eJ h W
    .refine c7 ?_;exact eJ h (WP (λl=>if l=33 then 910003 else l))
  .refine o5 ?_;refine e6<|e6<|l7 ?_;have h:=xL hx15 h;exact eJ h W
theorem Au{a0}:PO Tryz.prog 213 [b9.Pv a0] (eK a0) λr=>.L iF r:=by
 refine pO Tryz.func213 λr h _ _=>?_;refine S4 2 J<|S4 1 J ?_;refine jq h (λj16=>St.of [(3,.sl 910003)] [(910003,⟨List.map iF j16,(List.map iF j16).length,true,1,true⟩)]) (λj16 h=>?_) λκ15 h=>?_
 .refine S4 2 J ?_;refine c5 ?_;cases h;exact f1
 .refine S3 2 J ?_;refine cF h O7 J J λv17 _ h=>nL J l6<|S2 1 J<|g9<|lq h (λq=>St.of [(1,.ptr 1 0 0),(3,.sl 910003),(10,.L iF v17),(11,.I (v17.length:Int)),(12,.I q.1)] [(1,vR (b9.Pv a0) 8),(910003,⟨List.map iF q.2,(List.map iF q.2).length,true,1,true⟩)]) (Wk.trans (E7 (t:=3) (l:=920003) (z:=1) J J) (WP (λl=>if l=910003 then 920003 else l))) λq22 x21 h hx16=>?_;obtain⟨s19,s20⟩:=q22;refine S4 1 J<|k9 ?_;refine cN h (λhc h=>?_) λhc h=>?_
  .refine c7 ?_;refine jq h (λj27=>St.of [(1,.ptr 1 0 0),(3,.sl 29),(10,.L iF v17),(11,.I (v17.length:Int)),(12,.I s19)] [(29,⟨List.map iF j27,(List.map iF j27).length,true,1,true⟩),(1,vR (b9.Pv a0) 8)]) (λj27 h=>?_) λκ26 h=>?_
   .refine S6 2 J ?_;exact eL h (Wk.trans (m9 _ [29]) (WP (λl=>if l=910003 then 29 else l)))
   .refine g9 ?_;refine sR<|iL h J J l6 o6 λv28 _ h=>S2 2 J<|S3 3 J<|cF h D1 J J λv29 _ h=>S2 6 J<|S4 3 J ?_;refine cN h (λhc h=>?_) λhc h=>?_
    .refine S5 2 J ?_;refine y0 J (H6 (f:=iF) (l:=[v28]) J l6 o6 B9 J J nl J J)<|w7 h λv30 hv23 h=>J2 J (H0 (f:=iF) hv23 J J J J J J (.inl ⟨_,J,J⟩) l6 o6 Q0 B9 J (λ_=>J)) J J J<|S2 1 J ?_;exact eJ h (Wk.trans (m9 _ [29]) W)
    .refine c7 ?_;exact eJ h (Wk.trans (m9 _ [910003]) (WP (λl=>if l=29 then 910003 else l)))
  .refine o5 ?_;refine e6<|e6<|l7 ?_;have h:=xL hx16 h;exact eJ h (Wk.trans (m9 _ [910003]) W)
theorem ld{a0}:PO Tryz.prog 214 [n0.Pv a0] (P6 a0) λr=>.bool r:=by
 refine pO Tryz.func214 λr h _ _=>?_;unfold P6 at h;refine S4 2 J<|S3 4 J<|m8 J (λhg=>oF J Bv J)<|m8 J (λhg=>oS (ct hg) J J vZ J)<|m8 J (λhg=>dA (ct hg) J)<|y0 J (C7 J J J (λq=>jJ q))<|S2 1 J<|c5 ?_;cases h;exact f1
theorem mf{a0 a1}:PO Tryz.prog 287 [g7.Pv a0,g6.Pv a1] (W5 a0 a1) λr=>.tup [g7.Pv r.1,.I r.2]:=by
 refine pO Tryz.func287 λr h _ _=>?_;unfold W5 at h;refine S4 4 J<|k9<|dr [] r9 (by kernel_rfl) (by kernel_rfl)<|S7 1 J<|w7 h λv1 hv1 h=>d2 J (P4 J R4 J hv1) J<|S8 3 J ?_;refine cN h (λhc h=>?_) λhc h=>?_
 .refine S4 3 J ?_;refine c5 ?_;cases h;exact⟨J,[_,_],⟨oL J J J jE cW nl J,⟨J,tr⟩⟩,J,io⟩
 .refine c7 ?_;refine dr [] r9 (by kernel_rfl) (by kernel_rfl)<|S7 3 J<|d2 J (P4 J R4 J hv1) J<|w7 h λv2 hv2 h=>cY J (u4 J ah J hv2) J<|S7 1 J<|Vk J (H6 (f:=g6.Pv) (l:=[a1]) J I2 C8 aC J J nl J J) J<|w7 h λv3 hv3 h=>d3 J (yW (f:=g6.Pv) hv3 J J (.inl ⟨_,J,J⟩) I2 C8 mL aC J (λ_=>J)) J J J<|S7 1 J<|C0 (x':=.agg [.sl 19,.I a0.Cap]) (cl':=false) J J (.inl J) uU<|I6<|S4 3 J<|c5 ?_;cases h;exact⟨J,[_,_],⟨oL J J J jE cW nl J,⟨J,tr⟩⟩,J,io⟩
theorem wu{a0 a1}:PO Tryz.prog 220 [g7.Pv a0,g6.Pv a1] (pM a0 a1) λr=>.tup [g7.Pv r.1,.I r.2]:=by
 refine pO Tryz.func220 λr h _ _=>?_;refine S4 4 J<|S3 2 J<|cF h mf J J λv1 _ h=>S2 4 J<|c5 ?_;cases h;exact⟨J,[_,_],⟨oL J J J jE cW nl J,⟨J,tr⟩⟩,J,io⟩
theorem mq{a0 a1}:PO Tryz.prog 127 [b9.Pv a0,.I a1] (Y3 a0 a1) λr=>b9.Pv r:=by
 refine pO Tryz.func127 λr h _ _=>?_;refine S4 2 J<|S3 3 J<|cF h D1 J J λv1 _ h=>S2 6 J<|k9<|S3 3 J<|m8 J (λhg=>oL J J J sx kG nl J)<|w7 h λv2 hv2 h=>m8 J (λhg=>P4 J ld (T5 (ct hg) J) (W3 hv2 hg))<|m8 J (λhg=>dA (ct hg) J)<|y0 J (I7 J J J (λq=>kr q))<|yN ?_;refine cN h (λhc h=>?_) λhc h=>?_
 .refine S4 2 J ?_;refine c5 ?_;cases h;exact⟨J,[_],⟨oL J J J u5 p8 nl J,tr⟩,J,io⟩
 .refine c7 ?_;refine S4 2 J<|S3 4 J<|cF h cQ J J λv3 _ h=>S2 5 J<|S3 5 J<|y0 J (p6 (cs:=[.I 1,.I a1,.I v1.1.Prog]) J sz aC J J J)<|cF h wu J J λv4 _ h=>S2 5 J<|S3 2 J<|cF h fa J J λv5 _ h=>S2 1 J<|c5 ?_;cases h;exact⟨J,[_],⟨oL J J J u5 p8 nl J,tr⟩,J,io⟩
theorem qJ{a0 a1}:PO Tryz.prog 222 [b9.Pv a0,.L iF a1] (aj a0 a1) λr=>.L iF r:=by
 refine pO Tryz.func222 λr h _ _=>?_;refine S4 2 J<|sR<|Cr (KT:=Int) (VT:=Bool) (EK:=iF) (E:=PV.bool) 5000011 J J<|S2 1 J<|S4 1 J ?_;refine jq h (λj18=>St.of [(6,.sl 910006)] [(910006,⟨List.map iF j18,(List.map iF j18).length,true,1,true⟩)]) (λj18 h=>?_) λκ17 h=>?_
 .refine S4 2 J ?_;refine c5 ?_;cases h;exact f1
 .refine S3 1 J ?_;refine nL J l6<|S2 1 J<|g9<|lq h (λq=>St.of [(2,.ptr 2 0 0),(5,.mp 5000011),(6,.sl 910006),(12,.L iF a1),(13,.I (a1.length:Int)),(14,.I q.1)] [(5000011,⟨[.mapc (List.map (cu iF PV.bool) q.2.1)],0,false,0,false⟩),(2,vR (b9.Pv a0) 8),(910006,⟨List.map iF q.2.2,(List.map iF q.2.2).length,true,1,true⟩)]) (Wk.trans (E7 (t:=6) (l:=920006) (z:=1) J J) (WP (λl=>if l=910006 then 920006 else l))) λq24 x23 h hx16=>?_;obtain⟨s20,s21,s22⟩:=q24;refine S4 1 J<|k9 ?_;refine cN h (λhc h=>?_) λhc h=>?_
  .refine c7 ?_;refine jq h (λq=>St.of [(2,.ptr 2 0 0),(5,.mp 5000011),(6,.sl 38),(12,.L iF a1),(13,.I (a1.length:Int)),(14,.I s20)] [(38,⟨List.map iF q.1,(List.map iF q.1).length,true,1,true⟩),(5000011,⟨[.mapc (List.map (cu iF PV.bool) q.2)],0,false,0,false⟩),(2,vR (b9.Pv a0) 8)]) (λq31 h=>?_) λκ28 h=>?_
   .obtain⟨j29,j30⟩:=q31;refine S6 2 J ?_;exact eL h (Wk.trans (m9 _ [38]) (WP (λl=>if l=910006 then 38 else l)))
   .refine g9 ?_;refine sR<|iL h J J l6 o6 λv32 _ h=>S2 2 J<|S3 3 J<|cF h D1 J J λv33 _ h=>S2 6 J<|S3 3 J<|m8 J (λhg=>om (d:=.mp 5000011) J)<|m8 J (λhg=>mI J) ?_;rcases zau ((v33.2==0)==true) with hg24 | hg24
    .have h:=Uc h hg24;refine Cq (es:=s21) (k:=v32) (E:=PV.bool) (EK:=iF) (d:=.bool ((A2 s21 v32).getD (false:Bool))) (wd some hg24) (ct hg24) J (ct hg24) Q7 (y5 I5) sD J (NZ _ _ _)<|y0 (wd some hg24) (dA J J)<|y0 J (kZ J J hg24)<|yN ?_;refine cN h (λhc h=>?_) λhc h=>?_
     .refine S3 2 J ?_;refine ak (es:=s21) (k:=v32) (v:=true) (E:=PV.bool) (EK:=iF) (.inl J) J J J J J J Q7 (y5 I5)<|yN<|S5 2 J<|y0 J (H6 (f:=iF) (l:=[v32]) J l6 o6 B9 J J nl J J)<|w7 h λv34 hv25 h=>J2 J (H0 (f:=iF) hv25 J J J J J J (.inl ⟨_,J,J⟩) l6 o6 Q0 B9 J (λ_=>J)) J J J<|S2 1 J ?_;exact eJ h (Wk.trans (m9 _ [38]) W)
     .refine c7 ?_;exact eJ h (Wk.trans (m9 _ [910006]) (WP (λl=>if l=38 then 910006 else l)))
    .have h:=Ub h hg24;refine dj (wd some hg24)<|dj (wd some hg24)<|y0 J (nq J J hg24)<|yN ?_;refine H3 false J (λq=>nomatch q) (λ_=>?_);refine c7 ?_;exact eJ h (Wk.trans (m9 _ [910006]) (WP (λl=>if l=38 then 910006 else l)))
  .refine o5 ?_;refine e6<|e6<|l7 ?_;have h:=xL hx16 h;exact eJ h (Wk.trans (m9 _ [910006]) W)
theorem uz{a0 a1}:PO Tryz.prog 223 [b9.Pv a0,.L iF a1] (fK a0 a1) λr=>b9.Pv r:=by
 refine pO Tryz.func223 λr h _ _=>?_;refine S4 2 J<|S3 3 J<|cF h rm J J λv1 _ h=>S2 5 J<|S4 3 J ?_;refine jq h (λj11=>St.of [(2,.ptr 2 0 0),(4,.ptr 4 0 0)] [(4,vR (.agg [.nl,.I 0,.I 0,.nl,.nl,.nl,.nl,.I 0]) 8),(2,vR (.agg [.L c8.Pv a0.S.S.b7,.I a0.S.S.Last,.I a0.S.Serial,.L iF a0.Roots,.L j5.Pv v1.1,.L g5.Pv a0.T,.L g6.Pv j11.L,.I j11.Cap]) 8)]) (λj11 h=>?_) λκ10 h=>?_
 .refine S4 2 J ?_;refine c5 ?_;cases h;exact⟨J,[_],⟨oL J J J u5 p8 nl J,tr⟩,J,io⟩
 .refine S3 1 J ?_;refine nL J l6<|S2 1 J<|g9<|lq h (λq=>St.of [(2,.ptr 2 0 0),(4,.ptr 4 0 0),(5,.L j5.Pv v1.1),(18,.L iF v1.2),(19,.I (v1.2.length:Int)),(20,.I q.1)] [(4,vR (.agg [.nl,.I 0,.I 0,.nl,.nl,.nl,.nl,.I 0]) 8),(2,vR (.agg [.L c8.Pv a0.S.S.b7,.I a0.S.S.Last,.I a0.S.Serial,.L iF a0.Roots,.L j5.Pv v1.1,.L g5.Pv a0.T,.L g6.Pv q.2.L,.I q.2.Cap]) 8)]) W λq16 x15 h hx11=>?_;obtain⟨s13,s14⟩:=q16;refine S4 1 J<|k9 ?_;refine cN h (λhc h=>?_) λhc h=>?_
  .refine c7 ?_;refine k9<|g9<|sR<|iL h J J l6 o6 λv17 _ h=>S2 2 J<|vG [] r9 (by kernel_rfl) (by kernel_rfl)<|S7 5 J<|w7 h λv18 hv13 h=>d0 J (J5 (f:=j5.Pv) (cs:=j5.Pc v18) hv13 J J Q4 V4 J J) J<|S7 2 J<|d7 J (λ_ hN=>p6 (cs:=[.I 2,.I v17,.I v18.Call]) J sz aC J J J) J<|w7 h λv19 hv14 h=>cY J (u4 J wu J hv14) J<|S7 4 J<|C0 (x':=.agg [.L c8.Pv a0.S.S.b7,.I a0.S.S.Last,.I a0.S.Serial,.L iF a0.Roots,.L j5.Pv v1.1,.L g5.Pv a0.T,.L g6.Pv v19.1.L,.I v19.1.Cap]) (cl':=true) J J (.inr J) cW<|I6<|S6 2 J ?_;exact eL h W
  .refine o5 ?_;refine e6<|e6<|l7 ?_;have h:=xL hx11 h;exact eJ h W
theorem Ei{a0}:PO Tryz.prog 290 [.L iF a0] (qw a0) λr=>.fn (.func 331) [.rptr [.L iF r]]:=by
 refine pO Tryz.func290 λr h _ _=>?_;unfold qw at h;refine S4 2 J<|S4 2 J<|c5 ?_;cases h;exact f1
theorem uJ{a0}:PO Tryz.prog 225 [.L iF a0] (jD a0) λr=>.L iF r:=by
 refine pO Tryz.func225 λr h _ _=>?_;refine S4 1 J<|S4 1 J ?_;refine jq h (λj10=>St.of [(3,.ptr 2001 0 0)] [(2001,vS (.sl 912501) 1),(912501,⟨List.map iF j10,(List.map iF j10).length,true,1,true⟩)]) (λj10 h=>?_) λκ9 h=>?_
 .refine S4 2 J ?_;refine c5 ?_;cases h;exact f1
 .refine S3 1 J ?_;refine cF h Ei J J λv11 _ h=>yN<|g9<|bW (sq (λl=>if l=2011 then 3 else l) [(3,.ptr 2011 0 0),(6,.fn (.func 331) [.rptr [.L iF v11]])] [(2011,vR (.nl) 1)]) ?_;refine bV (fn:=Tryz.f331) (N1:=20) J Tryz.func331 J J nl J QF J J (λl17 e18 o19 hR20=>?_);refine S3 1 J<|nL J l6<|S2 1 J<|g9<|lq h (λq=>St.of [(1000003,.ptr 2011 0 0),(1000006,.fn (.func 331) [.rptr [.L iF v11]]),(0,.fn (.yield l17) []),(5,.L iF v11),(6,.I (v11.length:Int)),(7,.I q.1)] [(2011,vS (.sl 912511) 1),(912511,⟨List.map iF q.2,(List.map iF q.2).length,true,1,true⟩)]) (Wk.trans (qB (l0:=2011) (j:=0) (l:=922511) (z:=1) J J J J J) (WP (λl=>if l=912511 then 922511 else l))) λq16 x15 h hx23=>?_;obtain⟨s13,s14⟩:=q16;refine S4 1 J<|k9 ?_;refine cN h (λhc h=>?_) λhc h=>?_
  .refine c7 ?_;refine k9<|g9<|sR<|iL h J J l6 o6 λv17 _ h=>S2 2 J<|S3 3 J<|m8 J (λhg=>om (d:=.fn (.yield l17) []) J)<|m8 J (λhg=>mI J) ?_;rcases zau ((v17 != 0)==true) with hg25 | hg25
   .have h:=Uc h hg25;refine O8 (sq (λl=>if l=2019 then 912511 else l) [(1000003,.ptr 2011 0 0),(1000006,.fn (.func 331) [.rptr [.L iF v11]]),(0,.fn (.yield l17) []),(5,.L iF v11),(6,.I (v11.length:Int)),(7,.I s13),(13,.bool (v17 != 0)),(14,.fn (.yield l17) []),(15,.I v17)] [(2011,vS (.sl 2019) 1),(2019,⟨List.map iF s14,(List.map iF s14).length,true,1,true⟩)]) ?_;refine js hR20 (wd some hg25) J J J J J (λe26 o27 o28=>?_);refine S6 1 J ?_;refine⟨J,?_⟩;refine g9<|S5 2 J<|y0 J (H6 (f:=iF) (l:=[v17]) J l6 o6 B9 J J nl J J)<|w7 h λv18 hv29 h=>J2 J (H0 (f:=iF) hv29 J J J J J J (.inl ⟨_,J,J⟩) l6 o6 Q0 B9 J (λ_=>J)) J J J<|S2 1 J ?_;refine⟨J,?_⟩;refine O8 (sq (λl=>if l=2020 then 11 else l) [(1000003,.ptr 2011 0 0),(1000006,.fn (.func 331) [.rptr [.L iF v11]]),(0,.fn (.yield l17) []),(5,.L iF v11),(6,.I (v11.length:Int)),(7,.I s13),(13,.bool (v17 != 0)),(16,.bool true)] [(2011,vS (.sl 2020) 1),(2020,⟨List.map iF v18,s14.length,true,1,true⟩)])<|y0 (wd some hg25) (dA J J)<|y0 J (kZ J J hg25)<|yN ?_;refine H3 false J (λq=>nomatch q) (λ_=>?_);refine c7<|S6 2 J ?_;exact eL h (Wk.trans (m9 _ [2020]) (WP (λl=>if l=912511 then 2020 else l)))
   .have h:=Ub h hg25;refine dj (wd some hg25)<|dj (wd some hg25)<|y0 J (nq J J hg25)<|yN ?_;refine H3 false J (λq=>nomatch q) (λ_=>?_);refine c7<|S6 2 J ?_;exact eL h (Wk.trans (m9 _ [912511]) W)
  .refine o5 ?_;refine e6<|e6<|l7 ?_;refine .inl ⟨J,?_⟩;have h:=xL hx23 h;exact eJ h (Wk.trans (m9 _ [912511]) (WP (λl=>if l=2001 then 2011 else if l=912501 then 912511 else l)))
theorem vd{a0 a1}:PO Tryz.prog 226 [.L g5.Pv a0,.L iF a1] (aZ a0 a1) λr=>.tup [.L g5.Pv r.1,.L iF r.2]:=by
 refine pO Tryz.func226 λr h _ _=>?_;refine S4 2 J<|S4 1 J ?_;refine jq h (λq=>St.of [(0,.L g5.Pv q.1),(6,.sl 910006)] [(910006,⟨List.map iF q.2,(List.map iF q.2).length,true,1,true⟩)]) (λq20 h=>?_) λκ17 h=>?_
 .obtain⟨j18,j19⟩:=q20;refine S4 4 J<|c5 ?_;cases h;exact f2
 .refine S3 1 J ?_;refine nL J l6<|S2 1 J<|g9<|lq h (λq=>St.of [(0,.L g5.Pv q.1),(6,.sl 910006),(12,.L iF a1),(13,.I (a1.length:Int)),(14,.I q.2.1)] [(910006,⟨List.map iF q.2.2,(List.map iF q.2.2).length,true,1,true⟩)]) (Wk.trans (E7 (t:=6) (l:=920006) (z:=1) J J) (WP (λl=>if l=910006 then 920006 else l))) λq26 x25 h hx14=>?_;obtain⟨s22,s23,s24⟩:=q26;refine S4 1 J<|k9 ?_;refine cN h (λhc h=>?_) λhc h=>?_
  .refine c7 ?_;refine jq h (λq=>St.of [(0,.L g5.Pv q.1),(6,.sl 31),(12,.L iF a1),(13,.I (a1.length:Int)),(14,.I s23)] [(31,⟨List.map iF q.2,(List.map iF q.2).length,true,1,true⟩)]) (λq33 h=>?_) λκ30 h=>?_
   .obtain⟨j31,j32⟩:=q33;refine S6 2 J ?_;exact eL h (Wk.trans (m9 _ [31]) (WP (λl=>if l=910006 then 31 else l)))
   .refine g9 ?_;refine sR<|iL h J J l6 o6 λv34 _ h=>S2 2 J<|S3 2 J<|cF h th J J λv35 _ h=>S2 7 J<|S4 2 J ?_;refine cN h (λhc h=>?_) λhc h=>?_
    .refine S5 3 J ?_;refine y0 J (H6 (f:=iF) (l:=[v35.2.1]) J l6 o6 B9 J J nl J J)<|w7 h λv36 hv21 h=>J2 J (H0 (f:=iF) hv21 J J J J J J (.inl ⟨_,J,J⟩) l6 o6 Q0 B9 J (λ_=>J)) J J J<|S2 2 J ?_;exact eJ h (Wk.trans (m9 _ [31]) W)
    .refine c7 ?_;exact eJ h (Wk.trans (m9 _ [910006]) (WP (λl=>if l=31 then 910006 else l)))
  .refine o5 ?_;refine e6<|e6<|l7 ?_;have h:=xL hx14 h;exact eJ h (Wk.trans (m9 _ [910006]) W)
theorem nI{a0 a1}:PO Tryz.prog 292 [l4.Pv a0,.I a1] (Z0 a0 a1) λr=>.tup [l4.Pv r.1,.I r.2]:=by
 refine pO Tryz.func292 λr h _ _=>?_;refine S4 3 J<|S3 2 J<|cF h fZ J J λv1 _ h=>S2 6 J<|k9<|S4 2 J ?_;refine cN h (λhc h=>?_) λhc h=>?_
 .refine S4 4 J ?_;refine c5 ?_;cases h;exact⟨J,[_,_],⟨oL J J J iv eR nl J,⟨J,tr⟩⟩,J,io⟩
 .refine c7 ?_;refine dr [] r9 (by kernel_rfl) (by kernel_rfl)<|S7 2 J<|w7 h λv2 hv2 h=>d2 J (P4 J oZ J hv2) J<|S7 1 J<|w7 h λv3 hv3 h=>d2 J (P4 J qT J hv3) J<|S7 1 J<|d7 J (λ_ hN=>p6 (cs:=[.I 2,.I v3,.I v1.1.Serial,.I v1.1.Strong,.I v1.1.Weak,.I v1.1.Prog,.bool v1.1.Started,.L iF v1.1.Fields]) J xk pW J J J) J<|w7 h λv4 hv4 h=>cY J (u4 J M0 J hv4) J<|C0 (x':=l4.Pv v4) (cl':=true) J J (.inr J) eR<|S8 1 J<|c5 ?_;cases h;exact⟨J,[_,_],⟨oL J J J iv eR nl J,⟨J,tr⟩⟩,J,io⟩
theorem vN{a0 a1}:PO Tryz.prog 227 [b9.Pv a0,.I a1] (bh a0 a1) λr=>b9.Pv r:=by
 refine pO Tryz.func227 λr h _ _=>?_;refine S4 2 J<|S3 3 J<|cF h D1 J J λv1 _ h=>S2 6 J<|S3 1 J<|iX (x':=.agg [.I v1.1.Serial,.I v1.1.Strong,.I v1.1.Weak,.I v1.1.Prog,.bool v1.1.Started,.nl]) (cl':=true) J J (.inl J) aA<|S1 1 J<|iX (x':=.agg [.I v1.1.Serial,.I 0,.I v1.1.Weak,.I v1.1.Prog,.bool v1.1.Started,.nl]) (cl':=true) J J (.inl J) o6<|yN<|S3 4 J<|cF h cQ J J λv2 _ h=>S2 5 J<|S3 4 J<|cF h nI J J λv3 _ h=>S2 6 J<|k9<|S4 3 J ?_;refine cN h (λhc h=>?_) λhc h=>?_
 .refine S5 4 J ?_;refine cF h fM J J λv4 _ h=>S2 6 J<|S4 2 J<|c5 ?_;cases h;exact⟨J,[_],⟨oL J J J u5 p8 nl J,tr⟩,J,io⟩
 .refine c7 ?_;refine S4 2 J<|c5 ?_;cases h;exact⟨J,[_],⟨oL J J J u5 p8 nl J,tr⟩,J,io⟩
theorem pH{a0 a1}:PO Tryz.prog 128 [b9.Pv a0,.L iF a1] (ca a0 a1) λr=>b9.Pv r:=by
 refine pO Tryz.func128 λr h _ _=>?_;refine S4 2 J<|S3 2 J<|cF h qJ J J λv1 _ h=>S2 1 J<|S3 2 J<|cF h uz J J λv2 _ h=>S2 1 J<|S4 1 J<|S4 2 J ?_;refine jq h (λj13=>St.of [(2,.ptr 2 0 0),(4,.ptr 4 0 0),(5,.L iF v1),(6,.ptr 6 0 0),(7,.fn (.func 224) [.ptr 6 0 0])] [(6,vS (.sl 910506) 1),(910506,⟨List.map iF j13,(List.map iF j13).length,true,1,true⟩),(4,vR (.agg [.nl,.I 0,.I 0,.nl,.nl,.nl,.nl,.I 0]) 8),(2,vR (b9.Pv v2) 8)]) (λj13 h=>?_) λκ12 h=>?_
 .refine S3 3 J ?_;refine cF h vd J J λv14 _ h=>S2 5 J<|S3 2 J<|O8 (sq (λl=>if l=2025 then 6 else if l=2026 then 4 else if l=2027 then 2 else if l=2028 then 910506 else l) [(2,.ptr 2027 0 0),(4,.ptr 2026 0 0),(5,.L iF v1),(6,.ptr 2025 0 0),(12,.L g5.Pv v14.1),(51,.fn (.func 224) [.ptr 2025 0 0]),(52,.L iF v14.2)] [(2025,vS (.sl 2028) 1),(2028,⟨List.map iF j13,(List.map iF j13).length,true,1,true⟩),(2026,vR (.agg [.nl,.I 0,.I 0,.nl,.nl,.nl,.nl,.I 0]) 8),(2027,vR (b9.Pv v2) 8)]) ?_;refine uQ (fn:=Tryz.f224) (N1:=6) J J Tryz.func224 J IJ J J nl (λe14 o15=>?_);refine S5 2 J<|w7 h λv15 hv16 h=>J2 J (H0 (f:=iF) hv16 J J J J J J (.inl ⟨_,J,J⟩) l6 o6 Q0 B9 J (λ_=>J)) J J J<|S2 1 J ?_;refine⟨J,[],tr,?_⟩;refine O8 (sq (λl=>if l=2029 then 5 else l) [(2,.ptr 2027 0 0),(4,.ptr 2026 0 0),(5,.L iF v1),(6,.ptr 2025 0 0),(12,.L g5.Pv v14.1)] [(2025,vS (.sl 2029) 1),(2029,⟨List.map iF v15,j13.length,true,1,true⟩),(2026,vR (.agg [.nl,.I 0,.I 0,.nl,.nl,.nl,.nl,.I 0]) 8),(2027,vR (b9.Pv v2) 8)])<|yN<|S4 3 J ?_;refine jq h (λj24=>St.of [(2,.ptr 2027 0 0),(4,.ptr 2026 0 0),(6,.ptr 2025 0 0)] [(2025,vS (.sl 2029) 1),(2029,⟨List.map iF v15,j13.length,true,1,true⟩),(2026,vR (.agg [.nl,.I 0,.I 0,.nl,.nl,.nl,.nl,.I 0]) 8),(2027,vR (b9.Pv j24) 8)]) (λj24 h=>?_) λκ23 h=>?_
  .refine jq h (λj33=>St.of [(2,.ptr 2027 0 0),(4,.ptr 2026 0 0)] [(2026,vR (.agg [.nl,.I 0,.I 0,.nl,.nl,.nl,.nl,.I 0]) 8),(2027,vR (b9.Pv j33) 8)]) (λj33 h=>?_) λκ32 h=>?_
   .refine S4 2 J ?_;refine c5 ?_;cases h;exact⟨J,[_],⟨oL J J J u5 p8 nl J,tr⟩,J,io⟩
   .refine S3 1 J ?_;refine y0 J (JU (f:=iF) J J J l6)<|S2 1 J<|g9<|lq h (λq=>St.of [(2,.ptr 2027 0 0),(4,.ptr 2026 0 0),(66,.sl 2029),(67,.I (v15.length:Int)),(68,.I q.1)] [(2029,⟨List.map iF v15,j13.length,true,1,true⟩),(2026,vR (.agg [.nl,.I 0,.I 0,.nl,.nl,.nl,.nl,.I 0]) 8),(2027,vR (b9.Pv q.2) 8)]) W λq38 x37 h hx31=>?_;obtain⟨s35,s36⟩:=q38;refine S4 1 J<|k9 ?_;refine cN h (λhc h=>?_) λhc h=>?_
    .refine c7 ?_;refine k9<|g9<|sR<|w7 h λv39 hv32 h=>y0 J (aY (f:=iF) hv32 J J J J l6 o6 J)<|y0 J (FQ (f:=iF) hv32 J J J K1 J)<|S2 1 J<|S5 2 J<|cF h aU J J λv40 _ h=>S2 1 J<|S6 2 J ?_;exact eL h W
    .refine o5 ?_;refine e6<|e6<|l7 ?_;have h:=xL hx31 h;exact eJ h W
  .refine S3 1 J ?_;refine nL J l6<|S2 1 J<|g9<|lq h (λq=>St.of [(2,.ptr 2027 0 0),(4,.ptr 2026 0 0),(6,.ptr 2025 0 0),(56,.L iF v1),(57,.I (v1.length:Int)),(58,.I q.1)] [(2025,vS (.sl 2029) 1),(2029,⟨List.map iF v15,j13.length,true,1,true⟩),(2026,vR (.agg [.nl,.I 0,.I 0,.nl,.nl,.nl,.nl,.I 0]) 8),(2027,vR (b9.Pv q.2) 8)]) W λq45 x44 h hx36=>?_;obtain⟨s42,s43⟩:=q45;refine S4 1 J<|k9 ?_;refine cN h (λhc h=>?_) λhc h=>?_
   .refine c7 ?_;refine k9<|g9<|sR<|iL h J J l6 o6 λv46 _ h=>S2 2 J<|S5 2 J<|cF h vN J J λv47 _ h=>S2 1 J<|S6 2 J ?_;exact eL h W
   .refine o5 ?_;refine e6<|e6<|l7 ?_;have h:=xL hx36 h;exact eJ h W
 .refine S3 1 J ?_;refine nL J l6<|S2 1 J<|g9<|lq h (λq=>St.of [(2,.ptr 2 0 0),(4,.ptr 4 0 0),(5,.L iF v1),(6,.ptr 6 0 0),(7,.fn (.func 224) [.ptr 6 0 0]),(25,.L iF v1),(26,.I (v1.length:Int)),(27,.I q.1)] [(6,vS (.sl 910506) 1),(4,vR (.agg [.nl,.I 0,.I 0,.nl,.nl,.nl,.nl,.I 0]) 8),(2,vR (b9.Pv v2) 8),(910506,⟨List.map iF q.2,(List.map iF q.2).length,true,1,true⟩)]) (Wk.trans (qB (l0:=6) (j:=0) (l:=920506) (z:=1) J J J J J) (WP (λl=>if l=910506 then 920506 else l))) λq52 x51 h hx41=>?_;obtain⟨s49,s50⟩:=q52;refine S4 1 J<|k9 ?_;refine cN h (λhc h=>?_) λhc h=>?_
  .refine c7 ?_;refine k9<|g9<|sR<|iL h J J l6 o6 λv53 _ h=>S2 2 J<|S3 3 J<|cF h D1 J J λv54 _ h=>S2 6 J<|S5 3 J<|cF h uJ J J λv55 _ h=>O8 (sq (λl=>if l=2049 then 6 else if l=2050 then 4 else if l=2051 then 2 else if l=2052 then 910506 else l) [(2,.ptr 2051 0 0),(4,.ptr 2050 0 0),(5,.L iF v1),(6,.ptr 2049 0 0),(7,.fn (.func 224) [.ptr 2049 0 0]),(25,.L iF v1),(26,.I (v1.length:Int)),(27,.I s49),(38,.fn (.func 224) [.ptr 2049 0 0]),(41,.L iF v55)] [(2049,vS (.sl 2052) 1),(2052,⟨List.map iF s50,(List.map iF s50).length,true,1,true⟩),(2050,vR (.agg [.nl,.I 0,.I 0,.nl,.nl,.nl,.nl,.I 0]) 8),(2051,vR (b9.Pv v2) 8)]) ?_;refine uQ (fn:=Tryz.f224) (N1:=6) J J Tryz.func224 J IJ J J nl (λe45 o46=>?_);refine S5 2 J<|w7 h λv56 hv47 h=>J2 J (H0 (f:=iF) hv47 J J J J J J (.inl ⟨_,J,J⟩) l6 o6 Q0 B9 J (λ_=>J)) J J J<|S2 1 J ?_;refine⟨J,[],tr,?_⟩;refine O8 (sq (λl=>if l=2053 then 5 else l) [(2,.ptr 2051 0 0),(4,.ptr 2050 0 0),(5,.L iF v1),(6,.ptr 2049 0 0),(7,.fn (.func 224) [.ptr 2049 0 0]),(25,.L iF v1),(26,.I (v1.length:Int)),(27,.I s49)] [(2049,vS (.sl 2053) 1),(2053,⟨List.map iF v56,s50.length,true,1,true⟩),(2050,vR (.agg [.nl,.I 0,.I 0,.nl,.nl,.nl,.nl,.I 0]) 8),(2051,vR (b9.Pv v2) 8)])<|yN<|S6 2 J ?_;exact eL h (Wk.trans (m9 _ [2053]) (WP (λl=>if l=2 then 2051 else if l=4 then 2050 else if l=6 then 2049 else if l=910506 then 2053 else l)))
  .refine o5 ?_;refine e6<|e6<|l7 ?_;have h:=xL hx41 h;exact eJ h (Wk.trans (m9 _ [910506]) W)
theorem cP{a0}:PO Tryz.prog 124 [b9.Pv a0] (R8 a0) λr=>b9.Pv r:=by
 refine pO Tryz.func124 λr h _ _=>?_;refine S4 2 J<|lqS h (λs2=>St.of [(1,.ptr 1 0 0),(2,.ptr 2 0 0)] [(2,vR (.agg [.nl,.I 0,.I 0,.nl,.nl,.nl,.nl,.I 0]) 8),(1,vR (b9.Pv s2) 8)]) W λs2 x3 h hx3=>S3 1 J<|cF h Au J J λv4 _ h=>S2 1 J<|k9<|S3 1 J<|nL J l6<|S2 1 J ?_;refine cN h (λhc h=>?_) λhc h=>?_
 .refine S4 2 J ?_;refine c5 ?_;have h:=xL hx3 h;cases h;exact⟨J,[_],⟨oL J J J u5 p8 nl J,tr⟩,J,io⟩
 .refine c7 ?_;refine k9<|dr [] r9 (by kernel_rfl) (by kernel_rfl)<|S7 3 J<|w7 h λv5 hv5 h=>d0 J (J5 (f:=iF) (cs:=[.I v5]) hv5 J J l6 o6 J J) J<|S7 1 J<|w7 h λv6 hv6 h=>cY J (u4 J D1 J hv6) J<|S7 4 J<|C0 (x':=n0.Pv v6.1) (cl':=true) J J (.inr J) kG<|S8 1 J<|S3 1 J<|cA h ld J J λv7 _ h=>yN ?_;refine cN h (λhc h=>?_) λhc h=>?_
  .refine vG [] r9 (by kernel_rfl) (by kernel_rfl) ?_;refine S7 2 J<|d0 J (J5 (f:=iF) (cs:=[.I v5]) hv5 J J l6 o6 J J) J<|S7 1 J<|w7 h λv8 hv8 h=>cY J (u4 J mq J hv8) J<|C0 (x':=b9.Pv v8) (cl':=true) J J (.inr J) p8<|I6<|Kf ?_;exact eS h W
  .refine vG [] r9 (by kernel_rfl) (by kernel_rfl) ?_;refine S7 2 J<|w7 h λv9 hv9 h=>d0 J (Wm (f:=iF) hv9 J J ⟨_,J⟩ l6 o6 (λ_=>J)) J<|w7 h λv10 hv10 h=>cY J (u4 J pH J hv10) J<|C0 (x':=b9.Pv v10) (cl':=true) J J (.inr J) p8<|I6<|Kf ?_;exact eS h W
theorem kQ{a0 a1}:PO Tryz.prog 70 [b9.Pv a0,.I a1] (bS a0 a1) λr=>.I r:=by
 refine pO Tryz.func70 λr h _ _=>?_;refine S4 2 J<|S3 3 J<|cF h D1 J J λv1 _ h=>S2 6 J<|S4 3 J<|c5 ?_;cases h;exact f1
theorem lA{a0 a1}:PO Tryz.prog 215 [b9.Pv a0,.I a1] (dV a0 a1) λr=>.I r:=by
 refine pO Tryz.func215 λr h _ _=>?_;unfold dV at h;refine S4 2 J<|dr [] r9 (by kernel_rfl) (by kernel_rfl)<|S7 3 J<|w7 h λv1 hv1 h=>d2 J (P4 J Q6 J hv1) J<|w7 h λv2 hv2 h=>d2 J (P4 J kQ J hv2) J<|S8 1 J<|c5 ?_;cases h;exact f1
theorem tM{a0 a1 a2}:PO Tryz.prog 125 [b9.Pv a0,b9.Pv a1,k8.Pv a2] (Z9 a0 a1 a2) λr=>.I r:=by
 refine pO Tryz.func125 λr h _ _=>?_;refine S4 4 J<|k9<|S4 2 J<|g9<|S4 2 J ?_;refine cN h (λhc h=>?_) λhc h=>?_
 .refine S3 3 J ?_;refine cA h lA J J λv1 _ h=>S2 1 J<|c5 ?_;cases h;exact f1
 .refine jq h (λj3=>St.of [(3,.ptr 3 0 0),(4,.ptr 4 0 0),(5,.ptr 5 0 0),(8,.I a2.Kind),(15,.bool j3)] [(5,vR (k8.Pv a2) 4),(4,vR (b9.Pv a1) 8),(3,vR (b9.Pv a0) 8)]) (λj3 h=>?_) λκ2 h=>?_
  .refine cN h (λhc h=>?_) λhc h=>?_
   .refine S3 3 J ?_;refine cA h lA J J λv4 _ h=>S2 1 J<|c5 ?_;cases h;exact f1
   .refine S4 2 J ?_;refine cN h (λhc h=>?_) λhc h=>?_
    .refine k9 ?_;refine dr [] r9 (by kernel_rfl) (by kernel_rfl)<|S7 3 J<|w7 h λv5 hv4 h=>d2 J (P4 J Q6 J hv4) J<|S7 3 J<|w7 h λv6 hv5 h=>d2 J (P4 J Q6 J hv5) J<|S8 1 J ?_;refine cN h (λhc h=>?_) λhc h=>?_
     .refine S4 1 J ?_;refine c5 ?_;cases h;exact f1
     .refine c7 ?_;refine S4 1 J<|c5 ?_;cases h;exact f1
    .refine c7 ?_;refine S3 3 J<|cA h lA J J λv7 _ h=>S2 1 J<|c5 ?_;cases h;exact f1
  .refine S4 2 J ?_;refine cN h (λhc h=>?_) λhc h=>?_
   .refine c7 ?_;exact eJ h W
   .refine S6 2 J ?_;exact eJ h W
theorem qW{a0 a1}:PO Tryz.prog 65 [b9.Pv a0,k8.Pv a1] (u6 a0 a1) λr=>.tup [b9.Pv r.1,.I r.2.1,.I r.2.2]:=by
 refine pO Tryz.func65 λr h _ _=>?_;refine S4 5 J<|k9<|S3 1 J<|cA h ll J J λv1 _ h=>S2 1 J<|S4 2 J ?_;refine cN h (λhc h=>?_) λhc h=>?_
 .refine S4 5 J ?_;refine c5 ?_;cases h;exact⟨J,[_,_,_],⟨oL J J J u5 p8 nl J,⟨J,⟨J,tr⟩⟩⟩,J,io⟩
 .refine c7 ?_;refine dr [] r9 (by kernel_rfl) (by kernel_rfl)<|w7 h λv2 hv2 h=>cY J (u4 J vn J hv2) J<|S7 2 J<|d4 J (YA (es:=v2) (k:=a1.Kind) (E:=tf) (EK:=iF) (d:=.tup [tf ((A2 v2 a1.Kind).getD (none:Fv)),.bool ((A2 v2 a1.Kind).isSome)]) J J bJ (y5 I5) Rf J (lk2 _ _ _)) J<|S8 5 J<|k9<|S4 2 J ?_;refine cN h (λhc h=>?_) λhc h=>?_
  .refine S4 4 J ?_;refine c5 ?_;cases h;exact⟨J,[_,_,_],⟨oL J J J u5 p8 nl J,⟨J,⟨J,tr⟩⟩⟩,J,io⟩
  .refine c7 ?_;refine S3 3 J<|y0 J (p6 (cs:=[.L c8.Pv a0.S.S.b7,.I a0.S.S.Last,.I a0.S.Serial,.L iF a0.Roots,.L j5.Pv a0.b7,.L g5.Pv a0.T,.L g6.Pv a0.Q.L,.I a0.Q.Cap,.I a1.Kind,.I a1.A,.I a1.B,.I a1.C]) J QS Rg J J J) ?_;obtain⟨v3,hv3,h⟩:=qM h;obtain⟨n4,he4,hk5,hp6⟩:=HD hv3;refine O8 (Us 30 J he4)<|yc J (Dv J hk5 J hp6)<|S2 6 J<|k9<|S4 2 J ?_;refine cN h (λhc h=>?_) λhc h=>?_
   .refine S4 5 J ?_;refine c5 ?_;cases h;exact⟨J,[_,_,_],⟨oL J J J u5 p8 nl J,⟨J,⟨J,tr⟩⟩⟩,J,io⟩
   .refine c7 ?_;refine S3 1 J<|cF h cP J J λv5 _ h=>S2 2 J<|dr [] r9 (by kernel_rfl) (by kernel_rfl)<|S7 4 J<|w7 h λv6 hv8 h=>d2 J (P4 J tM J hv8) J<|C0 (x':=b9.Pv v5) (cl':=true) J J (.inr J) p8<|S8 2 J<|c5 ?_;cases h;exact⟨J,[_,_,_],⟨oL J J J u5 p8 nl J,⟨J,⟨J,tr⟩⟩⟩,J,io⟩
theorem Bm{a0}:PO Tryz.prog 376 [b6.Pv a0] (nA a0) λr=>.fn (.func 381) [.rptr (b6.Pc r)]:=by
 refine pO Tryz.func376 λr h _ _=>?_;unfold nA at h;refine S4 2 J<|S4 2 J<|c5 ?_;cases h;exact f1
theorem wq{a0 a1}:PO Tryz.prog 368 [b6.Pv a0,.I a1] (mi a0 a1) λr=>.L iF r:=by
 refine pO Tryz.func368 λr h _ _=>?_;refine S4 2 J<|S3 2 J<|cF h D1 J J λv1 _ h=>S2 6 J<|S3 2 J<|cF h uJ J J λv2 _ h=>S2 1 J<|c5 ?_;cases h;exact f1
end Go.Proofs.YtmgbbnfgfmfgaaaGreat.Ok
