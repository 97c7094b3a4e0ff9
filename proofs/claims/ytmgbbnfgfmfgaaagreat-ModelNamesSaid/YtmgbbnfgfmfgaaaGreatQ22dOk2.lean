/- A part. -/
import Derived.Test.YtmgbbnfgfmfgaaaGreatQ22dOk1
set_option linter.unusedVariables false
set_option linter.unusedSimpArgs false
set_option linter.unusedSectionVars false
namespace Go.Proofs.YtmgbbnfgfmfgaaaGreat.Ok
open Go Go.Pw Go.Sh Go.Proofs
set_option maxRecDepth 100000
set_option maxHeartbeats 4000000
theorem qT{a0 a1}:PO Tryz.prog 175 [j5.Pv a0,.I a1] (aA a0 a1) λr=>.bool r:=by
 refine pO Tryz.func175 λr h _ _=>?_;refine S4 3 J ?_;refine jq h (λ_=>St.of [(4,.ptr 2001 0 0)] [(2001,vR (.bool false) 1)]) (λq7 h=>?_) λκ6 h=>?_
 .refine S4 1 J ?_;refine c5 ?_;cases h;exact⟨J,[_],⟨oS J J J qx J,tr⟩,J,io⟩
 .refine S3 1 J ?_;refine cF h yY J J λv8 _ h=>yN<|k8<|bK (rR (λl=>if l=2003 then 4 else if l=2004 then 3 else l) [(3,.ptr 2004 0 0),(4,.ptr 2003 0 0),(7,.fn (.func 277) [.rptr (j5.Pc v8.1),.rptr [.I v8.2]])] [(2003,vR (.bool false) 1),(2004,vR (.I a1) 1)]) ?_;refine bJ (fn:=Tryz.f277) (N1:=24) J Tryz.func277 J J nl J HF J J (λl16 e17 o18 hR19=>?_);refine S3 2 J<|nL J H9<|S2 1 J<|k8<|lq h (λs10=>St.of [(1000003,.ptr 2004 0 0),(1000004,.ptr 2003 0 0),(1000007,.fn (.func 277) [.rptr (j5.Pc v8.1),.rptr [.I v8.2]]),(0,.fn (.yield l16) []),(2,.rptr [.I v8.2]),(7,.L e6.Pv v8.1.L),(8,.I (v8.1.L.length:Int)),(9,.I s10)] [(2003,vR (.bool false) 1),(2004,vR (.I a1) 1)]) W λs10 x11 h hx22=>S4 1 J<|k9 ?_;refine cN h (λhc h=>?_) λhc h=>?_
  .refine c7 ?_;refine k9<|k8<|sR<|iL h J J H9 C3 λv12 _ h=>S2 3 J<|S3 5 J<|m9 J (λhg=>om (d:=.fn (.yield l16) []) J)<|m9 J (λhg=>oL J J J bS C3 nl J) ?_;rcases zaz ((v12.Kind==v8.2)==true) with hg24 | hg24
   .have h:=Sy h hg24;refine N9 (WE [(1000003,.ptr 2004 0 0),(1000004,.ptr 2003 0 0),(1000007,.fn (.func 277) [.rptr (j5.Pc v8.1),.rptr [.I v8.2]]),(0,.fn (.yield l16) []),(2,.rptr [.I v8.2]),(7,.L e6.Pv v8.1.L),(8,.I (v8.1.L.length:Int)),(9,.I s10),(17,.bool (v12.Kind==v8.2)),(18,.fn (.yield l16) []),(19,e6.Pv v12)] [(2003,vR (.bool false) 1),(2004,vR (.I a1) 1)]) ?_;refine iX hR19 (zX some hg24) J J J J J (λe25 o26 o27=>?_);refine S6 2 J ?_;refine⟨J,?_⟩;refine k8<|S4 4 J ?_;refine cN h (λhc h=>?_) λhc h=>?_
    .refine S4 1 J ?_;refine c5 ?_;refine⟨J,?_⟩;refine N9 (WE [(1000003,.ptr 2004 0 0),(1000004,.ptr 2003 0 0),(1000007,.fn (.func 277) [.rptr (j5.Pc v8.1),.rptr [.I v8.2]]),(0,.fn (.yield l16) []),(2,.rptr [.I v8.2]),(7,.L e6.Pv v8.1.L),(8,.I (v8.1.L.length:Int)),(9,.I s10),(17,.bool (v12.Kind==v8.2)),(20,.bool false)] [(2003,vR (.bool true) 1),(2004,vR (.I a1) 1)])<|y0 (zX some hg24) (dT J J)<|y0 J (kI J J hg24)<|yN ?_;refine G5 true J (λ_=>?_) (λq=>nomatch q);refine c5 ?_;refine .inr ⟨.ret,J,Qx ?_⟩;have h:=xL hx22 h;cases h;exact⟨J,[_],⟨oS J J J qx J,tr⟩,J,io⟩
    .refine c7 ?_;refine⟨J,?_⟩;refine N9 (WE [(1000003,.ptr 2004 0 0),(1000004,.ptr 2003 0 0),(1000007,.fn (.func 277) [.rptr (j5.Pc v8.1),.rptr [.I v8.2]]),(0,.fn (.yield l16) []),(2,.rptr [.I v8.2]),(7,.L e6.Pv v8.1.L),(8,.I (v8.1.L.length:Int)),(9,.I s10),(17,.bool (v12.Kind==v8.2)),(20,.bool true)] [(2003,vR (.bool false) 1),(2004,vR (.I a1) 1)])<|y0 (zX some hg24) (dT J J)<|y0 J (kI J J hg24)<|yN ?_;refine G5 false J (λq=>nomatch q) (λ_=>?_);refine c7<|S6 2 J ?_;exact eL h W
   .have h:=Sx h hg24;refine cR (zX some hg24)<|cR (zX some hg24)<|y0 J (nb J J hg24)<|yN ?_;refine G5 false J (λq=>nomatch q) (λ_=>?_);refine c7<|S6 2 J ?_;exact eL h W
  .refine o6 ?_;refine g6<|g6<|l7 ?_;refine .inl ⟨J,?_⟩;have h:=xL hx22 h;exact eJ h (WP (λl=>if l=2001 then 2003 else l))
theorem wb{a0 a1}:PO Tryz.prog 272 [.L k7.Pv a0,.I a1] (jT a0 a1) λr=>.bool r:=by
 refine pO Tryz.func272 λr h _ _=>?_;unfold jT at h;refine S4 1 J<|S3 3 J<|m9 J (λhg=>mI J)<|m9 J (λhg=>om (d:=.L k7.Pv a0) J)<|m9 J (λhg=>bI (f:=k7.Pv) (ct hg) T7)<|m9 J (λhg=>D7 (ct hg) (ct hg) J)<|y0 J (D1 J J J (λq=>kp q))<|S2 1 J<|c5 ?_;cases h;exact f1
theorem wa{a0 a1 a2 a3}:PO Tryz.prog 176 [.L k7.Pv a0,.I a1,.I a2,.I a3] (jS a0 a1 a2 a3) λr=>.tup [.L k7.Pv r.1,.I r.2.1,.I r.2.2]:=by
 refine pO Tryz.func176 λr h _ _=>?_;refine S4 3 J<|k9<|S3 2 J<|cA h wb J J λv1 _ h=>S2 1 J ?_;refine cN h (λhc h=>?_) λhc h=>?_
 .refine S4 4 J ?_;refine c5 ?_;cases h;exact f3
 .refine c7 ?_;refine S3 1 J<|y4 h λv2 hv2 h=>JF J (gT J nR J hv2) J J<|S2 1 J<|S3 6 J<|y0 J (p6 (cs:=[.I a2,.bool (a2 != 0),.I a3]) J Pr Ca J J J)<|y4 h λv3 hv3 h=>y0 J (aJ (f:=k7.Pv) hv3 J J J J T7 X5 J)<|nU (f:=k7.Pv) (v:=(⟨a2,(a2 != 0),a3⟩:k7)) hv3 J J (.inl J) X5<|yN<|dr [] s6 (by kernel_rfl) (by kernel_rfl)<|S7 3 J<|y4 h λv4 hv4 h=>d0 J (O6 (f:=k7.Pv) (cs:=k7.Pc v4) hv4 J J T7 X5 J J) J<|S8 5 J<|c5 ?_;cases h;exact f3
theorem tJ{a0 a1 a2}:PO Tryz.prog 93 [a8.Pv a0,.I a1,g8.Pv a2] (fg a0 a1 a2) λr=>.tup [a8.Pv r.1,.I r.2]:=by
 refine pO Tryz.func93 λr h _ _=>?_;refine S4 4 J<|k9<|S3 4 J<|m9 J (λhg=>mI J)<|m9 J (λhg=>D7 (ct hg) J J)<|y0 J (D1 J J J (λq=>kp q))<|yN ?_;refine cN h (λhc h=>?_) λhc h=>?_
 .refine S4 3 J ?_;refine c5 ?_;cases h;exact⟨J,[_,_],⟨oL J J J z8 u9 nl J,⟨J,tr⟩⟩,J,io⟩
 .refine c7 ?_;refine k9<|dr [] s6 (by kernel_rfl) (by kernel_rfl)<|S7 1 J<|y4 h λv1 hv1 h=>eE J (u7 J cm J hv1) J<|S7 2 J<|y4 h λv2 hv2 h=>d2 J (S9 J qT J hv2) J<|K5 ?_;refine cN h (λhc h=>?_) λhc h=>?_
  .refine S4 3 J ?_;refine c5 ?_;cases h;exact⟨J,[_,_],⟨oL J J J z8 u9 nl J,⟨J,tr⟩⟩,J,io⟩
  .refine c7 ?_;refine S3 7 J<|cF h wa J J λv3 _ h=>S2 7 J<|k9<|S4 2 J ?_;refine cN h (λhc h=>?_) λhc h=>?_
   .refine S4 4 J ?_;refine c5 ?_;cases h;exact⟨J,[_,_],⟨oL J J J z8 u9 nl J,⟨J,tr⟩⟩,J,io⟩
   .refine c7 ?_;refine S4 3 J<|S3 2 J<|cF h kG J J λv4 _ h=>S2 2 J<|c5 ?_;cases h;exact⟨J,[_,_],⟨oL J J J z8 u9 nl J,⟨J,tr⟩⟩,J,io⟩
theorem fh{a0 a1 a2}:PO Tryz.prog 90 [a8.Pv a0,.I a1,g8.Pv a2,.fn (.func 93) []] (I1 a0 a1 a2) λr=>.tup [a8.Pv r.1,g9.Pv r.2]:=by
 refine pO Tryz.func90 λr h _ _=>?_;refine S4 4 J<|S3 4 J<|cF h tJ J J λv1 _ h=>S2 6 J<|k9<|S4 2 J ?_;refine cN h (λhc h=>?_) λhc h=>?_
 .refine S3 2 J ?_;refine y0 J (p6 (cs:=[.I 0,.I v1.2]) J aY T8 J J J)<|S2 2 J<|c5 ?_;cases h;exact⟨J,[_,_],⟨oL J J J z8 u9 nl J,⟨oL J J J G7 A7 nl J,tr⟩⟩,J,io⟩
 .refine c7 ?_;refine S3 1 J<|cF h M7 J J λv2 _ h=>S1 1 J<|y0 J (p6 (cs:=[.I a1,.I 0]) J aY T8 J J J)<|S2 2 J<|c5 ?_;cases h;exact⟨J,[_,_],⟨oL J J J z8 u9 nl J,⟨oL J J J G7 A7 nl J,tr⟩⟩,J,io⟩
theorem tH{a0 a1}:PO Tryz.prog 177 [g7.Pv a0,.rptr (b8.Pc a1)] (fe a0 a1) λr=>.bool r:=by
 refine pO Tryz.func177 λr h _ _=>?_;unfold fe at h;refine S4 2 J<|S4 6 J<|c5 ?_;cases h;exact f1
theorem Z7{a0 a1}:OP Tryz.prog 163 [.L g7.Pv a0,.fn (.func 177) [.rptr (b8.Pc a1)]] (C8 a0 a1) λr=>⟨List.map g7.Pv r,(List.map g7.Pv r).length,true,2,true⟩:=by
 refine SH Tryz.func163 λr h _ _=>?_;refine S4 1 J<|S4 1 J ?_;refine jq h (λj15=>St.of [(5,.sl 910005)] [(910005,⟨List.map g7.Pv j15,(List.map g7.Pv j15).length,true,2,true⟩)]) (λj15 h=>?_) λκ14 h=>?_
 .refine S4 2 J ?_;refine bK (m8 _ [910005])<|c5 ?_;cases h;exact⟨J,_,_,J,J,J,J⟩
 .refine S3 1 J ?_;refine nL J L9<|S2 1 J<|k8<|lq h (λq=>St.of [(1,.fn (.func 177) [.rptr (b8.Pc a1)]),(5,.sl 910005),(8,.L g7.Pv a0),(9,.I (a0.length:Int)),(10,.I q.1)] [(910005,⟨List.map g7.Pv q.2,(List.map g7.Pv q.2).length,true,2,true⟩)]) (Wk.trans (F8 (t:=5) (l:=920005) (z:=2) J J) (WP (λl=>if l=910005 then 920005 else l))) λq20 x19 h hx14=>?_;obtain⟨s17,s18⟩:=q20;refine S4 1 J<|k9 ?_;refine cN h (λhc h=>?_) λhc h=>?_
  .refine c7 ?_;refine jq h (λj25=>St.of [(1,.fn (.func 177) [.rptr (b8.Pc a1)]),(5,.sl 20),(8,.L g7.Pv a0),(9,.I (a0.length:Int)),(10,.I s17)] [(20,⟨List.map g7.Pv j25,(List.map g7.Pv j25).length,true,2,true⟩)]) (λj25 h=>?_) λκ24 h=>?_
   .refine S6 2 J ?_;exact eL h (Wk.trans (m8 _ [20]) (WP (λl=>if l=910005 then 20 else l)))
   .refine k8 ?_;refine sR<|iL h J J L9 T3 λv26 _ h=>S2 3 J<|S3 2 J<|cA h tH J J λv27 _ h=>yN ?_;refine cN h (λhc h=>?_) λhc h=>?_
    .refine S5 2 J ?_;refine y0 J (I3 (f:=g7.Pv) (l:=[v26]) J L9 T3 ah J J nl J J)<|y4 h λv28 hv21 h=>I7 J (I2 (f:=g7.Pv) hv21 J J J J J J (.inl ⟨_,J,J⟩) L9 T3 pF ah J (λ_=>J)) J J J<|S2 1 J ?_;exact eJ h (Wk.trans (m8 _ [20]) W)
    .refine c7 ?_;exact eJ h (Wk.trans (m8 _ [910005]) (WP (λl=>if l=20 then 910005 else l)))
  .refine o6 ?_;refine g6<|g6<|l7 ?_;have h:=xL hx14 h;exact eJ h (Wk.trans (m8 _ [910005]) W)
theorem wz{a0 a1 a2}:PO Tryz.prog 94 [a8.Pv a0,.I a1,g8.Pv a2] (iM a0 a1 a2) λr=>.tup [a8.Pv r.1,.I r.2]:=by
 refine pO Tryz.func94 λr h _ _=>?_;refine S4 4 J<|S3 3 J<|cF h dq J J λv1 _ h=>S2 6 J<|k9<|S4 2 J ?_;refine cN h (λhc h=>?_) λhc h=>?_
 .refine S4 4 J ?_;refine c5 ?_;cases h;exact⟨J,[_,_],⟨oL J J J z8 u9 nl J,⟨J,tr⟩⟩,J,io⟩
 .refine c7 ?_;refine S3 3 J<|y4 h λv2 hv2 h=>JF J (gT J Z7 J hv2) J J<|S2 1 J<|k9<|S4 2 J ?_;refine cN h (λhc h=>?_) λhc h=>?_
  .refine S4 3 J ?_;refine S4 3 J<|c5 ?_;cases h;exact⟨J,[_,_],⟨oL J J J z8 u9 nl J,⟨J,tr⟩⟩,J,io⟩
  .refine c7 ?_;refine k9<|S3 1 J<|y0 J (IQ (f:=g7.Pv) J J J L9)<|S2 3 J ?_;refine cN h (λhc h=>?_) λhc h=>?_
   .refine S4 3 J ?_;refine c5 ?_;cases h;exact⟨J,[_,_],⟨oL J J J z8 u9 nl J,⟨J,tr⟩⟩,J,io⟩
   .refine c7 ?_;refine S3 2 J<|cF h gz J J λv3 _ h=>S2 1 J<|S3 4 J<|y0 J (p6 (cs:=[.I v1.1.Serial,.I a1]) J BZ ah J J J)<|y0 J (I3 (f:=g7.Pv) (l:=[(⟨v1.1.Serial,a1⟩:g7)]) J L9 T3 ah J J nl J J)<|y4 h λv4 hv4 h=>I7 J (I2 (f:=g7.Pv) hv4 J J J J J J (.inl ⟨_,J,J⟩) L9 T3 pF ah J (λ_=>J)) J J J<|S2 2 J<|S4 3 J<|c5 ?_;cases h;exact⟨J,[_,_],⟨oL J J J z8 u9 nl J,⟨J,tr⟩⟩,J,io⟩
theorem fU{a0 a1 a2}:PO Tryz.prog 90 [a8.Pv a0,.I a1,g8.Pv a2,.fn (.func 94) []] (J4 a0 a1 a2) λr=>.tup [a8.Pv r.1,g9.Pv r.2]:=by
 refine pO Tryz.func90 λr h _ _=>?_;refine S4 4 J<|S3 4 J<|cF h wz J J λv1 _ h=>S2 6 J<|k9<|S4 2 J ?_;refine cN h (λhc h=>?_) λhc h=>?_
 .refine S3 2 J ?_;refine y0 J (p6 (cs:=[.I 0,.I v1.2]) J aY T8 J J J)<|S2 2 J<|c5 ?_;cases h;exact⟨J,[_,_],⟨oL J J J z8 u9 nl J,⟨oL J J J G7 A7 nl J,tr⟩⟩,J,io⟩
 .refine c7 ?_;refine S3 1 J<|cF h M7 J J λv2 _ h=>S1 1 J<|y0 J (p6 (cs:=[.I a1,.I 0]) J aY T8 J J J)<|S2 2 J<|c5 ?_;cases h;exact⟨J,[_,_],⟨oL J J J z8 u9 nl J,⟨oL J J J G7 A7 nl J,tr⟩⟩,J,io⟩
theorem Ae{a0}:PO Tryz.prog 178 [.I a0] (qg a0) λr=>.tup [.L iF r.1,.I r.2]:=by
 refine pO Tryz.func178 λr h _ _=>?_;refine S4 2 J<|k9<|S3 3 J<|m9 J (λhg=>mI J)<|m9 J (λhg=>D7 (ct hg) J J)<|y0 J (P5 J J J (λq=>pM q))<|yN ?_;refine cN h (λhc h=>?_) λhc h=>?_
 .refine S4 2 J ?_;refine c5 ?_;cases h;exact f2
 .refine c7 ?_;refine S3 1 J<|y4 h λv1 hv1 h=>y1 J (AJ (f:=iF) hv1 J J J l6 o5 B6 P2 J J J) J<|S2 2 J<|c5 ?_;cases h;exact f2
theorem nM{a0 a1 a2}:PO Tryz.prog 97 [a8.Pv a0,.I a1,.I a2] (au a0 a1 a2) λr=>.tup [a8.Pv r.1,g9.Pv r.2]:=by
 refine pO Tryz.func97 λr h _ _=>?_;refine S4 3 J<|S3 3 J<|cF h iu J J λv1 _ h=>cF h M7 J J λv2 _ h=>S2 1 J<|dr [2,4,5,1003] s6 (by kernel_rfl) (by kernel_rfl)<|S7 2 J<|d7 J (λ_ hN=>tK hN J J J J mh J) J<|S7 1 J<|y4 h λv3 hv3 h=>d7 J (λ_ hN=>O6 (f:=iF) (cs:=[.I v3]) hv3 J J l6 o5 J J) J<|d7 J (λ_ hN=>U9 J K2 J) J<|d7 J (λ_ hN=>p6 (cs:=[.I v3,.I 0]) J aY T8 J J J) J<|C9 (x':=a8.Pv v2) (cl':=true) J J (.inr J) u9<|C9 (x':=.agg [.I v3,.I 0]) (cl':=true) J J (.inl J) A7<|K5<|c5 ?_;cases h;exact⟨J,[_,_],⟨oL J J J z8 u9 nl J,⟨oL J J J G7 A7 nl J,tr⟩⟩,J,io⟩
theorem vc{a0 a1}:PO Tryz.prog 95 [a8.Pv a0,g8.Pv a1] (cY a0 a1) λr=>.tup [a8.Pv r.1,g9.Pv r.2]:=by
 refine pO Tryz.func95 λr h _ _=>?_;refine S4 4 J<|S3 2 J<|cF h Ae J J λv1 _ h=>S2 5 J<|k9<|S4 2 J ?_;refine cN h (λhc h=>?_) λhc h=>?_
 .refine S3 2 J ?_;refine y0 J (p6 (cs:=[.I 0,.I v1.2]) J aY T8 J J J)<|S2 2 J<|c5 ?_;cases h;exact⟨J,[_,_],⟨oL J J J z8 u9 nl J,⟨oL J J J G7 A7 nl J,tr⟩⟩,J,io⟩
 .refine c7 ?_;refine S3 2 J<|cA h dX J J λv2 _ h=>S2 1 J<|k9<|S4 2 J ?_;refine cN h (λhc h=>?_) λhc h=>?_
  .refine S3 1 J ?_;refine y0 J (p6 (cs:=[.I 0,.I 4]) J aY T8 J J J)<|S2 2 J<|c5 ?_;cases h;exact⟨J,[_,_],⟨oL J J J z8 u9 nl J,⟨oL J J J G7 A7 nl J,tr⟩⟩,J,io⟩
  .refine c7 ?_;refine S4 5 J<|S3 2 J<|y4 h λv3 hv3 h=>JF J (gT J I6 J hv3) J J<|S2 2 J<|S3 5 J<|y4 h λv4 hv4 h=>y0 J (aJ (f:=iF) hv4 J J J J l6 o5 J)<|nU (f:=iF) (v:=w7 (a0.Serial+1)) hv4 J J (.inl J) o5<|yN<|dr [] s6 (by kernel_rfl) (by kernel_rfl)<|S7 2 J<|y4 h λv5 hv5 h=>XG J (gT J A9 J hv5) J J J<|S7 6 J<|d7 J (λ_ hN=>p6 (cs:=[.I (w7 (a0.Serial+1)),.I v2,.I a1.C,.bool false,.bool true,.bool false,.L iF v1.1]) J HJ ae J J J) J<|VU J (I3 (f:=b8.Pv) (l:=[(⟨w7 (a0.Serial+1),v2,a1.C,false,true,false,v1.1⟩:b8)]) J A6 u6 ae J J nl J J) J<|y4 h λv6 hv6 h=>Yp J (I2 (f:=b8.Pv) hv6 J J J J J J (.inl ⟨_,J,J⟩) A6 u6 ml ae J (λ_=>J)) J J J J J<|S7 1 J<|C9 (x':=.agg [.sl 52,.sl 33,.L iF a0.Gens,.I a0.Last,.I a0.Places,.I (w7 (a0.Serial+1)),.L iF a0.Roots,.L k7.Pv a0.b7,.L g7.Pv a0.Pairs,.L e6.Pv a0.Tasks,.L (Ls g8.Pv) a0.Progs]) (cl':=false) J J (.inl J) Te<|K5<|S3 5 J<|y4 h λv7 hv7 h=>JE J (u7 J nM J hv7) J<|S2 4 J<|c5 ?_;cases h;exact⟨J,[_,_],⟨oL J J J z8 u9 nl J,⟨oL J J J G7 A7 nl J,tr⟩⟩,J,io⟩
theorem BR{a0 a1}:PO Tryz.prog 182 [.L iF a0,.I a1] (iB a0 a1) λr=>.tup [.I r.1,.I r.2]:=by
 refine pO Tryz.func182 λr h _ _=>?_;refine S4 2 J<|k9<|S3 2 J<|cA h Af J J λv1 _ h=>S2 1 J ?_;refine cN h (λhc h=>?_) λhc h=>?_
 .refine S4 2 J ?_;refine c5 ?_;cases h;exact f2
 .refine c7 ?_;refine S3 2 J<|iL h J J l6 o5 λv2 _ h=>S2 3 J<|c5 ?_;cases h;exact f2
theorem uw{a0 a1}:PO Tryz.prog 183 [.L k7.Pv a0,.I a1] (cy a0 a1) λr=>.tup [.I r.1,.I r.2]:=by
 refine pO Tryz.func183 λr h _ _=>?_;refine S4 2 J<|k9<|S3 2 J<|cA h wb J J λv1 _ h=>S2 1 J ?_;refine cN h (λhc h=>?_) λhc h=>?_
 .refine S4 2 J ?_;refine c5 ?_;cases h;exact f2
 .refine c7 ?_;refine k9<|S3 2 J<|iL h J J T7 X5 λv2 hv2 h=>S1 4 J<|m9 J (λhg=>om (d:=.L k7.Pv a0) J)<|m9 J (λhg=>mI J)<|m9 J (λhg=>O6 (f:=k7.Pv) (cs:=k7.Pc v2) hv2 (ct hg) (ct hg) T7 X5 J J)<|m9 J (λhg=>aw (ct hg) JK J)<|m9 J (λhg=>U9 (ct hg) qx J)<|m9 J (λhg=>dT (ct hg) J)<|y0 J (P5 J J J (λq=>pM q))<|yN ?_;refine cN h (λhc h=>?_) λhc h=>?_
  .refine S4 2 J ?_;refine c5 ?_;cases h;exact f2
  .refine c7 ?_;refine S3 2 J<|y0 J (O6 (f:=k7.Pv) (cs:=k7.Pc v2) hv2 J J T7 X5 J J)<|S2 4 J<|c5 ?_;cases h;exact f2
theorem yr{a0 a1}:PO Tryz.prog 96 [a8.Pv a0,g8.Pv a1] (bG a0 a1) λr=>.tup [.I r.1,.I r.2]:=by
 refine pO Tryz.func96 λr h _ _=>?_;refine S4 4 J<|k9<|S4 2 J<|k8<|S4 2 J ?_;refine cN h (λhc h=>?_) λhc h=>?_
 .refine S3 4 J ?_;refine iL h J J l6 o5 λv1 _ h=>S2 3 J<|c5 ?_;cases h;exact f2
 .refine S4 2 J ?_;refine cN h (λhc h=>?_) λhc h=>?_
  .refine S3 3 J ?_;refine cF h dq J J λv2 _ h=>S2 6 J<|k9<|S4 2 J ?_;refine cN h (λhc h=>?_) λhc h=>?_
   .refine S4 3 J ?_;refine c5 ?_;cases h;exact f2
   .refine c7 ?_;refine S3 4 J<|cA h BR J J λv3 _ h=>S2 4 J<|c5 ?_;cases h;exact f2
  .refine S4 2 J ?_;refine cN h (λhc h=>?_) λhc h=>?_
   .refine S3 4 J ?_;refine cA h uw J J λv4 _ h=>S2 4 J<|c5 ?_;cases h;exact f2
   .refine S4 2 J ?_;refine cN h (λhc h=>?_) λhc h=>?_
    .refine S3 3 J ?_;refine cF h dq J J λv5 _ h=>S2 6 J<|k9<|S4 2 J ?_;refine cN h (λhc h=>?_) λhc h=>?_
     .refine S4 3 J ?_;refine c5 ?_;cases h;exact f2
     .refine c7 ?_;refine k9<|S3 3 J<|cF h kH J J λv6 _ h=>S2 1 J<|S3 1 J<|nL J l6<|S2 1 J ?_;refine cN h (λhc h=>?_) λhc h=>?_
      .refine S3 1 J ?_;refine iL h J J l6 o5 λv7 _ h=>S2 3 J<|c5 ?_;cases h;exact f2
      .refine c7 ?_;refine S4 2 J<|c5 ?_;cases h;exact f2
    .refine c7 ?_;refine S4 2 J<|c5 ?_;cases h;exact f2
theorem qM{a0 a1}:PO Tryz.prog 53 [a8.Pv a0,g8.Pv a1] (bH a0 a1) λr=>.tup [a8.Pv r.1,g9.Pv r.2]:=by
 refine pO Tryz.func53 λr h _ _=>?_;refine S4 4 J<|k9<|S4 2 J<|k8<|S4 2 J ?_;refine cN h (λhc h=>?_) λhc h=>?_
 .refine k9 ?_;refine dr [] s6 (by kernel_rfl) (by kernel_rfl)<|S7 4 J<|y4 h λv1 hv1 h=>d0 J (O6 (f:=iF) (cs:=[.I v1]) hv1 J J l6 o5 J J) J<|S7 5 J<|y4 h λv2 hv2 h=>d0 J (O6 (f:=iF) (cs:=[.I v2]) hv2 J J l6 o5 J J) J<|S8 2 J ?_;refine cN h (λhc h=>?_) λhc h=>?_
  .refine S3 1 J ?_;refine y0 J (p6 (cs:=[.I 1,.I 0]) J aY T8 J J J)<|S2 2 J<|c5 ?_;cases h;exact⟨J,[_,_],⟨oL J J J z8 u9 nl J,⟨oL J J J G7 A7 nl J,tr⟩⟩,J,io⟩
  .refine c7 ?_;refine S3 1 J<|y0 J (p6 (cs:=[.I 0,.I 0]) J aY T8 J J J)<|S2 2 J<|c5 ?_;cases h;exact⟨J,[_,_],⟨oL J J J z8 u9 nl J,⟨oL J J J G7 A7 nl J,tr⟩⟩,J,io⟩
 .refine S4 2 J ?_;refine cN h (λhc h=>?_) λhc h=>?_
  .refine dr [] s6 (by kernel_rfl) (by kernel_rfl) ?_;refine S7 4 J<|y4 h λv3 hv3 h=>d2 J (S9 J da J hv3) J<|S7 1 J<|y4 h λv4 hv4 h=>eE J (u7 J fV J hv4) J<|S7 2 J<|C9 (x':=a8.Pv v4.1) (cl':=true) J J (.inr J) u9<|C9 (x':=g9.Pv v4.2) (cl':=true) J J (.inl J) A7<|K5<|c5 ?_;cases h;exact⟨J,[_,_],⟨oL J J J z8 u9 nl J,⟨oL J J J G7 A7 nl J,tr⟩⟩,J,io⟩
  .refine S4 2 J ?_;refine cN h (λhc h=>?_) λhc h=>?_
   .refine dr [] s6 (by kernel_rfl) (by kernel_rfl) ?_;refine S7 4 J<|y4 h λv5 hv5 h=>d2 J (S9 J da J hv5) J<|S7 1 J<|y4 h λv6 hv6 h=>eE J (u7 J fh J hv6) J<|S7 2 J<|C9 (x':=a8.Pv v6.1) (cl':=true) J J (.inr J) u9<|C9 (x':=g9.Pv v6.2) (cl':=true) J J (.inl J) A7<|K5<|c5 ?_;cases h;exact⟨J,[_,_],⟨oL J J J z8 u9 nl J,⟨oL J J J G7 A7 nl J,tr⟩⟩,J,io⟩
   .refine S4 2 J ?_;refine cN h (λhc h=>?_) λhc h=>?_
    .refine dr [] s6 (by kernel_rfl) (by kernel_rfl) ?_;refine S7 4 J<|y4 h λv7 hv7 h=>d2 J (S9 J da J hv7) J<|S7 1 J<|y4 h λv8 hv8 h=>eE J (u7 J fU J hv8) J<|S7 2 J<|C9 (x':=a8.Pv v8.1) (cl':=true) J J (.inr J) u9<|C9 (x':=g9.Pv v8.2) (cl':=true) J J (.inl J) A7<|K5<|c5 ?_;cases h;exact⟨J,[_,_],⟨oL J J J z8 u9 nl J,⟨oL J J J G7 A7 nl J,tr⟩⟩,J,io⟩
    .refine S4 2 J ?_;refine cN h (λhc h=>?_) λhc h=>?_
     .refine S3 2 J ?_;refine cF h vc J J λv9 _ h=>S2 4 J<|c5 ?_;cases h;exact⟨J,[_,_],⟨oL J J J z8 u9 nl J,⟨oL J J J G7 A7 nl J,tr⟩⟩,J,io⟩
     .refine c7 ?_;refine S3 2 J<|cA h yr J J λv10 _ h=>S2 5 J<|k9<|S4 2 J ?_;refine cN h (λhc h=>?_) λhc h=>?_
      .refine S3 2 J ?_;refine y0 J (p6 (cs:=[.I 0,.I v10.2]) J aY T8 J J J)<|S2 2 J<|c5 ?_;cases h;exact⟨J,[_,_],⟨oL J J J z8 u9 nl J,⟨oL J J J G7 A7 nl J,tr⟩⟩,J,io⟩
      .refine c7 ?_;refine S3 4 J<|cF h nM J J λv11 _ h=>S2 4 J<|c5 ?_;cases h;exact⟨J,[_,_],⟨oL J J J z8 u9 nl J,⟨oL J J J G7 A7 nl J,tr⟩⟩,J,io⟩
theorem CL{a0 a1}:PO Tryz.prog 171 [a8.Pv a0,.L g8.Pv a1] (ja a0 a1) λr=>a8.Pv r:=by
 refine pO Tryz.func171 λr h _ _=>?_;refine S4 2 J ?_;refine jq h (λj9=>St.of [(2,.ptr 2 0 0),(4,.ptr 4 0 0)] [(4,vR (.agg [.nl,.nl,.nl,.I 0,.I 0,.I 0,.nl,.nl,.nl,.nl,.nl]) 11),(2,vR (a8.Pv j9) 11)]) (λj9 h=>?_) λκ8 h=>?_
 .refine S4 2 J ?_;refine c5 ?_;cases h;exact⟨J,[_],⟨oL J J J z8 u9 nl J,tr⟩,J,io⟩
 .refine S3 1 J ?_;refine nL J gp<|S2 1 J<|k8<|lq h (λq=>St.of [(2,.ptr 2 0 0),(4,.ptr 4 0 0),(7,.L g8.Pv a1),(8,.I (a1.length:Int)),(9,.I q.1)] [(4,vR (.agg [.nl,.nl,.nl,.I 0,.I 0,.I 0,.nl,.nl,.nl,.nl,.nl]) 11),(2,vR (a8.Pv q.2) 11)]) W λq14 x13 h hx9=>?_;obtain⟨s11,s12⟩:=q14;refine S4 1 J<|k9 ?_;refine cN h (λhc h=>?_) λhc h=>?_
  .refine c7 ?_;refine k9<|k8<|sR<|iL h J J gp iI λv15 _ h=>S2 3 J<|S5 2 J<|cF h qM J J λv16 _ h=>S2 4 J<|S6 2 J ?_;exact eL h W
  .refine o6 ?_;refine g6<|g6<|l7 ?_;have h:=xL hx9 h;exact eJ h W
theorem vg{a0 a1}:PO Tryz.prog 89 [a8.Pv a0,e6.Pv a1] (db a0 a1) λr=>a8.Pv r:=by
 refine pO Tryz.func89 λr h _ _=>?_;refine S4 3 J<|S4 4 J ?_;refine jq h (λj3=>St.of [(2,.ptr 2 0 0),(3,.ptr 3 0 0),(4,.ptr 4 0 0),(5,.bool (a1.Kind==1))] [(4,vR (.agg [.nl,.nl,.nl,.I 0,.I 0,.I 0,.nl,.nl,.nl,.nl,.nl]) 11),(3,vR (e6.Pv a1) 3),(2,vR (a8.Pv j3) 11)]) (λj3 h=>?_) λκ2 h=>?_
 .refine S3 1 J ?_;refine cF h cm J J λv4 _ h=>cF h iV J J λv5 _ h=>S2 9 J<|S4 4 J ?_;refine jq h (λj8=>St.of [(2,.ptr 2 0 0),(3,.ptr 3 0 0),(4,.ptr 4 0 0),(5,.bool (a1.Kind==1))] [(4,vR (.agg [.nl,.nl,.nl,.I 0,.I 0,.I 0,.nl,.nl,.nl,.nl,.nl]) 11),(3,vR (e6.Pv a1) 3),(2,vR (a8.Pv j8) 11)]) (λj8 h=>?_) λκ7 h=>?_
  .refine dr [] s6 (by kernel_rfl) (by kernel_rfl) ?_;refine S7 5 J<|y4 h λv9 hv7 h=>eE J (u7 J kS J hv7) J<|y4 h λv10 hv8 h=>eE J (u7 J CL J hv8) J<|C9 (x':=a8.Pv v10) (cl':=true) J J (.inr J) u9<|K5<|k9<|S4 1 J ?_;refine cN h (λhc h=>?_) λhc h=>?_
   .refine S5 1 J ?_;refine cF h iu J J λv11 _ h=>cF h M7 J J λv12 _ h=>S2 1 J<|S4 2 J<|c5 ?_;cases h;exact⟨J,[_],⟨oL J J J z8 u9 nl J,tr⟩,J,io⟩
   .refine c7 ?_;refine S4 2 J<|c5 ?_;cases h;exact⟨J,[_],⟨oL J J J z8 u9 nl J,tr⟩,J,io⟩
  .refine S4 1 J ?_;refine cN h (λhc h=>?_) λhc h=>?_
   .refine S5 1 J ?_;refine cF h M7 J J λv13 _ h=>S2 1 J ?_;exact eJ h W
   .refine c7 ?_;exact eJ h W
 .refine S4 1 J ?_;refine cN h (λhc h=>?_) λhc h=>?_
  .refine S5 3 J ?_;refine cF h iu J J λv14 _ h=>S2 1 J ?_;exact eJ h W
  .refine c7 ?_;exact eJ h W
theorem vd{a0 a1}:PO Tryz.prog 52 [a8.Pv a0,.I a1] (gA a0 a1) λr=>.tup [a8.Pv r.1,g9.Pv r.2]:=by
 refine pO Tryz.func52 λr h _ _=>?_;refine S4 3 J<|S4 1 J ?_;refine jq h (λq=>St.of [(2,.ptr 2 0 0),(4,.ptr 4 0 0),(5,.ptr 5 0 0),(6,.I q.1)] [(5,vR (.agg [.I 0,.I 0]) 2),(4,vR (.agg [.nl,.nl,.nl,.I 0,.I 0,.I 0,.nl,.nl,.nl,.nl,.nl]) 11),(2,vR (a8.Pv q.2) 11)]) (λq13 h=>?_) λκ10 h=>?_
 .obtain⟨j11,j12⟩:=q13;refine S3 2 J<|y0 J (p6 (cs:=[.I j11,.I 0]) J aY T8 J J J)<|S2 2 J<|c5 ?_;cases h;exact⟨J,[_,_],⟨oL J J J z8 u9 nl J,⟨oL J J J G7 A7 nl J,tr⟩⟩,J,io⟩
 .refine k8 ?_;refine lq h (λq=>St.of [(1,.I q.1),(2,.ptr 2 0 0),(4,.ptr 4 0 0),(5,.ptr 5 0 0),(6,.I q.2.1)] [(5,vR (.agg [.I 0,.I 0]) 2),(4,vR (.agg [.nl,.nl,.nl,.I 0,.I 0,.I 0,.nl,.nl,.nl,.nl,.nl]) 11),(2,vR (a8.Pv q.2.2) 11)]) W λq19 x18 h hx10=>?_;obtain⟨s15,s16,s17⟩:=q19;refine k9<|S3 2 J<|nL J H9<|S2 1 J ?_;refine cN h (λhc h=>?_) λhc h=>?_
  .refine c7 ?_;refine k8<|dr [] s6 (by kernel_rfl) (by kernel_rfl)<|S7 4 J<|y4 h λv20 hv11 h=>d0 J (O6 (f:=e6.Pv) (cs:=e6.Pc v20) hv11 J J H9 C3 J J) J<|S7 1 J<|y4 h λv21 hv12 h=>d2 J (S9 J qD J hv12) J<|S8 1 J<|k9<|S4 3 J ?_;refine cN h (λhc h=>?_) λhc h=>?_
   .refine S3 2 J ?_;refine y0 J (p6 (cs:=[.I s16,.I 12]) J aY T8 J J J)<|S2 2 J<|c5 ?_;have h:=xL hx10 h;cases h;exact⟨J,[_,_],⟨oL J J J z8 u9 nl J,⟨oL J J J G7 A7 nl J,tr⟩⟩,J,io⟩
   .refine c7 ?_;refine S4 4 J<|dr [] s6 (by kernel_rfl) (by kernel_rfl)<|S7 3 J<|d0 J (O6 (f:=e6.Pv) (cs:=e6.Pc v20) hv11 J J H9 C3 J J) J<|S7 1 J<|y4 h λv22 hv13 h=>eE J (u7 J vg J hv13) J<|C9 (x':=a8.Pv v22) (cl':=true) J J (.inr J) u9<|K5<|S6 3 J ?_;exact eL h W
  .refine o6 ?_;refine g6<|g6<|l7 ?_;have h:=xL hx10 h;exact eJ h W
theorem EH{a0 a1}:PO Tryz.prog 19 [a8.Pv a0,.L iF a1] (oW a0 a1) λr=>.tup [a8.Pv r.1,g9.Pv r.2]:=by
 refine pO Tryz.func19 λr h _ _=>?_;refine S4 3 J<|S3 1 J<|cA h oy J J λv1 _ h=>S2 6 J<|k9<|S4 2 J ?_;refine cN h (λhc h=>?_) λhc h=>?_
 .refine S3 2 J ?_;refine y0 J (p6 (cs:=[.I 0,.I v1.2]) J aY T8 J J J)<|S2 2 J<|c5 ?_;cases h;exact⟨J,[_,_],⟨oL J J J z8 u9 nl J,⟨oL J J J G7 A7 nl J,tr⟩⟩,J,io⟩
 .refine c7 ?_;refine k9<|S4 2 J<|k8<|S4 2 J ?_;refine cN h (λhc h=>?_) λhc h=>?_
  .refine S3 1 J ?_;refine cF h ru J J λv2 _ h=>S2 4 J<|c5 ?_;cases h;exact⟨J,[_,_],⟨oL J J J z8 u9 nl J,⟨oL J J J G7 A7 nl J,tr⟩⟩,J,io⟩
  .refine S4 2 J ?_;refine cN h (λhc h=>?_) λhc h=>?_
   .refine S3 3 J ?_;refine cF h vd J J λv3 _ h=>S2 4 J<|c5 ?_;cases h;exact⟨J,[_,_],⟨oL J J J z8 u9 nl J,⟨oL J J J G7 A7 nl J,tr⟩⟩,J,io⟩
   .refine c7 ?_;refine S3 2 J<|cF h qM J J λv4 _ h=>S2 4 J<|c5 ?_;cases h;exact⟨J,[_,_],⟨oL J J J z8 u9 nl J,⟨oL J J J G7 A7 nl J,tr⟩⟩,J,io⟩
theorem tD{a0 a1}:PO Tryz.prog 32 [a8.Pv a0,.L (Ls iF) a1] (aP a0 a1) λr=>.tup [a8.Pv r.1,.L g9.Pv r.2]:=by
 refine pO Tryz.func32 λr h _ _=>?_;refine S4 3 J<|S4 1 J ?_;refine jq h (λq=>St.of [(2,.ptr 2 0 0),(4,.ptr 4 0 0),(6,.sl 910006)] [(910006,⟨List.map g9.Pv q.2,(List.map g9.Pv q.2).length,true,2,true⟩),(4,vR (.agg [.nl,.nl,.nl,.I 0,.I 0,.I 0,.nl,.nl,.nl,.nl,.nl]) 11),(2,vR (a8.Pv q.1) 11)]) (λq13 h=>?_) λκ10 h=>?_
 .obtain⟨j11,j12⟩:=q13;refine S4 4 J<|c5 ?_;cases h;exact⟨J,[_,_],⟨oL J J J z8 u9 nl J,⟨J,tr⟩⟩,J,io⟩
 .refine S3 1 J ?_;refine nL J aW<|S2 1 J<|k8<|lq h (λq=>St.of [(2,.ptr 2 0 0),(4,.ptr 4 0 0),(6,.sl 910006),(10,.L (Ls iF) a1),(11,.I (a1.length:Int)),(12,.I q.1)] [(4,vR (.agg [.nl,.nl,.nl,.I 0,.I 0,.I 0,.nl,.nl,.nl,.nl,.nl]) 11),(2,vR (a8.Pv q.2.1) 11),(910006,⟨List.map g9.Pv q.2.2,(List.map g9.Pv q.2.2).length,true,2,true⟩)]) (Wk.trans (F8 (t:=6) (l:=920006) (z:=2) J J) (WP (λl=>if l=910006 then 920006 else l))) λq19 x18 h hx10=>?_;obtain⟨s15,s16,s17⟩:=q19;refine S4 1 J<|k9 ?_;refine cN h (λhc h=>?_) λhc h=>?_
  .refine c7 ?_;refine k9<|k8<|sR<|iL h J J aW bx λv20 _ h=>S2 2 J<|S4 1 J<|S3 2 J<|cF h EH J J λv21 _ h=>S2 5 J<|S5 2 J<|y0 J (I3 (f:=g9.Pv) (l:=[v21.2]) J jk A7 T8 J J nl J J)<|y4 h λv22 hv13 h=>I7 J (I2 (f:=g9.Pv) hv13 J J J J J J (.inl ⟨_,J,J⟩) jk A7 Lj T8 J (λ_=>J)) J J J<|S2 1 J<|S6 2 J ?_;exact eL h (Wk.trans (m8 _ [25]) (WP (λl=>if l=910006 then 25 else l)))
  .refine o6 ?_;refine g6<|g6<|l7 ?_;have h:=xL hx10 h;exact eJ h (Wk.trans (m8 _ [910006]) W)
theorem wm{a0}:PO Tryz.prog 64 [g8.Pv a0] (mJ a0) λr=>Wm qV r:=by
 refine pO Tryz.func64 λr h _ _=>?_;refine S4 2 J<|k9<|S4 2 J<|k8<|S4 2 J ?_;refine cN h (λhc h=>?_) λhc h=>?_
 .refine sR ?_;refine y0 J (p6 (cs:=[]) J Pt HP J J J)<|y0 J (GR (n:=qV) (T:=166) (xs:=[]) J HM J)<|S2 1 J<|c5 ?_;cases h;exact f1
 .refine S4 2 J ?_;refine cN h (λhc h=>?_) λhc h=>?_
  .refine S3 2 J ?_;refine y0 J (p6 (cs:=[.I a0.A]) J Pu HQ J J J)<|y0 J (GR (n:=qV) (T:=170) (xs:=[a0.A]) J HN J)<|S2 1 J<|c5 ?_;cases h;exact f1
  .refine c7 ?_;refine S3 1 J<|y0 J (p6 (cs:=[.I a0.Kind,.I a0.A,.I a0.B,.I a0.C]) J Ps HO J J J)<|y0 J (GR (n:=qV) (T:=162) (xs:=[a0.Kind,a0.A,a0.B,a0.C]) J HL J)<|S2 1 J<|c5 ?_;cases h;exact f1
theorem uY:PO Tryz.prog 123 [] (gx) λr=>.abs (T6 (List.map (bU iF sP) r)):=by
 refine pO Tryz.func123 λr h _ _=>?_;unfold gx at h;refine S4 1 J<|sR<|BT (KT:=Int) (VT:=Fv) (EK:=iF) (E:=sP) 5000001 J J<|lg (es:=[]) (k:=1) (v:=(some 203)) (E:=sP) (EK:=iF) (.inr J) J J J J J J bw (w9 H8)<|lg (es:=(o7 [] 1 (some 203))) (k:=2) (v:=(some 204)) (E:=sP) (EK:=iF) (.inr J) J J J J J J bw (w9 H8)<|lg (es:=(o7 (o7 [] 1 (some 203)) 2 (some 204))) (k:=3) (v:=(some 205)) (E:=sP) (EK:=iF) (.inr J) J J J J J J bw (w9 H8)<|lg (es:=(o7 (o7 (o7 [] 1 (some 203)) 2 (some 204)) 3 (some 205))) (k:=4) (v:=(some 206)) (E:=sP) (EK:=iF) (.inr J) J J J J J J bw (w9 H8)<|lg (es:=(o7 (o7 (o7 (o7 [] 1 (some 203)) 2 (some 204)) 3 (some 205)) 4 (some 206))) (k:=5) (v:=(some 207)) (E:=sP) (EK:=iF) (.inr J) J J J J J J bw (w9 H8)<|lg (es:=(o7 (o7 (o7 (o7 (o7 [] 1 (some 203)) 2 (some 204)) 3 (some 205)) 4 (some 206)) 5 (some 207))) (k:=6) (v:=(some 208)) (E:=sP) (EK:=iF) (.inr J) J J J J J J bw (w9 H8)<|lg (es:=(o7 (o7 (o7 (o7 (o7 (o7 [] 1 (some 203)) 2 (some 204)) 3 (some 205)) 4 (some 206)) 5 (some 207)) 6 (some 208))) (k:=7) (v:=(some 209)) (E:=sP) (EK:=iF) (.inr J) J J J J J J bw (w9 H8)<|lg (es:=(o7 (o7 (o7 (o7 (o7 (o7 (o7 [] 1 (some 203)) 2 (some 204)) 3 (some 205)) 4 (some 206)) 5 (some 207)) 6 (some 208)) 7 (some 209))) (k:=8) (v:=(some 210)) (E:=sP) (EK:=iF) (.inr J) J J J J J J bw (w9 H8)<|lg (es:=(o7 (o7 (o7 (o7 (o7 (o7 (o7 (o7 [] 1 (some 203)) 2 (some 204)) 3 (some 205)) 4 (some 206)) 5 (some 207)) 6 (some 208)) 7 (some 209)) 8 (some 210))) (k:=9) (v:=(some 211)) (E:=sP) (EK:=iF) (.inr J) J J J J J J bw (w9 H8)<|lg (es:=(o7 (o7 (o7 (o7 (o7 (o7 (o7 (o7 (o7 [] 1 (some 203)) 2 (some 204)) 3 (some 205)) 4 (some 206)) 5 (some 207)) 6 (some 208)) 7 (some 209)) 8 (some 210)) 9 (some 211))) (k:=10) (v:=(some 212)) (E:=sP) (EK:=iF) (.inr J) J J J J J J bw (w9 H8)<|S2 2 J<|bK (DF 0 5000001 J J)<|c5 ?_;cases h;exact f1
theorem py{a0}:PO Tryz.prog 317 [.I a0] (V4 a0) λr=>.bool r:=by
 refine pO Tryz.func317 λr h _ _=>?_;unfold V4 at h;refine S4 1 J<|S3 3 J<|m9 J (λhg=>mI J)<|m9 J (λhg=>D7 (ct hg) J J)<|y0 J (D1 J J J (λq=>kp q))<|S2 1 J<|c5 ?_;cases h;exact f1
theorem nx{a0}:PO Tryz.prog 348 [l4.Pv a0] (Q2 a0) λr=>.fn (.func 363) [.rptr (l4.Pc r)]:=by
 refine pO Tryz.func348 λr h _ _=>?_;unfold Q2 at h;refine S4 2 J<|S4 2 J<|c5 ?_;cases h;exact f1
theorem O8{a0}:OP Tryz.prog 352 [.L c8.Pv a0] (y6 a0) λr=>⟨List.map c8.Pv r,0,true,8,true⟩:=by
 refine SH Tryz.func352 λr h _ _=>?_;unfold y6 at h;refine S4 1 J<|k9<|S3 1 J<|uz J aX λb hb=>yN ?_;refine G5 b J (λhc=>?_) (λhc=>?_)
 .obtain rfl:a0 = []:=by simpa using hb hc
  refine S4 1 J<|bK (F8 (t:=2) (l:=920000) (z:=8) J J)<|c5 ?_;cases h;exact⟨J,_,_,J,J,J,J⟩
 .refine c7 ?_;refine sR<|y0 J (jF J aX ab)<|S1 1 J<|y1 J (yv (f:=c8.Pv) h J J (.inl ⟨_,J,J⟩) aX ab HC pG J (λ_=>J)) J<|S2 1 J<|c5 ?_;exact⟨J,_,_,J,J,J,J⟩
theorem L0{a0 a1 a2}:PO Tryz.prog 327 [l4.Pv a0,.I a1,c8.Pv a2] (E0 a0 a1 a2) λr=>l4.Pv r:=by
 refine pO Tryz.func327 λr h _ _=>?_;unfold E0 at h;refine S4 3 J<|S3 2 J<|y4 h λv1 hv1 h=>JF J (gT J O8 J hv1) J J<|S2 2 J<|S3 4 J<|y4 h λv2 hv2 h=>y0 J (aJ (f:=c8.Pv) hv2 J J J J aX ab J)<|nU (f:=c8.Pv) (v:=a2) hv2 J J (.inr J) ab<|yN<|S4 2 J<|c5 ?_;cases h;exact⟨J,[_],⟨oL J J J hU eh nl J,tr⟩,J,io⟩
theorem oJ{a0 a1}:PO Tryz.prog 132 [.I a0,.I a1] (dP a0 a1) λr=>.I r:=by
 refine pO Tryz.func132 λr h _ _=>?_;refine S4 1 J<|k9<|S3 3 J<|m9 J (λhg=>mI J)<|m9 J (λhg=>D7 (ct hg) J J)<|y0 J (P5 J J J (λq=>pM q))<|S1 1 J<|m9 J (λhg=>mI J)<|m9 J (λhg=>D7 (ct hg) J J)<|y0 J (P5 J J J (λq=>pM q))<|S1 1 J<|m9 J (λhg=>mI J)<|m9 J (λhg=>D7 (ct hg) J J)<|y0 J (P5 J J J (λq=>pM q))<|yN ?_;refine cN h (λhc h=>?_) λhc h=>?_
 .refine S4 1 J ?_;refine c5 ?_;cases h;exact f1
 .refine c7 ?_;refine S4 7 J<|c5 ?_;cases h;exact f1
theorem nw{a0 a1}:PO Tryz.prog 318 [l4.Pv a0,n7.Pv a1] (L4 a0 a1) λr=>.tup [l4.Pv r.1,.I r.2.1,.I r.2.2]:=by
 refine pO Tryz.func318 λr h _ _=>?_;refine S4 5 J ?_;refine jq h (λ_=>St.of [(2,.ptr 2005 0 0),(4,.ptr 2003 0 0),(5,.ptr 2002 0 0),(6,.ptr 2001 0 0)] [(2001,vR (.I 0) 1),(2002,vR (.I 0) 1),(2003,vR (.agg [.nl,.I 0]) 2),(2005,vR (l4.Pv a0) 2)]) (λq10 h=>?_) λκ9 h=>?_
 .refine S4 4 J ?_;refine c5 ?_;cases h;exact⟨J,[_,_,_],⟨oL J J J hU eh nl J,⟨oS J J J K2 J,⟨oS J J J uD J,tr⟩⟩⟩,J,io⟩
 .refine S3 1 J ?_;refine cF h nx J J λv11 _ h=>yN<|k8<|bK (rR (λl=>if l=2006 then 6 else if l=2007 then 5 else if l=2008 then 4 else if l=2009 then 3 else if l=2010 then 2 else l) [(2,.ptr 2010 0 0),(3,.ptr 2009 0 0),(4,.ptr 2008 0 0),(5,.ptr 2007 0 0),(6,.ptr 2006 0 0),(10,.fn (.func 363) [.rptr (l4.Pc v11)])] [(2006,vR (.I 0) 1),(2007,vR (.I 0) 1),(2008,vR (.agg [.nl,.I 0]) 2),(2009,vR (n7.Pv a1) 6),(2010,vR (l4.Pv a0) 2)]) ?_;refine bJ (fn:=Tryz.f363) (N1:=23) J Tryz.func363 J J nl J Pp J J (λl19 e20 o21 hR22=>?_);refine S3 2 J<|nL J aX<|S2 1 J<|k8<|lq h (λs13=>St.of [(1000002,.ptr 2010 0 0),(1000003,.ptr 2009 0 0),(1000004,.ptr 2008 0 0),(1000005,.ptr 2007 0 0),(1000006,.ptr 2006 0 0),(1000010,.fn (.func 363) [.rptr (l4.Pc v11)]),(0,.fn (.yield l19) []),(6,.L c8.Pv v11.b7),(7,.I (v11.b7.length:Int)),(8,.I s13)] [(2006,vR (.I 0) 1),(2007,vR (.I 0) 1),(2008,vR (.agg [.nl,.I 0]) 2),(2009,vR (n7.Pv a1) 6),(2010,vR (l4.Pv a0) 2)]) W λs13 x14 h hx25=>S4 1 J<|k9 ?_;refine cN h (λhc h=>?_) λhc h=>?_
  .refine c7 ?_;refine k9<|k8<|S3 1 J<|iL h J J aX ab λv15 _ h=>S2 4 J<|S3 4 J<|m9 J (λhg=>om (d:=.fn (.yield l19) []) J)<|m9 J (λhg=>mI J) ?_;rcases zaz ((v15.State==0)==true) with hg27 | hg27
   .have h:=Sy h hg27;refine N9 (WE [(1000002,.ptr 2010 0 0),(1000003,.ptr 2009 0 0),(1000004,.ptr 2008 0 0),(1000005,.ptr 2007 0 0),(1000006,.ptr 2006 0 0),(1000010,.fn (.func 363) [.rptr (l4.Pc v11)]),(0,.fn (.yield l19) []),(6,.L c8.Pv v11.b7),(7,.I (v11.b7.length:Int)),(8,.I s13),(16,.bool (v15.State==0)),(17,.fn (.yield l19) []),(18,.I s13)] [(2006,vR (.I 0) 1),(2007,vR (.I 0) 1),(2008,vR (.agg [.nl,.I 0]) 2),(2009,vR (n7.Pv a1) 6),(2010,vR (l4.Pv a0) 2)]) ?_;refine iX hR22 (zX some hg27) J J J J J (λe28 o29 o30=>?_);refine S6 1 J ?_;refine⟨J,?_⟩;refine k8<|S3 3 J<|iL h J J aX ab λv16 _ h=>S2 3 J<|S3 4 J<|y0 J (p6 (cs:=[.I 1,.I v16.Gen,.I a1.Serial,.I a1.Strong,.I a1.Weak,.I a1.Prog,.bool a1.Started,.L iF a1.Fields]) J wM pG J J J)<|cF h L0 J J λv17 _ h=>S1 2 J<|cA h oJ J J λv18 _ h=>S2 3 J<|c5 ?_;refine⟨J,?_⟩;refine N9 (WE [(1000002,.ptr 2010 0 0),(1000003,.ptr 2009 0 0),(1000004,.ptr 2008 0 0),(1000005,.ptr 2007 0 0),(1000006,.ptr 2006 0 0),(1000010,.fn (.func 363) [.rptr (l4.Pc v11)]),(0,.fn (.yield l19) []),(6,.L c8.Pv v11.b7),(7,.I (v11.b7.length:Int)),(8,.I s13),(16,.bool (v15.State==0)),(19,.bool false)] [(2006,vR (.I 0) 1),(2007,vR (.I v18) 1),(2008,vR (l4.Pv v17) 2),(2009,vR (n7.Pv a1) 6),(2010,vR (l4.Pv a0) 2)])<|y0 (zX some hg27) (dT J J)<|y0 J (kI J J hg27)<|yN ?_;refine G5 true J (λ_=>?_) (λq=>nomatch q);refine c5 ?_;refine .inr ⟨.ret,J,Qx ?_⟩;have h:=xL hx25 h;cases h;exact⟨J,[_,_,_],⟨oL J J J hU eh nl J,⟨oS J J J K2 J,⟨oS J J J uD J,tr⟩⟩⟩,J,io⟩
   .have h:=Sx h hg27;refine cR (zX some hg27)<|cR (zX some hg27)<|y0 J (nb J J hg27)<|yN ?_;refine G5 false J (λq=>nomatch q) (λ_=>?_);refine c7<|S6 2 J ?_;exact eL h W
  .refine o6 ?_;refine g6<|g6<|l7 ?_;refine .inl ⟨J,?_⟩;have h:=xL hx25 h;exact eJ h (WP (λl=>if l=2005 then 2010 else if l=2003 then 2008 else if l=2002 then 2007 else if l=2001 then 2006 else l))
theorem AQ{a0 a1 a2}:PO Tryz.prog 278 [b6.Pv a0,.I a1,.I a2] (W7 a0 a1 a2) λr=>.tup [b6.Pv r.1,.I r.2.1,.I r.2.2]:=by
 refine pO Tryz.func278 λr h _ _=>?_;refine S4 4 J<|S3 1 J<|cF h Ae J J λv1 _ h=>S2 5 J<|k9<|S4 2 J ?_;refine cN h (λhc h=>?_) λhc h=>?_
 .refine S4 5 J ?_;refine c5 ?_;cases h;exact⟨J,[_,_,_],⟨oL J J J mi mr nl J,⟨J,⟨J,tr⟩⟩⟩,J,io⟩
 .refine c7 ?_;refine k9<|S3 1 J<|cA h py J J λv2 _ h=>S2 1 J ?_;refine cN h (λhc h=>?_) λhc h=>?_
  .refine S4 4 J ?_;refine c5 ?_;cases h;exact⟨J,[_,_,_],⟨oL J J J mi mr nl J,⟨J,⟨J,tr⟩⟩⟩,J,io⟩
  .refine c7 ?_;refine S3 7 J<|y0 J (p6 (cs:=[.I (w7 (a0.Serial+1)),.I 0,.I 0,.I a2,.bool false,.L iF v1.1]) J Px PG J J J)<|cF h nw J J λv3 _ h=>S2 8 J<|k9<|S4 2 J ?_;refine cN h (λhc h=>?_) λhc h=>?_
   .refine S4 5 J ?_;refine c5 ?_;cases h;exact⟨J,[_,_,_],⟨oL J J J mi mr nl J,⟨J,⟨J,tr⟩⟩⟩,J,io⟩
   .refine c7 ?_;refine S3 4 J<|y0 J (p6 (cs:=[.L c8.Pv v3.1.b7,.I v3.1.Last,.I (w7 (a0.Serial+1))]) J Lw LD J J J)<|S2 4 J<|c5 ?_;cases h;exact⟨J,[_,_,_],⟨oL J J J mi mr nl J,⟨J,⟨J,tr⟩⟩⟩,J,io⟩
theorem nH{a0}:PO Tryz.prog 356 [.I a0] (eI a0) λr=>.tup [.I r.1,.I r.2.1,.bool r.2.2]:=by
 refine pO Tryz.func356 λr h _ _=>?_;refine S4 3 J<|k9<|S4 2 J ?_;refine cN h (λhc h=>?_) λhc h=>?_
 .refine S4 3 J ?_;refine c5 ?_;cases h;exact f3
 .refine c7 ?_;refine S3 2 J<|y4 h λv1 hv1 h=>y0 J (vL J J hv1)<|y4 h λv2 hv2 h=>y0 J (vL J J hv2)<|S1 2 J<|y4 h λv3 hv3 h=>y0 J (vL J J hv3)<|S2 2 J<|k9<|S3 3 J<|m9 J (λhg=>mI J)<|m9 J (λhg=>D7 (ct hg) J J)<|y0 J (P5 J J J (λq=>pM q))<|yN ?_;refine cN h (λhc h=>?_) λhc h=>?_
  .refine S4 3 J ?_;refine c5 ?_;cases h;exact f3
  .refine c7 ?_;refine S4 5 J<|c5 ?_;cases h;exact f3
theorem oM{a0}:PO Tryz.prog 334 [.I a0] (gM a0) λr=>.I r:=by
 refine pO Tryz.func334 λr h _ _=>?_;refine S4 1 J<|S3 1 J<|cA h nH J J λv1 _ h=>S2 7 J<|S4 2 J<|c5 ?_;cases h;exact f1
theorem qH{a0}:PO Tryz.prog 335 [.I a0] (jt a0) λr=>.I r:=by
 refine pO Tryz.func335 λr h _ _=>?_;refine S4 1 J<|S3 1 J<|cA h nH J J λv1 _ h=>S2 7 J<|S4 2 J<|c5 ?_;cases h;exact f1
theorem K9{a0 a1}:PO Tryz.prog 308 [l4.Pv a0,.I a1] (z7 a0 a1) λr=>.tup [.I r.1,.I r.2]:=by
 refine pO Tryz.func308 λr h _ _=>?_;refine S4 3 J<|k9<|S4 2 J ?_;refine cN h (λhc h=>?_) λhc h=>?_
 .refine S4 2 J ?_;refine c5 ?_;cases h;exact f2
 .refine c7 ?_;refine S3 1 J<|cA h oM J J λv1 _ h=>S2 1 J<|k9<|S3 3 J<|m9 J (λhg=>mI J)<|m9 J (λhg=>oF J Lq J)<|m9 J (λhg=>oS (ct hg) J J SZ J)<|m9 J (λhg=>bI (f:=c8.Pv) (ct hg) aX)<|m9 J (λhg=>D7 (ct hg) (ct hg) J)<|y0 J (P5 J J J (λq=>pM q))<|yN ?_;refine cN h (λhc h=>?_) λhc h=>?_
  .refine S4 2 J ?_;refine c5 ?_;cases h;exact f2
  .refine c7 ?_;refine S3 3 J<|iL h J J aX ab λv2 _ h=>S2 3 J<|k9<|dr [] s6 (by kernel_rfl) (by kernel_rfl)<|S7 3 J<|y4 h λv3 hv3 h=>d2 J (S9 J qH J hv3) J<|S7 2 J<|sy J (λhg _ hN=>oF J AY J) J ?_;refine Be J (λhg=>oS (ct hg) J J K2 J) J<|sy J (λhg _ hN=>D7 (ct hg) J J) J<|sy J (λhg _ hN=>om (d:=.bool (v2.State != 1)) (ct hg)) J<|sy (FE J J J) (λhg _ hN=>oF J AY J) J ?_;refine Be (FE J J J) (λhg=>oS (ct hg) J J K2 J) J<|sy (FE J J J) (λhg _ hN=>D7 (ct hg) J J) J<|sy J (λhg _ hN=>D1 (ct hg) J J (λq=>VQ hg (kp q))) J<|d7 J (λ_ hN=>P5 J J J (λq=>pM q)) J<|K5 ?_;refine cN h (λhc h=>?_) λhc h=>?_
   .refine S4 2 J ?_;refine c5 ?_;cases h;exact f2
   .refine c7 ?_;refine S4 3 J<|c5 ?_;cases h;exact f2
theorem fK{a0 a1}:PO Tryz.prog 234 [l4.Pv a0,.I a1] (G9 a0 a1) λr=>.tup [n7.Pv r.1,.I r.2]:=by
 refine pO Tryz.func234 λr h _ _=>?_;refine S4 3 J<|S4 1 J<|S3 2 J<|cA h K9 J J λv1 _ h=>S2 5 J<|k9<|S4 2 J ?_;refine cN h (λhc h=>?_) λhc h=>?_
 .refine S3 2 J ?_;refine kM (x':=.agg [.I 0,.I 0,.I 0,.I 0,.bool false,.nl]) (cl':=true) J J (.inl J) kg<|S2 1 J<|c5 ?_;cases h;exact⟨J,[_,_],⟨oL J J J rX kg nl J,⟨J,tr⟩⟩,J,io⟩
 .refine c7 ?_;refine k9<|S3 3 J<|iL h J J aX ab λv2 hv2 h=>S2 3 J ?_;refine cN h (λhc h=>?_) λhc h=>?_
  .refine S3 1 J ?_;refine kM (x':=.agg [.I 0,.I 0,.I 0,.I 0,.bool false,.nl]) (cl':=true) J J (.inl J) kg<|S2 1 J<|c5 ?_;cases h;exact⟨J,[_,_],⟨oL J J J rX kg nl J,⟨J,tr⟩⟩,J,io⟩
  .refine c7 ?_;refine S3 3 J<|y0 J (O6 (f:=c8.Pv) (cs:=c8.Pc v2) hv2 J J aX ab J J)<|S2 4 J<|c5 ?_;cases h;exact⟨J,[_,_],⟨oL J J J rX kg nl J,⟨J,tr⟩⟩,J,io⟩
theorem C5{a0 a1}:PO Tryz.prog 136 [b6.Pv a0,.I a1] (x6 a0 a1) λr=>.tup [n7.Pv r.1,.I r.2]:=by
 refine pO Tryz.func136 λr h _ _=>?_;refine S4 3 J<|S3 3 J<|cF h fK J J λv1 _ h=>S2 4 J<|c5 ?_;cases h;exact⟨J,[_,_],⟨oL J J J rX kg nl J,⟨J,tr⟩⟩,J,io⟩
theorem yb{a0 a1}:PO Tryz.prog 349 [b9.Pv a0,.I a1] (kr a0 a1) λr=>.bool r:=by
 refine pO Tryz.func349 λr h _ _=>?_;refine S4 2 J<|S3 3 J<|cF h C5 J J λv1 _ h=>S2 6 J<|S4 3 J<|c5 ?_;cases h;exact f1
theorem Y4{a0 a1}:PO Tryz.prog 319 [b9.Pv a0,.I a1] (N5 a0 a1) λr=>.bool r:=by
 refine pO Tryz.func319 λr h _ _=>?_;unfold N5 at h;refine S4 2 J<|S3 3 J<|m9 J (λhg=>oL J J J u5 p7 nl J)<|m9 J (λhg=>mI J)<|y4 h λv1 hv1 h=>m9 J (λhg=>S9 J yb (aE (ct hg) (aE (ct hg) J)) (br hv1 hg))<|y0 J (P5 J J J (λq=>pM q))<|S2 1 J<|c5 ?_;cases h;exact f1
theorem bz{a0}:PO Tryz.prog 353 [.I a0] (I0 a0) λr=>.bool r:=by
 refine pO Tryz.func353 λr h _ _=>?_;unfold I0 at h;refine S4 1 J<|S4 3 J<|c5 ?_;cases h;exact f1
theorem su{a0}:PO Tryz.prog 330 [.I a0] (jr a0) λr=>.tup [.I r.1,.I r.2]:=by
 refine pO Tryz.func330 λr h _ _=>?_;refine S4 2 J<|k9<|S3 1 J<|cA h bz J J λv1 _ h=>yN ?_;refine cN h (λhc h=>?_) λhc h=>?_
 .refine S4 2 J ?_;refine c5 ?_;cases h;exact f2
 .refine c7 ?_;refine S3 1 J<|y0 J (Ns J J J)<|S2 3 J<|c5 ?_;cases h;exact f2
theorem Cf{a0}:PO Tryz.prog 289 [.I a0] (pK a0) λr=>.I r:=by
 refine pO Tryz.func289 λr h _ _=>?_;refine S4 1 J<|S3 1 J<|cA h su J J λv1 _ h=>S2 5 J<|S4 2 J<|c5 ?_;cases h;exact f1
theorem od{a0 a1 a2}:PO Tryz.prog 286 [l4.Pv a0,.I a1,n7.Pv a2] (az a0 a1 a2) λr=>.tup [l4.Pv r.1,.I r.2]:=by
 refine pO Tryz.func286 λr h _ _=>?_;refine S4 4 J<|S3 2 J<|cA h K9 J J λv1 _ h=>S2 5 J<|k9<|S4 2 J ?_;refine cN h (λhc h=>?_) λhc h=>?_
 .refine S4 4 J ?_;refine c5 ?_;cases h;exact⟨J,[_,_],⟨oL J J J hU eh nl J,⟨J,tr⟩⟩,J,io⟩
 .refine c7 ?_;refine S3 3 J<|iL h J J aX ab λv2 _ h=>S2 3 J<|S4 3 J<|S3 3 J<|cF h L0 J J λv3 _ h=>S2 2 J<|c5 ?_;cases h;exact⟨J,[_,_],⟨oL J J J hU eh nl J,⟨J,tr⟩⟩,J,io⟩
theorem cu{a0 a1 a2}:PO Tryz.prog 219 [b6.Pv a0,.I a1,n7.Pv a2] (R5 a0 a1 a2) λr=>.tup [b6.Pv r.1,.I r.2]:=by
 refine pO Tryz.func219 λr h _ _=>?_;refine S4 4 J<|S4 1 J<|S3 4 J<|cF h od J J λv1 _ h=>S2 6 J<|S4 4 J<|c5 ?_;cases h;exact⟨J,[_,_],⟨oL J J J mi mr nl J,⟨J,tr⟩⟩,J,io⟩
theorem ju{a0 a1}:PO Tryz.prog 288 [b9.Pv a0,.I a1,.fn (.func 289) []] (Y3 a0 a1) λr=>b9.Pv r:=by
 refine pO Tryz.func288 λr h _ _=>?_;refine S4 2 J<|S3 3 J<|cF h C5 J J λv1 _ h=>S2 6 J<|k9<|S4 2 J ?_;refine cN h (λhc h=>?_) λhc h=>?_
 .refine S3 3 J ?_;refine cA h Cf J J λv2 _ h=>S2 2 J<|S5 4 J<|cF h cu J J λv3 _ h=>S2 5 J<|S4 2 J<|c5 ?_;cases h;exact⟨J,[_],⟨oL J J J u5 p7 nl J,tr⟩,J,io⟩
 .refine c7 ?_;refine S4 2 J<|c5 ?_;cases h;exact⟨J,[_],⟨oL J J J u5 p7 nl J,tr⟩,J,io⟩
theorem eM{a0 a1}:PO Tryz.prog 221 [b9.Pv a0,.I a1] (bE a0 a1) λr=>b9.Pv r:=by
 refine pO Tryz.func221 λr h _ _=>?_;refine S4 2 J<|S3 2 J<|cF h ju J J λv1 _ h=>S2 1 J<|c5 ?_;cases h;exact⟨J,[_],⟨oL J J J u5 p7 nl J,tr⟩,J,io⟩
theorem nY{a0 a1}:PO Tryz.prog 343 [K7.Pv a0,b9.Pv a1] (R7 a0 a1) λr=>b9.Pv r:=by
 refine pO Tryz.func343 λr h _ _=>?_;unfold R7 at h;refine S4 3 J<|S3 2 J<|y4 h λv1 hv1 h=>JF J (gT J I6 J hv1) J J<|S2 2 J<|S3 6 J<|y4 h λv2 hv2 h=>y0 J (aJ (f:=iF) hv2 J J J J l6 o5 J)<|nU (f:=iF) (v:=a0.h) hv2 J J (.inl J) o5<|yN<|S4 2 J<|c5 ?_;cases h;exact⟨J,[_],⟨oL J J J u5 p7 nl J,tr⟩,J,io⟩
theorem ql{a0}:PO Tryz.prog 336 [.I a0] (fP a0) λr=>.tup [.I r.1,.I r.2]:=by
 refine pO Tryz.func336 λr h _ _=>?_;refine S4 2 J<|k9<|S3 1 J<|cA h bz J J λv1 _ h=>yN ?_;refine cN h (λhc h=>?_) λhc h=>?_
 .refine S4 2 J ?_;refine c5 ?_;cases h;exact f2
 .refine c7 ?_;refine k9<|S4 2 J ?_;refine cN h (λhc h=>?_) λhc h=>?_
  .refine S4 2 J ?_;refine c5 ?_;cases h;exact f2
  .refine c7 ?_;refine S4 4 J<|c5 ?_;cases h;exact f2
theorem Ce{a0}:PO Tryz.prog 295 [.I a0] (uI a0) λr=>.tup [.I r.1,.I r.2]:=by
 refine pO Tryz.func295 λr h _ _=>?_;refine S4 2 J<|S3 1 J<|cA h ql J J λv1 _ h=>S2 5 J<|S4 4 J<|c5 ?_;cases h;exact f2
theorem tc{a0}:PO Tryz.prog 294 [.I a0] (eK a0) λr=>.I r:=by
 refine pO Tryz.func294 λr h _ _=>?_;refine S4 1 J<|S3 1 J<|cA h Ce J J λv1 _ h=>S2 5 J<|k9<|S4 2 J ?_;refine cN h (λhc h=>?_) λhc h=>?_
 .refine S4 2 J ?_;refine c5 ?_;cases h;exact f1
 .refine c7 ?_;refine S4 2 J<|c5 ?_;cases h;exact f1
theorem fF{a0 a1}:PO Tryz.prog 288 [b9.Pv a0,.I a1,.fn (.func 294) []] (P7 a0 a1) λr=>b9.Pv r:=by
 refine pO Tryz.func288 λr h _ _=>?_;refine S4 2 J<|S3 3 J<|cF h C5 J J λv1 _ h=>S2 6 J<|k9<|S4 2 J ?_;refine cN h (λhc h=>?_) λhc h=>?_
 .refine S3 3 J ?_;refine cA h tc J J λv2 _ h=>S2 2 J<|S5 4 J<|cF h cu J J λv3 _ h=>S2 5 J<|S4 2 J<|c5 ?_;cases h;exact⟨J,[_],⟨oL J J J u5 p7 nl J,tr⟩,J,io⟩
 .refine c7 ?_;refine S4 2 J<|c5 ?_;cases h;exact⟨J,[_],⟨oL J J J u5 p7 nl J,tr⟩,J,io⟩
theorem aF{a0 a1}:PO Tryz.prog 228 [b9.Pv a0,.I a1] (D9 a0 a1) λr=>b9.Pv r:=by
 refine pO Tryz.func228 λr h _ _=>?_;refine S4 2 J<|S3 2 J<|cF h fF J J λv1 _ h=>S2 1 J<|c5 ?_;cases h;exact⟨J,[_],⟨oL J J J u5 p7 nl J,tr⟩,J,io⟩
theorem dB{a0 a1 a2 a3}:PO Tryz.prog 320 [b9.Pv a0,.I a1,.I a2,.abs (Sb 343 [K7.Pv a3])] (G4 a0 a1 a2 a3) λr=>b9.Pv r:=by
 refine pO Tryz.func320 λr h _ _=>?_;refine S4 2 J<|S3 3 J<|cF h eM J J λv1 _ h=>y4 h λv2 hv2 h=>DG (xs:=[b9.Pv v1]) J J Po J (nY.2 _ hv2)<|S1 1 J<|cF h aF J J λv3 _ h=>S2 1 J<|c5 ?_;cases h;exact⟨J,[_],⟨oL J J J u5 p7 nl J,tr⟩,J,io⟩
theorem mS{a0 a1 a2}:PO Tryz.prog 298 [b9.Pv a0,.I a1,.I a2] (bX a0 a1 a2) λr=>.tup [b9.Pv r.1,.I r.2]:=by
 refine pO Tryz.func298 λr h _ _=>?_;refine S4 3 J<|k9<|S3 3 J<|m9 J (λhg=>mI J)<|m9 J (λhg=>oF J DP J)<|m9 J (λhg=>oS (ct hg) J J mh J)<|m9 J (λhg=>bI (f:=iF) (ct hg) l6)<|m9 J (λhg=>D7 (ct hg) (ct hg) J)<|y0 J (P5 J J J (λq=>pM q))<|yN ?_;refine cN h (λhc h=>?_) λhc h=>?_
 .refine S4 3 J ?_;refine c5 ?_;cases h;exact⟨J,[_,_],⟨oL J J J u5 p7 nl J,⟨J,tr⟩⟩,J,io⟩
 .refine c7 ?_;refine k9<|S3 2 J<|cA h Y4 J J λv1 _ h=>S2 1 J ?_;refine cN h (λhc h=>?_) λhc h=>?_
  .refine S4 3 J ?_;refine c5 ?_;cases h;exact⟨J,[_,_],⟨oL J J J u5 p7 nl J,⟨J,tr⟩⟩,J,io⟩
  .refine c7 ?_;refine dr [] s6 (by kernel_rfl) (by kernel_rfl)<|S7 4 J<|y4 h λv2 hv2 h=>d0 J (O6 (f:=iF) (cs:=[.I v2]) hv2 J J l6 o5 J J) J<|S7 4 J<|d7 J (λ_ hN=>p6 (cs:=[.I a1,.I a2]) J PD PQ J J J) J<|d7 J (λ_ hN=>vi (d:=.agg [.I a1,.I a2]) J) J<|y4 h λv3 hv3 h=>eE J (u7 J dB J hv3) J<|C9 (x':=b9.Pv v3) (cl':=true) J J (.inr J) p7<|S8 1 J<|c5 ?_;cases h;exact⟨J,[_,_],⟨oL J J J u5 p7 nl J,⟨J,tr⟩⟩,J,io⟩
theorem J0{a0 a1 a2}:PO Tryz.prog 279 [r7.Pv a0,.I a1,.I a2] (B9 a0 a1 a2) λr=>.tup [b9.Pv r.1,.I r.2]:=by
 refine pO Tryz.func279 λr h _ _=>?_;refine S4 3 J<|k9<|S4 2 J ?_;refine cN h (λhc h=>?_) λhc h=>?_
 .refine S4 5 J ?_;refine c5 ?_;cases h;exact⟨J,[_,_],⟨oL J J J u5 p7 nl J,⟨J,tr⟩⟩,J,io⟩
 .refine c7 ?_;refine S3 6 J<|cF h mS J J λv1 _ h=>S2 4 J<|c5 ?_;cases h;exact⟨J,[_,_],⟨oL J J J u5 p7 nl J,⟨J,tr⟩⟩,J,io⟩
theorem eR{a0}:PO Tryz.prog 203 [r7.Pv a0] (X6 a0) λr=>.tup [b9.Pv r.1,.I r.2]:=by
 refine pO Tryz.func203 λr h _ _=>?_;refine S4 3 J<|S3 9 J<|cF h AQ J J λv1 _ h=>S2 8 J<|k9<|S4 2 J ?_;refine cN h (λhc h=>?_) λhc h=>?_
 .refine S4 5 J ?_;refine c5 ?_;cases h;exact⟨J,[_,_],⟨oL J J J u5 p7 nl J,⟨J,tr⟩⟩,J,io⟩
 .refine c7 ?_;refine S4 4 J<|S3 2 J<|cF h J0 J J λv2 _ h=>S2 4 J<|c5 ?_;cases h;exact⟨J,[_,_],⟨oL J J J u5 p7 nl J,⟨J,tr⟩⟩,J,io⟩
theorem P8{a0 a1}:PO Tryz.prog 216 [b9.Pv a0,.I a1] (N7 a0 a1) λr=>.I r:=by
 refine pO Tryz.func216 λr h _ _=>?_;refine S4 2 J<|k9<|S3 3 J<|m9 J (λhg=>mI J)<|m9 J (λhg=>oF J DP J)<|m9 J (λhg=>oS (ct hg) J J mh J)<|m9 J (λhg=>bI (f:=iF) (ct hg) l6)<|m9 J (λhg=>D7 (ct hg) (ct hg) J)<|y0 J (P5 J J J (λq=>pM q))<|yN ?_;refine cN h (λhc h=>?_) λhc h=>?_
 .refine S4 1 J ?_;refine c5 ?_;cases h;exact f1
 .refine c7 ?_;refine S3 3 J<|iL h J J l6 o5 λv1 _ h=>S2 2 J<|c5 ?_;cases h;exact f1
theorem cD{a0}:PO Tryz.prog 204 [r7.Pv a0] (K8 a0) λr=>.tup [b9.Pv r.1,.I r.2]:=by
 refine pO Tryz.func204 λr h _ _=>?_;unfold K8 at h;refine S4 3 J<|dr [] s6 (by kernel_rfl) (by kernel_rfl)<|S7 6 J<|y4 h λv1 hv1 h=>d2 J (S9 J P8 J hv1) J<|y4 h λv2 hv2 h=>eE J (u7 J J0 J hv2) J<|S7 2 J<|C9 (x':=b9.Pv v2.1) (cl':=true) J J (.inr J) p7<|S8 1 J<|c5 ?_;cases h;exact⟨J,[_,_],⟨oL J J J u5 p7 nl J,⟨J,tr⟩⟩,J,io⟩
theorem gQ{a0}:PO Tryz.prog 205 [r7.Pv a0] (bm a0) λr=>.tup [b9.Pv r.1,.I r.2]:=by
 refine pO Tryz.func205 λr h _ _=>?_;refine S4 3 J<|S3 1 J<|cF h J0 J J λv1 _ h=>S2 4 J<|c5 ?_;cases h;exact⟨J,[_,_],⟨oL J J J u5 p7 nl J,⟨J,tr⟩⟩,J,io⟩
theorem U5{a0 a1}:PO Tryz.prog 280 [b9.Pv a0,.I a1] (O2 a0 a1) λr=>.tup [.I r.1,.I r.2]:=by
 refine pO Tryz.func280 λr h _ _=>?_;refine S4 3 J<|S3 2 J<|cA h P8 J J λv1 _ h=>S2 1 J<|k9<|S4 2 J ?_;refine cN h (λhc h=>?_) λhc h=>?_
 .refine S4 2 J ?_;refine c5 ?_;cases h;exact f2
 .refine c7 ?_;refine S4 3 J<|c5 ?_;cases h;exact f2
theorem px{a0 a1 a2}:PO Tryz.prog 281 [b6.Pv a0,.I a1,.I a2] (J2 a0 a1 a2) λr=>.tup [.I r.1,.I r.2]:=by
 refine pO Tryz.func281 λr h _ _=>?_;refine S4 3 J<|S3 2 J<|cF h C5 J J λv1 _ h=>S2 6 J<|k9<|S4 2 J ?_;refine cN h (λhc h=>?_) λhc h=>?_
 .refine S4 3 J ?_;refine c5 ?_;cases h;exact f2
 .refine c7 ?_;refine S3 3 J<|cA h BR J J λv2 _ h=>S2 4 J<|c5 ?_;cases h;exact f2
theorem gR{a0}:PO Tryz.prog 206 [r7.Pv a0] (bo a0) λr=>.tup [b9.Pv r.1,.I r.2]:=by
 refine pO Tryz.func206 λr h _ _=>?_;refine S4 3 J<|S3 5 J<|cA h U5 J J λv1 _ h=>S2 5 J<|k9<|S4 2 J ?_;refine cN h (λhc h=>?_) λhc h=>?_
 .refine S4 5 J ?_;refine c5 ?_;cases h;exact⟨J,[_,_],⟨oL J J J u5 p7 nl J,⟨J,tr⟩⟩,J,io⟩
 .refine c7 ?_;refine dr [] s6 (by kernel_rfl) (by kernel_rfl)<|S7 8 J<|y4 h λv2 hv2 h=>d2 J (S9 J px J hv2) J<|S7 2 J<|y4 h λv3 hv3 h=>eE J (u7 J J0 J hv3) J<|S7 2 J<|C9 (x':=b9.Pv v3.1) (cl':=true) J J (.inr J) p7<|S8 1 J<|c5 ?_;cases h;exact⟨J,[_,_],⟨oL J J J u5 p7 nl J,⟨J,tr⟩⟩,J,io⟩
theorem Dx{a0 a1 a2 a3}:PO Tryz.prog 350 [b6.Pv a0,.I a1,.I a2,.I a3] (qc a0 a1 a2 a3) λr=>.tup [b6.Pv r.1,.I r.2]:=by
 refine pO Tryz.func350 λr h _ _=>?_;refine S4 3 J<|S3 2 J<|cF h C5 J J λv1 _ h=>S2 6 J<|k9<|S4 2 J ?_;refine cN h (λhc h=>?_) λhc h=>?_
 .refine S4 4 J ?_;refine c5 ?_;cases h;exact⟨J,[_,_],⟨oL J J J mi mr nl J,⟨J,tr⟩⟩,J,io⟩
 .refine c7 ?_;refine k9<|S3 4 J<|cF h vV J J λv2 _ h=>S2 6 J<|S4 2 J ?_;refine cN h (λhc h=>?_) λhc h=>?_
  .refine S4 4 J ?_;refine c5 ?_;cases h;exact⟨J,[_,_],⟨oL J J J mi mr nl J,⟨J,tr⟩⟩,J,io⟩
  .refine c7 ?_;refine S3 3 J<|cF h cu J J λv3 _ h=>S2 4 J<|c5 ?_;cases h;exact⟨J,[_,_],⟨oL J J J mi mr nl J,⟨J,tr⟩⟩,J,io⟩
theorem mT{a0 a1}:PO Tryz.prog 321 [H2.Pv a0,b9.Pv a1] (cK a0 a1) λr=>b9.Pv r:=by
 refine pO Tryz.func321 λr h _ _=>?_;refine S4 3 J<|S3 8 J<|cF h Dx J J λv1 _ h=>S2 5 J<|S4 2 J<|c5 ?_;cases h;exact⟨J,[_],⟨oL J J J u5 p7 nl J,tr⟩,J,io⟩
theorem cX{a0 a1 a2 a3}:PO Tryz.prog 320 [b9.Pv a0,.I a1,.I a2,.abs (Sb 321 [H2.Pv a3])] (F9 a0 a1 a2 a3) λr=>b9.Pv r:=by
 refine pO Tryz.func320 λr h _ _=>?_;refine S4 2 J<|S3 3 J<|cF h eM J J λv1 _ h=>y4 h λv2 hv2 h=>DG (xs:=[b9.Pv v1]) J J Pj J (mT.2 _ hv2)<|S1 1 J<|cF h aF J J λv3 _ h=>S2 1 J<|c5 ?_;cases h;exact⟨J,[_],⟨oL J J J u5 p7 nl J,tr⟩,J,io⟩
theorem AI{a0 a1 a2 a3}:PO Tryz.prog 282 [b9.Pv a0,.I a1,.I a2,.I a3] (al a0 a1 a2 a3) λr=>.tup [b9.Pv r.1,.I r.2]:=by
 refine pO Tryz.func282 λr h _ _=>?_;refine S4 3 J<|S3 4 J<|cA h px J J λv1 _ h=>S2 5 J<|k9<|S4 2 J ?_;refine cN h (λhc h=>?_) λhc h=>?_
 .refine S4 4 J ?_;refine c5 ?_;cases h;exact⟨J,[_,_],⟨oL J J J u5 p7 nl J,⟨J,tr⟩⟩,J,io⟩
 .refine c7 ?_;refine k9<|S3 2 J<|cA h Y4 J J λv2 _ h=>S2 1 J ?_;refine cN h (λhc h=>?_) λhc h=>?_
  .refine S4 3 J ?_;refine c5 ?_;cases h;exact⟨J,[_,_],⟨oL J J J u5 p7 nl J,⟨J,tr⟩⟩,J,io⟩
  .refine c7 ?_;refine S3 6 J<|y0 J (p6 (cs:=[.I a1,.I a2,.I a3]) J PA PL J J J)<|y0 J (vi (d:=.agg [.I a1,.I a2,.I a3]) J)<|cF h cX J J λv3 _ h=>S2 2 J<|c5 ?_;cases h;exact⟨J,[_,_],⟨oL J J J u5 p7 nl J,⟨J,tr⟩⟩,J,io⟩
theorem fI{a0}:PO Tryz.prog 207 [r7.Pv a0] (aq a0) λr=>.tup [b9.Pv r.1,.I r.2]:=by
 refine pO Tryz.func207 λr h _ _=>?_;refine S4 3 J<|S3 5 J<|cA h U5 J J λv1 _ h=>S2 5 J<|k9<|S4 2 J ?_;refine cN h (λhc h=>?_) λhc h=>?_
 .refine S4 5 J ?_;refine c5 ?_;cases h;exact⟨J,[_,_],⟨oL J J J u5 p7 nl J,⟨J,tr⟩⟩,J,io⟩
 .refine c7 ?_;refine dr [] s6 (by kernel_rfl) (by kernel_rfl)<|S7 11 J<|y4 h λv2 hv2 h=>d2 J (S9 J P8 J hv2) J<|y4 h λv3 hv3 h=>eE J (u7 J AI J hv3) J<|S7 2 J<|C9 (x':=b9.Pv v3.1) (cl':=true) J J (.inr J) p7<|S8 1 J<|c5 ?_;cases h;exact⟨J,[_,_],⟨oL J J J u5 p7 nl J,⟨J,tr⟩⟩,J,io⟩
theorem oQ{a0 a1 a2}:PO Tryz.prog 323 [b9.Pv a0,.I a1,.I a2] (aa a0 a1 a2) λr=>b9.Pv r:=by
 refine pO Tryz.func323 λr h _ _=>?_;refine S4 2 J<|S3 4 J<|cA h K9 J J λv1 _ h=>S2 5 J<|k9<|S4 2 J ?_;refine cN h (λhc h=>?_) λhc h=>?_
 .refine S3 5 J ?_;refine iL h J J aX ab λv2 _ h=>S2 4 J<|S4 6 J<|S5 4 J<|cF h cu J J λv3 _ h=>S2 5 J<|S4 2 J<|c5 ?_;cases h;exact⟨J,[_],⟨oL J J J u5 p7 nl J,tr⟩,J,io⟩
 .refine c7 ?_;refine S4 2 J<|c5 ?_;cases h;exact⟨J,[_],⟨oL J J J u5 p7 nl J,tr⟩,J,io⟩
theorem fy{a0 a1}:PO Tryz.prog 293 [l4.Pv a0,.I a1] (Q1 a0 a1) λr=>.tup [l4.Pv r.1,.I r.2]:=by
 refine pO Tryz.func293 λr h _ _=>?_;refine S4 3 J<|S3 2 J<|cA h K9 J J λv1 _ h=>S2 5 J<|k9<|S4 2 J ?_;refine cN h (λhc h=>?_) λhc h=>?_
 .refine S4 4 J ?_;refine c5 ?_;cases h;exact⟨J,[_,_],⟨oL J J J hU eh nl J,⟨J,tr⟩⟩,J,io⟩
 .refine c7 ?_;refine S3 3 J<|iL h J J aX ab λv2 _ h=>S2 3 J<|k9<|S4 4 J ?_;refine cN h (λhc h=>?_) λhc h=>?_
  .refine S3 3 J ?_;refine y0 J (p6 (cs:=[.I 3,.I v2.Gen,.I 0,.I 0,.I 0,.I 0,.bool false,.nl]) J wM pG J J J)<|cF h L0 J J λv3 _ h=>S2 2 J<|c5 ?_;cases h;exact⟨J,[_,_],⟨oL J J J hU eh nl J,⟨J,tr⟩⟩,J,io⟩
  .refine c7 ?_;refine S3 4 J<|y0 J (p6 (cs:=[.I 0,.I (w7 (v2.Gen+1)),.I 0,.I 0,.I 0,.I 0,.bool false,.nl]) J wM pG J J J)<|cF h L0 J J λv4 _ h=>S2 2 J<|c5 ?_;cases h;exact⟨J,[_,_],⟨oL J J J hU eh nl J,⟨J,tr⟩⟩,J,io⟩
theorem uT{a0 a1}:PO Tryz.prog 322 [b9.Pv a0,.I a1] (aN a0 a1) λr=>b9.Pv r:=by
 refine pO Tryz.func322 λr h _ _=>?_;refine S4 2 J<|S3 2 J<|cF h oQ J J λv1 _ h=>S2 1 J<|S3 4 J<|cA h K9 J J λv2 _ h=>S2 5 J<|k9<|S4 2 J ?_;refine cN h (λhc h=>?_) λhc h=>?_
 .refine S4 2 J ?_;refine c5 ?_;cases h;exact⟨J,[_],⟨oL J J J u5 p7 nl J,tr⟩,J,io⟩
 .refine c7 ?_;refine k9<|S3 5 J<|iL h J J aX ab λv3 _ h=>S2 3 J<|S3 4 J<|m9 J (λhg=>oF J JP J)<|m9 J (λhg=>oF (ct hg) JO J)<|m9 J (λhg=>oS (ct hg) J J K2 J)<|m9 J (λhg=>D7 (ct hg) J J)<|y0 J (D1 J J J (λq=>kp q))<|yN ?_;refine cN h (λhc h=>?_) λhc h=>?_
  .refine S5 4 J ?_;refine cF h fy J J λv4 _ h=>S2 6 J<|S4 2 J<|c5 ?_;cases h;exact⟨J,[_],⟨oL J J J u5 p7 nl J,tr⟩,J,io⟩
  .refine c7 ?_;refine S4 2 J<|c5 ?_;cases h;exact⟨J,[_],⟨oL J J J u5 p7 nl J,tr⟩,J,io⟩
theorem te{a0 a1 a2 a3}:PO Tryz.prog 283 [b9.Pv a0,.I a1,.I a2,.I a3] (R3 a0 a1 a2 a3) λr=>.tup [b9.Pv r.1,.I r.2]:=by
 refine pO Tryz.func283 λr h _ _=>?_;unfold R3 at h;refine S4 3 J<|k9<|S3 3 J<|m9 J (λhg=>mI J)<|m9 J (λhg=>oF J Lr J)<|m9 J (λhg=>oS (ct hg) J J FV J)<|m9 J (λhg=>bI (f:=k7.Pv) (ct hg) T7)<|m9 J (λhg=>D7 (ct hg) (ct hg) J)<|y0 J (P5 J J J (λq=>pM q))<|S1 1 J<|m9 J (λhg=>oF J Lt J)<|m9 J (λhg=>oL (ct hg) J J jj cG nl J)<|m9 J (λhg=>mI J)<|y4 h λv1 hv1 h=>m9 J (λhg=>S9 J qT (aE (ct hg) (aE (ct hg) J)) (br hv1 hg))<|y0 J (P5 J J J (λq=>pM q))<|yN ?_;refine cN h (λhc h=>?_) λhc h=>?_
 .refine S4 3 J ?_;refine c5 ?_;cases h;exact⟨J,[_,_],⟨oL J J J u5 p7 nl J,⟨J,tr⟩⟩,J,io⟩
 .refine c7 ?_;refine k9<|S3 2 J<|cA h Y4 J J λv2 _ h=>S2 1 J ?_;refine cN h (λhc h=>?_) λhc h=>?_
  .refine S4 3 J ?_;refine c5 ?_;cases h;exact⟨J,[_,_],⟨oL J J J u5 p7 nl J,⟨J,tr⟩⟩,J,io⟩
  .refine c7 ?_;refine S3 5 J<|cF h wa J J λv3 _ h=>S2 7 J<|S4 3 J<|S3 2 J<|cF h oQ J J λv4 _ h=>S1 1 J<|cF h uT J J λv5 _ h=>S2 2 J<|c5 ?_;cases h;exact⟨J,[_,_],⟨oL J J J u5 p7 nl J,⟨J,tr⟩⟩,J,io⟩
theorem eT{a0}:PO Tryz.prog 208 [r7.Pv a0] (L2 a0) λr=>.tup [b9.Pv r.1,.I r.2]:=by
 refine pO Tryz.func208 λr h _ _=>?_;refine S4 3 J<|k9<|S4 4 J ?_;refine cN h (λhc h=>?_) λhc h=>?_
 .refine S3 8 J ?_;refine cF h te J J λv1 _ h=>S2 4 J<|c5 ?_;cases h;exact⟨J,[_,_],⟨oL J J J u5 p7 nl J,⟨J,tr⟩⟩,J,io⟩
 .refine c7 ?_;refine S3 5 J<|cA h U5 J J λv2 _ h=>S2 5 J<|k9<|S4 2 J ?_;refine cN h (λhc h=>?_) λhc h=>?_
  .refine S4 5 J ?_;refine c5 ?_;cases h;exact⟨J,[_,_],⟨oL J J J u5 p7 nl J,⟨J,tr⟩⟩,J,io⟩
  .refine c7 ?_;refine S3 9 J<|cF h te J J λv3 _ h=>S2 4 J<|c5 ?_;cases h;exact⟨J,[_,_],⟨oL J J J u5 p7 nl J,⟨J,tr⟩⟩,J,io⟩
theorem jz{a0}:PO Tryz.prog 209 [r7.Pv a0] (aG a0) λr=>.tup [b9.Pv r.1,.I r.2]:=by
 refine pO Tryz.func209 λr h _ _=>?_;unfold aG at h;refine S4 3 J<|dr [] s6 (by kernel_rfl) (by kernel_rfl)<|S7 7 J<|y4 h λv1 hv1 h=>d2 J (S9 J uw J hv1) J<|S7 2 J<|y4 h λv2 hv2 h=>eE J (u7 J J0 J hv2) J<|S7 2 J<|C9 (x':=b9.Pv v2.1) (cl':=true) J J (.inr J) p7<|S8 1 J<|c5 ?_;cases h;exact⟨J,[_,_],⟨oL J J J u5 p7 nl J,⟨J,tr⟩⟩,J,io⟩
theorem sX{a0 a1}:PO Tryz.prog 354 [.I a0,.I a1] (iZ a0 a1) λr=>.fn (.func 364) [.rptr [.I r.1],.rptr [.I r.2]]:=by
 refine pO Tryz.func354 λr h _ _=>?_;unfold iZ at h;refine S4 3 J<|S4 2 J<|c5 ?_;cases h;exact f1
theorem sU{a0 a1}:PO Tryz.prog 365 [.I a0,.I a1] (dQ a0 a1) λr=>.I r:=by
 refine pO Tryz.func365 λr h _ _=>?_;refine S4 1 J<|k9<|S4 2 J ?_;refine cN h (λhc h=>?_) λhc h=>?_
 .refine S4 1 J ?_;refine c5 ?_;cases h;exact f1
 .refine c7 ?_;refine S3 4 J<|y4 h λv1 hv1 h=>y0 J (vL J J hv1)<|S2 1 J<|k9<|S4 2 J ?_;refine cN h (λhc h=>?_) λhc h=>?_
  .refine S6 4 J ?_;refine S4 2 J<|c5 ?_;cases h;exact f1
  .refine c7 ?_;refine S4 2 J<|c5 ?_;cases h;exact f1
theorem mP{a0 a1}:PO Tryz.prog 332 [.L g5.Pv a0,.I a1] (aM a0 a1) λr=>.I r:=by
 refine pO Tryz.func332 λr h _ _=>?_;refine S4 3 J ?_;refine jq h (λ_=>St.of [(4,.ptr 2001 0 0)] [(2001,vR (.I 0) 1)]) (λq9 h=>?_) λκ8 h=>?_
 .refine S4 1 J ?_;refine c5 ?_;cases h;exact⟨J,[_],⟨oS J J J K2 J,tr⟩,J,io⟩
 .refine S3 1 J ?_;refine nL J dv<|S1 1 J<|cF h sX J J λv10 _ h=>yN<|k8<|bK (rR (λl=>if l=2004 then 4 else if l=2005 then 3 else if l=2006 then 2 else l) [(2,.ptr 2006 0 0),(3,.ptr 2005 0 0),(4,.ptr 2004 0 0),(9,.fn (.func 364) [.rptr [.I v10.1],.rptr [.I v10.2]])] [(2004,vR (.I 0) 1),(2005,vR (.I a1) 1),(2006,vR (.L g5.Pv a0) 1)]) ?_;refine bJ (fn:=Tryz.f364) (N1:=20) J Tryz.func364 J J nl J HG J J (λl17 e18 o19 hR20=>?_);refine S4 2 J<|k8<|lq h (λs12=>St.of [(1000002,.ptr 2006 0 0),(1000003,.ptr 2005 0 0),(1000004,.ptr 2004 0 0),(1000009,.fn (.func 364) [.rptr [.I v10.1],.rptr [.I v10.2]]),(0,.fn (.yield l17) []),(1,.rptr [.I v10.1]),(2,.rptr [.I v10.2]),(5,.I v10.1),(6,.I s12)] [(2004,vR (.I 0) 1),(2005,vR (.I a1) 1),(2006,vR (.L g5.Pv a0) 1)]) W λs12 x13 h hx23=>S4 1 J<|k9 ?_;refine cN h (λhc h=>?_) λhc h=>?_
  .refine c7 ?_;refine k9<|k8<|S4 2 J<|Xp [] 8 s6 (by kernel_rfl) (by kernel_rfl) (by kernel_rfl) (by kernel_rfl) nl<|S7 3 J<|y4 h λv14 hv24 h=>d2 J (S9 J sU J hv24) J<|S7 3 J<|y4 h λv15 hv25 h=>d7 J (λ_ hN=>vL J J hv25) J<|K5<|CT (WE [(1000002,.ptr 2006 0 0),(1000003,.ptr 2005 0 0),(1000004,.ptr 2004 0 0),(1000009,.fn (.func 364) [.rptr [.I v10.1],.rptr [.I v10.2]]),(0,.fn (.yield l17) []),(1,.rptr [.I v10.1]),(2,.rptr [.I v10.2]),(5,.I v10.1),(6,.I s12),(9,.fn (.yield l17) []),(16,.I v15)] [(2004,vR (.I 0) 1),(2005,vR (.I a1) 1),(2006,vR (.L g5.Pv a0) 1)]) ?_;refine An J hR20 J J J J J J (λe26 o27 o28=>?_);refine S6 1 J ?_;refine⟨J,?_⟩;refine k8<|k9<|S3 2 J<|iL h J J dv dh λv16 hv29 h=>S2 3 J ?_;refine cN h (λhc h=>?_) λhc h=>?_
   .refine o6 ?_;refine g6<|mA (by decide) ?_;refine⟨J,?_⟩;refine⟨_,uy [(1000002,.ptr 2006 0 0),(1000003,.ptr 2005 0 0),(1000004,.ptr 2004 0 0),(1000009,.fn (.func 364) [.rptr [.I v10.1],.rptr [.I v10.2]]),(0,.fn (.yield l17) []),(1,.rptr [.I v10.1]),(2,.rptr [.I v10.2]),(5,.I v10.1),(6,.I s12),(17,.bool false)] [(2004,vR (.I 0) 1),(2005,vR (.I a1) 1),(2006,vR (.L g5.Pv a0) 1)] ⟨J,J,J,J,J,J,J,J,J,J,J,J,J,J,J,J,J,J,J,J,J,J,J,J,J,J,J,J,J,J,tr⟩ ⟨rS,rS,rS,tr⟩,?_⟩;refine S8 1 J ?_;refine G5 true J (λ_=>?_) (λq=>nomatch q);refine c5 ?_;refine .inr ⟨.exit 0,J,XU ?_⟩;refine l7 ?_;have h:=xL hx23 h;exact eJ h (WP (λl=>if l=2001 then 2004 else l))
   .refine c7 ?_;refine dr [] s6 (by kernel_rfl) (by kernel_rfl)<|S7 2 J<|d0 J (O6 (f:=g5.Pv) (cs:=g5.Pc v16) hv29 J J dv dh J J) J<|S7 4 J<|Be J (λhg=>oS J J J BX J) J<|sy J (λhg _ hN=>mI J) J ?_;refine Be J (λhg=>O6 (f:=g5.Pv) (cs:=g5.Pc v16) hv29 (ct hg) (ct hg) dv dh J J) J<|sy J (λhg _ hN=>aw (ct hg) JQ J) J ?_;refine Be J (λhg=>U9 (ct hg) K2 J) J<|Be J (λhg=>oS J J J K2 J) J<|sy J (λhg _ hN=>D7 (ct hg) (ct hg) J) J<|d7 J (λ_ hN=>D1 J J J (λq=>kp q)) J<|K5 ?_;refine cN h (λhc h=>?_) λhc h=>?_
    .refine S4 2 J ?_;refine c5 ?_;refine⟨J,?_⟩;refine⟨_,uy [(1000002,.ptr 2006 0 0),(1000003,.ptr 2005 0 0),(1000004,.ptr 2004 0 0),(1000009,.fn (.func 364) [.rptr [.I v10.1],.rptr [.I v10.2]]),(0,.fn (.yield l17) []),(1,.rptr [.I v10.1]),(2,.rptr [.I v10.2]),(5,.I v10.1),(6,.I s12),(17,.bool false)] [(2004,vR (.I v15) 1),(2005,vR (.I a1) 1),(2006,vR (.L g5.Pv a0) 1)] ⟨J,J,J,J,J,J,J,J,J,J,J,J,J,J,J,J,J,J,J,J,J,J,J,J,J,J,J,J,J,J,tr⟩ ⟨rS,rS,rS,tr⟩,?_⟩;refine S8 1 J ?_;refine G5 true J (λ_=>?_) (λq=>nomatch q);refine c5 ?_;refine .inr ⟨.ret,J,Qx ?_⟩;have h:=xL hx23 h;cases h;exact⟨J,[_],⟨oS J J J K2 J,tr⟩,J,io⟩
    .refine c7 ?_;refine⟨J,?_⟩;refine⟨_,uy [(1000002,.ptr 2006 0 0),(1000003,.ptr 2005 0 0),(1000004,.ptr 2004 0 0),(1000009,.fn (.func 364) [.rptr [.I v10.1],.rptr [.I v10.2]]),(0,.fn (.yield l17) []),(1,.rptr [.I v10.1]),(2,.rptr [.I v10.2]),(5,.I v10.1),(6,.I s12),(17,.bool true)] [(2004,vR (.I 0) 1),(2005,vR (.I a1) 1),(2006,vR (.L g5.Pv a0) 1)] ⟨J,J,J,J,J,J,J,J,J,J,J,J,J,J,J,J,J,J,J,J,J,J,J,J,J,J,J,J,J,J,tr⟩ ⟨rS,rS,rS,tr⟩,?_⟩;refine S8 1 J ?_;refine G5 false J (λq=>nomatch q) (λ_=>?_);refine c7<|S6 2 J ?_;exact eL h W
  .refine o6 ?_;refine g6<|g6<|l7 ?_;refine .inl ⟨J,?_⟩;have h:=xL hx23 h;exact eJ h (WP (λl=>if l=2001 then 2004 else l))
theorem kq{a0 a1}:PO Tryz.prog 326 [.L g5.Pv a0,.I a1] (Y2 a0 a1) λr=>.tup [.I r.1,.I r.2]:=by
 refine pO Tryz.func326 λr h _ _=>?_;refine S4 2 J<|S3 2 J<|cA h mP J J λv1 _ h=>S2 1 J<|k9<|S4 2 J ?_;refine cN h (λhc h=>?_) λhc h=>?_
 .refine S4 2 J ?_;refine c5 ?_;cases h;exact f2
 .refine c7 ?_;refine S3 2 J<|iL h J J dv dh λv2 _ h=>S2 4 J<|c5 ?_;cases h;exact f2
theorem bP{a0}:OP Tryz.prog 355 [.L g5.Pv a0] (E7 a0) λr=>⟨List.map g5.Pv r,0,true,3,true⟩:=by
 refine SH Tryz.func355 λr h _ _=>?_;unfold E7 at h;refine S4 1 J<|k9<|S3 1 J<|uz J dv λb hb=>yN ?_;refine G5 b J (λhc=>?_) (λhc=>?_)
 .obtain rfl:a0 = []:=by simpa using hb hc
  refine S4 1 J<|bK (F8 (t:=2) (l:=920000) (z:=3) J J)<|c5 ?_;cases h;exact⟨J,_,_,J,J,J,J⟩
 .refine c7 ?_;refine sR<|y0 J (jF J dv dh)<|S1 1 J<|y1 J (yv (f:=g5.Pv) h J J (.inl ⟨_,J,J⟩) dv dh HD wO J (λ_=>J)) J<|S2 1 J<|c5 ?_;exact⟨J,_,_,J,J,J,J⟩
theorem mQ{a0 a1 a2}:PO Tryz.prog 333 [.L g5.Pv a0,.I a1,g5.Pv a2] (dR a0 a1 a2) λr=>.L g5.Pv r:=by
 refine pO Tryz.func333 λr h _ _=>?_;unfold dR at h;refine S4 2 J<|S3 1 J<|y4 h λv1 hv1 h=>JF J (gT J bP J hv1) J J<|S2 1 J<|S3 3 J<|y4 h λv2 hv2 h=>y0 J (aJ (f:=g5.Pv) hv2 J J J J dv dh J)<|nU (f:=g5.Pv) (v:=a2) hv2 J J (.inl J) dh<|yN<|S4 2 J<|c5 ?_;cases h;exact f1
theorem sS{a0 a1}:PO Tryz.prog 291 [.L g5.Pv a0,.I a1] (aL a0 a1) λr=>.tup [.L g5.Pv r.1,.I r.2.1,.I r.2.2]:=by
 refine pO Tryz.func291 λr h _ _=>?_;refine S4 3 J<|S3 2 J<|cA h mP J J λv1 _ h=>S2 1 J<|k9<|S4 2 J ?_;refine cN h (λhc h=>?_) λhc h=>?_
 .refine S4 4 J ?_;refine c5 ?_;cases h;exact f3
 .refine c7 ?_;refine dr [] s6 (by kernel_rfl) (by kernel_rfl)<|S7 2 J<|d7 J (λ_ hN=>p6 (cs:=[.I 2,.I 0,.I 0]) J HK wO J J J) J<|y4 h λv2 hv2 h=>eE J (u7 J mQ J hv2) J<|S7 2 J<|y4 h λv3 hv3 h=>d0 J (O6 (f:=g5.Pv) (cs:=g5.Pc v3) hv3 J J dv dh J J) J<|S8 5 J<|c5 ?_;cases h;exact f3
theorem En{a0 a1 a2}:PO Tryz.prog 351 [.L g5.Pv a0,.I a1,.I a2] (oN a0 a1 a2) λr=>.tup [.L g5.Pv r.1,.I r.2]:=by
 refine pO Tryz.func351 λr h _ _=>?_;refine S4 3 J<|S3 2 J<|y0 J (p6 (cs:=[.I 1,.I a1,.I a2]) J HK wO J J J)<|S2 2 J<|k9<|S3 2 J<|cA h mP J J λv1 _ h=>S2 1 J<|S4 2 J ?_;refine cN h (λhc h=>?_) λhc h=>?_
 .refine S3 3 J ?_;refine cF h mQ J J λv2 _ h=>S2 2 J<|c5 ?_;cases h;exact⟨J,[_,_],⟨oS J J J BX J,⟨oS J J J uD J,tr⟩⟩,J,io⟩
 .refine c7 ?_;refine jq h (λ_=>St.of [(3,.ptr 2004 0 0),(6,.ptr 2003 0 0),(7,.ptr 2002 0 0)] [(2002,vR (.I 0) 1),(2003,vR (.nl) 1),(2004,vR (.L g5.Pv a0) 1)]) (λq12 h=>?_) λκ11 h=>?_
  .refine S4 3 J ?_;refine c5 ?_;cases h;exact⟨J,[_,_],⟨oS J J J BX J,⟨oS J J J uD J,tr⟩⟩,J,io⟩
  .refine S3 1 J ?_;refine nL J dv<|S1 1 J<|cF h sX J J λv13 _ h=>yN<|k8<|bK (rR (λl=>if l=2005 then 8 else if l=2006 then 7 else if l=2007 then 6 else if l=2008 then 3 else l) [(3,.ptr 2008 0 0),(6,.ptr 2007 0 0),(7,.ptr 2006 0 0),(8,.ptr 2005 0 0),(26,.fn (.func 364) [.rptr [.I v13.1],.rptr [.I v13.2]])] [(2005,vR (.agg [.I 1,.I a1,.I a2]) 3),(2006,vR (.I 0) 1),(2007,vR (.nl) 1),(2008,vR (.L g5.Pv a0) 1)]) ?_;refine bJ (fn:=Tryz.f364) (N1:=20) J Tryz.func364 J J nl J HG J J (λl20 e21 o22 hR23=>?_);refine S4 2 J<|k8<|lq h (λs15=>St.of [(1000003,.ptr 2008 0 0),(1000006,.ptr 2007 0 0),(1000007,.ptr 2006 0 0),(1000008,.ptr 2005 0 0),(1000026,.fn (.func 364) [.rptr [.I v13.1],.rptr [.I v13.2]]),(0,.fn (.yield l20) []),(1,.rptr [.I v13.1]),(2,.rptr [.I v13.2]),(5,.I v13.1),(6,.I s15)] [(2005,vR (.agg [.I 1,.I a1,.I a2]) 3),(2006,vR (.I 0) 1),(2007,vR (.nl) 1),(2008,vR (.L g5.Pv a0) 1)]) W λs15 x16 h hx26=>S4 1 J<|k9 ?_;refine cN h (λhc h=>?_) λhc h=>?_
   .refine c7 ?_;refine k9<|k8<|S4 2 J<|Xp [] 8 s6 (by kernel_rfl) (by kernel_rfl) (by kernel_rfl) (by kernel_rfl) nl<|S7 3 J<|y4 h λv17 hv27 h=>d2 J (S9 J sU J hv27) J<|S7 3 J<|y4 h λv18 hv28 h=>d7 J (λ_ hN=>vL J J hv28) J<|K5<|CT (WE [(1000003,.ptr 2008 0 0),(1000006,.ptr 2007 0 0),(1000007,.ptr 2006 0 0),(1000008,.ptr 2005 0 0),(1000026,.fn (.func 364) [.rptr [.I v13.1],.rptr [.I v13.2]]),(0,.fn (.yield l20) []),(1,.rptr [.I v13.1]),(2,.rptr [.I v13.2]),(5,.I v13.1),(6,.I s15),(9,.fn (.yield l20) []),(16,.I v18)] [(2005,vR (.agg [.I 1,.I a1,.I a2]) 3),(2006,vR (.I 0) 1),(2007,vR (.nl) 1),(2008,vR (.L g5.Pv a0) 1)]) ?_;refine An J hR23 J J J J J J (λe29 o30 o31=>?_);refine S6 1 J ?_;refine⟨J,?_⟩;refine k8<|S3 2 J<|iL h J J dv dh λv19 _ h=>S2 3 J ?_;refine cN h (λhc h=>?_) λhc h=>?_
    .refine S3 3 J ?_;refine cF h mQ J J λv20 _ h=>S2 2 J<|c5 ?_;refine⟨J,?_⟩;refine⟨_,uy [(1000003,.ptr 2008 0 0),(1000006,.ptr 2007 0 0),(1000007,.ptr 2006 0 0),(1000008,.ptr 2005 0 0),(1000026,.fn (.func 364) [.rptr [.I v13.1],.rptr [.I v13.2]]),(0,.fn (.yield l20) []),(1,.rptr [.I v13.1]),(2,.rptr [.I v13.2]),(5,.I v13.1),(6,.I s15),(17,.bool false)] [(2005,vR (.agg [.I 1,.I a1,.I a2]) 3),(2006,vR (.I 0) 1),(2007,vR (.L g5.Pv v20) 1),(2008,vR (.L g5.Pv a0) 1)] ⟨J,J,J,J,J,J,J,J,J,J,J,J,J,J,J,J,J,J,J,J,J,J,J,J,J,J,J,J,J,J,J,J,J,tr⟩ ⟨rS,rS,rS,rS,tr⟩,?_⟩;refine S8 1 J ?_;refine G5 true J (λ_=>?_) (λq=>nomatch q);refine c5 ?_;refine .inr ⟨.ret,J,Qx ?_⟩;have h:=xL hx26 h;cases h;exact⟨J,[_,_],⟨oS J J J BX J,⟨oS J J J uD J,tr⟩⟩,J,io⟩
    .refine c7 ?_;refine⟨J,?_⟩;refine⟨_,uy [(1000003,.ptr 2008 0 0),(1000006,.ptr 2007 0 0),(1000007,.ptr 2006 0 0),(1000008,.ptr 2005 0 0),(1000026,.fn (.func 364) [.rptr [.I v13.1],.rptr [.I v13.2]]),(0,.fn (.yield l20) []),(1,.rptr [.I v13.1]),(2,.rptr [.I v13.2]),(5,.I v13.1),(6,.I s15),(17,.bool true)] [(2005,vR (.agg [.I 1,.I a1,.I a2]) 3),(2006,vR (.I 0) 1),(2007,vR (.nl) 1),(2008,vR (.L g5.Pv a0) 1)] ⟨J,J,J,J,J,J,J,J,J,J,J,J,J,J,J,J,J,J,J,J,J,J,J,J,J,J,J,J,J,J,J,J,J,tr⟩ ⟨rS,rS,rS,rS,tr⟩,?_⟩;refine S8 1 J ?_;refine G5 false J (λq=>nomatch q) (λ_=>?_);refine c7<|S6 2 J ?_;exact eL h W
   .refine o6 ?_;refine g6<|g6<|l7 ?_;refine .inl ⟨J,?_⟩;have h:=xL hx26 h;exact eJ h (WP (λl=>if l=2004 then 2008 else if l=2003 then 2007 else if l=2002 then 2006 else l))
theorem Cn{a0 a1 a2}:PO Tryz.prog 324 [.L g5.Pv a0,.I a1,.I a2] (U1 a0 a1 a2) λr=>.tup [.L g5.Pv r.1,.I r.2.1,.I r.2.2]:=by
 refine pO Tryz.func324 λr h _ _=>?_;refine S4 3 J<|k9<|S4 2 J ?_;refine cN h (λhc h=>?_) λhc h=>?_
 .refine S4 4 J ?_;refine c5 ?_;cases h;exact f3
 .refine c7 ?_;refine S3 2 J<|cA h kq J J λv1 _ h=>S2 5 J<|k9<|S4 2 J ?_;refine cN h (λhc h=>?_) λhc h=>?_
  .refine S3 2 J ?_;refine cF h sS J J λv2 _ h=>S2 7 J<|S4 5 J<|c5 ?_;cases h;exact f3
  .refine c7 ?_;refine S3 3 J<|cF h En J J λv3 _ h=>S2 5 J<|k9<|S4 2 J ?_;refine cN h (λhc h=>?_) λhc h=>?_
   .refine S4 5 J ?_;refine c5 ?_;cases h;exact f3
   .refine c7 ?_;refine S4 5 J<|c5 ?_;cases h;exact f3
theorem nX{a0 a1}:PO Tryz.prog 325 [K6.Pv a0,b9.Pv a1] (ao a0 a1) λr=>b9.Pv r:=by
 refine pO Tryz.func325 λr h _ _=>?_;unfold ao at h;refine S4 3 J<|S4 4 J<|S4 2 J<|c5 ?_;cases h;exact⟨J,[_],⟨oL J J J u5 p7 nl J,tr⟩,J,io⟩
theorem dA{a0 a1 a2 a3}:PO Tryz.prog 320 [b9.Pv a0,.I a1,.I a2,.abs (Sb 325 [K6.Pv a3])] (D6 a0 a1 a2 a3) λr=>b9.Pv r:=by
 refine pO Tryz.func320 λr h _ _=>?_;refine S4 2 J<|S3 3 J<|cF h eM J J λv1 _ h=>y4 h λv2 hv2 h=>DG (xs:=[b9.Pv v1]) J J Pk J (nX.2 _ hv2)<|S1 1 J<|cF h aF J J λv3 _ h=>S2 1 J<|c5 ?_;cases h;exact⟨J,[_],⟨oL J J J u5 p7 nl J,tr⟩,J,io⟩
theorem CB{a0 a1 a2}:PO Tryz.prog 284 [b9.Pv a0,.I a1,.I a2] (bW a0 a1 a2) λr=>.tup [b9.Pv r.1,.I r.2]:=by
 refine pO Tryz.func284 λr h _ _=>?_;refine S4 3 J<|k9<|S4 2 J ?_;refine cN h (λhc h=>?_) λhc h=>?_
 .refine S4 3 J ?_;refine c5 ?_;cases h;exact⟨J,[_,_],⟨oL J J J u5 p7 nl J,⟨J,tr⟩⟩,J,io⟩
 .refine c7 ?_;refine k9<|S3 2 J<|cA h Y4 J J λv1 _ h=>S1 2 J<|m9 J (λhg=>oL J J J u5 p7 nl J)<|m9 J (λhg=>mI J)<|y4 h λv2 hv2 h=>m9 J (λhg=>S9 J Y4 (aE (ct hg) (aE (ct hg) J)) (br hv2 hg))<|m9 J (λhg=>dT (ct hg) J)<|y0 J (P5 J J J (λq=>pM q))<|yN ?_;refine cN h (λhc h=>?_) λhc h=>?_
  .refine S4 3 J ?_;refine c5 ?_;cases h;exact⟨J,[_,_],⟨oL J J J u5 p7 nl J,⟨J,tr⟩⟩,J,io⟩
  .refine c7 ?_;refine S3 4 J<|cF h Cn J J λv3 _ h=>S2 7 J<|k9<|S4 2 J ?_;refine cN h (λhc h=>?_) λhc h=>?_
   .refine S4 4 J ?_;refine c5 ?_;cases h;exact⟨J,[_,_],⟨oL J J J u5 p7 nl J,⟨J,tr⟩⟩,J,io⟩
   .refine c7 ?_;refine S3 4 J<|y0 J (p6 (cs:=[.L g5.Pv v3.1]) J PB PM J J J)<|y0 J (vi (d:=.agg [.L g5.Pv v3.1]) J)<|cF h dA J J λv4 _ h=>S2 2 J<|c5 ?_;cases h;exact⟨J,[_,_],⟨oL J J J u5 p7 nl J,⟨J,tr⟩⟩,J,io⟩
theorem gS{a0}:PO Tryz.prog 210 [r7.Pv a0] (bp a0) λr=>.tup [b9.Pv r.1,.I r.2]:=by
 refine pO Tryz.func210 λr h _ _=>?_;refine S4 3 J<|S3 5 J<|cA h U5 J J λv1 _ h=>S2 5 J<|k9<|S4 2 J ?_;refine cN h (λhc h=>?_) λhc h=>?_
 .refine S4 5 J ?_;refine c5 ?_;cases h;exact⟨J,[_,_],⟨oL J J J u5 p7 nl J,⟨J,tr⟩⟩,J,io⟩
 .refine c7 ?_;refine dr [] s6 (by kernel_rfl) (by kernel_rfl)<|S7 8 J<|y4 h λv2 hv2 h=>d2 J (S9 J P8 J hv2) J<|y4 h λv3 hv3 h=>eE J (u7 J CB J hv3) J<|S7 2 J<|C9 (x':=b9.Pv v3.1) (cl':=true) J J (.inr J) p7<|S8 1 J<|c5 ?_;cases h;exact⟨J,[_,_],⟨oL J J J u5 p7 nl J,⟨J,tr⟩⟩,J,io⟩
theorem Cm{a0 a1}:PO Tryz.prog 285 [.L g5.Pv a0,.I a1] (uK a0 a1) λr=>.tup [.I r.1,.I r.2]:=by
 refine pO Tryz.func285 λr h _ _=>?_;refine S4 2 J<|S3 2 J<|cA h kq J J λv1 _ h=>S2 4 J<|c5 ?_;cases h;exact f2
theorem iD{a0}:PO Tryz.prog 211 [r7.Pv a0] (bZ a0) λr=>.tup [b9.Pv r.1,.I r.2]:=by
 refine pO Tryz.func211 λr h _ _=>?_;refine S4 3 J<|S3 5 J<|cA h U5 J J λv1 _ h=>S2 5 J<|k9<|S4 2 J ?_;refine cN h (λhc h=>?_) λhc h=>?_
 .refine S4 5 J ?_;refine c5 ?_;cases h;exact⟨J,[_,_],⟨oL J J J u5 p7 nl J,⟨J,tr⟩⟩,J,io⟩
 .refine c7 ?_;refine dr [] s6 (by kernel_rfl) (by kernel_rfl)<|S7 5 J<|y4 h λv2 hv2 h=>d2 J (S9 J Cm J hv2) J<|S7 2 J<|y4 h λv3 hv3 h=>eE J (u7 J J0 J hv3) J<|S7 2 J<|C9 (x':=b9.Pv v3.1) (cl':=true) J J (.inr J) p7<|S8 1 J<|c5 ?_;cases h;exact⟨J,[_,_],⟨oL J J J u5 p7 nl J,⟨J,tr⟩⟩,J,io⟩
theorem fH{a0}:PO Tryz.prog 212 [r7.Pv a0] (R8 a0) λr=>.tup [b9.Pv r.1,.I r.2]:=by
 refine pO Tryz.func212 λr h _ _=>?_;unfold R8 at h;refine S4 3 J<|S4 4 J<|c5 ?_;cases h;exact⟨J,[_,_],⟨oL J J J u5 p7 nl J,⟨J,tr⟩⟩,J,io⟩
theorem GG{f:Fv}{a0:r7}{r:b9 × Int}(h:xa f a0=some r):∃n,f=some n/\B3 Tryz.prog n/\aV Tryz.prog n [r7.Pv a0] (.tup [b9.Pv r.1,.I r.2]):=by
 unfold xa at h;by_cases e203:f=some 203
 .rw[zb e203] at h;exact⟨203,e203,(@eR a0).1,(@eR a0).2 _ h⟩
 rw[za e203] at h;by_cases e204:f=some 204
 .rw[zb e204] at h;exact⟨204,e204,(@cD a0).1,(@cD a0).2 _ h⟩
 rw[za e204] at h;by_cases e205:f=some 205
 .rw[zb e205] at h;exact⟨205,e205,(@gQ a0).1,(@gQ a0).2 _ h⟩
 rw[za e205] at h;by_cases e206:f=some 206
 .rw[zb e206] at h;exact⟨206,e206,(@gR a0).1,(@gR a0).2 _ h⟩
 rw[za e206] at h;by_cases e207:f=some 207
 .rw[zb e207] at h;exact⟨207,e207,(@fI a0).1,(@fI a0).2 _ h⟩
 rw[za e207] at h;by_cases e208:f=some 208
 .rw[zb e208] at h;exact⟨208,e208,(@eT a0).1,(@eT a0).2 _ h⟩
 rw[za e208] at h;by_cases e209:f=some 209
 .rw[zb e209] at h;exact⟨209,e209,(@jz a0).1,(@jz a0).2 _ h⟩
 rw[za e209] at h;by_cases e210:f=some 210
 .rw[zb e210] at h;exact⟨210,e210,(@gS a0).1,(@gS a0).2 _ h⟩
 rw[za e210] at h;by_cases e211:f=some 211
 .rw[zb e211] at h;exact⟨211,e211,(@iD a0).1,(@iD a0).2 _ h⟩
 rw[za e211] at h;by_cases e212:f=some 212
 .rw[zb e212] at h;exact⟨212,e212,(@fH a0).1,(@fH a0).2 _ h⟩
 rw[za e212] at h;cases h
theorem ln{a0}:PO Tryz.prog 233 [.I a0] (cV a0) λr=>.bool r:=by
 refine pO Tryz.func233 λr h _ _=>?_;unfold cV at h;refine S4 1 J<|S4 4 J<|c5 ?_;cases h;exact f1
theorem qY{a0 a1}:PO Tryz.prog 135 [.I a0,.I a1] (hZ a0 a1) λr=>.I r:=by
 refine pO Tryz.func135 λr h _ _=>?_;refine S4 1 J<|S3 1 J<|cA h ln J J λv1 _ h=>S2 1 J<|S3 1 J<|cA h ln J J λv2 _ h=>S2 1 J<|k9<|S4 1 J ?_;refine cN h (λhc h=>?_) λhc h=>?_
 .refine k9 ?_;refine S4 1 J ?_;refine cN h (λhc h=>?_) λhc h=>?_
  .refine S4 1 J ?_;refine c5 ?_;cases h;exact f1
  .refine c7 ?_;refine S4 1 J<|c5 ?_;cases h;exact f1
 .refine c7 ?_;refine k9<|S4 1 J ?_;refine cN h (λhc h=>?_) λhc h=>?_
  .refine S4 1 J ?_;refine c5 ?_;cases h;exact f1
  .refine c7 ?_;refine k9<|S4 3 J ?_;refine cN h (λhc h=>?_) λhc h=>?_
   .refine S4 1 J ?_;refine c5 ?_;cases h;exact f1
   .refine c7 ?_;refine k9<|S4 3 J ?_;refine cN h (λhc h=>?_) λhc h=>?_
    .refine S4 1 J ?_;refine c5 ?_;cases h;exact f1
    .refine c7 ?_;refine S4 1 J<|c5 ?_;cases h;exact f1
theorem wG{a0 a1 a2}:PO Tryz.prog 134 [.I a0,.I a1,.rptr [.abs (T6 (List.map (bU iF iF) a2))]] (iU a0 a1 a2) λr=>.I r:=by
 refine pO Tryz.func134 λr h _ _=>?_;refine S4 1 J<|S3 2 J<|y0 J (BE (es:=a2) (k:=a0) (E:=iF) (EK:=iF) (d:=.I ((y9 a2 a0).getD (0:Int))) J J xu (w9 H8) B6 J (MS _ _ _))<|S1 2 J<|y0 J (BE (es:=a2) (k:=a1) (E:=iF) (EK:=iF) (d:=.I ((y9 a2 a1).getD (0:Int))) J J xu (w9 H8) B6 J (MS _ _ _))<|cA h qY J J λv1 _ h=>S2 1 J<|c5 ?_;cases h;exact f1
theorem R2{a0}:PO Tryz.prog 69 [b6.Pv a0] (F6 a0) λr=>.L iF r:=by
 refine pO Tryz.func69 λr h _ _=>?_;refine S4 2 J<|S4 1 J<|sR<|BT (KT:=Int) (VT:=Int) (EK:=iF) (E:=iF) 5000008 J J<|S2 2 J ?_;refine jq h (λq=>St.of [(3,.sl 910003),(4,.ptr 4 0 0)] [(4,vS (.mp 5000008) 1),(5000008,⟨[.mapc (List.map (bU iF iF) q.1)],0,false,0,false⟩),(910003,⟨List.map iF q.2,0,true,1,true⟩)]) (λq20 h=>?_) λκ17 h=>?_
 .obtain⟨j18,j19⟩:=q20;refine S3 2 J<|N9 (Wk.trans (RZ 5000008 nl J) (Vw 4 0 5000008 J J J J))<|y4 h λv21 hv12 h=>Vz hv12 J J Pb Vo J J J Pd J J J J J (λp q r h=>wG.2 r h)<|yN<|S4 2 J<|c5 ?_;cases h;exact f1
 .refine S3 3 J ?_;refine nL J aX<|S2 1 J<|k8<|lq h (λq=>St.of [(3,.sl 910003),(4,.ptr 4 0 0),(11,.L c8.Pv a0.S.b7),(12,.I (a0.S.b7.length:Int)),(13,.I q.1)] [(4,vS (.mp 5000008) 1),(5000008,⟨[.mapc (List.map (bU iF iF) q.2.1)],0,false,0,false⟩),(910003,⟨List.map iF q.2.2,0,true,1,true⟩)]) (Wk.trans (F8 (t:=3) (l:=920003) (z:=1) J J) (WP (λl=>if l=910003 then 920003 else l))) λq27 x26 h hx15=>?_;obtain⟨s23,s24,s25⟩:=q27;refine S4 1 J<|k9 ?_;refine cN h (λhc h=>?_) λhc h=>?_
  .refine c7 ?_;refine jq h (λq=>St.of [(3,.sl 33),(4,.ptr 4 0 0),(11,.L c8.Pv a0.S.b7),(12,.I (a0.S.b7.length:Int)),(13,.I s23)] [(4,vS (.mp 5000008) 1),(5000008,⟨[.mapc (List.map (bU iF iF) q.1)],0,false,0,false⟩),(33,⟨List.map iF q.2,0,true,1,true⟩)]) (λq34 h=>?_) λκ31 h=>?_
   .obtain⟨j32,j33⟩:=q34;refine S6 2 J ?_;exact eL h (WP (λl=>if l=910003 then 33 else l))
   .refine k8 ?_;refine S3 1 J<|iL h J J aX ab λv35 _ h=>S2 4 J<|S4 3 J ?_;refine cN h (λhc h=>?_) λhc h=>?_
    .refine S3 3 J ?_;refine cA h oJ J J λv36 _ h=>S2 1 J<|S3 5 J<|Z3 (es:=s24) (k:=v36) (v:=v35.Val.Serial) (E:=iF) (EK:=iF) (.inl J) J J J J J J xu (w9 H8)<|yN<|S5 2 J<|y0 J (I3 (f:=iF) (l:=[v36]) J l6 o5 B6 J J nl J J)<|y4 h λv37 hv22 h=>Xg (f:=iF) (b:=8) [(4,.ptr 4 0 0),(11,.L c8.Pv a0.S.b7),(12,.I (a0.S.b7.length:Int)),(13,.I s23),(14,.bool (decide (s23<(a0.S.b7.length:Int)))),(15,.I s23),(16,.rptr (c8.Pc v35)),(17,c8.Pv v35),(6,.ptr 6 0 0),(5,.I s23),(18,.ptr 6 0 0),(19,.I v35.State),(20,.bool (v35.State==1)),(21,.I s23),(22,.ptr 6 0 1),(23,.I v35.Gen),(24,.I v36),(7,.I v36),(25,.mp 5000008),(26,.I v36),(27,.ptr 6 0 2),(28,.ptr 6 0 2),(29,.I v35.Val.Serial),(31,.I v36),(32,.lst true (List.map iF [v36]))] [(6,vR (c8.Pv v35) 8),(5000008,⟨[.mapc (List.map (bU iF iF) (o7 s24 v36 v35.Val.Serial))],0,false,0,false⟩),(4,vS (.mp 5000008) 1)] J hv22 ⟨J,J,J,J,J,J,J,J,J,J,J,J,J,J,J,J,J,J,J,J,J,J,J,J,J,J,J,J,J,J,J,J,J,J,J,J,J,J,J,J,J,J,J,J,J,J,J,J,J,J,J,J,J,J,J,J,J,J,J,J,J,J,J,J,J,J,J,J,J,J,J,J,J,J,J,tr⟩ ⟨rS,W5 J J J (λq=>nomatch q) J J J J,W5 J J J (λq=>nomatch q) J J J J,tr⟩ J J J J (.inl ⟨_,J,J⟩) l6 o5 P2 B6 J (λ_=>J)<|S2 1 J ?_;exact eJ h W
    .refine c7 ?_;exact eJ h (WP (λl=>if l=33 then 910003 else l))
  .refine o6 ?_;refine g6<|g6<|l7 ?_;have h:=xL hx15 h;exact eJ h W
theorem yR{a0}:PO Tryz.prog 213 [b9.Pv a0] (dW a0) λr=>.L iF r:=by
 refine pO Tryz.func213 λr h _ _=>?_;refine S4 2 J<|S4 1 J ?_;refine jq h (λj16=>St.of [(3,.sl 910003)] [(910003,⟨List.map iF j16,(List.map iF j16).length,true,1,true⟩)]) (λj16 h=>?_) λκ15 h=>?_
 .refine S4 2 J ?_;refine c5 ?_;cases h;exact f1
 .refine S3 2 J ?_;refine cF h R2 J J λv17 _ h=>nL J l6<|S2 1 J<|k8<|lq h (λq=>St.of [(1,.ptr 1 0 0),(3,.sl 910003),(10,.L iF v17),(11,.I (v17.length:Int)),(12,.I q.1)] [(1,vR (b9.Pv a0) 8),(910003,⟨List.map iF q.2,(List.map iF q.2).length,true,1,true⟩)]) (Wk.trans (F8 (t:=3) (l:=920003) (z:=1) J J) (WP (λl=>if l=910003 then 920003 else l))) λq22 x21 h hx16=>?_;obtain⟨s19,s20⟩:=q22;refine S4 1 J<|k9 ?_;refine cN h (λhc h=>?_) λhc h=>?_
  .refine c7 ?_;refine jq h (λj27=>St.of [(1,.ptr 1 0 0),(3,.sl 29),(10,.L iF v17),(11,.I (v17.length:Int)),(12,.I s19)] [(29,⟨List.map iF j27,(List.map iF j27).length,true,1,true⟩),(1,vR (b9.Pv a0) 8)]) (λj27 h=>?_) λκ26 h=>?_
   .refine S6 2 J ?_;exact eL h (Wk.trans (m8 _ [29]) (WP (λl=>if l=910003 then 29 else l)))
   .refine k8 ?_;refine sR<|iL h J J l6 o5 λv28 _ h=>S2 2 J<|S3 3 J<|cF h C5 J J λv29 _ h=>S2 6 J<|S4 3 J ?_;refine cN h (λhc h=>?_) λhc h=>?_
    .refine S5 2 J ?_;refine y0 J (I3 (f:=iF) (l:=[v28]) J l6 o5 B6 J J nl J J)<|y4 h λv30 hv23 h=>I7 J (I2 (f:=iF) hv23 J J J J J J (.inl ⟨_,J,J⟩) l6 o5 P2 B6 J (λ_=>J)) J J J<|S2 1 J ?_;exact eJ h (Wk.trans (m8 _ [29]) W)
    .refine c7 ?_;exact eJ h (Wk.trans (m8 _ [910003]) (WP (λl=>if l=29 then 910003 else l)))
  .refine o6 ?_;refine g6<|g6<|l7 ?_;have h:=xL hx16 h;exact eJ h (Wk.trans (m8 _ [910003]) W)
theorem kJ{a0}:PO Tryz.prog 214 [n7.Pv a0] (O7 a0) λr=>.bool r:=by
 refine pO Tryz.func214 λr h _ _=>?_;unfold O7 at h;refine S4 2 J<|S3 4 J<|m9 J (λhg=>oF J AX J)<|m9 J (λhg=>oS (ct hg) J J qx J)<|m9 J (λhg=>dT (ct hg) J)<|y0 J (D1 J J J (λq=>kp q))<|S2 1 J<|c5 ?_;cases h;exact f1
theorem lM{a0 a1}:PO Tryz.prog 287 [j5.Pv a0,e6.Pv a1] (V2 a0 a1) λr=>.tup [j5.Pv r.1,.I r.2]:=by
 refine pO Tryz.func287 λr h _ _=>?_;unfold V2 at h;refine S4 4 J<|k9<|dr [] s6 (by kernel_rfl) (by kernel_rfl)<|S7 1 J<|y4 h λv1 hv1 h=>d2 J (S9 J Q6 J hv1) J<|S8 3 J ?_;refine cN h (λhc h=>?_) λhc h=>?_
 .refine S4 3 J ?_;refine c5 ?_;cases h;exact⟨J,[_,_],⟨oL J J J jj cG nl J,⟨J,tr⟩⟩,J,io⟩
 .refine c7 ?_;refine dr [] s6 (by kernel_rfl) (by kernel_rfl)<|S7 3 J<|d2 J (S9 J Q6 J hv1) J<|y4 h λv2 hv2 h=>eE J (u7 J Z1 J hv2) J<|S7 1 J<|VU J (I3 (f:=e6.Pv) (l:=[a1]) J H9 C3 af J J nl J J) J<|y4 h λv3 hv3 h=>d3 J (yv (f:=e6.Pv) hv3 J J (.inl ⟨_,J,J⟩) H9 C3 mn af J (λ_=>J)) J J J<|S7 1 J<|C9 (x':=.agg [.sl 19,.I a0.Cap]) (cl':=false) J J (.inl J) uF<|K5<|S4 3 J<|c5 ?_;cases h;exact⟨J,[_,_],⟨oL J J J jj cG nl J,⟨J,tr⟩⟩,J,io⟩
theorem vQ{a0 a1}:PO Tryz.prog 220 [j5.Pv a0,e6.Pv a1] (pz a0 a1) λr=>.tup [j5.Pv r.1,.I r.2]:=by
 refine pO Tryz.func220 λr h _ _=>?_;refine S4 4 J<|S3 2 J<|cF h lM J J λv1 _ h=>S2 4 J<|c5 ?_;cases h;exact⟨J,[_,_],⟨oL J J J jj cG nl J,⟨J,tr⟩⟩,J,io⟩
theorem lV{a0 a1}:PO Tryz.prog 127 [b9.Pv a0,.I a1] (W6 a0 a1) λr=>b9.Pv r:=by
 refine pO Tryz.func127 λr h _ _=>?_;refine S4 2 J<|S3 3 J<|cF h C5 J J λv1 _ h=>S2 6 J<|k9<|S3 3 J<|m9 J (λhg=>oL J J J rX kg nl J)<|y4 h λv2 hv2 h=>m9 J (λhg=>S9 J kJ (aE (ct hg) J) (br hv2 hg))<|m9 J (λhg=>dT (ct hg) J)<|y0 J (P5 J J J (λq=>pM q))<|yN ?_;refine cN h (λhc h=>?_) λhc h=>?_
 .refine S4 2 J ?_;refine c5 ?_;cases h;exact⟨J,[_],⟨oL J J J u5 p7 nl J,tr⟩,J,io⟩
 .refine c7 ?_;refine S4 2 J<|S3 4 J<|cF h cu J J λv3 _ h=>S2 5 J<|S3 5 J<|y0 J (p6 (cs:=[.I 1,.I a1,.I v1.1.Prog]) J rY af J J J)<|cF h vQ J J λv4 _ h=>S2 5 J<|S3 2 J<|cF h eM J J λv5 _ h=>S2 1 J<|c5 ?_;cases h;exact⟨J,[_],⟨oL J J J u5 p7 nl J,tr⟩,J,io⟩
theorem qt{a0 a1}:PO Tryz.prog 222 [b9.Pv a0,.L iF a1] (Z2 a0 a1) λr=>.L iF r:=by
 refine pO Tryz.func222 λr h _ _=>?_;refine S4 2 J<|sR<|BT (KT:=Int) (VT:=Bool) (EK:=iF) (E:=PV.bool) 5000011 J J<|S2 1 J<|S4 1 J ?_;refine jq h (λj18=>St.of [(6,.sl 910006)] [(910006,⟨List.map iF j18,(List.map iF j18).length,true,1,true⟩)]) (λj18 h=>?_) λκ17 h=>?_
 .refine S4 2 J ?_;refine c5 ?_;cases h;exact f1
 .refine S3 1 J ?_;refine nL J l6<|S2 1 J<|k8<|lq h (λq=>St.of [(2,.ptr 2 0 0),(5,.mp 5000011),(6,.sl 910006),(12,.L iF a1),(13,.I (a1.length:Int)),(14,.I q.1)] [(5000011,⟨[.mapc (List.map (bU iF PV.bool) q.2.1)],0,false,0,false⟩),(2,vR (b9.Pv a0) 8),(910006,⟨List.map iF q.2.2,(List.map iF q.2.2).length,true,1,true⟩)]) (Wk.trans (F8 (t:=6) (l:=920006) (z:=1) J J) (WP (λl=>if l=910006 then 920006 else l))) λq24 x23 h hx16=>?_;obtain⟨s20,s21,s22⟩:=q24;refine S4 1 J<|k9 ?_;refine cN h (λhc h=>?_) λhc h=>?_
  .refine c7 ?_;refine jq h (λq=>St.of [(2,.ptr 2 0 0),(5,.mp 5000011),(6,.sl 38),(12,.L iF a1),(13,.I (a1.length:Int)),(14,.I s20)] [(38,⟨List.map iF q.1,(List.map iF q.1).length,true,1,true⟩),(5000011,⟨[.mapc (List.map (bU iF PV.bool) q.2)],0,false,0,false⟩),(2,vR (b9.Pv a0) 8)]) (λq31 h=>?_) λκ28 h=>?_
   .obtain⟨j29,j30⟩:=q31;refine S6 2 J ?_;exact eL h (Wk.trans (m8 _ [38]) (WP (λl=>if l=910006 then 38 else l)))
   .refine k8 ?_;refine sR<|iL h J J l6 o5 λv32 _ h=>S2 2 J<|S3 3 J<|cF h C5 J J λv33 _ h=>S2 6 J<|S3 3 J<|m9 J (λhg=>om (d:=.mp 5000011) J)<|m9 J (λhg=>mI J) ?_;rcases zaz ((v33.2==0)==true) with hg24 | hg24
    .have h:=Sy h hg24;refine BS (es:=s21) (k:=v32) (E:=PV.bool) (EK:=iF) (d:=.bool ((y9 s21 v32).getD (false:Bool))) (zX some hg24) (ct hg24) J (ct hg24) Q0 (w9 H8) sa J (MS _ _ _)<|y0 (zX some hg24) (dT J J)<|y0 J (kI J J hg24)<|yN ?_;refine cN h (λhc h=>?_) λhc h=>?_
     .refine S3 2 J ?_;refine Z3 (es:=s21) (k:=v32) (v:=true) (E:=PV.bool) (EK:=iF) (.inl J) J J J J J J Q0 (w9 H8)<|yN<|S5 2 J<|y0 J (I3 (f:=iF) (l:=[v32]) J l6 o5 B6 J J nl J J)<|y4 h λv34 hv25 h=>I7 J (I2 (f:=iF) hv25 J J J J J J (.inl ⟨_,J,J⟩) l6 o5 P2 B6 J (λ_=>J)) J J J<|S2 1 J ?_;exact eJ h (Wk.trans (m8 _ [38]) W)
     .refine c7 ?_;exact eJ h (Wk.trans (m8 _ [910006]) (WP (λl=>if l=38 then 910006 else l)))
    .have h:=Sx h hg24;refine cR (zX some hg24)<|cR (zX some hg24)<|y0 J (nb J J hg24)<|yN ?_;refine G5 false J (λq=>nomatch q) (λ_=>?_);refine c7 ?_;exact eJ h (Wk.trans (m8 _ [910006]) (WP (λl=>if l=38 then 910006 else l)))
  .refine o6 ?_;refine g6<|g6<|l7 ?_;have h:=xL hx16 h;exact eJ h (Wk.trans (m8 _ [910006]) W)
theorem uc{a0 a1}:PO Tryz.prog 223 [b9.Pv a0,.L iF a1] (fv a0 a1) λr=>b9.Pv r:=by
 refine pO Tryz.func223 λr h _ _=>?_;refine S4 2 J<|S3 3 J<|cF h qU J J λv1 _ h=>S2 5 J<|S4 3 J ?_;refine jq h (λj11=>St.of [(2,.ptr 2 0 0),(4,.ptr 4 0 0)] [(4,vR (.agg [.nl,.I 0,.I 0,.nl,.nl,.nl,.nl,.I 0]) 8),(2,vR (.agg [.L c8.Pv a0.S.S.b7,.I a0.S.S.Last,.I a0.S.Serial,.L iF a0.Roots,.L k7.Pv v1.1,.L g5.Pv a0.T,.L e6.Pv j11.L,.I j11.Cap]) 8)]) (λj11 h=>?_) λκ10 h=>?_
 .refine S4 2 J ?_;refine c5 ?_;cases h;exact⟨J,[_],⟨oL J J J u5 p7 nl J,tr⟩,J,io⟩
 .refine S3 1 J ?_;refine nL J l6<|S2 1 J<|k8<|lq h (λq=>St.of [(2,.ptr 2 0 0),(4,.ptr 4 0 0),(5,.L k7.Pv v1.1),(18,.L iF v1.2),(19,.I (v1.2.length:Int)),(20,.I q.1)] [(4,vR (.agg [.nl,.I 0,.I 0,.nl,.nl,.nl,.nl,.I 0]) 8),(2,vR (.agg [.L c8.Pv a0.S.S.b7,.I a0.S.S.Last,.I a0.S.Serial,.L iF a0.Roots,.L k7.Pv v1.1,.L g5.Pv a0.T,.L e6.Pv q.2.L,.I q.2.Cap]) 8)]) W λq16 x15 h hx11=>?_;obtain⟨s13,s14⟩:=q16;refine S4 1 J<|k9 ?_;refine cN h (λhc h=>?_) λhc h=>?_
  .refine c7 ?_;refine k9<|k8<|sR<|iL h J J l6 o5 λv17 _ h=>S2 2 J<|CY [] s6 (by kernel_rfl) (by kernel_rfl)<|S7 5 J<|y4 h λv18 hv13 h=>d0 J (O6 (f:=k7.Pv) (cs:=k7.Pc v18) hv13 J J T7 X5 J J) J<|S7 2 J<|d7 J (λ_ hN=>p6 (cs:=[.I 2,.I v17,.I v18.Call]) J rY af J J J) J<|y4 h λv19 hv14 h=>eE J (u7 J vQ J hv14) J<|S7 4 J<|C9 (x':=.agg [.L c8.Pv a0.S.S.b7,.I a0.S.S.Last,.I a0.S.Serial,.L iF a0.Roots,.L k7.Pv v1.1,.L g5.Pv a0.T,.L e6.Pv v19.1.L,.I v19.1.Cap]) (cl':=true) J J (.inr J) cG<|K5<|S6 2 J ?_;exact eL h W
  .refine o6 ?_;refine g6<|g6<|l7 ?_;have h:=xL hx11 h;exact eJ h W
theorem DC{a0}:PO Tryz.prog 290 [.L iF a0] (qh a0) λr=>.fn (.func 331) [.rptr [.L iF r]]:=by
 refine pO Tryz.func290 λr h _ _=>?_;unfold qh at h;refine S4 2 J<|S4 2 J<|c5 ?_;cases h;exact f1
theorem uo{a0}:PO Tryz.prog 225 [.L iF a0] (ji a0) λr=>.L iF r:=by
 refine pO Tryz.func225 λr h _ _=>?_;refine S4 1 J<|S4 1 J ?_;refine jq h (λj10=>St.of [(3,.ptr 2001 0 0)] [(2001,vS (.sl 912501) 1),(912501,⟨List.map iF j10,(List.map iF j10).length,true,1,true⟩)]) (λj10 h=>?_) λκ9 h=>?_
 .refine S4 2 J ?_;refine c5 ?_;cases h;exact f1
 .refine S3 1 J ?_;refine cF h DC J J λv11 _ h=>yN<|k8<|bK (rR (λl=>if l=2011 then 3 else l) [(3,.ptr 2011 0 0),(6,.fn (.func 331) [.rptr [.L iF v11]])] [(2011,vR (.nl) 1)]) ?_;refine bJ (fn:=Tryz.f331) (N1:=20) J Tryz.func331 J J nl J Pm J J (λl17 e18 o19 hR20=>?_);refine S3 1 J<|nL J l6<|S2 1 J<|k8<|lq h (λq=>St.of [(1000003,.ptr 2011 0 0),(1000006,.fn (.func 331) [.rptr [.L iF v11]]),(0,.fn (.yield l17) []),(5,.L iF v11),(6,.I (v11.length:Int)),(7,.I q.1)] [(2011,vS (.sl 912511) 1),(912511,⟨List.map iF q.2,(List.map iF q.2).length,true,1,true⟩)]) (Wk.trans (ux (l0:=2011) (j:=0) (l:=922511) (z:=1) J J J J J) (WP (λl=>if l=912511 then 922511 else l))) λq16 x15 h hx23=>?_;obtain⟨s13,s14⟩:=q16;refine S4 1 J<|k9 ?_;refine cN h (λhc h=>?_) λhc h=>?_
  .refine c7 ?_;refine k9<|k8<|sR<|iL h J J l6 o5 λv17 _ h=>S2 2 J<|S3 3 J<|m9 J (λhg=>om (d:=.fn (.yield l17) []) J)<|m9 J (λhg=>mI J) ?_;rcases zaz ((v17 != 0)==true) with hg25 | hg25
   .have h:=Sy h hg25;refine N9 (rR (λl=>if l=2019 then 912511 else l) [(1000003,.ptr 2011 0 0),(1000006,.fn (.func 331) [.rptr [.L iF v11]]),(0,.fn (.yield l17) []),(5,.L iF v11),(6,.I (v11.length:Int)),(7,.I s13),(13,.bool (v17 != 0)),(14,.fn (.yield l17) []),(15,.I v17)] [(2011,vS (.sl 2019) 1),(2019,⟨List.map iF s14,(List.map iF s14).length,true,1,true⟩)]) ?_;refine iX hR20 (zX some hg25) J J J J J (λe26 o27 o28=>?_);refine S6 1 J ?_;refine⟨J,?_⟩;refine k8<|S5 2 J<|y0 J (I3 (f:=iF) (l:=[v17]) J l6 o5 B6 J J nl J J)<|y4 h λv18 hv29 h=>I7 J (I2 (f:=iF) hv29 J J J J J J (.inl ⟨_,J,J⟩) l6 o5 P2 B6 J (λ_=>J)) J J J<|S2 1 J ?_;refine⟨J,?_⟩;refine N9 (rR (λl=>if l=2020 then 11 else l) [(1000003,.ptr 2011 0 0),(1000006,.fn (.func 331) [.rptr [.L iF v11]]),(0,.fn (.yield l17) []),(5,.L iF v11),(6,.I (v11.length:Int)),(7,.I s13),(13,.bool (v17 != 0)),(16,.bool true)] [(2011,vS (.sl 2020) 1),(2020,⟨List.map iF v18,s14.length,true,1,true⟩)])<|y0 (zX some hg25) (dT J J)<|y0 J (kI J J hg25)<|yN ?_;refine G5 false J (λq=>nomatch q) (λ_=>?_);refine c7<|S6 2 J ?_;exact eL h (Wk.trans (m8 _ [2020]) (WP (λl=>if l=912511 then 2020 else l)))
   .have h:=Sx h hg25;refine cR (zX some hg25)<|cR (zX some hg25)<|y0 J (nb J J hg25)<|yN ?_;refine G5 false J (λq=>nomatch q) (λ_=>?_);refine c7<|S6 2 J ?_;exact eL h (Wk.trans (m8 _ [912511]) W)
  .refine o6 ?_;refine g6<|g6<|l7 ?_;refine .inl ⟨J,?_⟩;have h:=xL hx23 h;exact eJ h (Wk.trans (m8 _ [912511]) (WP (λl=>if l=2001 then 2011 else if l=912501 then 912511 else l)))
theorem uN{a0 a1}:PO Tryz.prog 226 [.L g5.Pv a0,.L iF a1] (aK a0 a1) λr=>.tup [.L g5.Pv r.1,.L iF r.2]:=by
 refine pO Tryz.func226 λr h _ _=>?_;refine S4 2 J<|S4 1 J ?_;refine jq h (λq=>St.of [(0,.L g5.Pv q.1),(6,.sl 910006)] [(910006,⟨List.map iF q.2,(List.map iF q.2).length,true,1,true⟩)]) (λq20 h=>?_) λκ17 h=>?_
 .obtain⟨j18,j19⟩:=q20;refine S4 4 J<|c5 ?_;cases h;exact f2
 .refine S3 1 J ?_;refine nL J l6<|S2 1 J<|k8<|lq h (λq=>St.of [(0,.L g5.Pv q.1),(6,.sl 910006),(12,.L iF a1),(13,.I (a1.length:Int)),(14,.I q.2.1)] [(910006,⟨List.map iF q.2.2,(List.map iF q.2.2).length,true,1,true⟩)]) (Wk.trans (F8 (t:=6) (l:=920006) (z:=1) J J) (WP (λl=>if l=910006 then 920006 else l))) λq26 x25 h hx14=>?_;obtain⟨s22,s23,s24⟩:=q26;refine S4 1 J<|k9 ?_;refine cN h (λhc h=>?_) λhc h=>?_
  .refine c7 ?_;refine jq h (λq=>St.of [(0,.L g5.Pv q.1),(6,.sl 31),(12,.L iF a1),(13,.I (a1.length:Int)),(14,.I s23)] [(31,⟨List.map iF q.2,(List.map iF q.2).length,true,1,true⟩)]) (λq33 h=>?_) λκ30 h=>?_
   .obtain⟨j31,j32⟩:=q33;refine S6 2 J ?_;exact eL h (Wk.trans (m8 _ [31]) (WP (λl=>if l=910006 then 31 else l)))
   .refine k8 ?_;refine sR<|iL h J J l6 o5 λv34 _ h=>S2 2 J<|S3 2 J<|cF h sS J J λv35 _ h=>S2 7 J<|S4 2 J ?_;refine cN h (λhc h=>?_) λhc h=>?_
    .refine S5 3 J ?_;refine y0 J (I3 (f:=iF) (l:=[v35.2.1]) J l6 o5 B6 J J nl J J)<|y4 h λv36 hv21 h=>I7 J (I2 (f:=iF) hv21 J J J J J J (.inl ⟨_,J,J⟩) l6 o5 P2 B6 J (λ_=>J)) J J J<|S2 2 J ?_;exact eJ h (Wk.trans (m8 _ [31]) W)
    .refine c7 ?_;exact eJ h (Wk.trans (m8 _ [910006]) (WP (λl=>if l=31 then 910006 else l)))
  .refine o6 ?_;refine g6<|g6<|l7 ?_;have h:=xL hx14 h;exact eJ h (Wk.trans (m8 _ [910006]) W)
theorem nv{a0 a1}:PO Tryz.prog 292 [l4.Pv a0,.I a1] (X7 a0 a1) λr=>.tup [l4.Pv r.1,.I r.2]:=by
 refine pO Tryz.func292 λr h _ _=>?_;refine S4 3 J<|S3 2 J<|cF h fK J J λv1 _ h=>S2 6 J<|k9<|S4 2 J ?_;refine cN h (λhc h=>?_) λhc h=>?_
 .refine S4 4 J ?_;refine c5 ?_;cases h;exact⟨J,[_,_],⟨oL J J J hU eh nl J,⟨J,tr⟩⟩,J,io⟩
 .refine c7 ?_;refine dr [] s6 (by kernel_rfl) (by kernel_rfl)<|S7 2 J<|y4 h λv2 hv2 h=>d2 J (S9 J oM J hv2) J<|S7 1 J<|y4 h λv3 hv3 h=>d2 J (S9 J qH J hv3) J<|S7 1 J<|d7 J (λ_ hN=>p6 (cs:=[.I 2,.I v3,.I v1.1.Serial,.I v1.1.Strong,.I v1.1.Weak,.I v1.1.Prog,.bool v1.1.Started,.L iF v1.1.Fields]) J wM pG J J J) J<|y4 h λv4 hv4 h=>eE J (u7 J L0 J hv4) J<|C9 (x':=l4.Pv v4) (cl':=true) J J (.inr J) eh<|S8 1 J<|c5 ?_;cases h;exact⟨J,[_,_],⟨oL J J J hU eh nl J,⟨J,tr⟩⟩,J,io⟩
theorem vx{a0 a1}:PO Tryz.prog 227 [b9.Pv a0,.I a1] (aS a0 a1) λr=>b9.Pv r:=by
 refine pO Tryz.func227 λr h _ _=>?_;refine S4 2 J<|S3 3 J<|cF h C5 J J λv1 _ h=>S2 6 J<|S3 1 J<|kM (x':=.agg [.I v1.1.Serial,.I v1.1.Strong,.I v1.1.Weak,.I v1.1.Prog,.bool v1.1.Started,.nl]) (cl':=true) J J (.inl J) bx<|S1 1 J<|kM (x':=.agg [.I v1.1.Serial,.I 0,.I v1.1.Weak,.I v1.1.Prog,.bool v1.1.Started,.nl]) (cl':=true) J J (.inl J) o5<|yN<|S3 4 J<|cF h cu J J λv2 _ h=>S2 5 J<|S3 4 J<|cF h nv J J λv3 _ h=>S2 6 J<|k9<|S4 3 J ?_;refine cN h (λhc h=>?_) λhc h=>?_
 .refine S5 4 J ?_;refine cF h fy J J λv4 _ h=>S2 6 J<|S4 2 J<|c5 ?_;cases h;exact⟨J,[_],⟨oL J J J u5 p7 nl J,tr⟩,J,io⟩
 .refine c7 ?_;refine S4 2 J<|c5 ?_;cases h;exact⟨J,[_],⟨oL J J J u5 p7 nl J,tr⟩,J,io⟩
theorem pv{a0 a1}:PO Tryz.prog 128 [b9.Pv a0,.L iF a1] (bO a0 a1) λr=>b9.Pv r:=by
 refine pO Tryz.func128 λr h _ _=>?_;refine S4 2 J<|S3 2 J<|cF h qt J J λv1 _ h=>S2 1 J<|S3 2 J<|cF h uc J J λv2 _ h=>S2 1 J<|S4 1 J<|S4 2 J ?_;refine jq h (λj13=>St.of [(2,.ptr 2 0 0),(4,.ptr 4 0 0),(5,.L iF v1),(6,.ptr 6 0 0),(7,.fn (.func 224) [.ptr 6 0 0])] [(6,vS (.sl 910506) 1),(910506,⟨List.map iF j13,(List.map iF j13).length,true,1,true⟩),(4,vR (.agg [.nl,.I 0,.I 0,.nl,.nl,.nl,.nl,.I 0]) 8),(2,vR (b9.Pv v2) 8)]) (λj13 h=>?_) λκ12 h=>?_
 .refine S3 3 J ?_;refine cF h uN J J λv14 _ h=>S2 5 J<|S3 2 J<|N9 (rR (λl=>if l=2025 then 6 else if l=2026 then 4 else if l=2027 then 2 else if l=2028 then 910506 else l) [(2,.ptr 2027 0 0),(4,.ptr 2026 0 0),(5,.L iF v1),(6,.ptr 2025 0 0),(12,.L g5.Pv v14.1),(51,.fn (.func 224) [.ptr 2025 0 0]),(52,.L iF v14.2)] [(2025,vS (.sl 2028) 1),(2028,⟨List.map iF j13,(List.map iF j13).length,true,1,true⟩),(2026,vR (.agg [.nl,.I 0,.I 0,.nl,.nl,.nl,.nl,.I 0]) 8),(2027,vR (b9.Pv v2) 8)]) ?_;refine uA (fn:=Tryz.f224) (N1:=6) J J Tryz.func224 J HE J J nl (λe14 o15=>?_);refine S5 2 J<|y4 h λv15 hv16 h=>I7 J (I2 (f:=iF) hv16 J J J J J J (.inl ⟨_,J,J⟩) l6 o5 P2 B6 J (λ_=>J)) J J J<|S2 1 J ?_;refine⟨J,[],tr,?_⟩;refine N9 (rR (λl=>if l=2029 then 5 else l) [(2,.ptr 2027 0 0),(4,.ptr 2026 0 0),(5,.L iF v1),(6,.ptr 2025 0 0),(12,.L g5.Pv v14.1)] [(2025,vS (.sl 2029) 1),(2029,⟨List.map iF v15,j13.length,true,1,true⟩),(2026,vR (.agg [.nl,.I 0,.I 0,.nl,.nl,.nl,.nl,.I 0]) 8),(2027,vR (b9.Pv v2) 8)])<|yN<|S4 3 J ?_;refine jq h (λj24=>St.of [(2,.ptr 2027 0 0),(4,.ptr 2026 0 0),(6,.ptr 2025 0 0)] [(2025,vS (.sl 2029) 1),(2029,⟨List.map iF v15,j13.length,true,1,true⟩),(2026,vR (.agg [.nl,.I 0,.I 0,.nl,.nl,.nl,.nl,.I 0]) 8),(2027,vR (b9.Pv j24) 8)]) (λj24 h=>?_) λκ23 h=>?_
  .refine jq h (λj33=>St.of [(2,.ptr 2027 0 0),(4,.ptr 2026 0 0)] [(2026,vR (.agg [.nl,.I 0,.I 0,.nl,.nl,.nl,.nl,.I 0]) 8),(2027,vR (b9.Pv j33) 8)]) (λj33 h=>?_) λκ32 h=>?_
   .refine S4 2 J ?_;refine c5 ?_;cases h;exact⟨J,[_],⟨oL J J J u5 p7 nl J,tr⟩,J,io⟩
   .refine S3 1 J ?_;refine y0 J (IQ (f:=iF) J J J l6)<|S2 1 J<|k8<|lq h (λq=>St.of [(2,.ptr 2027 0 0),(4,.ptr 2026 0 0),(66,.sl 2029),(67,.I (v15.length:Int)),(68,.I q.1)] [(2029,⟨List.map iF v15,j13.length,true,1,true⟩),(2026,vR (.agg [.nl,.I 0,.I 0,.nl,.nl,.nl,.nl,.I 0]) 8),(2027,vR (b9.Pv q.2) 8)]) W λq38 x37 h hx31=>?_;obtain⟨s35,s36⟩:=q38;refine S4 1 J<|k9 ?_;refine cN h (λhc h=>?_) λhc h=>?_
    .refine c7 ?_;refine k9<|k8<|sR<|y4 h λv39 hv32 h=>y0 J (aJ (f:=iF) hv32 J J J J l6 o5 J)<|y0 J (EL (f:=iF) hv32 J J J K2 J)<|S2 1 J<|S5 2 J<|cF h aF J J λv40 _ h=>S2 1 J<|S6 2 J ?_;exact eL h W
    .refine o6 ?_;refine g6<|g6<|l7 ?_;have h:=xL hx31 h;exact eJ h W
  .refine S3 1 J ?_;refine nL J l6<|S2 1 J<|k8<|lq h (λq=>St.of [(2,.ptr 2027 0 0),(4,.ptr 2026 0 0),(6,.ptr 2025 0 0),(56,.L iF v1),(57,.I (v1.length:Int)),(58,.I q.1)] [(2025,vS (.sl 2029) 1),(2029,⟨List.map iF v15,j13.length,true,1,true⟩),(2026,vR (.agg [.nl,.I 0,.I 0,.nl,.nl,.nl,.nl,.I 0]) 8),(2027,vR (b9.Pv q.2) 8)]) W λq45 x44 h hx36=>?_;obtain⟨s42,s43⟩:=q45;refine S4 1 J<|k9 ?_;refine cN h (λhc h=>?_) λhc h=>?_
   .refine c7 ?_;refine k9<|k8<|sR<|iL h J J l6 o5 λv46 _ h=>S2 2 J<|S5 2 J<|cF h vx J J λv47 _ h=>S2 1 J<|S6 2 J ?_;exact eL h W
   .refine o6 ?_;refine g6<|g6<|l7 ?_;have h:=xL hx36 h;exact eJ h W
 .refine S3 1 J ?_;refine nL J l6<|S2 1 J<|k8<|lq h (λq=>St.of [(2,.ptr 2 0 0),(4,.ptr 4 0 0),(5,.L iF v1),(6,.ptr 6 0 0),(7,.fn (.func 224) [.ptr 6 0 0]),(25,.L iF v1),(26,.I (v1.length:Int)),(27,.I q.1)] [(6,vS (.sl 910506) 1),(4,vR (.agg [.nl,.I 0,.I 0,.nl,.nl,.nl,.nl,.I 0]) 8),(2,vR (b9.Pv v2) 8),(910506,⟨List.map iF q.2,(List.map iF q.2).length,true,1,true⟩)]) (Wk.trans (ux (l0:=6) (j:=0) (l:=920506) (z:=1) J J J J J) (WP (λl=>if l=910506 then 920506 else l))) λq52 x51 h hx41=>?_;obtain⟨s49,s50⟩:=q52;refine S4 1 J<|k9 ?_;refine cN h (λhc h=>?_) λhc h=>?_
  .refine c7 ?_;refine k9<|k8<|sR<|iL h J J l6 o5 λv53 _ h=>S2 2 J<|S3 3 J<|cF h C5 J J λv54 _ h=>S2 6 J<|S5 3 J<|cF h uo J J λv55 _ h=>N9 (rR (λl=>if l=2049 then 6 else if l=2050 then 4 else if l=2051 then 2 else if l=2052 then 910506 else l) [(2,.ptr 2051 0 0),(4,.ptr 2050 0 0),(5,.L iF v1),(6,.ptr 2049 0 0),(7,.fn (.func 224) [.ptr 2049 0 0]),(25,.L iF v1),(26,.I (v1.length:Int)),(27,.I s49),(38,.fn (.func 224) [.ptr 2049 0 0]),(41,.L iF v55)] [(2049,vS (.sl 2052) 1),(2052,⟨List.map iF s50,(List.map iF s50).length,true,1,true⟩),(2050,vR (.agg [.nl,.I 0,.I 0,.nl,.nl,.nl,.nl,.I 0]) 8),(2051,vR (b9.Pv v2) 8)]) ?_;refine uA (fn:=Tryz.f224) (N1:=6) J J Tryz.func224 J HE J J nl (λe45 o46=>?_);refine S5 2 J<|y4 h λv56 hv47 h=>I7 J (I2 (f:=iF) hv47 J J J J J J (.inl ⟨_,J,J⟩) l6 o5 P2 B6 J (λ_=>J)) J J J<|S2 1 J ?_;refine⟨J,[],tr,?_⟩;refine N9 (rR (λl=>if l=2053 then 5 else l) [(2,.ptr 2051 0 0),(4,.ptr 2050 0 0),(5,.L iF v1),(6,.ptr 2049 0 0),(7,.fn (.func 224) [.ptr 2049 0 0]),(25,.L iF v1),(26,.I (v1.length:Int)),(27,.I s49)] [(2049,vS (.sl 2053) 1),(2053,⟨List.map iF v56,s50.length,true,1,true⟩),(2050,vR (.agg [.nl,.I 0,.I 0,.nl,.nl,.nl,.nl,.I 0]) 8),(2051,vR (b9.Pv v2) 8)])<|yN<|S6 2 J ?_;exact eL h (Wk.trans (m8 _ [2053]) (WP (λl=>if l=2 then 2051 else if l=4 then 2050 else if l=6 then 2049 else if l=910506 then 2053 else l)))
  .refine o6 ?_;refine g6<|g6<|l7 ?_;have h:=xL hx41 h;exact eJ h (Wk.trans (m8 _ [910506]) W)
theorem cr{a0}:PO Tryz.prog 124 [b9.Pv a0] (R1 a0) λr=>b9.Pv r:=by
 refine pO Tryz.func124 λr h _ _=>?_;refine S4 2 J<|Yy h (λs2=>St.of [(1,.ptr 1 0 0),(2,.ptr 2 0 0)] [(2,vR (.agg [.nl,.I 0,.I 0,.nl,.nl,.nl,.nl,.I 0]) 8),(1,vR (b9.Pv s2) 8)]) W λs2 x3 h hx3=>S3 1 J<|cF h yR J J λv4 _ h=>S2 1 J<|k9<|S3 1 J<|nL J l6<|S2 1 J ?_;refine cN h (λhc h=>?_) λhc h=>?_
 .refine S4 2 J ?_;refine c5 ?_;have h:=xL hx3 h;cases h;exact⟨J,[_],⟨oL J J J u5 p7 nl J,tr⟩,J,io⟩
 .refine c7 ?_;refine k9<|dr [] s6 (by kernel_rfl) (by kernel_rfl)<|S7 3 J<|y4 h λv5 hv5 h=>d0 J (O6 (f:=iF) (cs:=[.I v5]) hv5 J J l6 o5 J J) J<|S7 1 J<|y4 h λv6 hv6 h=>eE J (u7 J C5 J hv6) J<|S7 4 J<|C9 (x':=n7.Pv v6.1) (cl':=true) J J (.inr J) kg<|S8 1 J<|S3 1 J<|cA h kJ J J λv7 _ h=>yN ?_;refine cN h (λhc h=>?_) λhc h=>?_
  .refine CY [] s6 (by kernel_rfl) (by kernel_rfl) ?_;refine S7 2 J<|d0 J (O6 (f:=iF) (cs:=[.I v5]) hv5 J J l6 o5 J J) J<|S7 1 J<|y4 h λv8 hv8 h=>eE J (u7 J lV J hv8) J<|C9 (x':=b9.Pv v8) (cl':=true) J J (.inr J) p7<|K5<|Jd ?_;exact eS h W
  .refine CY [] s6 (by kernel_rfl) (by kernel_rfl) ?_;refine S7 2 J<|y4 h λv9 hv9 h=>d0 J (Uz (f:=iF) hv9 J J ⟨_,J⟩ l6 o5 (λ_=>J)) J<|y4 h λv10 hv10 h=>eE J (u7 J pv J hv10) J<|C9 (x':=b9.Pv v10) (cl':=true) J J (.inr J) p7<|K5<|Jd ?_;exact eS h W
theorem tA{a0 a1}:PO Tryz.prog 70 [b9.Pv a0,.I a1] (eQ a0 a1) λr=>.I r:=by
 refine pO Tryz.func70 λr h _ _=>?_;refine S4 2 J<|S3 3 J<|cF h C5 J J λv1 _ h=>S2 6 J<|S4 3 J<|c5 ?_;cases h;exact f1
theorem kV{a0 a1}:PO Tryz.prog 215 [b9.Pv a0,.I a1] (dD a0 a1) λr=>.I r:=by
 refine pO Tryz.func215 λr h _ _=>?_;unfold dD at h;refine S4 2 J<|dr [] s6 (by kernel_rfl) (by kernel_rfl)<|S7 3 J<|y4 h λv1 hv1 h=>d2 J (S9 J P8 J hv1) J<|y4 h λv2 hv2 h=>d2 J (S9 J tA J hv2) J<|S8 1 J<|c5 ?_;cases h;exact f1
theorem tB{a0 a1 a2}:PO Tryz.prog 125 [b9.Pv a0,b9.Pv a1,g8.Pv a2] (Y6 a0 a1 a2) λr=>.I r:=by
 refine pO Tryz.func125 λr h _ _=>?_;refine S4 4 J<|k9<|S4 2 J<|k8<|S4 2 J ?_;refine cN h (λhc h=>?_) λhc h=>?_
 .refine S3 3 J ?_;refine cA h kV J J λv1 _ h=>S2 1 J<|c5 ?_;cases h;exact f1
 .refine jq h (λj3=>St.of [(3,.ptr 3 0 0),(4,.ptr 4 0 0),(5,.ptr 5 0 0),(8,.I a2.Kind),(15,.bool j3)] [(5,vR (g8.Pv a2) 4),(4,vR (b9.Pv a1) 8),(3,vR (b9.Pv a0) 8)]) (λj3 h=>?_) λκ2 h=>?_
  .refine cN h (λhc h=>?_) λhc h=>?_
   .refine S3 3 J ?_;refine cA h kV J J λv4 _ h=>S2 1 J<|c5 ?_;cases h;exact f1
   .refine S4 2 J ?_;refine cN h (λhc h=>?_) λhc h=>?_
    .refine k9 ?_;refine dr [] s6 (by kernel_rfl) (by kernel_rfl)<|S7 3 J<|y4 h λv5 hv4 h=>d2 J (S9 J P8 J hv4) J<|S7 3 J<|y4 h λv6 hv5 h=>d2 J (S9 J P8 J hv5) J<|S8 1 J ?_;refine cN h (λhc h=>?_) λhc h=>?_
     .refine S4 1 J ?_;refine c5 ?_;cases h;exact f1
     .refine c7 ?_;refine S4 1 J<|c5 ?_;cases h;exact f1
    .refine c7 ?_;refine S3 3 J<|cA h kV J J λv7 _ h=>S2 1 J<|c5 ?_;cases h;exact f1
  .refine S4 2 J ?_;refine cN h (λhc h=>?_) λhc h=>?_
   .refine c7 ?_;exact eJ h W
   .refine S6 2 J ?_;exact eJ h W
theorem qL{a0 a1}:PO Tryz.prog 65 [b9.Pv a0,g8.Pv a1] (u4 a0 a1) λr=>.tup [b9.Pv r.1,.I r.2.1,.I r.2.2]:=by
 refine pO Tryz.func65 λr h _ _=>?_;refine S4 5 J<|k9<|S3 1 J<|cA h kO J J λv1 _ h=>S2 1 J<|S4 2 J ?_;refine cN h (λhc h=>?_) λhc h=>?_
 .refine S4 5 J ?_;refine c5 ?_;cases h;exact⟨J,[_,_,_],⟨oL J J J u5 p7 nl J,⟨J,⟨J,tr⟩⟩⟩,J,io⟩
 .refine c7 ?_;refine dr [] s6 (by kernel_rfl) (by kernel_rfl)<|y4 h λv2 hv2 h=>eE J (u7 J uY J hv2) J<|S7 2 J<|d4 J (WL (es:=v2) (k:=a1.Kind) (E:=sP) (EK:=iF) (d:=.tup [sP ((y9 v2 a1.Kind).getD (none:Fv)),.bool ((y9 v2 a1.Kind).isSome)]) J J bw (w9 H8) PH J (Yr _ _ _)) J<|S8 5 J<|k9<|S4 2 J ?_;refine cN h (λhc h=>?_) λhc h=>?_
  .refine S4 4 J ?_;refine c5 ?_;cases h;exact⟨J,[_,_,_],⟨oL J J J u5 p7 nl J,⟨J,⟨J,tr⟩⟩⟩,J,io⟩
  .refine c7 ?_;refine S3 3 J<|y0 J (p6 (cs:=[.L c8.Pv a0.S.S.b7,.I a0.S.S.Last,.I a0.S.Serial,.L iF a0.Roots,.L k7.Pv a0.b7,.L g5.Pv a0.T,.L e6.Pv a0.Q.L,.I a0.Q.Cap,.I a1.Kind,.I a1.A,.I a1.B,.I a1.C]) J Py PI J J J) ?_;obtain⟨v3,hv3,h⟩:=sf h;obtain⟨n4,he4,hk5,hp6⟩:=GG hv3;refine N9 (SP 30 J he4)<|yc J (CO J hk5 J hp6)<|S2 6 J<|k9<|S4 2 J ?_;refine cN h (λhc h=>?_) λhc h=>?_
   .refine S4 5 J ?_;refine c5 ?_;cases h;exact⟨J,[_,_,_],⟨oL J J J u5 p7 nl J,⟨J,⟨J,tr⟩⟩⟩,J,io⟩
   .refine c7 ?_;refine S3 1 J<|cF h cr J J λv5 _ h=>S2 2 J<|dr [] s6 (by kernel_rfl) (by kernel_rfl)<|S7 4 J<|y4 h λv6 hv8 h=>d2 J (S9 J tB J hv8) J<|C9 (x':=b9.Pv v5) (cl':=true) J J (.inr J) p7<|S8 2 J<|c5 ?_;cases h;exact⟨J,[_,_,_],⟨oL J J J u5 p7 nl J,⟨J,⟨J,tr⟩⟩⟩,J,io⟩
theorem AN{a0}:PO Tryz.prog 376 [b6.Pv a0] (nk a0) λr=>.fn (.func 381) [.rptr (b6.Pc r)]:=by
 refine pO Tryz.func376 λr h _ _=>?_;unfold nk at h;refine S4 2 J<|S4 2 J<|c5 ?_;cases h;exact f1
theorem vP{a0 a1}:PO Tryz.prog 368 [b6.Pv a0,.I a1] (lQ a0 a1) λr=>.L iF r:=by
 refine pO Tryz.func368 λr h _ _=>?_;refine S4 2 J<|S3 2 J<|cF h C5 J J λv1 _ h=>S2 6 J<|S3 2 J<|cF h uo J J λv2 _ h=>S2 1 J<|c5 ?_;cases h;exact f1
end Go.Proofs.YtmgbbnfgfmfgaaaGreat.Ok
