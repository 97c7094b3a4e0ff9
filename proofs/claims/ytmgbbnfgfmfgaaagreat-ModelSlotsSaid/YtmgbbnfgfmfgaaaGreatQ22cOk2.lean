/- A part. -/
import Derived.Test.YtmgbbnfgfmfgaaaGreatQ22cOk1
set_option linter.unusedVariables false
set_option linter.unusedSimpArgs false
set_option linter.unusedSectionVars false
namespace Go.Proofs.YtmgbbnfgfmfgaaaGreat.Ok
open Go Go.Pw Go.Sh Go.Proofs
set_option maxRecDepth 100000
set_option maxHeartbeats 4000000
theorem qV{a0 a1}:PO Tryz.prog 175 [j5.Pv a0,.I a1] (aD a0 a1) λr=>.bool r:=by
 refine pO Tryz.func175 λr h _ _=>?_;refine S4 3 J ?_;refine jq h (λ_=>St.of [(4,.ptr 2001 0 0)] [(2001,vR (.bool false) 1)]) (λq7 h=>?_) λκ6 h=>?_
 .refine S4 1 J ?_;refine c5 ?_;cases h;exact⟨J,[_],⟨oS J J J vC J,tr⟩,J,io⟩
 .refine S3 1 J ?_;refine cF h yY J J λv8 _ h=>yN<|k8<|bM (rU (λl=>if l=2003 then 4 else if l=2004 then 3 else l) [(3,.ptr 2004 0 0),(4,.ptr 2003 0 0),(7,.fn (.func 277) [.rptr (j5.Pc v8.1),.rptr [.I v8.2]])] [(2003,vR (.bool false) 1),(2004,vR (.I a1) 1)]) ?_;refine bL (fn:=Tryz.f277) (N1:=24) J Tryz.func277 J J nl J Ht J J (λl16 e17 o18 hR19=>?_);refine S3 2 J<|nL J I8<|S2 1 J<|k8<|lq h (λs10=>St.of [(1000003,.ptr 2004 0 0),(1000004,.ptr 2003 0 0),(1000007,.fn (.func 277) [.rptr (j5.Pc v8.1),.rptr [.I v8.2]]),(0,.fn (.yield l16) []),(2,.rptr [.I v8.2]),(7,.L g5.Pv v8.1.L),(8,.I (v8.1.L.length:Int)),(9,.I s10)] [(2003,vR (.bool false) 1),(2004,vR (.I a1) 1)]) W λs10 x11 h hx22=>S4 1 J<|k9 ?_;refine cN h (λhc h=>?_) λhc h=>?_
  .refine c7 ?_;refine k9<|k8<|sR<|iL h J J I8 C8 λv12 _ h=>S2 3 J<|S3 5 J<|m8 J (λhg=>om (d:=.fn (.yield l16) []) J)<|m8 J (λhg=>oL J J J bU C8 nl J) ?_;rcases zay ((v12.Kind==v8.2)==true) with hg24 | hg24
   .have h:=Sj h hg24;refine O2 (WE [(1000003,.ptr 2004 0 0),(1000004,.ptr 2003 0 0),(1000007,.fn (.func 277) [.rptr (j5.Pc v8.1),.rptr [.I v8.2]]),(0,.fn (.yield l16) []),(2,.rptr [.I v8.2]),(7,.L g5.Pv v8.1.L),(8,.I (v8.1.L.length:Int)),(9,.I s10),(17,.bool (v12.Kind==v8.2)),(18,.fn (.yield l16) []),(19,g5.Pv v12)] [(2003,vR (.bool false) 1),(2004,vR (.I a1) 1)]) ?_;refine jb hR19 (zW some hg24) J J J J J (λe25 o26 o27=>?_);refine S6 2 J ?_;refine⟨J,?_⟩;refine k8<|S4 4 J ?_;refine cN h (λhc h=>?_) λhc h=>?_
    .refine S4 1 J ?_;refine c5 ?_;refine⟨J,?_⟩;refine O2 (WE [(1000003,.ptr 2004 0 0),(1000004,.ptr 2003 0 0),(1000007,.fn (.func 277) [.rptr (j5.Pc v8.1),.rptr [.I v8.2]]),(0,.fn (.yield l16) []),(2,.rptr [.I v8.2]),(7,.L g5.Pv v8.1.L),(8,.I (v8.1.L.length:Int)),(9,.I s10),(17,.bool (v12.Kind==v8.2)),(20,.bool false)] [(2003,vR (.bool true) 1),(2004,vR (.I a1) 1)])<|y0 (zW some hg24) (fN J J)<|y0 J (kI J J hg24)<|yN ?_;refine G5 true J (λ_=>?_) (λq=>nomatch q);refine c5 ?_;refine .inr ⟨.ret,J,Ql ?_⟩;have h:=xL hx22 h;cases h;exact⟨J,[_],⟨oS J J J vC J,tr⟩,J,io⟩
    .refine c7 ?_;refine⟨J,?_⟩;refine O2 (WE [(1000003,.ptr 2004 0 0),(1000004,.ptr 2003 0 0),(1000007,.fn (.func 277) [.rptr (j5.Pc v8.1),.rptr [.I v8.2]]),(0,.fn (.yield l16) []),(2,.rptr [.I v8.2]),(7,.L g5.Pv v8.1.L),(8,.I (v8.1.L.length:Int)),(9,.I s10),(17,.bool (v12.Kind==v8.2)),(20,.bool true)] [(2003,vR (.bool false) 1),(2004,vR (.I a1) 1)])<|y0 (zW some hg24) (fN J J)<|y0 J (kI J J hg24)<|yN ?_;refine G5 false J (λq=>nomatch q) (λ_=>?_);refine c7<|S6 2 J ?_;exact eL h W
   .have h:=Si h hg24;refine cR (zW some hg24)<|cR (zW some hg24)<|y0 J (ng J J hg24)<|yN ?_;refine G5 false J (λq=>nomatch q) (λ_=>?_);refine c7<|S6 2 J ?_;exact eL h W
  .refine o6 ?_;refine g6<|g6<|l7 ?_;refine .inl ⟨J,?_⟩;have h:=xL hx22 h;exact eJ h (WP (λl=>if l=2001 then 2003 else l))
theorem vX{a0 a1}:PO Tryz.prog 272 [.L k7.Pv a0,.I a1] (jT a0 a1) λr=>.bool r:=by
 refine pO Tryz.func272 λr h _ _=>?_;unfold jT at h;refine S4 1 J<|S3 3 J<|m8 J (λhg=>mI J)<|m8 J (λhg=>om (d:=.L k7.Pv a0) J)<|m8 J (λhg=>bK (f:=k7.Pv) (ct hg) U0)<|m8 J (λhg=>C3 (ct hg) (ct hg) J)<|y0 J (D9 J J J (λq=>lh q))<|S2 1 J<|c5 ?_;cases h;exact f1
theorem vW{a0 a1 a2 a3}:PO Tryz.prog 176 [.L k7.Pv a0,.I a1,.I a2,.I a3] (jS a0 a1 a2 a3) λr=>.tup [.L k7.Pv r.1,.I r.2.1,.I r.2.2]:=by
 refine pO Tryz.func176 λr h _ _=>?_;refine S4 3 J<|k9<|S3 2 J<|cA h vX J J λv1 _ h=>S2 1 J ?_;refine cN h (λhc h=>?_) λhc h=>?_
 .refine S4 4 J ?_;refine c5 ?_;cases h;exact f3
 .refine c7 ?_;refine S3 1 J<|x8 h λv2 hv2 h=>Jw J (gX J nV J hv2) J J<|S2 1 J<|S3 6 J<|y0 J (p6 (cs:=[.I a2,.bool (a2 != 0),.I a3]) J Pf BV J J J)<|x8 h λv3 hv3 h=>y0 J (aN (f:=k7.Pv) hv3 J J J J U0 X8 J)<|nX (f:=k7.Pv) (v:=(⟨a2,(a2 != 0),a3⟩:k7)) hv3 J J (.inl J) X8<|yN<|dr [] s6 (by kernel_rfl) (by kernel_rfl)<|S7 3 J<|x8 h λv4 hv4 h=>d0 J (K1 (f:=k7.Pv) (cs:=k7.Pc v4) hv4 J J U0 X8 J J) J<|S8 5 J<|c5 ?_;cases h;exact f3
theorem tI{a0 a1 a2}:PO Tryz.prog 93 [a8.Pv a0,.I a1,g7.Pv a2] (fi a0 a1 a2) λr=>.tup [a8.Pv r.1,.I r.2]:=by
 refine pO Tryz.func93 λr h _ _=>?_;refine S4 4 J<|k9<|S3 4 J<|m8 J (λhg=>mI J)<|m8 J (λhg=>C3 (ct hg) J J)<|y0 J (D9 J J J (λq=>lh q))<|yN ?_;refine cN h (λhc h=>?_) λhc h=>?_
 .refine S4 3 J ?_;refine c5 ?_;cases h;exact⟨J,[_,_],⟨oL J J J z8 u9 nl J,⟨J,tr⟩⟩,J,io⟩
 .refine c7 ?_;refine k9<|dr [] s6 (by kernel_rfl) (by kernel_rfl)<|S7 1 J<|x8 h λv1 hv1 h=>fI J (w7 J cq J hv1) J<|S7 2 J<|x8 h λv2 hv2 h=>d2 J (T1 J qV J hv2) J<|J0 ?_;refine cN h (λhc h=>?_) λhc h=>?_
  .refine S4 3 J ?_;refine c5 ?_;cases h;exact⟨J,[_,_],⟨oL J J J z8 u9 nl J,⟨J,tr⟩⟩,J,io⟩
  .refine c7 ?_;refine S3 7 J<|cF h vW J J λv3 _ h=>S2 7 J<|k9<|S4 2 J ?_;refine cN h (λhc h=>?_) λhc h=>?_
   .refine S4 4 J ?_;refine c5 ?_;cases h;exact⟨J,[_,_],⟨oL J J J z8 u9 nl J,⟨J,tr⟩⟩,J,io⟩
   .refine c7 ?_;refine S4 3 J<|S3 2 J<|cF h kE J J λv4 _ h=>S2 2 J<|c5 ?_;cases h;exact⟨J,[_,_],⟨oL J J J z8 u9 nl J,⟨J,tr⟩⟩,J,io⟩
theorem fk{a0 a1 a2}:PO Tryz.prog 90 [a8.Pv a0,.I a1,g7.Pv a2,.fn (.func 93) []] (I0 a0 a1 a2) λr=>.tup [a8.Pv r.1,g9.Pv r.2]:=by
 refine pO Tryz.func90 λr h _ _=>?_;refine S4 4 J<|S3 4 J<|cF h tI J J λv1 _ h=>S2 6 J<|k9<|S4 2 J ?_;refine cN h (λhc h=>?_) λhc h=>?_
 .refine S3 2 J ?_;refine y0 J (p6 (cs:=[.I 0,.I v1.2]) J bf U1 J J J)<|S2 2 J<|c5 ?_;cases h;exact⟨J,[_,_],⟨oL J J J z8 u9 nl J,⟨oL J J J G6 A7 nl J,tr⟩⟩,J,io⟩
 .refine c7 ?_;refine S3 1 J<|cF h N2 J J λv2 _ h=>S1 1 J<|y0 J (p6 (cs:=[.I a1,.I 0]) J bf U1 J J J)<|S2 2 J<|c5 ?_;cases h;exact⟨J,[_,_],⟨oL J J J z8 u9 nl J,⟨oL J J J G6 A7 nl J,tr⟩⟩,J,io⟩
theorem tG{a0 a1}:PO Tryz.prog 177 [g8.Pv a0,.rptr (b8.Pc a1)] (fg a0 a1) λr=>.bool r:=by
 refine pO Tryz.func177 λr h _ _=>?_;unfold fg at h;refine S4 2 J<|S4 6 J<|c5 ?_;cases h;exact f1
theorem ab{a0 a1}:OG Tryz.prog 163 [.L g8.Pv a0,.fn (.func 177) [.rptr (b8.Pc a1)]] (D0 a0 a1) λr=>⟨List.map g8.Pv r,(List.map g8.Pv r).length,true,2,true⟩:=by
 refine Sx Tryz.func163 λr h _ _=>?_;refine S4 1 J<|S4 1 J ?_;refine jq h (λj15=>St.of [(5,.sl 910005)] [(910005,⟨List.map g8.Pv j15,(List.map g8.Pv j15).length,true,2,true⟩)]) (λj15 h=>?_) λκ14 h=>?_
 .refine S4 2 J ?_;refine bM (m9 _ [910005])<|c5 ?_;cases h;exact⟨J,_,_,J,J,J,J⟩
 .refine S3 1 J ?_;refine nL J M5<|S2 1 J<|k8<|lq h (λq=>St.of [(1,.fn (.func 177) [.rptr (b8.Pc a1)]),(5,.sl 910005),(8,.L g8.Pv a0),(9,.I (a0.length:Int)),(10,.I q.1)] [(910005,⟨List.map g8.Pv q.2,(List.map g8.Pv q.2).length,true,2,true⟩)]) (Wk.trans (G3 (t:=5) (l:=920005) (z:=2) J J) (WP (λl=>if l=910005 then 920005 else l))) λq20 x19 h hx14=>?_;obtain⟨s17,s18⟩:=q20;refine S4 1 J<|k9 ?_;refine cN h (λhc h=>?_) λhc h=>?_
  .refine c7 ?_;refine jq h (λj25=>St.of [(1,.fn (.func 177) [.rptr (b8.Pc a1)]),(5,.sl 20),(8,.L g8.Pv a0),(9,.I (a0.length:Int)),(10,.I s17)] [(20,⟨List.map g8.Pv j25,(List.map g8.Pv j25).length,true,2,true⟩)]) (λj25 h=>?_) λκ24 h=>?_
   .refine S6 2 J ?_;exact eL h (Wk.trans (m9 _ [20]) (WP (λl=>if l=910005 then 20 else l)))
   .refine k8 ?_;refine sR<|iL h J J M5 T5 λv26 _ h=>S2 3 J<|S3 2 J<|cA h tG J J λv27 _ h=>yN ?_;refine cN h (λhc h=>?_) λhc h=>?_
    .refine S5 2 J ?_;refine y0 J (I5 (f:=g8.Pv) (l:=[v26]) J M5 T5 al J J nl J J)<|x8 h λv28 hv21 h=>J5 J (I4 (f:=g8.Pv) hv21 J J J J J J (.inl ⟨_,J,J⟩) M5 T5 pL al J (λ_=>J)) J J J<|S2 1 J ?_;exact eJ h (Wk.trans (m9 _ [20]) W)
    .refine c7 ?_;exact eJ h (Wk.trans (m9 _ [910005]) (WP (λl=>if l=20 then 910005 else l)))
  .refine o6 ?_;refine g6<|g6<|l7 ?_;have h:=xL hx14 h;exact eJ h (Wk.trans (m9 _ [910005]) W)
theorem wu{a0 a1 a2}:PO Tryz.prog 94 [a8.Pv a0,.I a1,g7.Pv a2] (iR a0 a1 a2) λr=>.tup [a8.Pv r.1,.I r.2]:=by
 refine pO Tryz.func94 λr h _ _=>?_;refine S4 4 J<|S3 3 J<|cF h dq J J λv1 _ h=>S2 6 J<|k9<|S4 2 J ?_;refine cN h (λhc h=>?_) λhc h=>?_
 .refine S4 4 J ?_;refine c5 ?_;cases h;exact⟨J,[_,_],⟨oL J J J z8 u9 nl J,⟨J,tr⟩⟩,J,io⟩
 .refine c7 ?_;refine S3 3 J<|x8 h λv2 hv2 h=>Jw J (gX J ab J hv2) J J<|S2 1 J<|k9<|S4 2 J ?_;refine cN h (λhc h=>?_) λhc h=>?_
  .refine S4 3 J ?_;refine S4 3 J<|c5 ?_;cases h;exact⟨J,[_,_],⟨oL J J J z8 u9 nl J,⟨J,tr⟩⟩,J,io⟩
  .refine c7 ?_;refine k9<|S3 1 J<|y0 J (II (f:=g8.Pv) J J J M5)<|S2 3 J ?_;refine cN h (λhc h=>?_) λhc h=>?_
   .refine S4 3 J ?_;refine c5 ?_;cases h;exact⟨J,[_,_],⟨oL J J J z8 u9 nl J,⟨J,tr⟩⟩,J,io⟩
   .refine c7 ?_;refine S3 2 J<|cF h gE J J λv3 _ h=>S2 1 J<|S3 4 J<|y0 J (p6 (cs:=[.I v1.1.Serial,.I a1]) J BU al J J J)<|y0 J (I5 (f:=g8.Pv) (l:=[(⟨v1.1.Serial,a1⟩:g8)]) J M5 T5 al J J nl J J)<|x8 h λv4 hv4 h=>J5 J (I4 (f:=g8.Pv) hv4 J J J J J J (.inl ⟨_,J,J⟩) M5 T5 pL al J (λ_=>J)) J J J<|S2 2 J<|S4 3 J<|c5 ?_;cases h;exact⟨J,[_,_],⟨oL J J J z8 u9 nl J,⟨J,tr⟩⟩,J,io⟩
theorem fY{a0 a1 a2}:PO Tryz.prog 90 [a8.Pv a0,.I a1,g7.Pv a2,.fn (.func 94) []] (J6 a0 a1 a2) λr=>.tup [a8.Pv r.1,g9.Pv r.2]:=by
 refine pO Tryz.func90 λr h _ _=>?_;refine S4 4 J<|S3 4 J<|cF h wu J J λv1 _ h=>S2 6 J<|k9<|S4 2 J ?_;refine cN h (λhc h=>?_) λhc h=>?_
 .refine S3 2 J ?_;refine y0 J (p6 (cs:=[.I 0,.I v1.2]) J bf U1 J J J)<|S2 2 J<|c5 ?_;cases h;exact⟨J,[_,_],⟨oL J J J z8 u9 nl J,⟨oL J J J G6 A7 nl J,tr⟩⟩,J,io⟩
 .refine c7 ?_;refine S3 1 J<|cF h N2 J J λv2 _ h=>S1 1 J<|y0 J (p6 (cs:=[.I a1,.I 0]) J bf U1 J J J)<|S2 2 J<|c5 ?_;cases h;exact⟨J,[_,_],⟨oL J J J z8 u9 nl J,⟨oL J J J G6 A7 nl J,tr⟩⟩,J,io⟩
theorem Ae{a0}:PO Tryz.prog 178 [.I a0] (qm a0) λr=>.tup [.L iF r.1,.I r.2]:=by
 refine pO Tryz.func178 λr h _ _=>?_;refine S4 2 J<|k9<|S3 3 J<|m8 J (λhg=>mI J)<|m8 J (λhg=>C3 (ct hg) J J)<|y0 J (J2 J J J (λq=>ly q))<|yN ?_;refine cN h (λhc h=>?_) λhc h=>?_
 .refine S4 2 J ?_;refine c5 ?_;cases h;exact f2
 .refine c7 ?_;refine S3 1 J<|x8 h λv1 hv1 h=>y1 J (AJ (f:=iF) hv1 J J J l6 o5 B8 Q0 J J J) J<|S2 2 J<|c5 ?_;cases h;exact f2
theorem nP{a0 a1 a2}:PO Tryz.prog 97 [a8.Pv a0,.I a1,.I a2] (az a0 a1 a2) λr=>.tup [a8.Pv r.1,g9.Pv r.2]:=by
 refine pO Tryz.func97 λr h _ _=>?_;refine S4 3 J<|S3 3 J<|cF h iz J J λv1 _ h=>cF h N2 J J λv2 _ h=>S2 1 J<|dr [2,4,5,1003] s6 (by kernel_rfl) (by kernel_rfl)<|S7 2 J<|d7 J (λ_ hN=>tJ hN J J J J dv J) J<|S7 1 J<|x8 h λv3 hv3 h=>d7 J (λ_ hN=>K1 (f:=iF) (cs:=[.I v3]) hv3 J J l6 o5 J J) J<|d7 J (λ_ hN=>L0 J F3 J) J<|d7 J (λ_ hN=>p6 (cs:=[.I v3,.I 0]) J bf U1 J J J) J<|D1 (x':=a8.Pv v2) (cl':=true) J J (.inr J) u9<|D1 (x':=.agg [.I v3,.I 0]) (cl':=true) J J (.inl J) A7<|J0<|c5 ?_;cases h;exact⟨J,[_,_],⟨oL J J J z8 u9 nl J,⟨oL J J J G6 A7 nl J,tr⟩⟩,J,io⟩
theorem uZ{a0 a1}:PO Tryz.prog 95 [a8.Pv a0,g7.Pv a1] (cY a0 a1) λr=>.tup [a8.Pv r.1,g9.Pv r.2]:=by
 refine pO Tryz.func95 λr h _ _=>?_;refine S4 4 J<|S3 2 J<|cF h Ae J J λv1 _ h=>S2 5 J<|k9<|S4 2 J ?_;refine cN h (λhc h=>?_) λhc h=>?_
 .refine S3 2 J ?_;refine y0 J (p6 (cs:=[.I 0,.I v1.2]) J bf U1 J J J)<|S2 2 J<|c5 ?_;cases h;exact⟨J,[_,_],⟨oL J J J z8 u9 nl J,⟨oL J J J G6 A7 nl J,tr⟩⟩,J,io⟩
 .refine c7 ?_;refine S3 2 J<|cA h dZ J J λv2 _ h=>S2 1 J<|k9<|S4 2 J ?_;refine cN h (λhc h=>?_) λhc h=>?_
  .refine S3 1 J ?_;refine y0 J (p6 (cs:=[.I 0,.I 4]) J bf U1 J J J)<|S2 2 J<|c5 ?_;cases h;exact⟨J,[_,_],⟨oL J J J z8 u9 nl J,⟨oL J J J G6 A7 nl J,tr⟩⟩,J,io⟩
  .refine c7 ?_;refine S4 5 J<|S3 2 J<|x8 h λv3 hv3 h=>Jw J (gX J I6 J hv3) J J<|S2 2 J<|S3 5 J<|x8 h λv4 hv4 h=>y0 J (aN (f:=iF) hv4 J J J J l6 o5 J)<|nX (f:=iF) (v:=u7 (a0.Serial+1)) hv4 J J (.inl J) o5<|yN<|dr [] s6 (by kernel_rfl) (by kernel_rfl)<|S7 2 J<|x8 h λv5 hv5 h=>Xy J (gX J A9 J hv5) J J J<|S7 6 J<|d7 J (λ_ hN=>p6 (cs:=[.I (u7 (a0.Serial+1)),.I v2,.I a1.C,.bool false,.bool true,.bool false,.L iF v1.1]) J Hx aj J J J) J<|VJ J (I5 (f:=b8.Pv) (l:=[(⟨u7 (a0.Serial+1),v2,a1.C,false,true,false,v1.1⟩:b8)]) J A2 u6 aj J J nl J J) J<|x8 h λv6 hv6 h=>Yg J (I4 (f:=b8.Pv) hv6 J J J J J J (.inl ⟨_,J,J⟩) A2 u6 mw aj J (λ_=>J)) J J J J J<|S7 1 J<|D1 (x':=.agg [.sl 52,.sl 33,.L iF a0.Gens,.I a0.Last,.I a0.Places,.I (u7 (a0.Serial+1)),.L iF a0.Roots,.L k7.Pv a0.b7,.L g8.Pv a0.Pairs,.L g5.Pv a0.Tasks,.L (Ls g7.Pv) a0.Progs]) (cl':=false) J J (.inl J) SS<|J0<|S3 5 J<|x8 h λv7 hv7 h=>Jv J (w7 J nP J hv7) J<|S2 4 J<|c5 ?_;cases h;exact⟨J,[_,_],⟨oL J J J z8 u9 nl J,⟨oL J J J G6 A7 nl J,tr⟩⟩,J,io⟩
theorem BM{a0 a1}:PO Tryz.prog 182 [.L iF a0,.I a1] (iG a0 a1) λr=>.tup [.I r.1,.I r.2]:=by
 refine pO Tryz.func182 λr h _ _=>?_;refine S4 2 J<|k9<|S3 2 J<|cA h Af J J λv1 _ h=>S2 1 J ?_;refine cN h (λhc h=>?_) λhc h=>?_
 .refine S4 2 J ?_;refine c5 ?_;cases h;exact f2
 .refine c7 ?_;refine S3 2 J<|iL h J J l6 o5 λv2 _ h=>S2 3 J<|c5 ?_;cases h;exact f2
theorem uu{a0 a1}:PO Tryz.prog 183 [.L k7.Pv a0,.I a1] (cD a0 a1) λr=>.tup [.I r.1,.I r.2]:=by
 refine pO Tryz.func183 λr h _ _=>?_;refine S4 2 J<|k9<|S3 2 J<|cA h vX J J λv1 _ h=>S2 1 J ?_;refine cN h (λhc h=>?_) λhc h=>?_
 .refine S4 2 J ?_;refine c5 ?_;cases h;exact f2
 .refine c7 ?_;refine k9<|S3 2 J<|iL h J J U0 X8 λv2 hv2 h=>S1 4 J<|m8 J (λhg=>om (d:=.L k7.Pv a0) J)<|m8 J (λhg=>mI J)<|m8 J (λhg=>K1 (f:=k7.Pv) (cs:=k7.Pc v2) hv2 (ct hg) (ct hg) U0 X8 J J)<|m8 J (λhg=>V2 (ct hg) JD J)<|m8 J (λhg=>L0 (ct hg) vC J)<|m8 J (λhg=>fN (ct hg) J)<|y0 J (J2 J J J (λq=>ly q))<|yN ?_;refine cN h (λhc h=>?_) λhc h=>?_
  .refine S4 2 J ?_;refine c5 ?_;cases h;exact f2
  .refine c7 ?_;refine S3 2 J<|y0 J (K1 (f:=k7.Pv) (cs:=k7.Pc v2) hv2 J J U0 X8 J J)<|S2 4 J<|c5 ?_;cases h;exact f2
theorem yr{a0 a1}:PO Tryz.prog 96 [a8.Pv a0,g7.Pv a1] (bI a0 a1) λr=>.tup [.I r.1,.I r.2]:=by
 refine pO Tryz.func96 λr h _ _=>?_;refine S4 4 J<|k9<|S4 2 J<|k8<|S4 2 J ?_;refine cN h (λhc h=>?_) λhc h=>?_
 .refine S3 4 J ?_;refine iL h J J l6 o5 λv1 _ h=>S2 3 J<|c5 ?_;cases h;exact f2
 .refine S4 2 J ?_;refine cN h (λhc h=>?_) λhc h=>?_
  .refine S3 3 J ?_;refine cF h dq J J λv2 _ h=>S2 6 J<|k9<|S4 2 J ?_;refine cN h (λhc h=>?_) λhc h=>?_
   .refine S4 3 J ?_;refine c5 ?_;cases h;exact f2
   .refine c7 ?_;refine S3 4 J<|cA h BM J J λv3 _ h=>S2 4 J<|c5 ?_;cases h;exact f2
  .refine S4 2 J ?_;refine cN h (λhc h=>?_) λhc h=>?_
   .refine S3 4 J ?_;refine cA h uu J J λv4 _ h=>S2 4 J<|c5 ?_;cases h;exact f2
   .refine S4 2 J ?_;refine cN h (λhc h=>?_) λhc h=>?_
    .refine S3 3 J ?_;refine cF h dq J J λv5 _ h=>S2 6 J<|k9<|S4 2 J ?_;refine cN h (λhc h=>?_) λhc h=>?_
     .refine S4 3 J ?_;refine c5 ?_;cases h;exact f2
     .refine c7 ?_;refine k9<|S3 3 J<|cF h kG J J λv6 _ h=>S2 1 J<|S3 1 J<|nL J l6<|S2 1 J ?_;refine cN h (λhc h=>?_) λhc h=>?_
      .refine S3 1 J ?_;refine iL h J J l6 o5 λv7 _ h=>S2 3 J<|c5 ?_;cases h;exact f2
      .refine c7 ?_;refine S4 2 J<|c5 ?_;cases h;exact f2
    .refine c7 ?_;refine S4 2 J<|c5 ?_;cases h;exact f2
theorem qP{a0 a1}:PO Tryz.prog 53 [a8.Pv a0,g7.Pv a1] (bJ a0 a1) λr=>.tup [a8.Pv r.1,g9.Pv r.2]:=by
 refine pO Tryz.func53 λr h _ _=>?_;refine S4 4 J<|k9<|S4 2 J<|k8<|S4 2 J ?_;refine cN h (λhc h=>?_) λhc h=>?_
 .refine k9 ?_;refine dr [] s6 (by kernel_rfl) (by kernel_rfl)<|S7 4 J<|x8 h λv1 hv1 h=>d0 J (K1 (f:=iF) (cs:=[.I v1]) hv1 J J l6 o5 J J) J<|S7 5 J<|x8 h λv2 hv2 h=>d0 J (K1 (f:=iF) (cs:=[.I v2]) hv2 J J l6 o5 J J) J<|S8 2 J ?_;refine cN h (λhc h=>?_) λhc h=>?_
  .refine S3 1 J ?_;refine y0 J (p6 (cs:=[.I 1,.I 0]) J bf U1 J J J)<|S2 2 J<|c5 ?_;cases h;exact⟨J,[_,_],⟨oL J J J z8 u9 nl J,⟨oL J J J G6 A7 nl J,tr⟩⟩,J,io⟩
  .refine c7 ?_;refine S3 1 J<|y0 J (p6 (cs:=[.I 0,.I 0]) J bf U1 J J J)<|S2 2 J<|c5 ?_;cases h;exact⟨J,[_,_],⟨oL J J J z8 u9 nl J,⟨oL J J J G6 A7 nl J,tr⟩⟩,J,io⟩
 .refine S4 2 J ?_;refine cN h (λhc h=>?_) λhc h=>?_
  .refine dr [] s6 (by kernel_rfl) (by kernel_rfl) ?_;refine S7 4 J<|x8 h λv3 hv3 h=>d2 J (T1 J da J hv3) J<|S7 1 J<|x8 h λv4 hv4 h=>fI J (w7 J fZ J hv4) J<|S7 2 J<|D1 (x':=a8.Pv v4.1) (cl':=true) J J (.inr J) u9<|D1 (x':=g9.Pv v4.2) (cl':=true) J J (.inl J) A7<|J0<|c5 ?_;cases h;exact⟨J,[_,_],⟨oL J J J z8 u9 nl J,⟨oL J J J G6 A7 nl J,tr⟩⟩,J,io⟩
  .refine S4 2 J ?_;refine cN h (λhc h=>?_) λhc h=>?_
   .refine dr [] s6 (by kernel_rfl) (by kernel_rfl) ?_;refine S7 4 J<|x8 h λv5 hv5 h=>d2 J (T1 J da J hv5) J<|S7 1 J<|x8 h λv6 hv6 h=>fI J (w7 J fk J hv6) J<|S7 2 J<|D1 (x':=a8.Pv v6.1) (cl':=true) J J (.inr J) u9<|D1 (x':=g9.Pv v6.2) (cl':=true) J J (.inl J) A7<|J0<|c5 ?_;cases h;exact⟨J,[_,_],⟨oL J J J z8 u9 nl J,⟨oL J J J G6 A7 nl J,tr⟩⟩,J,io⟩
   .refine S4 2 J ?_;refine cN h (λhc h=>?_) λhc h=>?_
    .refine dr [] s6 (by kernel_rfl) (by kernel_rfl) ?_;refine S7 4 J<|x8 h λv7 hv7 h=>d2 J (T1 J da J hv7) J<|S7 1 J<|x8 h λv8 hv8 h=>fI J (w7 J fY J hv8) J<|S7 2 J<|D1 (x':=a8.Pv v8.1) (cl':=true) J J (.inr J) u9<|D1 (x':=g9.Pv v8.2) (cl':=true) J J (.inl J) A7<|J0<|c5 ?_;cases h;exact⟨J,[_,_],⟨oL J J J z8 u9 nl J,⟨oL J J J G6 A7 nl J,tr⟩⟩,J,io⟩
    .refine S4 2 J ?_;refine cN h (λhc h=>?_) λhc h=>?_
     .refine S3 2 J ?_;refine cF h uZ J J λv9 _ h=>S2 4 J<|c5 ?_;cases h;exact⟨J,[_,_],⟨oL J J J z8 u9 nl J,⟨oL J J J G6 A7 nl J,tr⟩⟩,J,io⟩
     .refine c7 ?_;refine S3 2 J<|cA h yr J J λv10 _ h=>S2 5 J<|k9<|S4 2 J ?_;refine cN h (λhc h=>?_) λhc h=>?_
      .refine S3 2 J ?_;refine y0 J (p6 (cs:=[.I 0,.I v10.2]) J bf U1 J J J)<|S2 2 J<|c5 ?_;cases h;exact⟨J,[_,_],⟨oL J J J z8 u9 nl J,⟨oL J J J G6 A7 nl J,tr⟩⟩,J,io⟩
      .refine c7 ?_;refine S3 4 J<|cF h nP J J λv11 _ h=>S2 4 J<|c5 ?_;cases h;exact⟨J,[_,_],⟨oL J J J z8 u9 nl J,⟨oL J J J G6 A7 nl J,tr⟩⟩,J,io⟩
theorem CE{a0 a1}:PO Tryz.prog 171 [a8.Pv a0,.L g7.Pv a1] (jf a0 a1) λr=>a8.Pv r:=by
 refine pO Tryz.func171 λr h _ _=>?_;refine S4 2 J ?_;refine jq h (λj9=>St.of [(2,.ptr 2 0 0),(4,.ptr 4 0 0)] [(4,vR (.agg [.nl,.nl,.nl,.I 0,.I 0,.I 0,.nl,.nl,.nl,.nl,.nl]) 11),(2,vR (a8.Pv j9) 11)]) (λj9 h=>?_) λκ8 h=>?_
 .refine S4 2 J ?_;refine c5 ?_;cases h;exact⟨J,[_],⟨oL J J J z8 u9 nl J,tr⟩,J,io⟩
 .refine S3 1 J ?_;refine nL J gw<|S2 1 J<|k8<|lq h (λq=>St.of [(2,.ptr 2 0 0),(4,.ptr 4 0 0),(7,.L g7.Pv a1),(8,.I (a1.length:Int)),(9,.I q.1)] [(4,vR (.agg [.nl,.nl,.nl,.I 0,.I 0,.I 0,.nl,.nl,.nl,.nl,.nl]) 11),(2,vR (a8.Pv q.2) 11)]) W λq14 x13 h hx9=>?_;obtain⟨s11,s12⟩:=q14;refine S4 1 J<|k9 ?_;refine cN h (λhc h=>?_) λhc h=>?_
  .refine c7 ?_;refine k9<|k8<|sR<|iL h J J gw iN λv15 _ h=>S2 3 J<|S5 2 J<|cF h qP J J λv16 _ h=>S2 4 J<|S6 2 J ?_;exact eL h W
  .refine o6 ?_;refine g6<|g6<|l7 ?_;have h:=xL hx9 h;exact eJ h W
theorem vd{a0 a1}:PO Tryz.prog 89 [a8.Pv a0,g5.Pv a1] (db a0 a1) λr=>a8.Pv r:=by
 refine pO Tryz.func89 λr h _ _=>?_;refine S4 3 J<|S4 4 J ?_;refine jq h (λj3=>St.of [(2,.ptr 2 0 0),(3,.ptr 3 0 0),(4,.ptr 4 0 0),(5,.bool (a1.Kind==1))] [(4,vR (.agg [.nl,.nl,.nl,.I 0,.I 0,.I 0,.nl,.nl,.nl,.nl,.nl]) 11),(3,vR (g5.Pv a1) 3),(2,vR (a8.Pv j3) 11)]) (λj3 h=>?_) λκ2 h=>?_
 .refine S3 1 J ?_;refine cF h cq J J λv4 _ h=>cF h iZ J J λv5 _ h=>S2 9 J<|S4 4 J ?_;refine jq h (λj8=>St.of [(2,.ptr 2 0 0),(3,.ptr 3 0 0),(4,.ptr 4 0 0),(5,.bool (a1.Kind==1))] [(4,vR (.agg [.nl,.nl,.nl,.I 0,.I 0,.I 0,.nl,.nl,.nl,.nl,.nl]) 11),(3,vR (g5.Pv a1) 3),(2,vR (a8.Pv j8) 11)]) (λj8 h=>?_) λκ7 h=>?_
  .refine dr [] s6 (by kernel_rfl) (by kernel_rfl) ?_;refine S7 5 J<|x8 h λv9 hv7 h=>fI J (w7 J kS J hv7) J<|x8 h λv10 hv8 h=>fI J (w7 J CE J hv8) J<|D1 (x':=a8.Pv v10) (cl':=true) J J (.inr J) u9<|J0<|k9<|S4 1 J ?_;refine cN h (λhc h=>?_) λhc h=>?_
   .refine S5 1 J ?_;refine cF h iz J J λv11 _ h=>cF h N2 J J λv12 _ h=>S2 1 J<|S4 2 J<|c5 ?_;cases h;exact⟨J,[_],⟨oL J J J z8 u9 nl J,tr⟩,J,io⟩
   .refine c7 ?_;refine S4 2 J<|c5 ?_;cases h;exact⟨J,[_],⟨oL J J J z8 u9 nl J,tr⟩,J,io⟩
  .refine S4 1 J ?_;refine cN h (λhc h=>?_) λhc h=>?_
   .refine S5 1 J ?_;refine cF h N2 J J λv13 _ h=>S2 1 J ?_;exact eJ h W
   .refine c7 ?_;exact eJ h W
 .refine S4 1 J ?_;refine cN h (λhc h=>?_) λhc h=>?_
  .refine S5 3 J ?_;refine cF h iz J J λv14 _ h=>S2 1 J ?_;exact eJ h W
  .refine c7 ?_;exact eJ h W
theorem va{a0 a1}:PO Tryz.prog 52 [a8.Pv a0,.I a1] (gF a0 a1) λr=>.tup [a8.Pv r.1,g9.Pv r.2]:=by
 refine pO Tryz.func52 λr h _ _=>?_;refine S4 3 J<|S4 1 J ?_;refine jq h (λq=>St.of [(2,.ptr 2 0 0),(4,.ptr 4 0 0),(5,.ptr 5 0 0),(6,.I q.1)] [(5,vR (.agg [.I 0,.I 0]) 2),(4,vR (.agg [.nl,.nl,.nl,.I 0,.I 0,.I 0,.nl,.nl,.nl,.nl,.nl]) 11),(2,vR (a8.Pv q.2) 11)]) (λq13 h=>?_) λκ10 h=>?_
 .obtain⟨j11,j12⟩:=q13;refine S3 2 J<|y0 J (p6 (cs:=[.I j11,.I 0]) J bf U1 J J J)<|S2 2 J<|c5 ?_;cases h;exact⟨J,[_,_],⟨oL J J J z8 u9 nl J,⟨oL J J J G6 A7 nl J,tr⟩⟩,J,io⟩
 .refine k8 ?_;refine lq h (λq=>St.of [(1,.I q.1),(2,.ptr 2 0 0),(4,.ptr 4 0 0),(5,.ptr 5 0 0),(6,.I q.2.1)] [(5,vR (.agg [.I 0,.I 0]) 2),(4,vR (.agg [.nl,.nl,.nl,.I 0,.I 0,.I 0,.nl,.nl,.nl,.nl,.nl]) 11),(2,vR (a8.Pv q.2.2) 11)]) W λq19 x18 h hx10=>?_;obtain⟨s15,s16,s17⟩:=q19;refine k9<|S3 2 J<|nL J I8<|S2 1 J ?_;refine cN h (λhc h=>?_) λhc h=>?_
  .refine c7 ?_;refine k8<|dr [] s6 (by kernel_rfl) (by kernel_rfl)<|S7 4 J<|x8 h λv20 hv11 h=>d0 J (K1 (f:=g5.Pv) (cs:=g5.Pc v20) hv11 J J I8 C8 J J) J<|S7 1 J<|x8 h λv21 hv12 h=>d2 J (T1 J qG J hv12) J<|S8 1 J<|k9<|S4 3 J ?_;refine cN h (λhc h=>?_) λhc h=>?_
   .refine S3 2 J ?_;refine y0 J (p6 (cs:=[.I s16,.I 12]) J bf U1 J J J)<|S2 2 J<|c5 ?_;have h:=xL hx10 h;cases h;exact⟨J,[_,_],⟨oL J J J z8 u9 nl J,⟨oL J J J G6 A7 nl J,tr⟩⟩,J,io⟩
   .refine c7 ?_;refine S4 4 J<|dr [] s6 (by kernel_rfl) (by kernel_rfl)<|S7 3 J<|d0 J (K1 (f:=g5.Pv) (cs:=g5.Pc v20) hv11 J J I8 C8 J J) J<|S7 1 J<|x8 h λv22 hv13 h=>fI J (w7 J vd J hv13) J<|D1 (x':=a8.Pv v22) (cl':=true) J J (.inr J) u9<|J0<|S6 3 J ?_;exact eL h W
  .refine o6 ?_;refine g6<|g6<|l7 ?_;have h:=xL hx10 h;exact eJ h W
theorem EC{a0 a1}:PO Tryz.prog 19 [a8.Pv a0,.L iF a1] (pc a0 a1) λr=>.tup [a8.Pv r.1,g9.Pv r.2]:=by
 refine pO Tryz.func19 λr h _ _=>?_;refine S4 3 J<|S3 1 J<|cA h oC J J λv1 _ h=>S2 6 J<|k9<|S4 2 J ?_;refine cN h (λhc h=>?_) λhc h=>?_
 .refine S3 2 J ?_;refine y0 J (p6 (cs:=[.I 0,.I v1.2]) J bf U1 J J J)<|S2 2 J<|c5 ?_;cases h;exact⟨J,[_,_],⟨oL J J J z8 u9 nl J,⟨oL J J J G6 A7 nl J,tr⟩⟩,J,io⟩
 .refine c7 ?_;refine k9<|S4 2 J<|k8<|S4 2 J ?_;refine cN h (λhc h=>?_) λhc h=>?_
  .refine S3 1 J ?_;refine cF h ry J J λv2 _ h=>S2 4 J<|c5 ?_;cases h;exact⟨J,[_,_],⟨oL J J J z8 u9 nl J,⟨oL J J J G6 A7 nl J,tr⟩⟩,J,io⟩
  .refine S4 2 J ?_;refine cN h (λhc h=>?_) λhc h=>?_
   .refine S3 3 J ?_;refine cF h va J J λv3 _ h=>S2 4 J<|c5 ?_;cases h;exact⟨J,[_,_],⟨oL J J J z8 u9 nl J,⟨oL J J J G6 A7 nl J,tr⟩⟩,J,io⟩
   .refine c7 ?_;refine S3 2 J<|cF h qP J J λv4 _ h=>S2 4 J<|c5 ?_;cases h;exact⟨J,[_,_],⟨oL J J J z8 u9 nl J,⟨oL J J J G6 A7 nl J,tr⟩⟩,J,io⟩
theorem tC{a0 a1}:PO Tryz.prog 32 [a8.Pv a0,.L (Ls iF) a1] (aT a0 a1) λr=>.tup [a8.Pv r.1,.L g9.Pv r.2]:=by
 refine pO Tryz.func32 λr h _ _=>?_;refine S4 3 J<|S4 1 J ?_;refine jq h (λq=>St.of [(2,.ptr 2 0 0),(4,.ptr 4 0 0),(6,.sl 910006)] [(910006,⟨List.map g9.Pv q.2,(List.map g9.Pv q.2).length,true,2,true⟩),(4,vR (.agg [.nl,.nl,.nl,.I 0,.I 0,.I 0,.nl,.nl,.nl,.nl,.nl]) 11),(2,vR (a8.Pv q.1) 11)]) (λq13 h=>?_) λκ10 h=>?_
 .obtain⟨j11,j12⟩:=q13;refine S4 4 J<|c5 ?_;cases h;exact⟨J,[_,_],⟨oL J J J z8 u9 nl J,⟨J,tr⟩⟩,J,io⟩
 .refine S3 1 J ?_;refine nL J bb<|S2 1 J<|k8<|lq h (λq=>St.of [(2,.ptr 2 0 0),(4,.ptr 4 0 0),(6,.sl 910006),(10,.L (Ls iF) a1),(11,.I (a1.length:Int)),(12,.I q.1)] [(4,vR (.agg [.nl,.nl,.nl,.I 0,.I 0,.I 0,.nl,.nl,.nl,.nl,.nl]) 11),(2,vR (a8.Pv q.2.1) 11),(910006,⟨List.map g9.Pv q.2.2,(List.map g9.Pv q.2.2).length,true,2,true⟩)]) (Wk.trans (G3 (t:=6) (l:=920006) (z:=2) J J) (WP (λl=>if l=910006 then 920006 else l))) λq19 x18 h hx10=>?_;obtain⟨s15,s16,s17⟩:=q19;refine S4 1 J<|k9 ?_;refine cN h (λhc h=>?_) λhc h=>?_
  .refine c7 ?_;refine k9<|k8<|sR<|iL h J J bb bC λv20 _ h=>S2 2 J<|S4 1 J<|S3 2 J<|cF h EC J J λv21 _ h=>S2 5 J<|S5 2 J<|y0 J (I5 (f:=g9.Pv) (l:=[v21.2]) J js A7 U1 J J nl J J)<|x8 h λv22 hv13 h=>J5 J (I4 (f:=g9.Pv) hv13 J J J J J J (.inl ⟨_,J,J⟩) js A7 Lf U1 J (λ_=>J)) J J J<|S2 1 J<|S6 2 J ?_;exact eL h (Wk.trans (m9 _ [25]) (WP (λl=>if l=910006 then 25 else l)))
  .refine o6 ?_;refine g6<|g6<|l7 ?_;have h:=xL hx10 h;exact eJ h (Wk.trans (m9 _ [910006]) W)
theorem wh{a0}:PO Tryz.prog 64 [g7.Pv a0] (mO a0) λr=>Wd qX r:=by
 refine pO Tryz.func64 λr h _ _=>?_;refine S4 2 J<|k9<|S4 2 J<|k8<|S4 2 J ?_;refine cN h (λhc h=>?_) λhc h=>?_
 .refine sR ?_;refine y0 J (p6 (cs:=[]) J Pj HE J J J)<|y0 J (GG (n:=qX) (T:=166) (xs:=[]) J HA J)<|S2 1 J<|c5 ?_;cases h;exact f1
 .refine S4 2 J ?_;refine cN h (λhc h=>?_) λhc h=>?_
  .refine S3 2 J ?_;refine y0 J (p6 (cs:=[.I a0.A]) J Pk HF J J J)<|y0 J (GG (n:=qX) (T:=170) (xs:=[a0.A]) J HC J)<|S2 1 J<|c5 ?_;cases h;exact f1
  .refine c7 ?_;refine S3 1 J<|y0 J (p6 (cs:=[.I a0.Kind,.I a0.A,.I a0.B,.I a0.C]) J Ph HD J J J)<|y0 J (GG (n:=qX) (T:=162) (xs:=[a0.Kind,a0.A,a0.B,a0.C]) J Hz J)<|S2 1 J<|c5 ?_;cases h;exact f1
theorem uV:PO Tryz.prog 123 [] (gC) λr=>.abs (T9 (List.map (bW iF sM) r)):=by
 refine pO Tryz.func123 λr h _ _=>?_;unfold gC at h;refine S4 1 J<|sR<|BO (KT:=Int) (VT:=Fv) (EK:=iF) (E:=sM) 5000001 J J<|lg (es:=[]) (k:=1) (v:=(some 203)) (E:=sM) (EK:=iF) (.inr J) J J J J J J bA (w9 H7)<|lg (es:=(o7 [] 1 (some 203))) (k:=2) (v:=(some 204)) (E:=sM) (EK:=iF) (.inr J) J J J J J J bA (w9 H7)<|lg (es:=(o7 (o7 [] 1 (some 203)) 2 (some 204))) (k:=3) (v:=(some 205)) (E:=sM) (EK:=iF) (.inr J) J J J J J J bA (w9 H7)<|lg (es:=(o7 (o7 (o7 [] 1 (some 203)) 2 (some 204)) 3 (some 205))) (k:=4) (v:=(some 206)) (E:=sM) (EK:=iF) (.inr J) J J J J J J bA (w9 H7)<|lg (es:=(o7 (o7 (o7 (o7 [] 1 (some 203)) 2 (some 204)) 3 (some 205)) 4 (some 206))) (k:=5) (v:=(some 207)) (E:=sM) (EK:=iF) (.inr J) J J J J J J bA (w9 H7)<|lg (es:=(o7 (o7 (o7 (o7 (o7 [] 1 (some 203)) 2 (some 204)) 3 (some 205)) 4 (some 206)) 5 (some 207))) (k:=6) (v:=(some 208)) (E:=sM) (EK:=iF) (.inr J) J J J J J J bA (w9 H7)<|lg (es:=(o7 (o7 (o7 (o7 (o7 (o7 [] 1 (some 203)) 2 (some 204)) 3 (some 205)) 4 (some 206)) 5 (some 207)) 6 (some 208))) (k:=7) (v:=(some 209)) (E:=sM) (EK:=iF) (.inr J) J J J J J J bA (w9 H7)<|lg (es:=(o7 (o7 (o7 (o7 (o7 (o7 (o7 [] 1 (some 203)) 2 (some 204)) 3 (some 205)) 4 (some 206)) 5 (some 207)) 6 (some 208)) 7 (some 209))) (k:=8) (v:=(some 210)) (E:=sM) (EK:=iF) (.inr J) J J J J J J bA (w9 H7)<|lg (es:=(o7 (o7 (o7 (o7 (o7 (o7 (o7 (o7 [] 1 (some 203)) 2 (some 204)) 3 (some 205)) 4 (some 206)) 5 (some 207)) 6 (some 208)) 7 (some 209)) 8 (some 210))) (k:=9) (v:=(some 211)) (E:=sM) (EK:=iF) (.inr J) J J J J J J bA (w9 H7)<|lg (es:=(o7 (o7 (o7 (o7 (o7 (o7 (o7 (o7 (o7 [] 1 (some 203)) 2 (some 204)) 3 (some 205)) 4 (some 206)) 5 (some 207)) 6 (some 208)) 7 (some 209)) 8 (some 210)) 9 (some 211))) (k:=10) (v:=(some 212)) (E:=sM) (EK:=iF) (.inr J) J J J J J J bA (w9 H7)<|S2 2 J<|bM (Dx 0 5000001 J J)<|c5 ?_;cases h;exact f1
theorem pD{a0}:PO Tryz.prog 317 [.I a0] (V7 a0) λr=>.bool r:=by
 refine pO Tryz.func317 λr h _ _=>?_;unfold V7 at h;refine S4 1 J<|S3 3 J<|m8 J (λhg=>mI J)<|m8 J (λhg=>C3 (ct hg) J J)<|y0 J (D9 J J J (λq=>lh q))<|S2 1 J<|c5 ?_;cases h;exact f1
theorem nB{a0}:PO Tryz.prog 348 [l4.Pv a0] (Q3 a0) λr=>.fn (.func 363) [.rptr (l4.Pc r)]:=by
 refine pO Tryz.func348 λr h _ _=>?_;unfold Q3 at h;refine S4 2 J<|S4 2 J<|c5 ?_;cases h;exact f1
theorem P0{a0}:OG Tryz.prog 352 [.L c8.Pv a0] (y6 a0) λr=>⟨List.map c8.Pv r,0,true,8,true⟩:=by
 refine Sx Tryz.func352 λr h _ _=>?_;unfold y6 at h;refine S4 1 J<|k9<|S3 1 J<|ux J bc λb hb=>yN ?_;refine G5 b J (λhc=>?_) (λhc=>?_)
 .obtain rfl:a0 = []:=by simpa using hb hc
  refine S4 1 J<|bM (G3 (t:=2) (l:=920000) (z:=8) J J)<|c5 ?_;cases h;exact⟨J,_,_,J,J,J,J⟩
 .refine c7 ?_;refine sR<|y0 J (lN J bc ai)<|S1 1 J<|y1 J (yv (f:=c8.Pv) h J J (.inl ⟨_,J,J⟩) bc ai Hq pM J (λ_=>J)) J<|S2 1 J<|c5 ?_;exact⟨J,_,_,J,J,J,J⟩
theorem L2{a0 a1 a2}:PO Tryz.prog 327 [l4.Pv a0,.I a1,c8.Pv a2] (E1 a0 a1 a2) λr=>l4.Pv r:=by
 refine pO Tryz.func327 λr h _ _=>?_;unfold E1 at h;refine S4 3 J<|S3 2 J<|x8 h λv1 hv1 h=>Jw J (gX J P0 J hv1) J J<|S2 2 J<|S3 4 J<|x8 h λv2 hv2 h=>y0 J (aN (f:=c8.Pv) hv2 J J J J bc ai J)<|nX (f:=c8.Pv) (v:=a2) hv2 J J (.inr J) ai<|yN<|S4 2 J<|c5 ?_;cases h;exact⟨J,[_],⟨oL J J J ic eD nl J,tr⟩,J,io⟩
theorem oO{a0 a1}:PO Tryz.prog 132 [.I a0,.I a1] (dR a0 a1) λr=>.I r:=by
 refine pO Tryz.func132 λr h _ _=>?_;refine S4 1 J<|k9<|S3 3 J<|m8 J (λhg=>mI J)<|m8 J (λhg=>C3 (ct hg) J J)<|y0 J (J2 J J J (λq=>ly q))<|S1 1 J<|m8 J (λhg=>mI J)<|m8 J (λhg=>C3 (ct hg) J J)<|y0 J (J2 J J J (λq=>ly q))<|S1 1 J<|m8 J (λhg=>mI J)<|m8 J (λhg=>C3 (ct hg) J J)<|y0 J (J2 J J J (λq=>ly q))<|yN ?_;refine cN h (λhc h=>?_) λhc h=>?_
 .refine S4 1 J ?_;refine c5 ?_;cases h;exact f1
 .refine c7 ?_;refine S4 7 J<|c5 ?_;cases h;exact f1
theorem nA{a0 a1}:PO Tryz.prog 318 [l4.Pv a0,n7.Pv a1] (L6 a0 a1) λr=>.tup [l4.Pv r.1,.I r.2.1,.I r.2.2]:=by
 refine pO Tryz.func318 λr h _ _=>?_;refine S4 5 J ?_;refine jq h (λ_=>St.of [(2,.ptr 2005 0 0),(4,.ptr 2003 0 0),(5,.ptr 2002 0 0),(6,.ptr 2001 0 0)] [(2001,vR (.I 0) 1),(2002,vR (.I 0) 1),(2003,vR (.agg [.nl,.I 0]) 2),(2005,vR (l4.Pv a0) 2)]) (λq10 h=>?_) λκ9 h=>?_
 .refine S4 4 J ?_;refine c5 ?_;cases h;exact⟨J,[_,_,_],⟨oL J J J ic eD nl J,⟨oS J J J F3 J,⟨oS J J J uA J,tr⟩⟩⟩,J,io⟩
 .refine S3 1 J ?_;refine cF h nB J J λv11 _ h=>yN<|k8<|bM (rU (λl=>if l=2006 then 6 else if l=2007 then 5 else if l=2008 then 4 else if l=2009 then 3 else if l=2010 then 2 else l) [(2,.ptr 2010 0 0),(3,.ptr 2009 0 0),(4,.ptr 2008 0 0),(5,.ptr 2007 0 0),(6,.ptr 2006 0 0),(10,.fn (.func 363) [.rptr (l4.Pc v11)])] [(2006,vR (.I 0) 1),(2007,vR (.I 0) 1),(2008,vR (.agg [.nl,.I 0]) 2),(2009,vR (n7.Pv a1) 6),(2010,vR (l4.Pv a0) 2)]) ?_;refine bL (fn:=Tryz.f363) (N1:=23) J Tryz.func363 J J nl J Pd J J (λl19 e20 o21 hR22=>?_);refine S3 2 J<|nL J bc<|S2 1 J<|k8<|lq h (λs13=>St.of [(1000002,.ptr 2010 0 0),(1000003,.ptr 2009 0 0),(1000004,.ptr 2008 0 0),(1000005,.ptr 2007 0 0),(1000006,.ptr 2006 0 0),(1000010,.fn (.func 363) [.rptr (l4.Pc v11)]),(0,.fn (.yield l19) []),(6,.L c8.Pv v11.b7),(7,.I (v11.b7.length:Int)),(8,.I s13)] [(2006,vR (.I 0) 1),(2007,vR (.I 0) 1),(2008,vR (.agg [.nl,.I 0]) 2),(2009,vR (n7.Pv a1) 6),(2010,vR (l4.Pv a0) 2)]) W λs13 x14 h hx25=>S4 1 J<|k9 ?_;refine cN h (λhc h=>?_) λhc h=>?_
  .refine c7 ?_;refine k9<|k8<|S3 1 J<|iL h J J bc ai λv15 _ h=>S2 4 J<|S3 4 J<|m8 J (λhg=>om (d:=.fn (.yield l19) []) J)<|m8 J (λhg=>mI J) ?_;rcases zay ((v15.State==0)==true) with hg27 | hg27
   .have h:=Sj h hg27;refine O2 (WE [(1000002,.ptr 2010 0 0),(1000003,.ptr 2009 0 0),(1000004,.ptr 2008 0 0),(1000005,.ptr 2007 0 0),(1000006,.ptr 2006 0 0),(1000010,.fn (.func 363) [.rptr (l4.Pc v11)]),(0,.fn (.yield l19) []),(6,.L c8.Pv v11.b7),(7,.I (v11.b7.length:Int)),(8,.I s13),(16,.bool (v15.State==0)),(17,.fn (.yield l19) []),(18,.I s13)] [(2006,vR (.I 0) 1),(2007,vR (.I 0) 1),(2008,vR (.agg [.nl,.I 0]) 2),(2009,vR (n7.Pv a1) 6),(2010,vR (l4.Pv a0) 2)]) ?_;refine jb hR22 (zW some hg27) J J J J J (λe28 o29 o30=>?_);refine S6 1 J ?_;refine⟨J,?_⟩;refine k8<|S3 3 J<|iL h J J bc ai λv16 _ h=>S2 3 J<|S3 4 J<|y0 J (p6 (cs:=[.I 1,.I v16.Gen,.I a1.Serial,.I a1.Strong,.I a1.Weak,.I a1.Prog,.bool a1.Started,.L iF a1.Fields]) J wJ pM J J J)<|cF h L2 J J λv17 _ h=>S1 2 J<|cA h oO J J λv18 _ h=>S2 3 J<|c5 ?_;refine⟨J,?_⟩;refine O2 (WE [(1000002,.ptr 2010 0 0),(1000003,.ptr 2009 0 0),(1000004,.ptr 2008 0 0),(1000005,.ptr 2007 0 0),(1000006,.ptr 2006 0 0),(1000010,.fn (.func 363) [.rptr (l4.Pc v11)]),(0,.fn (.yield l19) []),(6,.L c8.Pv v11.b7),(7,.I (v11.b7.length:Int)),(8,.I s13),(16,.bool (v15.State==0)),(19,.bool false)] [(2006,vR (.I 0) 1),(2007,vR (.I v18) 1),(2008,vR (l4.Pv v17) 2),(2009,vR (n7.Pv a1) 6),(2010,vR (l4.Pv a0) 2)])<|y0 (zW some hg27) (fN J J)<|y0 J (kI J J hg27)<|yN ?_;refine G5 true J (λ_=>?_) (λq=>nomatch q);refine c5 ?_;refine .inr ⟨.ret,J,Ql ?_⟩;have h:=xL hx25 h;cases h;exact⟨J,[_,_,_],⟨oL J J J ic eD nl J,⟨oS J J J F3 J,⟨oS J J J uA J,tr⟩⟩⟩,J,io⟩
   .have h:=Si h hg27;refine cR (zW some hg27)<|cR (zW some hg27)<|y0 J (ng J J hg27)<|yN ?_;refine G5 false J (λq=>nomatch q) (λ_=>?_);refine c7<|S6 2 J ?_;exact eL h W
  .refine o6 ?_;refine g6<|g6<|l7 ?_;refine .inl ⟨J,?_⟩;have h:=xL hx25 h;exact eJ h (WP (λl=>if l=2005 then 2010 else if l=2003 then 2008 else if l=2002 then 2007 else if l=2001 then 2006 else l))
theorem AQ{a0 a1 a2}:PO Tryz.prog 278 [b6.Pv a0,.I a1,.I a2] (W9 a0 a1 a2) λr=>.tup [b6.Pv r.1,.I r.2.1,.I r.2.2]:=by
 refine pO Tryz.func278 λr h _ _=>?_;refine S4 4 J<|S3 1 J<|cF h Ae J J λv1 _ h=>S2 5 J<|k9<|S4 2 J ?_;refine cN h (λhc h=>?_) λhc h=>?_
 .refine S4 5 J ?_;refine c5 ?_;cases h;exact⟨J,[_,_,_],⟨oL J J J mq mD nl J,⟨J,⟨J,tr⟩⟩⟩,J,io⟩
 .refine c7 ?_;refine k9<|S3 1 J<|cA h pD J J λv2 _ h=>S2 1 J ?_;refine cN h (λhc h=>?_) λhc h=>?_
  .refine S4 4 J ?_;refine c5 ?_;cases h;exact⟨J,[_,_,_],⟨oL J J J mq mD nl J,⟨J,⟨J,tr⟩⟩⟩,J,io⟩
  .refine c7 ?_;refine S3 7 J<|y0 J (p6 (cs:=[.I (u7 (a0.Serial+1)),.I 0,.I 0,.I a2,.bool false,.L iF v1.1]) J Pm Px J J J)<|cF h nA J J λv3 _ h=>S2 8 J<|k9<|S4 2 J ?_;refine cN h (λhc h=>?_) λhc h=>?_
   .refine S4 5 J ?_;refine c5 ?_;cases h;exact⟨J,[_,_,_],⟨oL J J J mq mD nl J,⟨J,⟨J,tr⟩⟩⟩,J,io⟩
   .refine c7 ?_;refine S3 4 J<|y0 J (p6 (cs:=[.L c8.Pv v3.1.b7,.I v3.1.Last,.I (u7 (a0.Serial+1))]) J Lr Ly J J J)<|S2 4 J<|c5 ?_;cases h;exact⟨J,[_,_,_],⟨oL J J J mq mD nl J,⟨J,⟨J,tr⟩⟩⟩,J,io⟩
theorem nK{a0}:PO Tryz.prog 356 [.I a0] (eI a0) λr=>.tup [.I r.1,.I r.2.1,.bool r.2.2]:=by
 refine pO Tryz.func356 λr h _ _=>?_;refine S4 3 J<|k9<|S4 2 J ?_;refine cN h (λhc h=>?_) λhc h=>?_
 .refine S4 3 J ?_;refine c5 ?_;cases h;exact f3
 .refine c7 ?_;refine S3 2 J<|x8 h λv1 hv1 h=>y0 J (tM J J hv1)<|x8 h λv2 hv2 h=>y0 J (tM J J hv2)<|S1 2 J<|x8 h λv3 hv3 h=>y0 J (tM J J hv3)<|S2 2 J<|k9<|S3 3 J<|m8 J (λhg=>mI J)<|m8 J (λhg=>C3 (ct hg) J J)<|y0 J (J2 J J J (λq=>ly q))<|yN ?_;refine cN h (λhc h=>?_) λhc h=>?_
  .refine S4 3 J ?_;refine c5 ?_;cases h;exact f3
  .refine c7 ?_;refine S4 5 J<|c5 ?_;cases h;exact f3
theorem oQ{a0}:PO Tryz.prog 334 [.I a0] (gQ a0) λr=>.I r:=by
 refine pO Tryz.func334 λr h _ _=>?_;refine S4 1 J<|S3 1 J<|cA h nK J J λv1 _ h=>S2 7 J<|S4 2 J<|c5 ?_;cases h;exact f1
theorem qK{a0}:PO Tryz.prog 335 [.I a0] (jy a0) λr=>.I r:=by
 refine pO Tryz.func335 λr h _ _=>?_;refine S4 1 J<|S3 1 J<|cA h nK J J λv1 _ h=>S2 7 J<|S4 2 J<|c5 ?_;cases h;exact f1
theorem L1{a0 a1}:PO Tryz.prog 308 [l4.Pv a0,.I a1] (z7 a0 a1) λr=>.tup [.I r.1,.I r.2]:=by
 refine pO Tryz.func308 λr h _ _=>?_;refine S4 3 J<|k9<|S4 2 J ?_;refine cN h (λhc h=>?_) λhc h=>?_
 .refine S4 2 J ?_;refine c5 ?_;cases h;exact f2
 .refine c7 ?_;refine S3 1 J<|cA h oQ J J λv1 _ h=>S2 1 J<|k9<|S3 3 J<|m8 J (λhg=>mI J)<|m8 J (λhg=>oF J Lm J)<|m8 J (λhg=>oS (ct hg) J J SN J)<|m8 J (λhg=>bK (f:=c8.Pv) (ct hg) bc)<|m8 J (λhg=>C3 (ct hg) (ct hg) J)<|y0 J (J2 J J J (λq=>ly q))<|yN ?_;refine cN h (λhc h=>?_) λhc h=>?_
  .refine S4 2 J ?_;refine c5 ?_;cases h;exact f2
  .refine c7 ?_;refine S3 3 J<|iL h J J bc ai λv2 _ h=>S2 3 J<|k9<|dr [] s6 (by kernel_rfl) (by kernel_rfl)<|S7 3 J<|x8 h λv3 hv3 h=>d2 J (T1 J qK J hv3) J<|S7 2 J<|M4 J (λhg _ hN=>oF J AW J) J ?_;refine Y4 J (λhg=>oS (ct hg) J J F3 J) J<|M4 J (λhg _ hN=>C3 (ct hg) J J) J<|M4 J (λhg _ hN=>om (d:=.bool (v2.State != 1)) (ct hg)) J<|M4 (mj J J J) (λhg _ hN=>oF J AW J) J ?_;refine Y4 (mj J J J) (λhg=>oS (ct hg) J J F3 J) J<|M4 (mj J J J) (λhg _ hN=>C3 (ct hg) J J) J<|M4 J (λhg _ hN=>D9 (ct hg) J J (λq=>VG hg (lh q))) J<|d7 J (λ_ hN=>J2 J J J (λq=>ly q)) J<|J0 ?_;refine cN h (λhc h=>?_) λhc h=>?_
   .refine S4 2 J ?_;refine c5 ?_;cases h;exact f2
   .refine c7 ?_;refine S4 3 J<|c5 ?_;cases h;exact f2
theorem fP{a0 a1}:PO Tryz.prog 234 [l4.Pv a0,.I a1] (G8 a0 a1) λr=>.tup [n7.Pv r.1,.I r.2]:=by
 refine pO Tryz.func234 λr h _ _=>?_;refine S4 3 J<|S4 1 J<|S3 2 J<|cA h L1 J J λv1 _ h=>S2 5 J<|k9<|S4 2 J ?_;refine cN h (λhc h=>?_) λhc h=>?_
 .refine S3 2 J ?_;refine kM (x':=.agg [.I 0,.I 0,.I 0,.I 0,.bool false,.nl]) (cl':=true) J J (.inl J) kg<|S2 1 J<|c5 ?_;cases h;exact⟨J,[_,_],⟨oL J J J rY kg nl J,⟨J,tr⟩⟩,J,io⟩
 .refine c7 ?_;refine k9<|S3 3 J<|iL h J J bc ai λv2 hv2 h=>S2 3 J ?_;refine cN h (λhc h=>?_) λhc h=>?_
  .refine S3 1 J ?_;refine kM (x':=.agg [.I 0,.I 0,.I 0,.I 0,.bool false,.nl]) (cl':=true) J J (.inl J) kg<|S2 1 J<|c5 ?_;cases h;exact⟨J,[_,_],⟨oL J J J rY kg nl J,⟨J,tr⟩⟩,J,io⟩
  .refine c7 ?_;refine S3 3 J<|y0 J (K1 (f:=c8.Pv) (cs:=c8.Pc v2) hv2 J J bc ai J J)<|S2 4 J<|c5 ?_;cases h;exact⟨J,[_,_],⟨oL J J J rY kg nl J,⟨J,tr⟩⟩,J,io⟩
theorem C5{a0 a1}:PO Tryz.prog 136 [b6.Pv a0,.I a1] (x6 a0 a1) λr=>.tup [n7.Pv r.1,.I r.2]:=by
 refine pO Tryz.func136 λr h _ _=>?_;refine S4 3 J<|S3 3 J<|cF h fP J J λv1 _ h=>S2 4 J<|c5 ?_;cases h;exact⟨J,[_,_],⟨oL J J J rY kg nl J,⟨J,tr⟩⟩,J,io⟩
theorem yb{a0 a1}:PO Tryz.prog 349 [b9.Pv a0,.I a1] (kq a0 a1) λr=>.bool r:=by
 refine pO Tryz.func349 λr h _ _=>?_;refine S4 2 J<|S3 3 J<|cF h C5 J J λv1 _ h=>S2 6 J<|S4 3 J<|c5 ?_;cases h;exact f1
theorem Y8{a0 a1}:PO Tryz.prog 319 [b9.Pv a0,.I a1] (N8 a0 a1) λr=>.bool r:=by
 refine pO Tryz.func319 λr h _ _=>?_;unfold N8 at h;refine S4 2 J<|S3 3 J<|m8 J (λhg=>oL J J J u5 p7 nl J)<|m8 J (λhg=>mI J)<|x8 h λv1 hv1 h=>m8 J (λhg=>T1 J yb (aH (ct hg) (aH (ct hg) J)) (X4 hv1 hg))<|y0 J (J2 J J J (λq=>ly q))<|S2 1 J<|c5 ?_;cases h;exact f1
theorem bD{a0}:PO Tryz.prog 353 [.I a0] (H9 a0) λr=>.bool r:=by
 refine pO Tryz.func353 λr h _ _=>?_;unfold H9 at h;refine S4 1 J<|S4 3 J<|c5 ?_;cases h;exact f1
theorem sw{a0}:PO Tryz.prog 330 [.I a0] (jw a0) λr=>.tup [.I r.1,.I r.2]:=by
 refine pO Tryz.func330 λr h _ _=>?_;refine S4 2 J<|k9<|S3 1 J<|cA h bD J J λv1 _ h=>yN ?_;refine cN h (λhc h=>?_) λhc h=>?_
 .refine S4 2 J ?_;refine c5 ?_;cases h;exact f2
 .refine c7 ?_;refine S3 1 J<|y0 J (Nn J J J)<|S2 3 J<|c5 ?_;cases h;exact f2
theorem Ca{a0}:PO Tryz.prog 289 [.I a0] (pP a0) λr=>.I r:=by
 refine pO Tryz.func289 λr h _ _=>?_;refine S4 1 J<|S3 1 J<|cA h sw J J λv1 _ h=>S2 5 J<|S4 2 J<|c5 ?_;cases h;exact f1
theorem og{a0 a1 a2}:PO Tryz.prog 286 [l4.Pv a0,.I a1,n7.Pv a2] (aC a0 a1 a2) λr=>.tup [l4.Pv r.1,.I r.2]:=by
 refine pO Tryz.func286 λr h _ _=>?_;refine S4 4 J<|S3 2 J<|cA h L1 J J λv1 _ h=>S2 5 J<|k9<|S4 2 J ?_;refine cN h (λhc h=>?_) λhc h=>?_
 .refine S4 4 J ?_;refine c5 ?_;cases h;exact⟨J,[_,_],⟨oL J J J ic eD nl J,⟨J,tr⟩⟩,J,io⟩
 .refine c7 ?_;refine S3 3 J<|iL h J J bc ai λv2 _ h=>S2 3 J<|S4 3 J<|S3 3 J<|cF h L2 J J λv3 _ h=>S2 2 J<|c5 ?_;cases h;exact⟨J,[_,_],⟨oL J J J ic eD nl J,⟨J,tr⟩⟩,J,io⟩
theorem cy{a0 a1 a2}:PO Tryz.prog 219 [b6.Pv a0,.I a1,n7.Pv a2] (R6 a0 a1 a2) λr=>.tup [b6.Pv r.1,.I r.2]:=by
 refine pO Tryz.func219 λr h _ _=>?_;refine S4 4 J<|S4 1 J<|S3 4 J<|cF h og J J λv1 _ h=>S2 6 J<|S4 4 J<|c5 ?_;cases h;exact⟨J,[_,_],⟨oL J J J mq mD nl J,⟨J,tr⟩⟩,J,io⟩
theorem jz{a0 a1}:PO Tryz.prog 288 [b9.Pv a0,.I a1,.fn (.func 289) []] (Y7 a0 a1) λr=>b9.Pv r:=by
 refine pO Tryz.func288 λr h _ _=>?_;refine S4 2 J<|S3 3 J<|cF h C5 J J λv1 _ h=>S2 6 J<|k9<|S4 2 J ?_;refine cN h (λhc h=>?_) λhc h=>?_
 .refine S3 3 J ?_;refine cA h Ca J J λv2 _ h=>S2 2 J<|S5 4 J<|cF h cy J J λv3 _ h=>S2 5 J<|S4 2 J<|c5 ?_;cases h;exact⟨J,[_],⟨oL J J J u5 p7 nl J,tr⟩,J,io⟩
 .refine c7 ?_;refine S4 2 J<|c5 ?_;cases h;exact⟨J,[_],⟨oL J J J u5 p7 nl J,tr⟩,J,io⟩
theorem eM{a0 a1}:PO Tryz.prog 221 [b9.Pv a0,.I a1] (bH a0 a1) λr=>b9.Pv r:=by
 refine pO Tryz.func221 λr h _ _=>?_;refine S4 2 J<|S3 2 J<|cF h jz J J λv1 _ h=>S2 1 J<|c5 ?_;cases h;exact⟨J,[_],⟨oL J J J u5 p7 nl J,tr⟩,J,io⟩
theorem oa{a0 a1}:PO Tryz.prog 343 [K8.Pv a0,b9.Pv a1] (R9 a0 a1) λr=>b9.Pv r:=by
 refine pO Tryz.func343 λr h _ _=>?_;unfold R9 at h;refine S4 3 J<|S3 2 J<|x8 h λv1 hv1 h=>Jw J (gX J I6 J hv1) J J<|S2 2 J<|S3 6 J<|x8 h λv2 hv2 h=>y0 J (aN (f:=iF) hv2 J J J J l6 o5 J)<|nX (f:=iF) (v:=a0.h) hv2 J J (.inl J) o5<|yN<|S4 2 J<|c5 ?_;cases h;exact⟨J,[_],⟨oL J J J u5 p7 nl J,tr⟩,J,io⟩
theorem qq{a0}:PO Tryz.prog 336 [.I a0] (fU a0) λr=>.tup [.I r.1,.I r.2]:=by
 refine pO Tryz.func336 λr h _ _=>?_;refine S4 2 J<|k9<|S3 1 J<|cA h bD J J λv1 _ h=>yN ?_;refine cN h (λhc h=>?_) λhc h=>?_
 .refine S4 2 J ?_;refine c5 ?_;cases h;exact f2
 .refine c7 ?_;refine k9<|S4 2 J ?_;refine cN h (λhc h=>?_) λhc h=>?_
  .refine S4 2 J ?_;refine c5 ?_;cases h;exact f2
  .refine c7 ?_;refine S4 4 J<|c5 ?_;cases h;exact f2
theorem BZ{a0}:PO Tryz.prog 295 [.I a0] (uF a0) λr=>.tup [.I r.1,.I r.2]:=by
 refine pO Tryz.func295 λr h _ _=>?_;refine S4 2 J<|S3 1 J<|cA h qq J J λv1 _ h=>S2 5 J<|S4 4 J<|c5 ?_;cases h;exact f2
theorem sZ{a0}:PO Tryz.prog 294 [.I a0] (eK a0) λr=>.I r:=by
 refine pO Tryz.func294 λr h _ _=>?_;refine S4 1 J<|S3 1 J<|cA h BZ J J λv1 _ h=>S2 5 J<|k9<|S4 2 J ?_;refine cN h (λhc h=>?_) λhc h=>?_
 .refine S4 2 J ?_;refine c5 ?_;cases h;exact f1
 .refine c7 ?_;refine S4 2 J<|c5 ?_;cases h;exact f1
theorem fJ{a0 a1}:PO Tryz.prog 288 [b9.Pv a0,.I a1,.fn (.func 294) []] (P7 a0 a1) λr=>b9.Pv r:=by
 refine pO Tryz.func288 λr h _ _=>?_;refine S4 2 J<|S3 3 J<|cF h C5 J J λv1 _ h=>S2 6 J<|k9<|S4 2 J ?_;refine cN h (λhc h=>?_) λhc h=>?_
 .refine S3 3 J ?_;refine cA h sZ J J λv2 _ h=>S2 2 J<|S5 4 J<|cF h cy J J λv3 _ h=>S2 5 J<|S4 2 J<|c5 ?_;cases h;exact⟨J,[_],⟨oL J J J u5 p7 nl J,tr⟩,J,io⟩
 .refine c7 ?_;refine S4 2 J<|c5 ?_;cases h;exact⟨J,[_],⟨oL J J J u5 p7 nl J,tr⟩,J,io⟩
theorem aJ{a0 a1}:PO Tryz.prog 228 [b9.Pv a0,.I a1] (E0 a0 a1) λr=>b9.Pv r:=by
 refine pO Tryz.func228 λr h _ _=>?_;refine S4 2 J<|S3 2 J<|cF h fJ J J λv1 _ h=>S2 1 J<|c5 ?_;cases h;exact⟨J,[_],⟨oL J J J u5 p7 nl J,tr⟩,J,io⟩
theorem dD{a0 a1 a2 a3}:PO Tryz.prog 320 [b9.Pv a0,.I a1,.I a2,.abs (RR 343 [K8.Pv a3])] (G4 a0 a1 a2 a3) λr=>b9.Pv r:=by
 refine pO Tryz.func320 λr h _ _=>?_;refine S4 2 J<|S3 3 J<|cF h eM J J λv1 _ h=>x8 h λv2 hv2 h=>Dy (xs:=[b9.Pv v1]) J J Pb J (oa.2 _ hv2)<|S1 1 J<|cF h aJ J J λv3 _ h=>S2 1 J<|c5 ?_;cases h;exact⟨J,[_],⟨oL J J J u5 p7 nl J,tr⟩,J,io⟩
theorem mW{a0 a1 a2}:PO Tryz.prog 298 [b9.Pv a0,.I a1,.I a2] (bZ a0 a1 a2) λr=>.tup [b9.Pv r.1,.I r.2]:=by
 refine pO Tryz.func298 λr h _ _=>?_;refine S4 3 J<|k9<|S3 3 J<|m8 J (λhg=>mI J)<|m8 J (λhg=>oF J DL J)<|m8 J (λhg=>oS (ct hg) J J dv J)<|m8 J (λhg=>bK (f:=iF) (ct hg) l6)<|m8 J (λhg=>C3 (ct hg) (ct hg) J)<|y0 J (J2 J J J (λq=>ly q))<|yN ?_;refine cN h (λhc h=>?_) λhc h=>?_
 .refine S4 3 J ?_;refine c5 ?_;cases h;exact⟨J,[_,_],⟨oL J J J u5 p7 nl J,⟨J,tr⟩⟩,J,io⟩
 .refine c7 ?_;refine k9<|S3 2 J<|cA h Y8 J J λv1 _ h=>S2 1 J ?_;refine cN h (λhc h=>?_) λhc h=>?_
  .refine S4 3 J ?_;refine c5 ?_;cases h;exact⟨J,[_,_],⟨oL J J J u5 p7 nl J,⟨J,tr⟩⟩,J,io⟩
  .refine c7 ?_;refine dr [] s6 (by kernel_rfl) (by kernel_rfl)<|S7 4 J<|x8 h λv2 hv2 h=>d0 J (K1 (f:=iF) (cs:=[.I v2]) hv2 J J l6 o5 J J) J<|S7 4 J<|d7 J (λ_ hN=>p6 (cs:=[.I a1,.I a2]) J Ps PF J J J) J<|d7 J (λ_ hN=>vf (d:=.agg [.I a1,.I a2]) J) J<|x8 h λv3 hv3 h=>fI J (w7 J dD J hv3) J<|D1 (x':=b9.Pv v3) (cl':=true) J J (.inr J) p7<|S8 1 J<|c5 ?_;cases h;exact⟨J,[_,_],⟨oL J J J u5 p7 nl J,⟨J,tr⟩⟩,J,io⟩
theorem J1{a0 a1 a2}:PO Tryz.prog 279 [r7.Pv a0,.I a1,.I a2] (B9 a0 a1 a2) λr=>.tup [b9.Pv r.1,.I r.2]:=by
 refine pO Tryz.func279 λr h _ _=>?_;refine S4 3 J<|k9<|S4 2 J ?_;refine cN h (λhc h=>?_) λhc h=>?_
 .refine S4 5 J ?_;refine c5 ?_;cases h;exact⟨J,[_,_],⟨oL J J J u5 p7 nl J,⟨J,tr⟩⟩,J,io⟩
 .refine c7 ?_;refine S3 6 J<|cF h mW J J λv1 _ h=>S2 4 J<|c5 ?_;cases h;exact⟨J,[_,_],⟨oL J J J u5 p7 nl J,⟨J,tr⟩⟩,J,io⟩
theorem eU{a0}:PO Tryz.prog 203 [r7.Pv a0] (X9 a0) λr=>.tup [b9.Pv r.1,.I r.2]:=by
 refine pO Tryz.func203 λr h _ _=>?_;refine S4 3 J<|S3 9 J<|cF h AQ J J λv1 _ h=>S2 8 J<|k9<|S4 2 J ?_;refine cN h (λhc h=>?_) λhc h=>?_
 .refine S4 5 J ?_;refine c5 ?_;cases h;exact⟨J,[_,_],⟨oL J J J u5 p7 nl J,⟨J,tr⟩⟩,J,io⟩
 .refine c7 ?_;refine S4 4 J<|S3 2 J<|cF h J1 J J λv2 _ h=>S2 4 J<|c5 ?_;cases h;exact⟨J,[_,_],⟨oL J J J u5 p7 nl J,⟨J,tr⟩⟩,J,io⟩
theorem P8{a0 a1}:PO Tryz.prog 216 [b9.Pv a0,.I a1] (O0 a0 a1) λr=>.I r:=by
 refine pO Tryz.func216 λr h _ _=>?_;refine S4 2 J<|k9<|S3 3 J<|m8 J (λhg=>mI J)<|m8 J (λhg=>oF J DL J)<|m8 J (λhg=>oS (ct hg) J J dv J)<|m8 J (λhg=>bK (f:=iF) (ct hg) l6)<|m8 J (λhg=>C3 (ct hg) (ct hg) J)<|y0 J (J2 J J J (λq=>ly q))<|yN ?_;refine cN h (λhc h=>?_) λhc h=>?_
 .refine S4 1 J ?_;refine c5 ?_;cases h;exact f1
 .refine c7 ?_;refine S3 3 J<|iL h J J l6 o5 λv1 _ h=>S2 2 J<|c5 ?_;cases h;exact f1
theorem cG{a0}:PO Tryz.prog 204 [r7.Pv a0] (K9 a0) λr=>.tup [b9.Pv r.1,.I r.2]:=by
 refine pO Tryz.func204 λr h _ _=>?_;unfold K9 at h;refine S4 3 J<|dr [] s6 (by kernel_rfl) (by kernel_rfl)<|S7 6 J<|x8 h λv1 hv1 h=>d2 J (T1 J P8 J hv1) J<|x8 h λv2 hv2 h=>fI J (w7 J J1 J hv2) J<|S7 2 J<|D1 (x':=b9.Pv v2.1) (cl':=true) J J (.inr J) p7<|S8 1 J<|c5 ?_;cases h;exact⟨J,[_,_],⟨oL J J J u5 p7 nl J,⟨J,tr⟩⟩,J,io⟩
theorem gU{a0}:PO Tryz.prog 205 [r7.Pv a0] (br a0) λr=>.tup [b9.Pv r.1,.I r.2]:=by
 refine pO Tryz.func205 λr h _ _=>?_;refine S4 3 J<|S3 1 J<|cF h J1 J J λv1 _ h=>S2 4 J<|c5 ?_;cases h;exact⟨J,[_,_],⟨oL J J J u5 p7 nl J,⟨J,tr⟩⟩,J,io⟩
theorem U8{a0 a1}:PO Tryz.prog 280 [b9.Pv a0,.I a1] (O5 a0 a1) λr=>.tup [.I r.1,.I r.2]:=by
 refine pO Tryz.func280 λr h _ _=>?_;refine S4 3 J<|S3 2 J<|cA h P8 J J λv1 _ h=>S2 1 J<|k9<|S4 2 J ?_;refine cN h (λhc h=>?_) λhc h=>?_
 .refine S4 2 J ?_;refine c5 ?_;cases h;exact f2
 .refine c7 ?_;refine S4 3 J<|c5 ?_;cases h;exact f2
theorem pC{a0 a1 a2}:PO Tryz.prog 281 [b6.Pv a0,.I a1,.I a2] (J4 a0 a1 a2) λr=>.tup [.I r.1,.I r.2]:=by
 refine pO Tryz.func281 λr h _ _=>?_;refine S4 3 J<|S3 2 J<|cF h C5 J J λv1 _ h=>S2 6 J<|k9<|S4 2 J ?_;refine cN h (λhc h=>?_) λhc h=>?_
 .refine S4 3 J ?_;refine c5 ?_;cases h;exact f2
 .refine c7 ?_;refine S3 3 J<|cA h BM J J λv2 _ h=>S2 4 J<|c5 ?_;cases h;exact f2
theorem gV{a0}:PO Tryz.prog 206 [r7.Pv a0] (bt a0) λr=>.tup [b9.Pv r.1,.I r.2]:=by
 refine pO Tryz.func206 λr h _ _=>?_;refine S4 3 J<|S3 5 J<|cA h U8 J J λv1 _ h=>S2 5 J<|k9<|S4 2 J ?_;refine cN h (λhc h=>?_) λhc h=>?_
 .refine S4 5 J ?_;refine c5 ?_;cases h;exact⟨J,[_,_],⟨oL J J J u5 p7 nl J,⟨J,tr⟩⟩,J,io⟩
 .refine c7 ?_;refine dr [] s6 (by kernel_rfl) (by kernel_rfl)<|S7 8 J<|x8 h λv2 hv2 h=>d2 J (T1 J pC J hv2) J<|S7 2 J<|x8 h λv3 hv3 h=>fI J (w7 J J1 J hv3) J<|S7 2 J<|D1 (x':=b9.Pv v3.1) (cl':=true) J J (.inr J) p7<|S8 1 J<|c5 ?_;cases h;exact⟨J,[_,_],⟨oL J J J u5 p7 nl J,⟨J,tr⟩⟩,J,io⟩
theorem Dp{a0 a1 a2 a3}:PO Tryz.prog 350 [b6.Pv a0,.I a1,.I a2,.I a3] (qh a0 a1 a2 a3) λr=>.tup [b6.Pv r.1,.I r.2]:=by
 refine pO Tryz.func350 λr h _ _=>?_;refine S4 3 J<|S3 2 J<|cF h C5 J J λv1 _ h=>S2 6 J<|k9<|S4 2 J ?_;refine cN h (λhc h=>?_) λhc h=>?_
 .refine S4 4 J ?_;refine c5 ?_;cases h;exact⟨J,[_,_],⟨oL J J J mq mD nl J,⟨J,tr⟩⟩,J,io⟩
 .refine c7 ?_;refine k9<|S3 4 J<|cF h vP J J λv2 _ h=>S2 6 J<|S4 2 J ?_;refine cN h (λhc h=>?_) λhc h=>?_
  .refine S4 4 J ?_;refine c5 ?_;cases h;exact⟨J,[_,_],⟨oL J J J mq mD nl J,⟨J,tr⟩⟩,J,io⟩
  .refine c7 ?_;refine S3 3 J<|cF h cy J J λv3 _ h=>S2 4 J<|c5 ?_;cases h;exact⟨J,[_,_],⟨oL J J J mq mD nl J,⟨J,tr⟩⟩,J,io⟩
theorem mX{a0 a1}:PO Tryz.prog 321 [H0.Pv a0,b9.Pv a1] (cK a0 a1) λr=>b9.Pv r:=by
 refine pO Tryz.func321 λr h _ _=>?_;refine S4 3 J<|S3 8 J<|cF h Dp J J λv1 _ h=>S2 5 J<|S4 2 J<|c5 ?_;cases h;exact⟨J,[_],⟨oL J J J u5 p7 nl J,tr⟩,J,io⟩
theorem cX{a0 a1 a2 a3}:PO Tryz.prog 320 [b9.Pv a0,.I a1,.I a2,.abs (RR 321 [H0.Pv a3])] (F9 a0 a1 a2 a3) λr=>b9.Pv r:=by
 refine pO Tryz.func320 λr h _ _=>?_;refine S4 2 J<|S3 3 J<|cF h eM J J λv1 _ h=>x8 h λv2 hv2 h=>Dy (xs:=[b9.Pv v1]) J J OX J (mX.2 _ hv2)<|S1 1 J<|cF h aJ J J λv3 _ h=>S2 1 J<|c5 ?_;cases h;exact⟨J,[_],⟨oL J J J u5 p7 nl J,tr⟩,J,io⟩
theorem AI{a0 a1 a2 a3}:PO Tryz.prog 282 [b9.Pv a0,.I a1,.I a2,.I a3] (au a0 a1 a2 a3) λr=>.tup [b9.Pv r.1,.I r.2]:=by
 refine pO Tryz.func282 λr h _ _=>?_;refine S4 3 J<|S3 4 J<|cA h pC J J λv1 _ h=>S2 5 J<|k9<|S4 2 J ?_;refine cN h (λhc h=>?_) λhc h=>?_
 .refine S4 4 J ?_;refine c5 ?_;cases h;exact⟨J,[_,_],⟨oL J J J u5 p7 nl J,⟨J,tr⟩⟩,J,io⟩
 .refine c7 ?_;refine k9<|S3 2 J<|cA h Y8 J J λv2 _ h=>S2 1 J ?_;refine cN h (λhc h=>?_) λhc h=>?_
  .refine S4 3 J ?_;refine c5 ?_;cases h;exact⟨J,[_,_],⟨oL J J J u5 p7 nl J,⟨J,tr⟩⟩,J,io⟩
  .refine c7 ?_;refine S3 6 J<|y0 J (p6 (cs:=[.I a1,.I a2,.I a3]) J Pp PC J J J)<|y0 J (vf (d:=.agg [.I a1,.I a2,.I a3]) J)<|cF h cX J J λv3 _ h=>S2 2 J<|c5 ?_;cases h;exact⟨J,[_,_],⟨oL J J J u5 p7 nl J,⟨J,tr⟩⟩,J,io⟩
theorem fM{a0}:PO Tryz.prog 207 [r7.Pv a0] (ax a0) λr=>.tup [b9.Pv r.1,.I r.2]:=by
 refine pO Tryz.func207 λr h _ _=>?_;refine S4 3 J<|S3 5 J<|cA h U8 J J λv1 _ h=>S2 5 J<|k9<|S4 2 J ?_;refine cN h (λhc h=>?_) λhc h=>?_
 .refine S4 5 J ?_;refine c5 ?_;cases h;exact⟨J,[_,_],⟨oL J J J u5 p7 nl J,⟨J,tr⟩⟩,J,io⟩
 .refine c7 ?_;refine dr [] s6 (by kernel_rfl) (by kernel_rfl)<|S7 11 J<|x8 h λv2 hv2 h=>d2 J (T1 J P8 J hv2) J<|x8 h λv3 hv3 h=>fI J (w7 J AI J hv3) J<|S7 2 J<|D1 (x':=b9.Pv v3.1) (cl':=true) J J (.inr J) p7<|S8 1 J<|c5 ?_;cases h;exact⟨J,[_,_],⟨oL J J J u5 p7 nl J,⟨J,tr⟩⟩,J,io⟩
theorem oW{a0 a1 a2}:PO Tryz.prog 323 [b9.Pv a0,.I a1,.I a2] (ah a0 a1 a2) λr=>b9.Pv r:=by
 refine pO Tryz.func323 λr h _ _=>?_;refine S4 2 J<|S3 4 J<|cA h L1 J J λv1 _ h=>S2 5 J<|k9<|S4 2 J ?_;refine cN h (λhc h=>?_) λhc h=>?_
 .refine S3 5 J ?_;refine iL h J J bc ai λv2 _ h=>S2 4 J<|S4 6 J<|S5 4 J<|cF h cy J J λv3 _ h=>S2 5 J<|S4 2 J<|c5 ?_;cases h;exact⟨J,[_],⟨oL J J J u5 p7 nl J,tr⟩,J,io⟩
 .refine c7 ?_;refine S4 2 J<|c5 ?_;cases h;exact⟨J,[_],⟨oL J J J u5 p7 nl J,tr⟩,J,io⟩
theorem fB{a0 a1}:PO Tryz.prog 293 [l4.Pv a0,.I a1] (Q2 a0 a1) λr=>.tup [l4.Pv r.1,.I r.2]:=by
 refine pO Tryz.func293 λr h _ _=>?_;refine S4 3 J<|S3 2 J<|cA h L1 J J λv1 _ h=>S2 5 J<|k9<|S4 2 J ?_;refine cN h (λhc h=>?_) λhc h=>?_
 .refine S4 4 J ?_;refine c5 ?_;cases h;exact⟨J,[_,_],⟨oL J J J ic eD nl J,⟨J,tr⟩⟩,J,io⟩
 .refine c7 ?_;refine S3 3 J<|iL h J J bc ai λv2 _ h=>S2 3 J<|k9<|S4 4 J ?_;refine cN h (λhc h=>?_) λhc h=>?_
  .refine S3 3 J ?_;refine y0 J (p6 (cs:=[.I 3,.I v2.Gen,.I 0,.I 0,.I 0,.I 0,.bool false,.nl]) J wJ pM J J J)<|cF h L2 J J λv3 _ h=>S2 2 J<|c5 ?_;cases h;exact⟨J,[_,_],⟨oL J J J ic eD nl J,⟨J,tr⟩⟩,J,io⟩
  .refine c7 ?_;refine S3 4 J<|y0 J (p6 (cs:=[.I 0,.I (u7 (v2.Gen+1)),.I 0,.I 0,.I 0,.I 0,.bool false,.nl]) J wJ pM J J J)<|cF h L2 J J λv4 _ h=>S2 2 J<|c5 ?_;cases h;exact⟨J,[_,_],⟨oL J J J ic eD nl J,⟨J,tr⟩⟩,J,io⟩
theorem uQ{a0 a1}:PO Tryz.prog 322 [b9.Pv a0,.I a1] (aR a0 a1) λr=>b9.Pv r:=by
 refine pO Tryz.func322 λr h _ _=>?_;refine S4 2 J<|S3 2 J<|cF h oW J J λv1 _ h=>S2 1 J<|S3 4 J<|cA h L1 J J λv2 _ h=>S2 5 J<|k9<|S4 2 J ?_;refine cN h (λhc h=>?_) λhc h=>?_
 .refine S4 2 J ?_;refine c5 ?_;cases h;exact⟨J,[_],⟨oL J J J u5 p7 nl J,tr⟩,J,io⟩
 .refine c7 ?_;refine k9<|S3 5 J<|iL h J J bc ai λv3 _ h=>S2 3 J<|S3 4 J<|m8 J (λhg=>oF J JI J)<|m8 J (λhg=>oF (ct hg) JH J)<|m8 J (λhg=>oS (ct hg) J J F3 J)<|m8 J (λhg=>C3 (ct hg) J J)<|y0 J (D9 J J J (λq=>lh q))<|yN ?_;refine cN h (λhc h=>?_) λhc h=>?_
  .refine S5 4 J ?_;refine cF h fB J J λv4 _ h=>S2 6 J<|S4 2 J<|c5 ?_;cases h;exact⟨J,[_],⟨oL J J J u5 p7 nl J,tr⟩,J,io⟩
  .refine c7 ?_;refine S4 2 J<|c5 ?_;cases h;exact⟨J,[_],⟨oL J J J u5 p7 nl J,tr⟩,J,io⟩
theorem ta{a0 a1 a2 a3}:PO Tryz.prog 283 [b9.Pv a0,.I a1,.I a2,.I a3] (R4 a0 a1 a2 a3) λr=>.tup [b9.Pv r.1,.I r.2]:=by
 refine pO Tryz.func283 λr h _ _=>?_;unfold R4 at h;refine S4 3 J<|k9<|S3 3 J<|m8 J (λhg=>mI J)<|m8 J (λhg=>oF J Ln J)<|m8 J (λhg=>oS (ct hg) J J FM J)<|m8 J (λhg=>bK (f:=k7.Pv) (ct hg) U0)<|m8 J (λhg=>C3 (ct hg) (ct hg) J)<|y0 J (J2 J J J (λq=>ly q))<|S1 1 J<|m8 J (λhg=>oF J Lo J)<|m8 J (λhg=>oL (ct hg) J J jr cI nl J)<|m8 J (λhg=>mI J)<|x8 h λv1 hv1 h=>m8 J (λhg=>T1 J qV (aH (ct hg) (aH (ct hg) J)) (X4 hv1 hg))<|y0 J (J2 J J J (λq=>ly q))<|yN ?_;refine cN h (λhc h=>?_) λhc h=>?_
 .refine S4 3 J ?_;refine c5 ?_;cases h;exact⟨J,[_,_],⟨oL J J J u5 p7 nl J,⟨J,tr⟩⟩,J,io⟩
 .refine c7 ?_;refine k9<|S3 2 J<|cA h Y8 J J λv2 _ h=>S2 1 J ?_;refine cN h (λhc h=>?_) λhc h=>?_
  .refine S4 3 J ?_;refine c5 ?_;cases h;exact⟨J,[_,_],⟨oL J J J u5 p7 nl J,⟨J,tr⟩⟩,J,io⟩
  .refine c7 ?_;refine S3 5 J<|cF h vW J J λv3 _ h=>S2 7 J<|S4 3 J<|S3 2 J<|cF h oW J J λv4 _ h=>S1 1 J<|cF h uQ J J λv5 _ h=>S2 2 J<|c5 ?_;cases h;exact⟨J,[_,_],⟨oL J J J u5 p7 nl J,⟨J,tr⟩⟩,J,io⟩
theorem eV{a0}:PO Tryz.prog 208 [r7.Pv a0] (L4 a0) λr=>.tup [b9.Pv r.1,.I r.2]:=by
 refine pO Tryz.func208 λr h _ _=>?_;refine S4 3 J<|k9<|S4 4 J ?_;refine cN h (λhc h=>?_) λhc h=>?_
 .refine S3 8 J ?_;refine cF h ta J J λv1 _ h=>S2 4 J<|c5 ?_;cases h;exact⟨J,[_,_],⟨oL J J J u5 p7 nl J,⟨J,tr⟩⟩,J,io⟩
 .refine c7 ?_;refine S3 5 J<|cA h U8 J J λv2 _ h=>S2 5 J<|k9<|S4 2 J ?_;refine cN h (λhc h=>?_) λhc h=>?_
  .refine S4 5 J ?_;refine c5 ?_;cases h;exact⟨J,[_,_],⟨oL J J J u5 p7 nl J,⟨J,tr⟩⟩,J,io⟩
  .refine c7 ?_;refine S3 9 J<|cF h ta J J λv3 _ h=>S2 4 J<|c5 ?_;cases h;exact⟨J,[_,_],⟨oL J J J u5 p7 nl J,⟨J,tr⟩⟩,J,io⟩
theorem jC{a0}:PO Tryz.prog 209 [r7.Pv a0] (aK a0) λr=>.tup [b9.Pv r.1,.I r.2]:=by
 refine pO Tryz.func209 λr h _ _=>?_;unfold aK at h;refine S4 3 J<|dr [] s6 (by kernel_rfl) (by kernel_rfl)<|S7 7 J<|x8 h λv1 hv1 h=>d2 J (T1 J uu J hv1) J<|S7 2 J<|x8 h λv2 hv2 h=>fI J (w7 J J1 J hv2) J<|S7 2 J<|D1 (x':=b9.Pv v2.1) (cl':=true) J J (.inr J) p7<|S8 1 J<|c5 ?_;cases h;exact⟨J,[_,_],⟨oL J J J u5 p7 nl J,⟨J,tr⟩⟩,J,io⟩
theorem sV{a0 a1}:PO Tryz.prog 354 [.I a0,.I a1] (je a0 a1) λr=>.fn (.func 364) [.rptr [.I r.1],.rptr [.I r.2]]:=by
 refine pO Tryz.func354 λr h _ _=>?_;unfold je at h;refine S4 3 J<|S4 2 J<|c5 ?_;cases h;exact f1
theorem sQ{a0 a1}:PO Tryz.prog 365 [.I a0,.I a1] (dS a0 a1) λr=>.I r:=by
 refine pO Tryz.func365 λr h _ _=>?_;refine S4 1 J<|k9<|S4 2 J ?_;refine cN h (λhc h=>?_) λhc h=>?_
 .refine S4 1 J ?_;refine c5 ?_;cases h;exact f1
 .refine c7 ?_;refine S3 4 J<|x8 h λv1 hv1 h=>y0 J (tM J J hv1)<|S2 1 J<|k9<|S4 2 J ?_;refine cN h (λhc h=>?_) λhc h=>?_
  .refine S6 4 J ?_;refine S4 2 J<|c5 ?_;cases h;exact f1
  .refine c7 ?_;refine S4 2 J<|c5 ?_;cases h;exact f1
theorem mT{a0 a1}:PO Tryz.prog 332 [.L e6.Pv a0,.I a1] (aQ a0 a1) λr=>.I r:=by
 refine pO Tryz.func332 λr h _ _=>?_;refine S4 3 J ?_;refine jq h (λ_=>St.of [(4,.ptr 2001 0 0)] [(2001,vR (.I 0) 1)]) (λq9 h=>?_) λκ8 h=>?_
 .refine S4 1 J ?_;refine c5 ?_;cases h;exact⟨J,[_],⟨oS J J J F3 J,tr⟩,J,io⟩
 .refine S3 1 J ?_;refine nL J dw<|S1 1 J<|cF h sV J J λv10 _ h=>yN<|k8<|bM (rU (λl=>if l=2004 then 4 else if l=2005 then 3 else if l=2006 then 2 else l) [(2,.ptr 2006 0 0),(3,.ptr 2005 0 0),(4,.ptr 2004 0 0),(9,.fn (.func 364) [.rptr [.I v10.1],.rptr [.I v10.2]])] [(2004,vR (.I 0) 1),(2005,vR (.I a1) 1),(2006,vR (.L e6.Pv a0) 1)]) ?_;refine bL (fn:=Tryz.f364) (N1:=20) J Tryz.func364 J J nl J Hu J J (λl17 e18 o19 hR20=>?_);refine S4 2 J<|k8<|lq h (λs12=>St.of [(1000002,.ptr 2006 0 0),(1000003,.ptr 2005 0 0),(1000004,.ptr 2004 0 0),(1000009,.fn (.func 364) [.rptr [.I v10.1],.rptr [.I v10.2]]),(0,.fn (.yield l17) []),(1,.rptr [.I v10.1]),(2,.rptr [.I v10.2]),(5,.I v10.1),(6,.I s12)] [(2004,vR (.I 0) 1),(2005,vR (.I a1) 1),(2006,vR (.L e6.Pv a0) 1)]) W λs12 x13 h hx23=>S4 1 J<|k9 ?_;refine cN h (λhc h=>?_) λhc h=>?_
  .refine c7 ?_;refine k9<|k8<|S4 2 J<|Xi [] 8 s6 (by kernel_rfl) (by kernel_rfl) (by kernel_rfl) (by kernel_rfl) nl<|S7 3 J<|x8 h λv14 hv24 h=>d2 J (T1 J sQ J hv24) J<|S7 3 J<|x8 h λv15 hv25 h=>d7 J (λ_ hN=>tM J J hv25) J<|J0<|CM (WE [(1000002,.ptr 2006 0 0),(1000003,.ptr 2005 0 0),(1000004,.ptr 2004 0 0),(1000009,.fn (.func 364) [.rptr [.I v10.1],.rptr [.I v10.2]]),(0,.fn (.yield l17) []),(1,.rptr [.I v10.1]),(2,.rptr [.I v10.2]),(5,.I v10.1),(6,.I s12),(9,.fn (.yield l17) []),(16,.I v15)] [(2004,vR (.I 0) 1),(2005,vR (.I a1) 1),(2006,vR (.L e6.Pv a0) 1)]) ?_;refine An J hR20 J J J J J J (λe26 o27 o28=>?_);refine S6 1 J ?_;refine⟨J,?_⟩;refine k8<|k9<|S3 2 J<|iL h J J dw dh λv16 hv29 h=>S2 3 J ?_;refine cN h (λhc h=>?_) λhc h=>?_
   .refine o6 ?_;refine g6<|mF (by decide) ?_;refine⟨J,?_⟩;refine⟨_,uw [(1000002,.ptr 2006 0 0),(1000003,.ptr 2005 0 0),(1000004,.ptr 2004 0 0),(1000009,.fn (.func 364) [.rptr [.I v10.1],.rptr [.I v10.2]]),(0,.fn (.yield l17) []),(1,.rptr [.I v10.1]),(2,.rptr [.I v10.2]),(5,.I v10.1),(6,.I s12),(17,.bool false)] [(2004,vR (.I 0) 1),(2005,vR (.I a1) 1),(2006,vR (.L e6.Pv a0) 1)] ⟨J,J,J,J,J,J,J,J,J,J,J,J,J,J,J,J,J,J,J,J,J,J,J,J,J,J,J,J,J,J,tr⟩ ⟨rS,rS,rS,tr⟩,?_⟩;refine S8 1 J ?_;refine G5 true J (λ_=>?_) (λq=>nomatch q);refine c5 ?_;refine .inr ⟨.exit 0,J,XM ?_⟩;refine l7 ?_;have h:=xL hx23 h;exact eJ h (WP (λl=>if l=2001 then 2004 else l))
   .refine c7 ?_;refine dr [] s6 (by kernel_rfl) (by kernel_rfl)<|S7 2 J<|d0 J (K1 (f:=e6.Pv) (cs:=e6.Pc v16) hv29 J J dw dh J J) J<|S7 4 J<|Y4 J (λhg=>oS J J J BS J) J<|M4 J (λhg _ hN=>mI J) J ?_;refine Y4 J (λhg=>K1 (f:=e6.Pv) (cs:=e6.Pc v16) hv29 (ct hg) (ct hg) dw dh J J) J<|M4 J (λhg _ hN=>V2 (ct hg) JJ J) J ?_;refine Y4 J (λhg=>L0 (ct hg) F3 J) J<|Y4 J (λhg=>oS J J J F3 J) J<|M4 J (λhg _ hN=>C3 (ct hg) (ct hg) J) J<|d7 J (λ_ hN=>D9 J J J (λq=>lh q)) J<|J0 ?_;refine cN h (λhc h=>?_) λhc h=>?_
    .refine S4 2 J ?_;refine c5 ?_;refine⟨J,?_⟩;refine⟨_,uw [(1000002,.ptr 2006 0 0),(1000003,.ptr 2005 0 0),(1000004,.ptr 2004 0 0),(1000009,.fn (.func 364) [.rptr [.I v10.1],.rptr [.I v10.2]]),(0,.fn (.yield l17) []),(1,.rptr [.I v10.1]),(2,.rptr [.I v10.2]),(5,.I v10.1),(6,.I s12),(17,.bool false)] [(2004,vR (.I v15) 1),(2005,vR (.I a1) 1),(2006,vR (.L e6.Pv a0) 1)] ⟨J,J,J,J,J,J,J,J,J,J,J,J,J,J,J,J,J,J,J,J,J,J,J,J,J,J,J,J,J,J,tr⟩ ⟨rS,rS,rS,tr⟩,?_⟩;refine S8 1 J ?_;refine G5 true J (λ_=>?_) (λq=>nomatch q);refine c5 ?_;refine .inr ⟨.ret,J,Ql ?_⟩;have h:=xL hx23 h;cases h;exact⟨J,[_],⟨oS J J J F3 J,tr⟩,J,io⟩
    .refine c7 ?_;refine⟨J,?_⟩;refine⟨_,uw [(1000002,.ptr 2006 0 0),(1000003,.ptr 2005 0 0),(1000004,.ptr 2004 0 0),(1000009,.fn (.func 364) [.rptr [.I v10.1],.rptr [.I v10.2]]),(0,.fn (.yield l17) []),(1,.rptr [.I v10.1]),(2,.rptr [.I v10.2]),(5,.I v10.1),(6,.I s12),(17,.bool true)] [(2004,vR (.I 0) 1),(2005,vR (.I a1) 1),(2006,vR (.L e6.Pv a0) 1)] ⟨J,J,J,J,J,J,J,J,J,J,J,J,J,J,J,J,J,J,J,J,J,J,J,J,J,J,J,J,J,J,tr⟩ ⟨rS,rS,rS,tr⟩,?_⟩;refine S8 1 J ?_;refine G5 false J (λq=>nomatch q) (λ_=>?_);refine c7<|S6 2 J ?_;exact eL h W
  .refine o6 ?_;refine g6<|g6<|l7 ?_;refine .inl ⟨J,?_⟩;have h:=xL hx23 h;exact eJ h (WP (λl=>if l=2001 then 2004 else l))
theorem kp{a0 a1}:PO Tryz.prog 326 [.L e6.Pv a0,.I a1] (Y6 a0 a1) λr=>.tup [.I r.1,.I r.2]:=by
 refine pO Tryz.func326 λr h _ _=>?_;refine S4 2 J<|S3 2 J<|cA h mT J J λv1 _ h=>S2 1 J<|k9<|S4 2 J ?_;refine cN h (λhc h=>?_) λhc h=>?_
 .refine S4 2 J ?_;refine c5 ?_;cases h;exact f2
 .refine c7 ?_;refine S3 2 J<|iL h J J dw dh λv2 _ h=>S2 4 J<|c5 ?_;cases h;exact f2
theorem bR{a0}:OG Tryz.prog 355 [.L e6.Pv a0] (E7 a0) λr=>⟨List.map e6.Pv r,0,true,3,true⟩:=by
 refine Sx Tryz.func355 λr h _ _=>?_;unfold E7 at h;refine S4 1 J<|k9<|S3 1 J<|ux J dw λb hb=>yN ?_;refine G5 b J (λhc=>?_) (λhc=>?_)
 .obtain rfl:a0 = []:=by simpa using hb hc
  refine S4 1 J<|bM (G3 (t:=2) (l:=920000) (z:=3) J J)<|c5 ?_;cases h;exact⟨J,_,_,J,J,J,J⟩
 .refine c7 ?_;refine sR<|y0 J (lN J dw dh)<|S1 1 J<|y1 J (yv (f:=e6.Pv) h J J (.inl ⟨_,J,J⟩) dw dh Hr wL J (λ_=>J)) J<|S2 1 J<|c5 ?_;exact⟨J,_,_,J,J,J,J⟩
theorem mU{a0 a1 a2}:PO Tryz.prog 333 [.L e6.Pv a0,.I a1,e6.Pv a2] (dT a0 a1 a2) λr=>.L e6.Pv r:=by
 refine pO Tryz.func333 λr h _ _=>?_;unfold dT at h;refine S4 2 J<|S3 1 J<|x8 h λv1 hv1 h=>Jw J (gX J bR J hv1) J J<|S2 1 J<|S3 3 J<|x8 h λv2 hv2 h=>y0 J (aN (f:=e6.Pv) hv2 J J J J dw dh J)<|nX (f:=e6.Pv) (v:=a2) hv2 J J (.inl J) dh<|yN<|S4 2 J<|c5 ?_;cases h;exact f1
theorem sP{a0 a1}:PO Tryz.prog 291 [.L e6.Pv a0,.I a1] (aP a0 a1) λr=>.tup [.L e6.Pv r.1,.I r.2.1,.I r.2.2]:=by
 refine pO Tryz.func291 λr h _ _=>?_;refine S4 3 J<|S3 2 J<|cA h mT J J λv1 _ h=>S2 1 J<|k9<|S4 2 J ?_;refine cN h (λhc h=>?_) λhc h=>?_
 .refine S4 4 J ?_;refine c5 ?_;cases h;exact f3
 .refine c7 ?_;refine dr [] s6 (by kernel_rfl) (by kernel_rfl)<|S7 2 J<|d7 J (λ_ hN=>p6 (cs:=[.I 2,.I 0,.I 0]) J Hy wL J J J) J<|x8 h λv2 hv2 h=>fI J (w7 J mU J hv2) J<|S7 2 J<|x8 h λv3 hv3 h=>d0 J (K1 (f:=e6.Pv) (cs:=e6.Pc v3) hv3 J J dw dh J J) J<|S8 5 J<|c5 ?_;cases h;exact f3
theorem Ei{a0 a1 a2}:PO Tryz.prog 351 [.L e6.Pv a0,.I a1,.I a2] (oR a0 a1 a2) λr=>.tup [.L e6.Pv r.1,.I r.2]:=by
 refine pO Tryz.func351 λr h _ _=>?_;refine S4 3 J<|S3 2 J<|y0 J (p6 (cs:=[.I 1,.I a1,.I a2]) J Hy wL J J J)<|S2 2 J<|k9<|S3 2 J<|cA h mT J J λv1 _ h=>S2 1 J<|S4 2 J ?_;refine cN h (λhc h=>?_) λhc h=>?_
 .refine S3 3 J ?_;refine cF h mU J J λv2 _ h=>S2 2 J<|c5 ?_;cases h;exact⟨J,[_,_],⟨oS J J J BS J,⟨oS J J J uA J,tr⟩⟩,J,io⟩
 .refine c7 ?_;refine jq h (λ_=>St.of [(3,.ptr 2004 0 0),(6,.ptr 2003 0 0),(7,.ptr 2002 0 0)] [(2002,vR (.I 0) 1),(2003,vR (.nl) 1),(2004,vR (.L e6.Pv a0) 1)]) (λq12 h=>?_) λκ11 h=>?_
  .refine S4 3 J ?_;refine c5 ?_;cases h;exact⟨J,[_,_],⟨oS J J J BS J,⟨oS J J J uA J,tr⟩⟩,J,io⟩
  .refine S3 1 J ?_;refine nL J dw<|S1 1 J<|cF h sV J J λv13 _ h=>yN<|k8<|bM (rU (λl=>if l=2005 then 8 else if l=2006 then 7 else if l=2007 then 6 else if l=2008 then 3 else l) [(3,.ptr 2008 0 0),(6,.ptr 2007 0 0),(7,.ptr 2006 0 0),(8,.ptr 2005 0 0),(26,.fn (.func 364) [.rptr [.I v13.1],.rptr [.I v13.2]])] [(2005,vR (.agg [.I 1,.I a1,.I a2]) 3),(2006,vR (.I 0) 1),(2007,vR (.nl) 1),(2008,vR (.L e6.Pv a0) 1)]) ?_;refine bL (fn:=Tryz.f364) (N1:=20) J Tryz.func364 J J nl J Hu J J (λl20 e21 o22 hR23=>?_);refine S4 2 J<|k8<|lq h (λs15=>St.of [(1000003,.ptr 2008 0 0),(1000006,.ptr 2007 0 0),(1000007,.ptr 2006 0 0),(1000008,.ptr 2005 0 0),(1000026,.fn (.func 364) [.rptr [.I v13.1],.rptr [.I v13.2]]),(0,.fn (.yield l20) []),(1,.rptr [.I v13.1]),(2,.rptr [.I v13.2]),(5,.I v13.1),(6,.I s15)] [(2005,vR (.agg [.I 1,.I a1,.I a2]) 3),(2006,vR (.I 0) 1),(2007,vR (.nl) 1),(2008,vR (.L e6.Pv a0) 1)]) W λs15 x16 h hx26=>S4 1 J<|k9 ?_;refine cN h (λhc h=>?_) λhc h=>?_
   .refine c7 ?_;refine k9<|k8<|S4 2 J<|Xi [] 8 s6 (by kernel_rfl) (by kernel_rfl) (by kernel_rfl) (by kernel_rfl) nl<|S7 3 J<|x8 h λv17 hv27 h=>d2 J (T1 J sQ J hv27) J<|S7 3 J<|x8 h λv18 hv28 h=>d7 J (λ_ hN=>tM J J hv28) J<|J0<|CM (WE [(1000003,.ptr 2008 0 0),(1000006,.ptr 2007 0 0),(1000007,.ptr 2006 0 0),(1000008,.ptr 2005 0 0),(1000026,.fn (.func 364) [.rptr [.I v13.1],.rptr [.I v13.2]]),(0,.fn (.yield l20) []),(1,.rptr [.I v13.1]),(2,.rptr [.I v13.2]),(5,.I v13.1),(6,.I s15),(9,.fn (.yield l20) []),(16,.I v18)] [(2005,vR (.agg [.I 1,.I a1,.I a2]) 3),(2006,vR (.I 0) 1),(2007,vR (.nl) 1),(2008,vR (.L e6.Pv a0) 1)]) ?_;refine An J hR23 J J J J J J (λe29 o30 o31=>?_);refine S6 1 J ?_;refine⟨J,?_⟩;refine k8<|S3 2 J<|iL h J J dw dh λv19 _ h=>S2 3 J ?_;refine cN h (λhc h=>?_) λhc h=>?_
    .refine S3 3 J ?_;refine cF h mU J J λv20 _ h=>S2 2 J<|c5 ?_;refine⟨J,?_⟩;refine⟨_,uw [(1000003,.ptr 2008 0 0),(1000006,.ptr 2007 0 0),(1000007,.ptr 2006 0 0),(1000008,.ptr 2005 0 0),(1000026,.fn (.func 364) [.rptr [.I v13.1],.rptr [.I v13.2]]),(0,.fn (.yield l20) []),(1,.rptr [.I v13.1]),(2,.rptr [.I v13.2]),(5,.I v13.1),(6,.I s15),(17,.bool false)] [(2005,vR (.agg [.I 1,.I a1,.I a2]) 3),(2006,vR (.I 0) 1),(2007,vR (.L e6.Pv v20) 1),(2008,vR (.L e6.Pv a0) 1)] ⟨J,J,J,J,J,J,J,J,J,J,J,J,J,J,J,J,J,J,J,J,J,J,J,J,J,J,J,J,J,J,J,J,J,tr⟩ ⟨rS,rS,rS,rS,tr⟩,?_⟩;refine S8 1 J ?_;refine G5 true J (λ_=>?_) (λq=>nomatch q);refine c5 ?_;refine .inr ⟨.ret,J,Ql ?_⟩;have h:=xL hx26 h;cases h;exact⟨J,[_,_],⟨oS J J J BS J,⟨oS J J J uA J,tr⟩⟩,J,io⟩
    .refine c7 ?_;refine⟨J,?_⟩;refine⟨_,uw [(1000003,.ptr 2008 0 0),(1000006,.ptr 2007 0 0),(1000007,.ptr 2006 0 0),(1000008,.ptr 2005 0 0),(1000026,.fn (.func 364) [.rptr [.I v13.1],.rptr [.I v13.2]]),(0,.fn (.yield l20) []),(1,.rptr [.I v13.1]),(2,.rptr [.I v13.2]),(5,.I v13.1),(6,.I s15),(17,.bool true)] [(2005,vR (.agg [.I 1,.I a1,.I a2]) 3),(2006,vR (.I 0) 1),(2007,vR (.nl) 1),(2008,vR (.L e6.Pv a0) 1)] ⟨J,J,J,J,J,J,J,J,J,J,J,J,J,J,J,J,J,J,J,J,J,J,J,J,J,J,J,J,J,J,J,J,J,tr⟩ ⟨rS,rS,rS,rS,tr⟩,?_⟩;refine S8 1 J ?_;refine G5 false J (λq=>nomatch q) (λ_=>?_);refine c7<|S6 2 J ?_;exact eL h W
   .refine o6 ?_;refine g6<|g6<|l7 ?_;refine .inl ⟨J,?_⟩;have h:=xL hx26 h;exact eJ h (WP (λl=>if l=2004 then 2008 else if l=2003 then 2007 else if l=2002 then 2006 else l))
theorem Cf{a0 a1 a2}:PO Tryz.prog 324 [.L e6.Pv a0,.I a1,.I a2] (U4 a0 a1 a2) λr=>.tup [.L e6.Pv r.1,.I r.2.1,.I r.2.2]:=by
 refine pO Tryz.func324 λr h _ _=>?_;refine S4 3 J<|k9<|S4 2 J ?_;refine cN h (λhc h=>?_) λhc h=>?_
 .refine S4 4 J ?_;refine c5 ?_;cases h;exact f3
 .refine c7 ?_;refine S3 2 J<|cA h kp J J λv1 _ h=>S2 5 J<|k9<|S4 2 J ?_;refine cN h (λhc h=>?_) λhc h=>?_
  .refine S3 2 J ?_;refine cF h sP J J λv2 _ h=>S2 7 J<|S4 5 J<|c5 ?_;cases h;exact f3
  .refine c7 ?_;refine S3 3 J<|cF h Ei J J λv3 _ h=>S2 5 J<|k9<|S4 2 J ?_;refine cN h (λhc h=>?_) λhc h=>?_
   .refine S4 5 J ?_;refine c5 ?_;cases h;exact f3
   .refine c7 ?_;refine S4 5 J<|c5 ?_;cases h;exact f3
theorem nZ{a0 a1}:PO Tryz.prog 325 [K7.Pv a0,b9.Pv a1] (aw a0 a1) λr=>b9.Pv r:=by
 refine pO Tryz.func325 λr h _ _=>?_;unfold aw at h;refine S4 3 J<|S4 4 J<|S4 2 J<|c5 ?_;cases h;exact⟨J,[_],⟨oL J J J u5 p7 nl J,tr⟩,J,io⟩
theorem dC{a0 a1 a2 a3}:PO Tryz.prog 320 [b9.Pv a0,.I a1,.I a2,.abs (RR 325 [K7.Pv a3])] (D7 a0 a1 a2 a3) λr=>b9.Pv r:=by
 refine pO Tryz.func320 λr h _ _=>?_;refine S4 2 J<|S3 3 J<|cF h eM J J λv1 _ h=>x8 h λv2 hv2 h=>Dy (xs:=[b9.Pv v1]) J J OY J (nZ.2 _ hv2)<|S1 1 J<|cF h aJ J J λv3 _ h=>S2 1 J<|c5 ?_;cases h;exact⟨J,[_],⟨oL J J J u5 p7 nl J,tr⟩,J,io⟩
theorem Cu{a0 a1 a2}:PO Tryz.prog 284 [b9.Pv a0,.I a1,.I a2] (bY a0 a1 a2) λr=>.tup [b9.Pv r.1,.I r.2]:=by
 refine pO Tryz.func284 λr h _ _=>?_;refine S4 3 J<|k9<|S4 2 J ?_;refine cN h (λhc h=>?_) λhc h=>?_
 .refine S4 3 J ?_;refine c5 ?_;cases h;exact⟨J,[_,_],⟨oL J J J u5 p7 nl J,⟨J,tr⟩⟩,J,io⟩
 .refine c7 ?_;refine k9<|S3 2 J<|cA h Y8 J J λv1 _ h=>S1 2 J<|m8 J (λhg=>oL J J J u5 p7 nl J)<|m8 J (λhg=>mI J)<|x8 h λv2 hv2 h=>m8 J (λhg=>T1 J Y8 (aH (ct hg) (aH (ct hg) J)) (X4 hv2 hg))<|m8 J (λhg=>fN (ct hg) J)<|y0 J (J2 J J J (λq=>ly q))<|yN ?_;refine cN h (λhc h=>?_) λhc h=>?_
  .refine S4 3 J ?_;refine c5 ?_;cases h;exact⟨J,[_,_],⟨oL J J J u5 p7 nl J,⟨J,tr⟩⟩,J,io⟩
  .refine c7 ?_;refine S3 4 J<|cF h Cf J J λv3 _ h=>S2 7 J<|k9<|S4 2 J ?_;refine cN h (λhc h=>?_) λhc h=>?_
   .refine S4 4 J ?_;refine c5 ?_;cases h;exact⟨J,[_,_],⟨oL J J J u5 p7 nl J,⟨J,tr⟩⟩,J,io⟩
   .refine c7 ?_;refine S3 4 J<|y0 J (p6 (cs:=[.L e6.Pv v3.1]) J Pq PD J J J)<|y0 J (vf (d:=.agg [.L e6.Pv v3.1]) J)<|cF h dC J J λv4 _ h=>S2 2 J<|c5 ?_;cases h;exact⟨J,[_,_],⟨oL J J J u5 p7 nl J,⟨J,tr⟩⟩,J,io⟩
theorem gW{a0}:PO Tryz.prog 210 [r7.Pv a0] (bu a0) λr=>.tup [b9.Pv r.1,.I r.2]:=by
 refine pO Tryz.func210 λr h _ _=>?_;refine S4 3 J<|S3 5 J<|cA h U8 J J λv1 _ h=>S2 5 J<|k9<|S4 2 J ?_;refine cN h (λhc h=>?_) λhc h=>?_
 .refine S4 5 J ?_;refine c5 ?_;cases h;exact⟨J,[_,_],⟨oL J J J u5 p7 nl J,⟨J,tr⟩⟩,J,io⟩
 .refine c7 ?_;refine dr [] s6 (by kernel_rfl) (by kernel_rfl)<|S7 8 J<|x8 h λv2 hv2 h=>d2 J (T1 J P8 J hv2) J<|x8 h λv3 hv3 h=>fI J (w7 J Cu J hv3) J<|S7 2 J<|D1 (x':=b9.Pv v3.1) (cl':=true) J J (.inr J) p7<|S8 1 J<|c5 ?_;cases h;exact⟨J,[_,_],⟨oL J J J u5 p7 nl J,⟨J,tr⟩⟩,J,io⟩
theorem Ce{a0 a1}:PO Tryz.prog 285 [.L e6.Pv a0,.I a1] (uH a0 a1) λr=>.tup [.I r.1,.I r.2]:=by
 refine pO Tryz.func285 λr h _ _=>?_;refine S4 2 J<|S3 2 J<|cA h kp J J λv1 _ h=>S2 4 J<|c5 ?_;cases h;exact f2
theorem iI{a0}:PO Tryz.prog 211 [r7.Pv a0] (cd a0) λr=>.tup [b9.Pv r.1,.I r.2]:=by
 refine pO Tryz.func211 λr h _ _=>?_;refine S4 3 J<|S3 5 J<|cA h U8 J J λv1 _ h=>S2 5 J<|k9<|S4 2 J ?_;refine cN h (λhc h=>?_) λhc h=>?_
 .refine S4 5 J ?_;refine c5 ?_;cases h;exact⟨J,[_,_],⟨oL J J J u5 p7 nl J,⟨J,tr⟩⟩,J,io⟩
 .refine c7 ?_;refine dr [] s6 (by kernel_rfl) (by kernel_rfl)<|S7 5 J<|x8 h λv2 hv2 h=>d2 J (T1 J Ce J hv2) J<|S7 2 J<|x8 h λv3 hv3 h=>fI J (w7 J J1 J hv3) J<|S7 2 J<|D1 (x':=b9.Pv v3.1) (cl':=true) J J (.inr J) p7<|S8 1 J<|c5 ?_;cases h;exact⟨J,[_,_],⟨oL J J J u5 p7 nl J,⟨J,tr⟩⟩,J,io⟩
theorem fL{a0}:PO Tryz.prog 212 [r7.Pv a0] (S9 a0) λr=>.tup [b9.Pv r.1,.I r.2]:=by
 refine pO Tryz.func212 λr h _ _=>?_;unfold S9 at h;refine S4 3 J<|S4 4 J<|c5 ?_;cases h;exact⟨J,[_,_],⟨oL J J J u5 p7 nl J,⟨J,tr⟩⟩,J,io⟩
theorem Gv{f:Fv}{a0:r7}{r:b9 × Int}(h:wZ f a0=some r):∃n,f=some n/\B3 Tryz.prog n/\ba Tryz.prog n [r7.Pv a0] (.tup [b9.Pv r.1,.I r.2]):=by
 unfold wZ at h;by_cases e203:f=some 203
 .rw[zb e203] at h;exact⟨203,e203,(@eU a0).1,(@eU a0).2 _ h⟩
 rw[za e203] at h;by_cases e204:f=some 204
 .rw[zb e204] at h;exact⟨204,e204,(@cG a0).1,(@cG a0).2 _ h⟩
 rw[za e204] at h;by_cases e205:f=some 205
 .rw[zb e205] at h;exact⟨205,e205,(@gU a0).1,(@gU a0).2 _ h⟩
 rw[za e205] at h;by_cases e206:f=some 206
 .rw[zb e206] at h;exact⟨206,e206,(@gV a0).1,(@gV a0).2 _ h⟩
 rw[za e206] at h;by_cases e207:f=some 207
 .rw[zb e207] at h;exact⟨207,e207,(@fM a0).1,(@fM a0).2 _ h⟩
 rw[za e207] at h;by_cases e208:f=some 208
 .rw[zb e208] at h;exact⟨208,e208,(@eV a0).1,(@eV a0).2 _ h⟩
 rw[za e208] at h;by_cases e209:f=some 209
 .rw[zb e209] at h;exact⟨209,e209,(@jC a0).1,(@jC a0).2 _ h⟩
 rw[za e209] at h;by_cases e210:f=some 210
 .rw[zb e210] at h;exact⟨210,e210,(@gW a0).1,(@gW a0).2 _ h⟩
 rw[za e210] at h;by_cases e211:f=some 211
 .rw[zb e211] at h;exact⟨211,e211,(@iI a0).1,(@iI a0).2 _ h⟩
 rw[za e211] at h;by_cases e212:f=some 212
 .rw[zb e212] at h;exact⟨212,e212,(@fL a0).1,(@fL a0).2 _ h⟩
 rw[za e212] at h;cases h
theorem lu{a0}:PO Tryz.prog 233 [.I a0] (cV a0) λr=>.bool r:=by
 refine pO Tryz.func233 λr h _ _=>?_;unfold cV at h;refine S4 1 J<|S4 4 J<|c5 ?_;cases h;exact f1
theorem ra{a0 a1}:PO Tryz.prog 135 [.I a0,.I a1] (ig a0 a1) λr=>.I r:=by
 refine pO Tryz.func135 λr h _ _=>?_;refine S4 1 J<|S3 1 J<|cA h lu J J λv1 _ h=>S2 1 J<|S3 1 J<|cA h lu J J λv2 _ h=>S2 1 J<|k9<|S4 1 J ?_;refine cN h (λhc h=>?_) λhc h=>?_
 .refine k9 ?_;refine S4 1 J ?_;refine cN h (λhc h=>?_) λhc h=>?_
  .refine S4 1 J ?_;refine c5 ?_;cases h;exact f1
  .refine c7 ?_;refine S4 1 J<|c5 ?_;cases h;exact f1
 .refine c7 ?_;refine k9<|S4 1 J ?_;refine cN h (λhc h=>?_) λhc h=>?_
  .refine S4 1 J ?_;refine c5 ?_;cases h;exact f1
  .refine c7 ?_;refine k9<|S4 3 J ?_;refine cN h (λhc h=>?_) λhc h=>?_
   .refine S4 1 J ?_;refine c5 ?_;cases h;exact f1
   .refine c7 ?_;refine k9<|S4 3 J ?_;refine cN h (λhc h=>?_) λhc h=>?_
    .refine S4 1 J ?_;refine c5 ?_;cases h;exact f1
    .refine c7 ?_;refine S4 1 J<|c5 ?_;cases h;exact f1
theorem wD{a0 a1 a2}:PO Tryz.prog 134 [.I a0,.I a1,.rptr [.abs (T9 (List.map (bW iF iF) a2))]] (iY a0 a1 a2) λr=>.I r:=by
 refine pO Tryz.func134 λr h _ _=>?_;refine S4 1 J<|S3 2 J<|y0 J (Bz (es:=a2) (k:=a0) (E:=iF) (EK:=iF) (d:=.I ((y9 a2 a0).getD (0:Int))) J J xr (w9 H7) B8 J (MP _ _ _))<|S1 2 J<|y0 J (Bz (es:=a2) (k:=a1) (E:=iF) (EK:=iF) (d:=.I ((y9 a2 a1).getD (0:Int))) J J xr (w9 H7) B8 J (MP _ _ _))<|cA h ra J J λv1 _ h=>S2 1 J<|c5 ?_;cases h;exact f1
theorem R3{a0}:PO Tryz.prog 69 [b6.Pv a0] (F7 a0) λr=>.L iF r:=by
 refine pO Tryz.func69 λr h _ _=>?_;refine S4 2 J<|S4 1 J<|sR<|BO (KT:=Int) (VT:=Int) (EK:=iF) (E:=iF) 5000008 J J<|S2 2 J ?_;refine jq h (λq=>St.of [(3,.sl 910003),(4,.ptr 4 0 0)] [(4,vS (.mp 5000008) 1),(5000008,⟨[.mapc (List.map (bW iF iF) q.1)],0,false,0,false⟩),(910003,⟨List.map iF q.2,0,true,1,true⟩)]) (λq20 h=>?_) λκ17 h=>?_
 .obtain⟨j18,j19⟩:=q20;refine S3 2 J<|O2 (Wk.trans (RO 5000008 nl J) (Vm 4 0 5000008 J J J J))<|x8 h λv21 hv12 h=>Vp hv12 J J OS Ve J J J OT J J J J J (λp q r h=>wD.2 r h)<|yN<|S4 2 J<|c5 ?_;cases h;exact f1
 .refine S3 3 J ?_;refine nL J bc<|S2 1 J<|k8<|lq h (λq=>St.of [(3,.sl 910003),(4,.ptr 4 0 0),(11,.L c8.Pv a0.S.b7),(12,.I (a0.S.b7.length:Int)),(13,.I q.1)] [(4,vS (.mp 5000008) 1),(5000008,⟨[.mapc (List.map (bW iF iF) q.2.1)],0,false,0,false⟩),(910003,⟨List.map iF q.2.2,0,true,1,true⟩)]) (Wk.trans (G3 (t:=3) (l:=920003) (z:=1) J J) (WP (λl=>if l=910003 then 920003 else l))) λq27 x26 h hx15=>?_;obtain⟨s23,s24,s25⟩:=q27;refine S4 1 J<|k9 ?_;refine cN h (λhc h=>?_) λhc h=>?_
  .refine c7 ?_;refine jq h (λq=>St.of [(3,.sl 33),(4,.ptr 4 0 0),(11,.L c8.Pv a0.S.b7),(12,.I (a0.S.b7.length:Int)),(13,.I s23)] [(4,vS (.mp 5000008) 1),(5000008,⟨[.mapc (List.map (bW iF iF) q.1)],0,false,0,false⟩),(33,⟨List.map iF q.2,0,true,1,true⟩)]) (λq34 h=>?_) λκ31 h=>?_
   .obtain⟨j32,j33⟩:=q34;refine S6 2 J ?_;exact eL h (WP (λl=>if l=910003 then 33 else l))
   .refine k8 ?_;refine S3 1 J<|iL h J J bc ai λv35 _ h=>S2 4 J<|S4 3 J ?_;refine cN h (λhc h=>?_) λhc h=>?_
    .refine S3 3 J ?_;refine cA h oO J J λv36 _ h=>S2 1 J<|S3 5 J<|Z7 (es:=s24) (k:=v36) (v:=v35.Val.Serial) (E:=iF) (EK:=iF) (.inl J) J J J J J J xr (w9 H7)<|yN<|S5 2 J<|y0 J (I5 (f:=iF) (l:=[v36]) J l6 o5 B8 J J nl J J)<|x8 h λv37 hv22 h=>WZ (f:=iF) (b:=8) [(4,.ptr 4 0 0),(11,.L c8.Pv a0.S.b7),(12,.I (a0.S.b7.length:Int)),(13,.I s23),(14,.bool (decide (s23<(a0.S.b7.length:Int)))),(15,.I s23),(16,.rptr (c8.Pc v35)),(17,c8.Pv v35),(6,.ptr 6 0 0),(5,.I s23),(18,.ptr 6 0 0),(19,.I v35.State),(20,.bool (v35.State==1)),(21,.I s23),(22,.ptr 6 0 1),(23,.I v35.Gen),(24,.I v36),(7,.I v36),(25,.mp 5000008),(26,.I v36),(27,.ptr 6 0 2),(28,.ptr 6 0 2),(29,.I v35.Val.Serial),(31,.I v36),(32,.lst true (List.map iF [v36]))] [(6,vR (c8.Pv v35) 8),(5000008,⟨[.mapc (List.map (bW iF iF) (o7 s24 v36 v35.Val.Serial))],0,false,0,false⟩),(4,vS (.mp 5000008) 1)] J hv22 ⟨J,J,J,J,J,J,J,J,J,J,J,J,J,J,J,J,J,J,J,J,J,J,J,J,J,J,J,J,J,J,J,J,J,J,J,J,J,J,J,J,J,J,J,J,J,J,J,J,J,J,J,J,J,J,J,J,J,J,J,J,J,J,J,J,J,J,J,J,J,J,J,J,J,J,J,tr⟩ ⟨rS,W7 J J J (λq=>nomatch q) J J J J,W7 J J J (λq=>nomatch q) J J J J,tr⟩ J J J J (.inl ⟨_,J,J⟩) l6 o5 Q0 B8 J (λ_=>J)<|S2 1 J ?_;exact eJ h W
    .refine c7 ?_;exact eJ h (WP (λl=>if l=33 then 910003 else l))
  .refine o6 ?_;refine g6<|g6<|l7 ?_;have h:=xL hx15 h;exact eJ h W
theorem yR{a0}:PO Tryz.prog 213 [b9.Pv a0] (dY a0) λr=>.L iF r:=by
 refine pO Tryz.func213 λr h _ _=>?_;refine S4 2 J<|S4 1 J ?_;refine jq h (λj16=>St.of [(3,.sl 910003)] [(910003,⟨List.map iF j16,(List.map iF j16).length,true,1,true⟩)]) (λj16 h=>?_) λκ15 h=>?_
 .refine S4 2 J ?_;refine c5 ?_;cases h;exact f1
 .refine S3 2 J ?_;refine cF h R3 J J λv17 _ h=>nL J l6<|S2 1 J<|k8<|lq h (λq=>St.of [(1,.ptr 1 0 0),(3,.sl 910003),(10,.L iF v17),(11,.I (v17.length:Int)),(12,.I q.1)] [(1,vR (b9.Pv a0) 8),(910003,⟨List.map iF q.2,(List.map iF q.2).length,true,1,true⟩)]) (Wk.trans (G3 (t:=3) (l:=920003) (z:=1) J J) (WP (λl=>if l=910003 then 920003 else l))) λq22 x21 h hx16=>?_;obtain⟨s19,s20⟩:=q22;refine S4 1 J<|k9 ?_;refine cN h (λhc h=>?_) λhc h=>?_
  .refine c7 ?_;refine jq h (λj27=>St.of [(1,.ptr 1 0 0),(3,.sl 29),(10,.L iF v17),(11,.I (v17.length:Int)),(12,.I s19)] [(29,⟨List.map iF j27,(List.map iF j27).length,true,1,true⟩),(1,vR (b9.Pv a0) 8)]) (λj27 h=>?_) λκ26 h=>?_
   .refine S6 2 J ?_;exact eL h (Wk.trans (m9 _ [29]) (WP (λl=>if l=910003 then 29 else l)))
   .refine k8 ?_;refine sR<|iL h J J l6 o5 λv28 _ h=>S2 2 J<|S3 3 J<|cF h C5 J J λv29 _ h=>S2 6 J<|S4 3 J ?_;refine cN h (λhc h=>?_) λhc h=>?_
    .refine S5 2 J ?_;refine y0 J (I5 (f:=iF) (l:=[v28]) J l6 o5 B8 J J nl J J)<|x8 h λv30 hv23 h=>J5 J (I4 (f:=iF) hv23 J J J J J J (.inl ⟨_,J,J⟩) l6 o5 Q0 B8 J (λ_=>J)) J J J<|S2 1 J ?_;exact eJ h (Wk.trans (m9 _ [29]) W)
    .refine c7 ?_;exact eJ h (Wk.trans (m9 _ [910003]) (WP (λl=>if l=29 then 910003 else l)))
  .refine o6 ?_;refine g6<|g6<|l7 ?_;have h:=xL hx16 h;exact eJ h (Wk.trans (m9 _ [910003]) W)
theorem kJ{a0}:PO Tryz.prog 214 [n7.Pv a0] (O9 a0) λr=>.bool r:=by
 refine pO Tryz.func214 λr h _ _=>?_;unfold O9 at h;refine S4 2 J<|S3 4 J<|m8 J (λhg=>oF J AV J)<|m8 J (λhg=>oS (ct hg) J J vC J)<|m8 J (λhg=>fN (ct hg) J)<|y0 J (D9 J J J (λq=>lh q))<|S2 1 J<|c5 ?_;cases h;exact f1
theorem lS{a0 a1}:PO Tryz.prog 287 [j5.Pv a0,g5.Pv a1] (V5 a0 a1) λr=>.tup [j5.Pv r.1,.I r.2]:=by
 refine pO Tryz.func287 λr h _ _=>?_;unfold V5 at h;refine S4 4 J<|k9<|dr [] s6 (by kernel_rfl) (by kernel_rfl)<|S7 1 J<|x8 h λv1 hv1 h=>d2 J (T1 J Q7 J hv1) J<|S8 3 J ?_;refine cN h (λhc h=>?_) λhc h=>?_
 .refine S4 3 J ?_;refine c5 ?_;cases h;exact⟨J,[_,_],⟨oL J J J jr cI nl J,⟨J,tr⟩⟩,J,io⟩
 .refine c7 ?_;refine dr [] s6 (by kernel_rfl) (by kernel_rfl)<|S7 3 J<|d2 J (T1 J Q7 J hv1) J<|x8 h λv2 hv2 h=>fI J (w7 J Z5 J hv2) J<|S7 1 J<|VJ J (I5 (f:=g5.Pv) (l:=[a1]) J I8 C8 ak J J nl J J) J<|x8 h λv3 hv3 h=>d3 J (yv (f:=g5.Pv) hv3 J J (.inl ⟨_,J,J⟩) I8 C8 mA ak J (λ_=>J)) J J J<|S7 1 J<|D1 (x':=.agg [.sl 19,.I a0.Cap]) (cl':=false) J J (.inl J) uC<|J0<|S4 3 J<|c5 ?_;cases h;exact⟨J,[_,_],⟨oL J J J jr cI nl J,⟨J,tr⟩⟩,J,io⟩
theorem vM{a0 a1}:PO Tryz.prog 220 [j5.Pv a0,g5.Pv a1] (pE a0 a1) λr=>.tup [j5.Pv r.1,.I r.2]:=by
 refine pO Tryz.func220 λr h _ _=>?_;refine S4 4 J<|S3 2 J<|cF h lS J J λv1 _ h=>S2 4 J<|c5 ?_;cases h;exact⟨J,[_,_],⟨oL J J J jr cI nl J,⟨J,tr⟩⟩,J,io⟩
theorem mb{a0 a1}:PO Tryz.prog 127 [b9.Pv a0,.I a1] (W8 a0 a1) λr=>b9.Pv r:=by
 refine pO Tryz.func127 λr h _ _=>?_;refine S4 2 J<|S3 3 J<|cF h C5 J J λv1 _ h=>S2 6 J<|k9<|S3 3 J<|m8 J (λhg=>oL J J J rY kg nl J)<|x8 h λv2 hv2 h=>m8 J (λhg=>T1 J kJ (aH (ct hg) J) (X4 hv2 hg))<|m8 J (λhg=>fN (ct hg) J)<|y0 J (J2 J J J (λq=>ly q))<|yN ?_;refine cN h (λhc h=>?_) λhc h=>?_
 .refine S4 2 J ?_;refine c5 ?_;cases h;exact⟨J,[_],⟨oL J J J u5 p7 nl J,tr⟩,J,io⟩
 .refine c7 ?_;refine S4 2 J<|S3 4 J<|cF h cy J J λv3 _ h=>S2 5 J<|S3 5 J<|y0 J (p6 (cs:=[.I 1,.I a1,.I v1.1.Prog]) J rZ ak J J J)<|cF h vM J J λv4 _ h=>S2 5 J<|S3 2 J<|cF h eM J J λv5 _ h=>S2 1 J<|c5 ?_;cases h;exact⟨J,[_],⟨oL J J J u5 p7 nl J,tr⟩,J,io⟩
theorem qx{a0 a1}:PO Tryz.prog 222 [b9.Pv a0,.L iF a1] (Z6 a0 a1) λr=>.L iF r:=by
 refine pO Tryz.func222 λr h _ _=>?_;refine S4 2 J<|sR<|BO (KT:=Int) (VT:=Bool) (EK:=iF) (E:=PV.bool) 5000011 J J<|S2 1 J<|S4 1 J ?_;refine jq h (λj18=>St.of [(6,.sl 910006)] [(910006,⟨List.map iF j18,(List.map iF j18).length,true,1,true⟩)]) (λj18 h=>?_) λκ17 h=>?_
 .refine S4 2 J ?_;refine c5 ?_;cases h;exact f1
 .refine S3 1 J ?_;refine nL J l6<|S2 1 J<|k8<|lq h (λq=>St.of [(2,.ptr 2 0 0),(5,.mp 5000011),(6,.sl 910006),(12,.L iF a1),(13,.I (a1.length:Int)),(14,.I q.1)] [(5000011,⟨[.mapc (List.map (bW iF PV.bool) q.2.1)],0,false,0,false⟩),(2,vR (b9.Pv a0) 8),(910006,⟨List.map iF q.2.2,(List.map iF q.2.2).length,true,1,true⟩)]) (Wk.trans (G3 (t:=6) (l:=920006) (z:=1) J J) (WP (λl=>if l=910006 then 920006 else l))) λq24 x23 h hx16=>?_;obtain⟨s20,s21,s22⟩:=q24;refine S4 1 J<|k9 ?_;refine cN h (λhc h=>?_) λhc h=>?_
  .refine c7 ?_;refine jq h (λq=>St.of [(2,.ptr 2 0 0),(5,.mp 5000011),(6,.sl 38),(12,.L iF a1),(13,.I (a1.length:Int)),(14,.I s20)] [(38,⟨List.map iF q.1,(List.map iF q.1).length,true,1,true⟩),(5000011,⟨[.mapc (List.map (bW iF PV.bool) q.2)],0,false,0,false⟩),(2,vR (b9.Pv a0) 8)]) (λq31 h=>?_) λκ28 h=>?_
   .obtain⟨j29,j30⟩:=q31;refine S6 2 J ?_;exact eL h (Wk.trans (m9 _ [38]) (WP (λl=>if l=910006 then 38 else l)))
   .refine k8 ?_;refine sR<|iL h J J l6 o5 λv32 _ h=>S2 2 J<|S3 3 J<|cF h C5 J J λv33 _ h=>S2 6 J<|S3 3 J<|m8 J (λhg=>om (d:=.mp 5000011) J)<|m8 J (λhg=>mI J) ?_;rcases zay ((v33.2==0)==true) with hg24 | hg24
    .have h:=Sj h hg24;refine BN (es:=s21) (k:=v32) (E:=PV.bool) (EK:=iF) (d:=.bool ((y9 s21 v32).getD (false:Bool))) (zW some hg24) (ct hg24) J (ct hg24) Q1 (w9 H7) sf J (MP _ _ _)<|y0 (zW some hg24) (fN J J)<|y0 J (kI J J hg24)<|yN ?_;refine cN h (λhc h=>?_) λhc h=>?_
     .refine S3 2 J ?_;refine Z7 (es:=s21) (k:=v32) (v:=true) (E:=PV.bool) (EK:=iF) (.inl J) J J J J J J Q1 (w9 H7)<|yN<|S5 2 J<|y0 J (I5 (f:=iF) (l:=[v32]) J l6 o5 B8 J J nl J J)<|x8 h λv34 hv25 h=>J5 J (I4 (f:=iF) hv25 J J J J J J (.inl ⟨_,J,J⟩) l6 o5 Q0 B8 J (λ_=>J)) J J J<|S2 1 J ?_;exact eJ h (Wk.trans (m9 _ [38]) W)
     .refine c7 ?_;exact eJ h (Wk.trans (m9 _ [910006]) (WP (λl=>if l=38 then 910006 else l)))
    .have h:=Si h hg24;refine cR (zW some hg24)<|cR (zW some hg24)<|y0 J (ng J J hg24)<|yN ?_;refine G5 false J (λq=>nomatch q) (λ_=>?_);refine c7 ?_;exact eJ h (Wk.trans (m9 _ [910006]) (WP (λl=>if l=38 then 910006 else l)))
  .refine o6 ?_;refine g6<|g6<|l7 ?_;have h:=xL hx16 h;exact eJ h (Wk.trans (m9 _ [910006]) W)
theorem uc{a0 a1}:PO Tryz.prog 223 [b9.Pv a0,.L iF a1] (fz a0 a1) λr=>b9.Pv r:=by
 refine pO Tryz.func223 λr h _ _=>?_;refine S4 2 J<|S3 3 J<|cF h qW J J λv1 _ h=>S2 5 J<|S4 3 J ?_;refine jq h (λj11=>St.of [(2,.ptr 2 0 0),(4,.ptr 4 0 0)] [(4,vR (.agg [.nl,.I 0,.I 0,.nl,.nl,.nl,.nl,.I 0]) 8),(2,vR (.agg [.L c8.Pv a0.S.S.b7,.I a0.S.S.Last,.I a0.S.Serial,.L iF a0.Roots,.L k7.Pv v1.1,.L e6.Pv a0.T,.L g5.Pv j11.L,.I j11.Cap]) 8)]) (λj11 h=>?_) λκ10 h=>?_
 .refine S4 2 J ?_;refine c5 ?_;cases h;exact⟨J,[_],⟨oL J J J u5 p7 nl J,tr⟩,J,io⟩
 .refine S3 1 J ?_;refine nL J l6<|S2 1 J<|k8<|lq h (λq=>St.of [(2,.ptr 2 0 0),(4,.ptr 4 0 0),(5,.L k7.Pv v1.1),(18,.L iF v1.2),(19,.I (v1.2.length:Int)),(20,.I q.1)] [(4,vR (.agg [.nl,.I 0,.I 0,.nl,.nl,.nl,.nl,.I 0]) 8),(2,vR (.agg [.L c8.Pv a0.S.S.b7,.I a0.S.S.Last,.I a0.S.Serial,.L iF a0.Roots,.L k7.Pv v1.1,.L e6.Pv a0.T,.L g5.Pv q.2.L,.I q.2.Cap]) 8)]) W λq16 x15 h hx11=>?_;obtain⟨s13,s14⟩:=q16;refine S4 1 J<|k9 ?_;refine cN h (λhc h=>?_) λhc h=>?_
  .refine c7 ?_;refine k9<|k8<|sR<|iL h J J l6 o5 λv17 _ h=>S2 2 J<|CR [] s6 (by kernel_rfl) (by kernel_rfl)<|S7 5 J<|x8 h λv18 hv13 h=>d0 J (K1 (f:=k7.Pv) (cs:=k7.Pc v18) hv13 J J U0 X8 J J) J<|S7 2 J<|d7 J (λ_ hN=>p6 (cs:=[.I 2,.I v17,.I v18.Call]) J rZ ak J J J) J<|x8 h λv19 hv14 h=>fI J (w7 J vM J hv14) J<|S7 4 J<|D1 (x':=.agg [.L c8.Pv a0.S.S.b7,.I a0.S.S.Last,.I a0.S.Serial,.L iF a0.Roots,.L k7.Pv v1.1,.L e6.Pv a0.T,.L g5.Pv v19.1.L,.I v19.1.Cap]) (cl':=true) J J (.inr J) cI<|J0<|S6 2 J ?_;exact eL h W
  .refine o6 ?_;refine g6<|g6<|l7 ?_;have h:=xL hx11 h;exact eJ h W
theorem Du{a0}:PO Tryz.prog 290 [.L iF a0] (qn a0) λr=>.fn (.func 331) [.rptr [.L iF r]]:=by
 refine pO Tryz.func290 λr h _ _=>?_;unfold qn at h;refine S4 2 J<|S4 2 J<|c5 ?_;cases h;exact f1
theorem um{a0}:PO Tryz.prog 225 [.L iF a0] (jo a0) λr=>.L iF r:=by
 refine pO Tryz.func225 λr h _ _=>?_;refine S4 1 J<|S4 1 J ?_;refine jq h (λj10=>St.of [(3,.ptr 2001 0 0)] [(2001,vS (.sl 912501) 1),(912501,⟨List.map iF j10,(List.map iF j10).length,true,1,true⟩)]) (λj10 h=>?_) λκ9 h=>?_
 .refine S4 2 J ?_;refine c5 ?_;cases h;exact f1
 .refine S3 1 J ?_;refine cF h Du J J λv11 _ h=>yN<|k8<|bM (rU (λl=>if l=2011 then 3 else l) [(3,.ptr 2011 0 0),(6,.fn (.func 331) [.rptr [.L iF v11]])] [(2011,vR (.nl) 1)]) ?_;refine bL (fn:=Tryz.f331) (N1:=20) J Tryz.func331 J J nl J OZ J J (λl17 e18 o19 hR20=>?_);refine S3 1 J<|nL J l6<|S2 1 J<|k8<|lq h (λq=>St.of [(1000003,.ptr 2011 0 0),(1000006,.fn (.func 331) [.rptr [.L iF v11]]),(0,.fn (.yield l17) []),(5,.L iF v11),(6,.I (v11.length:Int)),(7,.I q.1)] [(2011,vS (.sl 912511) 1),(912511,⟨List.map iF q.2,(List.map iF q.2).length,true,1,true⟩)]) (Wk.trans (uv (l0:=2011) (j:=0) (l:=922511) (z:=1) J J J J J) (WP (λl=>if l=912511 then 922511 else l))) λq16 x15 h hx23=>?_;obtain⟨s13,s14⟩:=q16;refine S4 1 J<|k9 ?_;refine cN h (λhc h=>?_) λhc h=>?_
  .refine c7 ?_;refine k9<|k8<|sR<|iL h J J l6 o5 λv17 _ h=>S2 2 J<|S3 3 J<|m8 J (λhg=>om (d:=.fn (.yield l17) []) J)<|m8 J (λhg=>mI J) ?_;rcases zay ((v17 != 0)==true) with hg25 | hg25
   .have h:=Sj h hg25;refine O2 (rU (λl=>if l=2019 then 912511 else l) [(1000003,.ptr 2011 0 0),(1000006,.fn (.func 331) [.rptr [.L iF v11]]),(0,.fn (.yield l17) []),(5,.L iF v11),(6,.I (v11.length:Int)),(7,.I s13),(13,.bool (v17 != 0)),(14,.fn (.yield l17) []),(15,.I v17)] [(2011,vS (.sl 2019) 1),(2019,⟨List.map iF s14,(List.map iF s14).length,true,1,true⟩)]) ?_;refine jb hR20 (zW some hg25) J J J J J (λe26 o27 o28=>?_);refine S6 1 J ?_;refine⟨J,?_⟩;refine k8<|S5 2 J<|y0 J (I5 (f:=iF) (l:=[v17]) J l6 o5 B8 J J nl J J)<|x8 h λv18 hv29 h=>J5 J (I4 (f:=iF) hv29 J J J J J J (.inl ⟨_,J,J⟩) l6 o5 Q0 B8 J (λ_=>J)) J J J<|S2 1 J ?_;refine⟨J,?_⟩;refine O2 (rU (λl=>if l=2020 then 11 else l) [(1000003,.ptr 2011 0 0),(1000006,.fn (.func 331) [.rptr [.L iF v11]]),(0,.fn (.yield l17) []),(5,.L iF v11),(6,.I (v11.length:Int)),(7,.I s13),(13,.bool (v17 != 0)),(16,.bool true)] [(2011,vS (.sl 2020) 1),(2020,⟨List.map iF v18,s14.length,true,1,true⟩)])<|y0 (zW some hg25) (fN J J)<|y0 J (kI J J hg25)<|yN ?_;refine G5 false J (λq=>nomatch q) (λ_=>?_);refine c7<|S6 2 J ?_;exact eL h (Wk.trans (m9 _ [2020]) (WP (λl=>if l=912511 then 2020 else l)))
   .have h:=Si h hg25;refine cR (zW some hg25)<|cR (zW some hg25)<|y0 J (ng J J hg25)<|yN ?_;refine G5 false J (λq=>nomatch q) (λ_=>?_);refine c7<|S6 2 J ?_;exact eL h (Wk.trans (m9 _ [912511]) W)
  .refine o6 ?_;refine g6<|g6<|l7 ?_;refine .inl ⟨J,?_⟩;have h:=xL hx23 h;exact eJ h (Wk.trans (m9 _ [912511]) (WP (λl=>if l=2001 then 2011 else if l=912501 then 912511 else l)))
theorem uK{a0 a1}:PO Tryz.prog 226 [.L e6.Pv a0,.L iF a1] (aO a0 a1) λr=>.tup [.L e6.Pv r.1,.L iF r.2]:=by
 refine pO Tryz.func226 λr h _ _=>?_;refine S4 2 J<|S4 1 J ?_;refine jq h (λq=>St.of [(0,.L e6.Pv q.1),(6,.sl 910006)] [(910006,⟨List.map iF q.2,(List.map iF q.2).length,true,1,true⟩)]) (λq20 h=>?_) λκ17 h=>?_
 .obtain⟨j18,j19⟩:=q20;refine S4 4 J<|c5 ?_;cases h;exact f2
 .refine S3 1 J ?_;refine nL J l6<|S2 1 J<|k8<|lq h (λq=>St.of [(0,.L e6.Pv q.1),(6,.sl 910006),(12,.L iF a1),(13,.I (a1.length:Int)),(14,.I q.2.1)] [(910006,⟨List.map iF q.2.2,(List.map iF q.2.2).length,true,1,true⟩)]) (Wk.trans (G3 (t:=6) (l:=920006) (z:=1) J J) (WP (λl=>if l=910006 then 920006 else l))) λq26 x25 h hx14=>?_;obtain⟨s22,s23,s24⟩:=q26;refine S4 1 J<|k9 ?_;refine cN h (λhc h=>?_) λhc h=>?_
  .refine c7 ?_;refine jq h (λq=>St.of [(0,.L e6.Pv q.1),(6,.sl 31),(12,.L iF a1),(13,.I (a1.length:Int)),(14,.I s23)] [(31,⟨List.map iF q.2,(List.map iF q.2).length,true,1,true⟩)]) (λq33 h=>?_) λκ30 h=>?_
   .obtain⟨j31,j32⟩:=q33;refine S6 2 J ?_;exact eL h (Wk.trans (m9 _ [31]) (WP (λl=>if l=910006 then 31 else l)))
   .refine k8 ?_;refine sR<|iL h J J l6 o5 λv34 _ h=>S2 2 J<|S3 2 J<|cF h sP J J λv35 _ h=>S2 7 J<|S4 2 J ?_;refine cN h (λhc h=>?_) λhc h=>?_
    .refine S5 3 J ?_;refine y0 J (I5 (f:=iF) (l:=[v35.2.1]) J l6 o5 B8 J J nl J J)<|x8 h λv36 hv21 h=>J5 J (I4 (f:=iF) hv21 J J J J J J (.inl ⟨_,J,J⟩) l6 o5 Q0 B8 J (λ_=>J)) J J J<|S2 2 J ?_;exact eJ h (Wk.trans (m9 _ [31]) W)
    .refine c7 ?_;exact eJ h (Wk.trans (m9 _ [910006]) (WP (λl=>if l=31 then 910006 else l)))
  .refine o6 ?_;refine g6<|g6<|l7 ?_;have h:=xL hx14 h;exact eJ h (Wk.trans (m9 _ [910006]) W)
theorem ny{a0 a1}:PO Tryz.prog 292 [l4.Pv a0,.I a1] (Y0 a0 a1) λr=>.tup [l4.Pv r.1,.I r.2]:=by
 refine pO Tryz.func292 λr h _ _=>?_;refine S4 3 J<|S3 2 J<|cF h fP J J λv1 _ h=>S2 6 J<|k9<|S4 2 J ?_;refine cN h (λhc h=>?_) λhc h=>?_
 .refine S4 4 J ?_;refine c5 ?_;cases h;exact⟨J,[_,_],⟨oL J J J ic eD nl J,⟨J,tr⟩⟩,J,io⟩
 .refine c7 ?_;refine dr [] s6 (by kernel_rfl) (by kernel_rfl)<|S7 2 J<|x8 h λv2 hv2 h=>d2 J (T1 J oQ J hv2) J<|S7 1 J<|x8 h λv3 hv3 h=>d2 J (T1 J qK J hv3) J<|S7 1 J<|d7 J (λ_ hN=>p6 (cs:=[.I 2,.I v3,.I v1.1.Serial,.I v1.1.Strong,.I v1.1.Weak,.I v1.1.Prog,.bool v1.1.Started,.L iF v1.1.Fields]) J wJ pM J J J) J<|x8 h λv4 hv4 h=>fI J (w7 J L2 J hv4) J<|D1 (x':=l4.Pv v4) (cl':=true) J J (.inr J) eD<|S8 1 J<|c5 ?_;cases h;exact⟨J,[_,_],⟨oL J J J ic eD nl J,⟨J,tr⟩⟩,J,io⟩
theorem vr{a0 a1}:PO Tryz.prog 227 [b9.Pv a0,.I a1] (aX a0 a1) λr=>b9.Pv r:=by
 refine pO Tryz.func227 λr h _ _=>?_;refine S4 2 J<|S3 3 J<|cF h C5 J J λv1 _ h=>S2 6 J<|S3 1 J<|kM (x':=.agg [.I v1.1.Serial,.I v1.1.Strong,.I v1.1.Weak,.I v1.1.Prog,.bool v1.1.Started,.nl]) (cl':=true) J J (.inl J) bC<|S1 1 J<|kM (x':=.agg [.I v1.1.Serial,.I 0,.I v1.1.Weak,.I v1.1.Prog,.bool v1.1.Started,.nl]) (cl':=true) J J (.inl J) o5<|yN<|S3 4 J<|cF h cy J J λv2 _ h=>S2 5 J<|S3 4 J<|cF h ny J J λv3 _ h=>S2 6 J<|k9<|S4 3 J ?_;refine cN h (λhc h=>?_) λhc h=>?_
 .refine S5 4 J ?_;refine cF h fB J J λv4 _ h=>S2 6 J<|S4 2 J<|c5 ?_;cases h;exact⟨J,[_],⟨oL J J J u5 p7 nl J,tr⟩,J,io⟩
 .refine c7 ?_;refine S4 2 J<|c5 ?_;cases h;exact⟨J,[_],⟨oL J J J u5 p7 nl J,tr⟩,J,io⟩
theorem pA{a0 a1}:PO Tryz.prog 128 [b9.Pv a0,.L iF a1] (bQ a0 a1) λr=>b9.Pv r:=by
 refine pO Tryz.func128 λr h _ _=>?_;refine S4 2 J<|S3 2 J<|cF h qx J J λv1 _ h=>S2 1 J<|S3 2 J<|cF h uc J J λv2 _ h=>S2 1 J<|S4 1 J<|S4 2 J ?_;refine jq h (λj13=>St.of [(2,.ptr 2 0 0),(4,.ptr 4 0 0),(5,.L iF v1),(6,.ptr 6 0 0),(7,.fn (.func 224) [.ptr 6 0 0])] [(6,vS (.sl 910506) 1),(910506,⟨List.map iF j13,(List.map iF j13).length,true,1,true⟩),(4,vR (.agg [.nl,.I 0,.I 0,.nl,.nl,.nl,.nl,.I 0]) 8),(2,vR (b9.Pv v2) 8)]) (λj13 h=>?_) λκ12 h=>?_
 .refine S3 3 J ?_;refine cF h uK J J λv14 _ h=>S2 5 J<|S3 2 J<|O2 (rU (λl=>if l=2025 then 6 else if l=2026 then 4 else if l=2027 then 2 else if l=2028 then 910506 else l) [(2,.ptr 2027 0 0),(4,.ptr 2026 0 0),(5,.L iF v1),(6,.ptr 2025 0 0),(12,.L e6.Pv v14.1),(51,.fn (.func 224) [.ptr 2025 0 0]),(52,.L iF v14.2)] [(2025,vS (.sl 2028) 1),(2028,⟨List.map iF j13,(List.map iF j13).length,true,1,true⟩),(2026,vR (.agg [.nl,.I 0,.I 0,.nl,.nl,.nl,.nl,.I 0]) 8),(2027,vR (b9.Pv v2) 8)]) ?_;refine uy (fn:=Tryz.f224) (N1:=6) J J Tryz.func224 J Hs J J nl (λe14 o15=>?_);refine S5 2 J<|x8 h λv15 hv16 h=>J5 J (I4 (f:=iF) hv16 J J J J J J (.inl ⟨_,J,J⟩) l6 o5 Q0 B8 J (λ_=>J)) J J J<|S2 1 J ?_;refine⟨J,[],tr,?_⟩;refine O2 (rU (λl=>if l=2029 then 5 else l) [(2,.ptr 2027 0 0),(4,.ptr 2026 0 0),(5,.L iF v1),(6,.ptr 2025 0 0),(12,.L e6.Pv v14.1)] [(2025,vS (.sl 2029) 1),(2029,⟨List.map iF v15,j13.length,true,1,true⟩),(2026,vR (.agg [.nl,.I 0,.I 0,.nl,.nl,.nl,.nl,.I 0]) 8),(2027,vR (b9.Pv v2) 8)])<|yN<|S4 3 J ?_;refine jq h (λj24=>St.of [(2,.ptr 2027 0 0),(4,.ptr 2026 0 0),(6,.ptr 2025 0 0)] [(2025,vS (.sl 2029) 1),(2029,⟨List.map iF v15,j13.length,true,1,true⟩),(2026,vR (.agg [.nl,.I 0,.I 0,.nl,.nl,.nl,.nl,.I 0]) 8),(2027,vR (b9.Pv j24) 8)]) (λj24 h=>?_) λκ23 h=>?_
  .refine jq h (λj33=>St.of [(2,.ptr 2027 0 0),(4,.ptr 2026 0 0)] [(2026,vR (.agg [.nl,.I 0,.I 0,.nl,.nl,.nl,.nl,.I 0]) 8),(2027,vR (b9.Pv j33) 8)]) (λj33 h=>?_) λκ32 h=>?_
   .refine S4 2 J ?_;refine c5 ?_;cases h;exact⟨J,[_],⟨oL J J J u5 p7 nl J,tr⟩,J,io⟩
   .refine S3 1 J ?_;refine y0 J (II (f:=iF) J J J l6)<|S2 1 J<|k8<|lq h (λq=>St.of [(2,.ptr 2027 0 0),(4,.ptr 2026 0 0),(66,.sl 2029),(67,.I (v15.length:Int)),(68,.I q.1)] [(2029,⟨List.map iF v15,j13.length,true,1,true⟩),(2026,vR (.agg [.nl,.I 0,.I 0,.nl,.nl,.nl,.nl,.I 0]) 8),(2027,vR (b9.Pv q.2) 8)]) W λq38 x37 h hx31=>?_;obtain⟨s35,s36⟩:=q38;refine S4 1 J<|k9 ?_;refine cN h (λhc h=>?_) λhc h=>?_
    .refine c7 ?_;refine k9<|k8<|sR<|x8 h λv39 hv32 h=>y0 J (aN (f:=iF) hv32 J J J J l6 o5 J)<|y0 J (EF (f:=iF) hv32 J J J F3 J)<|S2 1 J<|S5 2 J<|cF h aJ J J λv40 _ h=>S2 1 J<|S6 2 J ?_;exact eL h W
    .refine o6 ?_;refine g6<|g6<|l7 ?_;have h:=xL hx31 h;exact eJ h W
  .refine S3 1 J ?_;refine nL J l6<|S2 1 J<|k8<|lq h (λq=>St.of [(2,.ptr 2027 0 0),(4,.ptr 2026 0 0),(6,.ptr 2025 0 0),(56,.L iF v1),(57,.I (v1.length:Int)),(58,.I q.1)] [(2025,vS (.sl 2029) 1),(2029,⟨List.map iF v15,j13.length,true,1,true⟩),(2026,vR (.agg [.nl,.I 0,.I 0,.nl,.nl,.nl,.nl,.I 0]) 8),(2027,vR (b9.Pv q.2) 8)]) W λq45 x44 h hx36=>?_;obtain⟨s42,s43⟩:=q45;refine S4 1 J<|k9 ?_;refine cN h (λhc h=>?_) λhc h=>?_
   .refine c7 ?_;refine k9<|k8<|sR<|iL h J J l6 o5 λv46 _ h=>S2 2 J<|S5 2 J<|cF h vr J J λv47 _ h=>S2 1 J<|S6 2 J ?_;exact eL h W
   .refine o6 ?_;refine g6<|g6<|l7 ?_;have h:=xL hx36 h;exact eJ h W
 .refine S3 1 J ?_;refine nL J l6<|S2 1 J<|k8<|lq h (λq=>St.of [(2,.ptr 2 0 0),(4,.ptr 4 0 0),(5,.L iF v1),(6,.ptr 6 0 0),(7,.fn (.func 224) [.ptr 6 0 0]),(25,.L iF v1),(26,.I (v1.length:Int)),(27,.I q.1)] [(6,vS (.sl 910506) 1),(4,vR (.agg [.nl,.I 0,.I 0,.nl,.nl,.nl,.nl,.I 0]) 8),(2,vR (b9.Pv v2) 8),(910506,⟨List.map iF q.2,(List.map iF q.2).length,true,1,true⟩)]) (Wk.trans (uv (l0:=6) (j:=0) (l:=920506) (z:=1) J J J J J) (WP (λl=>if l=910506 then 920506 else l))) λq52 x51 h hx41=>?_;obtain⟨s49,s50⟩:=q52;refine S4 1 J<|k9 ?_;refine cN h (λhc h=>?_) λhc h=>?_
  .refine c7 ?_;refine k9<|k8<|sR<|iL h J J l6 o5 λv53 _ h=>S2 2 J<|S3 3 J<|cF h C5 J J λv54 _ h=>S2 6 J<|S5 3 J<|cF h um J J λv55 _ h=>O2 (rU (λl=>if l=2049 then 6 else if l=2050 then 4 else if l=2051 then 2 else if l=2052 then 910506 else l) [(2,.ptr 2051 0 0),(4,.ptr 2050 0 0),(5,.L iF v1),(6,.ptr 2049 0 0),(7,.fn (.func 224) [.ptr 2049 0 0]),(25,.L iF v1),(26,.I (v1.length:Int)),(27,.I s49),(38,.fn (.func 224) [.ptr 2049 0 0]),(41,.L iF v55)] [(2049,vS (.sl 2052) 1),(2052,⟨List.map iF s50,(List.map iF s50).length,true,1,true⟩),(2050,vR (.agg [.nl,.I 0,.I 0,.nl,.nl,.nl,.nl,.I 0]) 8),(2051,vR (b9.Pv v2) 8)]) ?_;refine uy (fn:=Tryz.f224) (N1:=6) J J Tryz.func224 J Hs J J nl (λe45 o46=>?_);refine S5 2 J<|x8 h λv56 hv47 h=>J5 J (I4 (f:=iF) hv47 J J J J J J (.inl ⟨_,J,J⟩) l6 o5 Q0 B8 J (λ_=>J)) J J J<|S2 1 J ?_;refine⟨J,[],tr,?_⟩;refine O2 (rU (λl=>if l=2053 then 5 else l) [(2,.ptr 2051 0 0),(4,.ptr 2050 0 0),(5,.L iF v1),(6,.ptr 2049 0 0),(7,.fn (.func 224) [.ptr 2049 0 0]),(25,.L iF v1),(26,.I (v1.length:Int)),(27,.I s49)] [(2049,vS (.sl 2053) 1),(2053,⟨List.map iF v56,s50.length,true,1,true⟩),(2050,vR (.agg [.nl,.I 0,.I 0,.nl,.nl,.nl,.nl,.I 0]) 8),(2051,vR (b9.Pv v2) 8)])<|yN<|S6 2 J ?_;exact eL h (Wk.trans (m9 _ [2053]) (WP (λl=>if l=2 then 2051 else if l=4 then 2050 else if l=6 then 2049 else if l=910506 then 2053 else l)))
  .refine o6 ?_;refine g6<|g6<|l7 ?_;have h:=xL hx41 h;exact eJ h (Wk.trans (m9 _ [910506]) W)
theorem cv{a0}:PO Tryz.prog 124 [b9.Pv a0] (R2 a0) λr=>b9.Pv r:=by
 refine pO Tryz.func124 λr h _ _=>?_;refine S4 2 J<|Yo h (λs2=>St.of [(1,.ptr 1 0 0),(2,.ptr 2 0 0)] [(2,vR (.agg [.nl,.I 0,.I 0,.nl,.nl,.nl,.nl,.I 0]) 8),(1,vR (b9.Pv s2) 8)]) W λs2 x3 h hx3=>S3 1 J<|cF h yR J J λv4 _ h=>S2 1 J<|k9<|S3 1 J<|nL J l6<|S2 1 J ?_;refine cN h (λhc h=>?_) λhc h=>?_
 .refine S4 2 J ?_;refine c5 ?_;have h:=xL hx3 h;cases h;exact⟨J,[_],⟨oL J J J u5 p7 nl J,tr⟩,J,io⟩
 .refine c7 ?_;refine k9<|dr [] s6 (by kernel_rfl) (by kernel_rfl)<|S7 3 J<|x8 h λv5 hv5 h=>d0 J (K1 (f:=iF) (cs:=[.I v5]) hv5 J J l6 o5 J J) J<|S7 1 J<|x8 h λv6 hv6 h=>fI J (w7 J C5 J hv6) J<|S7 4 J<|D1 (x':=n7.Pv v6.1) (cl':=true) J J (.inr J) kg<|S8 1 J<|S3 1 J<|cA h kJ J J λv7 _ h=>yN ?_;refine cN h (λhc h=>?_) λhc h=>?_
  .refine CR [] s6 (by kernel_rfl) (by kernel_rfl) ?_;refine S7 2 J<|d0 J (K1 (f:=iF) (cs:=[.I v5]) hv5 J J l6 o5 J J) J<|S7 1 J<|x8 h λv8 hv8 h=>fI J (w7 J mb J hv8) J<|D1 (x':=b9.Pv v8) (cl':=true) J J (.inr J) p7<|J0<|IV ?_;exact eS h W
  .refine CR [] s6 (by kernel_rfl) (by kernel_rfl) ?_;refine S7 2 J<|x8 h λv9 hv9 h=>d0 J (Up (f:=iF) hv9 J J ⟨_,J⟩ l6 o5 (λ_=>J)) J<|x8 h λv10 hv10 h=>fI J (w7 J pA J hv10) J<|D1 (x':=b9.Pv v10) (cl':=true) J J (.inr J) p7<|J0<|IV ?_;exact eS h W
theorem tz{a0 a1}:PO Tryz.prog 70 [b9.Pv a0,.I a1] (eT a0 a1) λr=>.I r:=by
 refine pO Tryz.func70 λr h _ _=>?_;refine S4 2 J<|S3 3 J<|cF h C5 J J λv1 _ h=>S2 6 J<|S4 3 J<|c5 ?_;cases h;exact f1
theorem kV{a0 a1}:PO Tryz.prog 215 [b9.Pv a0,.I a1] (dF a0 a1) λr=>.I r:=by
 refine pO Tryz.func215 λr h _ _=>?_;unfold dF at h;refine S4 2 J<|dr [] s6 (by kernel_rfl) (by kernel_rfl)<|S7 3 J<|x8 h λv1 hv1 h=>d2 J (T1 J P8 J hv1) J<|x8 h λv2 hv2 h=>d2 J (T1 J tz J hv2) J<|S8 1 J<|c5 ?_;cases h;exact f1
theorem tA{a0 a1 a2}:PO Tryz.prog 125 [b9.Pv a0,b9.Pv a1,g7.Pv a2] (Z0 a0 a1 a2) λr=>.I r:=by
 refine pO Tryz.func125 λr h _ _=>?_;refine S4 4 J<|k9<|S4 2 J<|k8<|S4 2 J ?_;refine cN h (λhc h=>?_) λhc h=>?_
 .refine S3 3 J ?_;refine cA h kV J J λv1 _ h=>S2 1 J<|c5 ?_;cases h;exact f1
 .refine jq h (λj3=>St.of [(3,.ptr 3 0 0),(4,.ptr 4 0 0),(5,.ptr 5 0 0),(8,.I a2.Kind),(15,.bool j3)] [(5,vR (g7.Pv a2) 4),(4,vR (b9.Pv a1) 8),(3,vR (b9.Pv a0) 8)]) (λj3 h=>?_) λκ2 h=>?_
  .refine cN h (λhc h=>?_) λhc h=>?_
   .refine S3 3 J ?_;refine cA h kV J J λv4 _ h=>S2 1 J<|c5 ?_;cases h;exact f1
   .refine S4 2 J ?_;refine cN h (λhc h=>?_) λhc h=>?_
    .refine k9 ?_;refine dr [] s6 (by kernel_rfl) (by kernel_rfl)<|S7 3 J<|x8 h λv5 hv4 h=>d2 J (T1 J P8 J hv4) J<|S7 3 J<|x8 h λv6 hv5 h=>d2 J (T1 J P8 J hv5) J<|S8 1 J ?_;refine cN h (λhc h=>?_) λhc h=>?_
     .refine S4 1 J ?_;refine c5 ?_;cases h;exact f1
     .refine c7 ?_;refine S4 1 J<|c5 ?_;cases h;exact f1
    .refine c7 ?_;refine S3 3 J<|cA h kV J J λv7 _ h=>S2 1 J<|c5 ?_;cases h;exact f1
  .refine S4 2 J ?_;refine cN h (λhc h=>?_) λhc h=>?_
   .refine c7 ?_;exact eJ h W
   .refine S6 2 J ?_;exact eJ h W
theorem qO{a0 a1}:PO Tryz.prog 65 [b9.Pv a0,g7.Pv a1] (u4 a0 a1) λr=>.tup [b9.Pv r.1,.I r.2.1,.I r.2.2]:=by
 refine pO Tryz.func65 λr h _ _=>?_;refine S4 5 J<|k9<|S3 1 J<|cA h kO J J λv1 _ h=>S2 1 J<|S4 2 J ?_;refine cN h (λhc h=>?_) λhc h=>?_
 .refine S4 5 J ?_;refine c5 ?_;cases h;exact⟨J,[_,_,_],⟨oL J J J u5 p7 nl J,⟨J,⟨J,tr⟩⟩⟩,J,io⟩
 .refine c7 ?_;refine dr [] s6 (by kernel_rfl) (by kernel_rfl)<|x8 h λv2 hv2 h=>fI J (w7 J uV J hv2) J<|S7 2 J<|d4 J (WB (es:=v2) (k:=a1.Kind) (E:=sM) (EK:=iF) (d:=.tup [sM ((y9 v2 a1.Kind).getD (none:Fv)),.bool ((y9 v2 a1.Kind).isSome)]) J J bA (w9 H7) Py J (Yh _ _ _)) J<|S8 5 J<|k9<|S4 2 J ?_;refine cN h (λhc h=>?_) λhc h=>?_
  .refine S4 4 J ?_;refine c5 ?_;cases h;exact⟨J,[_,_,_],⟨oL J J J u5 p7 nl J,⟨J,⟨J,tr⟩⟩⟩,J,io⟩
  .refine c7 ?_;refine S3 3 J<|y0 J (p6 (cs:=[.L c8.Pv a0.S.S.b7,.I a0.S.S.Last,.I a0.S.Serial,.L iF a0.Roots,.L k7.Pv a0.b7,.L e6.Pv a0.T,.L g5.Pv a0.Q.L,.I a0.Q.Cap,.I a1.Kind,.I a1.A,.I a1.B,.I a1.C]) J Pn Pz J J J) ?_;obtain⟨v3,hv3,h⟩:=sj h;obtain⟨n4,he4,hk5,hp6⟩:=Gv hv3;refine O2 (SF 30 J he4)<|yc J (CH J hk5 J hp6)<|S2 6 J<|k9<|S4 2 J ?_;refine cN h (λhc h=>?_) λhc h=>?_
   .refine S4 5 J ?_;refine c5 ?_;cases h;exact⟨J,[_,_,_],⟨oL J J J u5 p7 nl J,⟨J,⟨J,tr⟩⟩⟩,J,io⟩
   .refine c7 ?_;refine S3 1 J<|cF h cv J J λv5 _ h=>S2 2 J<|dr [] s6 (by kernel_rfl) (by kernel_rfl)<|S7 4 J<|x8 h λv6 hv8 h=>d2 J (T1 J tA J hv8) J<|D1 (x':=b9.Pv v5) (cl':=true) J J (.inr J) p7<|S8 2 J<|c5 ?_;cases h;exact⟨J,[_,_,_],⟨oL J J J u5 p7 nl J,⟨J,⟨J,tr⟩⟩⟩,J,io⟩
theorem AN{a0}:PO Tryz.prog 376 [b6.Pv a0] (np a0) λr=>.fn (.func 381) [.rptr (b6.Pc r)]:=by
 refine pO Tryz.func376 λr h _ _=>?_;unfold np at h;refine S4 2 J<|S4 2 J<|c5 ?_;cases h;exact f1
theorem vL{a0 a1}:PO Tryz.prog 368 [b6.Pv a0,.I a1] (lW a0 a1) λr=>.L iF r:=by
 refine pO Tryz.func368 λr h _ _=>?_;refine S4 2 J<|S3 2 J<|cF h C5 J J λv1 _ h=>S2 6 J<|S3 2 J<|cF h um J J λv2 _ h=>S2 1 J<|c5 ?_;cases h;exact f1
end Go.Proofs.YtmgbbnfgfmfgaaaGreat.Ok
