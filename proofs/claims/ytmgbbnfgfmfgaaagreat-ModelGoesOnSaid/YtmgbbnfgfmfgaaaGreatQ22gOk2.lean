/- A part. -/
import Derived.Test.YtmgbbnfgfmfgaaaGreatQ22gOk1
set_option linter.unusedVariables false
set_option linter.unusedSimpArgs false
set_option linter.unusedSectionVars false
namespace Go.Proofs.YtmgbbnfgfmfgaaaGreat.Ok
open Go Go.Pw Go.Sh Go.Proofs
set_option maxRecDepth 100000
set_option maxHeartbeats 4000000
theorem rK{a0 a1}:PO Tryz.prog 175 [g8.Pv a0,.I a1] (aS a0 a1) λr=>.bool r:=by
 refine pO Tryz.func175 λr h _ _=>?_;refine S4 3 J ?_;refine jq h (λ_=>St.of [(4,.ptr 2001 0 0)] [(2001,vR (.bool false) 1)]) (λq7 h=>?_) λκ6 h=>?_
 .refine S4 1 J ?_;refine c5 ?_;cases h;exact⟨J,[_],⟨oS J J J kJ J,tr⟩,J,io⟩
 .refine S3 1 J ?_;refine cF h AL J J λv8 _ h=>yN<|j5<|bM (sP (λl=>if l=2003 then 4 else if l=2004 then 3 else l) [(3,.ptr 2004 0 0),(4,.ptr 2003 0 0),(7,.fn (.func 277) [.rptr (g8.Pc v8.1),.rptr [.I v8.2]])] [(2003,vR (.bool false) 1),(2004,vR (.I a1) 1)]) ?_;refine bX (fn:=Tryz.f277) (N1:=24) J Tryz.func277 J J nl J IW J J (λl16 e17 o18 hR19=>?_);refine S3 2 J<|nL J J2<|S2 1 J<|j5<|lq h (λs10=>St.of [(1000003,.ptr 2004 0 0),(1000004,.ptr 2003 0 0),(1000007,.fn (.func 277) [.rptr (g8.Pc v8.1),.rptr [.I v8.2]]),(0,.fn (.yield l16) []),(2,.rptr [.I v8.2]),(7,.L g5.Pv v8.1.L),(8,.I (v8.1.L.length:Int)),(9,.I s10)] [(2003,vR (.bool false) 1),(2004,vR (.I a1) 1)]) W λs10 x11 h hx22=>S4 1 J<|k9 ?_;refine cN h (λhc h=>?_) λhc h=>?_
  .refine c7 ?_;refine k9<|j5<|sR<|iL h J J J2 D0 λv12 _ h=>S2 3 J<|S3 5 J<|m7 J (λhg=>om (d:=.fn (.yield l16) []) J)<|m7 J (λhg=>oL J J J cq D0 nl J) ?_;rcases zaq ((v12.Kind==v8.2)==true) with hg24 | hg24
   .have h:=Se h hg24;refine O5 (WE [(1000003,.ptr 2004 0 0),(1000004,.ptr 2003 0 0),(1000007,.fn (.func 277) [.rptr (g8.Pc v8.1),.rptr [.I v8.2]]),(0,.fn (.yield l16) []),(2,.rptr [.I v8.2]),(7,.L g5.Pv v8.1.L),(8,.I (v8.1.L.length:Int)),(9,.I s10),(17,.bool (v12.Kind==v8.2)),(18,.fn (.yield l16) []),(19,g5.Pv v12)] [(2003,vR (.bool false) 1),(2004,vR (.I a1) 1)]) ?_;refine ju hR19 (zP some hg24) J J J J J (λe25 o26 o27=>?_);refine S6 2 J ?_;refine⟨J,?_⟩;refine j5<|S4 4 J ?_;refine cN h (λhc h=>?_) λhc h=>?_
    .refine S4 1 J ?_;refine c5 ?_;refine⟨J,?_⟩;refine O5 (WE [(1000003,.ptr 2004 0 0),(1000004,.ptr 2003 0 0),(1000007,.fn (.func 277) [.rptr (g8.Pc v8.1),.rptr [.I v8.2]]),(0,.fn (.yield l16) []),(2,.rptr [.I v8.2]),(7,.L g5.Pv v8.1.L),(8,.I (v8.1.L.length:Int)),(9,.I s10),(17,.bool (v12.Kind==v8.2)),(20,.bool false)] [(2003,vR (.bool true) 1),(2004,vR (.I a1) 1)])<|y0 (zP some hg24) (cV J J)<|y0 J (ji J J hg24)<|yN ?_;refine H6 true J (λ_=>?_) (λq=>nomatch q);refine c5 ?_;refine .inr ⟨.ret,J,Si ?_⟩;have h:=xL hx22 h;cases h;exact⟨J,[_],⟨oS J J J kJ J,tr⟩,J,io⟩
    .refine c7 ?_;refine⟨J,?_⟩;refine O5 (WE [(1000003,.ptr 2004 0 0),(1000004,.ptr 2003 0 0),(1000007,.fn (.func 277) [.rptr (g8.Pc v8.1),.rptr [.I v8.2]]),(0,.fn (.yield l16) []),(2,.rptr [.I v8.2]),(7,.L g5.Pv v8.1.L),(8,.I (v8.1.L.length:Int)),(9,.I s10),(17,.bool (v12.Kind==v8.2)),(20,.bool true)] [(2003,vR (.bool false) 1),(2004,vR (.I a1) 1)])<|y0 (zP some hg24) (cV J J)<|y0 J (ji J J hg24)<|yN ?_;refine H6 false J (λq=>nomatch q) (λ_=>?_);refine c7<|S6 2 J ?_;exact eL h W
   .have h:=Sd h hg24;refine df (zP some hg24)<|df (zP some hg24)<|y0 J (jh J J hg24)<|yN ?_;refine H6 false J (λq=>nomatch q) (λ_=>?_);refine c7<|S6 2 J ?_;exact eL h W
  .refine o0 ?_;refine c8<|c8<|l6 ?_;refine .inl ⟨J,?_⟩;have h:=xL hx22 h;exact eJ h (WP (λl=>if l=2001 then 2003 else l))
theorem xc{a0 a1}:PO Tryz.prog 272 [.L k8.Pv a0,.I a1] (ko a0 a1) λr=>.bool r:=by
 refine pO Tryz.func272 λr h _ _=>?_;unfold ko at h;refine S4 1 J<|S3 3 J<|m7 J (λhg=>mI J)<|m7 J (λhg=>om (d:=.L k8.Pv a0) J)<|m7 J (λhg=>bW (f:=k8.Pv) (ct hg) R6)<|m7 J (λhg=>D6 (ct hg) (ct hg) J)<|y0 J (C9 J J J (λq=>jM q))<|S2 1 J<|c5 ?_;cases h;exact f1
theorem xb{a0 a1 a2 a3}:PO Tryz.prog 176 [.L k8.Pv a0,.I a1,.I a2,.I a3] (km a0 a1 a2 a3) λr=>.tup [.L k8.Pv r.1,.I r.2.1,.I r.2.2]:=by
 refine pO Tryz.func176 λr h _ _=>?_;refine S4 3 J<|k9<|S3 2 J<|cA h xc J J λv1 _ h=>S2 1 J ?_;refine cN h (λhc h=>?_) λhc h=>?_
 .refine S4 4 J ?_;refine c5 ?_;cases h;exact f3
 .refine c7 ?_;refine S3 1 J<|w7 h λv2 hv2 h=>KW J (gb J oC J hv2) J J<|S2 1 J<|S3 6 J<|y0 J (o7 (cs:=[.I a2,.bool (a2 != 0),.I a3]) J Rc CR J J J)<|w7 h λv3 hv3 h=>y0 J (ba (f:=k8.Pv) hv3 J J J J R6 V6 J)<|oE (f:=k8.Pv) (v:=(⟨a2,(a2 != 0),a3⟩:k8)) hv3 J J (.inl J) V6<|yN<|dr [] s6 (by kernel_rfl) (by kernel_rfl)<|S7 3 J<|w7 h λv4 hv4 h=>d0 J (J9 (f:=k8.Pv) (cs:=k8.Pc v4) hv4 J J R6 V6 J J) J<|S8 5 J<|c5 ?_;cases h;exact f3
theorem ux{a0 a1 a2}:PO Tryz.prog 93 [a8.Pv a0,.I a1,g9.Pv a2] (fH a0 a1 a2) λr=>.tup [a8.Pv r.1,.I r.2]:=by
 refine pO Tryz.func93 λr h _ _=>?_;refine S4 4 J<|k9<|S3 4 J<|m7 J (λhg=>mI J)<|m7 J (λhg=>D6 (ct hg) J J)<|y0 J (C9 J J J (λq=>jM q))<|yN ?_;refine cN h (λhc h=>?_) λhc h=>?_
 .refine S4 3 J ?_;refine c5 ?_;cases h;exact⟨J,[_,_],⟨oL J J J z7 u9 nl J,⟨J,tr⟩⟩,J,io⟩
 .refine c7 ?_;refine k9<|dr [] s6 (by kernel_rfl) (by kernel_rfl)<|S7 1 J<|w7 h λv1 hv1 h=>dR J (u5 J cK J hv1) J<|S7 2 J<|w7 h λv2 hv2 h=>d2 J (M0 J rK J hv2) J<|J7 ?_;refine cN h (λhc h=>?_) λhc h=>?_
  .refine S4 3 J ?_;refine c5 ?_;cases h;exact⟨J,[_,_],⟨oL J J J z7 u9 nl J,⟨J,tr⟩⟩,J,io⟩
  .refine c7 ?_;refine S3 7 J<|cF h xb J J λv3 _ h=>S2 7 J<|k9<|S4 2 J ?_;refine cN h (λhc h=>?_) λhc h=>?_
   .refine S4 4 J ?_;refine c5 ?_;cases h;exact⟨J,[_,_],⟨oL J J J z7 u9 nl J,⟨J,tr⟩⟩,J,io⟩
   .refine c7 ?_;refine S4 3 J<|S3 2 J<|cF h kY J J λv4 _ h=>S2 2 J<|c5 ?_;cases h;exact⟨J,[_,_],⟨oL J J J z7 u9 nl J,⟨J,tr⟩⟩,J,io⟩
theorem fI{a0 a1 a2}:PO Tryz.prog 90 [a8.Pv a0,.I a1,g9.Pv a2,.fn (.func 93) []] (J5 a0 a1 a2) λr=>.tup [a8.Pv r.1,g7.Pv r.2]:=by
 refine pO Tryz.func90 λr h _ _=>?_;refine S4 4 J<|S3 4 J<|cF h ux J J λv1 _ h=>S2 6 J<|k9<|S4 2 J ?_;refine cN h (λhc h=>?_) λhc h=>?_
 .refine S3 2 J ?_;refine y0 J (o7 (cs:=[.I 0,.I v1.2]) J bt V1 J J J)<|S2 2 J<|c5 ?_;cases h;exact⟨J,[_,_],⟨oL J J J z7 u9 nl J,⟨oL J J J H7 A9 nl J,tr⟩⟩,J,io⟩
 .refine c7 ?_;refine S3 1 J<|cF h O1 J J λv2 _ h=>S1 1 J<|y0 J (o7 (cs:=[.I a1,.I 0]) J bt V1 J J J)<|S2 2 J<|c5 ?_;cases h;exact⟨J,[_,_],⟨oL J J J z7 u9 nl J,⟨oL J J J H7 A9 nl J,tr⟩⟩,J,io⟩
theorem uv{a0 a1}:PO Tryz.prog 177 [k7.Pv a0,.rptr (b8.Pc a1)] (fF a0 a1) λr=>.bool r:=by
 refine pO Tryz.func177 λr h _ _=>?_;unfold fF at h;refine S4 2 J<|S4 6 J<|c5 ?_;cases h;exact f1
theorem ax{a0 a1}:MH Tryz.prog 163 [.L k7.Pv a0,.fn (.func 177) [.rptr (b8.Pc a1)]] (D8 a0 a1) λr=>⟨List.map k7.Pv r,(List.map k7.Pv r).length,true,2,true⟩:=by
 refine Tc Tryz.func163 λr h _ _=>?_;refine S4 1 J<|S4 1 J ?_;refine jq h (λj15=>St.of [(5,.sl 910005)] [(910005,⟨List.map k7.Pv j15,(List.map k7.Pv j15).length,true,2,true⟩)]) (λj15 h=>?_) λκ14 h=>?_
 .refine S4 2 J ?_;refine bM (m9 _ [910005])<|c5 ?_;cases h;exact⟨J,_,_,J,J,J,J⟩
 .refine S3 1 J ?_;refine nL J L5<|S2 1 J<|j5<|lq h (λq=>St.of [(1,.fn (.func 177) [.rptr (b8.Pc a1)]),(5,.sl 910005),(8,.L k7.Pv a0),(9,.I (a0.length:Int)),(10,.I q.1)] [(910005,⟨List.map k7.Pv q.2,(List.map k7.Pv q.2).length,true,2,true⟩)]) (Wk.trans (E4 (t:=5) (l:=920005) (z:=2) J J) (WP (λl=>if l=910005 then 920005 else l))) λq20 x19 h hx14=>?_;obtain⟨s17,s18⟩:=q20;refine S4 1 J<|k9 ?_;refine cN h (λhc h=>?_) λhc h=>?_
  .refine c7 ?_;refine jq h (λj25=>St.of [(1,.fn (.func 177) [.rptr (b8.Pc a1)]),(5,.sl 20),(8,.L k7.Pv a0),(9,.I (a0.length:Int)),(10,.I s17)] [(20,⟨List.map k7.Pv j25,(List.map k7.Pv j25).length,true,2,true⟩)]) (λj25 h=>?_) λκ24 h=>?_
   .refine S6 2 J ?_;exact eL h (Wk.trans (m9 _ [20]) (WP (λl=>if l=910005 then 20 else l)))
   .refine j5 ?_;refine sR<|iL h J J L5 R7 λv26 _ h=>S2 3 J<|S3 2 J<|cA h uv J J λv27 _ h=>yN ?_;refine cN h (λhc h=>?_) λhc h=>?_
    .refine S5 2 J ?_;refine y0 J (H4 (f:=k7.Pv) (l:=[v26]) J L5 R7 aE J J nl J J)<|w7 h λv28 hv21 h=>H3 J (F7 (f:=k7.Pv) hv21 J J J J J J (.inl ⟨_,J,J⟩) L5 R7 qm aE J (λ_=>J)) J J J<|S2 1 J ?_;exact eJ h (Wk.trans (m9 _ [20]) W)
    .refine c7 ?_;exact eJ h (Wk.trans (m9 _ [910005]) (WP (λl=>if l=20 then 910005 else l)))
  .refine o0 ?_;refine c8<|c8<|l6 ?_;have h:=xL hx14 h;exact eJ h (Wk.trans (m9 _ [910005]) W)
theorem xp{a0 a1 a2}:PO Tryz.prog 94 [a8.Pv a0,.I a1,g9.Pv a2] (jf a0 a1 a2) λr=>.tup [a8.Pv r.1,.I r.2]:=by
 refine pO Tryz.func94 λr h _ _=>?_;refine S4 4 J<|S3 3 J<|cF h dK J J λv1 _ h=>S2 6 J<|k9<|S4 2 J ?_;refine cN h (λhc h=>?_) λhc h=>?_
 .refine S4 4 J ?_;refine c5 ?_;cases h;exact⟨J,[_,_],⟨oL J J J z7 u9 nl J,⟨J,tr⟩⟩,J,io⟩
 .refine c7 ?_;refine S3 3 J<|w7 h λv2 hv2 h=>KW J (gb J ax J hv2) J J<|S2 1 J<|k9<|S4 2 J ?_;refine cN h (λhc h=>?_) λhc h=>?_
  .refine S4 3 J ?_;refine S4 3 J<|c5 ?_;cases h;exact⟨J,[_,_],⟨oL J J J z7 u9 nl J,⟨J,tr⟩⟩,J,io⟩
  .refine c7 ?_;refine k9<|S3 1 J<|y0 J (Kf (f:=k7.Pv) J J J L5)<|S2 3 J ?_;refine cN h (λhc h=>?_) λhc h=>?_
   .refine S4 3 J ?_;refine c5 ?_;cases h;exact⟨J,[_,_],⟨oL J J J z7 u9 nl J,⟨J,tr⟩⟩,J,io⟩
   .refine c7 ?_;refine S3 2 J<|cF h gQ J J λv3 _ h=>S2 1 J<|S3 4 J<|y0 J (o7 (cs:=[.I v1.1.Serial,.I a1]) J CO aE J J J)<|y0 J (H4 (f:=k7.Pv) (l:=[(⟨v1.1.Serial,a1⟩:k7)]) J L5 R7 aE J J nl J J)<|w7 h λv4 hv4 h=>H3 J (F7 (f:=k7.Pv) hv4 J J J J J J (.inl ⟨_,J,J⟩) L5 R7 qm aE J (λ_=>J)) J J J<|S2 2 J<|S4 3 J<|c5 ?_;cases h;exact⟨J,[_,_],⟨oL J J J z7 u9 nl J,⟨J,tr⟩⟩,J,io⟩
theorem gv{a0 a1 a2}:PO Tryz.prog 90 [a8.Pv a0,.I a1,g9.Pv a2,.fn (.func 94) []] (K8 a0 a1 a2) λr=>.tup [a8.Pv r.1,g7.Pv r.2]:=by
 refine pO Tryz.func90 λr h _ _=>?_;refine S4 4 J<|S3 4 J<|cF h xp J J λv1 _ h=>S2 6 J<|k9<|S4 2 J ?_;refine cN h (λhc h=>?_) λhc h=>?_
 .refine S3 2 J ?_;refine y0 J (o7 (cs:=[.I 0,.I v1.2]) J bt V1 J J J)<|S2 2 J<|c5 ?_;cases h;exact⟨J,[_,_],⟨oL J J J z7 u9 nl J,⟨oL J J J H7 A9 nl J,tr⟩⟩,J,io⟩
 .refine c7 ?_;refine S3 1 J<|cF h O1 J J λv2 _ h=>S1 1 J<|y0 J (o7 (cs:=[.I a1,.I 0]) J bt V1 J J J)<|S2 2 J<|c5 ?_;cases h;exact⟨J,[_,_],⟨oL J J J z7 u9 nl J,⟨oL J J J H7 A9 nl J,tr⟩⟩,J,io⟩
theorem AR{a0}:PO Tryz.prog 178 [.I a0] (qL a0) λr=>.tup [.L iF r.1,.I r.2]:=by
 refine pO Tryz.func178 λr h _ _=>?_;refine S4 2 J<|k9<|S3 3 J<|m7 J (λhg=>mI J)<|m7 J (λhg=>D6 (ct hg) J J)<|y0 J (I5 J J J (λq=>kq q))<|yN ?_;refine cN h (λhc h=>?_) λhc h=>?_
 .refine S4 2 J ?_;refine c5 ?_;cases h;exact f2
 .refine c7 ?_;refine S3 1 J<|w7 h λv1 hv1 h=>y1 J (Bu (f:=iF) hv1 J J J l7 o6 C5 Q9 J J J) J<|S2 2 J<|c5 ?_;cases h;exact f2
theorem ow{a0 a1 a2}:PO Tryz.prog 97 [a8.Pv a0,.I a1,.I a2] (aN a0 a1 a2) λr=>.tup [a8.Pv r.1,g7.Pv r.2]:=by
 refine pO Tryz.func97 λr h _ _=>?_;refine S4 3 J<|S3 3 J<|cF h iQ J J λv1 _ h=>cF h O1 J J λv2 _ h=>S2 1 J<|dr [2,4,5,1003] s6 (by kernel_rfl) (by kernel_rfl)<|S7 2 J<|d7 J (λ_ hN=>uy hN J J J J dO J) J<|S7 1 J<|w7 h λv3 hv3 h=>d7 J (λ_ hN=>J9 (f:=iF) (cs:=[.I v3]) hv3 J J l7 o6 J J) J<|d7 J (λ_ hN=>W4 J G7 J) J<|d7 J (λ_ hN=>o7 (cs:=[.I v3,.I 0]) J bt V1 J J J) J<|D4 (x':=a8.Pv v2) (cl':=true) J J (.inr J) u9<|D4 (x':=.agg [.I v3,.I 0]) (cl':=true) J J (.inl J) A9<|J7<|c5 ?_;cases h;exact⟨J,[_,_],⟨oL J J J z7 u9 nl J,⟨oL J J J H7 A9 nl J,tr⟩⟩,J,io⟩
theorem vN{a0 a1}:PO Tryz.prog 95 [a8.Pv a0,g9.Pv a1] (dt a0 a1) λr=>.tup [a8.Pv r.1,g7.Pv r.2]:=by
 refine pO Tryz.func95 λr h _ _=>?_;refine S4 4 J<|S3 2 J<|cF h AR J J λv1 _ h=>S2 5 J<|k9<|S4 2 J ?_;refine cN h (λhc h=>?_) λhc h=>?_
 .refine S3 2 J ?_;refine y0 J (o7 (cs:=[.I 0,.I v1.2]) J bt V1 J J J)<|S2 2 J<|c5 ?_;cases h;exact⟨J,[_,_],⟨oL J J J z7 u9 nl J,⟨oL J J J H7 A9 nl J,tr⟩⟩,J,io⟩
 .refine c7 ?_;refine S3 2 J<|cA h eR J J λv2 _ h=>S2 1 J<|k9<|S4 2 J ?_;refine cN h (λhc h=>?_) λhc h=>?_
  .refine S3 1 J ?_;refine y0 J (o7 (cs:=[.I 0,.I 4]) J bt V1 J J J)<|S2 2 J<|c5 ?_;cases h;exact⟨J,[_,_],⟨oL J J J z7 u9 nl J,⟨oL J J J H7 A9 nl J,tr⟩⟩,J,io⟩
  .refine c7 ?_;refine S4 5 J<|S3 2 J<|w7 h λv3 hv3 h=>KW J (gb J K0 J hv3) J J<|S2 2 J<|S3 5 J<|w7 h λv4 hv4 h=>y0 J (ba (f:=iF) hv4 J J J J l7 o6 J)<|oE (f:=iF) (v:=x4 (a0.Serial+1)) hv4 J J (.inl J) o6<|yN<|dr [] s6 (by kernel_rfl) (by kernel_rfl)<|S7 2 J<|w7 h λv5 hv5 h=>Zk J (gb J B4 J hv5) J J J<|S7 6 J<|d7 J (λ_ hN=>o7 (cs:=[.I (x4 (a0.Serial+1)),.I v2,.I a1.C,.bool false,.bool true,.bool false,.L iF v1.1]) J Ja aC J J J) J<|XE J (H4 (f:=b8.Pv) (l:=[(⟨x4 (a0.Serial+1),v2,a1.C,false,true,false,v1.1⟩:b8)]) J B2 w8 aC J J nl J J) J<|w7 h λv6 hv6 h=>Zl J (F7 (f:=b8.Pv) hv6 J J J J J J (.inl ⟨_,J,J⟩) B2 w8 mR aC J (λ_=>J)) J J J J J<|S7 1 J<|D4 (x':=.agg [.sl 52,.sl 33,.L iF a0.Gens,.I a0.Last,.I a0.Places,.I (x4 (a0.Serial+1)),.L iF a0.Roots,.L k8.Pv a0.b7,.L k7.Pv a0.Pairs,.L g5.Pv a0.Tasks,.L (Ls g9.Pv) a0.Progs]) (cl':=false) J J (.inl J) UU<|J7<|S3 5 J<|w7 h λv7 hv7 h=>KV J (u5 J ow J hv7) J<|S2 4 J<|c5 ?_;cases h;exact⟨J,[_,_],⟨oL J J J z7 u9 nl J,⟨oL J J J H7 A9 nl J,tr⟩⟩,J,io⟩
theorem CE{a0 a1}:PO Tryz.prog 182 [.L iF a0,.I a1] (iW a0 a1) λr=>.tup [.I r.1,.I r.2]:=by
 refine pO Tryz.func182 λr h _ _=>?_;refine S4 2 J<|k9<|S3 2 J<|cA h AS J J λv1 _ h=>S2 1 J ?_;refine cN h (λhc h=>?_) λhc h=>?_
 .refine S4 2 J ?_;refine c5 ?_;cases h;exact f2
 .refine c7 ?_;refine S3 2 J<|iL h J J l7 o6 λv2 _ h=>S2 3 J<|c5 ?_;cases h;exact f2
theorem vf{a0 a1}:PO Tryz.prog 183 [.L k8.Pv a0,.I a1] (cS a0 a1) λr=>.tup [.I r.1,.I r.2]:=by
 refine pO Tryz.func183 λr h _ _=>?_;refine S4 2 J<|k9<|S3 2 J<|cA h xc J J λv1 _ h=>S2 1 J ?_;refine cN h (λhc h=>?_) λhc h=>?_
 .refine S4 2 J ?_;refine c5 ?_;cases h;exact f2
 .refine c7 ?_;refine k9<|S3 2 J<|iL h J J R6 V6 λv2 hv2 h=>S1 4 J<|m7 J (λhg=>om (d:=.L k8.Pv a0) J)<|m7 J (λhg=>mI J)<|m7 J (λhg=>J9 (f:=k8.Pv) (cs:=k8.Pc v2) hv2 (ct hg) (ct hg) R6 V6 J J)<|m7 J (λhg=>aO (ct hg) Ld J)<|m7 J (λhg=>W4 (ct hg) kJ J)<|m7 J (λhg=>cV (ct hg) J)<|y0 J (I5 J J J (λq=>kq q))<|yN ?_;refine cN h (λhc h=>?_) λhc h=>?_
  .refine S4 2 J ?_;refine c5 ?_;cases h;exact f2
  .refine c7 ?_;refine S3 2 J<|y0 J (J9 (f:=k8.Pv) (cs:=k8.Pc v2) hv2 J J R6 V6 J J)<|S2 4 J<|c5 ?_;cases h;exact f2
theorem Ae{a0 a1}:PO Tryz.prog 96 [a8.Pv a0,g9.Pv a1] (bU a0 a1) λr=>.tup [.I r.1,.I r.2]:=by
 refine pO Tryz.func96 λr h _ _=>?_;refine S4 4 J<|k9<|S4 2 J<|j5<|S4 2 J ?_;refine cN h (λhc h=>?_) λhc h=>?_
 .refine S3 4 J ?_;refine iL h J J l7 o6 λv1 _ h=>S2 3 J<|c5 ?_;cases h;exact f2
 .refine S4 2 J ?_;refine cN h (λhc h=>?_) λhc h=>?_
  .refine S3 3 J ?_;refine cF h dK J J λv2 _ h=>S2 6 J<|k9<|S4 2 J ?_;refine cN h (λhc h=>?_) λhc h=>?_
   .refine S4 3 J ?_;refine c5 ?_;cases h;exact f2
   .refine c7 ?_;refine S3 4 J<|cA h CE J J λv3 _ h=>S2 4 J<|c5 ?_;cases h;exact f2
  .refine S4 2 J ?_;refine cN h (λhc h=>?_) λhc h=>?_
   .refine S3 4 J ?_;refine cA h vf J J λv4 _ h=>S2 4 J<|c5 ?_;cases h;exact f2
   .refine S4 2 J ?_;refine cN h (λhc h=>?_) λhc h=>?_
    .refine S3 3 J ?_;refine cF h dK J J λv5 _ h=>S2 6 J<|k9<|S4 2 J ?_;refine cN h (λhc h=>?_) λhc h=>?_
     .refine S4 3 J ?_;refine c5 ?_;cases h;exact f2
     .refine c7 ?_;refine k9<|S3 3 J<|cF h kZ J J λv6 _ h=>S2 1 J<|S3 1 J<|nL J l7<|S2 1 J ?_;refine cN h (λhc h=>?_) λhc h=>?_
      .refine S3 1 J ?_;refine iL h J J l7 o6 λv7 _ h=>S2 3 J<|c5 ?_;cases h;exact f2
      .refine c7 ?_;refine S4 2 J<|c5 ?_;cases h;exact f2
    .refine c7 ?_;refine S4 2 J<|c5 ?_;cases h;exact f2
theorem rD{a0 a1}:PO Tryz.prog 53 [a8.Pv a0,g9.Pv a1] (bV a0 a1) λr=>.tup [a8.Pv r.1,g7.Pv r.2]:=by
 refine pO Tryz.func53 λr h _ _=>?_;refine S4 4 J<|k9<|S4 2 J<|j5<|S4 2 J ?_;refine cN h (λhc h=>?_) λhc h=>?_
 .refine k9 ?_;refine dr [] s6 (by kernel_rfl) (by kernel_rfl)<|S7 4 J<|w7 h λv1 hv1 h=>d0 J (J9 (f:=iF) (cs:=[.I v1]) hv1 J J l7 o6 J J) J<|S7 5 J<|w7 h λv2 hv2 h=>d0 J (J9 (f:=iF) (cs:=[.I v2]) hv2 J J l7 o6 J J) J<|S8 2 J ?_;refine cN h (λhc h=>?_) λhc h=>?_
  .refine S3 1 J ?_;refine y0 J (o7 (cs:=[.I 1,.I 0]) J bt V1 J J J)<|S2 2 J<|c5 ?_;cases h;exact⟨J,[_,_],⟨oL J J J z7 u9 nl J,⟨oL J J J H7 A9 nl J,tr⟩⟩,J,io⟩
  .refine c7 ?_;refine S3 1 J<|y0 J (o7 (cs:=[.I 0,.I 0]) J bt V1 J J J)<|S2 2 J<|c5 ?_;cases h;exact⟨J,[_,_],⟨oL J J J z7 u9 nl J,⟨oL J J J H7 A9 nl J,tr⟩⟩,J,io⟩
 .refine S4 2 J ?_;refine cN h (λhc h=>?_) λhc h=>?_
  .refine dr [] s6 (by kernel_rfl) (by kernel_rfl) ?_;refine S7 4 J<|w7 h λv3 hv3 h=>d2 J (M0 J dv J hv3) J<|S7 1 J<|w7 h λv4 hv4 h=>dR J (u5 J gw J hv4) J<|S7 2 J<|D4 (x':=a8.Pv v4.1) (cl':=true) J J (.inr J) u9<|D4 (x':=g7.Pv v4.2) (cl':=true) J J (.inl J) A9<|J7<|c5 ?_;cases h;exact⟨J,[_,_],⟨oL J J J z7 u9 nl J,⟨oL J J J H7 A9 nl J,tr⟩⟩,J,io⟩
  .refine S4 2 J ?_;refine cN h (λhc h=>?_) λhc h=>?_
   .refine dr [] s6 (by kernel_rfl) (by kernel_rfl) ?_;refine S7 4 J<|w7 h λv5 hv5 h=>d2 J (M0 J dv J hv5) J<|S7 1 J<|w7 h λv6 hv6 h=>dR J (u5 J fI J hv6) J<|S7 2 J<|D4 (x':=a8.Pv v6.1) (cl':=true) J J (.inr J) u9<|D4 (x':=g7.Pv v6.2) (cl':=true) J J (.inl J) A9<|J7<|c5 ?_;cases h;exact⟨J,[_,_],⟨oL J J J z7 u9 nl J,⟨oL J J J H7 A9 nl J,tr⟩⟩,J,io⟩
   .refine S4 2 J ?_;refine cN h (λhc h=>?_) λhc h=>?_
    .refine dr [] s6 (by kernel_rfl) (by kernel_rfl) ?_;refine S7 4 J<|w7 h λv7 hv7 h=>d2 J (M0 J dv J hv7) J<|S7 1 J<|w7 h λv8 hv8 h=>dR J (u5 J gv J hv8) J<|S7 2 J<|D4 (x':=a8.Pv v8.1) (cl':=true) J J (.inr J) u9<|D4 (x':=g7.Pv v8.2) (cl':=true) J J (.inl J) A9<|J7<|c5 ?_;cases h;exact⟨J,[_,_],⟨oL J J J z7 u9 nl J,⟨oL J J J H7 A9 nl J,tr⟩⟩,J,io⟩
    .refine S4 2 J ?_;refine cN h (λhc h=>?_) λhc h=>?_
     .refine S3 2 J ?_;refine cF h vN J J λv9 _ h=>S2 4 J<|c5 ?_;cases h;exact⟨J,[_,_],⟨oL J J J z7 u9 nl J,⟨oL J J J H7 A9 nl J,tr⟩⟩,J,io⟩
     .refine c7 ?_;refine S3 2 J<|cA h Ae J J λv10 _ h=>S2 5 J<|k9<|S4 2 J ?_;refine cN h (λhc h=>?_) λhc h=>?_
      .refine S3 2 J ?_;refine y0 J (o7 (cs:=[.I 0,.I v10.2]) J bt V1 J J J)<|S2 2 J<|c5 ?_;cases h;exact⟨J,[_,_],⟨oL J J J z7 u9 nl J,⟨oL J J J H7 A9 nl J,tr⟩⟩,J,io⟩
      .refine c7 ?_;refine S3 4 J<|cF h ow J J λv11 _ h=>S2 4 J<|c5 ?_;cases h;exact⟨J,[_,_],⟨oL J J J z7 u9 nl J,⟨oL J J J H7 A9 nl J,tr⟩⟩,J,io⟩
theorem DE{a0 a1}:PO Tryz.prog 171 [a8.Pv a0,.L g9.Pv a1] (jx a0 a1) λr=>a8.Pv r:=by
 refine pO Tryz.func171 λr h _ _=>?_;refine S4 2 J ?_;refine jq h (λj9=>St.of [(2,.ptr 2 0 0),(4,.ptr 4 0 0)] [(4,vR (.agg [.nl,.nl,.nl,.I 0,.I 0,.I 0,.nl,.nl,.nl,.nl,.nl]) 11),(2,vR (a8.Pv j9) 11)]) (λj9 h=>?_) λκ8 h=>?_
 .refine S4 2 J ?_;refine c5 ?_;cases h;exact⟨J,[_],⟨oL J J J z7 u9 nl J,tr⟩,J,io⟩
 .refine S3 1 J ?_;refine nL J dD<|S2 1 J<|j5<|lq h (λq=>St.of [(2,.ptr 2 0 0),(4,.ptr 4 0 0),(7,.L g9.Pv a1),(8,.I (a1.length:Int)),(9,.I q.1)] [(4,vR (.agg [.nl,.nl,.nl,.I 0,.I 0,.I 0,.nl,.nl,.nl,.nl,.nl]) 11),(2,vR (a8.Pv q.2) 11)]) W λq14 x13 h hx9=>?_;obtain⟨s11,s12⟩:=q14;refine S4 1 J<|k9 ?_;refine cN h (λhc h=>?_) λhc h=>?_
  .refine c7 ?_;refine k9<|j5<|sR<|iL h J J dD gI λv15 _ h=>S2 3 J<|S5 2 J<|cF h rD J J λv16 _ h=>S2 4 J<|S6 2 J ?_;exact eL h W
  .refine o0 ?_;refine c8<|c8<|l6 ?_;have h:=xL hx9 h;exact eJ h W
theorem vT{a0 a1}:PO Tryz.prog 89 [a8.Pv a0,g5.Pv a1] (dw a0 a1) λr=>a8.Pv r:=by
 refine pO Tryz.func89 λr h _ _=>?_;refine S4 3 J<|S4 4 J ?_;refine jq h (λj3=>St.of [(2,.ptr 2 0 0),(3,.ptr 3 0 0),(4,.ptr 4 0 0),(5,.bool (a1.Kind==1))] [(4,vR (.agg [.nl,.nl,.nl,.I 0,.I 0,.I 0,.nl,.nl,.nl,.nl,.nl]) 11),(3,vR (g5.Pv a1) 3),(2,vR (a8.Pv j3) 11)]) (λj3 h=>?_) λκ2 h=>?_
 .refine S3 1 J ?_;refine cF h cK J J λv4 _ h=>cF h js J J λv5 _ h=>S2 9 J<|S4 4 J ?_;refine jq h (λj8=>St.of [(2,.ptr 2 0 0),(3,.ptr 3 0 0),(4,.ptr 4 0 0),(5,.bool (a1.Kind==1))] [(4,vR (.agg [.nl,.nl,.nl,.I 0,.I 0,.I 0,.nl,.nl,.nl,.nl,.nl]) 11),(3,vR (g5.Pv a1) 3),(2,vR (a8.Pv j8) 11)]) (λj8 h=>?_) λκ7 h=>?_
  .refine dr [] s6 (by kernel_rfl) (by kernel_rfl) ?_;refine S7 5 J<|w7 h λv9 hv7 h=>dR J (u5 J ly J hv7) J<|w7 h λv10 hv8 h=>dR J (u5 J DE J hv8) J<|D4 (x':=a8.Pv v10) (cl':=true) J J (.inr J) u9<|J7<|k9<|S4 1 J ?_;refine cN h (λhc h=>?_) λhc h=>?_
   .refine S5 1 J ?_;refine cF h iQ J J λv11 _ h=>cF h O1 J J λv12 _ h=>S2 1 J<|S4 2 J<|c5 ?_;cases h;exact⟨J,[_],⟨oL J J J z7 u9 nl J,tr⟩,J,io⟩
   .refine c7 ?_;refine S4 2 J<|c5 ?_;cases h;exact⟨J,[_],⟨oL J J J z7 u9 nl J,tr⟩,J,io⟩
  .refine S4 1 J ?_;refine cN h (λhc h=>?_) λhc h=>?_
   .refine S5 1 J ?_;refine cF h O1 J J λv13 _ h=>S2 1 J ?_;exact eJ h W
   .refine c7 ?_;exact eJ h W
 .refine S4 1 J ?_;refine cN h (λhc h=>?_) λhc h=>?_
  .refine S5 3 J ?_;refine cF h iQ J J λv14 _ h=>S2 1 J ?_;exact eJ h W
  .refine c7 ?_;exact eJ h W
theorem vO{a0 a1}:PO Tryz.prog 52 [a8.Pv a0,.I a1] (gR a0 a1) λr=>.tup [a8.Pv r.1,g7.Pv r.2]:=by
 refine pO Tryz.func52 λr h _ _=>?_;refine S4 3 J<|S4 1 J ?_;refine jq h (λq=>St.of [(2,.ptr 2 0 0),(4,.ptr 4 0 0),(5,.ptr 5 0 0),(6,.I q.1)] [(5,vR (.agg [.I 0,.I 0]) 2),(4,vR (.agg [.nl,.nl,.nl,.I 0,.I 0,.I 0,.nl,.nl,.nl,.nl,.nl]) 11),(2,vR (a8.Pv q.2) 11)]) (λq13 h=>?_) λκ10 h=>?_
 .obtain⟨j11,j12⟩:=q13;refine S3 2 J<|y0 J (o7 (cs:=[.I j11,.I 0]) J bt V1 J J J)<|S2 2 J<|c5 ?_;cases h;exact⟨J,[_,_],⟨oL J J J z7 u9 nl J,⟨oL J J J H7 A9 nl J,tr⟩⟩,J,io⟩
 .refine j5 ?_;refine lq h (λq=>St.of [(1,.I q.1),(2,.ptr 2 0 0),(4,.ptr 4 0 0),(5,.ptr 5 0 0),(6,.I q.2.1)] [(5,vR (.agg [.I 0,.I 0]) 2),(4,vR (.agg [.nl,.nl,.nl,.I 0,.I 0,.I 0,.nl,.nl,.nl,.nl,.nl]) 11),(2,vR (a8.Pv q.2.2) 11)]) W λq19 x18 h hx10=>?_;obtain⟨s15,s16,s17⟩:=q19;refine k9<|S3 2 J<|nL J J2<|S2 1 J ?_;refine cN h (λhc h=>?_) λhc h=>?_
  .refine c7 ?_;refine j5<|dr [] s6 (by kernel_rfl) (by kernel_rfl)<|S7 4 J<|w7 h λv20 hv11 h=>d0 J (J9 (f:=g5.Pv) (cs:=g5.Pc v20) hv11 J J J2 D0 J J) J<|S7 1 J<|w7 h λv21 hv12 h=>d2 J (M0 J rp J hv12) J<|S8 1 J<|k9<|S4 3 J ?_;refine cN h (λhc h=>?_) λhc h=>?_
   .refine S3 2 J ?_;refine y0 J (o7 (cs:=[.I s16,.I 12]) J bt V1 J J J)<|S2 2 J<|c5 ?_;have h:=xL hx10 h;cases h;exact⟨J,[_,_],⟨oL J J J z7 u9 nl J,⟨oL J J J H7 A9 nl J,tr⟩⟩,J,io⟩
   .refine c7 ?_;refine S4 4 J<|dr [] s6 (by kernel_rfl) (by kernel_rfl)<|S7 3 J<|d0 J (J9 (f:=g5.Pv) (cs:=g5.Pc v20) hv11 J J J2 D0 J J) J<|S7 1 J<|w7 h λv22 hv13 h=>dR J (u5 J vT J hv13) J<|D4 (x':=a8.Pv v22) (cl':=true) J J (.inr J) u9<|J7<|S6 3 J ?_;exact eL h W
  .refine o0 ?_;refine c8<|c8<|l6 ?_;have h:=xL hx10 h;exact eJ h W
theorem Gb{a0 a1}:PO Tryz.prog 19 [a8.Pv a0,.L iF a1] (lX a0 a1) λr=>.tup [a8.Pv r.1,g7.Pv r.2]:=by
 refine pO Tryz.func19 λr h _ _=>?_;refine S4 3 J<|S3 1 J<|cA h pb J J λv1 _ h=>S2 6 J<|k9<|S4 2 J ?_;refine cN h (λhc h=>?_) λhc h=>?_
 .refine S3 2 J ?_;refine y0 J (o7 (cs:=[.I 0,.I v1.2]) J bt V1 J J J)<|S2 2 J<|c5 ?_;cases h;exact⟨J,[_,_],⟨oL J J J z7 u9 nl J,⟨oL J J J H7 A9 nl J,tr⟩⟩,J,io⟩
 .refine c7 ?_;refine k9<|S4 2 J<|j5<|S4 2 J ?_;refine cN h (λhc h=>?_) λhc h=>?_
  .refine S3 1 J ?_;refine cF h sm J J λv2 _ h=>S2 4 J<|c5 ?_;cases h;exact⟨J,[_,_],⟨oL J J J z7 u9 nl J,⟨oL J J J H7 A9 nl J,tr⟩⟩,J,io⟩
  .refine S4 2 J ?_;refine cN h (λhc h=>?_) λhc h=>?_
   .refine S3 3 J ?_;refine cF h vO J J λv3 _ h=>S2 4 J<|c5 ?_;cases h;exact⟨J,[_,_],⟨oL J J J z7 u9 nl J,⟨oL J J J H7 A9 nl J,tr⟩⟩,J,io⟩
   .refine c7 ?_;refine S3 2 J<|cF h rD J J λv4 _ h=>S2 4 J<|c5 ?_;cases h;exact⟨J,[_,_],⟨oL J J J z7 u9 nl J,⟨oL J J J H7 A9 nl J,tr⟩⟩,J,io⟩
theorem fy{a0 a1}:PO Tryz.prog 32 [a8.Pv a0,.L (Ls iF) a1] (N9 a0 a1) λr=>.tup [a8.Pv r.1,.L g7.Pv r.2]:=by
 refine pO Tryz.func32 λr h _ _=>?_;refine S4 3 J<|S4 1 J ?_;refine jq h (λq=>St.of [(2,.ptr 2 0 0),(4,.ptr 4 0 0),(6,.sl 910006)] [(910006,⟨List.map g7.Pv q.2,(List.map g7.Pv q.2).length,true,2,true⟩),(4,vR (.agg [.nl,.nl,.nl,.I 0,.I 0,.I 0,.nl,.nl,.nl,.nl,.nl]) 11),(2,vR (a8.Pv q.1) 11)]) (λq13 h=>?_) λκ10 h=>?_
 .obtain⟨j11,j12⟩:=q13;refine S4 4 J<|c5 ?_;cases h;exact⟨J,[_,_],⟨oL J J J z7 u9 nl J,⟨J,tr⟩⟩,J,io⟩
 .refine S3 1 J ?_;refine nL J X6<|S2 1 J<|j5<|lq h (λq=>St.of [(2,.ptr 2 0 0),(4,.ptr 4 0 0),(6,.sl 910006),(10,.L (Ls iF) a1),(11,.I (a1.length:Int)),(12,.I q.1)] [(4,vR (.agg [.nl,.nl,.nl,.I 0,.I 0,.I 0,.nl,.nl,.nl,.nl,.nl]) 11),(2,vR (a8.Pv q.2.1) 11),(910006,⟨List.map g7.Pv q.2.2,(List.map g7.Pv q.2.2).length,true,2,true⟩)]) (Wk.trans (E4 (t:=6) (l:=920006) (z:=2) J J) (WP (λl=>if l=910006 then 920006 else l))) λq19 x18 h hx10=>?_;obtain⟨s15,s16,s17⟩:=q19;refine S4 1 J<|k9 ?_;refine cN h (λhc h=>?_) λhc h=>?_
  .refine c7 ?_;refine k9<|j5<|sR<|iL h J J X6 Z5 λv20 _ h=>S2 2 J<|S4 1 J<|S3 2 J<|cF h Gb J J λv21 _ h=>S2 5 J<|S5 2 J<|y0 J (H4 (f:=g7.Pv) (l:=[v21.2]) J gj A9 V1 J J nl J J)<|w7 h λv22 hv13 h=>H3 J (F7 (f:=g7.Pv) hv13 J J J J J J (.inl ⟨_,J,J⟩) gj A9 MK V1 J (λ_=>J)) J J J<|S2 1 J<|S6 2 J ?_;exact eL h (Wk.trans (m9 _ [25]) (WP (λl=>if l=910006 then 25 else l)))
  .refine o0 ?_;refine c8<|c8<|l6 ?_;have h:=xL hx10 h;exact eJ h (Wk.trans (m9 _ [910006]) W)
theorem xj{a0}:PO Tryz.prog 64 [g9.Pv a0] (nh a0) λr=>Yk rM r:=by
 refine pO Tryz.func64 λr h _ _=>?_;refine S4 2 J<|k9<|S4 2 J<|j5<|S4 2 J ?_;refine cN h (λhc h=>?_) λhc h=>?_
 .refine sR ?_;refine y0 J (o7 (cs:=[]) J Rg Jk J J J)<|y0 J (Ih (n:=rM) (T:=166) (xs:=[]) J Jd J)<|S2 1 J<|c5 ?_;cases h;exact f1
 .refine S4 2 J ?_;refine cN h (λhc h=>?_) λhc h=>?_
  .refine S3 2 J ?_;refine y0 J (o7 (cs:=[.I a0.A]) J Rh Jl J J J)<|y0 J (Ih (n:=rM) (T:=170) (xs:=[a0.A]) J Je J)<|S2 1 J<|c5 ?_;cases h;exact f1
  .refine c7 ?_;refine S3 1 J<|y0 J (o7 (cs:=[.I a0.Kind,.I a0.A,.I a0.B,.I a0.C]) J Rf Jj J J J)<|y0 J (Ih (n:=rM) (T:=162) (xs:=[a0.Kind,a0.A,a0.B,a0.C]) J Jc J)<|S2 1 J<|c5 ?_;cases h;exact f1
theorem vJ:PO Tryz.prog 123 [] (gO) λr=>.abs (V0 (List.map (cv iF tO) r)):=by
 refine pO Tryz.func123 λr h _ _=>?_;unfold gO at h;refine S4 1 J<|sR<|CG (KT:=Int) (VT:=Fv) (EK:=iF) (E:=tO) 5000001 J J<|lG (es:=[]) (k:=1) (v:=(some 203)) (E:=tO) (EK:=iF) (.inr J) J J J J J J bO (y4 J1)<|lG (es:=(p6 [] 1 (some 203))) (k:=2) (v:=(some 204)) (E:=tO) (EK:=iF) (.inr J) J J J J J J bO (y4 J1)<|lG (es:=(p6 (p6 [] 1 (some 203)) 2 (some 204))) (k:=3) (v:=(some 205)) (E:=tO) (EK:=iF) (.inr J) J J J J J J bO (y4 J1)<|lG (es:=(p6 (p6 (p6 [] 1 (some 203)) 2 (some 204)) 3 (some 205))) (k:=4) (v:=(some 206)) (E:=tO) (EK:=iF) (.inr J) J J J J J J bO (y4 J1)<|lG (es:=(p6 (p6 (p6 (p6 [] 1 (some 203)) 2 (some 204)) 3 (some 205)) 4 (some 206))) (k:=5) (v:=(some 207)) (E:=tO) (EK:=iF) (.inr J) J J J J J J bO (y4 J1)<|lG (es:=(p6 (p6 (p6 (p6 (p6 [] 1 (some 203)) 2 (some 204)) 3 (some 205)) 4 (some 206)) 5 (some 207))) (k:=6) (v:=(some 208)) (E:=tO) (EK:=iF) (.inr J) J J J J J J bO (y4 J1)<|lG (es:=(p6 (p6 (p6 (p6 (p6 (p6 [] 1 (some 203)) 2 (some 204)) 3 (some 205)) 4 (some 206)) 5 (some 207)) 6 (some 208))) (k:=7) (v:=(some 209)) (E:=tO) (EK:=iF) (.inr J) J J J J J J bO (y4 J1)<|lG (es:=(p6 (p6 (p6 (p6 (p6 (p6 (p6 [] 1 (some 203)) 2 (some 204)) 3 (some 205)) 4 (some 206)) 5 (some 207)) 6 (some 208)) 7 (some 209))) (k:=8) (v:=(some 210)) (E:=tO) (EK:=iF) (.inr J) J J J J J J bO (y4 J1)<|lG (es:=(p6 (p6 (p6 (p6 (p6 (p6 (p6 (p6 [] 1 (some 203)) 2 (some 204)) 3 (some 205)) 4 (some 206)) 5 (some 207)) 6 (some 208)) 7 (some 209)) 8 (some 210))) (k:=9) (v:=(some 211)) (E:=tO) (EK:=iF) (.inr J) J J J J J J bO (y4 J1)<|lG (es:=(p6 (p6 (p6 (p6 (p6 (p6 (p6 (p6 (p6 [] 1 (some 203)) 2 (some 204)) 3 (some 205)) 4 (some 206)) 5 (some 207)) 6 (some 208)) 7 (some 209)) 8 (some 210)) 9 (some 211))) (k:=10) (v:=(some 212)) (E:=tO) (EK:=iF) (.inr J) J J J J J J bO (y4 J1)<|S2 2 J<|bM (EC 0 5000001 J J)<|c5 ?_;cases h;exact f1
theorem qe{a0}:PO Tryz.prog 317 [.I a0] (X0 a0) λr=>.bool r:=by
 refine pO Tryz.func317 λr h _ _=>?_;unfold X0 at h;refine S4 1 J<|S3 3 J<|m7 J (λhg=>mI J)<|m7 J (λhg=>D6 (ct hg) J J)<|y0 J (C9 J J J (λq=>jM q))<|S2 1 J<|c5 ?_;cases h;exact f1
theorem nV{a0}:PO Tryz.prog 348 [l4.Pv a0] (R3 a0) λr=>.fn (.func 363) [.rptr (l4.Pc r)]:=by
 refine pO Tryz.func348 λr h _ _=>?_;unfold R3 at h;refine S4 2 J<|S4 2 J<|c5 ?_;cases h;exact f1
theorem Q0{a0}:MH Tryz.prog 352 [.L c9.Pv a0] (y8 a0) λr=>⟨List.map c9.Pv r,0,true,8,true⟩:=by
 refine Tc Tryz.func352 λr h _ _=>?_;unfold y8 at h;refine S4 1 J<|k9<|S3 1 J<|vi J br λb hb=>yN ?_;refine H6 b J (λhc=>?_) (λhc=>?_)
 .obtain rfl:a0 = []:=by simpa using hb hc
  refine S4 1 J<|bM (E4 (t:=2) (l:=920000) (z:=8) J J)<|c5 ?_;cases h;exact⟨J,_,_,J,J,J,J⟩
 .refine c7 ?_;refine sR<|y0 J (W5 J br aB)<|S1 1 J<|y1 J (wI (f:=c9.Pv) h J J (.inl ⟨_,J,J⟩) br aB IT qo J (λ_=>J)) J<|S2 1 J<|c5 ?_;exact⟨J,_,_,J,J,J,J⟩
theorem M2{a0 a1 a2}:PO Tryz.prog 327 [l4.Pv a0,.I a1,c9.Pv a2] (E9 a0 a1 a2) λr=>l4.Pv r:=by
 refine pO Tryz.func327 λr h _ _=>?_;unfold E9 at h;refine S4 3 J<|S3 2 J<|w7 h λv1 hv1 h=>KW J (gb J Q0 J hv1) J J<|S2 2 J<|S3 4 J<|w7 h λv2 hv2 h=>y0 J (ba (f:=c9.Pv) hv2 J J J J br aB J)<|oE (f:=c9.Pv) (v:=a2) hv2 J J (.inr J) aB<|yN<|S4 2 J<|c5 ?_;cases h;exact⟨J,[_],⟨oL J J J iB eX nl J,tr⟩,J,io⟩
theorem po{a0 a1}:PO Tryz.prog 132 [.I a0,.I a1] (eG a0 a1) λr=>.I r:=by
 refine pO Tryz.func132 λr h _ _=>?_;refine S4 1 J<|k9<|S3 3 J<|m7 J (λhg=>mI J)<|m7 J (λhg=>D6 (ct hg) J J)<|y0 J (I5 J J J (λq=>kq q))<|S1 1 J<|m7 J (λhg=>mI J)<|m7 J (λhg=>D6 (ct hg) J J)<|y0 J (I5 J J J (λq=>kq q))<|S1 1 J<|m7 J (λhg=>mI J)<|m7 J (λhg=>D6 (ct hg) J J)<|y0 J (I5 J J J (λq=>kq q))<|yN ?_;refine cN h (λhc h=>?_) λhc h=>?_
 .refine S4 1 J ?_;refine c5 ?_;cases h;exact f1
 .refine c7 ?_;refine S4 7 J<|c5 ?_;cases h;exact f1
theorem nU{a0 a1}:PO Tryz.prog 318 [l4.Pv a0,n8.Pv a1] (M6 a0 a1) λr=>.tup [l4.Pv r.1,.I r.2.1,.I r.2.2]:=by
 refine pO Tryz.func318 λr h _ _=>?_;refine S4 5 J ?_;refine jq h (λ_=>St.of [(2,.ptr 2005 0 0),(4,.ptr 2003 0 0),(5,.ptr 2002 0 0),(6,.ptr 2001 0 0)] [(2001,vR (.I 0) 1),(2002,vR (.I 0) 1),(2003,vR (.agg [.nl,.I 0]) 2),(2005,vR (l4.Pv a0) 2)]) (λq10 h=>?_) λκ9 h=>?_
 .refine S4 4 J ?_;refine c5 ?_;cases h;exact⟨J,[_,_,_],⟨oL J J J iB eX nl J,⟨oS J J J G7 J,⟨oS J J J vl J,tr⟩⟩⟩,J,io⟩
 .refine S3 1 J ?_;refine cF h nV J J λv11 _ h=>yN<|j5<|bM (sP (λl=>if l=2006 then 6 else if l=2007 then 5 else if l=2008 then 4 else if l=2009 then 3 else if l=2010 then 2 else l) [(2,.ptr 2010 0 0),(3,.ptr 2009 0 0),(4,.ptr 2008 0 0),(5,.ptr 2007 0 0),(6,.ptr 2006 0 0),(10,.fn (.func 363) [.rptr (l4.Pc v11)])] [(2006,vR (.I 0) 1),(2007,vR (.I 0) 1),(2008,vR (.agg [.nl,.I 0]) 2),(2009,vR (n8.Pv a1) 6),(2010,vR (l4.Pv a0) 2)]) ?_;refine bX (fn:=Tryz.f363) (N1:=23) J Tryz.func363 J J nl J Ra J J (λl19 e20 o21 hR22=>?_);refine S3 2 J<|nL J br<|S2 1 J<|j5<|lq h (λs13=>St.of [(1000002,.ptr 2010 0 0),(1000003,.ptr 2009 0 0),(1000004,.ptr 2008 0 0),(1000005,.ptr 2007 0 0),(1000006,.ptr 2006 0 0),(1000010,.fn (.func 363) [.rptr (l4.Pc v11)]),(0,.fn (.yield l19) []),(6,.L c9.Pv v11.b7),(7,.I (v11.b7.length:Int)),(8,.I s13)] [(2006,vR (.I 0) 1),(2007,vR (.I 0) 1),(2008,vR (.agg [.nl,.I 0]) 2),(2009,vR (n8.Pv a1) 6),(2010,vR (l4.Pv a0) 2)]) W λs13 x14 h hx25=>S4 1 J<|k9 ?_;refine cN h (λhc h=>?_) λhc h=>?_
  .refine c7 ?_;refine k9<|j5<|S3 1 J<|iL h J J br aB λv15 _ h=>S2 4 J<|S3 4 J<|m7 J (λhg=>om (d:=.fn (.yield l19) []) J)<|m7 J (λhg=>mI J) ?_;rcases zaq ((v15.State==0)==true) with hg27 | hg27
   .have h:=Se h hg27;refine O5 (WE [(1000002,.ptr 2010 0 0),(1000003,.ptr 2009 0 0),(1000004,.ptr 2008 0 0),(1000005,.ptr 2007 0 0),(1000006,.ptr 2006 0 0),(1000010,.fn (.func 363) [.rptr (l4.Pc v11)]),(0,.fn (.yield l19) []),(6,.L c9.Pv v11.b7),(7,.I (v11.b7.length:Int)),(8,.I s13),(16,.bool (v15.State==0)),(17,.fn (.yield l19) []),(18,.I s13)] [(2006,vR (.I 0) 1),(2007,vR (.I 0) 1),(2008,vR (.agg [.nl,.I 0]) 2),(2009,vR (n8.Pv a1) 6),(2010,vR (l4.Pv a0) 2)]) ?_;refine ju hR22 (zP some hg27) J J J J J (λe28 o29 o30=>?_);refine S6 1 J ?_;refine⟨J,?_⟩;refine j5<|S3 3 J<|iL h J J br aB λv16 _ h=>S2 3 J<|S3 4 J<|y0 J (o7 (cs:=[.I 1,.I v16.Gen,.I a1.Serial,.I a1.Strong,.I a1.Weak,.I a1.Prog,.bool a1.Started,.L iF a1.Fields]) J xC qo J J J)<|cF h M2 J J λv17 _ h=>S1 2 J<|cA h po J J λv18 _ h=>S2 3 J<|c5 ?_;refine⟨J,?_⟩;refine O5 (WE [(1000002,.ptr 2010 0 0),(1000003,.ptr 2009 0 0),(1000004,.ptr 2008 0 0),(1000005,.ptr 2007 0 0),(1000006,.ptr 2006 0 0),(1000010,.fn (.func 363) [.rptr (l4.Pc v11)]),(0,.fn (.yield l19) []),(6,.L c9.Pv v11.b7),(7,.I (v11.b7.length:Int)),(8,.I s13),(16,.bool (v15.State==0)),(19,.bool false)] [(2006,vR (.I 0) 1),(2007,vR (.I v18) 1),(2008,vR (l4.Pv v17) 2),(2009,vR (n8.Pv a1) 6),(2010,vR (l4.Pv a0) 2)])<|y0 (zP some hg27) (cV J J)<|y0 J (ji J J hg27)<|yN ?_;refine H6 true J (λ_=>?_) (λq=>nomatch q);refine c5 ?_;refine .inr ⟨.ret,J,Si ?_⟩;have h:=xL hx25 h;cases h;exact⟨J,[_,_,_],⟨oL J J J iB eX nl J,⟨oS J J J G7 J,⟨oS J J J vl J,tr⟩⟩⟩,J,io⟩
   .have h:=Sd h hg27;refine df (zP some hg27)<|df (zP some hg27)<|y0 J (jh J J hg27)<|yN ?_;refine H6 false J (λq=>nomatch q) (λ_=>?_);refine c7<|S6 2 J ?_;exact eL h W
  .refine o0 ?_;refine c8<|c8<|l6 ?_;refine .inl ⟨J,?_⟩;have h:=xL hx25 h;exact eJ h (WP (λl=>if l=2005 then 2010 else if l=2003 then 2008 else if l=2002 then 2007 else if l=2001 then 2006 else l))
theorem BC{a0 a1 a2}:PO Tryz.prog 278 [b6.Pv a0,.I a1,.I a2] (Y5 a0 a1 a2) λr=>.tup [b6.Pv r.1,.I r.2.1,.I r.2.2]:=by
 refine pO Tryz.func278 λr h _ _=>?_;refine S4 4 J<|S3 1 J<|cF h AR J J λv1 _ h=>S2 5 J<|k9<|S4 2 J ?_;refine cN h (λhc h=>?_) λhc h=>?_
 .refine S4 5 J ?_;refine c5 ?_;cases h;exact⟨J,[_,_,_],⟨oL J J J mP mV nl J,⟨J,⟨J,tr⟩⟩⟩,J,io⟩
 .refine c7 ?_;refine k9<|S3 1 J<|cA h qe J J λv2 _ h=>S2 1 J ?_;refine cN h (λhc h=>?_) λhc h=>?_
  .refine S4 4 J ?_;refine c5 ?_;cases h;exact⟨J,[_,_,_],⟨oL J J J mP mV nl J,⟨J,⟨J,tr⟩⟩⟩,J,io⟩
  .refine c7 ?_;refine S3 7 J<|y0 J (o7 (cs:=[.I (x4 (a0.Serial+1)),.I 0,.I 0,.I a2,.bool false,.L iF v1.1]) J Ri Rv J J J)<|cF h nU J J λv3 _ h=>S2 8 J<|k9<|S4 2 J ?_;refine cN h (λhc h=>?_) λhc h=>?_
   .refine S4 5 J ?_;refine c5 ?_;cases h;exact⟨J,[_,_,_],⟨oL J J J mP mV nl J,⟨J,⟨J,tr⟩⟩⟩,J,io⟩
   .refine c7 ?_;refine S3 4 J<|y0 J (o7 (cs:=[.L c9.Pv v3.1.b7,.I v3.1.Last,.I (x4 (a0.Serial+1))]) J MW Nc J J J)<|S2 4 J<|c5 ?_;cases h;exact⟨J,[_,_,_],⟨oL J J J mP mV nl J,⟨J,⟨J,tr⟩⟩⟩,J,io⟩
theorem oi{a0}:PO Tryz.prog 356 [.I a0] (fg a0) λr=>.tup [.I r.1,.I r.2.1,.bool r.2.2]:=by
 refine pO Tryz.func356 λr h _ _=>?_;refine S4 3 J<|k9<|S4 2 J ?_;refine cN h (λhc h=>?_) λhc h=>?_
 .refine S4 3 J ?_;refine c5 ?_;cases h;exact f3
 .refine c7 ?_;refine S3 2 J<|w7 h λv1 hv1 h=>y0 J (wJ J J hv1)<|w7 h λv2 hv2 h=>y0 J (wJ J J hv2)<|S1 2 J<|w7 h λv3 hv3 h=>y0 J (wJ J J hv3)<|S2 2 J<|k9<|S3 3 J<|m7 J (λhg=>mI J)<|m7 J (λhg=>D6 (ct hg) J J)<|y0 J (I5 J J J (λq=>kq q))<|yN ?_;refine cN h (λhc h=>?_) λhc h=>?_
  .refine S4 3 J ?_;refine c5 ?_;cases h;exact f3
  .refine c7 ?_;refine S4 5 J<|c5 ?_;cases h;exact f3
theorem pv{a0}:PO Tryz.prog 334 [.I a0] (ib a0) λr=>.I r:=by
 refine pO Tryz.func334 λr h _ _=>?_;refine S4 1 J<|S3 1 J<|cA h oi J J λv1 _ h=>S2 7 J<|S4 2 J<|c5 ?_;cases h;exact f1
theorem ry{a0}:PO Tryz.prog 335 [.I a0] (jO a0) λr=>.I r:=by
 refine pO Tryz.func335 λr h _ _=>?_;refine S4 1 J<|S3 1 J<|cA h oi J J λv1 _ h=>S2 7 J<|S4 2 J<|c5 ?_;cases h;exact f1
theorem M1{a0 a1}:PO Tryz.prog 308 [l4.Pv a0,.I a1] (A1 a0 a1) λr=>.tup [.I r.1,.I r.2]:=by
 refine pO Tryz.func308 λr h _ _=>?_;refine S4 3 J<|k9<|S4 2 J ?_;refine cN h (λhc h=>?_) λhc h=>?_
 .refine S4 2 J ?_;refine c5 ?_;cases h;exact f2
 .refine c7 ?_;refine S3 1 J<|cA h pv J J λv1 _ h=>S2 1 J<|k9<|S3 3 J<|m7 J (λhg=>mI J)<|m7 J (λhg=>oF J MR J)<|m7 J (λhg=>oS (ct hg) J J UQ J)<|m7 J (λhg=>bW (f:=c9.Pv) (ct hg) br)<|m7 J (λhg=>D6 (ct hg) (ct hg) J)<|y0 J (I5 J J J (λq=>kq q))<|yN ?_;refine cN h (λhc h=>?_) λhc h=>?_
  .refine S4 2 J ?_;refine c5 ?_;cases h;exact f2
  .refine c7 ?_;refine S3 3 J<|iL h J J br aB λv2 _ h=>S2 3 J<|k9<|dr [] s6 (by kernel_rfl) (by kernel_rfl)<|S7 3 J<|w7 h λv3 hv3 h=>d2 J (M0 J ry J hv3) J<|S7 2 J<|od J (λhg _ hN=>oF J BO J) J ?_;refine tz J (λhg=>oS (ct hg) J J G7 J) J<|od J (λhg _ hN=>D6 (ct hg) J J) J<|od J (λhg _ hN=>om (d:=.bool (v2.State != 1)) (ct hg)) J<|od (Qm J J J) (λhg _ hN=>oF J BO J) J ?_;refine tz (Qm J J J) (λhg=>oS (ct hg) J J G7 J) J<|od (Qm J J J) (λhg _ hN=>D6 (ct hg) J J) J<|od J (λhg _ hN=>C9 (ct hg) J J (λq=>ZC hg (jM q))) J<|d7 J (λ_ hN=>I5 J J J (λq=>kq q)) J<|J7 ?_;refine cN h (λhc h=>?_) λhc h=>?_
   .refine S4 2 J ?_;refine c5 ?_;cases h;exact f2
   .refine c7 ?_;refine S4 3 J<|c5 ?_;cases h;exact f2
theorem gi{a0 a1}:PO Tryz.prog 234 [l4.Pv a0,.I a1] (H9 a0 a1) λr=>.tup [n8.Pv r.1,.I r.2]:=by
 refine pO Tryz.func234 λr h _ _=>?_;refine S4 3 J<|S4 1 J<|S3 2 J<|cA h M1 J J λv1 _ h=>S2 5 J<|k9<|S4 2 J ?_;refine cN h (λhc h=>?_) λhc h=>?_
 .refine S3 2 J ?_;refine lk (x':=.agg [.I 0,.I 0,.I 0,.I 0,.bool false,.nl]) (cl':=true) J J (.inl J) kK<|S2 1 J<|c5 ?_;cases h;exact⟨J,[_,_],⟨oL J J J sV kK nl J,⟨J,tr⟩⟩,J,io⟩
 .refine c7 ?_;refine k9<|S3 3 J<|iL h J J br aB λv2 hv2 h=>S2 3 J ?_;refine cN h (λhc h=>?_) λhc h=>?_
  .refine S3 1 J ?_;refine lk (x':=.agg [.I 0,.I 0,.I 0,.I 0,.bool false,.nl]) (cl':=true) J J (.inl J) kK<|S2 1 J<|c5 ?_;cases h;exact⟨J,[_,_],⟨oL J J J sV kK nl J,⟨J,tr⟩⟩,J,io⟩
  .refine c7 ?_;refine S3 3 J<|y0 J (J9 (f:=c9.Pv) (cs:=c9.Pc v2) hv2 J J br aB J J)<|S2 4 J<|c5 ?_;cases h;exact⟨J,[_,_],⟨oL J J J sV kK nl J,⟨J,tr⟩⟩,J,io⟩
theorem D2{a0 a1}:PO Tryz.prog 136 [b6.Pv a0,.I a1] (y5 a0 a1) λr=>.tup [n8.Pv r.1,.I r.2]:=by
 refine pO Tryz.func136 λr h _ _=>?_;refine S4 3 J<|S3 3 J<|cF h gi J J λv1 _ h=>S2 4 J<|c5 ?_;cases h;exact⟨J,[_,_],⟨oL J J J sV kK nl J,⟨J,tr⟩⟩,J,io⟩
theorem yO{a0 a1}:PO Tryz.prog 349 [b9.Pv a0,.I a1] (kR a0 a1) λr=>.bool r:=by
 refine pO Tryz.func349 λr h _ _=>?_;refine S4 2 J<|S3 3 J<|cF h D2 J J λv1 _ h=>S2 6 J<|S4 3 J<|c5 ?_;cases h;exact f1
theorem aa{a0 a1}:PO Tryz.prog 319 [b9.Pv a0,.I a1] (O9 a0 a1) λr=>.bool r:=by
 refine pO Tryz.func319 λr h _ _=>?_;unfold O9 at h;refine S4 2 J<|S3 3 J<|m7 J (λhg=>oL J J J u7 p7 nl J)<|m7 J (λhg=>mI J)<|w7 h λv1 hv1 h=>m7 J (λhg=>M0 J yO (D3 (ct hg) (D3 (ct hg) J)) (O6 hv1 hg))<|y0 J (I5 J J J (λq=>kq q))<|S2 1 J<|c5 ?_;cases h;exact f1
theorem bP{a0}:PO Tryz.prog 353 [.I a0] (J4 a0) λr=>.bool r:=by
 refine pO Tryz.func353 λr h _ _=>?_;unfold J4 at h;refine S4 1 J<|S4 3 J<|c5 ?_;cases h;exact f1
theorem tt{a0}:PO Tryz.prog 330 [.I a0] (jL a0) λr=>.tup [.I r.1,.I r.2]:=by
 refine pO Tryz.func330 λr h _ _=>?_;refine S4 2 J<|k9<|S3 1 J<|cA h bP J J λv1 _ h=>yN ?_;refine cN h (λhc h=>?_) λhc h=>?_
 .refine S4 2 J ?_;refine c5 ?_;cases h;exact f2
 .refine c7 ?_;refine S3 1 J<|y0 J (OT J J J)<|S2 3 J<|c5 ?_;cases h;exact f2
theorem CX{a0}:PO Tryz.prog 289 [.I a0] (qq a0) λr=>.I r:=by
 refine pO Tryz.func289 λr h _ _=>?_;refine S4 1 J<|S3 1 J<|cA h tt J J λv1 _ h=>S2 5 J<|S4 2 J<|c5 ?_;cases h;exact f1
theorem oN{a0 a1 a2}:PO Tryz.prog 286 [l4.Pv a0,.I a1,n8.Pv a2] (aR a0 a1 a2) λr=>.tup [l4.Pv r.1,.I r.2]:=by
 refine pO Tryz.func286 λr h _ _=>?_;refine S4 4 J<|S3 2 J<|cA h M1 J J λv1 _ h=>S2 5 J<|k9<|S4 2 J ?_;refine cN h (λhc h=>?_) λhc h=>?_
 .refine S4 4 J ?_;refine c5 ?_;cases h;exact⟨J,[_,_],⟨oL J J J iB eX nl J,⟨J,tr⟩⟩,J,io⟩
 .refine c7 ?_;refine S3 3 J<|iL h J J br aB λv2 _ h=>S2 3 J<|S4 3 J<|S3 3 J<|cF h M2 J J λv3 _ h=>S2 2 J<|c5 ?_;cases h;exact⟨J,[_,_],⟨oL J J J iB eX nl J,⟨J,tr⟩⟩,J,io⟩
theorem cQ{a0 a1 a2}:PO Tryz.prog 219 [b6.Pv a0,.I a1,n8.Pv a2] (U0 a0 a1 a2) λr=>.tup [b6.Pv r.1,.I r.2]:=by
 refine pO Tryz.func219 λr h _ _=>?_;refine S4 4 J<|S4 1 J<|S3 4 J<|cF h oN J J λv1 _ h=>S2 6 J<|S4 4 J<|c5 ?_;cases h;exact⟨J,[_,_],⟨oL J J J mP mV nl J,⟨J,tr⟩⟩,J,io⟩
theorem jP{a0 a1}:PO Tryz.prog 288 [b9.Pv a0,.I a1,.fn (.func 289) []] (Z9 a0 a1) λr=>b9.Pv r:=by
 refine pO Tryz.func288 λr h _ _=>?_;refine S4 2 J<|S3 3 J<|cF h D2 J J λv1 _ h=>S2 6 J<|k9<|S4 2 J ?_;refine cN h (λhc h=>?_) λhc h=>?_
 .refine S3 3 J ?_;refine cA h CX J J λv2 _ h=>S2 2 J<|S5 4 J<|cF h cQ J J λv3 _ h=>S2 5 J<|S4 2 J<|c5 ?_;cases h;exact⟨J,[_],⟨oL J J J u7 p7 nl J,tr⟩,J,io⟩
 .refine c7 ?_;refine S4 2 J<|c5 ?_;cases h;exact⟨J,[_],⟨oL J J J u7 p7 nl J,tr⟩,J,io⟩
theorem fi{a0 a1}:PO Tryz.prog 221 [b9.Pv a0,.I a1] (bT a0 a1) λr=>b9.Pv r:=by
 refine pO Tryz.func221 λr h _ _=>?_;refine S4 2 J<|S3 2 J<|cF h jP J J λv1 _ h=>S2 1 J<|c5 ?_;cases h;exact⟨J,[_],⟨oL J J J u7 p7 nl J,tr⟩,J,io⟩
theorem oI{a0 a1}:PO Tryz.prog 343 [L8.Pv a0,b9.Pv a1] (U2 a0 a1) λr=>b9.Pv r:=by
 refine pO Tryz.func343 λr h _ _=>?_;unfold U2 at h;refine S4 3 J<|S3 2 J<|w7 h λv1 hv1 h=>KW J (gb J K0 J hv1) J J<|S2 2 J<|S3 6 J<|w7 h λv2 hv2 h=>y0 J (ba (f:=iF) hv2 J J J J l7 o6 J)<|oE (f:=iF) (v:=a0.h) hv2 J J (.inl J) o6<|yN<|S4 2 J<|c5 ?_;cases h;exact⟨J,[_],⟨oL J J J u7 p7 nl J,tr⟩,J,io⟩
theorem qS{a0}:PO Tryz.prog 336 [.I a0] (gp a0) λr=>.tup [.I r.1,.I r.2]:=by
 refine pO Tryz.func336 λr h _ _=>?_;refine S4 2 J<|k9<|S3 1 J<|cA h bP J J λv1 _ h=>yN ?_;refine cN h (λhc h=>?_) λhc h=>?_
 .refine S4 2 J ?_;refine c5 ?_;cases h;exact f2
 .refine c7 ?_;refine k9<|S4 2 J ?_;refine cN h (λhc h=>?_) λhc h=>?_
  .refine S4 2 J ?_;refine c5 ?_;cases h;exact f2
  .refine c7 ?_;refine S4 4 J<|c5 ?_;cases h;exact f2
theorem CW{a0}:PO Tryz.prog 295 [.I a0] (vq a0) λr=>.tup [.I r.1,.I r.2]:=by
 refine pO Tryz.func295 λr h _ _=>?_;refine S4 2 J<|S3 1 J<|cA h qS J J λv1 _ h=>S2 5 J<|S4 4 J<|c5 ?_;cases h;exact f2
theorem tY{a0}:PO Tryz.prog 294 [.I a0] (fh a0) λr=>.I r:=by
 refine pO Tryz.func294 λr h _ _=>?_;refine S4 1 J<|S3 1 J<|cA h CW J J λv1 _ h=>S2 5 J<|k9<|S4 2 J ?_;refine cN h (λhc h=>?_) λhc h=>?_
 .refine S4 2 J ?_;refine c5 ?_;cases h;exact f1
 .refine c7 ?_;refine S4 2 J<|c5 ?_;cases h;exact f1
theorem fX{a0 a1}:PO Tryz.prog 288 [b9.Pv a0,.I a1,.fn (.func 294) []] (Q6 a0 a1) λr=>b9.Pv r:=by
 refine pO Tryz.func288 λr h _ _=>?_;refine S4 2 J<|S3 3 J<|cF h D2 J J λv1 _ h=>S2 6 J<|k9<|S4 2 J ?_;refine cN h (λhc h=>?_) λhc h=>?_
 .refine S3 3 J ?_;refine cA h tY J J λv2 _ h=>S2 2 J<|S5 4 J<|cF h cQ J J λv3 _ h=>S2 5 J<|S4 2 J<|c5 ?_;cases h;exact⟨J,[_],⟨oL J J J u7 p7 nl J,tr⟩,J,io⟩
 .refine c7 ?_;refine S4 2 J<|c5 ?_;cases h;exact⟨J,[_],⟨oL J J J u7 p7 nl J,tr⟩,J,io⟩
theorem aW{a0 a1}:PO Tryz.prog 228 [b9.Pv a0,.I a1] (E8 a0 a1) λr=>b9.Pv r:=by
 refine pO Tryz.func228 λr h _ _=>?_;refine S4 2 J<|S3 2 J<|cF h fX J J λv1 _ h=>S2 1 J<|c5 ?_;cases h;exact⟨J,[_],⟨oL J J J u7 p7 nl J,tr⟩,J,io⟩
theorem dV{a0 a1 a2 a3}:PO Tryz.prog 320 [b9.Pv a0,.I a1,.I a2,.abs (Ub 343 [L8.Pv a3])] (H5 a0 a1 a2 a3) λr=>b9.Pv r:=by
 refine pO Tryz.func320 λr h _ _=>?_;refine S4 2 J<|S3 3 J<|cF h fi J J λv1 _ h=>w7 h λv2 hv2 h=>ED (xs:=[b9.Pv v1]) J J QZ J (oI.2 _ hv2)<|S1 1 J<|cF h aW J J λv3 _ h=>S2 1 J<|c5 ?_;cases h;exact⟨J,[_],⟨oL J J J u7 p7 nl J,tr⟩,J,io⟩
theorem ns{a0 a1 a2}:PO Tryz.prog 298 [b9.Pv a0,.I a1,.I a2] (cD a0 a1 a2) λr=>.tup [b9.Pv r.1,.I r.2]:=by
 refine pO Tryz.func298 λr h _ _=>?_;refine S4 3 J<|k9<|S3 3 J<|m7 J (λhg=>mI J)<|m7 J (λhg=>oF J EX J)<|m7 J (λhg=>oS (ct hg) J J dO J)<|m7 J (λhg=>bW (f:=iF) (ct hg) l7)<|m7 J (λhg=>D6 (ct hg) (ct hg) J)<|y0 J (I5 J J J (λq=>kq q))<|yN ?_;refine cN h (λhc h=>?_) λhc h=>?_
 .refine S4 3 J ?_;refine c5 ?_;cases h;exact⟨J,[_,_],⟨oL J J J u7 p7 nl J,⟨J,tr⟩⟩,J,io⟩
 .refine c7 ?_;refine k9<|S3 2 J<|cA h aa J J λv1 _ h=>S2 1 J ?_;refine cN h (λhc h=>?_) λhc h=>?_
  .refine S4 3 J ?_;refine c5 ?_;cases h;exact⟨J,[_,_],⟨oL J J J u7 p7 nl J,⟨J,tr⟩⟩,J,io⟩
  .refine c7 ?_;refine dr [] s6 (by kernel_rfl) (by kernel_rfl)<|S7 4 J<|w7 h λv2 hv2 h=>d0 J (J9 (f:=iF) (cs:=[.I v2]) hv2 J J l7 o6 J J) J<|S7 4 J<|d7 J (λ_ hN=>o7 (cs:=[.I a1,.I a2]) J Ro RD J J J) J<|d7 J (λ_ hN=>vV (d:=.agg [.I a1,.I a2]) J) J<|w7 h λv3 hv3 h=>dR J (u5 J dV J hv3) J<|D4 (x':=b9.Pv v3) (cl':=true) J J (.inr J) p7<|S8 1 J<|c5 ?_;cases h;exact⟨J,[_,_],⟨oL J J J u7 p7 nl J,⟨J,tr⟩⟩,J,io⟩
theorem K5{a0 a1 a2}:PO Tryz.prog 279 [r8.Pv a0,.I a1,.I a2] (C6 a0 a1 a2) λr=>.tup [b9.Pv r.1,.I r.2]:=by
 refine pO Tryz.func279 λr h _ _=>?_;refine S4 3 J<|k9<|S4 2 J ?_;refine cN h (λhc h=>?_) λhc h=>?_
 .refine S4 5 J ?_;refine c5 ?_;cases h;exact⟨J,[_,_],⟨oL J J J u7 p7 nl J,⟨J,tr⟩⟩,J,io⟩
 .refine c7 ?_;refine S3 6 J<|cF h ns J J λv1 _ h=>S2 4 J<|c5 ?_;cases h;exact⟨J,[_,_],⟨oL J J J u7 p7 nl J,⟨J,tr⟩⟩,J,io⟩
theorem fu{a0}:PO Tryz.prog 203 [r8.Pv a0] (Z1 a0) λr=>.tup [b9.Pv r.1,.I r.2]:=by
 refine pO Tryz.func203 λr h _ _=>?_;refine S4 3 J<|S3 9 J<|cF h BC J J λv1 _ h=>S2 8 J<|k9<|S4 2 J ?_;refine cN h (λhc h=>?_) λhc h=>?_
 .refine S4 5 J ?_;refine c5 ?_;cases h;exact⟨J,[_,_],⟨oL J J J u7 p7 nl J,⟨J,tr⟩⟩,J,io⟩
 .refine c7 ?_;refine S4 4 J<|S3 2 J<|cF h K5 J J λv2 _ h=>S2 4 J<|c5 ?_;cases h;exact⟨J,[_,_],⟨oL J J J u7 p7 nl J,⟨J,tr⟩⟩,J,io⟩
theorem Q7{a0 a1}:PO Tryz.prog 216 [b9.Pv a0,.I a1] (P1 a0 a1) λr=>.I r:=by
 refine pO Tryz.func216 λr h _ _=>?_;refine S4 2 J<|k9<|S3 3 J<|m7 J (λhg=>mI J)<|m7 J (λhg=>oF J EX J)<|m7 J (λhg=>oS (ct hg) J J dO J)<|m7 J (λhg=>bW (f:=iF) (ct hg) l7)<|m7 J (λhg=>D6 (ct hg) (ct hg) J)<|y0 J (I5 J J J (λq=>kq q))<|yN ?_;refine cN h (λhc h=>?_) λhc h=>?_
 .refine S4 1 J ?_;refine c5 ?_;cases h;exact f1
 .refine c7 ?_;refine S3 3 J<|iL h J J l7 o6 λv1 _ h=>S2 2 J<|c5 ?_;cases h;exact f1
theorem cU{a0}:PO Tryz.prog 204 [r8.Pv a0] (L9 a0) λr=>.tup [b9.Pv r.1,.I r.2]:=by
 refine pO Tryz.func204 λr h _ _=>?_;unfold L9 at h;refine S4 3 J<|dr [] s6 (by kernel_rfl) (by kernel_rfl)<|S7 6 J<|w7 h λv1 hv1 h=>d2 J (M0 J Q7 J hv1) J<|w7 h λv2 hv2 h=>dR J (u5 J K5 J hv2) J<|S7 2 J<|D4 (x':=b9.Pv v2.1) (cl':=true) J J (.inr J) p7<|S8 1 J<|c5 ?_;cases h;exact⟨J,[_,_],⟨oL J J J u7 p7 nl J,⟨J,tr⟩⟩,J,io⟩
theorem il{a0}:PO Tryz.prog 205 [r8.Pv a0] (bG a0) λr=>.tup [b9.Pv r.1,.I r.2]:=by
 refine pO Tryz.func205 λr h _ _=>?_;refine S4 3 J<|S3 1 J<|cF h K5 J J λv1 _ h=>S2 4 J<|c5 ?_;cases h;exact⟨J,[_,_],⟨oL J J J u7 p7 nl J,⟨J,tr⟩⟩,J,io⟩
theorem W0{a0 a1}:PO Tryz.prog 280 [b9.Pv a0,.I a1] (P5 a0 a1) λr=>.tup [.I r.1,.I r.2]:=by
 refine pO Tryz.func280 λr h _ _=>?_;refine S4 3 J<|S3 2 J<|cA h Q7 J J λv1 _ h=>S2 1 J<|k9<|S4 2 J ?_;refine cN h (λhc h=>?_) λhc h=>?_
 .refine S4 2 J ?_;refine c5 ?_;cases h;exact f2
 .refine c7 ?_;refine S4 3 J<|c5 ?_;cases h;exact f2
theorem qd{a0 a1 a2}:PO Tryz.prog 281 [b6.Pv a0,.I a1,.I a2] (K7 a0 a1 a2) λr=>.tup [.I r.1,.I r.2]:=by
 refine pO Tryz.func281 λr h _ _=>?_;refine S4 3 J<|S3 2 J<|cF h D2 J J λv1 _ h=>S2 6 J<|k9<|S4 2 J ?_;refine cN h (λhc h=>?_) λhc h=>?_
 .refine S4 3 J ?_;refine c5 ?_;cases h;exact f2
 .refine c7 ?_;refine S3 3 J<|cA h CE J J λv2 _ h=>S2 4 J<|c5 ?_;cases h;exact f2
theorem iq{a0}:PO Tryz.prog 206 [r8.Pv a0] (bH a0) λr=>.tup [b9.Pv r.1,.I r.2]:=by
 refine pO Tryz.func206 λr h _ _=>?_;refine S4 3 J<|S3 5 J<|cA h W0 J J λv1 _ h=>S2 5 J<|k9<|S4 2 J ?_;refine cN h (λhc h=>?_) λhc h=>?_
 .refine S4 5 J ?_;refine c5 ?_;cases h;exact⟨J,[_,_],⟨oL J J J u7 p7 nl J,⟨J,tr⟩⟩,J,io⟩
 .refine c7 ?_;refine dr [] s6 (by kernel_rfl) (by kernel_rfl)<|S7 8 J<|w7 h λv2 hv2 h=>d2 J (M0 J qd J hv2) J<|S7 2 J<|w7 h λv3 hv3 h=>dR J (u5 J K5 J hv3) J<|S7 2 J<|D4 (x':=b9.Pv v3.1) (cl':=true) J J (.inr J) p7<|S8 1 J<|c5 ?_;cases h;exact⟨J,[_,_],⟨oL J J J u7 p7 nl J,⟨J,tr⟩⟩,J,io⟩
theorem En{a0 a1 a2 a3}:PO Tryz.prog 350 [b6.Pv a0,.I a1,.I a2,.I a3] (qH a0 a1 a2 a3) λr=>.tup [b6.Pv r.1,.I r.2]:=by
 refine pO Tryz.func350 λr h _ _=>?_;refine S4 3 J<|S3 2 J<|cF h D2 J J λv1 _ h=>S2 6 J<|k9<|S4 2 J ?_;refine cN h (λhc h=>?_) λhc h=>?_
 .refine S4 4 J ?_;refine c5 ?_;cases h;exact⟨J,[_,_],⟨oL J J J mP mV nl J,⟨J,tr⟩⟩,J,io⟩
 .refine c7 ?_;refine k9<|S3 4 J<|cF h wU J J λv2 _ h=>S2 6 J<|S4 2 J ?_;refine cN h (λhc h=>?_) λhc h=>?_
  .refine S4 4 J ?_;refine c5 ?_;cases h;exact⟨J,[_,_],⟨oL J J J mP mV nl J,⟨J,tr⟩⟩,J,io⟩
  .refine c7 ?_;refine S3 3 J<|cF h cQ J J λv3 _ h=>S2 4 J<|c5 ?_;cases h;exact⟨J,[_,_],⟨oL J J J mP mV nl J,⟨J,tr⟩⟩,J,io⟩
theorem nu{a0 a1}:PO Tryz.prog 321 [I2.Pv a0,b9.Pv a1] (da a0 a1) λr=>b9.Pv r:=by
 refine pO Tryz.func321 λr h _ _=>?_;refine S4 3 J<|S3 8 J<|cF h En J J λv1 _ h=>S2 5 J<|S4 2 J<|c5 ?_;cases h;exact⟨J,[_],⟨oL J J J u7 p7 nl J,tr⟩,J,io⟩
theorem dq{a0 a1 a2 a3}:PO Tryz.prog 320 [b9.Pv a0,.I a1,.I a2,.abs (Ub 321 [I2.Pv a3])] (G8 a0 a1 a2 a3) λr=>b9.Pv r:=by
 refine pO Tryz.func320 λr h _ _=>?_;refine S4 2 J<|S3 3 J<|cF h fi J J λv1 _ h=>w7 h λv2 hv2 h=>ED (xs:=[b9.Pv v1]) J J QV J (nu.2 _ hv2)<|S1 1 J<|cF h aW J J λv3 _ h=>S2 1 J<|c5 ?_;cases h;exact⟨J,[_],⟨oL J J J u7 p7 nl J,tr⟩,J,io⟩
theorem Bt{a0 a1 a2 a3}:PO Tryz.prog 282 [b9.Pv a0,.I a1,.I a2,.I a3] (aI a0 a1 a2 a3) λr=>.tup [b9.Pv r.1,.I r.2]:=by
 refine pO Tryz.func282 λr h _ _=>?_;refine S4 3 J<|S3 4 J<|cA h qd J J λv1 _ h=>S2 5 J<|k9<|S4 2 J ?_;refine cN h (λhc h=>?_) λhc h=>?_
 .refine S4 4 J ?_;refine c5 ?_;cases h;exact⟨J,[_,_],⟨oL J J J u7 p7 nl J,⟨J,tr⟩⟩,J,io⟩
 .refine c7 ?_;refine k9<|S3 2 J<|cA h aa J J λv2 _ h=>S2 1 J ?_;refine cN h (λhc h=>?_) λhc h=>?_
  .refine S4 3 J ?_;refine c5 ?_;cases h;exact⟨J,[_,_],⟨oL J J J u7 p7 nl J,⟨J,tr⟩⟩,J,io⟩
  .refine c7 ?_;refine S3 6 J<|y0 J (o7 (cs:=[.I a1,.I a2,.I a3]) J Rl RA J J J)<|y0 J (vV (d:=.agg [.I a1,.I a2,.I a3]) J)<|cF h dq J J λv3 _ h=>S2 2 J<|c5 ?_;cases h;exact⟨J,[_,_],⟨oL J J J u7 p7 nl J,⟨J,tr⟩⟩,J,io⟩
theorem ga{a0}:PO Tryz.prog 207 [r8.Pv a0] (aL a0) λr=>.tup [b9.Pv r.1,.I r.2]:=by
 refine pO Tryz.func207 λr h _ _=>?_;refine S4 3 J<|S3 5 J<|cA h W0 J J λv1 _ h=>S2 5 J<|k9<|S4 2 J ?_;refine cN h (λhc h=>?_) λhc h=>?_
 .refine S4 5 J ?_;refine c5 ?_;cases h;exact⟨J,[_,_],⟨oL J J J u7 p7 nl J,⟨J,tr⟩⟩,J,io⟩
 .refine c7 ?_;refine dr [] s6 (by kernel_rfl) (by kernel_rfl)<|S7 11 J<|w7 h λv2 hv2 h=>d2 J (M0 J Q7 J hv2) J<|w7 h λv3 hv3 h=>dR J (u5 J Bt J hv3) J<|S7 2 J<|D4 (x':=b9.Pv v3.1) (cl':=true) J J (.inr J) p7<|S8 1 J<|c5 ?_;cases h;exact⟨J,[_,_],⟨oL J J J u7 p7 nl J,⟨J,tr⟩⟩,J,io⟩
theorem pA{a0 a1 a2}:PO Tryz.prog 323 [b9.Pv a0,.I a1,.I a2] (aA a0 a1 a2) λr=>b9.Pv r:=by
 refine pO Tryz.func323 λr h _ _=>?_;refine S4 2 J<|S3 4 J<|cA h M1 J J λv1 _ h=>S2 5 J<|k9<|S4 2 J ?_;refine cN h (λhc h=>?_) λhc h=>?_
 .refine S3 5 J ?_;refine iL h J J br aB λv2 _ h=>S2 4 J<|S4 6 J<|S5 4 J<|cF h cQ J J λv3 _ h=>S2 5 J<|S4 2 J<|c5 ?_;cases h;exact⟨J,[_],⟨oL J J J u7 p7 nl J,tr⟩,J,io⟩
 .refine c7 ?_;refine S4 2 J<|c5 ?_;cases h;exact⟨J,[_],⟨oL J J J u7 p7 nl J,tr⟩,J,io⟩
theorem fQ{a0 a1}:PO Tryz.prog 293 [l4.Pv a0,.I a1] (R2 a0 a1) λr=>.tup [l4.Pv r.1,.I r.2]:=by
 refine pO Tryz.func293 λr h _ _=>?_;refine S4 3 J<|S3 2 J<|cA h M1 J J λv1 _ h=>S2 5 J<|k9<|S4 2 J ?_;refine cN h (λhc h=>?_) λhc h=>?_
 .refine S4 4 J ?_;refine c5 ?_;cases h;exact⟨J,[_,_],⟨oL J J J iB eX nl J,⟨J,tr⟩⟩,J,io⟩
 .refine c7 ?_;refine S3 3 J<|iL h J J br aB λv2 _ h=>S2 3 J<|k9<|S4 4 J ?_;refine cN h (λhc h=>?_) λhc h=>?_
  .refine S3 3 J ?_;refine y0 J (o7 (cs:=[.I 3,.I v2.Gen,.I 0,.I 0,.I 0,.I 0,.bool false,.nl]) J xC qo J J J)<|cF h M2 J J λv3 _ h=>S2 2 J<|c5 ?_;cases h;exact⟨J,[_,_],⟨oL J J J iB eX nl J,⟨J,tr⟩⟩,J,io⟩
  .refine c7 ?_;refine S3 4 J<|y0 J (o7 (cs:=[.I 0,.I (x4 (v2.Gen+1)),.I 0,.I 0,.I 0,.I 0,.bool false,.nl]) J xC qo J J J)<|cF h M2 J J λv4 _ h=>S2 2 J<|c5 ?_;cases h;exact⟨J,[_,_],⟨oL J J J iB eX nl J,⟨J,tr⟩⟩,J,io⟩
theorem vE{a0 a1}:PO Tryz.prog 322 [b9.Pv a0,.I a1] (bg a0 a1) λr=>b9.Pv r:=by
 refine pO Tryz.func322 λr h _ _=>?_;refine S4 2 J<|S3 2 J<|cF h pA J J λv1 _ h=>S2 1 J<|S3 4 J<|cA h M1 J J λv2 _ h=>S2 5 J<|k9<|S4 2 J ?_;refine cN h (λhc h=>?_) λhc h=>?_
 .refine S4 2 J ?_;refine c5 ?_;cases h;exact⟨J,[_],⟨oL J J J u7 p7 nl J,tr⟩,J,io⟩
 .refine c7 ?_;refine k9<|S3 5 J<|iL h J J br aB λv3 _ h=>S2 3 J<|S3 4 J<|m7 J (λhg=>oF J Li J)<|m7 J (λhg=>oF (ct hg) Lh J)<|m7 J (λhg=>oS (ct hg) J J G7 J)<|m7 J (λhg=>D6 (ct hg) J J)<|y0 J (C9 J J J (λq=>jM q))<|yN ?_;refine cN h (λhc h=>?_) λhc h=>?_
  .refine S5 4 J ?_;refine cF h fQ J J λv4 _ h=>S2 6 J<|S4 2 J<|c5 ?_;cases h;exact⟨J,[_],⟨oL J J J u7 p7 nl J,tr⟩,J,io⟩
  .refine c7 ?_;refine S4 2 J<|c5 ?_;cases h;exact⟨J,[_],⟨oL J J J u7 p7 nl J,tr⟩,J,io⟩
theorem tZ{a0 a1 a2 a3}:PO Tryz.prog 283 [b9.Pv a0,.I a1,.I a2,.I a3] (T7 a0 a1 a2 a3) λr=>.tup [b9.Pv r.1,.I r.2]:=by
 refine pO Tryz.func283 λr h _ _=>?_;unfold T7 at h;refine S4 3 J<|k9<|S3 3 J<|m7 J (λhg=>mI J)<|m7 J (λhg=>oF J MS J)<|m7 J (λhg=>oS (ct hg) J J Hi J)<|m7 J (λhg=>bW (f:=k8.Pv) (ct hg) R6)<|m7 J (λhg=>D6 (ct hg) (ct hg) J)<|y0 J (I5 J J J (λq=>kq q))<|S1 1 J<|m7 J (λhg=>oF J MT J)<|m7 J (λhg=>oL (ct hg) J J jG cX nl J)<|m7 J (λhg=>mI J)<|w7 h λv1 hv1 h=>m7 J (λhg=>M0 J rK (D3 (ct hg) (D3 (ct hg) J)) (O6 hv1 hg))<|y0 J (I5 J J J (λq=>kq q))<|yN ?_;refine cN h (λhc h=>?_) λhc h=>?_
 .refine S4 3 J ?_;refine c5 ?_;cases h;exact⟨J,[_,_],⟨oL J J J u7 p7 nl J,⟨J,tr⟩⟩,J,io⟩
 .refine c7 ?_;refine k9<|S3 2 J<|cA h aa J J λv2 _ h=>S2 1 J ?_;refine cN h (λhc h=>?_) λhc h=>?_
  .refine S4 3 J ?_;refine c5 ?_;cases h;exact⟨J,[_,_],⟨oL J J J u7 p7 nl J,⟨J,tr⟩⟩,J,io⟩
  .refine c7 ?_;refine S3 5 J<|cF h xb J J λv3 _ h=>S2 7 J<|S4 3 J<|S3 2 J<|cF h pA J J λv4 _ h=>S1 1 J<|cF h vE J J λv5 _ h=>S2 2 J<|c5 ?_;cases h;exact⟨J,[_,_],⟨oL J J J u7 p7 nl J,⟨J,tr⟩⟩,J,io⟩
theorem fv{a0}:PO Tryz.prog 208 [r8.Pv a0] (M4 a0) λr=>.tup [b9.Pv r.1,.I r.2]:=by
 refine pO Tryz.func208 λr h _ _=>?_;refine S4 3 J<|k9<|S4 4 J ?_;refine cN h (λhc h=>?_) λhc h=>?_
 .refine S3 8 J ?_;refine cF h tZ J J λv1 _ h=>S2 4 J<|c5 ?_;cases h;exact⟨J,[_,_],⟨oL J J J u7 p7 nl J,⟨J,tr⟩⟩,J,io⟩
 .refine c7 ?_;refine S3 5 J<|cA h W0 J J λv2 _ h=>S2 5 J<|k9<|S4 2 J ?_;refine cN h (λhc h=>?_) λhc h=>?_
  .refine S4 5 J ?_;refine c5 ?_;cases h;exact⟨J,[_,_],⟨oL J J J u7 p7 nl J,⟨J,tr⟩⟩,J,io⟩
  .refine c7 ?_;refine S3 9 J<|cF h tZ J J λv3 _ h=>S2 4 J<|c5 ?_;cases h;exact⟨J,[_,_],⟨oL J J J u7 p7 nl J,⟨J,tr⟩⟩,J,io⟩
theorem jS{a0}:PO Tryz.prog 209 [r8.Pv a0] (aX a0) λr=>.tup [b9.Pv r.1,.I r.2]:=by
 refine pO Tryz.func209 λr h _ _=>?_;unfold aX at h;refine S4 3 J<|dr [] s6 (by kernel_rfl) (by kernel_rfl)<|S7 7 J<|w7 h λv1 hv1 h=>d2 J (M0 J vf J hv1) J<|S7 2 J<|w7 h λv2 hv2 h=>dR J (u5 J K5 J hv2) J<|S7 2 J<|D4 (x':=b9.Pv v2.1) (cl':=true) J J (.inr J) p7<|S8 1 J<|c5 ?_;cases h;exact⟨J,[_,_],⟨oL J J J u7 p7 nl J,⟨J,tr⟩⟩,J,io⟩
theorem tU{a0 a1}:PO Tryz.prog 354 [.I a0,.I a1] (jw a0 a1) λr=>.fn (.func 364) [.rptr [.I r.1],.rptr [.I r.2]]:=by
 refine pO Tryz.func354 λr h _ _=>?_;unfold jw at h;refine S4 3 J<|S4 2 J<|c5 ?_;cases h;exact f1
theorem tR{a0 a1}:PO Tryz.prog 365 [.I a0,.I a1] (eH a0 a1) λr=>.I r:=by
 refine pO Tryz.func365 λr h _ _=>?_;refine S4 1 J<|k9<|S4 2 J ?_;refine cN h (λhc h=>?_) λhc h=>?_
 .refine S4 1 J ?_;refine c5 ?_;cases h;exact f1
 .refine c7 ?_;refine S3 4 J<|w7 h λv1 hv1 h=>y0 J (wJ J J hv1)<|S2 1 J<|k9<|S4 2 J ?_;refine cN h (λhc h=>?_) λhc h=>?_
  .refine S6 4 J ?_;refine S4 2 J<|c5 ?_;cases h;exact f1
  .refine c7 ?_;refine S4 2 J<|c5 ?_;cases h;exact f1
theorem np{a0 a1}:PO Tryz.prog 332 [.L g6.Pv a0,.I a1] (bf a0 a1) λr=>.I r:=by
 refine pO Tryz.func332 λr h _ _=>?_;refine S4 3 J ?_;refine jq h (λ_=>St.of [(4,.ptr 2001 0 0)] [(2001,vR (.I 0) 1)]) (λq9 h=>?_) λκ8 h=>?_
 .refine S4 1 J ?_;refine c5 ?_;cases h;exact⟨J,[_],⟨oS J J J G7 J,tr⟩,J,io⟩
 .refine S3 1 J ?_;refine nL J dP<|S1 1 J<|cF h tU J J λv10 _ h=>yN<|j5<|bM (sP (λl=>if l=2004 then 4 else if l=2005 then 3 else if l=2006 then 2 else l) [(2,.ptr 2006 0 0),(3,.ptr 2005 0 0),(4,.ptr 2004 0 0),(9,.fn (.func 364) [.rptr [.I v10.1],.rptr [.I v10.2]])] [(2004,vR (.I 0) 1),(2005,vR (.I a1) 1),(2006,vR (.L g6.Pv a0) 1)]) ?_;refine bX (fn:=Tryz.f364) (N1:=20) J Tryz.func364 J J nl J IX J J (λl17 e18 o19 hR20=>?_);refine S4 2 J<|j5<|lq h (λs12=>St.of [(1000002,.ptr 2006 0 0),(1000003,.ptr 2005 0 0),(1000004,.ptr 2004 0 0),(1000009,.fn (.func 364) [.rptr [.I v10.1],.rptr [.I v10.2]]),(0,.fn (.yield l17) []),(1,.rptr [.I v10.1]),(2,.rptr [.I v10.2]),(5,.I v10.1),(6,.I s12)] [(2004,vR (.I 0) 1),(2005,vR (.I a1) 1),(2006,vR (.L g6.Pv a0) 1)]) W λs12 x13 h hx23=>S4 1 J<|k9 ?_;refine cN h (λhc h=>?_) λhc h=>?_
  .refine c7 ?_;refine k9<|j5<|S4 2 J<|Zm [] 8 s6 (by kernel_rfl) (by kernel_rfl) (by kernel_rfl) (by kernel_rfl) nl<|S7 3 J<|w7 h λv14 hv24 h=>d2 J (M0 J tR J hv24) J<|S7 3 J<|w7 h λv15 hv25 h=>d7 J (λ_ hN=>wJ J J hv25) J<|J7<|DM (WE [(1000002,.ptr 2006 0 0),(1000003,.ptr 2005 0 0),(1000004,.ptr 2004 0 0),(1000009,.fn (.func 364) [.rptr [.I v10.1],.rptr [.I v10.2]]),(0,.fn (.yield l17) []),(1,.rptr [.I v10.1]),(2,.rptr [.I v10.2]),(5,.I v10.1),(6,.I s12),(9,.fn (.yield l17) []),(16,.I v15)] [(2004,vR (.I 0) 1),(2005,vR (.I a1) 1),(2006,vR (.L g6.Pv a0) 1)]) ?_;refine Ba J hR20 J J J J J J (λe26 o27 o28=>?_);refine S6 1 J ?_;refine⟨J,?_⟩;refine j5<|k9<|S3 2 J<|iL h J J dP dE λv16 hv29 h=>S2 3 J ?_;refine cN h (λhc h=>?_) λhc h=>?_
   .refine o0 ?_;refine c8<|mX (by decide) ?_;refine⟨J,?_⟩;refine⟨_,vh [(1000002,.ptr 2006 0 0),(1000003,.ptr 2005 0 0),(1000004,.ptr 2004 0 0),(1000009,.fn (.func 364) [.rptr [.I v10.1],.rptr [.I v10.2]]),(0,.fn (.yield l17) []),(1,.rptr [.I v10.1]),(2,.rptr [.I v10.2]),(5,.I v10.1),(6,.I s12),(17,.bool false)] [(2004,vR (.I 0) 1),(2005,vR (.I a1) 1),(2006,vR (.L g6.Pv a0) 1)] ⟨J,J,J,J,J,J,J,J,J,J,J,J,J,J,J,J,J,J,J,J,J,J,J,J,J,J,J,J,J,J,tr⟩ ⟨rS,rS,rS,tr⟩,?_⟩;refine S8 1 J ?_;refine H6 true J (λ_=>?_) (λq=>nomatch q);refine c5 ?_;refine .inr ⟨.exit 0,J,ZS ?_⟩;refine l6 ?_;have h:=xL hx23 h;exact eJ h (WP (λl=>if l=2001 then 2004 else l))
   .refine c7 ?_;refine dr [] s6 (by kernel_rfl) (by kernel_rfl)<|S7 2 J<|d0 J (J9 (f:=g6.Pv) (cs:=g6.Pc v16) hv29 J J dP dE J J) J<|S7 4 J<|tz J (λhg=>oS J J J CL J) J<|od J (λhg _ hN=>mI J) J ?_;refine tz J (λhg=>J9 (f:=g6.Pv) (cs:=g6.Pc v16) hv29 (ct hg) (ct hg) dP dE J J) J<|od J (λhg _ hN=>aO (ct hg) Lj J) J ?_;refine tz J (λhg=>W4 (ct hg) G7 J) J<|tz J (λhg=>oS J J J G7 J) J<|od J (λhg _ hN=>D6 (ct hg) (ct hg) J) J<|d7 J (λ_ hN=>C9 J J J (λq=>jM q)) J<|J7 ?_;refine cN h (λhc h=>?_) λhc h=>?_
    .refine S4 2 J ?_;refine c5 ?_;refine⟨J,?_⟩;refine⟨_,vh [(1000002,.ptr 2006 0 0),(1000003,.ptr 2005 0 0),(1000004,.ptr 2004 0 0),(1000009,.fn (.func 364) [.rptr [.I v10.1],.rptr [.I v10.2]]),(0,.fn (.yield l17) []),(1,.rptr [.I v10.1]),(2,.rptr [.I v10.2]),(5,.I v10.1),(6,.I s12),(17,.bool false)] [(2004,vR (.I v15) 1),(2005,vR (.I a1) 1),(2006,vR (.L g6.Pv a0) 1)] ⟨J,J,J,J,J,J,J,J,J,J,J,J,J,J,J,J,J,J,J,J,J,J,J,J,J,J,J,J,J,J,tr⟩ ⟨rS,rS,rS,tr⟩,?_⟩;refine S8 1 J ?_;refine H6 true J (λ_=>?_) (λq=>nomatch q);refine c5 ?_;refine .inr ⟨.ret,J,Si ?_⟩;have h:=xL hx23 h;cases h;exact⟨J,[_],⟨oS J J J G7 J,tr⟩,J,io⟩
    .refine c7 ?_;refine⟨J,?_⟩;refine⟨_,vh [(1000002,.ptr 2006 0 0),(1000003,.ptr 2005 0 0),(1000004,.ptr 2004 0 0),(1000009,.fn (.func 364) [.rptr [.I v10.1],.rptr [.I v10.2]]),(0,.fn (.yield l17) []),(1,.rptr [.I v10.1]),(2,.rptr [.I v10.2]),(5,.I v10.1),(6,.I s12),(17,.bool true)] [(2004,vR (.I 0) 1),(2005,vR (.I a1) 1),(2006,vR (.L g6.Pv a0) 1)] ⟨J,J,J,J,J,J,J,J,J,J,J,J,J,J,J,J,J,J,J,J,J,J,J,J,J,J,J,J,J,J,tr⟩ ⟨rS,rS,rS,tr⟩,?_⟩;refine S8 1 J ?_;refine H6 false J (λq=>nomatch q) (λ_=>?_);refine c7<|S6 2 J ?_;exact eL h W
  .refine o0 ?_;refine c8<|c8<|l6 ?_;refine .inl ⟨J,?_⟩;have h:=xL hx23 h;exact eJ h (WP (λl=>if l=2001 then 2004 else l))
theorem kQ{a0 a1}:PO Tryz.prog 326 [.L g6.Pv a0,.I a1] (Z8 a0 a1) λr=>.tup [.I r.1,.I r.2]:=by
 refine pO Tryz.func326 λr h _ _=>?_;refine S4 2 J<|S3 2 J<|cA h np J J λv1 _ h=>S2 1 J<|k9<|S4 2 J ?_;refine cN h (λhc h=>?_) λhc h=>?_
 .refine S4 2 J ?_;refine c5 ?_;cases h;exact f2
 .refine c7 ?_;refine S3 2 J<|iL h J J dP dE λv2 _ h=>S2 4 J<|c5 ?_;cases h;exact f2
theorem ck{a0}:MH Tryz.prog 355 [.L g6.Pv a0] (F5 a0) λr=>⟨List.map g6.Pv r,0,true,3,true⟩:=by
 refine Tc Tryz.func355 λr h _ _=>?_;unfold F5 at h;refine S4 1 J<|k9<|S3 1 J<|vi J dP λb hb=>yN ?_;refine H6 b J (λhc=>?_) (λhc=>?_)
 .obtain rfl:a0 = []:=by simpa using hb hc
  refine S4 1 J<|bM (E4 (t:=2) (l:=920000) (z:=3) J J)<|c5 ?_;cases h;exact⟨J,_,_,J,J,J,J⟩
 .refine c7 ?_;refine sR<|y0 J (W5 J dP dE)<|S1 1 J<|y1 J (wI (f:=g6.Pv) h J J (.inl ⟨_,J,J⟩) dP dE IU xD J (λ_=>J)) J<|S2 1 J<|c5 ?_;exact⟨J,_,_,J,J,J,J⟩
theorem nq{a0 a1 a2}:PO Tryz.prog 333 [.L g6.Pv a0,.I a1,g6.Pv a2] (eI a0 a1 a2) λr=>.L g6.Pv r:=by
 refine pO Tryz.func333 λr h _ _=>?_;unfold eI at h;refine S4 2 J<|S3 1 J<|w7 h λv1 hv1 h=>KW J (gb J ck J hv1) J J<|S2 1 J<|S3 3 J<|w7 h λv2 hv2 h=>y0 J (ba (f:=g6.Pv) hv2 J J J J dP dE J)<|oE (f:=g6.Pv) (v:=a2) hv2 J J (.inl J) dE<|yN<|S4 2 J<|c5 ?_;cases h;exact f1
theorem tQ{a0 a1}:PO Tryz.prog 291 [.L g6.Pv a0,.I a1] (bc a0 a1) λr=>.tup [.L g6.Pv r.1,.I r.2.1,.I r.2.2]:=by
 refine pO Tryz.func291 λr h _ _=>?_;refine S4 3 J<|S3 2 J<|cA h np J J λv1 _ h=>S2 1 J<|k9<|S4 2 J ?_;refine cN h (λhc h=>?_) λhc h=>?_
 .refine S4 4 J ?_;refine c5 ?_;cases h;exact f3
 .refine c7 ?_;refine dr [] s6 (by kernel_rfl) (by kernel_rfl)<|S7 2 J<|d7 J (λ_ hN=>o7 (cs:=[.I 2,.I 0,.I 0]) J Jb xD J J J) J<|w7 h λv2 hv2 h=>dR J (u5 J nq J hv2) J<|S7 2 J<|w7 h λv3 hv3 h=>d0 J (J9 (f:=g6.Pv) (cs:=g6.Pc v3) hv3 J J dP dE J J) J<|S8 5 J<|c5 ?_;cases h;exact f3
theorem FJ{a0 a1 a2}:PO Tryz.prog 351 [.L g6.Pv a0,.I a1,.I a2] (pw a0 a1 a2) λr=>.tup [.L g6.Pv r.1,.I r.2]:=by
 refine pO Tryz.func351 λr h _ _=>?_;refine S4 3 J<|S3 2 J<|y0 J (o7 (cs:=[.I 1,.I a1,.I a2]) J Jb xD J J J)<|S2 2 J<|k9<|S3 2 J<|cA h np J J λv1 _ h=>S2 1 J<|S4 2 J ?_;refine cN h (λhc h=>?_) λhc h=>?_
 .refine S3 3 J ?_;refine cF h nq J J λv2 _ h=>S2 2 J<|c5 ?_;cases h;exact⟨J,[_,_],⟨oS J J J CL J,⟨oS J J J vl J,tr⟩⟩,J,io⟩
 .refine c7 ?_;refine jq h (λ_=>St.of [(3,.ptr 2004 0 0),(6,.ptr 2003 0 0),(7,.ptr 2002 0 0)] [(2002,vR (.I 0) 1),(2003,vR (.nl) 1),(2004,vR (.L g6.Pv a0) 1)]) (λq12 h=>?_) λκ11 h=>?_
  .refine S4 3 J ?_;refine c5 ?_;cases h;exact⟨J,[_,_],⟨oS J J J CL J,⟨oS J J J vl J,tr⟩⟩,J,io⟩
  .refine S3 1 J ?_;refine nL J dP<|S1 1 J<|cF h tU J J λv13 _ h=>yN<|j5<|bM (sP (λl=>if l=2005 then 8 else if l=2006 then 7 else if l=2007 then 6 else if l=2008 then 3 else l) [(3,.ptr 2008 0 0),(6,.ptr 2007 0 0),(7,.ptr 2006 0 0),(8,.ptr 2005 0 0),(26,.fn (.func 364) [.rptr [.I v13.1],.rptr [.I v13.2]])] [(2005,vR (.agg [.I 1,.I a1,.I a2]) 3),(2006,vR (.I 0) 1),(2007,vR (.nl) 1),(2008,vR (.L g6.Pv a0) 1)]) ?_;refine bX (fn:=Tryz.f364) (N1:=20) J Tryz.func364 J J nl J IX J J (λl20 e21 o22 hR23=>?_);refine S4 2 J<|j5<|lq h (λs15=>St.of [(1000003,.ptr 2008 0 0),(1000006,.ptr 2007 0 0),(1000007,.ptr 2006 0 0),(1000008,.ptr 2005 0 0),(1000026,.fn (.func 364) [.rptr [.I v13.1],.rptr [.I v13.2]]),(0,.fn (.yield l20) []),(1,.rptr [.I v13.1]),(2,.rptr [.I v13.2]),(5,.I v13.1),(6,.I s15)] [(2005,vR (.agg [.I 1,.I a1,.I a2]) 3),(2006,vR (.I 0) 1),(2007,vR (.nl) 1),(2008,vR (.L g6.Pv a0) 1)]) W λs15 x16 h hx26=>S4 1 J<|k9 ?_;refine cN h (λhc h=>?_) λhc h=>?_
   .refine c7 ?_;refine k9<|j5<|S4 2 J<|Zm [] 8 s6 (by kernel_rfl) (by kernel_rfl) (by kernel_rfl) (by kernel_rfl) nl<|S7 3 J<|w7 h λv17 hv27 h=>d2 J (M0 J tR J hv27) J<|S7 3 J<|w7 h λv18 hv28 h=>d7 J (λ_ hN=>wJ J J hv28) J<|J7<|DM (WE [(1000003,.ptr 2008 0 0),(1000006,.ptr 2007 0 0),(1000007,.ptr 2006 0 0),(1000008,.ptr 2005 0 0),(1000026,.fn (.func 364) [.rptr [.I v13.1],.rptr [.I v13.2]]),(0,.fn (.yield l20) []),(1,.rptr [.I v13.1]),(2,.rptr [.I v13.2]),(5,.I v13.1),(6,.I s15),(9,.fn (.yield l20) []),(16,.I v18)] [(2005,vR (.agg [.I 1,.I a1,.I a2]) 3),(2006,vR (.I 0) 1),(2007,vR (.nl) 1),(2008,vR (.L g6.Pv a0) 1)]) ?_;refine Ba J hR23 J J J J J J (λe29 o30 o31=>?_);refine S6 1 J ?_;refine⟨J,?_⟩;refine j5<|S3 2 J<|iL h J J dP dE λv19 _ h=>S2 3 J ?_;refine cN h (λhc h=>?_) λhc h=>?_
    .refine S3 3 J ?_;refine cF h nq J J λv20 _ h=>S2 2 J<|c5 ?_;refine⟨J,?_⟩;refine⟨_,vh [(1000003,.ptr 2008 0 0),(1000006,.ptr 2007 0 0),(1000007,.ptr 2006 0 0),(1000008,.ptr 2005 0 0),(1000026,.fn (.func 364) [.rptr [.I v13.1],.rptr [.I v13.2]]),(0,.fn (.yield l20) []),(1,.rptr [.I v13.1]),(2,.rptr [.I v13.2]),(5,.I v13.1),(6,.I s15),(17,.bool false)] [(2005,vR (.agg [.I 1,.I a1,.I a2]) 3),(2006,vR (.I 0) 1),(2007,vR (.L g6.Pv v20) 1),(2008,vR (.L g6.Pv a0) 1)] ⟨J,J,J,J,J,J,J,J,J,J,J,J,J,J,J,J,J,J,J,J,J,J,J,J,J,J,J,J,J,J,J,J,J,tr⟩ ⟨rS,rS,rS,rS,tr⟩,?_⟩;refine S8 1 J ?_;refine H6 true J (λ_=>?_) (λq=>nomatch q);refine c5 ?_;refine .inr ⟨.ret,J,Si ?_⟩;have h:=xL hx26 h;cases h;exact⟨J,[_,_],⟨oS J J J CL J,⟨oS J J J vl J,tr⟩⟩,J,io⟩
    .refine c7 ?_;refine⟨J,?_⟩;refine⟨_,vh [(1000003,.ptr 2008 0 0),(1000006,.ptr 2007 0 0),(1000007,.ptr 2006 0 0),(1000008,.ptr 2005 0 0),(1000026,.fn (.func 364) [.rptr [.I v13.1],.rptr [.I v13.2]]),(0,.fn (.yield l20) []),(1,.rptr [.I v13.1]),(2,.rptr [.I v13.2]),(5,.I v13.1),(6,.I s15),(17,.bool true)] [(2005,vR (.agg [.I 1,.I a1,.I a2]) 3),(2006,vR (.I 0) 1),(2007,vR (.nl) 1),(2008,vR (.L g6.Pv a0) 1)] ⟨J,J,J,J,J,J,J,J,J,J,J,J,J,J,J,J,J,J,J,J,J,J,J,J,J,J,J,J,J,J,J,J,J,tr⟩ ⟨rS,rS,rS,rS,tr⟩,?_⟩;refine S8 1 J ?_;refine H6 false J (λq=>nomatch q) (λ_=>?_);refine c7<|S6 2 J ?_;exact eL h W
   .refine o0 ?_;refine c8<|c8<|l6 ?_;refine .inl ⟨J,?_⟩;have h:=xL hx26 h;exact eJ h (WP (λl=>if l=2004 then 2008 else if l=2003 then 2007 else if l=2002 then 2006 else l))
theorem Df{a0 a1 a2}:PO Tryz.prog 324 [.L g6.Pv a0,.I a1,.I a2] (V5 a0 a1 a2) λr=>.tup [.L g6.Pv r.1,.I r.2.1,.I r.2.2]:=by
 refine pO Tryz.func324 λr h _ _=>?_;refine S4 3 J<|k9<|S4 2 J ?_;refine cN h (λhc h=>?_) λhc h=>?_
 .refine S4 4 J ?_;refine c5 ?_;cases h;exact f3
 .refine c7 ?_;refine S3 2 J<|cA h kQ J J λv1 _ h=>S2 5 J<|k9<|S4 2 J ?_;refine cN h (λhc h=>?_) λhc h=>?_
  .refine S3 2 J ?_;refine cF h tQ J J λv2 _ h=>S2 7 J<|S4 5 J<|c5 ?_;cases h;exact f3
  .refine c7 ?_;refine S3 3 J<|cF h FJ J J λv3 _ h=>S2 5 J<|k9<|S4 2 J ?_;refine cN h (λhc h=>?_) λhc h=>?_
   .refine S4 5 J ?_;refine c5 ?_;cases h;exact f3
   .refine c7 ?_;refine S4 5 J<|c5 ?_;cases h;exact f3
theorem oH{a0 a1}:PO Tryz.prog 325 [L7.Pv a0,b9.Pv a1] (aJ a0 a1) λr=>b9.Pv r:=by
 refine pO Tryz.func325 λr h _ _=>?_;unfold aJ at h;refine S4 3 J<|S4 4 J<|S4 2 J<|c5 ?_;cases h;exact⟨J,[_],⟨oL J J J u7 p7 nl J,tr⟩,J,io⟩
theorem dU{a0 a1 a2 a3}:PO Tryz.prog 320 [b9.Pv a0,.I a1,.I a2,.abs (Ub 325 [L7.Pv a3])] (E5 a0 a1 a2 a3) λr=>b9.Pv r:=by
 refine pO Tryz.func320 λr h _ _=>?_;refine S4 2 J<|S3 3 J<|cF h fi J J λv1 _ h=>w7 h λv2 hv2 h=>ED (xs:=[b9.Pv v1]) J J QW J (oH.2 _ hv2)<|S1 1 J<|cF h aW J J λv3 _ h=>S2 1 J<|c5 ?_;cases h;exact⟨J,[_],⟨oL J J J u7 p7 nl J,tr⟩,J,io⟩
theorem Dv{a0 a1 a2}:PO Tryz.prog 284 [b9.Pv a0,.I a1,.I a2] (cC a0 a1 a2) λr=>.tup [b9.Pv r.1,.I r.2]:=by
 refine pO Tryz.func284 λr h _ _=>?_;refine S4 3 J<|k9<|S4 2 J ?_;refine cN h (λhc h=>?_) λhc h=>?_
 .refine S4 3 J ?_;refine c5 ?_;cases h;exact⟨J,[_,_],⟨oL J J J u7 p7 nl J,⟨J,tr⟩⟩,J,io⟩
 .refine c7 ?_;refine k9<|S3 2 J<|cA h aa J J λv1 _ h=>S1 2 J<|m7 J (λhg=>oL J J J u7 p7 nl J)<|m7 J (λhg=>mI J)<|w7 h λv2 hv2 h=>m7 J (λhg=>M0 J aa (D3 (ct hg) (D3 (ct hg) J)) (O6 hv2 hg))<|m7 J (λhg=>cV (ct hg) J)<|y0 J (I5 J J J (λq=>kq q))<|yN ?_;refine cN h (λhc h=>?_) λhc h=>?_
  .refine S4 3 J ?_;refine c5 ?_;cases h;exact⟨J,[_,_],⟨oL J J J u7 p7 nl J,⟨J,tr⟩⟩,J,io⟩
  .refine c7 ?_;refine S3 4 J<|cF h Df J J λv3 _ h=>S2 7 J<|k9<|S4 2 J ?_;refine cN h (λhc h=>?_) λhc h=>?_
   .refine S4 4 J ?_;refine c5 ?_;cases h;exact⟨J,[_,_],⟨oL J J J u7 p7 nl J,⟨J,tr⟩⟩,J,io⟩
   .refine c7 ?_;refine S3 4 J<|y0 J (o7 (cs:=[.L g6.Pv v3.1]) J Rm RB J J J)<|y0 J (vV (d:=.agg [.L g6.Pv v3.1]) J)<|cF h dU J J λv4 _ h=>S2 2 J<|c5 ?_;cases h;exact⟨J,[_,_],⟨oL J J J u7 p7 nl J,⟨J,tr⟩⟩,J,io⟩
theorem ir{a0}:PO Tryz.prog 210 [r8.Pv a0] (bI a0) λr=>.tup [b9.Pv r.1,.I r.2]:=by
 refine pO Tryz.func210 λr h _ _=>?_;refine S4 3 J<|S3 5 J<|cA h W0 J J λv1 _ h=>S2 5 J<|k9<|S4 2 J ?_;refine cN h (λhc h=>?_) λhc h=>?_
 .refine S4 5 J ?_;refine c5 ?_;cases h;exact⟨J,[_,_],⟨oL J J J u7 p7 nl J,⟨J,tr⟩⟩,J,io⟩
 .refine c7 ?_;refine dr [] s6 (by kernel_rfl) (by kernel_rfl)<|S7 8 J<|w7 h λv2 hv2 h=>d2 J (M0 J Q7 J hv2) J<|w7 h λv3 hv3 h=>dR J (u5 J Dv J hv3) J<|S7 2 J<|D4 (x':=b9.Pv v3.1) (cl':=true) J J (.inr J) p7<|S8 1 J<|c5 ?_;cases h;exact⟨J,[_,_],⟨oL J J J u7 p7 nl J,⟨J,tr⟩⟩,J,io⟩
theorem De{a0 a1}:PO Tryz.prog 285 [.L g6.Pv a0,.I a1] (vt a0 a1) λr=>.tup [.I r.1,.I r.2]:=by
 refine pO Tryz.func285 λr h _ _=>?_;refine S4 2 J<|S3 2 J<|cA h kQ J J λv1 _ h=>S2 4 J<|c5 ?_;cases h;exact f2
theorem iZ{a0}:PO Tryz.prog 211 [r8.Pv a0] (cE a0) λr=>.tup [b9.Pv r.1,.I r.2]:=by
 refine pO Tryz.func211 λr h _ _=>?_;refine S4 3 J<|S3 5 J<|cA h W0 J J λv1 _ h=>S2 5 J<|k9<|S4 2 J ?_;refine cN h (λhc h=>?_) λhc h=>?_
 .refine S4 5 J ?_;refine c5 ?_;cases h;exact⟨J,[_,_],⟨oL J J J u7 p7 nl J,⟨J,tr⟩⟩,J,io⟩
 .refine c7 ?_;refine dr [] s6 (by kernel_rfl) (by kernel_rfl)<|S7 5 J<|w7 h λv2 hv2 h=>d2 J (M0 J De J hv2) J<|S7 2 J<|w7 h λv3 hv3 h=>dR J (u5 J K5 J hv3) J<|S7 2 J<|D4 (x':=b9.Pv v3.1) (cl':=true) J J (.inr J) p7<|S8 1 J<|c5 ?_;cases h;exact⟨J,[_,_],⟨oL J J J u7 p7 nl J,⟨J,tr⟩⟩,J,io⟩
theorem fZ{a0}:PO Tryz.prog 212 [r8.Pv a0] (U3 a0) λr=>.tup [b9.Pv r.1,.I r.2]:=by
 refine pO Tryz.func212 λr h _ _=>?_;unfold U3 at h;refine S4 3 J<|S4 4 J<|c5 ?_;cases h;exact⟨J,[_,_],⟨oL J J J u7 p7 nl J,⟨J,tr⟩⟩,J,io⟩
theorem HU{f:Fv}{a0:r8}{r:b9 × Int}(h:xN f a0=some r):∃n,f=some n/\B7 Tryz.prog n/\bq Tryz.prog n [r8.Pv a0] (.tup [b9.Pv r.1,.I r.2]):=by
 unfold xN at h;by_cases e203:f=some 203
 .rw[zb e203] at h;exact⟨203,e203,(@fu a0).1,(@fu a0).2 _ h⟩
 rw[za e203] at h;by_cases e204:f=some 204
 .rw[zb e204] at h;exact⟨204,e204,(@cU a0).1,(@cU a0).2 _ h⟩
 rw[za e204] at h;by_cases e205:f=some 205
 .rw[zb e205] at h;exact⟨205,e205,(@il a0).1,(@il a0).2 _ h⟩
 rw[za e205] at h;by_cases e206:f=some 206
 .rw[zb e206] at h;exact⟨206,e206,(@iq a0).1,(@iq a0).2 _ h⟩
 rw[za e206] at h;by_cases e207:f=some 207
 .rw[zb e207] at h;exact⟨207,e207,(@ga a0).1,(@ga a0).2 _ h⟩
 rw[za e207] at h;by_cases e208:f=some 208
 .rw[zb e208] at h;exact⟨208,e208,(@fv a0).1,(@fv a0).2 _ h⟩
 rw[za e208] at h;by_cases e209:f=some 209
 .rw[zb e209] at h;exact⟨209,e209,(@jS a0).1,(@jS a0).2 _ h⟩
 rw[za e209] at h;by_cases e210:f=some 210
 .rw[zb e210] at h;exact⟨210,e210,(@ir a0).1,(@ir a0).2 _ h⟩
 rw[za e210] at h;by_cases e211:f=some 211
 .rw[zb e211] at h;exact⟨211,e211,(@iZ a0).1,(@iZ a0).2 _ h⟩
 rw[za e211] at h;by_cases e212:f=some 212
 .rw[zb e212] at h;exact⟨212,e212,(@fZ a0).1,(@fZ a0).2 _ h⟩
 rw[za e212] at h;cases h
theorem lL{a0}:PO Tryz.prog 233 [.I a0] (dm a0) λr=>.bool r:=by
 refine pO Tryz.func233 λr h _ _=>?_;unfold dm at h;refine S4 1 J<|S4 4 J<|c5 ?_;cases h;exact f1
theorem rR{a0 a1}:PO Tryz.prog 135 [.I a0,.I a1] (iD a0 a1) λr=>.I r:=by
 refine pO Tryz.func135 λr h _ _=>?_;refine S4 1 J<|S3 1 J<|cA h lL J J λv1 _ h=>S2 1 J<|S3 1 J<|cA h lL J J λv2 _ h=>S2 1 J<|k9<|S4 1 J ?_;refine cN h (λhc h=>?_) λhc h=>?_
 .refine k9 ?_;refine S4 1 J ?_;refine cN h (λhc h=>?_) λhc h=>?_
  .refine S4 1 J ?_;refine c5 ?_;cases h;exact f1
  .refine c7 ?_;refine S4 1 J<|c5 ?_;cases h;exact f1
 .refine c7 ?_;refine k9<|S4 1 J ?_;refine cN h (λhc h=>?_) λhc h=>?_
  .refine S4 1 J ?_;refine c5 ?_;cases h;exact f1
  .refine c7 ?_;refine k9<|S4 3 J ?_;refine cN h (λhc h=>?_) λhc h=>?_
   .refine S4 1 J ?_;refine c5 ?_;cases h;exact f1
   .refine c7 ?_;refine k9<|S4 3 J ?_;refine cN h (λhc h=>?_) λhc h=>?_
    .refine S4 1 J ?_;refine c5 ?_;cases h;exact f1
    .refine c7 ?_;refine S4 1 J<|c5 ?_;cases h;exact f1
theorem xw{a0 a1 a2}:PO Tryz.prog 134 [.I a0,.I a1,.rptr [.abs (V0 (List.map (cv iF iF) a2))]] (jr a0 a1 a2) λr=>.I r:=by
 refine pO Tryz.func134 λr h _ _=>?_;refine S4 1 J<|S3 2 J<|y0 J (Cq (es:=a2) (k:=a0) (E:=iF) (EK:=iF) (d:=.I ((A0 a2 a0).getD (0:Int))) J J yi (y4 J1) C5 J (Ou _ _ _))<|S1 2 J<|y0 J (Cq (es:=a2) (k:=a1) (E:=iF) (EK:=iF) (d:=.I ((A0 a2 a1).getD (0:Int))) J J yi (y4 J1) C5 J (Ou _ _ _))<|cA h rR J J λv1 _ h=>S2 1 J<|c5 ?_;cases h;exact f1
theorem T5{a0}:PO Tryz.prog 69 [b6.Pv a0] (G5 a0) λr=>.L iF r:=by
 refine pO Tryz.func69 λr h _ _=>?_;refine S4 2 J<|S4 1 J<|sR<|CG (KT:=Int) (VT:=Int) (EK:=iF) (E:=iF) 5000008 J J<|S2 2 J ?_;refine jq h (λq=>St.of [(3,.sl 910003),(4,.ptr 4 0 0)] [(4,vS (.mp 5000008) 1),(5000008,⟨[.mapc (List.map (cv iF iF) q.1)],0,false,0,false⟩),(910003,⟨List.map iF q.2,0,true,1,true⟩)]) (λq20 h=>?_) λκ17 h=>?_
 .obtain⟨j18,j19⟩:=q20;refine S3 2 J<|O5 (Wk.trans (TY 5000008 nl J) (Xx 4 0 5000008 J J J J))<|w7 h λv21 hv12 h=>XA hv12 J J QQ Xn J J J QR J J J J J (λp q r h=>xw.2 r h)<|yN<|S4 2 J<|c5 ?_;cases h;exact f1
 .refine S3 3 J ?_;refine nL J br<|S2 1 J<|j5<|lq h (λq=>St.of [(3,.sl 910003),(4,.ptr 4 0 0),(11,.L c9.Pv a0.S.b7),(12,.I (a0.S.b7.length:Int)),(13,.I q.1)] [(4,vS (.mp 5000008) 1),(5000008,⟨[.mapc (List.map (cv iF iF) q.2.1)],0,false,0,false⟩),(910003,⟨List.map iF q.2.2,0,true,1,true⟩)]) (Wk.trans (E4 (t:=3) (l:=920003) (z:=1) J J) (WP (λl=>if l=910003 then 920003 else l))) λq27 x26 h hx15=>?_;obtain⟨s23,s24,s25⟩:=q27;refine S4 1 J<|k9 ?_;refine cN h (λhc h=>?_) λhc h=>?_
  .refine c7 ?_;refine jq h (λq=>St.of [(3,.sl 33),(4,.ptr 4 0 0),(11,.L c9.Pv a0.S.b7),(12,.I (a0.S.b7.length:Int)),(13,.I s23)] [(4,vS (.mp 5000008) 1),(5000008,⟨[.mapc (List.map (cv iF iF) q.1)],0,false,0,false⟩),(33,⟨List.map iF q.2,0,true,1,true⟩)]) (λq34 h=>?_) λκ31 h=>?_
   .obtain⟨j32,j33⟩:=q34;refine S6 2 J ?_;exact eL h (WP (λl=>if l=910003 then 33 else l))
   .refine j5 ?_;refine S3 1 J<|iL h J J br aB λv35 _ h=>S2 4 J<|S4 3 J ?_;refine cN h (λhc h=>?_) λhc h=>?_
    .refine S3 3 J ?_;refine cA h po J J λv36 _ h=>S2 1 J<|S3 5 J<|ar (es:=s24) (k:=v36) (v:=v35.Val.Serial) (E:=iF) (EK:=iF) (.inl J) J J J J J J yi (y4 J1)<|yN<|S5 2 J<|y0 J (H4 (f:=iF) (l:=[v36]) J l7 o6 C5 J J nl J J)<|w7 h λv37 hv22 h=>Zc (f:=iF) (b:=8) [(4,.ptr 4 0 0),(11,.L c9.Pv a0.S.b7),(12,.I (a0.S.b7.length:Int)),(13,.I s23),(14,.bool (decide (s23<(a0.S.b7.length:Int)))),(15,.I s23),(16,.rptr (c9.Pc v35)),(17,c9.Pv v35),(6,.ptr 6 0 0),(5,.I s23),(18,.ptr 6 0 0),(19,.I v35.State),(20,.bool (v35.State==1)),(21,.I s23),(22,.ptr 6 0 1),(23,.I v35.Gen),(24,.I v36),(7,.I v36),(25,.mp 5000008),(26,.I v36),(27,.ptr 6 0 2),(28,.ptr 6 0 2),(29,.I v35.Val.Serial),(31,.I v36),(32,.lst true (List.map iF [v36]))] [(6,vR (c9.Pv v35) 8),(5000008,⟨[.mapc (List.map (cv iF iF) (p6 s24 v36 v35.Val.Serial))],0,false,0,false⟩),(4,vS (.mp 5000008) 1)] J hv22 ⟨J,J,J,J,J,J,J,J,J,J,J,J,J,J,J,J,J,J,J,J,J,J,J,J,J,J,J,J,J,J,J,J,J,J,J,J,J,J,J,J,J,J,J,J,J,J,J,J,J,J,J,J,J,J,J,J,J,J,J,J,J,J,J,J,J,J,J,J,J,J,J,J,J,J,J,tr⟩ ⟨rS,Y3 J J J (λq=>nomatch q) J J J J,Y3 J J J (λq=>nomatch q) J J J J,tr⟩ J J J J (.inl ⟨_,J,J⟩) l7 o6 Q9 C5 J (λ_=>J)<|S2 1 J ?_;exact eJ h W
    .refine c7 ?_;exact eJ h (WP (λl=>if l=33 then 910003 else l))
  .refine o0 ?_;refine c8<|c8<|l6 ?_;have h:=xL hx15 h;exact eJ h W
theorem AF{a0}:PO Tryz.prog 213 [b9.Pv a0] (eQ a0) λr=>.L iF r:=by
 refine pO Tryz.func213 λr h _ _=>?_;refine S4 2 J<|S4 1 J ?_;refine jq h (λj16=>St.of [(3,.sl 910003)] [(910003,⟨List.map iF j16,(List.map iF j16).length,true,1,true⟩)]) (λj16 h=>?_) λκ15 h=>?_
 .refine S4 2 J ?_;refine c5 ?_;cases h;exact f1
 .refine S3 2 J ?_;refine cF h T5 J J λv17 _ h=>nL J l7<|S2 1 J<|j5<|lq h (λq=>St.of [(1,.ptr 1 0 0),(3,.sl 910003),(10,.L iF v17),(11,.I (v17.length:Int)),(12,.I q.1)] [(1,vR (b9.Pv a0) 8),(910003,⟨List.map iF q.2,(List.map iF q.2).length,true,1,true⟩)]) (Wk.trans (E4 (t:=3) (l:=920003) (z:=1) J J) (WP (λl=>if l=910003 then 920003 else l))) λq22 x21 h hx16=>?_;obtain⟨s19,s20⟩:=q22;refine S4 1 J<|k9 ?_;refine cN h (λhc h=>?_) λhc h=>?_
  .refine c7 ?_;refine jq h (λj27=>St.of [(1,.ptr 1 0 0),(3,.sl 29),(10,.L iF v17),(11,.I (v17.length:Int)),(12,.I s19)] [(29,⟨List.map iF j27,(List.map iF j27).length,true,1,true⟩),(1,vR (b9.Pv a0) 8)]) (λj27 h=>?_) λκ26 h=>?_
   .refine S6 2 J ?_;exact eL h (Wk.trans (m9 _ [29]) (WP (λl=>if l=910003 then 29 else l)))
   .refine j5 ?_;refine sR<|iL h J J l7 o6 λv28 _ h=>S2 2 J<|S3 3 J<|cF h D2 J J λv29 _ h=>S2 6 J<|S4 3 J ?_;refine cN h (λhc h=>?_) λhc h=>?_
    .refine S5 2 J ?_;refine y0 J (H4 (f:=iF) (l:=[v28]) J l7 o6 C5 J J nl J J)<|w7 h λv30 hv23 h=>H3 J (F7 (f:=iF) hv23 J J J J J J (.inl ⟨_,J,J⟩) l7 o6 Q9 C5 J (λ_=>J)) J J J<|S2 1 J ?_;exact eJ h (Wk.trans (m9 _ [29]) W)
    .refine c7 ?_;exact eJ h (Wk.trans (m9 _ [910003]) (WP (λl=>if l=29 then 910003 else l)))
  .refine o0 ?_;refine c8<|c8<|l6 ?_;have h:=xL hx16 h;exact eJ h (Wk.trans (m9 _ [910003]) W)
theorem lg{a0}:PO Tryz.prog 214 [n8.Pv a0] (P9 a0) λr=>.bool r:=by
 refine pO Tryz.func214 λr h _ _=>?_;unfold P9 at h;refine S4 2 J<|S3 4 J<|m7 J (λhg=>oF J BN J)<|m7 J (λhg=>oS (ct hg) J J kJ J)<|m7 J (λhg=>cV (ct hg) J)<|y0 J (C9 J J J (λq=>jM q))<|S2 1 J<|c5 ?_;cases h;exact f1
theorem mj{a0 a1}:PO Tryz.prog 287 [g8.Pv a0,g5.Pv a1] (W8 a0 a1) λr=>.tup [g8.Pv r.1,.I r.2]:=by
 refine pO Tryz.func287 λr h _ _=>?_;unfold W8 at h;refine S4 4 J<|k9<|dr [] s6 (by kernel_rfl) (by kernel_rfl)<|S7 1 J<|w7 h λv1 hv1 h=>d2 J (M0 J T0 J hv1) J<|S8 3 J ?_;refine cN h (λhc h=>?_) λhc h=>?_
 .refine S4 3 J ?_;refine c5 ?_;cases h;exact⟨J,[_,_],⟨oL J J J jG cX nl J,⟨J,tr⟩⟩,J,io⟩
 .refine c7 ?_;refine dr [] s6 (by kernel_rfl) (by kernel_rfl)<|S7 3 J<|d2 J (M0 J T0 J hv1) J<|w7 h λv2 hv2 h=>dR J (u5 J ak J hv2) J<|S7 1 J<|XE J (H4 (f:=g5.Pv) (l:=[a1]) J J2 D0 aD J J nl J J) J<|w7 h λv3 hv3 h=>d3 J (wI (f:=g5.Pv) hv3 J J (.inl ⟨_,J,J⟩) J2 D0 mS aD J (λ_=>J)) J J J<|S7 1 J<|D4 (x':=.agg [.sl 19,.I a0.Cap]) (cl':=false) J J (.inl J) vn<|J7<|S4 3 J<|c5 ?_;cases h;exact⟨J,[_,_],⟨oL J J J jG cX nl J,⟨J,tr⟩⟩,J,io⟩
theorem wN{a0 a1}:PO Tryz.prog 220 [g8.Pv a0,g5.Pv a1] (qf a0 a1) λr=>.tup [g8.Pv r.1,.I r.2]:=by
 refine pO Tryz.func220 λr h _ _=>?_;refine S4 4 J<|S3 2 J<|cF h mj J J λv1 _ h=>S2 4 J<|c5 ?_;cases h;exact⟨J,[_,_],⟨oL J J J jG cX nl J,⟨J,tr⟩⟩,J,io⟩
theorem mC{a0 a1}:PO Tryz.prog 127 [b9.Pv a0,.I a1] (Y4 a0 a1) λr=>b9.Pv r:=by
 refine pO Tryz.func127 λr h _ _=>?_;refine S4 2 J<|S3 3 J<|cF h D2 J J λv1 _ h=>S2 6 J<|k9<|S3 3 J<|m7 J (λhg=>oL J J J sV kK nl J)<|w7 h λv2 hv2 h=>m7 J (λhg=>M0 J lg (D3 (ct hg) J) (O6 hv2 hg))<|m7 J (λhg=>cV (ct hg) J)<|y0 J (I5 J J J (λq=>kq q))<|yN ?_;refine cN h (λhc h=>?_) λhc h=>?_
 .refine S4 2 J ?_;refine c5 ?_;cases h;exact⟨J,[_],⟨oL J J J u7 p7 nl J,tr⟩,J,io⟩
 .refine c7 ?_;refine S4 2 J<|S3 4 J<|cF h cQ J J λv3 _ h=>S2 5 J<|S3 5 J<|y0 J (o7 (cs:=[.I 1,.I a1,.I v1.1.Prog]) J sW aD J J J)<|cF h wN J J λv4 _ h=>S2 5 J<|S3 2 J<|cF h fi J J λv5 _ h=>S2 1 J<|c5 ?_;cases h;exact⟨J,[_],⟨oL J J J u7 p7 nl J,tr⟩,J,io⟩
theorem qY{a0 a1}:PO Tryz.prog 222 [b9.Pv a0,.L iF a1] (al a0 a1) λr=>.L iF r:=by
 refine pO Tryz.func222 λr h _ _=>?_;refine S4 2 J<|sR<|CG (KT:=Int) (VT:=Bool) (EK:=iF) (E:=PV.bool) 5000011 J J<|S2 1 J<|S4 1 J ?_;refine jq h (λj18=>St.of [(6,.sl 910006)] [(910006,⟨List.map iF j18,(List.map iF j18).length,true,1,true⟩)]) (λj18 h=>?_) λκ17 h=>?_
 .refine S4 2 J ?_;refine c5 ?_;cases h;exact f1
 .refine S3 1 J ?_;refine nL J l7<|S2 1 J<|j5<|lq h (λq=>St.of [(2,.ptr 2 0 0),(5,.mp 5000011),(6,.sl 910006),(12,.L iF a1),(13,.I (a1.length:Int)),(14,.I q.1)] [(5000011,⟨[.mapc (List.map (cv iF PV.bool) q.2.1)],0,false,0,false⟩),(2,vR (b9.Pv a0) 8),(910006,⟨List.map iF q.2.2,(List.map iF q.2.2).length,true,1,true⟩)]) (Wk.trans (E4 (t:=6) (l:=920006) (z:=1) J J) (WP (λl=>if l=910006 then 920006 else l))) λq24 x23 h hx16=>?_;obtain⟨s20,s21,s22⟩:=q24;refine S4 1 J<|k9 ?_;refine cN h (λhc h=>?_) λhc h=>?_
  .refine c7 ?_;refine jq h (λq=>St.of [(2,.ptr 2 0 0),(5,.mp 5000011),(6,.sl 38),(12,.L iF a1),(13,.I (a1.length:Int)),(14,.I s20)] [(38,⟨List.map iF q.1,(List.map iF q.1).length,true,1,true⟩),(5000011,⟨[.mapc (List.map (cv iF PV.bool) q.2)],0,false,0,false⟩),(2,vR (b9.Pv a0) 8)]) (λq31 h=>?_) λκ28 h=>?_
   .obtain⟨j29,j30⟩:=q31;refine S6 2 J ?_;exact eL h (Wk.trans (m9 _ [38]) (WP (λl=>if l=910006 then 38 else l)))
   .refine j5 ?_;refine sR<|iL h J J l7 o6 λv32 _ h=>S2 2 J<|S3 3 J<|cF h D2 J J λv33 _ h=>S2 6 J<|S3 3 J<|m7 J (λhg=>om (d:=.mp 5000011) J)<|m7 J (λhg=>mI J) ?_;rcases zaq ((v33.2==0)==true) with hg24 | hg24
    .have h:=Se h hg24;refine CF (es:=s21) (k:=v32) (E:=PV.bool) (EK:=iF) (d:=.bool ((A0 s21 v32).getD (false:Bool))) (zP some hg24) (ct hg24) J (ct hg24) R1 (y4 J1) te J (Ou _ _ _)<|y0 (zP some hg24) (cV J J)<|y0 J (ji J J hg24)<|yN ?_;refine cN h (λhc h=>?_) λhc h=>?_
     .refine S3 2 J ?_;refine ar (es:=s21) (k:=v32) (v:=true) (E:=PV.bool) (EK:=iF) (.inl J) J J J J J J R1 (y4 J1)<|yN<|S5 2 J<|y0 J (H4 (f:=iF) (l:=[v32]) J l7 o6 C5 J J nl J J)<|w7 h λv34 hv25 h=>H3 J (F7 (f:=iF) hv25 J J J J J J (.inl ⟨_,J,J⟩) l7 o6 Q9 C5 J (λ_=>J)) J J J<|S2 1 J ?_;exact eJ h (Wk.trans (m9 _ [38]) W)
     .refine c7 ?_;exact eJ h (Wk.trans (m9 _ [910006]) (WP (λl=>if l=38 then 910006 else l)))
    .have h:=Sd h hg24;refine df (zP some hg24)<|df (zP some hg24)<|y0 J (jh J J hg24)<|yN ?_;refine H6 false J (λq=>nomatch q) (λ_=>?_);refine c7 ?_;exact eJ h (Wk.trans (m9 _ [910006]) (WP (λl=>if l=38 then 910006 else l)))
  .refine o0 ?_;refine c8<|c8<|l6 ?_;have h:=xL hx16 h;exact eJ h (Wk.trans (m9 _ [910006]) W)
theorem uT{a0 a1}:PO Tryz.prog 223 [b9.Pv a0,.L iF a1] (fO a0 a1) λr=>b9.Pv r:=by
 refine pO Tryz.func223 λr h _ _=>?_;refine S4 2 J<|S3 3 J<|cF h rL J J λv1 _ h=>S2 5 J<|S4 3 J ?_;refine jq h (λj11=>St.of [(2,.ptr 2 0 0),(4,.ptr 4 0 0)] [(4,vR (.agg [.nl,.I 0,.I 0,.nl,.nl,.nl,.nl,.I 0]) 8),(2,vR (.agg [.L c9.Pv a0.S.S.b7,.I a0.S.S.Last,.I a0.S.Serial,.L iF a0.Roots,.L k8.Pv v1.1,.L g6.Pv a0.T,.L g5.Pv j11.L,.I j11.Cap]) 8)]) (λj11 h=>?_) λκ10 h=>?_
 .refine S4 2 J ?_;refine c5 ?_;cases h;exact⟨J,[_],⟨oL J J J u7 p7 nl J,tr⟩,J,io⟩
 .refine S3 1 J ?_;refine nL J l7<|S2 1 J<|j5<|lq h (λq=>St.of [(2,.ptr 2 0 0),(4,.ptr 4 0 0),(5,.L k8.Pv v1.1),(18,.L iF v1.2),(19,.I (v1.2.length:Int)),(20,.I q.1)] [(4,vR (.agg [.nl,.I 0,.I 0,.nl,.nl,.nl,.nl,.I 0]) 8),(2,vR (.agg [.L c9.Pv a0.S.S.b7,.I a0.S.S.Last,.I a0.S.Serial,.L iF a0.Roots,.L k8.Pv v1.1,.L g6.Pv a0.T,.L g5.Pv q.2.L,.I q.2.Cap]) 8)]) W λq16 x15 h hx11=>?_;obtain⟨s13,s14⟩:=q16;refine S4 1 J<|k9 ?_;refine cN h (λhc h=>?_) λhc h=>?_
  .refine c7 ?_;refine k9<|j5<|sR<|iL h J J l7 o6 λv17 _ h=>S2 2 J<|DR [] s6 (by kernel_rfl) (by kernel_rfl)<|S7 5 J<|w7 h λv18 hv13 h=>d0 J (J9 (f:=k8.Pv) (cs:=k8.Pc v18) hv13 J J R6 V6 J J) J<|S7 2 J<|d7 J (λ_ hN=>o7 (cs:=[.I 2,.I v17,.I v18.Call]) J sW aD J J J) J<|w7 h λv19 hv14 h=>dR J (u5 J wN J hv14) J<|S7 4 J<|D4 (x':=.agg [.L c9.Pv a0.S.S.b7,.I a0.S.S.Last,.I a0.S.Serial,.L iF a0.Roots,.L k8.Pv v1.1,.L g6.Pv a0.T,.L g5.Pv v19.1.L,.I v19.1.Cap]) (cl':=true) J J (.inr J) cX<|J7<|S6 2 J ?_;exact eL h W
  .refine o0 ?_;refine c8<|c8<|l6 ?_;have h:=xL hx11 h;exact eJ h W
theorem Eu{a0}:PO Tryz.prog 290 [.L iF a0] (qM a0) λr=>.fn (.func 331) [.rptr [.L iF r]]:=by
 refine pO Tryz.func290 λr h _ _=>?_;unfold qM at h;refine S4 2 J<|S4 2 J<|c5 ?_;cases h;exact f1
theorem vc{a0}:PO Tryz.prog 225 [.L iF a0] (jF a0) λr=>.L iF r:=by
 refine pO Tryz.func225 λr h _ _=>?_;refine S4 1 J<|S4 1 J ?_;refine jq h (λj10=>St.of [(3,.ptr 2001 0 0)] [(2001,vS (.sl 912501) 1),(912501,⟨List.map iF j10,(List.map iF j10).length,true,1,true⟩)]) (λj10 h=>?_) λκ9 h=>?_
 .refine S4 2 J ?_;refine c5 ?_;cases h;exact f1
 .refine S3 1 J ?_;refine cF h Eu J J λv11 _ h=>yN<|j5<|bM (sP (λl=>if l=2011 then 3 else l) [(3,.ptr 2011 0 0),(6,.fn (.func 331) [.rptr [.L iF v11]])] [(2011,vR (.nl) 1)]) ?_;refine bX (fn:=Tryz.f331) (N1:=20) J Tryz.func331 J J nl J QX J J (λl17 e18 o19 hR20=>?_);refine S3 1 J<|nL J l7<|S2 1 J<|j5<|lq h (λq=>St.of [(1000003,.ptr 2011 0 0),(1000006,.fn (.func 331) [.rptr [.L iF v11]]),(0,.fn (.yield l17) []),(5,.L iF v11),(6,.I (v11.length:Int)),(7,.I q.1)] [(2011,vS (.sl 912511) 1),(912511,⟨List.map iF q.2,(List.map iF q.2).length,true,1,true⟩)]) (Wk.trans (vg (l0:=2011) (j:=0) (l:=922511) (z:=1) J J J J J) (WP (λl=>if l=912511 then 922511 else l))) λq16 x15 h hx23=>?_;obtain⟨s13,s14⟩:=q16;refine S4 1 J<|k9 ?_;refine cN h (λhc h=>?_) λhc h=>?_
  .refine c7 ?_;refine k9<|j5<|sR<|iL h J J l7 o6 λv17 _ h=>S2 2 J<|S3 3 J<|m7 J (λhg=>om (d:=.fn (.yield l17) []) J)<|m7 J (λhg=>mI J) ?_;rcases zaq ((v17 != 0)==true) with hg25 | hg25
   .have h:=Se h hg25;refine O5 (sP (λl=>if l=2019 then 912511 else l) [(1000003,.ptr 2011 0 0),(1000006,.fn (.func 331) [.rptr [.L iF v11]]),(0,.fn (.yield l17) []),(5,.L iF v11),(6,.I (v11.length:Int)),(7,.I s13),(13,.bool (v17 != 0)),(14,.fn (.yield l17) []),(15,.I v17)] [(2011,vS (.sl 2019) 1),(2019,⟨List.map iF s14,(List.map iF s14).length,true,1,true⟩)]) ?_;refine ju hR20 (zP some hg25) J J J J J (λe26 o27 o28=>?_);refine S6 1 J ?_;refine⟨J,?_⟩;refine j5<|S5 2 J<|y0 J (H4 (f:=iF) (l:=[v17]) J l7 o6 C5 J J nl J J)<|w7 h λv18 hv29 h=>H3 J (F7 (f:=iF) hv29 J J J J J J (.inl ⟨_,J,J⟩) l7 o6 Q9 C5 J (λ_=>J)) J J J<|S2 1 J ?_;refine⟨J,?_⟩;refine O5 (sP (λl=>if l=2020 then 11 else l) [(1000003,.ptr 2011 0 0),(1000006,.fn (.func 331) [.rptr [.L iF v11]]),(0,.fn (.yield l17) []),(5,.L iF v11),(6,.I (v11.length:Int)),(7,.I s13),(13,.bool (v17 != 0)),(16,.bool true)] [(2011,vS (.sl 2020) 1),(2020,⟨List.map iF v18,s14.length,true,1,true⟩)])<|y0 (zP some hg25) (cV J J)<|y0 J (ji J J hg25)<|yN ?_;refine H6 false J (λq=>nomatch q) (λ_=>?_);refine c7<|S6 2 J ?_;exact eL h (Wk.trans (m9 _ [2020]) (WP (λl=>if l=912511 then 2020 else l)))
   .have h:=Sd h hg25;refine df (zP some hg25)<|df (zP some hg25)<|y0 J (jh J J hg25)<|yN ?_;refine H6 false J (λq=>nomatch q) (λ_=>?_);refine c7<|S6 2 J ?_;exact eL h (Wk.trans (m9 _ [912511]) W)
  .refine o0 ?_;refine c8<|c8<|l6 ?_;refine .inl ⟨J,?_⟩;have h:=xL hx23 h;exact eJ h (Wk.trans (m9 _ [912511]) (WP (λl=>if l=2001 then 2011 else if l=912501 then 912511 else l)))
theorem vy{a0 a1}:PO Tryz.prog 226 [.L g6.Pv a0,.L iF a1] (bb a0 a1) λr=>.tup [.L g6.Pv r.1,.L iF r.2]:=by
 refine pO Tryz.func226 λr h _ _=>?_;refine S4 2 J<|S4 1 J ?_;refine jq h (λq=>St.of [(0,.L g6.Pv q.1),(6,.sl 910006)] [(910006,⟨List.map iF q.2,(List.map iF q.2).length,true,1,true⟩)]) (λq20 h=>?_) λκ17 h=>?_
 .obtain⟨j18,j19⟩:=q20;refine S4 4 J<|c5 ?_;cases h;exact f2
 .refine S3 1 J ?_;refine nL J l7<|S2 1 J<|j5<|lq h (λq=>St.of [(0,.L g6.Pv q.1),(6,.sl 910006),(12,.L iF a1),(13,.I (a1.length:Int)),(14,.I q.2.1)] [(910006,⟨List.map iF q.2.2,(List.map iF q.2.2).length,true,1,true⟩)]) (Wk.trans (E4 (t:=6) (l:=920006) (z:=1) J J) (WP (λl=>if l=910006 then 920006 else l))) λq26 x25 h hx14=>?_;obtain⟨s22,s23,s24⟩:=q26;refine S4 1 J<|k9 ?_;refine cN h (λhc h=>?_) λhc h=>?_
  .refine c7 ?_;refine jq h (λq=>St.of [(0,.L g6.Pv q.1),(6,.sl 31),(12,.L iF a1),(13,.I (a1.length:Int)),(14,.I s23)] [(31,⟨List.map iF q.2,(List.map iF q.2).length,true,1,true⟩)]) (λq33 h=>?_) λκ30 h=>?_
   .obtain⟨j31,j32⟩:=q33;refine S6 2 J ?_;exact eL h (Wk.trans (m9 _ [31]) (WP (λl=>if l=910006 then 31 else l)))
   .refine j5 ?_;refine sR<|iL h J J l7 o6 λv34 _ h=>S2 2 J<|S3 2 J<|cF h tQ J J λv35 _ h=>S2 7 J<|S4 2 J ?_;refine cN h (λhc h=>?_) λhc h=>?_
    .refine S5 3 J ?_;refine y0 J (H4 (f:=iF) (l:=[v35.2.1]) J l7 o6 C5 J J nl J J)<|w7 h λv36 hv21 h=>H3 J (F7 (f:=iF) hv21 J J J J J J (.inl ⟨_,J,J⟩) l7 o6 Q9 C5 J (λ_=>J)) J J J<|S2 2 J ?_;exact eJ h (Wk.trans (m9 _ [31]) W)
    .refine c7 ?_;exact eJ h (Wk.trans (m9 _ [910006]) (WP (λl=>if l=31 then 910006 else l)))
  .refine o0 ?_;refine c8<|c8<|l6 ?_;have h:=xL hx14 h;exact eJ h (Wk.trans (m9 _ [910006]) W)
theorem nT{a0 a1}:PO Tryz.prog 292 [l4.Pv a0,.I a1] (Z2 a0 a1) λr=>.tup [l4.Pv r.1,.I r.2]:=by
 refine pO Tryz.func292 λr h _ _=>?_;refine S4 3 J<|S3 2 J<|cF h gi J J λv1 _ h=>S2 6 J<|k9<|S4 2 J ?_;refine cN h (λhc h=>?_) λhc h=>?_
 .refine S4 4 J ?_;refine c5 ?_;cases h;exact⟨J,[_,_],⟨oL J J J iB eX nl J,⟨J,tr⟩⟩,J,io⟩
 .refine c7 ?_;refine dr [] s6 (by kernel_rfl) (by kernel_rfl)<|S7 2 J<|w7 h λv2 hv2 h=>d2 J (M0 J pv J hv2) J<|S7 1 J<|w7 h λv3 hv3 h=>d2 J (M0 J ry J hv3) J<|S7 1 J<|d7 J (λ_ hN=>o7 (cs:=[.I 2,.I v3,.I v1.1.Serial,.I v1.1.Strong,.I v1.1.Weak,.I v1.1.Prog,.bool v1.1.Started,.L iF v1.1.Fields]) J xC qo J J J) J<|w7 h λv4 hv4 h=>dR J (u5 J M2 J hv4) J<|D4 (x':=l4.Pv v4) (cl':=true) J J (.inr J) eX<|S8 1 J<|c5 ?_;cases h;exact⟨J,[_,_],⟨oL J J J iB eX nl J,⟨J,tr⟩⟩,J,io⟩
theorem wo{a0 a1}:PO Tryz.prog 227 [b9.Pv a0,.I a1] (bm a0 a1) λr=>b9.Pv r:=by
 refine pO Tryz.func227 λr h _ _=>?_;refine S4 2 J<|S3 3 J<|cF h D2 J J λv1 _ h=>S2 6 J<|S3 1 J<|lk (x':=.agg [.I v1.1.Serial,.I v1.1.Strong,.I v1.1.Weak,.I v1.1.Prog,.bool v1.1.Started,.nl]) (cl':=true) J J (.inl J) Z5<|S1 1 J<|lk (x':=.agg [.I v1.1.Serial,.I 0,.I v1.1.Weak,.I v1.1.Prog,.bool v1.1.Started,.nl]) (cl':=true) J J (.inl J) o6<|yN<|S3 4 J<|cF h cQ J J λv2 _ h=>S2 5 J<|S3 4 J<|cF h nT J J λv3 _ h=>S2 6 J<|k9<|S4 3 J ?_;refine cN h (λhc h=>?_) λhc h=>?_
 .refine S5 4 J ?_;refine cF h fQ J J λv4 _ h=>S2 6 J<|S4 2 J<|c5 ?_;cases h;exact⟨J,[_],⟨oL J J J u7 p7 nl J,tr⟩,J,io⟩
 .refine c7 ?_;refine S4 2 J<|c5 ?_;cases h;exact⟨J,[_],⟨oL J J J u7 p7 nl J,tr⟩,J,io⟩
theorem pY{a0 a1}:PO Tryz.prog 128 [b9.Pv a0,.L iF a1] (cg a0 a1) λr=>b9.Pv r:=by
 refine pO Tryz.func128 λr h _ _=>?_;refine S4 2 J<|S3 2 J<|cF h qY J J λv1 _ h=>S2 1 J<|S3 2 J<|cF h uT J J λv2 _ h=>S2 1 J<|S4 1 J<|S4 2 J ?_;refine jq h (λj13=>St.of [(2,.ptr 2 0 0),(4,.ptr 4 0 0),(5,.L iF v1),(6,.ptr 6 0 0),(7,.fn (.func 224) [.ptr 6 0 0])] [(6,vS (.sl 910506) 1),(910506,⟨List.map iF j13,(List.map iF j13).length,true,1,true⟩),(4,vR (.agg [.nl,.I 0,.I 0,.nl,.nl,.nl,.nl,.I 0]) 8),(2,vR (b9.Pv v2) 8)]) (λj13 h=>?_) λκ12 h=>?_
 .refine S3 3 J ?_;refine cF h vy J J λv14 _ h=>S2 5 J<|S3 2 J<|O5 (sP (λl=>if l=2025 then 6 else if l=2026 then 4 else if l=2027 then 2 else if l=2028 then 910506 else l) [(2,.ptr 2027 0 0),(4,.ptr 2026 0 0),(5,.L iF v1),(6,.ptr 2025 0 0),(12,.L g6.Pv v14.1),(51,.fn (.func 224) [.ptr 2025 0 0]),(52,.L iF v14.2)] [(2025,vS (.sl 2028) 1),(2028,⟨List.map iF j13,(List.map iF j13).length,true,1,true⟩),(2026,vR (.agg [.nl,.I 0,.I 0,.nl,.nl,.nl,.nl,.I 0]) 8),(2027,vR (b9.Pv v2) 8)]) ?_;refine vj (fn:=Tryz.f224) (N1:=6) J J Tryz.func224 J IV J J nl (λe14 o15=>?_);refine S5 2 J<|w7 h λv15 hv16 h=>H3 J (F7 (f:=iF) hv16 J J J J J J (.inl ⟨_,J,J⟩) l7 o6 Q9 C5 J (λ_=>J)) J J J<|S2 1 J ?_;refine⟨J,[],tr,?_⟩;refine O5 (sP (λl=>if l=2029 then 5 else l) [(2,.ptr 2027 0 0),(4,.ptr 2026 0 0),(5,.L iF v1),(6,.ptr 2025 0 0),(12,.L g6.Pv v14.1)] [(2025,vS (.sl 2029) 1),(2029,⟨List.map iF v15,j13.length,true,1,true⟩),(2026,vR (.agg [.nl,.I 0,.I 0,.nl,.nl,.nl,.nl,.I 0]) 8),(2027,vR (b9.Pv v2) 8)])<|yN<|S4 3 J ?_;refine jq h (λj24=>St.of [(2,.ptr 2027 0 0),(4,.ptr 2026 0 0),(6,.ptr 2025 0 0)] [(2025,vS (.sl 2029) 1),(2029,⟨List.map iF v15,j13.length,true,1,true⟩),(2026,vR (.agg [.nl,.I 0,.I 0,.nl,.nl,.nl,.nl,.I 0]) 8),(2027,vR (b9.Pv j24) 8)]) (λj24 h=>?_) λκ23 h=>?_
  .refine jq h (λj33=>St.of [(2,.ptr 2027 0 0),(4,.ptr 2026 0 0)] [(2026,vR (.agg [.nl,.I 0,.I 0,.nl,.nl,.nl,.nl,.I 0]) 8),(2027,vR (b9.Pv j33) 8)]) (λj33 h=>?_) λκ32 h=>?_
   .refine S4 2 J ?_;refine c5 ?_;cases h;exact⟨J,[_],⟨oL J J J u7 p7 nl J,tr⟩,J,io⟩
   .refine S3 1 J ?_;refine y0 J (Kf (f:=iF) J J J l7)<|S2 1 J<|j5<|lq h (λq=>St.of [(2,.ptr 2027 0 0),(4,.ptr 2026 0 0),(66,.sl 2029),(67,.I (v15.length:Int)),(68,.I q.1)] [(2029,⟨List.map iF v15,j13.length,true,1,true⟩),(2026,vR (.agg [.nl,.I 0,.I 0,.nl,.nl,.nl,.nl,.I 0]) 8),(2027,vR (b9.Pv q.2) 8)]) W λq38 x37 h hx31=>?_;obtain⟨s35,s36⟩:=q38;refine S4 1 J<|k9 ?_;refine cN h (λhc h=>?_) λhc h=>?_
    .refine c7 ?_;refine k9<|j5<|sR<|w7 h λv39 hv32 h=>y0 J (ba (f:=iF) hv32 J J J J l7 o6 J)<|y0 J (Gf (f:=iF) hv32 J J J G7 J)<|S2 1 J<|S5 2 J<|cF h aW J J λv40 _ h=>S2 1 J<|S6 2 J ?_;exact eL h W
    .refine o0 ?_;refine c8<|c8<|l6 ?_;have h:=xL hx31 h;exact eJ h W
  .refine S3 1 J ?_;refine nL J l7<|S2 1 J<|j5<|lq h (λq=>St.of [(2,.ptr 2027 0 0),(4,.ptr 2026 0 0),(6,.ptr 2025 0 0),(56,.L iF v1),(57,.I (v1.length:Int)),(58,.I q.1)] [(2025,vS (.sl 2029) 1),(2029,⟨List.map iF v15,j13.length,true,1,true⟩),(2026,vR (.agg [.nl,.I 0,.I 0,.nl,.nl,.nl,.nl,.I 0]) 8),(2027,vR (b9.Pv q.2) 8)]) W λq45 x44 h hx36=>?_;obtain⟨s42,s43⟩:=q45;refine S4 1 J<|k9 ?_;refine cN h (λhc h=>?_) λhc h=>?_
   .refine c7 ?_;refine k9<|j5<|sR<|iL h J J l7 o6 λv46 _ h=>S2 2 J<|S5 2 J<|cF h wo J J λv47 _ h=>S2 1 J<|S6 2 J ?_;exact eL h W
   .refine o0 ?_;refine c8<|c8<|l6 ?_;have h:=xL hx36 h;exact eJ h W
 .refine S3 1 J ?_;refine nL J l7<|S2 1 J<|j5<|lq h (λq=>St.of [(2,.ptr 2 0 0),(4,.ptr 4 0 0),(5,.L iF v1),(6,.ptr 6 0 0),(7,.fn (.func 224) [.ptr 6 0 0]),(25,.L iF v1),(26,.I (v1.length:Int)),(27,.I q.1)] [(6,vS (.sl 910506) 1),(4,vR (.agg [.nl,.I 0,.I 0,.nl,.nl,.nl,.nl,.I 0]) 8),(2,vR (b9.Pv v2) 8),(910506,⟨List.map iF q.2,(List.map iF q.2).length,true,1,true⟩)]) (Wk.trans (vg (l0:=6) (j:=0) (l:=920506) (z:=1) J J J J J) (WP (λl=>if l=910506 then 920506 else l))) λq52 x51 h hx41=>?_;obtain⟨s49,s50⟩:=q52;refine S4 1 J<|k9 ?_;refine cN h (λhc h=>?_) λhc h=>?_
  .refine c7 ?_;refine k9<|j5<|sR<|iL h J J l7 o6 λv53 _ h=>S2 2 J<|S3 3 J<|cF h D2 J J λv54 _ h=>S2 6 J<|S5 3 J<|cF h vc J J λv55 _ h=>O5 (sP (λl=>if l=2049 then 6 else if l=2050 then 4 else if l=2051 then 2 else if l=2052 then 910506 else l) [(2,.ptr 2051 0 0),(4,.ptr 2050 0 0),(5,.L iF v1),(6,.ptr 2049 0 0),(7,.fn (.func 224) [.ptr 2049 0 0]),(25,.L iF v1),(26,.I (v1.length:Int)),(27,.I s49),(38,.fn (.func 224) [.ptr 2049 0 0]),(41,.L iF v55)] [(2049,vS (.sl 2052) 1),(2052,⟨List.map iF s50,(List.map iF s50).length,true,1,true⟩),(2050,vR (.agg [.nl,.I 0,.I 0,.nl,.nl,.nl,.nl,.I 0]) 8),(2051,vR (b9.Pv v2) 8)]) ?_;refine vj (fn:=Tryz.f224) (N1:=6) J J Tryz.func224 J IV J J nl (λe45 o46=>?_);refine S5 2 J<|w7 h λv56 hv47 h=>H3 J (F7 (f:=iF) hv47 J J J J J J (.inl ⟨_,J,J⟩) l7 o6 Q9 C5 J (λ_=>J)) J J J<|S2 1 J ?_;refine⟨J,[],tr,?_⟩;refine O5 (sP (λl=>if l=2053 then 5 else l) [(2,.ptr 2051 0 0),(4,.ptr 2050 0 0),(5,.L iF v1),(6,.ptr 2049 0 0),(7,.fn (.func 224) [.ptr 2049 0 0]),(25,.L iF v1),(26,.I (v1.length:Int)),(27,.I s49)] [(2049,vS (.sl 2053) 1),(2053,⟨List.map iF v56,s50.length,true,1,true⟩),(2050,vR (.agg [.nl,.I 0,.I 0,.nl,.nl,.nl,.nl,.I 0]) 8),(2051,vR (b9.Pv v2) 8)])<|yN<|S6 2 J ?_;exact eL h (Wk.trans (m9 _ [2053]) (WP (λl=>if l=2 then 2051 else if l=4 then 2050 else if l=6 then 2049 else if l=910506 then 2053 else l)))
  .refine o0 ?_;refine c8<|c8<|l6 ?_;have h:=xL hx41 h;exact eJ h (Wk.trans (m9 _ [910506]) W)
theorem cP{a0}:PO Tryz.prog 124 [b9.Pv a0] (T4 a0) λr=>b9.Pv r:=by
 refine pO Tryz.func124 λr h _ _=>?_;refine S4 2 J<|lqS h (λs2=>St.of [(1,.ptr 1 0 0),(2,.ptr 2 0 0)] [(2,vR (.agg [.nl,.I 0,.I 0,.nl,.nl,.nl,.nl,.I 0]) 8),(1,vR (b9.Pv s2) 8)]) W λs2 x3 h hx3=>S3 1 J<|cF h AF J J λv4 _ h=>S2 1 J<|k9<|S3 1 J<|nL J l7<|S2 1 J ?_;refine cN h (λhc h=>?_) λhc h=>?_
 .refine S4 2 J ?_;refine c5 ?_;have h:=xL hx3 h;cases h;exact⟨J,[_],⟨oL J J J u7 p7 nl J,tr⟩,J,io⟩
 .refine c7 ?_;refine k9<|dr [] s6 (by kernel_rfl) (by kernel_rfl)<|S7 3 J<|w7 h λv5 hv5 h=>d0 J (J9 (f:=iF) (cs:=[.I v5]) hv5 J J l7 o6 J J) J<|S7 1 J<|w7 h λv6 hv6 h=>dR J (u5 J D2 J hv6) J<|S7 4 J<|D4 (x':=n8.Pv v6.1) (cl':=true) J J (.inr J) kK<|S8 1 J<|S3 1 J<|cA h lg J J λv7 _ h=>yN ?_;refine cN h (λhc h=>?_) λhc h=>?_
  .refine DR [] s6 (by kernel_rfl) (by kernel_rfl) ?_;refine S7 2 J<|d0 J (J9 (f:=iF) (cs:=[.I v5]) hv5 J J l7 o6 J J) J<|S7 1 J<|w7 h λv8 hv8 h=>dR J (u5 J mC J hv8) J<|D4 (x':=b9.Pv v8) (cl':=true) J J (.inr J) p7<|J7<|Kt ?_;exact eS h W
  .refine DR [] s6 (by kernel_rfl) (by kernel_rfl) ?_;refine S7 2 J<|w7 h λv9 hv9 h=>d0 J (Wq (f:=iF) hv9 J J ⟨_,J⟩ l7 o6 (λ_=>J)) J<|w7 h λv10 hv10 h=>dR J (u5 J pY J hv10) J<|D4 (x':=b9.Pv v10) (cl':=true) J J (.inr J) p7<|J7<|Kt ?_;exact eS h W
theorem uj{a0 a1}:PO Tryz.prog 70 [b9.Pv a0,.I a1] (fq a0 a1) λr=>.I r:=by
 refine pO Tryz.func70 λr h _ _=>?_;refine S4 2 J<|S3 3 J<|cF h D2 J J λv1 _ h=>S2 6 J<|S4 3 J<|c5 ?_;cases h;exact f1
theorem lA{a0 a1}:PO Tryz.prog 215 [b9.Pv a0,.I a1] (dX a0 a1) λr=>.I r:=by
 refine pO Tryz.func215 λr h _ _=>?_;unfold dX at h;refine S4 2 J<|dr [] s6 (by kernel_rfl) (by kernel_rfl)<|S7 3 J<|w7 h λv1 hv1 h=>d2 J (M0 J Q7 J hv1) J<|w7 h λv2 hv2 h=>d2 J (M0 J uj J hv2) J<|S8 1 J<|c5 ?_;cases h;exact f1
theorem uk{a0 a1 a2}:PO Tryz.prog 125 [b9.Pv a0,b9.Pv a1,g9.Pv a2] (ae a0 a1 a2) λr=>.I r:=by
 refine pO Tryz.func125 λr h _ _=>?_;refine S4 4 J<|k9<|S4 2 J<|j5<|S4 2 J ?_;refine cN h (λhc h=>?_) λhc h=>?_
 .refine S3 3 J ?_;refine cA h lA J J λv1 _ h=>S2 1 J<|c5 ?_;cases h;exact f1
 .refine jq h (λj3=>St.of [(3,.ptr 3 0 0),(4,.ptr 4 0 0),(5,.ptr 5 0 0),(8,.I a2.Kind),(15,.bool j3)] [(5,vR (g9.Pv a2) 4),(4,vR (b9.Pv a1) 8),(3,vR (b9.Pv a0) 8)]) (λj3 h=>?_) λκ2 h=>?_
  .refine cN h (λhc h=>?_) λhc h=>?_
   .refine S3 3 J ?_;refine cA h lA J J λv4 _ h=>S2 1 J<|c5 ?_;cases h;exact f1
   .refine S4 2 J ?_;refine cN h (λhc h=>?_) λhc h=>?_
    .refine k9 ?_;refine dr [] s6 (by kernel_rfl) (by kernel_rfl)<|S7 3 J<|w7 h λv5 hv4 h=>d2 J (M0 J Q7 J hv4) J<|S7 3 J<|w7 h λv6 hv5 h=>d2 J (M0 J Q7 J hv5) J<|S8 1 J ?_;refine cN h (λhc h=>?_) λhc h=>?_
     .refine S4 1 J ?_;refine c5 ?_;cases h;exact f1
     .refine c7 ?_;refine S4 1 J<|c5 ?_;cases h;exact f1
    .refine c7 ?_;refine S3 3 J<|cA h lA J J λv7 _ h=>S2 1 J<|c5 ?_;cases h;exact f1
  .refine S4 2 J ?_;refine cN h (λhc h=>?_) λhc h=>?_
   .refine c7 ?_;exact eJ h W
   .refine S6 2 J ?_;exact eJ h W
theorem rC{a0 a1}:PO Tryz.prog 65 [b9.Pv a0,g9.Pv a1] (u6 a0 a1) λr=>.tup [b9.Pv r.1,.I r.2.1,.I r.2.2]:=by
 refine pO Tryz.func65 λr h _ _=>?_;refine S4 5 J<|k9<|S3 1 J<|cA h ln J J λv1 _ h=>S2 1 J<|S4 2 J ?_;refine cN h (λhc h=>?_) λhc h=>?_
 .refine S4 5 J ?_;refine c5 ?_;cases h;exact⟨J,[_,_,_],⟨oL J J J u7 p7 nl J,⟨J,⟨J,tr⟩⟩⟩,J,io⟩
 .refine c7 ?_;refine dr [] s6 (by kernel_rfl) (by kernel_rfl)<|w7 h λv2 hv2 h=>dR J (u5 J vJ J hv2) J<|S7 2 J<|d4 J (YH (es:=v2) (k:=a1.Kind) (E:=tO) (EK:=iF) (d:=.tup [tO ((A0 v2 a1.Kind).getD (none:Fv)),.bool ((A0 v2 a1.Kind).isSome)]) J J bO (y4 J1) Rw J (lk2 _ _ _)) J<|S8 5 J<|k9<|S4 2 J ?_;refine cN h (λhc h=>?_) λhc h=>?_
  .refine S4 4 J ?_;refine c5 ?_;cases h;exact⟨J,[_,_,_],⟨oL J J J u7 p7 nl J,⟨J,⟨J,tr⟩⟩⟩,J,io⟩
  .refine c7 ?_;refine S3 3 J<|y0 J (o7 (cs:=[.L c9.Pv a0.S.S.b7,.I a0.S.S.Last,.I a0.S.Serial,.L iF a0.Roots,.L k8.Pv a0.b7,.L g6.Pv a0.T,.L g5.Pv a0.Q.L,.I a0.Q.Cap,.I a1.Kind,.I a1.A,.I a1.B,.I a1.C]) J Rj Rx J J J) ?_;obtain⟨v3,hv3,h⟩:=rh h;obtain⟨n4,he4,hk5,hp6⟩:=HU hv3;refine O5 (UH 30 J he4)<|yc J (DH J hk5 J hp6)<|S2 6 J<|k9<|S4 2 J ?_;refine cN h (λhc h=>?_) λhc h=>?_
   .refine S4 5 J ?_;refine c5 ?_;cases h;exact⟨J,[_,_,_],⟨oL J J J u7 p7 nl J,⟨J,⟨J,tr⟩⟩⟩,J,io⟩
   .refine c7 ?_;refine S3 1 J<|cF h cP J J λv5 _ h=>S2 2 J<|dr [] s6 (by kernel_rfl) (by kernel_rfl)<|S7 4 J<|w7 h λv6 hv8 h=>d2 J (M0 J uk J hv8) J<|D4 (x':=b9.Pv v5) (cl':=true) J J (.inr J) p7<|S8 2 J<|c5 ?_;cases h;exact⟨J,[_,_,_],⟨oL J J J u7 p7 nl J,⟨J,⟨J,tr⟩⟩⟩,J,io⟩
theorem Bz{a0}:PO Tryz.prog 376 [b6.Pv a0] (nI a0) λr=>.fn (.func 381) [.rptr (b6.Pc r)]:=by
 refine pO Tryz.func376 λr h _ _=>?_;unfold nI at h;refine S4 2 J<|S4 2 J<|c5 ?_;cases h;exact f1
theorem wM{a0 a1}:PO Tryz.prog 368 [b6.Pv a0,.I a1] (mq a0 a1) λr=>.L iF r:=by
 refine pO Tryz.func368 λr h _ _=>?_;refine S4 2 J<|S3 2 J<|cF h D2 J J λv1 _ h=>S2 6 J<|S3 2 J<|cF h vc J J λv2 _ h=>S2 1 J<|c5 ?_;cases h;exact f1
end Go.Proofs.YtmgbbnfgfmfgaaaGreat.Ok
