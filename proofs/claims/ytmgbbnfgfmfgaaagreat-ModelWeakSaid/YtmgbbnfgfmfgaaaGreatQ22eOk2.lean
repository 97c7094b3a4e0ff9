/- A part. -/
import Derived.Test.YtmgbbnfgfmfgaaaGreatQ22eOk1
set_option linter.unusedVariables false
set_option linter.unusedSimpArgs false
set_option linter.unusedSectionVars false
namespace Go.Proofs.YtmgbbnfgfmfgaaaGreat.Ok
open Go Go.Pw Go.Sh Go.Proofs
set_option maxRecDepth 100000
set_option maxHeartbeats 4000000
theorem qW{a0 a1}:PO Tryz.prog 175 [k8.Pv a0,.I a1] (aG a0 a1) λr=>.bool r:=by
 refine pO Tryz.func175 λr h _ _=>?_;refine S4 3 J ?_;refine jq h (λ_=>St.of [(4,.ptr 2001 0 0)] [(2001,vR (.bool false) 1)]) (λq7 h=>?_) λκ6 h=>?_
 .refine S4 1 J ?_;refine c5 ?_;cases h;exact⟨J,[_],⟨oS J J J vC J,tr⟩,J,io⟩
 .refine S3 1 J ?_;refine cF h yZ J J λv8 _ h=>yN<|l4<|bM (rW (λl=>if l=2003 then 4 else if l=2004 then 3 else l) [(3,.ptr 2004 0 0),(4,.ptr 2003 0 0),(7,.fn (.func 277) [.rptr (k8.Pc v8.1),.rptr [.I v8.2]])] [(2003,vR (.bool false) 1),(2004,vR (.I a1) 1)]) ?_;refine bL (fn:=Tryz.f277) (N1:=24) J Tryz.func277 J J nl J Hz J J (λl16 e17 o18 hR19=>?_);refine S3 2 J<|nL J I9<|S2 1 J<|l4<|lq h (λs10=>St.of [(1000003,.ptr 2004 0 0),(1000004,.ptr 2003 0 0),(1000007,.fn (.func 277) [.rptr (k8.Pc v8.1),.rptr [.I v8.2]]),(0,.fn (.yield l16) []),(2,.rptr [.I v8.2]),(7,.L g7.Pv v8.1.L),(8,.I (v8.1.L.length:Int)),(9,.I s10)] [(2003,vR (.bool false) 1),(2004,vR (.I a1) 1)]) W λs10 x11 h hx22=>S4 1 J<|l5 ?_;refine cN h (λhc h=>?_) λhc h=>?_
  .refine c8 ?_;refine l5<|l4<|sR<|iL h J J I9 C8 λv12 _ h=>S2 3 J<|S3 5 J<|n0 J (λhg=>om (d:=.fn (.yield l16) []) J)<|n0 J (λhg=>oL J J J bU C8 nl J) ?_;rcases zaw ((v12.Kind==v8.2)==true) with hg24 | hg24
   .have h:=Si h hg24;refine O1 (WE [(1000003,.ptr 2004 0 0),(1000004,.ptr 2003 0 0),(1000007,.fn (.func 277) [.rptr (k8.Pc v8.1),.rptr [.I v8.2]]),(0,.fn (.yield l16) []),(2,.rptr [.I v8.2]),(7,.L g7.Pv v8.1.L),(8,.I (v8.1.L.length:Int)),(9,.I s10),(17,.bool (v12.Kind==v8.2)),(18,.fn (.yield l16) []),(19,g7.Pv v12)] [(2003,vR (.bool false) 1),(2004,vR (.I a1) 1)]) ?_;refine ja hR19 (zX some hg24) J J J J J (λe25 o26 o27=>?_);refine S6 2 J ?_;refine⟨J,?_⟩;refine l4<|S4 4 J ?_;refine cN h (λhc h=>?_) λhc h=>?_
    .refine S4 1 J ?_;refine c5 ?_;refine⟨J,?_⟩;refine O1 (WE [(1000003,.ptr 2004 0 0),(1000004,.ptr 2003 0 0),(1000007,.fn (.func 277) [.rptr (k8.Pc v8.1),.rptr [.I v8.2]]),(0,.fn (.yield l16) []),(2,.rptr [.I v8.2]),(7,.L g7.Pv v8.1.L),(8,.I (v8.1.L.length:Int)),(9,.I s10),(17,.bool (v12.Kind==v8.2)),(20,.bool false)] [(2003,vR (.bool true) 1),(2004,vR (.I a1) 1)])<|y0 (zX some hg24) (fK J J)<|y0 J (kG J J hg24)<|yN ?_;refine G6 true J (λ_=>?_) (λq=>nomatch q);refine c5 ?_;refine .inr ⟨.ret,J,Qj ?_⟩;have h:=xL hx22 h;cases h;exact⟨J,[_],⟨oS J J J vC J,tr⟩,J,io⟩
    .refine c8 ?_;refine⟨J,?_⟩;refine O1 (WE [(1000003,.ptr 2004 0 0),(1000004,.ptr 2003 0 0),(1000007,.fn (.func 277) [.rptr (k8.Pc v8.1),.rptr [.I v8.2]]),(0,.fn (.yield l16) []),(2,.rptr [.I v8.2]),(7,.L g7.Pv v8.1.L),(8,.I (v8.1.L.length:Int)),(9,.I s10),(17,.bool (v12.Kind==v8.2)),(20,.bool true)] [(2003,vR (.bool false) 1),(2004,vR (.I a1) 1)])<|y0 (zX some hg24) (fK J J)<|y0 J (kG J J hg24)<|yN ?_;refine G6 false J (λq=>nomatch q) (λ_=>?_);refine c8<|S6 2 J ?_;exact eL h W
   .have h:=Sg h hg24;refine cS (zX some hg24)<|cS (zX some hg24)<|y0 J (nb J J hg24)<|yN ?_;refine G6 false J (λq=>nomatch q) (λ_=>?_);refine c8<|S6 2 J ?_;exact eL h W
  .refine p6 ?_;refine g8<|g8<|m8 ?_;refine .inl ⟨J,?_⟩;have h:=xL hx22 h;exact eJ h (WP (λl=>if l=2001 then 2003 else l))
theorem vZ{a0 a1}:PO Tryz.prog 272 [.L k9.Pv a0,.I a1] (jP a0 a1) λr=>.bool r:=by
 refine pO Tryz.func272 λr h _ _=>?_;unfold jP at h;refine S4 1 J<|S3 3 J<|n0 J (λhg=>mI J)<|n0 J (λhg=>om (d:=.L k9.Pv a0) J)<|n0 J (λhg=>cG (f:=k9.Pv) (ct hg) Q5)<|n0 J (λhg=>D2 (ct hg) (ct hg) J)<|y0 J (D5 J J J (λq=>kl q))<|S2 1 J<|c5 ?_;cases h;exact f1
theorem vY{a0 a1 a2 a3}:PO Tryz.prog 176 [.L k9.Pv a0,.I a1,.I a2,.I a3] (jO a0 a1 a2 a3) λr=>.tup [.L k9.Pv r.1,.I r.2.1,.I r.2.2]:=by
 refine pO Tryz.func176 λr h _ _=>?_;refine S4 3 J<|l5<|S3 2 J<|cA h vZ J J λv1 _ h=>S2 1 J ?_;refine cN h (λhc h=>?_) λhc h=>?_
 .refine S4 4 J ?_;refine c5 ?_;cases h;exact f3
 .refine c8 ?_;refine S3 1 J<|y6 h λv2 hv2 h=>Jv J (gW J nT J hv2) J J<|S2 1 J<|S3 6 J<|y0 J (p7 (cs:=[.I a2,.bool (a2 != 0),.I a3]) J Pb Ca J J J)<|y6 h λv3 hv3 h=>y0 J (aQ (f:=k9.Pv) hv3 J J J J Q5 U5 J)<|nV (f:=k9.Pv) (v:=(⟨a2,(a2 != 0),a3⟩:k9)) hv3 J J (.inl J) U5<|yN<|dr [] u4 (by kernel_rfl) (by kernel_rfl)<|S7 3 J<|y6 h λv4 hv4 h=>d0 J (P4 (f:=k9.Pv) (cs:=k9.Pc v4) hv4 J J Q5 U5 J J) J<|S8 5 J<|c5 ?_;cases h;exact f3
theorem tL{a0 a1 a2}:PO Tryz.prog 93 [a8.Pv a0,.I a1,j5.Pv a2] (fh a0 a1 a2) λr=>.tup [a8.Pv r.1,.I r.2]:=by
 refine pO Tryz.func93 λr h _ _=>?_;refine S4 4 J<|l5<|S3 4 J<|n0 J (λhg=>mI J)<|n0 J (λhg=>D2 (ct hg) J J)<|y0 J (D5 J J J (λq=>kl q))<|yN ?_;refine cN h (λhc h=>?_) λhc h=>?_
 .refine S4 3 J ?_;refine c5 ?_;cases h;exact⟨J,[_,_],⟨oL J J J A0 w7 nl J,⟨J,tr⟩⟩,J,io⟩
 .refine c8 ?_;refine l5<|dr [] u4 (by kernel_rfl) (by kernel_rfl)<|S7 1 J<|y6 h λv1 hv1 h=>eE J (w8 J cq J hv1) J<|S7 2 J<|y6 h λv2 hv2 h=>d2 J (R8 J qW J hv2) J<|K2 ?_;refine cN h (λhc h=>?_) λhc h=>?_
  .refine S4 3 J ?_;refine c5 ?_;cases h;exact⟨J,[_,_],⟨oL J J J A0 w7 nl J,⟨J,tr⟩⟩,J,io⟩
  .refine c8 ?_;refine S3 7 J<|cF h vY J J λv3 _ h=>S2 7 J<|l5<|S4 2 J ?_;refine cN h (λhc h=>?_) λhc h=>?_
   .refine S4 4 J ?_;refine c5 ?_;cases h;exact⟨J,[_,_],⟨oL J J J A0 w7 nl J,⟨J,tr⟩⟩,J,io⟩
   .refine c8 ?_;refine S4 3 J<|S3 2 J<|cF h kB J J λv4 _ h=>S2 2 J<|c5 ?_;cases h;exact⟨J,[_,_],⟨oL J J J A0 w7 nl J,⟨J,tr⟩⟩,J,io⟩
theorem fi{a0 a1 a2}:PO Tryz.prog 90 [a8.Pv a0,.I a1,j5.Pv a2,.fn (.func 93) []] (I2 a0 a1 a2) λr=>.tup [a8.Pv r.1,g9.Pv r.2]:=by
 refine pO Tryz.func90 λr h _ _=>?_;refine S4 4 J<|S3 4 J<|cF h tL J J λv1 _ h=>S2 6 J<|l5<|S4 2 J ?_;refine cN h (λhc h=>?_) λhc h=>?_
 .refine S3 2 J ?_;refine y0 J (p7 (cs:=[.I 0,.I v1.2]) J Y3 Q6 J J J)<|S2 2 J<|c5 ?_;cases h;exact⟨J,[_,_],⟨oL J J J A0 w7 nl J,⟨oL J J J G7 A9 nl J,tr⟩⟩,J,io⟩
 .refine c8 ?_;refine S3 1 J<|cF h M9 J J λv2 _ h=>S1 1 J<|y0 J (p7 (cs:=[.I a1,.I 0]) J Y3 Q6 J J J)<|S2 2 J<|c5 ?_;cases h;exact⟨J,[_,_],⟨oL J J J A0 w7 nl J,⟨oL J J J G7 A9 nl J,tr⟩⟩,J,io⟩
theorem tJ{a0 a1}:PO Tryz.prog 177 [k7.Pv a0,.rptr (b8.Pc a1)] (ff a0 a1) λr=>.bool r:=by
 refine pO Tryz.func177 λr h _ _=>?_;unfold ff at h;refine S4 2 J<|S4 6 J<|c5 ?_;cases h;exact f1
theorem ab{a0 a1}:OC Tryz.prog 163 [.L k7.Pv a0,.fn (.func 177) [.rptr (b8.Pc a1)]] (D0 a0 a1) λr=>⟨List.map k7.Pv r,(List.map k7.Pv r).length,true,2,true⟩:=by
 refine Sw Tryz.func163 λr h _ _=>?_;refine S4 1 J<|S4 1 J ?_;refine jq h (λj15=>St.of [(5,.sl 910005)] [(910005,⟨List.map k7.Pv j15,(List.map k7.Pv j15).length,true,2,true⟩)]) (λj15 h=>?_) λκ14 h=>?_
 .refine S4 2 J ?_;refine bM (n7 _ [910005])<|c5 ?_;cases h;exact⟨J,_,_,J,J,J,J⟩
 .refine S3 1 J ?_;refine nL J M4<|S2 1 J<|l4<|lq h (λq=>St.of [(1,.fn (.func 177) [.rptr (b8.Pc a1)]),(5,.sl 910005),(8,.L k7.Pv a0),(9,.I (a0.length:Int)),(10,.I q.1)] [(910005,⟨List.map k7.Pv q.2,(List.map k7.Pv q.2).length,true,2,true⟩)]) (Wk.trans (G4 (t:=5) (l:=920005) (z:=2) J J) (WP (λl=>if l=910005 then 920005 else l))) λq20 x19 h hx14=>?_;obtain⟨s17,s18⟩:=q20;refine S4 1 J<|l5 ?_;refine cN h (λhc h=>?_) λhc h=>?_
  .refine c8 ?_;refine jq h (λj25=>St.of [(1,.fn (.func 177) [.rptr (b8.Pc a1)]),(5,.sl 20),(8,.L k7.Pv a0),(9,.I (a0.length:Int)),(10,.I s17)] [(20,⟨List.map k7.Pv j25,(List.map k7.Pv j25).length,true,2,true⟩)]) (λj25 h=>?_) λκ24 h=>?_
   .refine S6 2 J ?_;exact eL h (Wk.trans (n7 _ [20]) (WP (λl=>if l=910005 then 20 else l)))
   .refine l4 ?_;refine sR<|iL h J J M4 T7 λv26 _ h=>S2 3 J<|S3 2 J<|cA h tJ J J λv27 _ h=>yN ?_;refine cN h (λhc h=>?_) λhc h=>?_
    .refine S5 2 J ?_;refine y0 J (I3 (f:=k7.Pv) (l:=[v26]) J M4 T7 aq J J nl J J)<|y6 h λv28 hv21 h=>J5 J (I6 (f:=k7.Pv) hv21 J J J J J J (.inl ⟨_,J,J⟩) M4 T7 pL aq J (λ_=>J)) J J J<|S2 1 J ?_;exact eJ h (Wk.trans (n7 _ [20]) W)
    .refine c8 ?_;exact eJ h (Wk.trans (n7 _ [910005]) (WP (λl=>if l=20 then 910005 else l)))
  .refine p6 ?_;refine g8<|g8<|m8 ?_;have h:=xL hx14 h;exact eJ h (Wk.trans (n7 _ [910005]) W)
theorem wy{a0 a1 a2}:PO Tryz.prog 94 [a8.Pv a0,.I a1,j5.Pv a2] (iQ a0 a1 a2) λr=>.tup [a8.Pv r.1,.I r.2]:=by
 refine pO Tryz.func94 λr h _ _=>?_;refine S4 4 J<|S3 3 J<|cF h dt J J λv1 _ h=>S2 6 J<|l5<|S4 2 J ?_;refine cN h (λhc h=>?_) λhc h=>?_
 .refine S4 4 J ?_;refine c5 ?_;cases h;exact⟨J,[_,_],⟨oL J J J A0 w7 nl J,⟨J,tr⟩⟩,J,io⟩
 .refine c8 ?_;refine S3 3 J<|y6 h λv2 hv2 h=>Jv J (gW J ab J hv2) J J<|S2 1 J<|l5<|S4 2 J ?_;refine cN h (λhc h=>?_) λhc h=>?_
  .refine S4 3 J ?_;refine S4 3 J<|c5 ?_;cases h;exact⟨J,[_,_],⟨oL J J J A0 w7 nl J,⟨J,tr⟩⟩,J,io⟩
  .refine c8 ?_;refine l5<|S3 1 J<|y0 J (II (f:=k7.Pv) J J J M4)<|S2 3 J ?_;refine cN h (λhc h=>?_) λhc h=>?_
   .refine S4 3 J ?_;refine c5 ?_;cases h;exact⟨J,[_,_],⟨oL J J J A0 w7 nl J,⟨J,tr⟩⟩,J,io⟩
   .refine c8 ?_;refine S3 2 J<|cF h gC J J λv3 _ h=>S2 1 J<|S3 4 J<|y0 J (p7 (cs:=[.I v1.1.Serial,.I a1]) J BZ aq J J J)<|y0 J (I3 (f:=k7.Pv) (l:=[(⟨v1.1.Serial,a1⟩:k7)]) J M4 T7 aq J J nl J J)<|y6 h λv4 hv4 h=>J5 J (I6 (f:=k7.Pv) hv4 J J J J J J (.inl ⟨_,J,J⟩) M4 T7 pL aq J (λ_=>J)) J J J<|S2 2 J<|S4 3 J<|c5 ?_;cases h;exact⟨J,[_,_],⟨oL J J J A0 w7 nl J,⟨J,tr⟩⟩,J,io⟩
theorem fX{a0 a1 a2}:PO Tryz.prog 90 [a8.Pv a0,.I a1,j5.Pv a2,.fn (.func 94) []] (J6 a0 a1 a2) λr=>.tup [a8.Pv r.1,g9.Pv r.2]:=by
 refine pO Tryz.func90 λr h _ _=>?_;refine S4 4 J<|S3 4 J<|cF h wy J J λv1 _ h=>S2 6 J<|l5<|S4 2 J ?_;refine cN h (λhc h=>?_) λhc h=>?_
 .refine S3 2 J ?_;refine y0 J (p7 (cs:=[.I 0,.I v1.2]) J Y3 Q6 J J J)<|S2 2 J<|c5 ?_;cases h;exact⟨J,[_,_],⟨oL J J J A0 w7 nl J,⟨oL J J J G7 A9 nl J,tr⟩⟩,J,io⟩
 .refine c8 ?_;refine S3 1 J<|cF h M9 J J λv2 _ h=>S1 1 J<|y0 J (p7 (cs:=[.I a1,.I 0]) J Y3 Q6 J J J)<|S2 2 J<|c5 ?_;cases h;exact⟨J,[_,_],⟨oL J J J A0 w7 nl J,⟨oL J J J G7 A9 nl J,tr⟩⟩,J,io⟩
theorem Ah{a0}:PO Tryz.prog 178 [.I a0] (qn a0) λr=>.tup [.L iF r.1,.I r.2]:=by
 refine pO Tryz.func178 λr h _ _=>?_;refine S4 2 J<|l5<|S3 3 J<|n0 J (λhg=>mI J)<|n0 J (λhg=>D2 (ct hg) J J)<|y0 J (O8 J J J (λq=>oG q))<|yN ?_;refine cN h (λhc h=>?_) λhc h=>?_
 .refine S4 2 J ?_;refine c5 ?_;cases h;exact f2
 .refine c8 ?_;refine S3 1 J<|y6 h λv1 hv1 h=>y1 J (AJ (f:=iF) hv1 J J J m7 o7 C0 Q1 J J J) J<|S2 2 J<|c5 ?_;cases h;exact f2
theorem nM{a0 a1 a2}:PO Tryz.prog 97 [a8.Pv a0,.I a1,.I a2] (aB a0 a1 a2) λr=>.tup [a8.Pv r.1,g9.Pv r.2]:=by
 refine pO Tryz.func97 λr h _ _=>?_;refine S4 3 J<|S3 3 J<|cF h iy J J λv1 _ h=>cF h M9 J J λv2 _ h=>S2 1 J<|dr [2,4,5,1003] u4 (by kernel_rfl) (by kernel_rfl)<|S7 2 J<|d7 J (λ_ hN=>tM hN J J J J mn J) J<|S7 1 J<|y6 h λv3 hv3 h=>d7 J (λ_ hN=>P4 (f:=iF) (cs:=[.I v3]) hv3 J J m7 o7 J J) J<|d7 J (λ_ hN=>V2 J K1 J) J<|d7 J (λ_ hN=>p7 (cs:=[.I v3,.I 0]) J Y3 Q6 J J J) J<|D1 (x':=a8.Pv v2) (cl':=true) J J (.inr J) w7<|D1 (x':=.agg [.I v3,.I 0]) (cl':=true) J J (.inl J) A9<|K2<|c5 ?_;cases h;exact⟨J,[_,_],⟨oL J J J A0 w7 nl J,⟨oL J J J G7 A9 nl J,tr⟩⟩,J,io⟩
theorem uX{a0 a1}:PO Tryz.prog 95 [a8.Pv a0,j5.Pv a1] (cZ a0 a1) λr=>.tup [a8.Pv r.1,g9.Pv r.2]:=by
 refine pO Tryz.func95 λr h _ _=>?_;refine S4 4 J<|S3 2 J<|cF h Ah J J λv1 _ h=>S2 5 J<|l5<|S4 2 J ?_;refine cN h (λhc h=>?_) λhc h=>?_
 .refine S3 2 J ?_;refine y0 J (p7 (cs:=[.I 0,.I v1.2]) J Y3 Q6 J J J)<|S2 2 J<|c5 ?_;cases h;exact⟨J,[_,_],⟨oL J J J A0 w7 nl J,⟨oL J J J G7 A9 nl J,tr⟩⟩,J,io⟩
 .refine c8 ?_;refine S3 2 J<|cA h dX J J λv2 _ h=>S2 1 J<|l5<|S4 2 J ?_;refine cN h (λhc h=>?_) λhc h=>?_
  .refine S3 1 J ?_;refine y0 J (p7 (cs:=[.I 0,.I 4]) J Y3 Q6 J J J)<|S2 2 J<|c5 ?_;cases h;exact⟨J,[_,_],⟨oL J J J A0 w7 nl J,⟨oL J J J G7 A9 nl J,tr⟩⟩,J,io⟩
  .refine c8 ?_;refine S4 5 J<|S3 2 J<|y6 h λv3 hv3 h=>Jv J (gW J I7 J hv3) J J<|S2 2 J<|S3 5 J<|y6 h λv4 hv4 h=>y0 J (aQ (f:=iF) hv4 J J J J m7 o7 J)<|nV (f:=iF) (v:=w9 (a0.Serial+1)) hv4 J J (.inl J) o7<|yN<|dr [] u4 (by kernel_rfl) (by kernel_rfl)<|S7 2 J<|y6 h λv5 hv5 h=>Xz J (gW J B1 J hv5) J J J<|S7 6 J<|d7 J (λ_ hN=>p7 (cs:=[.I (w9 (a0.Serial+1)),.I v2,.I a1.C,.bool false,.bool true,.bool false,.L iF v1.1]) J HE al J J J) J<|VL J (I3 (f:=b8.Pv) (l:=[(⟨w9 (a0.Serial+1),v2,a1.C,false,true,false,v1.1⟩:b8)]) J B7 u9 al J J nl J J) J<|y6 h λv6 hv6 h=>Yh J (I6 (f:=b8.Pv) hv6 J J J J J J (.inl ⟨_,J,J⟩) B7 u9 mr al J (λ_=>J)) J J J J J<|S7 1 J<|D1 (x':=.agg [.sl 52,.sl 33,.L iF a0.Gens,.I a0.Last,.I a0.Places,.I (w9 (a0.Serial+1)),.L iF a0.Roots,.L k9.Pv a0.b7,.L k7.Pv a0.Pairs,.L g7.Pv a0.Tasks,.L (Ls j5.Pv) a0.Progs]) (cl':=false) J J (.inl J) SS<|K2<|S3 5 J<|y6 h λv7 hv7 h=>Ju J (w8 J nM J hv7) J<|S2 4 J<|c5 ?_;cases h;exact⟨J,[_,_],⟨oL J J J A0 w7 nl J,⟨oL J J J G7 A9 nl J,tr⟩⟩,J,io⟩
theorem BQ{a0 a1}:PO Tryz.prog 182 [.L iF a0,.I a1] (iE a0 a1) λr=>.tup [.I r.1,.I r.2]:=by
 refine pO Tryz.func182 λr h _ _=>?_;refine S4 2 J<|l5<|S3 2 J<|cA h Ai J J λv1 _ h=>S2 1 J ?_;refine cN h (λhc h=>?_) λhc h=>?_
 .refine S4 2 J ?_;refine c5 ?_;cases h;exact f2
 .refine c8 ?_;refine S3 2 J<|iL h J J m7 o7 λv2 _ h=>S2 3 J<|c5 ?_;cases h;exact f2
theorem uv{a0 a1}:PO Tryz.prog 183 [.L k9.Pv a0,.I a1] (cD a0 a1) λr=>.tup [.I r.1,.I r.2]:=by
 refine pO Tryz.func183 λr h _ _=>?_;refine S4 2 J<|l5<|S3 2 J<|cA h vZ J J λv1 _ h=>S2 1 J ?_;refine cN h (λhc h=>?_) λhc h=>?_
 .refine S4 2 J ?_;refine c5 ?_;cases h;exact f2
 .refine c8 ?_;refine l5<|S3 2 J<|iL h J J Q5 U5 λv2 hv2 h=>S1 4 J<|n0 J (λhg=>om (d:=.L k9.Pv a0) J)<|n0 J (λhg=>mI J)<|n0 J (λhg=>P4 (f:=k9.Pv) (cs:=k9.Pc v2) hv2 (ct hg) (ct hg) Q5 U5 J J)<|n0 J (λhg=>aC (ct hg) JC J)<|n0 J (λhg=>V2 (ct hg) vC J)<|n0 J (λhg=>fK (ct hg) J)<|y0 J (O8 J J J (λq=>oG q))<|yN ?_;refine cN h (λhc h=>?_) λhc h=>?_
  .refine S4 2 J ?_;refine c5 ?_;cases h;exact f2
  .refine c8 ?_;refine S3 2 J<|y0 J (P4 (f:=k9.Pv) (cs:=k9.Pc v2) hv2 J J Q5 U5 J J)<|S2 4 J<|c5 ?_;cases h;exact f2
theorem yt{a0 a1}:PO Tryz.prog 96 [a8.Pv a0,j5.Pv a1] (bJ a0 a1) λr=>.tup [.I r.1,.I r.2]:=by
 refine pO Tryz.func96 λr h _ _=>?_;refine S4 4 J<|l5<|S4 2 J<|l4<|S4 2 J ?_;refine cN h (λhc h=>?_) λhc h=>?_
 .refine S3 4 J ?_;refine iL h J J m7 o7 λv1 _ h=>S2 3 J<|c5 ?_;cases h;exact f2
 .refine S4 2 J ?_;refine cN h (λhc h=>?_) λhc h=>?_
  .refine S3 3 J ?_;refine cF h dt J J λv2 _ h=>S2 6 J<|l5<|S4 2 J ?_;refine cN h (λhc h=>?_) λhc h=>?_
   .refine S4 3 J ?_;refine c5 ?_;cases h;exact f2
   .refine c8 ?_;refine S3 4 J<|cA h BQ J J λv3 _ h=>S2 4 J<|c5 ?_;cases h;exact f2
  .refine S4 2 J ?_;refine cN h (λhc h=>?_) λhc h=>?_
   .refine S3 4 J ?_;refine cA h uv J J λv4 _ h=>S2 4 J<|c5 ?_;cases h;exact f2
   .refine S4 2 J ?_;refine cN h (λhc h=>?_) λhc h=>?_
    .refine S3 3 J ?_;refine cF h dt J J λv5 _ h=>S2 6 J<|l5<|S4 2 J ?_;refine cN h (λhc h=>?_) λhc h=>?_
     .refine S4 3 J ?_;refine c5 ?_;cases h;exact f2
     .refine c8 ?_;refine l5<|S3 3 J<|cF h kD J J λv6 _ h=>S2 1 J<|S3 1 J<|nL J m7<|S2 1 J ?_;refine cN h (λhc h=>?_) λhc h=>?_
      .refine S3 1 J ?_;refine iL h J J m7 o7 λv7 _ h=>S2 3 J<|c5 ?_;cases h;exact f2
      .refine c8 ?_;refine S4 2 J<|c5 ?_;cases h;exact f2
    .refine c8 ?_;refine S4 2 J<|c5 ?_;cases h;exact f2
theorem qQ{a0 a1}:PO Tryz.prog 53 [a8.Pv a0,j5.Pv a1] (bK a0 a1) λr=>.tup [a8.Pv r.1,g9.Pv r.2]:=by
 refine pO Tryz.func53 λr h _ _=>?_;refine S4 4 J<|l5<|S4 2 J<|l4<|S4 2 J ?_;refine cN h (λhc h=>?_) λhc h=>?_
 .refine l5 ?_;refine dr [] u4 (by kernel_rfl) (by kernel_rfl)<|S7 4 J<|y6 h λv1 hv1 h=>d0 J (P4 (f:=iF) (cs:=[.I v1]) hv1 J J m7 o7 J J) J<|S7 5 J<|y6 h λv2 hv2 h=>d0 J (P4 (f:=iF) (cs:=[.I v2]) hv2 J J m7 o7 J J) J<|S8 2 J ?_;refine cN h (λhc h=>?_) λhc h=>?_
  .refine S3 1 J ?_;refine y0 J (p7 (cs:=[.I 1,.I 0]) J Y3 Q6 J J J)<|S2 2 J<|c5 ?_;cases h;exact⟨J,[_,_],⟨oL J J J A0 w7 nl J,⟨oL J J J G7 A9 nl J,tr⟩⟩,J,io⟩
  .refine c8 ?_;refine S3 1 J<|y0 J (p7 (cs:=[.I 0,.I 0]) J Y3 Q6 J J J)<|S2 2 J<|c5 ?_;cases h;exact⟨J,[_,_],⟨oL J J J A0 w7 nl J,⟨oL J J J G7 A9 nl J,tr⟩⟩,J,io⟩
 .refine S4 2 J ?_;refine cN h (λhc h=>?_) λhc h=>?_
  .refine dr [] u4 (by kernel_rfl) (by kernel_rfl) ?_;refine S7 4 J<|y6 h λv3 hv3 h=>d2 J (R8 J db J hv3) J<|S7 1 J<|y6 h λv4 hv4 h=>eE J (w8 J fY J hv4) J<|S7 2 J<|D1 (x':=a8.Pv v4.1) (cl':=true) J J (.inr J) w7<|D1 (x':=g9.Pv v4.2) (cl':=true) J J (.inl J) A9<|K2<|c5 ?_;cases h;exact⟨J,[_,_],⟨oL J J J A0 w7 nl J,⟨oL J J J G7 A9 nl J,tr⟩⟩,J,io⟩
  .refine S4 2 J ?_;refine cN h (λhc h=>?_) λhc h=>?_
   .refine dr [] u4 (by kernel_rfl) (by kernel_rfl) ?_;refine S7 4 J<|y6 h λv5 hv5 h=>d2 J (R8 J db J hv5) J<|S7 1 J<|y6 h λv6 hv6 h=>eE J (w8 J fi J hv6) J<|S7 2 J<|D1 (x':=a8.Pv v6.1) (cl':=true) J J (.inr J) w7<|D1 (x':=g9.Pv v6.2) (cl':=true) J J (.inl J) A9<|K2<|c5 ?_;cases h;exact⟨J,[_,_],⟨oL J J J A0 w7 nl J,⟨oL J J J G7 A9 nl J,tr⟩⟩,J,io⟩
   .refine S4 2 J ?_;refine cN h (λhc h=>?_) λhc h=>?_
    .refine dr [] u4 (by kernel_rfl) (by kernel_rfl) ?_;refine S7 4 J<|y6 h λv7 hv7 h=>d2 J (R8 J db J hv7) J<|S7 1 J<|y6 h λv8 hv8 h=>eE J (w8 J fX J hv8) J<|S7 2 J<|D1 (x':=a8.Pv v8.1) (cl':=true) J J (.inr J) w7<|D1 (x':=g9.Pv v8.2) (cl':=true) J J (.inl J) A9<|K2<|c5 ?_;cases h;exact⟨J,[_,_],⟨oL J J J A0 w7 nl J,⟨oL J J J G7 A9 nl J,tr⟩⟩,J,io⟩
    .refine S4 2 J ?_;refine cN h (λhc h=>?_) λhc h=>?_
     .refine S3 2 J ?_;refine cF h uX J J λv9 _ h=>S2 4 J<|c5 ?_;cases h;exact⟨J,[_,_],⟨oL J J J A0 w7 nl J,⟨oL J J J G7 A9 nl J,tr⟩⟩,J,io⟩
     .refine c8 ?_;refine S3 2 J<|cA h yt J J λv10 _ h=>S2 5 J<|l5<|S4 2 J ?_;refine cN h (λhc h=>?_) λhc h=>?_
      .refine S3 2 J ?_;refine y0 J (p7 (cs:=[.I 0,.I v10.2]) J Y3 Q6 J J J)<|S2 2 J<|c5 ?_;cases h;exact⟨J,[_,_],⟨oL J J J A0 w7 nl J,⟨oL J J J G7 A9 nl J,tr⟩⟩,J,io⟩
      .refine c8 ?_;refine S3 4 J<|cF h nM J J λv11 _ h=>S2 4 J<|c5 ?_;cases h;exact⟨J,[_,_],⟨oL J J J A0 w7 nl J,⟨oL J J J G7 A9 nl J,tr⟩⟩,J,io⟩
theorem CL{a0 a1}:PO Tryz.prog 171 [a8.Pv a0,.L j5.Pv a1] (jc a0 a1) λr=>a8.Pv r:=by
 refine pO Tryz.func171 λr h _ _=>?_;refine S4 2 J ?_;refine jq h (λj9=>St.of [(2,.ptr 2 0 0),(4,.ptr 4 0 0)] [(4,vR (.agg [.nl,.nl,.nl,.I 0,.I 0,.I 0,.nl,.nl,.nl,.nl,.nl]) 11),(2,vR (a8.Pv j9) 11)]) (λj9 h=>?_) λκ8 h=>?_
 .refine S4 2 J ?_;refine c5 ?_;cases h;exact⟨J,[_],⟨oL J J J A0 w7 nl J,tr⟩,J,io⟩
 .refine S3 1 J ?_;refine nL J gu<|S2 1 J<|l4<|lq h (λq=>St.of [(2,.ptr 2 0 0),(4,.ptr 4 0 0),(7,.L j5.Pv a1),(8,.I (a1.length:Int)),(9,.I q.1)] [(4,vR (.agg [.nl,.nl,.nl,.I 0,.I 0,.I 0,.nl,.nl,.nl,.nl,.nl]) 11),(2,vR (a8.Pv q.2) 11)]) W λq14 x13 h hx9=>?_;obtain⟨s11,s12⟩:=q14;refine S4 1 J<|l5 ?_;refine cN h (λhc h=>?_) λhc h=>?_
  .refine c8 ?_;refine l5<|l4<|sR<|iL h J J gu iN λv15 _ h=>S2 3 J<|S5 2 J<|cF h qQ J J λv16 _ h=>S2 4 J<|S6 2 J ?_;exact eL h W
  .refine p6 ?_;refine g8<|g8<|m8 ?_;have h:=xL hx9 h;exact eJ h W
theorem vb{a0 a1}:PO Tryz.prog 89 [a8.Pv a0,g7.Pv a1] (dc a0 a1) λr=>a8.Pv r:=by
 refine pO Tryz.func89 λr h _ _=>?_;refine S4 3 J<|S4 4 J ?_;refine jq h (λj3=>St.of [(2,.ptr 2 0 0),(3,.ptr 3 0 0),(4,.ptr 4 0 0),(5,.bool (a1.Kind==1))] [(4,vR (.agg [.nl,.nl,.nl,.I 0,.I 0,.I 0,.nl,.nl,.nl,.nl,.nl]) 11),(3,vR (g7.Pv a1) 3),(2,vR (a8.Pv j3) 11)]) (λj3 h=>?_) λκ2 h=>?_
 .refine S3 1 J ?_;refine cF h cq J J λv4 _ h=>cF h iY J J λv5 _ h=>S2 9 J<|S4 4 J ?_;refine jq h (λj8=>St.of [(2,.ptr 2 0 0),(3,.ptr 3 0 0),(4,.ptr 4 0 0),(5,.bool (a1.Kind==1))] [(4,vR (.agg [.nl,.nl,.nl,.I 0,.I 0,.I 0,.nl,.nl,.nl,.nl,.nl]) 11),(3,vR (g7.Pv a1) 3),(2,vR (a8.Pv j8) 11)]) (λj8 h=>?_) λκ7 h=>?_
  .refine dr [] u4 (by kernel_rfl) (by kernel_rfl) ?_;refine S7 5 J<|y6 h λv9 hv7 h=>eE J (w8 J kQ J hv7) J<|y6 h λv10 hv8 h=>eE J (w8 J CL J hv8) J<|D1 (x':=a8.Pv v10) (cl':=true) J J (.inr J) w7<|K2<|l5<|S4 1 J ?_;refine cN h (λhc h=>?_) λhc h=>?_
   .refine S5 1 J ?_;refine cF h iy J J λv11 _ h=>cF h M9 J J λv12 _ h=>S2 1 J<|S4 2 J<|c5 ?_;cases h;exact⟨J,[_],⟨oL J J J A0 w7 nl J,tr⟩,J,io⟩
   .refine c8 ?_;refine S4 2 J<|c5 ?_;cases h;exact⟨J,[_],⟨oL J J J A0 w7 nl J,tr⟩,J,io⟩
  .refine S4 1 J ?_;refine cN h (λhc h=>?_) λhc h=>?_
   .refine S5 1 J ?_;refine cF h M9 J J λv13 _ h=>S2 1 J ?_;exact eJ h W
   .refine c8 ?_;exact eJ h W
 .refine S4 1 J ?_;refine cN h (λhc h=>?_) λhc h=>?_
  .refine S5 3 J ?_;refine cF h iy J J λv14 _ h=>S2 1 J ?_;exact eJ h W
  .refine c8 ?_;exact eJ h W
theorem uY{a0 a1}:PO Tryz.prog 52 [a8.Pv a0,.I a1] (gD a0 a1) λr=>.tup [a8.Pv r.1,g9.Pv r.2]:=by
 refine pO Tryz.func52 λr h _ _=>?_;refine S4 3 J<|S4 1 J ?_;refine jq h (λq=>St.of [(2,.ptr 2 0 0),(4,.ptr 4 0 0),(5,.ptr 5 0 0),(6,.I q.1)] [(5,vR (.agg [.I 0,.I 0]) 2),(4,vR (.agg [.nl,.nl,.nl,.I 0,.I 0,.I 0,.nl,.nl,.nl,.nl,.nl]) 11),(2,vR (a8.Pv q.2) 11)]) (λq13 h=>?_) λκ10 h=>?_
 .obtain⟨j11,j12⟩:=q13;refine S3 2 J<|y0 J (p7 (cs:=[.I j11,.I 0]) J Y3 Q6 J J J)<|S2 2 J<|c5 ?_;cases h;exact⟨J,[_,_],⟨oL J J J A0 w7 nl J,⟨oL J J J G7 A9 nl J,tr⟩⟩,J,io⟩
 .refine l4 ?_;refine lq h (λq=>St.of [(1,.I q.1),(2,.ptr 2 0 0),(4,.ptr 4 0 0),(5,.ptr 5 0 0),(6,.I q.2.1)] [(5,vR (.agg [.I 0,.I 0]) 2),(4,vR (.agg [.nl,.nl,.nl,.I 0,.I 0,.I 0,.nl,.nl,.nl,.nl,.nl]) 11),(2,vR (a8.Pv q.2.2) 11)]) W λq19 x18 h hx10=>?_;obtain⟨s15,s16,s17⟩:=q19;refine l5<|S3 2 J<|nL J I9<|S2 1 J ?_;refine cN h (λhc h=>?_) λhc h=>?_
  .refine c8 ?_;refine l4<|dr [] u4 (by kernel_rfl) (by kernel_rfl)<|S7 4 J<|y6 h λv20 hv11 h=>d0 J (P4 (f:=g7.Pv) (cs:=g7.Pc v20) hv11 J J I9 C8 J J) J<|S7 1 J<|y6 h λv21 hv12 h=>d2 J (R8 J qH J hv12) J<|S8 1 J<|l5<|S4 3 J ?_;refine cN h (λhc h=>?_) λhc h=>?_
   .refine S3 2 J ?_;refine y0 J (p7 (cs:=[.I s16,.I 12]) J Y3 Q6 J J J)<|S2 2 J<|c5 ?_;have h:=xL hx10 h;cases h;exact⟨J,[_,_],⟨oL J J J A0 w7 nl J,⟨oL J J J G7 A9 nl J,tr⟩⟩,J,io⟩
   .refine c8 ?_;refine S4 4 J<|dr [] u4 (by kernel_rfl) (by kernel_rfl)<|S7 3 J<|d0 J (P4 (f:=g7.Pv) (cs:=g7.Pc v20) hv11 J J I9 C8 J J) J<|S7 1 J<|y6 h λv22 hv13 h=>eE J (w8 J vb J hv13) J<|D1 (x':=a8.Pv v22) (cl':=true) J J (.inr J) w7<|K2<|S6 3 J ?_;exact eL h W
  .refine p6 ?_;refine g8<|g8<|m8 ?_;have h:=xL hx10 h;exact eJ h W
theorem EH{a0 a1}:PO Tryz.prog 19 [a8.Pv a0,.L iF a1] (pb a0 a1) λr=>.tup [a8.Pv r.1,g9.Pv r.2]:=by
 refine pO Tryz.func19 λr h _ _=>?_;refine S4 3 J<|S3 1 J<|cA h oy J J λv1 _ h=>S2 6 J<|l5<|S4 2 J ?_;refine cN h (λhc h=>?_) λhc h=>?_
 .refine S3 2 J ?_;refine y0 J (p7 (cs:=[.I 0,.I v1.2]) J Y3 Q6 J J J)<|S2 2 J<|c5 ?_;cases h;exact⟨J,[_,_],⟨oL J J J A0 w7 nl J,⟨oL J J J G7 A9 nl J,tr⟩⟩,J,io⟩
 .refine c8 ?_;refine l5<|S4 2 J<|l4<|S4 2 J ?_;refine cN h (λhc h=>?_) λhc h=>?_
  .refine S3 1 J ?_;refine cF h rA J J λv2 _ h=>S2 4 J<|c5 ?_;cases h;exact⟨J,[_,_],⟨oL J J J A0 w7 nl J,⟨oL J J J G7 A9 nl J,tr⟩⟩,J,io⟩
  .refine S4 2 J ?_;refine cN h (λhc h=>?_) λhc h=>?_
   .refine S3 3 J ?_;refine cF h uY J J λv3 _ h=>S2 4 J<|c5 ?_;cases h;exact⟨J,[_,_],⟨oL J J J A0 w7 nl J,⟨oL J J J G7 A9 nl J,tr⟩⟩,J,io⟩
   .refine c8 ?_;refine S3 2 J<|cF h qQ J J λv4 _ h=>S2 4 J<|c5 ?_;cases h;exact⟨J,[_,_],⟨oL J J J A0 w7 nl J,⟨oL J J J G7 A9 nl J,tr⟩⟩,J,io⟩
theorem tF{a0 a1}:PO Tryz.prog 32 [a8.Pv a0,.L (Ls iF) a1] (aW a0 a1) λr=>.tup [a8.Pv r.1,.L g9.Pv r.2]:=by
 refine pO Tryz.func32 λr h _ _=>?_;refine S4 3 J<|S4 1 J ?_;refine jq h (λq=>St.of [(2,.ptr 2 0 0),(4,.ptr 4 0 0),(6,.sl 910006)] [(910006,⟨List.map g9.Pv q.2,(List.map g9.Pv q.2).length,true,2,true⟩),(4,vR (.agg [.nl,.nl,.nl,.I 0,.I 0,.I 0,.nl,.nl,.nl,.nl,.nl]) 11),(2,vR (a8.Pv q.1) 11)]) (λq13 h=>?_) λκ10 h=>?_
 .obtain⟨j11,j12⟩:=q13;refine S4 4 J<|c5 ?_;cases h;exact⟨J,[_,_],⟨oL J J J A0 w7 nl J,⟨J,tr⟩⟩,J,io⟩
 .refine S3 1 J ?_;refine nL J bf<|S2 1 J<|l4<|lq h (λq=>St.of [(2,.ptr 2 0 0),(4,.ptr 4 0 0),(6,.sl 910006),(10,.L (Ls iF) a1),(11,.I (a1.length:Int)),(12,.I q.1)] [(4,vR (.agg [.nl,.nl,.nl,.I 0,.I 0,.I 0,.nl,.nl,.nl,.nl,.nl]) 11),(2,vR (a8.Pv q.2.1) 11),(910006,⟨List.map g9.Pv q.2.2,(List.map g9.Pv q.2.2).length,true,2,true⟩)]) (Wk.trans (G4 (t:=6) (l:=920006) (z:=2) J J) (WP (λl=>if l=910006 then 920006 else l))) λq19 x18 h hx10=>?_;obtain⟨s15,s16,s17⟩:=q19;refine S4 1 J<|l5 ?_;refine cN h (λhc h=>?_) λhc h=>?_
  .refine c8 ?_;refine l5<|l4<|sR<|iL h J J bf bD λv20 _ h=>S2 2 J<|S4 1 J<|S3 2 J<|cF h EH J J λv21 _ h=>S2 5 J<|S5 2 J<|y0 J (I3 (f:=g9.Pv) (l:=[v21.2]) J jm A9 Q6 J J nl J J)<|y6 h λv22 hv13 h=>J5 J (I6 (f:=g9.Pv) hv13 J J J J J J (.inl ⟨_,J,J⟩) jm A9 Lc Q6 J (λ_=>J)) J J J<|S2 1 J<|S6 2 J ?_;exact eL h (Wk.trans (n7 _ [25]) (WP (λl=>if l=910006 then 25 else l)))
  .refine p6 ?_;refine g8<|g8<|m8 ?_;have h:=xL hx10 h;exact eJ h (Wk.trans (n7 _ [910006]) W)
theorem wj{a0}:PO Tryz.prog 64 [j5.Pv a0] (mM a0) λr=>Wf qY r:=by
 refine pO Tryz.func64 λr h _ _=>?_;refine S4 2 J<|l5<|S4 2 J<|l4<|S4 2 J ?_;refine cN h (λhc h=>?_) λhc h=>?_
 .refine sR ?_;refine y0 J (p7 (cs:=[]) J Pe HK J J J)<|y0 J (GL (n:=qY) (T:=166) (xs:=[]) J HH J)<|S2 1 J<|c5 ?_;cases h;exact f1
 .refine S4 2 J ?_;refine cN h (λhc h=>?_) λhc h=>?_
  .refine S3 2 J ?_;refine y0 J (p7 (cs:=[.I a0.A]) J Pf HL J J J)<|y0 J (GL (n:=qY) (T:=170) (xs:=[a0.A]) J HI J)<|S2 1 J<|c5 ?_;cases h;exact f1
  .refine c8 ?_;refine S3 1 J<|y0 J (p7 (cs:=[.I a0.Kind,.I a0.A,.I a0.B,.I a0.C]) J Pd HJ J J J)<|y0 J (GL (n:=qY) (T:=162) (xs:=[a0.Kind,a0.A,a0.B,a0.C]) J HG J)<|S2 1 J<|c5 ?_;cases h;exact f1
theorem uT:PO Tryz.prog 123 [] (gA) λr=>.abs (U0 (List.map (bW iF sS) r)):=by
 refine pO Tryz.func123 λr h _ _=>?_;unfold gA at h;refine S4 1 J<|sR<|BS (KT:=Int) (VT:=Fv) (EK:=iF) (E:=sS) 5000001 J J<|lg (es:=[]) (k:=1) (v:=(some 203)) (E:=sS) (EK:=iF) (.inr J) J J J J J J bC (x8 I0)<|lg (es:=(p8 [] 1 (some 203))) (k:=2) (v:=(some 204)) (E:=sS) (EK:=iF) (.inr J) J J J J J J bC (x8 I0)<|lg (es:=(p8 (p8 [] 1 (some 203)) 2 (some 204))) (k:=3) (v:=(some 205)) (E:=sS) (EK:=iF) (.inr J) J J J J J J bC (x8 I0)<|lg (es:=(p8 (p8 (p8 [] 1 (some 203)) 2 (some 204)) 3 (some 205))) (k:=4) (v:=(some 206)) (E:=sS) (EK:=iF) (.inr J) J J J J J J bC (x8 I0)<|lg (es:=(p8 (p8 (p8 (p8 [] 1 (some 203)) 2 (some 204)) 3 (some 205)) 4 (some 206))) (k:=5) (v:=(some 207)) (E:=sS) (EK:=iF) (.inr J) J J J J J J bC (x8 I0)<|lg (es:=(p8 (p8 (p8 (p8 (p8 [] 1 (some 203)) 2 (some 204)) 3 (some 205)) 4 (some 206)) 5 (some 207))) (k:=6) (v:=(some 208)) (E:=sS) (EK:=iF) (.inr J) J J J J J J bC (x8 I0)<|lg (es:=(p8 (p8 (p8 (p8 (p8 (p8 [] 1 (some 203)) 2 (some 204)) 3 (some 205)) 4 (some 206)) 5 (some 207)) 6 (some 208))) (k:=7) (v:=(some 209)) (E:=sS) (EK:=iF) (.inr J) J J J J J J bC (x8 I0)<|lg (es:=(p8 (p8 (p8 (p8 (p8 (p8 (p8 [] 1 (some 203)) 2 (some 204)) 3 (some 205)) 4 (some 206)) 5 (some 207)) 6 (some 208)) 7 (some 209))) (k:=8) (v:=(some 210)) (E:=sS) (EK:=iF) (.inr J) J J J J J J bC (x8 I0)<|lg (es:=(p8 (p8 (p8 (p8 (p8 (p8 (p8 (p8 [] 1 (some 203)) 2 (some 204)) 3 (some 205)) 4 (some 206)) 5 (some 207)) 6 (some 208)) 7 (some 209)) 8 (some 210))) (k:=9) (v:=(some 211)) (E:=sS) (EK:=iF) (.inr J) J J J J J J bC (x8 I0)<|lg (es:=(p8 (p8 (p8 (p8 (p8 (p8 (p8 (p8 (p8 [] 1 (some 203)) 2 (some 204)) 3 (some 205)) 4 (some 206)) 5 (some 207)) 6 (some 208)) 7 (some 209)) 8 (some 210)) 9 (some 211))) (k:=10) (v:=(some 212)) (E:=sS) (EK:=iF) (.inr J) J J J J J J bC (x8 I0)<|S2 2 J<|bM (DF 0 5000001 J J)<|c5 ?_;cases h;exact f1
theorem pD{a0}:PO Tryz.prog 317 [.I a0] (V7 a0) λr=>.bool r:=by
 refine pO Tryz.func317 λr h _ _=>?_;unfold V7 at h;refine S4 1 J<|S3 3 J<|n0 J (λhg=>mI J)<|n0 J (λhg=>D2 (ct hg) J J)<|y0 J (D5 J J J (λq=>kl q))<|S2 1 J<|c5 ?_;cases h;exact f1
theorem nx{a0}:PO Tryz.prog 348 [l6.Pv a0] (Q4 a0) λr=>.fn (.func 363) [.rptr (l6.Pc r)]:=by
 refine pO Tryz.func348 λr h _ _=>?_;unfold Q4 at h;refine S4 2 J<|S4 2 J<|c5 ?_;cases h;exact f1
theorem P0{a0}:OC Tryz.prog 352 [.L c9.Pv a0] (y8 a0) λr=>⟨List.map c9.Pv r,0,true,8,true⟩:=by
 refine Sw Tryz.func352 λr h _ _=>?_;unfold y8 at h;refine S4 1 J<|l5<|S3 1 J<|uy J bg λb hb=>yN ?_;refine G6 b J (λhc=>?_) (λhc=>?_)
 .obtain rfl:a0 = []:=by simpa using hb hc
  refine S4 1 J<|bM (G4 (t:=2) (l:=920000) (z:=8) J J)<|c5 ?_;cases h;exact⟨J,_,_,J,J,J,J⟩
 .refine c8 ?_;refine sR<|y0 J (lL J bg ak)<|S1 1 J<|y1 J (yw (f:=c9.Pv) h J J (.inl ⟨_,J,J⟩) bg ak Hw pN J (λ_=>J)) J<|S2 1 J<|c5 ?_;exact⟨J,_,_,J,J,J,J⟩
theorem L2{a0 a1 a2}:PO Tryz.prog 327 [l6.Pv a0,.I a1,c9.Pv a2] (E3 a0 a1 a2) λr=>l6.Pv r:=by
 refine pO Tryz.func327 λr h _ _=>?_;unfold E3 at h;refine S4 3 J<|S3 2 J<|y6 h λv1 hv1 h=>Jv J (gW J P0 J hv1) J J<|S2 2 J<|S3 4 J<|y6 h λv2 hv2 h=>y0 J (aQ (f:=c9.Pv) hv2 J J J J bg ak J)<|nV (f:=c9.Pv) (v:=a2) hv2 J J (.inr J) ak<|yN<|S4 2 J<|c5 ?_;cases h;exact⟨J,[_],⟨oL J J J ib eh nl J,tr⟩,J,io⟩
theorem oN{a0 a1}:PO Tryz.prog 132 [.I a0,.I a1] (dQ a0 a1) λr=>.I r:=by
 refine pO Tryz.func132 λr h _ _=>?_;refine S4 1 J<|l5<|S3 3 J<|n0 J (λhg=>mI J)<|n0 J (λhg=>D2 (ct hg) J J)<|y0 J (O8 J J J (λq=>oG q))<|S1 1 J<|n0 J (λhg=>mI J)<|n0 J (λhg=>D2 (ct hg) J J)<|y0 J (O8 J J J (λq=>oG q))<|S1 1 J<|n0 J (λhg=>mI J)<|n0 J (λhg=>D2 (ct hg) J J)<|y0 J (O8 J J J (λq=>oG q))<|yN ?_;refine cN h (λhc h=>?_) λhc h=>?_
 .refine S4 1 J ?_;refine c5 ?_;cases h;exact f1
 .refine c8 ?_;refine S4 7 J<|c5 ?_;cases h;exact f1
theorem nw{a0 a1}:PO Tryz.prog 318 [l6.Pv a0,n9.Pv a1] (L6 a0 a1) λr=>.tup [l6.Pv r.1,.I r.2.1,.I r.2.2]:=by
 refine pO Tryz.func318 λr h _ _=>?_;refine S4 5 J ?_;refine jq h (λ_=>St.of [(2,.ptr 2005 0 0),(4,.ptr 2003 0 0),(5,.ptr 2002 0 0),(6,.ptr 2001 0 0)] [(2001,vR (.I 0) 1),(2002,vR (.I 0) 1),(2003,vR (.agg [.nl,.I 0]) 2),(2005,vR (l6.Pv a0) 2)]) (λq10 h=>?_) λκ9 h=>?_
 .refine S4 4 J ?_;refine c5 ?_;cases h;exact⟨J,[_,_,_],⟨oL J J J ib eh nl J,⟨oS J J J K1 J,⟨oS J J J uB J,tr⟩⟩⟩,J,io⟩
 .refine S3 1 J ?_;refine cF h nx J J λv11 _ h=>yN<|l4<|bM (rW (λl=>if l=2006 then 6 else if l=2007 then 5 else if l=2008 then 4 else if l=2009 then 3 else if l=2010 then 2 else l) [(2,.ptr 2010 0 0),(3,.ptr 2009 0 0),(4,.ptr 2008 0 0),(5,.ptr 2007 0 0),(6,.ptr 2006 0 0),(10,.fn (.func 363) [.rptr (l6.Pc v11)])] [(2006,vR (.I 0) 1),(2007,vR (.I 0) 1),(2008,vR (.agg [.nl,.I 0]) 2),(2009,vR (n9.Pv a1) 6),(2010,vR (l6.Pv a0) 2)]) ?_;refine bL (fn:=Tryz.f363) (N1:=23) J Tryz.func363 J J nl J OZ J J (λl19 e20 o21 hR22=>?_);refine S3 2 J<|nL J bg<|S2 1 J<|l4<|lq h (λs13=>St.of [(1000002,.ptr 2010 0 0),(1000003,.ptr 2009 0 0),(1000004,.ptr 2008 0 0),(1000005,.ptr 2007 0 0),(1000006,.ptr 2006 0 0),(1000010,.fn (.func 363) [.rptr (l6.Pc v11)]),(0,.fn (.yield l19) []),(6,.L c9.Pv v11.b7),(7,.I (v11.b7.length:Int)),(8,.I s13)] [(2006,vR (.I 0) 1),(2007,vR (.I 0) 1),(2008,vR (.agg [.nl,.I 0]) 2),(2009,vR (n9.Pv a1) 6),(2010,vR (l6.Pv a0) 2)]) W λs13 x14 h hx25=>S4 1 J<|l5 ?_;refine cN h (λhc h=>?_) λhc h=>?_
  .refine c8 ?_;refine l5<|l4<|S3 1 J<|iL h J J bg ak λv15 _ h=>S2 4 J<|S3 4 J<|n0 J (λhg=>om (d:=.fn (.yield l19) []) J)<|n0 J (λhg=>mI J) ?_;rcases zaw ((v15.State==0)==true) with hg27 | hg27
   .have h:=Si h hg27;refine O1 (WE [(1000002,.ptr 2010 0 0),(1000003,.ptr 2009 0 0),(1000004,.ptr 2008 0 0),(1000005,.ptr 2007 0 0),(1000006,.ptr 2006 0 0),(1000010,.fn (.func 363) [.rptr (l6.Pc v11)]),(0,.fn (.yield l19) []),(6,.L c9.Pv v11.b7),(7,.I (v11.b7.length:Int)),(8,.I s13),(16,.bool (v15.State==0)),(17,.fn (.yield l19) []),(18,.I s13)] [(2006,vR (.I 0) 1),(2007,vR (.I 0) 1),(2008,vR (.agg [.nl,.I 0]) 2),(2009,vR (n9.Pv a1) 6),(2010,vR (l6.Pv a0) 2)]) ?_;refine ja hR22 (zX some hg27) J J J J J (λe28 o29 o30=>?_);refine S6 1 J ?_;refine⟨J,?_⟩;refine l4<|S3 3 J<|iL h J J bg ak λv16 _ h=>S2 3 J<|S3 4 J<|y0 J (p7 (cs:=[.I 1,.I v16.Gen,.I a1.Serial,.I a1.Strong,.I a1.Weak,.I a1.Prog,.bool a1.Started,.L iF a1.Fields]) J wK pN J J J)<|cF h L2 J J λv17 _ h=>S1 2 J<|cA h oN J J λv18 _ h=>S2 3 J<|c5 ?_;refine⟨J,?_⟩;refine O1 (WE [(1000002,.ptr 2010 0 0),(1000003,.ptr 2009 0 0),(1000004,.ptr 2008 0 0),(1000005,.ptr 2007 0 0),(1000006,.ptr 2006 0 0),(1000010,.fn (.func 363) [.rptr (l6.Pc v11)]),(0,.fn (.yield l19) []),(6,.L c9.Pv v11.b7),(7,.I (v11.b7.length:Int)),(8,.I s13),(16,.bool (v15.State==0)),(19,.bool false)] [(2006,vR (.I 0) 1),(2007,vR (.I v18) 1),(2008,vR (l6.Pv v17) 2),(2009,vR (n9.Pv a1) 6),(2010,vR (l6.Pv a0) 2)])<|y0 (zX some hg27) (fK J J)<|y0 J (kG J J hg27)<|yN ?_;refine G6 true J (λ_=>?_) (λq=>nomatch q);refine c5 ?_;refine .inr ⟨.ret,J,Qj ?_⟩;have h:=xL hx25 h;cases h;exact⟨J,[_,_,_],⟨oL J J J ib eh nl J,⟨oS J J J K1 J,⟨oS J J J uB J,tr⟩⟩⟩,J,io⟩
   .have h:=Sg h hg27;refine cS (zX some hg27)<|cS (zX some hg27)<|y0 J (nb J J hg27)<|yN ?_;refine G6 false J (λq=>nomatch q) (λ_=>?_);refine c8<|S6 2 J ?_;exact eL h W
  .refine p6 ?_;refine g8<|g8<|m8 ?_;refine .inl ⟨J,?_⟩;have h:=xL hx25 h;exact eJ h (WP (λl=>if l=2005 then 2010 else if l=2003 then 2008 else if l=2002 then 2007 else if l=2001 then 2006 else l))
theorem AQ{a0 a1 a2}:PO Tryz.prog 278 [b6.Pv a0,.I a1,.I a2] (X0 a0 a1 a2) λr=>.tup [b6.Pv r.1,.I r.2.1,.I r.2.2]:=by
 refine pO Tryz.func278 λr h _ _=>?_;refine S4 4 J<|S3 1 J<|cF h Ah J J λv1 _ h=>S2 5 J<|l5<|S4 2 J ?_;refine cN h (λhc h=>?_) λhc h=>?_
 .refine S4 5 J ?_;refine c5 ?_;cases h;exact⟨J,[_,_,_],⟨oL J J J mo mC nl J,⟨J,⟨J,tr⟩⟩⟩,J,io⟩
 .refine c8 ?_;refine l5<|S3 1 J<|cA h pD J J λv2 _ h=>S2 1 J ?_;refine cN h (λhc h=>?_) λhc h=>?_
  .refine S4 4 J ?_;refine c5 ?_;cases h;exact⟨J,[_,_,_],⟨oL J J J mo mC nl J,⟨J,⟨J,tr⟩⟩⟩,J,io⟩
  .refine c8 ?_;refine S3 7 J<|y0 J (p7 (cs:=[.I (w9 (a0.Serial+1)),.I 0,.I 0,.I a2,.bool false,.L iF v1.1]) J Ph Ps J J J)<|cF h nw J J λv3 _ h=>S2 8 J<|l5<|S4 2 J ?_;refine cN h (λhc h=>?_) λhc h=>?_
   .refine S4 5 J ?_;refine c5 ?_;cases h;exact⟨J,[_,_,_],⟨oL J J J mo mC nl J,⟨J,⟨J,tr⟩⟩⟩,J,io⟩
   .refine c8 ?_;refine S3 4 J<|y0 J (p7 (cs:=[.L c9.Pv v3.1.b7,.I v3.1.Last,.I (w9 (a0.Serial+1))]) J Lo Lw J J J)<|S2 4 J<|c5 ?_;cases h;exact⟨J,[_,_,_],⟨oL J J J mo mC nl J,⟨J,⟨J,tr⟩⟩⟩,J,io⟩
theorem nH{a0}:PO Tryz.prog 356 [.I a0] (eI a0) λr=>.tup [.I r.1,.I r.2.1,.bool r.2.2]:=by
 refine pO Tryz.func356 λr h _ _=>?_;refine S4 3 J<|l5<|S4 2 J ?_;refine cN h (λhc h=>?_) λhc h=>?_
 .refine S4 3 J ?_;refine c5 ?_;cases h;exact f3
 .refine c8 ?_;refine S3 2 J<|y6 h λv1 hv1 h=>y0 J (nN J J hv1)<|y6 h λv2 hv2 h=>y0 J (nN J J hv2)<|S1 2 J<|y6 h λv3 hv3 h=>y0 J (nN J J hv3)<|S2 2 J<|l5<|S3 3 J<|n0 J (λhg=>mI J)<|n0 J (λhg=>D2 (ct hg) J J)<|y0 J (O8 J J J (λq=>oG q))<|yN ?_;refine cN h (λhc h=>?_) λhc h=>?_
  .refine S4 3 J ?_;refine c5 ?_;cases h;exact f3
  .refine c8 ?_;refine S4 5 J<|c5 ?_;cases h;exact f3
theorem oP{a0}:PO Tryz.prog 334 [.I a0] (gP a0) λr=>.I r:=by
 refine pO Tryz.func334 λr h _ _=>?_;refine S4 1 J<|S3 1 J<|cA h nH J J λv1 _ h=>S2 7 J<|S4 2 J<|c5 ?_;cases h;exact f1
theorem qL{a0}:PO Tryz.prog 335 [.I a0] (jx a0) λr=>.I r:=by
 refine pO Tryz.func335 λr h _ _=>?_;refine S4 1 J<|S3 1 J<|cA h nH J J λv1 _ h=>S2 7 J<|S4 2 J<|c5 ?_;cases h;exact f1
theorem L1{a0 a1}:PO Tryz.prog 308 [l6.Pv a0,.I a1] (A1 a0 a1) λr=>.tup [.I r.1,.I r.2]:=by
 refine pO Tryz.func308 λr h _ _=>?_;refine S4 3 J<|l5<|S4 2 J ?_;refine cN h (λhc h=>?_) λhc h=>?_
 .refine S4 2 J ?_;refine c5 ?_;cases h;exact f2
 .refine c8 ?_;refine S3 1 J<|cA h oP J J λv1 _ h=>S2 1 J<|l5<|S3 3 J<|n0 J (λhg=>mI J)<|n0 J (λhg=>oF J Lj J)<|n0 J (λhg=>oS (ct hg) J J SN J)<|n0 J (λhg=>cG (f:=c9.Pv) (ct hg) bg)<|n0 J (λhg=>D2 (ct hg) (ct hg) J)<|y0 J (O8 J J J (λq=>oG q))<|yN ?_;refine cN h (λhc h=>?_) λhc h=>?_
  .refine S4 2 J ?_;refine c5 ?_;cases h;exact f2
  .refine c8 ?_;refine S3 3 J<|iL h J J bg ak λv2 _ h=>S2 3 J<|l5<|dr [] u4 (by kernel_rfl) (by kernel_rfl)<|S7 3 J<|y6 h λv3 hv3 h=>d2 J (R8 J qL J hv3) J<|S7 2 J<|oA J (λhg _ hN=>oF J AW J) J ?_;refine vE J (λhg=>oS (ct hg) J J K1 J) J<|oA J (λhg _ hN=>D2 (ct hg) J J) J<|oA J (λhg _ hN=>om (d:=.bool (v2.State != 1)) (ct hg)) J<|oA (Ou J J J) (λhg _ hN=>oF J AW J) J ?_;refine vE (Ou J J J) (λhg=>oS (ct hg) J J K1 J) J<|oA (Ou J J J) (λhg _ hN=>D2 (ct hg) J J) J<|oA J (λhg _ hN=>D5 (ct hg) J J (λq=>Xw hg (kl q))) J<|d7 J (λ_ hN=>O8 J J J (λq=>oG q)) J<|K2 ?_;refine cN h (λhc h=>?_) λhc h=>?_
   .refine S4 2 J ?_;refine c5 ?_;cases h;exact f2
   .refine c8 ?_;refine S4 3 J<|c5 ?_;cases h;exact f2
theorem fM{a0 a1}:PO Tryz.prog 234 [l6.Pv a0,.I a1] (G9 a0 a1) λr=>.tup [n9.Pv r.1,.I r.2]:=by
 refine pO Tryz.func234 λr h _ _=>?_;refine S4 3 J<|S4 1 J<|S3 2 J<|cA h L1 J J λv1 _ h=>S2 5 J<|l5<|S4 2 J ?_;refine cN h (λhc h=>?_) λhc h=>?_
 .refine S3 2 J ?_;refine kK (x':=.agg [.I 0,.I 0,.I 0,.I 0,.bool false,.nl]) (cl':=true) J J (.inl J) kc<|S2 1 J<|c5 ?_;cases h;exact⟨J,[_,_],⟨oL J J J sa kc nl J,⟨J,tr⟩⟩,J,io⟩
 .refine c8 ?_;refine l5<|S3 3 J<|iL h J J bg ak λv2 hv2 h=>S2 3 J ?_;refine cN h (λhc h=>?_) λhc h=>?_
  .refine S3 1 J ?_;refine kK (x':=.agg [.I 0,.I 0,.I 0,.I 0,.bool false,.nl]) (cl':=true) J J (.inl J) kc<|S2 1 J<|c5 ?_;cases h;exact⟨J,[_,_],⟨oL J J J sa kc nl J,⟨J,tr⟩⟩,J,io⟩
  .refine c8 ?_;refine S3 3 J<|y0 J (P4 (f:=c9.Pv) (cs:=c9.Pc v2) hv2 J J bg ak J J)<|S2 4 J<|c5 ?_;cases h;exact⟨J,[_,_],⟨oL J J J sa kc nl J,⟨J,tr⟩⟩,J,io⟩
theorem C6{a0 a1}:PO Tryz.prog 136 [b6.Pv a0,.I a1] (y5 a0 a1) λr=>.tup [n9.Pv r.1,.I r.2]:=by
 refine pO Tryz.func136 λr h _ _=>?_;refine S4 3 J<|S3 3 J<|cF h fM J J λv1 _ h=>S2 4 J<|c5 ?_;cases h;exact⟨J,[_,_],⟨oL J J J sa kc nl J,⟨J,tr⟩⟩,J,io⟩
theorem yd{a0 a1}:PO Tryz.prog 349 [b9.Pv a0,.I a1] (ko a0 a1) λr=>.bool r:=by
 refine pO Tryz.func349 λr h _ _=>?_;refine S4 2 J<|S3 3 J<|cF h C6 J J λv1 _ h=>S2 6 J<|S4 3 J<|c5 ?_;cases h;exact f1
theorem Y8{a0 a1}:PO Tryz.prog 319 [b9.Pv a0,.I a1] (N7 a0 a1) λr=>.bool r:=by
 refine pO Tryz.func319 λr h _ _=>?_;unfold N7 at h;refine S4 2 J<|S3 3 J<|n0 J (λhg=>oL J J J u7 p9 nl J)<|n0 J (λhg=>mI J)<|y6 h λv1 hv1 h=>n0 J (λhg=>R8 J yd (X5 (ct hg) (X5 (ct hg) J)) (aj hv1 hg))<|y0 J (O8 J J J (λq=>oG q))<|S2 1 J<|c5 ?_;cases h;exact f1
theorem bE{a0}:PO Tryz.prog 353 [.I a0] (I1 a0) λr=>.bool r:=by
 refine pO Tryz.func353 λr h _ _=>?_;unfold I1 at h;refine S4 1 J<|S4 3 J<|c5 ?_;cases h;exact f1
theorem sy{a0}:PO Tryz.prog 330 [.I a0] (jt a0) λr=>.tup [.I r.1,.I r.2]:=by
 refine pO Tryz.func330 λr h _ _=>?_;refine S4 2 J<|l5<|S3 1 J<|cA h bE J J λv1 _ h=>yN ?_;refine cN h (λhc h=>?_) λhc h=>?_
 .refine S4 2 J ?_;refine c5 ?_;cases h;exact f2
 .refine c8 ?_;refine S3 1 J<|y0 J (Ni J J J)<|S2 3 J<|c5 ?_;cases h;exact f2
theorem Cf{a0}:PO Tryz.prog 289 [.I a0] (pQ a0) λr=>.I r:=by
 refine pO Tryz.func289 λr h _ _=>?_;refine S4 1 J<|S3 1 J<|cA h sy J J λv1 _ h=>S2 5 J<|S4 2 J<|c5 ?_;cases h;exact f1
theorem od{a0 a1 a2}:PO Tryz.prog 286 [l6.Pv a0,.I a1,n9.Pv a2] (aF a0 a1 a2) λr=>.tup [l6.Pv r.1,.I r.2]:=by
 refine pO Tryz.func286 λr h _ _=>?_;refine S4 4 J<|S3 2 J<|cA h L1 J J λv1 _ h=>S2 5 J<|l5<|S4 2 J ?_;refine cN h (λhc h=>?_) λhc h=>?_
 .refine S4 4 J ?_;refine c5 ?_;cases h;exact⟨J,[_,_],⟨oL J J J ib eh nl J,⟨J,tr⟩⟩,J,io⟩
 .refine c8 ?_;refine S3 3 J<|iL h J J bg ak λv2 _ h=>S2 3 J<|S4 3 J<|S3 3 J<|cF h L2 J J λv3 _ h=>S2 2 J<|c5 ?_;cases h;exact⟨J,[_,_],⟨oL J J J ib eh nl J,⟨J,tr⟩⟩,J,io⟩
theorem cy{a0 a1 a2}:PO Tryz.prog 219 [b6.Pv a0,.I a1,n9.Pv a2] (S9 a0 a1 a2) λr=>.tup [b6.Pv r.1,.I r.2]:=by
 refine pO Tryz.func219 λr h _ _=>?_;refine S4 4 J<|S4 1 J<|S3 4 J<|cF h od J J λv1 _ h=>S2 6 J<|S4 4 J<|c5 ?_;cases h;exact⟨J,[_,_],⟨oL J J J mo mC nl J,⟨J,tr⟩⟩,J,io⟩
theorem jy{a0 a1}:PO Tryz.prog 288 [b9.Pv a0,.I a1,.fn (.func 289) []] (Y7 a0 a1) λr=>b9.Pv r:=by
 refine pO Tryz.func288 λr h _ _=>?_;refine S4 2 J<|S3 3 J<|cF h C6 J J λv1 _ h=>S2 6 J<|l5<|S4 2 J ?_;refine cN h (λhc h=>?_) λhc h=>?_
 .refine S3 3 J ?_;refine cA h Cf J J λv2 _ h=>S2 2 J<|S5 4 J<|cF h cy J J λv3 _ h=>S2 5 J<|S4 2 J<|c5 ?_;cases h;exact⟨J,[_],⟨oL J J J u7 p9 nl J,tr⟩,J,io⟩
 .refine c8 ?_;refine S4 2 J<|c5 ?_;cases h;exact⟨J,[_],⟨oL J J J u7 p9 nl J,tr⟩,J,io⟩
theorem eM{a0 a1}:PO Tryz.prog 221 [b9.Pv a0,.I a1] (bI a0 a1) λr=>b9.Pv r:=by
 refine pO Tryz.func221 λr h _ _=>?_;refine S4 2 J<|S3 2 J<|cF h jy J J λv1 _ h=>S2 1 J<|c5 ?_;cases h;exact⟨J,[_],⟨oL J J J u7 p9 nl J,tr⟩,J,io⟩
theorem nY{a0 a1}:PO Tryz.prog 343 [K8.Pv a0,b9.Pv a1] (T0 a0 a1) λr=>b9.Pv r:=by
 refine pO Tryz.func343 λr h _ _=>?_;unfold T0 at h;refine S4 3 J<|S3 2 J<|y6 h λv1 hv1 h=>Jv J (gW J I7 J hv1) J J<|S2 2 J<|S3 6 J<|y6 h λv2 hv2 h=>y0 J (aQ (f:=iF) hv2 J J J J m7 o7 J)<|nV (f:=iF) (v:=a0.h) hv2 J J (.inl J) o7<|yN<|S4 2 J<|c5 ?_;cases h;exact⟨J,[_],⟨oL J J J u7 p9 nl J,tr⟩,J,io⟩
theorem qs{a0}:PO Tryz.prog 336 [.I a0] (fR a0) λr=>.tup [.I r.1,.I r.2]:=by
 refine pO Tryz.func336 λr h _ _=>?_;refine S4 2 J<|l5<|S3 1 J<|cA h bE J J λv1 _ h=>yN ?_;refine cN h (λhc h=>?_) λhc h=>?_
 .refine S4 2 J ?_;refine c5 ?_;cases h;exact f2
 .refine c8 ?_;refine l5<|S4 2 J ?_;refine cN h (λhc h=>?_) λhc h=>?_
  .refine S4 2 J ?_;refine c5 ?_;cases h;exact f2
  .refine c8 ?_;refine S4 4 J<|c5 ?_;cases h;exact f2
theorem Ce{a0}:PO Tryz.prog 295 [.I a0] (uF a0) λr=>.tup [.I r.1,.I r.2]:=by
 refine pO Tryz.func295 λr h _ _=>?_;refine S4 2 J<|S3 1 J<|cA h qs J J λv1 _ h=>S2 5 J<|S4 4 J<|c5 ?_;cases h;exact f2
theorem tf{a0}:PO Tryz.prog 294 [.I a0] (eK a0) λr=>.I r:=by
 refine pO Tryz.func294 λr h _ _=>?_;refine S4 1 J<|S3 1 J<|cA h Ce J J λv1 _ h=>S2 5 J<|l5<|S4 2 J ?_;refine cN h (λhc h=>?_) λhc h=>?_
 .refine S4 2 J ?_;refine c5 ?_;cases h;exact f1
 .refine c8 ?_;refine S4 2 J<|c5 ?_;cases h;exact f1
theorem fG{a0 a1}:PO Tryz.prog 288 [b9.Pv a0,.I a1,.fn (.func 294) []] (P7 a0 a1) λr=>b9.Pv r:=by
 refine pO Tryz.func288 λr h _ _=>?_;refine S4 2 J<|S3 3 J<|cF h C6 J J λv1 _ h=>S2 6 J<|l5<|S4 2 J ?_;refine cN h (λhc h=>?_) λhc h=>?_
 .refine S3 3 J ?_;refine cA h tf J J λv2 _ h=>S2 2 J<|S5 4 J<|cF h cy J J λv3 _ h=>S2 5 J<|S4 2 J<|c5 ?_;cases h;exact⟨J,[_],⟨oL J J J u7 p9 nl J,tr⟩,J,io⟩
 .refine c8 ?_;refine S4 2 J<|c5 ?_;cases h;exact⟨J,[_],⟨oL J J J u7 p9 nl J,tr⟩,J,io⟩
theorem aM{a0 a1}:PO Tryz.prog 228 [b9.Pv a0,.I a1] (E2 a0 a1) λr=>b9.Pv r:=by
 refine pO Tryz.func228 λr h _ _=>?_;refine S4 2 J<|S3 2 J<|cF h fG J J λv1 _ h=>S2 1 J<|c5 ?_;cases h;exact⟨J,[_],⟨oL J J J u7 p9 nl J,tr⟩,J,io⟩
theorem dC{a0 a1 a2 a3}:PO Tryz.prog 320 [b9.Pv a0,.I a1,.I a2,.abs (RS 343 [K8.Pv a3])] (G5 a0 a1 a2 a3) λr=>b9.Pv r:=by
 refine pO Tryz.func320 λr h _ _=>?_;refine S4 2 J<|S3 3 J<|cF h eM J J λv1 _ h=>y6 h λv2 hv2 h=>DH (xs:=[b9.Pv v1]) J J OY J (nY.2 _ hv2)<|S1 1 J<|cF h aM J J λv3 _ h=>S2 1 J<|c5 ?_;cases h;exact⟨J,[_],⟨oL J J J u7 p9 nl J,tr⟩,J,io⟩
theorem mT{a0 a1 a2}:PO Tryz.prog 298 [b9.Pv a0,.I a1,.I a2] (bZ a0 a1 a2) λr=>.tup [b9.Pv r.1,.I r.2]:=by
 refine pO Tryz.func298 λr h _ _=>?_;refine S4 3 J<|l5<|S3 3 J<|n0 J (λhg=>mI J)<|n0 J (λhg=>oF J DQ J)<|n0 J (λhg=>oS (ct hg) J J mn J)<|n0 J (λhg=>cG (f:=iF) (ct hg) m7)<|n0 J (λhg=>D2 (ct hg) (ct hg) J)<|y0 J (O8 J J J (λq=>oG q))<|yN ?_;refine cN h (λhc h=>?_) λhc h=>?_
 .refine S4 3 J ?_;refine c5 ?_;cases h;exact⟨J,[_,_],⟨oL J J J u7 p9 nl J,⟨J,tr⟩⟩,J,io⟩
 .refine c8 ?_;refine l5<|S3 2 J<|cA h Y8 J J λv1 _ h=>S2 1 J ?_;refine cN h (λhc h=>?_) λhc h=>?_
  .refine S4 3 J ?_;refine c5 ?_;cases h;exact⟨J,[_,_],⟨oL J J J u7 p9 nl J,⟨J,tr⟩⟩,J,io⟩
  .refine c8 ?_;refine dr [] u4 (by kernel_rfl) (by kernel_rfl)<|S7 4 J<|y6 h λv2 hv2 h=>d0 J (P4 (f:=iF) (cs:=[.I v2]) hv2 J J m7 o7 J J) J<|S7 4 J<|d7 J (λ_ hN=>p7 (cs:=[.I a1,.I a2]) J Pp PC J J J) J<|d7 J (λ_ hN=>ve (d:=.agg [.I a1,.I a2]) J) J<|y6 h λv3 hv3 h=>eE J (w8 J dC J hv3) J<|D1 (x':=b9.Pv v3) (cl':=true) J J (.inr J) p9<|S8 1 J<|c5 ?_;cases h;exact⟨J,[_,_],⟨oL J J J u7 p9 nl J,⟨J,tr⟩⟩,J,io⟩
theorem J1{a0 a1 a2}:PO Tryz.prog 279 [r9.Pv a0,.I a1,.I a2] (C2 a0 a1 a2) λr=>.tup [b9.Pv r.1,.I r.2]:=by
 refine pO Tryz.func279 λr h _ _=>?_;refine S4 3 J<|l5<|S4 2 J ?_;refine cN h (λhc h=>?_) λhc h=>?_
 .refine S4 5 J ?_;refine c5 ?_;cases h;exact⟨J,[_,_],⟨oL J J J u7 p9 nl J,⟨J,tr⟩⟩,J,io⟩
 .refine c8 ?_;refine S3 6 J<|cF h mT J J λv1 _ h=>S2 4 J<|c5 ?_;cases h;exact⟨J,[_,_],⟨oL J J J u7 p9 nl J,⟨J,tr⟩⟩,J,io⟩
theorem eR{a0}:PO Tryz.prog 203 [r9.Pv a0] (X9 a0) λr=>.tup [b9.Pv r.1,.I r.2]:=by
 refine pO Tryz.func203 λr h _ _=>?_;refine S4 3 J<|S3 9 J<|cF h AQ J J λv1 _ h=>S2 8 J<|l5<|S4 2 J ?_;refine cN h (λhc h=>?_) λhc h=>?_
 .refine S4 5 J ?_;refine c5 ?_;cases h;exact⟨J,[_,_],⟨oL J J J u7 p9 nl J,⟨J,tr⟩⟩,J,io⟩
 .refine c8 ?_;refine S4 4 J<|S3 2 J<|cF h J1 J J λv2 _ h=>S2 4 J<|c5 ?_;cases h;exact⟨J,[_,_],⟨oL J J J u7 p9 nl J,⟨J,tr⟩⟩,J,io⟩
theorem P8{a0 a1}:PO Tryz.prog 216 [b9.Pv a0,.I a1] (N9 a0 a1) λr=>.I r:=by
 refine pO Tryz.func216 λr h _ _=>?_;refine S4 2 J<|l5<|S3 3 J<|n0 J (λhg=>mI J)<|n0 J (λhg=>oF J DQ J)<|n0 J (λhg=>oS (ct hg) J J mn J)<|n0 J (λhg=>cG (f:=iF) (ct hg) m7)<|n0 J (λhg=>D2 (ct hg) (ct hg) J)<|y0 J (O8 J J J (λq=>oG q))<|yN ?_;refine cN h (λhc h=>?_) λhc h=>?_
 .refine S4 1 J ?_;refine c5 ?_;cases h;exact f1
 .refine c8 ?_;refine S3 3 J<|iL h J J m7 o7 λv1 _ h=>S2 2 J<|c5 ?_;cases h;exact f1
theorem cE{a0}:PO Tryz.prog 204 [r9.Pv a0] (L0 a0) λr=>.tup [b9.Pv r.1,.I r.2]:=by
 refine pO Tryz.func204 λr h _ _=>?_;unfold L0 at h;refine S4 3 J<|dr [] u4 (by kernel_rfl) (by kernel_rfl)<|S7 6 J<|y6 h λv1 hv1 h=>d2 J (R8 J P8 J hv1) J<|y6 h λv2 hv2 h=>eE J (w8 J J1 J hv2) J<|S7 2 J<|D1 (x':=b9.Pv v2.1) (cl':=true) J J (.inr J) p9<|S8 1 J<|c5 ?_;cases h;exact⟨J,[_,_],⟨oL J J J u7 p9 nl J,⟨J,tr⟩⟩,J,io⟩
theorem gT{a0}:PO Tryz.prog 205 [r9.Pv a0] (bt a0) λr=>.tup [b9.Pv r.1,.I r.2]:=by
 refine pO Tryz.func205 λr h _ _=>?_;refine S4 3 J<|S3 1 J<|cF h J1 J J λv1 _ h=>S2 4 J<|c5 ?_;cases h;exact⟨J,[_,_],⟨oL J J J u7 p9 nl J,⟨J,tr⟩⟩,J,io⟩
theorem U8{a0 a1}:PO Tryz.prog 280 [b9.Pv a0,.I a1] (O4 a0 a1) λr=>.tup [.I r.1,.I r.2]:=by
 refine pO Tryz.func280 λr h _ _=>?_;refine S4 3 J<|S3 2 J<|cA h P8 J J λv1 _ h=>S2 1 J<|l5<|S4 2 J ?_;refine cN h (λhc h=>?_) λhc h=>?_
 .refine S4 2 J ?_;refine c5 ?_;cases h;exact f2
 .refine c8 ?_;refine S4 3 J<|c5 ?_;cases h;exact f2
theorem pC{a0 a1 a2}:PO Tryz.prog 281 [b6.Pv a0,.I a1,.I a2] (J4 a0 a1 a2) λr=>.tup [.I r.1,.I r.2]:=by
 refine pO Tryz.func281 λr h _ _=>?_;refine S4 3 J<|S3 2 J<|cF h C6 J J λv1 _ h=>S2 6 J<|l5<|S4 2 J ?_;refine cN h (λhc h=>?_) λhc h=>?_
 .refine S4 3 J ?_;refine c5 ?_;cases h;exact f2
 .refine c8 ?_;refine S3 3 J<|cA h BQ J J λv2 _ h=>S2 4 J<|c5 ?_;cases h;exact f2
theorem gU{a0}:PO Tryz.prog 206 [r9.Pv a0] (bu a0) λr=>.tup [b9.Pv r.1,.I r.2]:=by
 refine pO Tryz.func206 λr h _ _=>?_;refine S4 3 J<|S3 5 J<|cA h U8 J J λv1 _ h=>S2 5 J<|l5<|S4 2 J ?_;refine cN h (λhc h=>?_) λhc h=>?_
 .refine S4 5 J ?_;refine c5 ?_;cases h;exact⟨J,[_,_],⟨oL J J J u7 p9 nl J,⟨J,tr⟩⟩,J,io⟩
 .refine c8 ?_;refine dr [] u4 (by kernel_rfl) (by kernel_rfl)<|S7 8 J<|y6 h λv2 hv2 h=>d2 J (R8 J pC J hv2) J<|S7 2 J<|y6 h λv3 hv3 h=>eE J (w8 J J1 J hv3) J<|S7 2 J<|D1 (x':=b9.Pv v3.1) (cl':=true) J J (.inr J) p9<|S8 1 J<|c5 ?_;cases h;exact⟨J,[_,_],⟨oL J J J u7 p9 nl J,⟨J,tr⟩⟩,J,io⟩
theorem Dx{a0 a1 a2 a3}:PO Tryz.prog 350 [b6.Pv a0,.I a1,.I a2,.I a3] (qi a0 a1 a2 a3) λr=>.tup [b6.Pv r.1,.I r.2]:=by
 refine pO Tryz.func350 λr h _ _=>?_;refine S4 3 J<|S3 2 J<|cF h C6 J J λv1 _ h=>S2 6 J<|l5<|S4 2 J ?_;refine cN h (λhc h=>?_) λhc h=>?_
 .refine S4 4 J ?_;refine c5 ?_;cases h;exact⟨J,[_,_],⟨oL J J J mo mC nl J,⟨J,tr⟩⟩,J,io⟩
 .refine c8 ?_;refine l5<|S3 4 J<|cF h vT J J λv2 _ h=>S2 6 J<|S4 2 J ?_;refine cN h (λhc h=>?_) λhc h=>?_
  .refine S4 4 J ?_;refine c5 ?_;cases h;exact⟨J,[_,_],⟨oL J J J mo mC nl J,⟨J,tr⟩⟩,J,io⟩
  .refine c8 ?_;refine S3 3 J<|cF h cy J J λv3 _ h=>S2 4 J<|c5 ?_;cases h;exact⟨J,[_,_],⟨oL J J J mo mC nl J,⟨J,tr⟩⟩,J,io⟩
theorem mU{a0 a1}:PO Tryz.prog 321 [H3.Pv a0,b9.Pv a1] (cL a0 a1) λr=>b9.Pv r:=by
 refine pO Tryz.func321 λr h _ _=>?_;refine S4 3 J<|S3 8 J<|cF h Dx J J λv1 _ h=>S2 5 J<|S4 2 J<|c5 ?_;cases h;exact⟨J,[_],⟨oL J J J u7 p9 nl J,tr⟩,J,io⟩
theorem cY{a0 a1 a2 a3}:PO Tryz.prog 320 [b9.Pv a0,.I a1,.I a2,.abs (RS 321 [H3.Pv a3])] (G0 a0 a1 a2 a3) λr=>b9.Pv r:=by
 refine pO Tryz.func320 λr h _ _=>?_;refine S4 2 J<|S3 3 J<|cF h eM J J λv1 _ h=>y6 h λv2 hv2 h=>DH (xs:=[b9.Pv v1]) J J OU J (mU.2 _ hv2)<|S1 1 J<|cF h aM J J λv3 _ h=>S2 1 J<|c5 ?_;cases h;exact⟨J,[_],⟨oL J J J u7 p9 nl J,tr⟩,J,io⟩
theorem AI{a0 a1 a2 a3}:PO Tryz.prog 282 [b9.Pv a0,.I a1,.I a2,.I a3] (ax a0 a1 a2 a3) λr=>.tup [b9.Pv r.1,.I r.2]:=by
 refine pO Tryz.func282 λr h _ _=>?_;refine S4 3 J<|S3 4 J<|cA h pC J J λv1 _ h=>S2 5 J<|l5<|S4 2 J ?_;refine cN h (λhc h=>?_) λhc h=>?_
 .refine S4 4 J ?_;refine c5 ?_;cases h;exact⟨J,[_,_],⟨oL J J J u7 p9 nl J,⟨J,tr⟩⟩,J,io⟩
 .refine c8 ?_;refine l5<|S3 2 J<|cA h Y8 J J λv2 _ h=>S2 1 J ?_;refine cN h (λhc h=>?_) λhc h=>?_
  .refine S4 3 J ?_;refine c5 ?_;cases h;exact⟨J,[_,_],⟨oL J J J u7 p9 nl J,⟨J,tr⟩⟩,J,io⟩
  .refine c8 ?_;refine S3 6 J<|y0 J (p7 (cs:=[.I a1,.I a2,.I a3]) J Pm Pz J J J)<|y0 J (ve (d:=.agg [.I a1,.I a2,.I a3]) J)<|cF h cY J J λv3 _ h=>S2 2 J<|c5 ?_;cases h;exact⟨J,[_,_],⟨oL J J J u7 p9 nl J,⟨J,tr⟩⟩,J,io⟩
theorem fJ{a0}:PO Tryz.prog 207 [r9.Pv a0] (az a0) λr=>.tup [b9.Pv r.1,.I r.2]:=by
 refine pO Tryz.func207 λr h _ _=>?_;refine S4 3 J<|S3 5 J<|cA h U8 J J λv1 _ h=>S2 5 J<|l5<|S4 2 J ?_;refine cN h (λhc h=>?_) λhc h=>?_
 .refine S4 5 J ?_;refine c5 ?_;cases h;exact⟨J,[_,_],⟨oL J J J u7 p9 nl J,⟨J,tr⟩⟩,J,io⟩
 .refine c8 ?_;refine dr [] u4 (by kernel_rfl) (by kernel_rfl)<|S7 11 J<|y6 h λv2 hv2 h=>d2 J (R8 J P8 J hv2) J<|y6 h λv3 hv3 h=>eE J (w8 J AI J hv3) J<|S7 2 J<|D1 (x':=b9.Pv v3.1) (cl':=true) J J (.inr J) p9<|S8 1 J<|c5 ?_;cases h;exact⟨J,[_,_],⟨oL J J J u7 p9 nl J,⟨J,tr⟩⟩,J,io⟩
theorem oV{a0 a1 a2}:PO Tryz.prog 323 [b9.Pv a0,.I a1,.I a2] (ah a0 a1 a2) λr=>b9.Pv r:=by
 refine pO Tryz.func323 λr h _ _=>?_;refine S4 2 J<|S3 4 J<|cA h L1 J J λv1 _ h=>S2 5 J<|l5<|S4 2 J ?_;refine cN h (λhc h=>?_) λhc h=>?_
 .refine S3 5 J ?_;refine iL h J J bg ak λv2 _ h=>S2 4 J<|S4 6 J<|S5 4 J<|cF h cy J J λv3 _ h=>S2 5 J<|S4 2 J<|c5 ?_;cases h;exact⟨J,[_],⟨oL J J J u7 p9 nl J,tr⟩,J,io⟩
 .refine c8 ?_;refine S4 2 J<|c5 ?_;cases h;exact⟨J,[_],⟨oL J J J u7 p9 nl J,tr⟩,J,io⟩
theorem fz{a0 a1}:PO Tryz.prog 293 [l6.Pv a0,.I a1] (Q3 a0 a1) λr=>.tup [l6.Pv r.1,.I r.2]:=by
 refine pO Tryz.func293 λr h _ _=>?_;refine S4 3 J<|S3 2 J<|cA h L1 J J λv1 _ h=>S2 5 J<|l5<|S4 2 J ?_;refine cN h (λhc h=>?_) λhc h=>?_
 .refine S4 4 J ?_;refine c5 ?_;cases h;exact⟨J,[_,_],⟨oL J J J ib eh nl J,⟨J,tr⟩⟩,J,io⟩
 .refine c8 ?_;refine S3 3 J<|iL h J J bg ak λv2 _ h=>S2 3 J<|l5<|S4 4 J ?_;refine cN h (λhc h=>?_) λhc h=>?_
  .refine S3 3 J ?_;refine y0 J (p7 (cs:=[.I 3,.I v2.Gen,.I 0,.I 0,.I 0,.I 0,.bool false,.nl]) J wK pN J J J)<|cF h L2 J J λv3 _ h=>S2 2 J<|c5 ?_;cases h;exact⟨J,[_,_],⟨oL J J J ib eh nl J,⟨J,tr⟩⟩,J,io⟩
  .refine c8 ?_;refine S3 4 J<|y0 J (p7 (cs:=[.I 0,.I (w9 (v2.Gen+1)),.I 0,.I 0,.I 0,.I 0,.bool false,.nl]) J wK pN J J J)<|cF h L2 J J λv4 _ h=>S2 2 J<|c5 ?_;cases h;exact⟨J,[_,_],⟨oL J J J ib eh nl J,⟨J,tr⟩⟩,J,io⟩
theorem uP{a0 a1}:PO Tryz.prog 322 [b9.Pv a0,.I a1] (aU a0 a1) λr=>b9.Pv r:=by
 refine pO Tryz.func322 λr h _ _=>?_;refine S4 2 J<|S3 2 J<|cF h oV J J λv1 _ h=>S2 1 J<|S3 4 J<|cA h L1 J J λv2 _ h=>S2 5 J<|l5<|S4 2 J ?_;refine cN h (λhc h=>?_) λhc h=>?_
 .refine S4 2 J ?_;refine c5 ?_;cases h;exact⟨J,[_],⟨oL J J J u7 p9 nl J,tr⟩,J,io⟩
 .refine c8 ?_;refine l5<|S3 5 J<|iL h J J bg ak λv3 _ h=>S2 3 J<|S3 4 J<|n0 J (λhg=>oF J JH J)<|n0 J (λhg=>oF (ct hg) JG J)<|n0 J (λhg=>oS (ct hg) J J K1 J)<|n0 J (λhg=>D2 (ct hg) J J)<|y0 J (D5 J J J (λq=>kl q))<|yN ?_;refine cN h (λhc h=>?_) λhc h=>?_
  .refine S5 4 J ?_;refine cF h fz J J λv4 _ h=>S2 6 J<|S4 2 J<|c5 ?_;cases h;exact⟨J,[_],⟨oL J J J u7 p9 nl J,tr⟩,J,io⟩
  .refine c8 ?_;refine S4 2 J<|c5 ?_;cases h;exact⟨J,[_],⟨oL J J J u7 p9 nl J,tr⟩,J,io⟩
theorem tg{a0 a1 a2 a3}:PO Tryz.prog 283 [b9.Pv a0,.I a1,.I a2,.I a3] (R7 a0 a1 a2 a3) λr=>.tup [b9.Pv r.1,.I r.2]:=by
 refine pO Tryz.func283 λr h _ _=>?_;unfold R7 at h;refine S4 3 J<|l5<|S3 3 J<|n0 J (λhg=>mI J)<|n0 J (λhg=>oF J Lk J)<|n0 J (λhg=>oS (ct hg) J J BW J)<|n0 J (λhg=>cG (f:=k9.Pv) (ct hg) Q5)<|n0 J (λhg=>D2 (ct hg) (ct hg) J)<|y0 J (O8 J J J (λq=>oG q))<|S1 1 J<|n0 J (λhg=>oF J Ll J)<|n0 J (λhg=>oL (ct hg) J J jl cI nl J)<|n0 J (λhg=>mI J)<|y6 h λv1 hv1 h=>n0 J (λhg=>R8 J qW (X5 (ct hg) (X5 (ct hg) J)) (aj hv1 hg))<|y0 J (O8 J J J (λq=>oG q))<|yN ?_;refine cN h (λhc h=>?_) λhc h=>?_
 .refine S4 3 J ?_;refine c5 ?_;cases h;exact⟨J,[_,_],⟨oL J J J u7 p9 nl J,⟨J,tr⟩⟩,J,io⟩
 .refine c8 ?_;refine l5<|S3 2 J<|cA h Y8 J J λv2 _ h=>S2 1 J ?_;refine cN h (λhc h=>?_) λhc h=>?_
  .refine S4 3 J ?_;refine c5 ?_;cases h;exact⟨J,[_,_],⟨oL J J J u7 p9 nl J,⟨J,tr⟩⟩,J,io⟩
  .refine c8 ?_;refine S3 5 J<|cF h vY J J λv3 _ h=>S2 7 J<|S4 3 J<|S3 2 J<|cF h oV J J λv4 _ h=>S1 1 J<|cF h uP J J λv5 _ h=>S2 2 J<|c5 ?_;cases h;exact⟨J,[_,_],⟨oL J J J u7 p9 nl J,⟨J,tr⟩⟩,J,io⟩
theorem eT{a0}:PO Tryz.prog 208 [r9.Pv a0] (L4 a0) λr=>.tup [b9.Pv r.1,.I r.2]:=by
 refine pO Tryz.func208 λr h _ _=>?_;refine S4 3 J<|l5<|S4 4 J ?_;refine cN h (λhc h=>?_) λhc h=>?_
 .refine S3 8 J ?_;refine cF h tg J J λv1 _ h=>S2 4 J<|c5 ?_;cases h;exact⟨J,[_,_],⟨oL J J J u7 p9 nl J,⟨J,tr⟩⟩,J,io⟩
 .refine c8 ?_;refine S3 5 J<|cA h U8 J J λv2 _ h=>S2 5 J<|l5<|S4 2 J ?_;refine cN h (λhc h=>?_) λhc h=>?_
  .refine S4 5 J ?_;refine c5 ?_;cases h;exact⟨J,[_,_],⟨oL J J J u7 p9 nl J,⟨J,tr⟩⟩,J,io⟩
  .refine c8 ?_;refine S3 9 J<|cF h tg J J λv3 _ h=>S2 4 J<|c5 ?_;cases h;exact⟨J,[_,_],⟨oL J J J u7 p9 nl J,⟨J,tr⟩⟩,J,io⟩
theorem jB{a0}:PO Tryz.prog 209 [r9.Pv a0] (aN a0) λr=>.tup [b9.Pv r.1,.I r.2]:=by
 refine pO Tryz.func209 λr h _ _=>?_;unfold aN at h;refine S4 3 J<|dr [] u4 (by kernel_rfl) (by kernel_rfl)<|S7 7 J<|y6 h λv1 hv1 h=>d2 J (R8 J uv J hv1) J<|S7 2 J<|y6 h λv2 hv2 h=>eE J (w8 J J1 J hv2) J<|S7 2 J<|D1 (x':=b9.Pv v2.1) (cl':=true) J J (.inr J) p9<|S8 1 J<|c5 ?_;cases h;exact⟨J,[_,_],⟨oL J J J u7 p9 nl J,⟨J,tr⟩⟩,J,io⟩
theorem sZ{a0 a1}:PO Tryz.prog 354 [.I a0,.I a1] (jb a0 a1) λr=>.fn (.func 364) [.rptr [.I r.1],.rptr [.I r.2]]:=by
 refine pO Tryz.func354 λr h _ _=>?_;unfold jb at h;refine S4 3 J<|S4 2 J<|c5 ?_;cases h;exact f1
theorem sW{a0 a1}:PO Tryz.prog 365 [.I a0,.I a1] (dR a0 a1) λr=>.I r:=by
 refine pO Tryz.func365 λr h _ _=>?_;refine S4 1 J<|l5<|S4 2 J ?_;refine cN h (λhc h=>?_) λhc h=>?_
 .refine S4 1 J ?_;refine c5 ?_;cases h;exact f1
 .refine c8 ?_;refine S3 4 J<|y6 h λv1 hv1 h=>y0 J (nN J J hv1)<|S2 1 J<|l5<|S4 2 J ?_;refine cN h (λhc h=>?_) λhc h=>?_
  .refine S6 4 J ?_;refine S4 2 J<|c5 ?_;cases h;exact f1
  .refine c8 ?_;refine S4 2 J<|c5 ?_;cases h;exact f1
theorem mQ{a0 a1}:PO Tryz.prog 332 [.L g6.Pv a0,.I a1] (aT a0 a1) λr=>.I r:=by
 refine pO Tryz.func332 λr h _ _=>?_;refine S4 3 J ?_;refine jq h (λ_=>St.of [(4,.ptr 2001 0 0)] [(2001,vR (.I 0) 1)]) (λq9 h=>?_) λκ8 h=>?_
 .refine S4 1 J ?_;refine c5 ?_;cases h;exact⟨J,[_],⟨oS J J J K1 J,tr⟩,J,io⟩
 .refine S3 1 J ?_;refine nL J dw<|S1 1 J<|cF h sZ J J λv10 _ h=>yN<|l4<|bM (rW (λl=>if l=2004 then 4 else if l=2005 then 3 else if l=2006 then 2 else l) [(2,.ptr 2006 0 0),(3,.ptr 2005 0 0),(4,.ptr 2004 0 0),(9,.fn (.func 364) [.rptr [.I v10.1],.rptr [.I v10.2]])] [(2004,vR (.I 0) 1),(2005,vR (.I a1) 1),(2006,vR (.L g6.Pv a0) 1)]) ?_;refine bL (fn:=Tryz.f364) (N1:=20) J Tryz.func364 J J nl J HA J J (λl17 e18 o19 hR20=>?_);refine S4 2 J<|l4<|lq h (λs12=>St.of [(1000002,.ptr 2006 0 0),(1000003,.ptr 2005 0 0),(1000004,.ptr 2004 0 0),(1000009,.fn (.func 364) [.rptr [.I v10.1],.rptr [.I v10.2]]),(0,.fn (.yield l17) []),(1,.rptr [.I v10.1]),(2,.rptr [.I v10.2]),(5,.I v10.1),(6,.I s12)] [(2004,vR (.I 0) 1),(2005,vR (.I a1) 1),(2006,vR (.L g6.Pv a0) 1)]) W λs12 x13 h hx23=>S4 1 J<|l5 ?_;refine cN h (λhc h=>?_) λhc h=>?_
  .refine c8 ?_;refine l5<|l4<|S4 2 J<|Xh [] 8 u4 (by kernel_rfl) (by kernel_rfl) (by kernel_rfl) (by kernel_rfl) nl<|S7 3 J<|y6 h λv14 hv24 h=>d2 J (R8 J sW J hv24) J<|S7 3 J<|y6 h λv15 hv25 h=>d7 J (λ_ hN=>nN J J hv25) J<|K2<|CT (WE [(1000002,.ptr 2006 0 0),(1000003,.ptr 2005 0 0),(1000004,.ptr 2004 0 0),(1000009,.fn (.func 364) [.rptr [.I v10.1],.rptr [.I v10.2]]),(0,.fn (.yield l17) []),(1,.rptr [.I v10.1]),(2,.rptr [.I v10.2]),(5,.I v10.1),(6,.I s12),(9,.fn (.yield l17) []),(16,.I v15)] [(2004,vR (.I 0) 1),(2005,vR (.I a1) 1),(2006,vR (.L g6.Pv a0) 1)]) ?_;refine Ap J hR20 J J J J J J (λe26 o27 o28=>?_);refine S6 1 J ?_;refine⟨J,?_⟩;refine l4<|l5<|S3 2 J<|iL h J J dw dj λv16 hv29 h=>S2 3 J ?_;refine cN h (λhc h=>?_) λhc h=>?_
   .refine p6 ?_;refine g8<|mE (by decide) ?_;refine⟨J,?_⟩;refine⟨_,ux [(1000002,.ptr 2006 0 0),(1000003,.ptr 2005 0 0),(1000004,.ptr 2004 0 0),(1000009,.fn (.func 364) [.rptr [.I v10.1],.rptr [.I v10.2]]),(0,.fn (.yield l17) []),(1,.rptr [.I v10.1]),(2,.rptr [.I v10.2]),(5,.I v10.1),(6,.I s12),(17,.bool false)] [(2004,vR (.I 0) 1),(2005,vR (.I a1) 1),(2006,vR (.L g6.Pv a0) 1)] ⟨J,J,J,J,J,J,J,J,J,J,J,J,J,J,J,J,J,J,J,J,J,J,J,J,J,J,J,J,J,J,tr⟩ ⟨rS,rS,rS,tr⟩,?_⟩;refine S8 1 J ?_;refine G6 true J (λ_=>?_) (λq=>nomatch q);refine c5 ?_;refine .inr ⟨.exit 0,J,XM ?_⟩;refine m8 ?_;have h:=xL hx23 h;exact eJ h (WP (λl=>if l=2001 then 2004 else l))
   .refine c8 ?_;refine dr [] u4 (by kernel_rfl) (by kernel_rfl)<|S7 2 J<|d0 J (P4 (f:=g6.Pv) (cs:=g6.Pc v16) hv29 J J dw dj J J) J<|S7 4 J<|vE J (λhg=>oS J J J BX J) J<|oA J (λhg _ hN=>mI J) J ?_;refine vE J (λhg=>P4 (f:=g6.Pv) (cs:=g6.Pc v16) hv29 (ct hg) (ct hg) dw dj J J) J<|oA J (λhg _ hN=>aC (ct hg) JI J) J ?_;refine vE J (λhg=>V2 (ct hg) K1 J) J<|vE J (λhg=>oS J J J K1 J) J<|oA J (λhg _ hN=>D2 (ct hg) (ct hg) J) J<|d7 J (λ_ hN=>D5 J J J (λq=>kl q)) J<|K2 ?_;refine cN h (λhc h=>?_) λhc h=>?_
    .refine S4 2 J ?_;refine c5 ?_;refine⟨J,?_⟩;refine⟨_,ux [(1000002,.ptr 2006 0 0),(1000003,.ptr 2005 0 0),(1000004,.ptr 2004 0 0),(1000009,.fn (.func 364) [.rptr [.I v10.1],.rptr [.I v10.2]]),(0,.fn (.yield l17) []),(1,.rptr [.I v10.1]),(2,.rptr [.I v10.2]),(5,.I v10.1),(6,.I s12),(17,.bool false)] [(2004,vR (.I v15) 1),(2005,vR (.I a1) 1),(2006,vR (.L g6.Pv a0) 1)] ⟨J,J,J,J,J,J,J,J,J,J,J,J,J,J,J,J,J,J,J,J,J,J,J,J,J,J,J,J,J,J,tr⟩ ⟨rS,rS,rS,tr⟩,?_⟩;refine S8 1 J ?_;refine G6 true J (λ_=>?_) (λq=>nomatch q);refine c5 ?_;refine .inr ⟨.ret,J,Qj ?_⟩;have h:=xL hx23 h;cases h;exact⟨J,[_],⟨oS J J J K1 J,tr⟩,J,io⟩
    .refine c8 ?_;refine⟨J,?_⟩;refine⟨_,ux [(1000002,.ptr 2006 0 0),(1000003,.ptr 2005 0 0),(1000004,.ptr 2004 0 0),(1000009,.fn (.func 364) [.rptr [.I v10.1],.rptr [.I v10.2]]),(0,.fn (.yield l17) []),(1,.rptr [.I v10.1]),(2,.rptr [.I v10.2]),(5,.I v10.1),(6,.I s12),(17,.bool true)] [(2004,vR (.I 0) 1),(2005,vR (.I a1) 1),(2006,vR (.L g6.Pv a0) 1)] ⟨J,J,J,J,J,J,J,J,J,J,J,J,J,J,J,J,J,J,J,J,J,J,J,J,J,J,J,J,J,J,tr⟩ ⟨rS,rS,rS,tr⟩,?_⟩;refine S8 1 J ?_;refine G6 false J (λq=>nomatch q) (λ_=>?_);refine c8<|S6 2 J ?_;exact eL h W
  .refine p6 ?_;refine g8<|g8<|m8 ?_;refine .inl ⟨J,?_⟩;have h:=xL hx23 h;exact eJ h (WP (λl=>if l=2001 then 2004 else l))
theorem km{a0 a1}:PO Tryz.prog 326 [.L g6.Pv a0,.I a1] (Y6 a0 a1) λr=>.tup [.I r.1,.I r.2]:=by
 refine pO Tryz.func326 λr h _ _=>?_;refine S4 2 J<|S3 2 J<|cA h mQ J J λv1 _ h=>S2 1 J<|l5<|S4 2 J ?_;refine cN h (λhc h=>?_) λhc h=>?_
 .refine S4 2 J ?_;refine c5 ?_;cases h;exact f2
 .refine c8 ?_;refine S3 2 J<|iL h J J dw dj λv2 _ h=>S2 4 J<|c5 ?_;cases h;exact f2
theorem bR{a0}:OC Tryz.prog 355 [.L g6.Pv a0] (E9 a0) λr=>⟨List.map g6.Pv r,0,true,3,true⟩:=by
 refine Sw Tryz.func355 λr h _ _=>?_;unfold E9 at h;refine S4 1 J<|l5<|S3 1 J<|uy J dw λb hb=>yN ?_;refine G6 b J (λhc=>?_) (λhc=>?_)
 .obtain rfl:a0 = []:=by simpa using hb hc
  refine S4 1 J<|bM (G4 (t:=2) (l:=920000) (z:=3) J J)<|c5 ?_;cases h;exact⟨J,_,_,J,J,J,J⟩
 .refine c8 ?_;refine sR<|y0 J (lL J dw dj)<|S1 1 J<|y1 J (yw (f:=g6.Pv) h J J (.inl ⟨_,J,J⟩) dw dj Hx wM J (λ_=>J)) J<|S2 1 J<|c5 ?_;exact⟨J,_,_,J,J,J,J⟩
theorem mR{a0 a1 a2}:PO Tryz.prog 333 [.L g6.Pv a0,.I a1,g6.Pv a2] (dS a0 a1 a2) λr=>.L g6.Pv r:=by
 refine pO Tryz.func333 λr h _ _=>?_;unfold dS at h;refine S4 2 J<|S3 1 J<|y6 h λv1 hv1 h=>Jv J (gW J bR J hv1) J J<|S2 1 J<|S3 3 J<|y6 h λv2 hv2 h=>y0 J (aQ (f:=g6.Pv) hv2 J J J J dw dj J)<|nV (f:=g6.Pv) (v:=a2) hv2 J J (.inl J) dj<|yN<|S4 2 J<|c5 ?_;cases h;exact f1
theorem sV{a0 a1}:PO Tryz.prog 291 [.L g6.Pv a0,.I a1] (aS a0 a1) λr=>.tup [.L g6.Pv r.1,.I r.2.1,.I r.2.2]:=by
 refine pO Tryz.func291 λr h _ _=>?_;refine S4 3 J<|S3 2 J<|cA h mQ J J λv1 _ h=>S2 1 J<|l5<|S4 2 J ?_;refine cN h (λhc h=>?_) λhc h=>?_
 .refine S4 4 J ?_;refine c5 ?_;cases h;exact f3
 .refine c8 ?_;refine dr [] u4 (by kernel_rfl) (by kernel_rfl)<|S7 2 J<|d7 J (λ_ hN=>p7 (cs:=[.I 2,.I 0,.I 0]) J HF wM J J J) J<|y6 h λv2 hv2 h=>eE J (w8 J mR J hv2) J<|S7 2 J<|y6 h λv3 hv3 h=>d0 J (P4 (f:=g6.Pv) (cs:=g6.Pc v3) hv3 J J dw dj J J) J<|S8 5 J<|c5 ?_;cases h;exact f3
theorem En{a0 a1 a2}:PO Tryz.prog 351 [.L g6.Pv a0,.I a1,.I a2] (oQ a0 a1 a2) λr=>.tup [.L g6.Pv r.1,.I r.2]:=by
 refine pO Tryz.func351 λr h _ _=>?_;refine S4 3 J<|S3 2 J<|y0 J (p7 (cs:=[.I 1,.I a1,.I a2]) J HF wM J J J)<|S2 2 J<|l5<|S3 2 J<|cA h mQ J J λv1 _ h=>S2 1 J<|S4 2 J ?_;refine cN h (λhc h=>?_) λhc h=>?_
 .refine S3 3 J ?_;refine cF h mR J J λv2 _ h=>S2 2 J<|c5 ?_;cases h;exact⟨J,[_,_],⟨oS J J J BX J,⟨oS J J J uB J,tr⟩⟩,J,io⟩
 .refine c8 ?_;refine jq h (λ_=>St.of [(3,.ptr 2004 0 0),(6,.ptr 2003 0 0),(7,.ptr 2002 0 0)] [(2002,vR (.I 0) 1),(2003,vR (.nl) 1),(2004,vR (.L g6.Pv a0) 1)]) (λq12 h=>?_) λκ11 h=>?_
  .refine S4 3 J ?_;refine c5 ?_;cases h;exact⟨J,[_,_],⟨oS J J J BX J,⟨oS J J J uB J,tr⟩⟩,J,io⟩
  .refine S3 1 J ?_;refine nL J dw<|S1 1 J<|cF h sZ J J λv13 _ h=>yN<|l4<|bM (rW (λl=>if l=2005 then 8 else if l=2006 then 7 else if l=2007 then 6 else if l=2008 then 3 else l) [(3,.ptr 2008 0 0),(6,.ptr 2007 0 0),(7,.ptr 2006 0 0),(8,.ptr 2005 0 0),(26,.fn (.func 364) [.rptr [.I v13.1],.rptr [.I v13.2]])] [(2005,vR (.agg [.I 1,.I a1,.I a2]) 3),(2006,vR (.I 0) 1),(2007,vR (.nl) 1),(2008,vR (.L g6.Pv a0) 1)]) ?_;refine bL (fn:=Tryz.f364) (N1:=20) J Tryz.func364 J J nl J HA J J (λl20 e21 o22 hR23=>?_);refine S4 2 J<|l4<|lq h (λs15=>St.of [(1000003,.ptr 2008 0 0),(1000006,.ptr 2007 0 0),(1000007,.ptr 2006 0 0),(1000008,.ptr 2005 0 0),(1000026,.fn (.func 364) [.rptr [.I v13.1],.rptr [.I v13.2]]),(0,.fn (.yield l20) []),(1,.rptr [.I v13.1]),(2,.rptr [.I v13.2]),(5,.I v13.1),(6,.I s15)] [(2005,vR (.agg [.I 1,.I a1,.I a2]) 3),(2006,vR (.I 0) 1),(2007,vR (.nl) 1),(2008,vR (.L g6.Pv a0) 1)]) W λs15 x16 h hx26=>S4 1 J<|l5 ?_;refine cN h (λhc h=>?_) λhc h=>?_
   .refine c8 ?_;refine l5<|l4<|S4 2 J<|Xh [] 8 u4 (by kernel_rfl) (by kernel_rfl) (by kernel_rfl) (by kernel_rfl) nl<|S7 3 J<|y6 h λv17 hv27 h=>d2 J (R8 J sW J hv27) J<|S7 3 J<|y6 h λv18 hv28 h=>d7 J (λ_ hN=>nN J J hv28) J<|K2<|CT (WE [(1000003,.ptr 2008 0 0),(1000006,.ptr 2007 0 0),(1000007,.ptr 2006 0 0),(1000008,.ptr 2005 0 0),(1000026,.fn (.func 364) [.rptr [.I v13.1],.rptr [.I v13.2]]),(0,.fn (.yield l20) []),(1,.rptr [.I v13.1]),(2,.rptr [.I v13.2]),(5,.I v13.1),(6,.I s15),(9,.fn (.yield l20) []),(16,.I v18)] [(2005,vR (.agg [.I 1,.I a1,.I a2]) 3),(2006,vR (.I 0) 1),(2007,vR (.nl) 1),(2008,vR (.L g6.Pv a0) 1)]) ?_;refine Ap J hR23 J J J J J J (λe29 o30 o31=>?_);refine S6 1 J ?_;refine⟨J,?_⟩;refine l4<|S3 2 J<|iL h J J dw dj λv19 _ h=>S2 3 J ?_;refine cN h (λhc h=>?_) λhc h=>?_
    .refine S3 3 J ?_;refine cF h mR J J λv20 _ h=>S2 2 J<|c5 ?_;refine⟨J,?_⟩;refine⟨_,ux [(1000003,.ptr 2008 0 0),(1000006,.ptr 2007 0 0),(1000007,.ptr 2006 0 0),(1000008,.ptr 2005 0 0),(1000026,.fn (.func 364) [.rptr [.I v13.1],.rptr [.I v13.2]]),(0,.fn (.yield l20) []),(1,.rptr [.I v13.1]),(2,.rptr [.I v13.2]),(5,.I v13.1),(6,.I s15),(17,.bool false)] [(2005,vR (.agg [.I 1,.I a1,.I a2]) 3),(2006,vR (.I 0) 1),(2007,vR (.L g6.Pv v20) 1),(2008,vR (.L g6.Pv a0) 1)] ⟨J,J,J,J,J,J,J,J,J,J,J,J,J,J,J,J,J,J,J,J,J,J,J,J,J,J,J,J,J,J,J,J,J,tr⟩ ⟨rS,rS,rS,rS,tr⟩,?_⟩;refine S8 1 J ?_;refine G6 true J (λ_=>?_) (λq=>nomatch q);refine c5 ?_;refine .inr ⟨.ret,J,Qj ?_⟩;have h:=xL hx26 h;cases h;exact⟨J,[_,_],⟨oS J J J BX J,⟨oS J J J uB J,tr⟩⟩,J,io⟩
    .refine c8 ?_;refine⟨J,?_⟩;refine⟨_,ux [(1000003,.ptr 2008 0 0),(1000006,.ptr 2007 0 0),(1000007,.ptr 2006 0 0),(1000008,.ptr 2005 0 0),(1000026,.fn (.func 364) [.rptr [.I v13.1],.rptr [.I v13.2]]),(0,.fn (.yield l20) []),(1,.rptr [.I v13.1]),(2,.rptr [.I v13.2]),(5,.I v13.1),(6,.I s15),(17,.bool true)] [(2005,vR (.agg [.I 1,.I a1,.I a2]) 3),(2006,vR (.I 0) 1),(2007,vR (.nl) 1),(2008,vR (.L g6.Pv a0) 1)] ⟨J,J,J,J,J,J,J,J,J,J,J,J,J,J,J,J,J,J,J,J,J,J,J,J,J,J,J,J,J,J,J,J,J,tr⟩ ⟨rS,rS,rS,rS,tr⟩,?_⟩;refine S8 1 J ?_;refine G6 false J (λq=>nomatch q) (λ_=>?_);refine c8<|S6 2 J ?_;exact eL h W
   .refine p6 ?_;refine g8<|g8<|m8 ?_;refine .inl ⟨J,?_⟩;have h:=xL hx26 h;exact eJ h (WP (λl=>if l=2004 then 2008 else if l=2003 then 2007 else if l=2002 then 2006 else l))
theorem Cn{a0 a1 a2}:PO Tryz.prog 324 [.L g6.Pv a0,.I a1,.I a2] (U3 a0 a1 a2) λr=>.tup [.L g6.Pv r.1,.I r.2.1,.I r.2.2]:=by
 refine pO Tryz.func324 λr h _ _=>?_;refine S4 3 J<|l5<|S4 2 J ?_;refine cN h (λhc h=>?_) λhc h=>?_
 .refine S4 4 J ?_;refine c5 ?_;cases h;exact f3
 .refine c8 ?_;refine S3 2 J<|cA h km J J λv1 _ h=>S2 5 J<|l5<|S4 2 J ?_;refine cN h (λhc h=>?_) λhc h=>?_
  .refine S3 2 J ?_;refine cF h sV J J λv2 _ h=>S2 7 J<|S4 5 J<|c5 ?_;cases h;exact f3
  .refine c8 ?_;refine S3 3 J<|cF h En J J λv3 _ h=>S2 5 J<|l5<|S4 2 J ?_;refine cN h (λhc h=>?_) λhc h=>?_
   .refine S4 5 J ?_;refine c5 ?_;cases h;exact f3
   .refine c8 ?_;refine S4 5 J<|c5 ?_;cases h;exact f3
theorem nX{a0 a1}:PO Tryz.prog 325 [K7.Pv a0,b9.Pv a1] (ay a0 a1) λr=>b9.Pv r:=by
 refine pO Tryz.func325 λr h _ _=>?_;unfold ay at h;refine S4 3 J<|S4 4 J<|S4 2 J<|c5 ?_;cases h;exact⟨J,[_],⟨oL J J J u7 p9 nl J,tr⟩,J,io⟩
theorem dB{a0 a1 a2 a3}:PO Tryz.prog 320 [b9.Pv a0,.I a1,.I a2,.abs (RS 325 [K7.Pv a3])] (E0 a0 a1 a2 a3) λr=>b9.Pv r:=by
 refine pO Tryz.func320 λr h _ _=>?_;refine S4 2 J<|S3 3 J<|cF h eM J J λv1 _ h=>y6 h λv2 hv2 h=>DH (xs:=[b9.Pv v1]) J J OV J (nX.2 _ hv2)<|S1 1 J<|cF h aM J J λv3 _ h=>S2 1 J<|c5 ?_;cases h;exact⟨J,[_],⟨oL J J J u7 p9 nl J,tr⟩,J,io⟩
theorem CB{a0 a1 a2}:PO Tryz.prog 284 [b9.Pv a0,.I a1,.I a2] (bY a0 a1 a2) λr=>.tup [b9.Pv r.1,.I r.2]:=by
 refine pO Tryz.func284 λr h _ _=>?_;refine S4 3 J<|l5<|S4 2 J ?_;refine cN h (λhc h=>?_) λhc h=>?_
 .refine S4 3 J ?_;refine c5 ?_;cases h;exact⟨J,[_,_],⟨oL J J J u7 p9 nl J,⟨J,tr⟩⟩,J,io⟩
 .refine c8 ?_;refine l5<|S3 2 J<|cA h Y8 J J λv1 _ h=>S1 2 J<|n0 J (λhg=>oL J J J u7 p9 nl J)<|n0 J (λhg=>mI J)<|y6 h λv2 hv2 h=>n0 J (λhg=>R8 J Y8 (X5 (ct hg) (X5 (ct hg) J)) (aj hv2 hg))<|n0 J (λhg=>fK (ct hg) J)<|y0 J (O8 J J J (λq=>oG q))<|yN ?_;refine cN h (λhc h=>?_) λhc h=>?_
  .refine S4 3 J ?_;refine c5 ?_;cases h;exact⟨J,[_,_],⟨oL J J J u7 p9 nl J,⟨J,tr⟩⟩,J,io⟩
  .refine c8 ?_;refine S3 4 J<|cF h Cn J J λv3 _ h=>S2 7 J<|l5<|S4 2 J ?_;refine cN h (λhc h=>?_) λhc h=>?_
   .refine S4 4 J ?_;refine c5 ?_;cases h;exact⟨J,[_,_],⟨oL J J J u7 p9 nl J,⟨J,tr⟩⟩,J,io⟩
   .refine c8 ?_;refine S3 4 J<|y0 J (p7 (cs:=[.L g6.Pv v3.1]) J Pn PA J J J)<|y0 J (ve (d:=.agg [.L g6.Pv v3.1]) J)<|cF h dB J J λv4 _ h=>S2 2 J<|c5 ?_;cases h;exact⟨J,[_,_],⟨oL J J J u7 p9 nl J,⟨J,tr⟩⟩,J,io⟩
theorem gV{a0}:PO Tryz.prog 210 [r9.Pv a0] (bw a0) λr=>.tup [b9.Pv r.1,.I r.2]:=by
 refine pO Tryz.func210 λr h _ _=>?_;refine S4 3 J<|S3 5 J<|cA h U8 J J λv1 _ h=>S2 5 J<|l5<|S4 2 J ?_;refine cN h (λhc h=>?_) λhc h=>?_
 .refine S4 5 J ?_;refine c5 ?_;cases h;exact⟨J,[_,_],⟨oL J J J u7 p9 nl J,⟨J,tr⟩⟩,J,io⟩
 .refine c8 ?_;refine dr [] u4 (by kernel_rfl) (by kernel_rfl)<|S7 8 J<|y6 h λv2 hv2 h=>d2 J (R8 J P8 J hv2) J<|y6 h λv3 hv3 h=>eE J (w8 J CB J hv3) J<|S7 2 J<|D1 (x':=b9.Pv v3.1) (cl':=true) J J (.inr J) p9<|S8 1 J<|c5 ?_;cases h;exact⟨J,[_,_],⟨oL J J J u7 p9 nl J,⟨J,tr⟩⟩,J,io⟩
theorem Cm{a0 a1}:PO Tryz.prog 285 [.L g6.Pv a0,.I a1] (uH a0 a1) λr=>.tup [.I r.1,.I r.2]:=by
 refine pO Tryz.func285 λr h _ _=>?_;refine S4 2 J<|S3 2 J<|cA h km J J λv1 _ h=>S2 4 J<|c5 ?_;cases h;exact f2
theorem iH{a0}:PO Tryz.prog 211 [r9.Pv a0] (cd a0) λr=>.tup [b9.Pv r.1,.I r.2]:=by
 refine pO Tryz.func211 λr h _ _=>?_;refine S4 3 J<|S3 5 J<|cA h U8 J J λv1 _ h=>S2 5 J<|l5<|S4 2 J ?_;refine cN h (λhc h=>?_) λhc h=>?_
 .refine S4 5 J ?_;refine c5 ?_;cases h;exact⟨J,[_,_],⟨oL J J J u7 p9 nl J,⟨J,tr⟩⟩,J,io⟩
 .refine c8 ?_;refine dr [] u4 (by kernel_rfl) (by kernel_rfl)<|S7 5 J<|y6 h λv2 hv2 h=>d2 J (R8 J Cm J hv2) J<|S7 2 J<|y6 h λv3 hv3 h=>eE J (w8 J J1 J hv3) J<|S7 2 J<|D1 (x':=b9.Pv v3.1) (cl':=true) J J (.inr J) p9<|S8 1 J<|c5 ?_;cases h;exact⟨J,[_,_],⟨oL J J J u7 p9 nl J,⟨J,tr⟩⟩,J,io⟩
theorem fI{a0}:PO Tryz.prog 212 [r9.Pv a0] (T1 a0) λr=>.tup [b9.Pv r.1,.I r.2]:=by
 refine pO Tryz.func212 λr h _ _=>?_;unfold T1 at h;refine S4 3 J<|S4 4 J<|c5 ?_;cases h;exact⟨J,[_,_],⟨oL J J J u7 p9 nl J,⟨J,tr⟩⟩,J,io⟩
theorem GA{f:Fv}{a0:r9}{r:b9 × Int}(h:wY f a0=some r):∃n,f=some n/\B4 Tryz.prog n/\bc Tryz.prog n [r9.Pv a0] (.tup [b9.Pv r.1,.I r.2]):=by
 unfold wY at h;by_cases e203:f=some 203
 .rw[zb e203] at h;exact⟨203,e203,(@eR a0).1,(@eR a0).2 _ h⟩
 rw[za e203] at h;by_cases e204:f=some 204
 .rw[zb e204] at h;exact⟨204,e204,(@cE a0).1,(@cE a0).2 _ h⟩
 rw[za e204] at h;by_cases e205:f=some 205
 .rw[zb e205] at h;exact⟨205,e205,(@gT a0).1,(@gT a0).2 _ h⟩
 rw[za e205] at h;by_cases e206:f=some 206
 .rw[zb e206] at h;exact⟨206,e206,(@gU a0).1,(@gU a0).2 _ h⟩
 rw[za e206] at h;by_cases e207:f=some 207
 .rw[zb e207] at h;exact⟨207,e207,(@fJ a0).1,(@fJ a0).2 _ h⟩
 rw[za e207] at h;by_cases e208:f=some 208
 .rw[zb e208] at h;exact⟨208,e208,(@eT a0).1,(@eT a0).2 _ h⟩
 rw[za e208] at h;by_cases e209:f=some 209
 .rw[zb e209] at h;exact⟨209,e209,(@jB a0).1,(@jB a0).2 _ h⟩
 rw[za e209] at h;by_cases e210:f=some 210
 .rw[zb e210] at h;exact⟨210,e210,(@gV a0).1,(@gV a0).2 _ h⟩
 rw[za e210] at h;by_cases e211:f=some 211
 .rw[zb e211] at h;exact⟨211,e211,(@iH a0).1,(@iH a0).2 _ h⟩
 rw[za e211] at h;by_cases e212:f=some 212
 .rw[zb e212] at h;exact⟨212,e212,(@fI a0).1,(@fI a0).2 _ h⟩
 rw[za e212] at h;cases h
theorem ln{a0}:PO Tryz.prog 233 [.I a0] (cW a0) λr=>.bool r:=by
 refine pO Tryz.func233 λr h _ _=>?_;unfold cW at h;refine S4 1 J<|S4 4 J<|c5 ?_;cases h;exact f1
theorem re{a0 a1}:PO Tryz.prog 135 [.I a0,.I a1] (ic a0 a1) λr=>.I r:=by
 refine pO Tryz.func135 λr h _ _=>?_;refine S4 1 J<|S3 1 J<|cA h ln J J λv1 _ h=>S2 1 J<|S3 1 J<|cA h ln J J λv2 _ h=>S2 1 J<|l5<|S4 1 J ?_;refine cN h (λhc h=>?_) λhc h=>?_
 .refine l5 ?_;refine S4 1 J ?_;refine cN h (λhc h=>?_) λhc h=>?_
  .refine S4 1 J ?_;refine c5 ?_;cases h;exact f1
  .refine c8 ?_;refine S4 1 J<|c5 ?_;cases h;exact f1
 .refine c8 ?_;refine l5<|S4 1 J ?_;refine cN h (λhc h=>?_) λhc h=>?_
  .refine S4 1 J ?_;refine c5 ?_;cases h;exact f1
  .refine c8 ?_;refine l5<|S4 3 J ?_;refine cN h (λhc h=>?_) λhc h=>?_
   .refine S4 1 J ?_;refine c5 ?_;cases h;exact f1
   .refine c8 ?_;refine l5<|S4 3 J ?_;refine cN h (λhc h=>?_) λhc h=>?_
    .refine S4 1 J ?_;refine c5 ?_;cases h;exact f1
    .refine c8 ?_;refine S4 1 J<|c5 ?_;cases h;exact f1
theorem wF{a0 a1 a2}:PO Tryz.prog 134 [.I a0,.I a1,.rptr [.abs (U0 (List.map (bW iF iF) a2))]] (iX a0 a1 a2) λr=>.I r:=by
 refine pO Tryz.func134 λr h _ _=>?_;refine S4 1 J<|S3 2 J<|y0 J (BC (es:=a2) (k:=a0) (E:=iF) (EK:=iF) (d:=.I ((z8 a2 a0).getD (0:Int))) J J xt (x8 I0) C0 J (ML _ _ _))<|S1 2 J<|y0 J (BC (es:=a2) (k:=a1) (E:=iF) (EK:=iF) (d:=.I ((z8 a2 a1).getD (0:Int))) J J xt (x8 I0) C0 J (ML _ _ _))<|cA h re J J λv1 _ h=>S2 1 J<|c5 ?_;cases h;exact f1
theorem R6{a0}:PO Tryz.prog 69 [b6.Pv a0] (F8 a0) λr=>.L iF r:=by
 refine pO Tryz.func69 λr h _ _=>?_;refine S4 2 J<|S4 1 J<|sR<|BS (KT:=Int) (VT:=Int) (EK:=iF) (E:=iF) 5000008 J J<|S2 2 J ?_;refine jq h (λq=>St.of [(3,.sl 910003),(4,.ptr 4 0 0)] [(4,vS (.mp 5000008) 1),(5000008,⟨[.mapc (List.map (bW iF iF) q.1)],0,false,0,false⟩),(910003,⟨List.map iF q.2,0,true,1,true⟩)]) (λq20 h=>?_) λκ17 h=>?_
 .obtain⟨j18,j19⟩:=q20;refine S3 2 J<|O1 (Wk.trans (RP 5000008 nl J) (Vo 4 0 5000008 J J J J))<|y6 h λv21 hv12 h=>Vr hv12 J J OP Vg J J J OQ J J J J J (λp q r h=>wF.2 r h)<|yN<|S4 2 J<|c5 ?_;cases h;exact f1
 .refine S3 3 J ?_;refine nL J bg<|S2 1 J<|l4<|lq h (λq=>St.of [(3,.sl 910003),(4,.ptr 4 0 0),(11,.L c9.Pv a0.S.b7),(12,.I (a0.S.b7.length:Int)),(13,.I q.1)] [(4,vS (.mp 5000008) 1),(5000008,⟨[.mapc (List.map (bW iF iF) q.2.1)],0,false,0,false⟩),(910003,⟨List.map iF q.2.2,0,true,1,true⟩)]) (Wk.trans (G4 (t:=3) (l:=920003) (z:=1) J J) (WP (λl=>if l=910003 then 920003 else l))) λq27 x26 h hx15=>?_;obtain⟨s23,s24,s25⟩:=q27;refine S4 1 J<|l5 ?_;refine cN h (λhc h=>?_) λhc h=>?_
  .refine c8 ?_;refine jq h (λq=>St.of [(3,.sl 33),(4,.ptr 4 0 0),(11,.L c9.Pv a0.S.b7),(12,.I (a0.S.b7.length:Int)),(13,.I s23)] [(4,vS (.mp 5000008) 1),(5000008,⟨[.mapc (List.map (bW iF iF) q.1)],0,false,0,false⟩),(33,⟨List.map iF q.2,0,true,1,true⟩)]) (λq34 h=>?_) λκ31 h=>?_
   .obtain⟨j32,j33⟩:=q34;refine S6 2 J ?_;exact eL h (WP (λl=>if l=910003 then 33 else l))
   .refine l4 ?_;refine S3 1 J<|iL h J J bg ak λv35 _ h=>S2 4 J<|S4 3 J ?_;refine cN h (λhc h=>?_) λhc h=>?_
    .refine S3 3 J ?_;refine cA h oN J J λv36 _ h=>S2 1 J<|S3 5 J<|Z7 (es:=s24) (k:=v36) (v:=v35.Val.Serial) (E:=iF) (EK:=iF) (.inl J) J J J J J J xt (x8 I0)<|yN<|S5 2 J<|y0 J (I3 (f:=iF) (l:=[v36]) J m7 o7 C0 J J nl J J)<|y6 h λv37 hv22 h=>WZ (f:=iF) (b:=8) [(4,.ptr 4 0 0),(11,.L c9.Pv a0.S.b7),(12,.I (a0.S.b7.length:Int)),(13,.I s23),(14,.bool (decide (s23<(a0.S.b7.length:Int)))),(15,.I s23),(16,.rptr (c9.Pc v35)),(17,c9.Pv v35),(6,.ptr 6 0 0),(5,.I s23),(18,.ptr 6 0 0),(19,.I v35.State),(20,.bool (v35.State==1)),(21,.I s23),(22,.ptr 6 0 1),(23,.I v35.Gen),(24,.I v36),(7,.I v36),(25,.mp 5000008),(26,.I v36),(27,.ptr 6 0 2),(28,.ptr 6 0 2),(29,.I v35.Val.Serial),(31,.I v36),(32,.lst true (List.map iF [v36]))] [(6,vR (c9.Pv v35) 8),(5000008,⟨[.mapc (List.map (bW iF iF) (p8 s24 v36 v35.Val.Serial))],0,false,0,false⟩),(4,vS (.mp 5000008) 1)] J hv22 ⟨J,J,J,J,J,J,J,J,J,J,J,J,J,J,J,J,J,J,J,J,J,J,J,J,J,J,J,J,J,J,J,J,J,J,J,J,J,J,J,J,J,J,J,J,J,J,J,J,J,J,J,J,J,J,J,J,J,J,J,J,J,J,J,J,J,J,J,J,J,J,J,J,J,J,J,tr⟩ ⟨rS,W8 J J J (λq=>nomatch q) J J J J,W8 J J J (λq=>nomatch q) J J J J,tr⟩ J J J J (.inl ⟨_,J,J⟩) m7 o7 Q1 C0 J (λ_=>J)<|S2 1 J ?_;exact eJ h W
    .refine c8 ?_;exact eJ h (WP (λl=>if l=33 then 910003 else l))
  .refine p6 ?_;refine g8<|g8<|m8 ?_;have h:=xL hx15 h;exact eJ h W
theorem yT{a0}:PO Tryz.prog 213 [b9.Pv a0] (dW a0) λr=>.L iF r:=by
 refine pO Tryz.func213 λr h _ _=>?_;refine S4 2 J<|S4 1 J ?_;refine jq h (λj16=>St.of [(3,.sl 910003)] [(910003,⟨List.map iF j16,(List.map iF j16).length,true,1,true⟩)]) (λj16 h=>?_) λκ15 h=>?_
 .refine S4 2 J ?_;refine c5 ?_;cases h;exact f1
 .refine S3 2 J ?_;refine cF h R6 J J λv17 _ h=>nL J m7<|S2 1 J<|l4<|lq h (λq=>St.of [(1,.ptr 1 0 0),(3,.sl 910003),(10,.L iF v17),(11,.I (v17.length:Int)),(12,.I q.1)] [(1,vR (b9.Pv a0) 8),(910003,⟨List.map iF q.2,(List.map iF q.2).length,true,1,true⟩)]) (Wk.trans (G4 (t:=3) (l:=920003) (z:=1) J J) (WP (λl=>if l=910003 then 920003 else l))) λq22 x21 h hx16=>?_;obtain⟨s19,s20⟩:=q22;refine S4 1 J<|l5 ?_;refine cN h (λhc h=>?_) λhc h=>?_
  .refine c8 ?_;refine jq h (λj27=>St.of [(1,.ptr 1 0 0),(3,.sl 29),(10,.L iF v17),(11,.I (v17.length:Int)),(12,.I s19)] [(29,⟨List.map iF j27,(List.map iF j27).length,true,1,true⟩),(1,vR (b9.Pv a0) 8)]) (λj27 h=>?_) λκ26 h=>?_
   .refine S6 2 J ?_;exact eL h (Wk.trans (n7 _ [29]) (WP (λl=>if l=910003 then 29 else l)))
   .refine l4 ?_;refine sR<|iL h J J m7 o7 λv28 _ h=>S2 2 J<|S3 3 J<|cF h C6 J J λv29 _ h=>S2 6 J<|S4 3 J ?_;refine cN h (λhc h=>?_) λhc h=>?_
    .refine S5 2 J ?_;refine y0 J (I3 (f:=iF) (l:=[v28]) J m7 o7 C0 J J nl J J)<|y6 h λv30 hv23 h=>J5 J (I6 (f:=iF) hv23 J J J J J J (.inl ⟨_,J,J⟩) m7 o7 Q1 C0 J (λ_=>J)) J J J<|S2 1 J ?_;exact eJ h (Wk.trans (n7 _ [29]) W)
    .refine c8 ?_;exact eJ h (Wk.trans (n7 _ [910003]) (WP (λl=>if l=29 then 910003 else l)))
  .refine p6 ?_;refine g8<|g8<|m8 ?_;have h:=xL hx16 h;exact eJ h (Wk.trans (n7 _ [910003]) W)
theorem kH{a0}:PO Tryz.prog 214 [n9.Pv a0] (O9 a0) λr=>.bool r:=by
 refine pO Tryz.func214 λr h _ _=>?_;unfold O9 at h;refine S4 2 J<|S3 4 J<|n0 J (λhg=>oF J AV J)<|n0 J (λhg=>oS (ct hg) J J vC J)<|n0 J (λhg=>fK (ct hg) J)<|y0 J (D5 J J J (λq=>kl q))<|S2 1 J<|c5 ?_;cases h;exact f1
theorem lQ{a0 a1}:PO Tryz.prog 287 [k8.Pv a0,g7.Pv a1] (V5 a0 a1) λr=>.tup [k8.Pv r.1,.I r.2]:=by
 refine pO Tryz.func287 λr h _ _=>?_;unfold V5 at h;refine S4 4 J<|l5<|dr [] u4 (by kernel_rfl) (by kernel_rfl)<|S7 1 J<|y6 h λv1 hv1 h=>d2 J (R8 J R1 J hv1) J<|S8 3 J ?_;refine cN h (λhc h=>?_) λhc h=>?_
 .refine S4 3 J ?_;refine c5 ?_;cases h;exact⟨J,[_,_],⟨oL J J J jl cI nl J,⟨J,tr⟩⟩,J,io⟩
 .refine c8 ?_;refine dr [] u4 (by kernel_rfl) (by kernel_rfl)<|S7 3 J<|d2 J (R8 J R1 J hv1) J<|y6 h λv2 hv2 h=>eE J (w8 J Z5 J hv2) J<|S7 1 J<|VL J (I3 (f:=g7.Pv) (l:=[a1]) J I9 C8 ao J J nl J J) J<|y6 h λv3 hv3 h=>d3 J (yw (f:=g7.Pv) hv3 J J (.inl ⟨_,J,J⟩) I9 C8 mw ao J (λ_=>J)) J J J<|S7 1 J<|D1 (x':=.agg [.sl 19,.I a0.Cap]) (cl':=false) J J (.inl J) uC<|K2<|S4 3 J<|c5 ?_;cases h;exact⟨J,[_,_],⟨oL J J J jl cI nl J,⟨J,tr⟩⟩,J,io⟩
theorem vO{a0 a1}:PO Tryz.prog 220 [k8.Pv a0,g7.Pv a1] (pE a0 a1) λr=>.tup [k8.Pv r.1,.I r.2]:=by
 refine pO Tryz.func220 λr h _ _=>?_;refine S4 4 J<|S3 2 J<|cF h lQ J J λv1 _ h=>S2 4 J<|c5 ?_;cases h;exact⟨J,[_,_],⟨oL J J J jl cI nl J,⟨J,tr⟩⟩,J,io⟩
theorem lZ{a0 a1}:PO Tryz.prog 127 [b9.Pv a0,.I a1] (W9 a0 a1) λr=>b9.Pv r:=by
 refine pO Tryz.func127 λr h _ _=>?_;refine S4 2 J<|S3 3 J<|cF h C6 J J λv1 _ h=>S2 6 J<|l5<|S3 3 J<|n0 J (λhg=>oL J J J sa kc nl J)<|y6 h λv2 hv2 h=>n0 J (λhg=>R8 J kH (X5 (ct hg) J) (aj hv2 hg))<|n0 J (λhg=>fK (ct hg) J)<|y0 J (O8 J J J (λq=>oG q))<|yN ?_;refine cN h (λhc h=>?_) λhc h=>?_
 .refine S4 2 J ?_;refine c5 ?_;cases h;exact⟨J,[_],⟨oL J J J u7 p9 nl J,tr⟩,J,io⟩
 .refine c8 ?_;refine S4 2 J<|S3 4 J<|cF h cy J J λv3 _ h=>S2 5 J<|S3 5 J<|y0 J (p7 (cs:=[.I 1,.I a1,.I v1.1.Prog]) J sf ao J J J)<|cF h vO J J λv4 _ h=>S2 5 J<|S3 2 J<|cF h eM J J λv5 _ h=>S2 1 J<|c5 ?_;cases h;exact⟨J,[_],⟨oL J J J u7 p9 nl J,tr⟩,J,io⟩
theorem qy{a0 a1}:PO Tryz.prog 222 [b9.Pv a0,.L iF a1] (Z6 a0 a1) λr=>.L iF r:=by
 refine pO Tryz.func222 λr h _ _=>?_;refine S4 2 J<|sR<|BS (KT:=Int) (VT:=Bool) (EK:=iF) (E:=PV.bool) 5000011 J J<|S2 1 J<|S4 1 J ?_;refine jq h (λj18=>St.of [(6,.sl 910006)] [(910006,⟨List.map iF j18,(List.map iF j18).length,true,1,true⟩)]) (λj18 h=>?_) λκ17 h=>?_
 .refine S4 2 J ?_;refine c5 ?_;cases h;exact f1
 .refine S3 1 J ?_;refine nL J m7<|S2 1 J<|l4<|lq h (λq=>St.of [(2,.ptr 2 0 0),(5,.mp 5000011),(6,.sl 910006),(12,.L iF a1),(13,.I (a1.length:Int)),(14,.I q.1)] [(5000011,⟨[.mapc (List.map (bW iF PV.bool) q.2.1)],0,false,0,false⟩),(2,vR (b9.Pv a0) 8),(910006,⟨List.map iF q.2.2,(List.map iF q.2.2).length,true,1,true⟩)]) (Wk.trans (G4 (t:=6) (l:=920006) (z:=1) J J) (WP (λl=>if l=910006 then 920006 else l))) λq24 x23 h hx16=>?_;obtain⟨s20,s21,s22⟩:=q24;refine S4 1 J<|l5 ?_;refine cN h (λhc h=>?_) λhc h=>?_
  .refine c8 ?_;refine jq h (λq=>St.of [(2,.ptr 2 0 0),(5,.mp 5000011),(6,.sl 38),(12,.L iF a1),(13,.I (a1.length:Int)),(14,.I s20)] [(38,⟨List.map iF q.1,(List.map iF q.1).length,true,1,true⟩),(5000011,⟨[.mapc (List.map (bW iF PV.bool) q.2)],0,false,0,false⟩),(2,vR (b9.Pv a0) 8)]) (λq31 h=>?_) λκ28 h=>?_
   .obtain⟨j29,j30⟩:=q31;refine S6 2 J ?_;exact eL h (Wk.trans (n7 _ [38]) (WP (λl=>if l=910006 then 38 else l)))
   .refine l4 ?_;refine sR<|iL h J J m7 o7 λv32 _ h=>S2 2 J<|S3 3 J<|cF h C6 J J λv33 _ h=>S2 6 J<|S3 3 J<|n0 J (λhg=>om (d:=.mp 5000011) J)<|n0 J (λhg=>mI J) ?_;rcases zaw ((v33.2==0)==true) with hg24 | hg24
    .have h:=Si h hg24;refine BR (es:=s21) (k:=v32) (E:=PV.bool) (EK:=iF) (d:=.bool ((z8 s21 v32).getD (false:Bool))) (zX some hg24) (ct hg24) J (ct hg24) Q2 (x8 I0) sm J (ML _ _ _)<|y0 (zX some hg24) (fK J J)<|y0 J (kG J J hg24)<|yN ?_;refine cN h (λhc h=>?_) λhc h=>?_
     .refine S3 2 J ?_;refine Z7 (es:=s21) (k:=v32) (v:=true) (E:=PV.bool) (EK:=iF) (.inl J) J J J J J J Q2 (x8 I0)<|yN<|S5 2 J<|y0 J (I3 (f:=iF) (l:=[v32]) J m7 o7 C0 J J nl J J)<|y6 h λv34 hv25 h=>J5 J (I6 (f:=iF) hv25 J J J J J J (.inl ⟨_,J,J⟩) m7 o7 Q1 C0 J (λ_=>J)) J J J<|S2 1 J ?_;exact eJ h (Wk.trans (n7 _ [38]) W)
     .refine c8 ?_;exact eJ h (Wk.trans (n7 _ [910006]) (WP (λl=>if l=38 then 910006 else l)))
    .have h:=Sg h hg24;refine cS (zX some hg24)<|cS (zX some hg24)<|y0 J (nb J J hg24)<|yN ?_;refine G6 false J (λq=>nomatch q) (λ_=>?_);refine c8 ?_;exact eJ h (Wk.trans (n7 _ [910006]) (WP (λl=>if l=38 then 910006 else l)))
  .refine p6 ?_;refine g8<|g8<|m8 ?_;have h:=xL hx16 h;exact eJ h (Wk.trans (n7 _ [910006]) W)
theorem ue{a0 a1}:PO Tryz.prog 223 [b9.Pv a0,.L iF a1] (fw a0 a1) λr=>b9.Pv r:=by
 refine pO Tryz.func223 λr h _ _=>?_;refine S4 2 J<|S3 3 J<|cF h qX J J λv1 _ h=>S2 5 J<|S4 3 J ?_;refine jq h (λj11=>St.of [(2,.ptr 2 0 0),(4,.ptr 4 0 0)] [(4,vR (.agg [.nl,.I 0,.I 0,.nl,.nl,.nl,.nl,.I 0]) 8),(2,vR (.agg [.L c9.Pv a0.S.S.b7,.I a0.S.S.Last,.I a0.S.Serial,.L iF a0.Roots,.L k9.Pv v1.1,.L g6.Pv a0.T,.L g7.Pv j11.L,.I j11.Cap]) 8)]) (λj11 h=>?_) λκ10 h=>?_
 .refine S4 2 J ?_;refine c5 ?_;cases h;exact⟨J,[_],⟨oL J J J u7 p9 nl J,tr⟩,J,io⟩
 .refine S3 1 J ?_;refine nL J m7<|S2 1 J<|l4<|lq h (λq=>St.of [(2,.ptr 2 0 0),(4,.ptr 4 0 0),(5,.L k9.Pv v1.1),(18,.L iF v1.2),(19,.I (v1.2.length:Int)),(20,.I q.1)] [(4,vR (.agg [.nl,.I 0,.I 0,.nl,.nl,.nl,.nl,.I 0]) 8),(2,vR (.agg [.L c9.Pv a0.S.S.b7,.I a0.S.S.Last,.I a0.S.Serial,.L iF a0.Roots,.L k9.Pv v1.1,.L g6.Pv a0.T,.L g7.Pv q.2.L,.I q.2.Cap]) 8)]) W λq16 x15 h hx11=>?_;obtain⟨s13,s14⟩:=q16;refine S4 1 J<|l5 ?_;refine cN h (λhc h=>?_) λhc h=>?_
  .refine c8 ?_;refine l5<|l4<|sR<|iL h J J m7 o7 λv17 _ h=>S2 2 J<|CY [] u4 (by kernel_rfl) (by kernel_rfl)<|S7 5 J<|y6 h λv18 hv13 h=>d0 J (P4 (f:=k9.Pv) (cs:=k9.Pc v18) hv13 J J Q5 U5 J J) J<|S7 2 J<|d7 J (λ_ hN=>p7 (cs:=[.I 2,.I v17,.I v18.Call]) J sf ao J J J) J<|y6 h λv19 hv14 h=>eE J (w8 J vO J hv14) J<|S7 4 J<|D1 (x':=.agg [.L c9.Pv a0.S.S.b7,.I a0.S.S.Last,.I a0.S.Serial,.L iF a0.Roots,.L k9.Pv v1.1,.L g6.Pv a0.T,.L g7.Pv v19.1.L,.I v19.1.Cap]) (cl':=true) J J (.inr J) cI<|K2<|S6 2 J ?_;exact eL h W
  .refine p6 ?_;refine g8<|g8<|m8 ?_;have h:=xL hx11 h;exact eJ h W
theorem DC{a0}:PO Tryz.prog 290 [.L iF a0] (qo a0) λr=>.fn (.func 331) [.rptr [.L iF r]]:=by
 refine pO Tryz.func290 λr h _ _=>?_;unfold qo at h;refine S4 2 J<|S4 2 J<|c5 ?_;cases h;exact f1
theorem uo{a0}:PO Tryz.prog 225 [.L iF a0] (jk a0) λr=>.L iF r:=by
 refine pO Tryz.func225 λr h _ _=>?_;refine S4 1 J<|S4 1 J ?_;refine jq h (λj10=>St.of [(3,.ptr 2001 0 0)] [(2001,vS (.sl 912501) 1),(912501,⟨List.map iF j10,(List.map iF j10).length,true,1,true⟩)]) (λj10 h=>?_) λκ9 h=>?_
 .refine S4 2 J ?_;refine c5 ?_;cases h;exact f1
 .refine S3 1 J ?_;refine cF h DC J J λv11 _ h=>yN<|l4<|bM (rW (λl=>if l=2011 then 3 else l) [(3,.ptr 2011 0 0),(6,.fn (.func 331) [.rptr [.L iF v11]])] [(2011,vR (.nl) 1)]) ?_;refine bL (fn:=Tryz.f331) (N1:=20) J Tryz.func331 J J nl J OW J J (λl17 e18 o19 hR20=>?_);refine S3 1 J<|nL J m7<|S2 1 J<|l4<|lq h (λq=>St.of [(1000003,.ptr 2011 0 0),(1000006,.fn (.func 331) [.rptr [.L iF v11]]),(0,.fn (.yield l17) []),(5,.L iF v11),(6,.I (v11.length:Int)),(7,.I q.1)] [(2011,vS (.sl 912511) 1),(912511,⟨List.map iF q.2,(List.map iF q.2).length,true,1,true⟩)]) (Wk.trans (uw (l0:=2011) (j:=0) (l:=922511) (z:=1) J J J J J) (WP (λl=>if l=912511 then 922511 else l))) λq16 x15 h hx23=>?_;obtain⟨s13,s14⟩:=q16;refine S4 1 J<|l5 ?_;refine cN h (λhc h=>?_) λhc h=>?_
  .refine c8 ?_;refine l5<|l4<|sR<|iL h J J m7 o7 λv17 _ h=>S2 2 J<|S3 3 J<|n0 J (λhg=>om (d:=.fn (.yield l17) []) J)<|n0 J (λhg=>mI J) ?_;rcases zaw ((v17 != 0)==true) with hg25 | hg25
   .have h:=Si h hg25;refine O1 (rW (λl=>if l=2019 then 912511 else l) [(1000003,.ptr 2011 0 0),(1000006,.fn (.func 331) [.rptr [.L iF v11]]),(0,.fn (.yield l17) []),(5,.L iF v11),(6,.I (v11.length:Int)),(7,.I s13),(13,.bool (v17 != 0)),(14,.fn (.yield l17) []),(15,.I v17)] [(2011,vS (.sl 2019) 1),(2019,⟨List.map iF s14,(List.map iF s14).length,true,1,true⟩)]) ?_;refine ja hR20 (zX some hg25) J J J J J (λe26 o27 o28=>?_);refine S6 1 J ?_;refine⟨J,?_⟩;refine l4<|S5 2 J<|y0 J (I3 (f:=iF) (l:=[v17]) J m7 o7 C0 J J nl J J)<|y6 h λv18 hv29 h=>J5 J (I6 (f:=iF) hv29 J J J J J J (.inl ⟨_,J,J⟩) m7 o7 Q1 C0 J (λ_=>J)) J J J<|S2 1 J ?_;refine⟨J,?_⟩;refine O1 (rW (λl=>if l=2020 then 11 else l) [(1000003,.ptr 2011 0 0),(1000006,.fn (.func 331) [.rptr [.L iF v11]]),(0,.fn (.yield l17) []),(5,.L iF v11),(6,.I (v11.length:Int)),(7,.I s13),(13,.bool (v17 != 0)),(16,.bool true)] [(2011,vS (.sl 2020) 1),(2020,⟨List.map iF v18,s14.length,true,1,true⟩)])<|y0 (zX some hg25) (fK J J)<|y0 J (kG J J hg25)<|yN ?_;refine G6 false J (λq=>nomatch q) (λ_=>?_);refine c8<|S6 2 J ?_;exact eL h (Wk.trans (n7 _ [2020]) (WP (λl=>if l=912511 then 2020 else l)))
   .have h:=Sg h hg25;refine cS (zX some hg25)<|cS (zX some hg25)<|y0 J (nb J J hg25)<|yN ?_;refine G6 false J (λq=>nomatch q) (λ_=>?_);refine c8<|S6 2 J ?_;exact eL h (Wk.trans (n7 _ [912511]) W)
  .refine p6 ?_;refine g8<|g8<|m8 ?_;refine .inl ⟨J,?_⟩;have h:=xL hx23 h;exact eJ h (Wk.trans (n7 _ [912511]) (WP (λl=>if l=2001 then 2011 else if l=912501 then 912511 else l)))
theorem uK{a0 a1}:PO Tryz.prog 226 [.L g6.Pv a0,.L iF a1] (aR a0 a1) λr=>.tup [.L g6.Pv r.1,.L iF r.2]:=by
 refine pO Tryz.func226 λr h _ _=>?_;refine S4 2 J<|S4 1 J ?_;refine jq h (λq=>St.of [(0,.L g6.Pv q.1),(6,.sl 910006)] [(910006,⟨List.map iF q.2,(List.map iF q.2).length,true,1,true⟩)]) (λq20 h=>?_) λκ17 h=>?_
 .obtain⟨j18,j19⟩:=q20;refine S4 4 J<|c5 ?_;cases h;exact f2
 .refine S3 1 J ?_;refine nL J m7<|S2 1 J<|l4<|lq h (λq=>St.of [(0,.L g6.Pv q.1),(6,.sl 910006),(12,.L iF a1),(13,.I (a1.length:Int)),(14,.I q.2.1)] [(910006,⟨List.map iF q.2.2,(List.map iF q.2.2).length,true,1,true⟩)]) (Wk.trans (G4 (t:=6) (l:=920006) (z:=1) J J) (WP (λl=>if l=910006 then 920006 else l))) λq26 x25 h hx14=>?_;obtain⟨s22,s23,s24⟩:=q26;refine S4 1 J<|l5 ?_;refine cN h (λhc h=>?_) λhc h=>?_
  .refine c8 ?_;refine jq h (λq=>St.of [(0,.L g6.Pv q.1),(6,.sl 31),(12,.L iF a1),(13,.I (a1.length:Int)),(14,.I s23)] [(31,⟨List.map iF q.2,(List.map iF q.2).length,true,1,true⟩)]) (λq33 h=>?_) λκ30 h=>?_
   .obtain⟨j31,j32⟩:=q33;refine S6 2 J ?_;exact eL h (Wk.trans (n7 _ [31]) (WP (λl=>if l=910006 then 31 else l)))
   .refine l4 ?_;refine sR<|iL h J J m7 o7 λv34 _ h=>S2 2 J<|S3 2 J<|cF h sV J J λv35 _ h=>S2 7 J<|S4 2 J ?_;refine cN h (λhc h=>?_) λhc h=>?_
    .refine S5 3 J ?_;refine y0 J (I3 (f:=iF) (l:=[v35.2.1]) J m7 o7 C0 J J nl J J)<|y6 h λv36 hv21 h=>J5 J (I6 (f:=iF) hv21 J J J J J J (.inl ⟨_,J,J⟩) m7 o7 Q1 C0 J (λ_=>J)) J J J<|S2 2 J ?_;exact eJ h (Wk.trans (n7 _ [31]) W)
    .refine c8 ?_;exact eJ h (Wk.trans (n7 _ [910006]) (WP (λl=>if l=31 then 910006 else l)))
  .refine p6 ?_;refine g8<|g8<|m8 ?_;have h:=xL hx14 h;exact eJ h (Wk.trans (n7 _ [910006]) W)
theorem nv{a0 a1}:PO Tryz.prog 292 [l6.Pv a0,.I a1] (Y0 a0 a1) λr=>.tup [l6.Pv r.1,.I r.2]:=by
 refine pO Tryz.func292 λr h _ _=>?_;refine S4 3 J<|S3 2 J<|cF h fM J J λv1 _ h=>S2 6 J<|l5<|S4 2 J ?_;refine cN h (λhc h=>?_) λhc h=>?_
 .refine S4 4 J ?_;refine c5 ?_;cases h;exact⟨J,[_,_],⟨oL J J J ib eh nl J,⟨J,tr⟩⟩,J,io⟩
 .refine c8 ?_;refine dr [] u4 (by kernel_rfl) (by kernel_rfl)<|S7 2 J<|y6 h λv2 hv2 h=>d2 J (R8 J oP J hv2) J<|S7 1 J<|y6 h λv3 hv3 h=>d2 J (R8 J qL J hv3) J<|S7 1 J<|d7 J (λ_ hN=>p7 (cs:=[.I 2,.I v3,.I v1.1.Serial,.I v1.1.Strong,.I v1.1.Weak,.I v1.1.Prog,.bool v1.1.Started,.L iF v1.1.Fields]) J wK pN J J J) J<|y6 h λv4 hv4 h=>eE J (w8 J L2 J hv4) J<|D1 (x':=l6.Pv v4) (cl':=true) J J (.inr J) eh<|S8 1 J<|c5 ?_;cases h;exact⟨J,[_,_],⟨oL J J J ib eh nl J,⟨J,tr⟩⟩,J,io⟩
theorem vq{a0 a1}:PO Tryz.prog 227 [b9.Pv a0,.I a1] (aZ a0 a1) λr=>b9.Pv r:=by
 refine pO Tryz.func227 λr h _ _=>?_;refine S4 2 J<|S3 3 J<|cF h C6 J J λv1 _ h=>S2 6 J<|S3 1 J<|kK (x':=.agg [.I v1.1.Serial,.I v1.1.Strong,.I v1.1.Weak,.I v1.1.Prog,.bool v1.1.Started,.nl]) (cl':=true) J J (.inl J) bD<|S1 1 J<|kK (x':=.agg [.I v1.1.Serial,.I 0,.I v1.1.Weak,.I v1.1.Prog,.bool v1.1.Started,.nl]) (cl':=true) J J (.inl J) o7<|yN<|S3 4 J<|cF h cy J J λv2 _ h=>S2 5 J<|S3 4 J<|cF h nv J J λv3 _ h=>S2 6 J<|l5<|S4 3 J ?_;refine cN h (λhc h=>?_) λhc h=>?_
 .refine S5 4 J ?_;refine cF h fz J J λv4 _ h=>S2 6 J<|S4 2 J<|c5 ?_;cases h;exact⟨J,[_],⟨oL J J J u7 p9 nl J,tr⟩,J,io⟩
 .refine c8 ?_;refine S4 2 J<|c5 ?_;cases h;exact⟨J,[_],⟨oL J J J u7 p9 nl J,tr⟩,J,io⟩
theorem pA{a0 a1}:PO Tryz.prog 128 [b9.Pv a0,.L iF a1] (bQ a0 a1) λr=>b9.Pv r:=by
 refine pO Tryz.func128 λr h _ _=>?_;refine S4 2 J<|S3 2 J<|cF h qy J J λv1 _ h=>S2 1 J<|S3 2 J<|cF h ue J J λv2 _ h=>S2 1 J<|S4 1 J<|S4 2 J ?_;refine jq h (λj13=>St.of [(2,.ptr 2 0 0),(4,.ptr 4 0 0),(5,.L iF v1),(6,.ptr 6 0 0),(7,.fn (.func 224) [.ptr 6 0 0])] [(6,vS (.sl 910506) 1),(910506,⟨List.map iF j13,(List.map iF j13).length,true,1,true⟩),(4,vR (.agg [.nl,.I 0,.I 0,.nl,.nl,.nl,.nl,.I 0]) 8),(2,vR (b9.Pv v2) 8)]) (λj13 h=>?_) λκ12 h=>?_
 .refine S3 3 J ?_;refine cF h uK J J λv14 _ h=>S2 5 J<|S3 2 J<|O1 (rW (λl=>if l=2025 then 6 else if l=2026 then 4 else if l=2027 then 2 else if l=2028 then 910506 else l) [(2,.ptr 2027 0 0),(4,.ptr 2026 0 0),(5,.L iF v1),(6,.ptr 2025 0 0),(12,.L g6.Pv v14.1),(51,.fn (.func 224) [.ptr 2025 0 0]),(52,.L iF v14.2)] [(2025,vS (.sl 2028) 1),(2028,⟨List.map iF j13,(List.map iF j13).length,true,1,true⟩),(2026,vR (.agg [.nl,.I 0,.I 0,.nl,.nl,.nl,.nl,.I 0]) 8),(2027,vR (b9.Pv v2) 8)]) ?_;refine uz (fn:=Tryz.f224) (N1:=6) J J Tryz.func224 J Hy J J nl (λe14 o15=>?_);refine S5 2 J<|y6 h λv15 hv16 h=>J5 J (I6 (f:=iF) hv16 J J J J J J (.inl ⟨_,J,J⟩) m7 o7 Q1 C0 J (λ_=>J)) J J J<|S2 1 J ?_;refine⟨J,[],tr,?_⟩;refine O1 (rW (λl=>if l=2029 then 5 else l) [(2,.ptr 2027 0 0),(4,.ptr 2026 0 0),(5,.L iF v1),(6,.ptr 2025 0 0),(12,.L g6.Pv v14.1)] [(2025,vS (.sl 2029) 1),(2029,⟨List.map iF v15,j13.length,true,1,true⟩),(2026,vR (.agg [.nl,.I 0,.I 0,.nl,.nl,.nl,.nl,.I 0]) 8),(2027,vR (b9.Pv v2) 8)])<|yN<|S4 3 J ?_;refine jq h (λj24=>St.of [(2,.ptr 2027 0 0),(4,.ptr 2026 0 0),(6,.ptr 2025 0 0)] [(2025,vS (.sl 2029) 1),(2029,⟨List.map iF v15,j13.length,true,1,true⟩),(2026,vR (.agg [.nl,.I 0,.I 0,.nl,.nl,.nl,.nl,.I 0]) 8),(2027,vR (b9.Pv j24) 8)]) (λj24 h=>?_) λκ23 h=>?_
  .refine jq h (λj33=>St.of [(2,.ptr 2027 0 0),(4,.ptr 2026 0 0)] [(2026,vR (.agg [.nl,.I 0,.I 0,.nl,.nl,.nl,.nl,.I 0]) 8),(2027,vR (b9.Pv j33) 8)]) (λj33 h=>?_) λκ32 h=>?_
   .refine S4 2 J ?_;refine c5 ?_;cases h;exact⟨J,[_],⟨oL J J J u7 p9 nl J,tr⟩,J,io⟩
   .refine S3 1 J ?_;refine y0 J (II (f:=iF) J J J m7)<|S2 1 J<|l4<|lq h (λq=>St.of [(2,.ptr 2027 0 0),(4,.ptr 2026 0 0),(66,.sl 2029),(67,.I (v15.length:Int)),(68,.I q.1)] [(2029,⟨List.map iF v15,j13.length,true,1,true⟩),(2026,vR (.agg [.nl,.I 0,.I 0,.nl,.nl,.nl,.nl,.I 0]) 8),(2027,vR (b9.Pv q.2) 8)]) W λq38 x37 h hx31=>?_;obtain⟨s35,s36⟩:=q38;refine S4 1 J<|l5 ?_;refine cN h (λhc h=>?_) λhc h=>?_
    .refine c8 ?_;refine l5<|l4<|sR<|y6 h λv39 hv32 h=>y0 J (aQ (f:=iF) hv32 J J J J m7 o7 J)<|y0 J (EL (f:=iF) hv32 J J J K1 J)<|S2 1 J<|S5 2 J<|cF h aM J J λv40 _ h=>S2 1 J<|S6 2 J ?_;exact eL h W
    .refine p6 ?_;refine g8<|g8<|m8 ?_;have h:=xL hx31 h;exact eJ h W
  .refine S3 1 J ?_;refine nL J m7<|S2 1 J<|l4<|lq h (λq=>St.of [(2,.ptr 2027 0 0),(4,.ptr 2026 0 0),(6,.ptr 2025 0 0),(56,.L iF v1),(57,.I (v1.length:Int)),(58,.I q.1)] [(2025,vS (.sl 2029) 1),(2029,⟨List.map iF v15,j13.length,true,1,true⟩),(2026,vR (.agg [.nl,.I 0,.I 0,.nl,.nl,.nl,.nl,.I 0]) 8),(2027,vR (b9.Pv q.2) 8)]) W λq45 x44 h hx36=>?_;obtain⟨s42,s43⟩:=q45;refine S4 1 J<|l5 ?_;refine cN h (λhc h=>?_) λhc h=>?_
   .refine c8 ?_;refine l5<|l4<|sR<|iL h J J m7 o7 λv46 _ h=>S2 2 J<|S5 2 J<|cF h vq J J λv47 _ h=>S2 1 J<|S6 2 J ?_;exact eL h W
   .refine p6 ?_;refine g8<|g8<|m8 ?_;have h:=xL hx36 h;exact eJ h W
 .refine S3 1 J ?_;refine nL J m7<|S2 1 J<|l4<|lq h (λq=>St.of [(2,.ptr 2 0 0),(4,.ptr 4 0 0),(5,.L iF v1),(6,.ptr 6 0 0),(7,.fn (.func 224) [.ptr 6 0 0]),(25,.L iF v1),(26,.I (v1.length:Int)),(27,.I q.1)] [(6,vS (.sl 910506) 1),(4,vR (.agg [.nl,.I 0,.I 0,.nl,.nl,.nl,.nl,.I 0]) 8),(2,vR (b9.Pv v2) 8),(910506,⟨List.map iF q.2,(List.map iF q.2).length,true,1,true⟩)]) (Wk.trans (uw (l0:=6) (j:=0) (l:=920506) (z:=1) J J J J J) (WP (λl=>if l=910506 then 920506 else l))) λq52 x51 h hx41=>?_;obtain⟨s49,s50⟩:=q52;refine S4 1 J<|l5 ?_;refine cN h (λhc h=>?_) λhc h=>?_
  .refine c8 ?_;refine l5<|l4<|sR<|iL h J J m7 o7 λv53 _ h=>S2 2 J<|S3 3 J<|cF h C6 J J λv54 _ h=>S2 6 J<|S5 3 J<|cF h uo J J λv55 _ h=>O1 (rW (λl=>if l=2049 then 6 else if l=2050 then 4 else if l=2051 then 2 else if l=2052 then 910506 else l) [(2,.ptr 2051 0 0),(4,.ptr 2050 0 0),(5,.L iF v1),(6,.ptr 2049 0 0),(7,.fn (.func 224) [.ptr 2049 0 0]),(25,.L iF v1),(26,.I (v1.length:Int)),(27,.I s49),(38,.fn (.func 224) [.ptr 2049 0 0]),(41,.L iF v55)] [(2049,vS (.sl 2052) 1),(2052,⟨List.map iF s50,(List.map iF s50).length,true,1,true⟩),(2050,vR (.agg [.nl,.I 0,.I 0,.nl,.nl,.nl,.nl,.I 0]) 8),(2051,vR (b9.Pv v2) 8)]) ?_;refine uz (fn:=Tryz.f224) (N1:=6) J J Tryz.func224 J Hy J J nl (λe45 o46=>?_);refine S5 2 J<|y6 h λv56 hv47 h=>J5 J (I6 (f:=iF) hv47 J J J J J J (.inl ⟨_,J,J⟩) m7 o7 Q1 C0 J (λ_=>J)) J J J<|S2 1 J ?_;refine⟨J,[],tr,?_⟩;refine O1 (rW (λl=>if l=2053 then 5 else l) [(2,.ptr 2051 0 0),(4,.ptr 2050 0 0),(5,.L iF v1),(6,.ptr 2049 0 0),(7,.fn (.func 224) [.ptr 2049 0 0]),(25,.L iF v1),(26,.I (v1.length:Int)),(27,.I s49)] [(2049,vS (.sl 2053) 1),(2053,⟨List.map iF v56,s50.length,true,1,true⟩),(2050,vR (.agg [.nl,.I 0,.I 0,.nl,.nl,.nl,.nl,.I 0]) 8),(2051,vR (b9.Pv v2) 8)])<|yN<|S6 2 J ?_;exact eL h (Wk.trans (n7 _ [2053]) (WP (λl=>if l=2 then 2051 else if l=4 then 2050 else if l=6 then 2049 else if l=910506 then 2053 else l)))
  .refine p6 ?_;refine g8<|g8<|m8 ?_;have h:=xL hx41 h;exact eJ h (Wk.trans (n7 _ [910506]) W)
theorem cv{a0}:PO Tryz.prog 124 [b9.Pv a0] (R5 a0) λr=>b9.Pv r:=by
 refine pO Tryz.func124 λr h _ _=>?_;refine S4 2 J<|Yp h (λs2=>St.of [(1,.ptr 1 0 0),(2,.ptr 2 0 0)] [(2,vR (.agg [.nl,.I 0,.I 0,.nl,.nl,.nl,.nl,.I 0]) 8),(1,vR (b9.Pv s2) 8)]) W λs2 x3 h hx3=>S3 1 J<|cF h yT J J λv4 _ h=>S2 1 J<|l5<|S3 1 J<|nL J m7<|S2 1 J ?_;refine cN h (λhc h=>?_) λhc h=>?_
 .refine S4 2 J ?_;refine c5 ?_;have h:=xL hx3 h;cases h;exact⟨J,[_],⟨oL J J J u7 p9 nl J,tr⟩,J,io⟩
 .refine c8 ?_;refine l5<|dr [] u4 (by kernel_rfl) (by kernel_rfl)<|S7 3 J<|y6 h λv5 hv5 h=>d0 J (P4 (f:=iF) (cs:=[.I v5]) hv5 J J m7 o7 J J) J<|S7 1 J<|y6 h λv6 hv6 h=>eE J (w8 J C6 J hv6) J<|S7 4 J<|D1 (x':=n9.Pv v6.1) (cl':=true) J J (.inr J) kc<|S8 1 J<|S3 1 J<|cA h kH J J λv7 _ h=>yN ?_;refine cN h (λhc h=>?_) λhc h=>?_
  .refine CY [] u4 (by kernel_rfl) (by kernel_rfl) ?_;refine S7 2 J<|d0 J (P4 (f:=iF) (cs:=[.I v5]) hv5 J J m7 o7 J J) J<|S7 1 J<|y6 h λv8 hv8 h=>eE J (w8 J lZ J hv8) J<|D1 (x':=b9.Pv v8) (cl':=true) J J (.inr J) p9<|K2<|IV ?_;exact eS h W
  .refine CY [] u4 (by kernel_rfl) (by kernel_rfl) ?_;refine S7 2 J<|y6 h λv9 hv9 h=>d0 J (Ur (f:=iF) hv9 J J ⟨_,J⟩ m7 o7 (λ_=>J)) J<|y6 h λv10 hv10 h=>eE J (w8 J pA J hv10) J<|D1 (x':=b9.Pv v10) (cl':=true) J J (.inr J) p9<|K2<|IV ?_;exact eS h W
theorem tC{a0 a1}:PO Tryz.prog 70 [b9.Pv a0,.I a1] (eQ a0 a1) λr=>.I r:=by
 refine pO Tryz.func70 λr h _ _=>?_;refine S4 2 J<|S3 3 J<|cF h C6 J J λv1 _ h=>S2 6 J<|S4 3 J<|c5 ?_;cases h;exact f1
theorem kU{a0 a1}:PO Tryz.prog 215 [b9.Pv a0,.I a1] (dE a0 a1) λr=>.I r:=by
 refine pO Tryz.func215 λr h _ _=>?_;unfold dE at h;refine S4 2 J<|dr [] u4 (by kernel_rfl) (by kernel_rfl)<|S7 3 J<|y6 h λv1 hv1 h=>d2 J (R8 J P8 J hv1) J<|y6 h λv2 hv2 h=>d2 J (R8 J tC J hv2) J<|S8 1 J<|c5 ?_;cases h;exact f1
theorem tD{a0 a1 a2}:PO Tryz.prog 125 [b9.Pv a0,b9.Pv a1,j5.Pv a2] (Z0 a0 a1 a2) λr=>.I r:=by
 refine pO Tryz.func125 λr h _ _=>?_;refine S4 4 J<|l5<|S4 2 J<|l4<|S4 2 J ?_;refine cN h (λhc h=>?_) λhc h=>?_
 .refine S3 3 J ?_;refine cA h kU J J λv1 _ h=>S2 1 J<|c5 ?_;cases h;exact f1
 .refine jq h (λj3=>St.of [(3,.ptr 3 0 0),(4,.ptr 4 0 0),(5,.ptr 5 0 0),(8,.I a2.Kind),(15,.bool j3)] [(5,vR (j5.Pv a2) 4),(4,vR (b9.Pv a1) 8),(3,vR (b9.Pv a0) 8)]) (λj3 h=>?_) λκ2 h=>?_
  .refine cN h (λhc h=>?_) λhc h=>?_
   .refine S3 3 J ?_;refine cA h kU J J λv4 _ h=>S2 1 J<|c5 ?_;cases h;exact f1
   .refine S4 2 J ?_;refine cN h (λhc h=>?_) λhc h=>?_
    .refine l5 ?_;refine dr [] u4 (by kernel_rfl) (by kernel_rfl)<|S7 3 J<|y6 h λv5 hv4 h=>d2 J (R8 J P8 J hv4) J<|S7 3 J<|y6 h λv6 hv5 h=>d2 J (R8 J P8 J hv5) J<|S8 1 J ?_;refine cN h (λhc h=>?_) λhc h=>?_
     .refine S4 1 J ?_;refine c5 ?_;cases h;exact f1
     .refine c8 ?_;refine S4 1 J<|c5 ?_;cases h;exact f1
    .refine c8 ?_;refine S3 3 J<|cA h kU J J λv7 _ h=>S2 1 J<|c5 ?_;cases h;exact f1
  .refine S4 2 J ?_;refine cN h (λhc h=>?_) λhc h=>?_
   .refine c8 ?_;exact eJ h W
   .refine S6 2 J ?_;exact eJ h W
theorem qP{a0 a1}:PO Tryz.prog 65 [b9.Pv a0,j5.Pv a1] (u6 a0 a1) λr=>.tup [b9.Pv r.1,.I r.2.1,.I r.2.2]:=by
 refine pO Tryz.func65 λr h _ _=>?_;refine S4 5 J<|l5<|S3 1 J<|cA h kM J J λv1 _ h=>S2 1 J<|S4 2 J ?_;refine cN h (λhc h=>?_) λhc h=>?_
 .refine S4 5 J ?_;refine c5 ?_;cases h;exact⟨J,[_,_,_],⟨oL J J J u7 p9 nl J,⟨J,⟨J,tr⟩⟩⟩,J,io⟩
 .refine c8 ?_;refine dr [] u4 (by kernel_rfl) (by kernel_rfl)<|y6 h λv2 hv2 h=>eE J (w8 J uT J hv2) J<|S7 2 J<|d4 J (WD (es:=v2) (k:=a1.Kind) (E:=sS) (EK:=iF) (d:=.tup [sS ((z8 v2 a1.Kind).getD (none:Fv)),.bool ((z8 v2 a1.Kind).isSome)]) J J bC (x8 I0) Pt J (Yj _ _ _)) J<|S8 5 J<|l5<|S4 2 J ?_;refine cN h (λhc h=>?_) λhc h=>?_
  .refine S4 4 J ?_;refine c5 ?_;cases h;exact⟨J,[_,_,_],⟨oL J J J u7 p9 nl J,⟨J,⟨J,tr⟩⟩⟩,J,io⟩
  .refine c8 ?_;refine S3 3 J<|y0 J (p7 (cs:=[.L c9.Pv a0.S.S.b7,.I a0.S.S.Last,.I a0.S.Serial,.L iF a0.Roots,.L k9.Pv a0.b7,.L g6.Pv a0.T,.L g7.Pv a0.Q.L,.I a0.Q.Cap,.I a1.Kind,.I a1.A,.I a1.B,.I a1.C]) J Pj Pu J J J) ?_;obtain⟨v3,hv3,h⟩:=sp h;obtain⟨n4,he4,hk5,hp6⟩:=GA hv3;refine O1 (SE 30 J he4)<|yc J (CO J hk5 J hp6)<|S2 6 J<|l5<|S4 2 J ?_;refine cN h (λhc h=>?_) λhc h=>?_
   .refine S4 5 J ?_;refine c5 ?_;cases h;exact⟨J,[_,_,_],⟨oL J J J u7 p9 nl J,⟨J,⟨J,tr⟩⟩⟩,J,io⟩
   .refine c8 ?_;refine S3 1 J<|cF h cv J J λv5 _ h=>S2 2 J<|dr [] u4 (by kernel_rfl) (by kernel_rfl)<|S7 4 J<|y6 h λv6 hv8 h=>d2 J (R8 J tD J hv8) J<|D1 (x':=b9.Pv v5) (cl':=true) J J (.inr J) p9<|S8 2 J<|c5 ?_;cases h;exact⟨J,[_,_,_],⟨oL J J J u7 p9 nl J,⟨J,⟨J,tr⟩⟩⟩,J,io⟩
theorem AN{a0}:PO Tryz.prog 376 [b6.Pv a0] (nk a0) λr=>.fn (.func 381) [.rptr (b6.Pc r)]:=by
 refine pO Tryz.func376 λr h _ _=>?_;unfold nk at h;refine S4 2 J<|S4 2 J<|c5 ?_;cases h;exact f1
theorem vN{a0 a1}:PO Tryz.prog 368 [b6.Pv a0,.I a1] (lU a0 a1) λr=>.L iF r:=by
 refine pO Tryz.func368 λr h _ _=>?_;refine S4 2 J<|S3 2 J<|cF h C6 J J λv1 _ h=>S2 6 J<|S3 2 J<|cF h uo J J λv2 _ h=>S2 1 J<|c5 ?_;cases h;exact f1
end Go.Proofs.YtmgbbnfgfmfgaaaGreat.Ok
