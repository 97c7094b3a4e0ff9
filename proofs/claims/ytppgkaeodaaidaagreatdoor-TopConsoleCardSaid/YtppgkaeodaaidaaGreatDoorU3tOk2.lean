/-
 The functions of the program do as the plain functions do.
-/
import Derived.Test.YtppgkaeodaaidaaGreatDoorU3tOk1
set_option linter.unusedVariables false
set_option linter.unusedSimpArgs false
set_option linter.unusedSectionVars false
namespace Go.Proofs.YtppgkaeodaaidaaGreatDoor.Ok
open Go Go.Pw Go.Sh Go.Proofs
set_option maxRecDepth 100000
set_option maxHeartbeats 4000000
theorem a9i{a0 a1 a2}:PO Tryz.prog 183 [a6.Pv a0,.I a1,.I a2] (a8A a0 a1 a2) λr=>.tup [a6.Pv r.1,.I r.2]:=by
 refine pO Tryz.func183 λr h _ _=>?_;refine S4 3 J<|c5<|S4 2 J ?_;refine cN h (λhc h=>?_) λhc h=>?_
 ·refine S4 3 J ?_;refine a7 ?_;cases h;exact⟨J,[_,_],⟨oL J J J o5 l4 nl J,⟨J,tr⟩⟩,J,io⟩
 ·refine b5 ?_;refine c5<|S3 2 J<|cA h I6 J J λv1 _ h=>S1 2 J<|k9 J (λhg=>oL J J J o5 l4 nl J)<|k9 J (λhg=>mI J)<|r9 h λv2 hv2 h=>k9 J (λhg=>H3 J I6 (a0o (ct hg) (a0o (ct hg) J)) (L6 hv2 hg))<|k9 J (λhg=>a0x (ct hg) J)<|y0 J (D8 J J J (λq=>eqF q))<|yN ?_;refine cN h (λhc h=>?_) λhc h=>?_
  ·refine S4 3 J ?_;refine a7 ?_;cases h;exact⟨J,[_,_],⟨oL J J J o5 l4 nl J,⟨J,tr⟩⟩,J,io⟩
  ·refine b5 ?_;refine S3 4 J<|cF h a9a J J λv3 _ h=>S2 7 J<|c5<|S4 2 J ?_;refine cN h (λhc h=>?_) λhc h=>?_
   ·refine S4 4 J ?_;refine a7 ?_;cases h;exact⟨J,[_,_],⟨oL J J J o5 l4 nl J,⟨J,tr⟩⟩,J,io⟩
   ·refine b5 ?_;refine S3 4 J<|y0 J (o6 (cs:=[.L a8.Pv v3.1]) J b3S b35 J J J)<|y0 J (a5L (d:=.agg [.L a8.Pv v3.1]) J)<|cF h Q5 J J λv4 _ h=>S2 2 J<|a7 ?_;cases h;exact⟨J,[_,_],⟨oL J J J o5 l4 nl J,⟨J,tr⟩⟩,J,io⟩

theorem X9{a0}:PO Tryz.prog 104 [l8.Pv a0] (a0T a0) λr=>.tup [a6.Pv r.1,.I r.2]:=by
 refine pO Tryz.func104 λr h _ _=>?_;refine S4 3 J<|S3 5 J<|cA h G5 J J λv1 _ h=>S2 5 J<|c5<|S4 2 J ?_;refine cN h (λhc h=>?_) λhc h=>?_
 ·refine S4 5 J ?_;refine a7 ?_;cases h;exact⟨J,[_,_],⟨oL J J J o5 l4 nl J,⟨J,tr⟩⟩,J,io⟩
 ·refine b5 ?_;refine dr [] p7 (by kernel_rfl) (by kernel_rfl)<|S7 8 J<|r9 h λv2 hv2 h=>d2 J (H3 J E6 J hv2) J<|r9 h λv3 hv3 h=>d2f J (u9 J a9i J hv3) J<|S7 2 J<|x4 (x':=a6.Pv v3.1) (cl':=true) J J (.inr J) l4<|S8 1 J<|a7 ?_;cases h;exact⟨J,[_,_],⟨oL J J J o5 l4 nl J,⟨J,tr⟩⟩,J,io⟩

theorem a89{a0 a1}:PO Tryz.prog 184 [.L a8.Pv a0,.I a1] (a8t a0 a1) λr=>.tup [.I r.1,.I r.2]:=by
 refine pO Tryz.func184 λr h _ _=>?_;refine S4 2 J<|S3 2 J<|cA h a0O J J λv1 _ h=>S2 4 J<|a7 ?_;cases h;exact f2

theorem Z6{a0}:PO Tryz.prog 105 [l8.Pv a0] (a1s a0) λr=>.tup [a6.Pv r.1,.I r.2]:=by
 refine pO Tryz.func105 λr h _ _=>?_;refine S4 3 J<|S3 5 J<|cA h G5 J J λv1 _ h=>S2 5 J<|c5<|S4 2 J ?_;refine cN h (λhc h=>?_) λhc h=>?_
 ·refine S4 5 J ?_;refine a7 ?_;cases h;exact⟨J,[_,_],⟨oL J J J o5 l4 nl J,⟨J,tr⟩⟩,J,io⟩
 ·refine b5 ?_;refine dr [] p7 (by kernel_rfl) (by kernel_rfl)<|S7 5 J<|r9 h λv2 hv2 h=>d2 J (H3 J a89 J hv2) J<|S7 2 J<|r9 h λv3 hv3 h=>d2f J (u9 J A8 J hv3) J<|S7 2 J<|x4 (x':=a6.Pv v3.1) (cl':=true) J J (.inr J) l4<|S8 1 J<|a7 ?_;cases h;exact⟨J,[_,_],⟨oL J J J o5 l4 nl J,⟨J,tr⟩⟩,J,io⟩

theorem V8{a0}:PO Tryz.prog 106 [l8.Pv a0] (Q8 a0) λr=>.tup [a6.Pv r.1,.I r.2]:=by
 refine pO Tryz.func106 λr h _ _=>?_;unfold Q8 at h;refine S4 3 J<|S4 4 J<|a7 ?_;cases h;exact⟨J,[_,_],⟨oL J J J o5 l4 nl J,⟨J,tr⟩⟩,J,io⟩

theorem b0P{f:Fv}{a0:l8}{r:a6 × Int}(h:a9e f a0=some r):∃n,f=some n∧o7 Tryz.prog n∧E5 Tryz.prog n [l8.Pv a0] (.tup [a6.Pv r.1,.I r.2]):=by
 unfold a9e at h;by_cases e97:f=some 97
 ·rw[if_pos e97] at h;exact⟨97,e97,(@U1 a0).1,(@U1 a0).2 _ h⟩
 rw[if_neg e97] at h;by_cases e98:f=some 98
 ·rw[if_pos e98] at h;exact⟨98,e98,(@N7 a0).1,(@N7 a0).2 _ h⟩
 rw[if_neg e98] at h;by_cases e99:f=some 99
 ·rw[if_pos e99] at h;exact⟨99,e99,(@X7 a0).1,(@X7 a0).2 _ h⟩
 rw[if_neg e99] at h;by_cases e100:f=some 100
 ·rw[if_pos e100] at h;exact⟨100,e100,(@X8 a0).1,(@X8 a0).2 _ h⟩
 rw[if_neg e100] at h;by_cases e101:f=some 101
 ·rw[if_pos e101] at h;exact⟨101,e101,(@V9 a0).1,(@V9 a0).2 _ h⟩
 rw[if_neg e101] at h;by_cases e102:f=some 102
 ·rw[if_pos e102] at h;exact⟨102,e102,(@U2 a0).1,(@U2 a0).2 _ h⟩
 rw[if_neg e102] at h;by_cases e103:f=some 103
 ·rw[if_pos e103] at h;exact⟨103,e103,(@a0v a0).1,(@a0v a0).2 _ h⟩
 rw[if_neg e103] at h;by_cases e104:f=some 104
 ·rw[if_pos e104] at h;exact⟨104,e104,(@X9 a0).1,(@X9 a0).2 _ h⟩
 rw[if_neg e104] at h;by_cases e105:f=some 105
 ·rw[if_pos e105] at h;exact⟨105,e105,(@Z6 a0).1,(@Z6 a0).2 _ h⟩
 rw[if_neg e105] at h;by_cases e106:f=some 106
 ·rw[if_pos e106] at h;exact⟨106,e106,(@V8 a0).1,(@V8 a0).2 _ h⟩
 rw[if_neg e106] at h;cases h

theorem a7H{a0}:PO Tryz.prog 107 [a6.Pv a0] (a6n a0) λr=>.L iF r:=by
 refine pO Tryz.func107 λr h _ _=>?_;refine S4 2 J<|S4 1 J ?_;refine jq h (λj16=>St.of [(3,.sl 910003)] [(910003,⟨List.map iF j16,(List.map iF j16).length,true,1,true⟩)]) (λj16 h=>?_) λκ15 h=>?_
 ·refine S4 2 J ?_;refine a7 ?_;cases h;exact f1
 ·refine S3 2 J ?_;refine cF h D4 J J λv17 _ h=>nL J j1<|S2 1 J<|c6<|lq h (λq=>St.of [(1,.ptr 1 0 0),(3,.sl 910003),(10,.L iF v17),(11,.I (v17.length:Int)),(12,.I q.1)] [(1,vR (a6.Pv a0) 8),(910003,⟨List.map iF q.2,(List.map iF q.2).length,true,1,true⟩)]) (Wk.trans (J0 (t:=3) (l:=920003) (z:=1) J J) (WP (λl=>if l=910003 then 920003 else l))) λq22 x21 h hx16=>?_;obtain⟨s19,s20⟩:=q22;refine S4 1 J<|c5 ?_;refine cN h (λhc h=>?_) λhc h=>?_
  ·refine b5 ?_;refine jq h (λj27=>St.of [(1,.ptr 1 0 0),(3,.sl 29),(10,.L iF v17),(11,.I (v17.length:Int)),(12,.I s19)] [(29,⟨List.map iF j27,(List.map iF j27).length,true,1,true⟩),(1,vR (a6.Pv a0) 8)]) (λj27 h=>?_) λκ26 h=>?_
   ·refine S6 2 J ?_;exact eL h (Wk.trans (l6 _ [29]) (WP (λl=>if l=910003 then 29 else l)))
   ·refine c6 ?_;refine sR<|iL h J J j1 l7 λv28 _ h=>S2 2 J<|S3 3 J<|cF h u5 J J λv29 _ h=>S2 6 J<|S4 3 J ?_;refine cN h (λhc h=>?_) λhc h=>?_
    ·refine S5 2 J ?_;refine y0 J (J2 (f:=iF) (l:=[v28]) J j1 l7 y9 J J nl J J)<|r9 h λv30 hv23 h=>N9 J (L5 (f:=iF) hv23 J J J J J J (.inl ⟨_,J,J⟩) j1 l7 J3 y9 J (λ_=>J)) J J J<|S2 1 J ?_;exact eJ h (Wk.trans (l6 _ [29]) W)
    ·refine b5 ?_;exact eJ h (Wk.trans (l6 _ [910003]) (WP (λl=>if l=29 then 910003 else l)))
  ·refine o9 ?_;refine c4<|c4<|j7 ?_;have h:=xL hx16 h;exact eJ h (Wk.trans (l6 _ [910003]) W)

theorem a0X{a0}:PO Tryz.prog 109 [p8.Pv a0] (U7 a0) λr=>.bool r:=by
 refine pO Tryz.func109 λr h _ _=>?_;unfold U7 at h;refine S4 2 J<|S3 4 J<|k9 J (λhg=>oF J a8k J)<|k9 J (λhg=>oS (ct hg) J J a8j J)<|k9 J (λhg=>a0x (ct hg) J)<|y0 J (A3 J J J (λq=>eqT q))<|S2 1 J<|a7 ?_;cases h;exact f1

theorem F0{a0}:PO Tryz.prog 269 [b7.Pv a0] (H8 a0) λr=>.I r:=by
 refine pO Tryz.func269 λr h _ _=>?_;unfold H8 at h;refine S4 2 J<|S3 2 J<|nL J a2L<|S2 1 J<|a7 ?_;cases h;exact f1

theorem I9{a0 a1 a2}:PO Tryz.prog 270 [.L k8.Pv a0,.I a1,.I a2] (D9 a0 a1 a2) λr=>.lst true (List.map k8.Pv r):=by
 refine pO Tryz.func270 λr h _ _=>?_;unfold D9 at h;refine S4 1 J<|S3 4 J<|r9 h λv1 hv1 h=>y0 J (b2O (f:=k8.Pv) hv1 J ⟨_,J⟩ ⟨_,J⟩ ⟨_,J⟩ J J a2L E2 (λ_=>J))<|S2 1 J<|a7 ?_;cases h;exact f1

theorem a1t{a0 a1}:PO Tryz.prog 188 [b7.Pv a0,k8.Pv a1] (M1 a0 a1) λr=>.tup [b7.Pv r.1,.I r.2]:=by
 refine pO Tryz.func188 λr h _ _=>?_;unfold M1 at h;refine S4 4 J<|c5<|dr [] p7 (by kernel_rfl) (by kernel_rfl)<|S7 1 J<|r9 h λv1 hv1 h=>d2 J (H3 J F0 J hv1) J<|S8 3 J ?_;refine cN h (λhc h=>?_) λhc h=>?_
 ·refine S4 3 J ?_;refine a7 ?_;cases h;exact⟨J,[_,_],⟨oL J J J a02 T3 nl J,⟨J,tr⟩⟩,J,io⟩
 ·refine b5 ?_;refine dr [] p7 (by kernel_rfl) (by kernel_rfl)<|S7 3 J<|d2 J (H3 J F0 J hv1) J<|r9 h λv2 hv2 h=>d2f J (u9 J I9 J hv2) J<|S7 1 J<|d1n J (J2 (f:=k8.Pv) (l:=[a1]) J a2L E2 a4P J J nl J J) J<|r9 h λv3 hv3 h=>d3 J (b0c (f:=k8.Pv) hv3 J J (.inl ⟨_,J,J⟩) a2L E2 b3w a4P J (λ_=>J)) J J J<|S7 1 J<|x4 (x':=.agg [.sl 19,.I a0.Cap]) (cl':=false) J J (.inl J) b2o<|R3<|S4 3 J<|a7 ?_;cases h;exact⟨J,[_,_],⟨oL J J J a02 T3 nl J,⟨J,tr⟩⟩,J,io⟩

theorem a6o{a0 a1}:PO Tryz.prog 115 [b7.Pv a0,k8.Pv a1] (a7K a0 a1) λr=>.tup [b7.Pv r.1,.I r.2]:=by
 refine pO Tryz.func115 λr h _ _=>?_;refine S4 4 J<|S3 2 J<|cF h a1t J J λv1 _ h=>S2 4 J<|a7 ?_;cases h;exact⟨J,[_,_],⟨oL J J J a02 T3 nl J,⟨J,tr⟩⟩,J,io⟩

theorem a1w{a0 a1}:PO Tryz.prog 65 [a6.Pv a0,.I a1] (a1g a0 a1) λr=>a6.Pv r:=by
 refine pO Tryz.func65 λr h _ _=>?_;refine S4 2 J<|S3 3 J<|cF h u5 J J λv1 _ h=>S2 6 J<|c5<|S3 3 J<|k9 J (λhg=>oL J J J a4M a0K nl J)<|r9 h λv2 hv2 h=>k9 J (λhg=>H3 J a0X (a0o (ct hg) J) (L6 hv2 hg))<|k9 J (λhg=>a0x (ct hg) J)<|y0 J (D8 J J J (λq=>eqF q))<|yN ?_;refine cN h (λhc h=>?_) λhc h=>?_
 ·refine S4 2 J ?_;refine a7 ?_;cases h;exact⟨J,[_],⟨oL J J J o5 l4 nl J,tr⟩,J,io⟩
 ·refine b5 ?_;refine S4 2 J<|S3 4 J<|cF h N6 J J λv3 _ h=>S2 5 J<|S3 5 J<|y0 J (o6 (cs:=[.I 1,.I a1,.I v1.1.Prog]) J a8X a4P J J J)<|cF h a6o J J λv4 _ h=>S2 5 J<|S3 2 J<|cF h U0 J J λv5 _ h=>S2 1 J<|a7 ?_;cases h;exact⟨J,[_],⟨oL J J J o5 l4 nl J,tr⟩,J,io⟩

theorem a3N{a0 a1}:PO Tryz.prog 117 [a6.Pv a0,.L iF a1] (a1x a0 a1) λr=>.L iF r:=by
 refine pO Tryz.func117 λr h _ _=>?_;refine S4 2 J<|sR<|a8R (KT:=Int) (VT:=Bool) (EK:=iF) (E:=PV.bool) 5000011 J J<|S2 1 J<|S4 1 J ?_;refine jq h (λj18=>St.of [(6,.sl 910006)] [(910006,⟨List.map iF j18,(List.map iF j18).length,true,1,true⟩)]) (λj18 h=>?_) λκ17 h=>?_
 ·refine S4 2 J ?_;refine a7 ?_;cases h;exact f1
 ·refine S3 1 J ?_;refine nL J j1<|S2 1 J<|c6<|lq h (λq=>St.of [(2,.ptr 2 0 0),(5,.mp 5000011),(6,.sl 910006),(12,.L iF a1),(13,.I (a1.length:Int)),(14,.I q.1)] [(5000011,⟨[.mapc (List.map (ent iF PV.bool) q.2.1)],0,false,0,false⟩),(2,vR (a6.Pv a0) 8),(910006,⟨List.map iF q.2.2,(List.map iF q.2.2).length,true,1,true⟩)]) (Wk.trans (J0 (t:=6) (l:=920006) (z:=1) J J) (WP (λl=>if l=910006 then 920006 else l))) λq24 x23 h hx16=>?_;obtain⟨s20,s21,s22⟩:=q24;refine S4 1 J<|c5 ?_;refine cN h (λhc h=>?_) λhc h=>?_
  ·refine b5 ?_;refine jq h (λq=>St.of [(2,.ptr 2 0 0),(5,.mp 5000011),(6,.sl 38),(12,.L iF a1),(13,.I (a1.length:Int)),(14,.I s20)] [(38,⟨List.map iF q.1,(List.map iF q.1).length,true,1,true⟩),(5000011,⟨[.mapc (List.map (ent iF PV.bool) q.2)],0,false,0,false⟩),(2,vR (a6.Pv a0) 8)]) (λq31 h=>?_) λκ28 h=>?_
   ·obtain⟨j29,j30⟩:=q31;refine S6 2 J ?_;exact eL h (Wk.trans (l6 _ [38]) (WP (λl=>if l=910006 then 38 else l)))
   ·refine c6 ?_;refine sR<|iL h J J j1 l7 λv32 _ h=>S2 2 J<|S3 3 J<|cF h u5 J J λv33 _ h=>S2 6 J<|S3 3 J<|k9 J (λhg=>om (d:=.mp 5000011) J)<|k9 J (λhg=>mI J) ?_;rcases Bool.eq_false_or_eq_true ((v33.2==0)==true) with hg24 | hg24
    ·have h:=ifT h hg24;refine b3i (es:=s21) (k:=v32) (E:=PV.bool) (EK:=iF) (d:=.bool ((F7 s21 v32).getD (false:Bool))) (congrArg some hg24) (ct hg24) J (ct hg24) X0 (s6 D5) a9M J (lk1 _ _ _)<|y0 (congrArg some hg24) (a0x J J)<|y0 J (a13 J J hg24)<|yN ?_;refine cN h (λhc h=>?_) λhc h=>?_
     ·refine S3 2 J ?_;refine z7 (es:=s21) (k:=v32) (v:=true) (E:=PV.bool) (EK:=iF) (.inl J) J J J J J J X0 (s6 D5)<|yN<|S5 2 J<|y0 J (J2 (f:=iF) (l:=[v32]) J j1 l7 y9 J J nl J J)<|r9 h λv34 hv25 h=>N9 J (L5 (f:=iF) hv25 J J J J J J (.inl ⟨_,J,J⟩) j1 l7 J3 y9 J (λ_=>J)) J J J<|S2 1 J ?_;exact eJ h (Wk.trans (l6 _ [38]) W)
     ·refine b5 ?_;exact eJ h (Wk.trans (l6 _ [910006]) (WP (λl=>if l=38 then 910006 else l)))
    ·have h:=ifF h hg24;refine R1 (congrArg some hg24)<|R1 (congrArg some hg24)<|y0 J (a3E J J hg24)<|yN ?_;refine y7 false J (λq=>nomatch q) (λ_=>?_);refine b5 ?_;exact eJ h (Wk.trans (l6 _ [910006]) (WP (λl=>if l=38 then 910006 else l)))
  ·refine o9 ?_;refine c4<|c4<|j7 ?_;have h:=xL hx16 h;exact eJ h (Wk.trans (l6 _ [910006]) W)

theorem a1z{a0 a1}:PO Tryz.prog 333 [.L iF a0,.I a1] (Y2 a0 a1) λr=>.I r:=by
 refine pO Tryz.func333 λr h _ _=>?_;refine S4 1 J ?_;refine jq h (λ_=>St.of [] []) (λq6 h=>?_) λκ5 h=>?_
 ·refine S4 1 J ?_;refine a7 ?_;cases h;exact f1
 ·refine S3 1 J ?_;refine nL J j1<|S2 1 J<|c6<|lq h (λs8=>St.of [(0,.L iF a0),(1,.I a1),(7,.I (a0.length:Int)),(8,.I s8)] []) W λs8 x9 h hx8=>S4 1 J<|c5 ?_;refine cN h (λhc h=>?_) λhc h=>?_
  ·refine b5 ?_;refine c5<|c6<|S4 2 J<|S3 3 J<|iL h J J j1 l7 λv10 _ h=>S2 2 J ?_;refine cN h (λhc h=>?_) λhc h=>?_
   ·refine S4 2 J ?_;refine a7 ?_;have h:=xL hx8 h;cases h;exact f1
   ·refine b5 ?_;refine S6 2 J ?_;exact eL h W
  ·refine o9 ?_;refine c4<|c4<|j7 ?_;have h:=xL hx8 h;exact eJ h W

theorem F8{a0 a1}:PO Tryz.prog 274 [.L iF a0,.I a1] (E4 a0 a1) λr=>.bool r:=by
 refine pO Tryz.func274 λr h _ _=>?_;refine S4 1 J<|S3 2 J<|cA h a1z J J λv1 _ h=>S2 2 J<|a7 ?_;cases h;exact f1

theorem a6D{a0 a1}:PO Tryz.prog 273 [c9.Pv a0,.rptr [.L iF a1]] (a2n a0 a1) λr=>.bool r:=by
 refine pO Tryz.func273 λr h _ _=>?_;unfold a2n at h;refine S4 2 J<|S3 3 J<|k9 J (λhg=>oF J a8l J)<|k9 J (λhg=>oS (ct hg) J J G0 J)<|k9 J (λhg=>A0 (ct hg) J J)<|y0 J (A3 J J J (λq=>eqT q))<|S1 1 J<|k9 J (λhg=>C6 J b0A J)<|k9 J (λhg=>oF J a8l J)<|k9 J (λhg=>oS (ct hg) J J G0 J)<|r9 h λv1 hv1 h=>k9 J (λhg=>H3 J F8 (a0o (ct hg) (a0o (ct hg) J)) (L6 hv1 hg))<|y0 J (A3 J J J (λq=>eqT q))<|S2 1 J<|a7 ?_;cases h;exact f1

theorem Z2{a0 a1}:PO Tryz.prog 272 [.L c9.Pv a0,.fn (.func 273) [.rptr [.L iF a1]]] (N8 a0 a1) λr=>.L iF r:=by
 refine pO Tryz.func272 λr h _ _=>?_;refine S4 1 J<|S4 1 J ?_;refine jq h (λj15=>St.of [(5,.sl 910005)] [(910005,⟨List.map iF j15,(List.map iF j15).length,true,1,true⟩)]) (λj15 h=>?_) λκ14 h=>?_
 ·refine S4 2 J ?_;refine a7 ?_;cases h;exact f1
 ·refine S3 1 J ?_;refine nL J K5<|S2 1 J<|c6<|lq h (λq=>St.of [(1,.fn (.func 273) [.rptr [.L iF a1]]),(5,.sl 910005),(8,.L c9.Pv a0),(9,.I (a0.length:Int)),(10,.I q.1)] [(910005,⟨List.map iF q.2,(List.map iF q.2).length,true,1,true⟩)]) (Wk.trans (J0 (t:=5) (l:=920005) (z:=1) J J) (WP (λl=>if l=910005 then 920005 else l))) λq20 x19 h hx14=>?_;obtain⟨s17,s18⟩:=q20;refine S4 1 J<|c5 ?_;refine cN h (λhc h=>?_) λhc h=>?_
  ·refine b5 ?_;refine jq h (λj25=>St.of [(1,.fn (.func 273) [.rptr [.L iF a1]]),(5,.sl 21),(8,.L c9.Pv a0),(9,.I (a0.length:Int)),(10,.I s17)] [(21,⟨List.map iF j25,(List.map iF j25).length,true,1,true⟩)]) (λj25 h=>?_) λκ24 h=>?_
   ·refine S6 2 J ?_;exact eL h (Wk.trans (l6 _ [21]) (WP (λl=>if l=910005 then 21 else l)))
   ·refine c6 ?_;refine S3 1 J<|iL h J J K5 L3 λv26 _ h=>S2 4 J<|S3 2 J<|cA h a6D J J λv27 _ h=>yN ?_;refine cN h (λhc h=>?_) λhc h=>?_
    ·refine S5 2 J ?_;refine y0 J (J2 (f:=iF) (l:=[s17]) J j1 l7 y9 J J nl J J)<|r9 h λv28 hv21 h=>N9 J (L5 (f:=iF) hv21 J J J J J J (.inl ⟨_,J,J⟩) j1 l7 J3 y9 J (λ_=>J)) J J J<|S2 1 J ?_;exact eJ h (Wk.trans (l6 _ [21]) W)
    ·refine b5 ?_;exact eJ h (Wk.trans (l6 _ [910005]) (WP (λl=>if l=21 then 910005 else l)))
  ·refine o9 ?_;refine c4<|c4<|j7 ?_;have h:=xL hx14 h;exact eJ h (Wk.trans (l6 _ [910005]) W)

theorem a8i{a0 a1}:PO Tryz.prog 191 [.L c9.Pv a0,.L iF a1] (a4I a0 a1) λr=>.tup [.L c9.Pv r.1,.L iF r.2]:=by
 refine pO Tryz.func191 λr h _ _=>?_;unfold a4I at h;refine S4 3 J<|S3 2 J<|r9 h λv1 hv1 h=>ycL J (u9 J Z2 J hv1) J<|S2 1 J<|S3 1 J<|r9 h λv2 hv2 h=>ycN J (a8G J a2B J hv2) J J<|S2 1 J<|S4 1 J ?_;refine jq h (λq=>St.of [(7,.sl 15),(8,.sl 910008)] [(910008,⟨List.map iF q.1,(List.map iF q.1).length,true,1,true⟩),(15,⟨List.map c9.Pv q.2,0,true,3,true⟩)]) (λq24 h=>?_) λκ21 h=>?_
 ·obtain⟨j22,j23⟩:=q24;refine S4 4 J<|a7 ?_;cases h;exact f2
 ·refine S3 1 J ?_;refine nL J j1<|S2 1 J<|c6<|lq h (λq=>St.of [(7,.sl 15),(8,.sl 910008),(16,.L iF v1),(17,.I (v1.length:Int)),(18,.I q.1)] [(15,⟨List.map c9.Pv q.2.1,0,true,3,true⟩),(910008,⟨List.map iF q.2.2,(List.map iF q.2.2).length,true,1,true⟩)]) (Wk.trans (J0 (t:=8) (l:=920008) (z:=1) J J) (WP (λl=>if l=910008 then 920008 else l))) λq30 x29 h hx18=>?_;obtain⟨s26,s27,s28⟩:=q30;refine S4 1 J<|c5 ?_;refine cN h (λhc h=>?_) λhc h=>?_
  ·refine b5 ?_;refine jq h (λq=>St.of [(7,.sl 15),(8,.sl 35),(16,.L iF v1),(17,.I (v1.length:Int)),(18,.I s26)] [(35,⟨List.map iF q.1,(List.map iF q.1).length,true,1,true⟩),(15,⟨List.map c9.Pv q.2,0,true,3,true⟩)]) (λq38 h=>?_) λκ35 h=>?_
   ·obtain⟨j36,j37⟩:=q38;refine S6 2 J ?_;exact eL h (Wk.trans (l6 _ [35]) (WP (λl=>if l=910008 then 35 else l)))
   ·refine c6 ?_;refine sR<|iL h J J j1 l7 λv39 _ h=>S2 2 J<|S3 2 J<|r9 h λv40 hv25 h=>y0 J (a0w (f:=c9.Pv) hv25 J J J J K5 L3 J)<|S1 1 J<|a4h (f:=c9.Pv) (v:=(⟨v40.Target,false,v40.Call⟩:c9)) hv25 J J (.inl J) b6l<|yN<|S3 2 J<|r9 h λv41 hv26 h=>y0 J (a0w (f:=c9.Pv) hv26 J J J J K5 L3 J)<|S1 1 J<|y0 J (b2P (f:=c9.Pv) hv26 J J J G0 J)<|S2 1 J ?_;refine cN h (λhc h=>?_) λhc h=>?_
    ·refine S5 2 J ?_;refine y0 J (J2 (f:=iF) (l:=[v39]) J j1 l7 y9 J J nl J J)<|r9 h λv42 hv27 h=>N9 J (L5 (f:=iF) hv27 J J J J J J (.inl ⟨_,J,J⟩) j1 l7 J3 y9 J (λ_=>J)) J J J<|S2 1 J ?_;exact eJ h (Wk.trans (l6 _ [35]) W)
    ·refine b5 ?_;exact eJ h (Wk.trans (l6 _ [910008]) (WP (λl=>if l=35 then 910008 else l)))
  ·refine o9 ?_;refine c4<|c4<|j7 ?_;have h:=xL hx18 h;exact eJ h (Wk.trans (l6 _ [910008]) W)

theorem a5m{a0 a1}:PO Tryz.prog 118 [a6.Pv a0,.L iF a1] (a3p a0 a1) λr=>a6.Pv r:=by
 refine pO Tryz.func118 λr h _ _=>?_;refine S4 2 J<|S3 3 J<|cF h a8i J J λv1 _ h=>S2 5 J<|S4 3 J ?_;refine jq h (λj11=>St.of [(2,.ptr 2 0 0),(4,.ptr 4 0 0)] [(4,vR (.agg [.nl,.I 0,.I 0,.nl,.nl,.nl,.nl,.I 0]) 8),(2,vR (.agg [.L b6.Pv a0.S.S.o8,.I a0.S.S.Last,.I a0.S.Serial,.L iF a0.Roots,.L c9.Pv v1.1,.L a8.Pv a0.T,.L k8.Pv j11.L,.I j11.Cap]) 8)]) (λj11 h=>?_) λκ10 h=>?_
 ·refine S4 2 J ?_;refine a7 ?_;cases h;exact⟨J,[_],⟨oL J J J o5 l4 nl J,tr⟩,J,io⟩
 ·refine S3 1 J ?_;refine nL J j1<|S2 1 J<|c6<|lq h (λq=>St.of [(2,.ptr 2 0 0),(4,.ptr 4 0 0),(5,.L c9.Pv v1.1),(18,.L iF v1.2),(19,.I (v1.2.length:Int)),(20,.I q.1)] [(4,vR (.agg [.nl,.I 0,.I 0,.nl,.nl,.nl,.nl,.I 0]) 8),(2,vR (.agg [.L b6.Pv a0.S.S.o8,.I a0.S.S.Last,.I a0.S.Serial,.L iF a0.Roots,.L c9.Pv v1.1,.L a8.Pv a0.T,.L k8.Pv q.2.L,.I q.2.Cap]) 8)]) W λq16 x15 h hx11=>?_;obtain⟨s13,s14⟩:=q16;refine S4 1 J<|c5 ?_;refine cN h (λhc h=>?_) λhc h=>?_
  ·refine b5 ?_;refine c5<|c6<|sR<|iL h J J j1 l7 λv17 _ h=>S2 2 J<|a7x [] p7 (by kernel_rfl) (by kernel_rfl)<|S7 5 J<|r9 h λv18 hv13 h=>d0 J (B4 (f:=c9.Pv) (cs:=c9.Pc v18) hv13 J J K5 L3 J J) J<|S7 2 J<|d7 J (λ_ hN=>o6 (cs:=[.I 2,.I v17,.I v18.Call]) J a8X a4P J J J) J<|r9 h λv19 hv14 h=>d2f J (u9 J a6o J hv14) J<|S7 4 J<|x4 (x':=.agg [.L b6.Pv a0.S.S.o8,.I a0.S.S.Last,.I a0.S.Serial,.L iF a0.Roots,.L c9.Pv v1.1,.L a8.Pv a0.T,.L k8.Pv v19.1.L,.I v19.1.Cap]) (cl':=true) J J (.inr J) T3<|R3<|S6 2 J ?_;exact eL h W
  ·refine o9 ?_;refine c4<|c4<|j7 ?_;have h:=xL hx11 h;exact eJ h W

theorem a9B{a0}:PO Tryz.prog 192 [.L iF a0] (a5Y a0) λr=>.fn (.func 276) [.rptr [.L iF r]]:=by
 refine pO Tryz.func192 λr h _ _=>?_;unfold a5Y at h;refine S4 2 J<|S4 2 J<|a7 ?_;cases h;exact f1

theorem a5p{a0}:PO Tryz.prog 120 [.L iF a0] (a5X a0) λr=>.L iF r:=by
 refine pO Tryz.func120 λr h _ _=>?_;refine S4 1 J<|S4 1 J ?_;refine jq h (λj10=>St.of [(3,.ptr 2001 0 0)] [(2001,vS (.sl 912501) 1),(912501,⟨List.map iF j10,(List.map iF j10).length,true,1,true⟩)]) (λj10 h=>?_) λκ9 h=>?_
 ·refine S4 2 J ?_;refine a7 ?_;cases h;exact f1
 ·refine S3 1 J ?_;refine cF h a9B J J λv11 _ h=>yN<|c6<|R6 (WPE (λl=>if l=2011 then 3 else l) [(3,.ptr 2011 0 0),(6,.fn (.func 276) [.rptr [.L iF v11]])] [(2011,vR (.nl) 1)]) ?_;refine U4 (fn:=Tryz.f276) (N1:=20) J Tryz.func276 J J nl J b3F J J (λl17 e18 o19 hR20=>?_);refine S3 1 J<|nL J j1<|S2 1 J<|c6<|lq h (λq=>St.of [(1000003,.ptr 2011 0 0),(1000006,.fn (.func 276) [.rptr [.L iF v11]]),(0,.fn (.yield l17) []),(5,.L iF v11),(6,.I (v11.length:Int)),(7,.I q.1)] [(2011,vS (.sl 912511) 1),(912511,⟨List.map iF q.2,(List.map iF q.2).length,true,1,true⟩)]) (Wk.trans (a6S (l0:=2011) (j:=0) (l:=922511) (z:=1) J J J J J) (WP (λl=>if l=912511 then 922511 else l))) λq16 x15 h hx23=>?_;obtain⟨s13,s14⟩:=q16;refine S4 1 J<|c5 ?_;refine cN h (λhc h=>?_) λhc h=>?_
  ·refine b5 ?_;refine c5<|c6<|sR<|iL h J J j1 l7 λv17 _ h=>S2 2 J<|S3 3 J<|k9 J (λhg=>om (d:=.fn (.yield l17) []) J)<|k9 J (λhg=>mI J) ?_;rcases Bool.eq_false_or_eq_true ((v17 != 0)==true) with hg25 | hg25
   ·have h:=ifT h hg25;refine E1 (WPE (λl=>if l=2019 then 912511 else l) [(1000003,.ptr 2011 0 0),(1000006,.fn (.func 276) [.rptr [.L iF v11]]),(0,.fn (.yield l17) []),(5,.L iF v11),(6,.I (v11.length:Int)),(7,.I s13),(13,.bool (v17 != 0)),(14,.fn (.yield l17) []),(15,.I v17)] [(2011,vS (.sl 2019) 1),(2019,⟨List.map iF s14,(List.map iF s14).length,true,1,true⟩)]) ?_;refine a2p hR20 (congrArg some hg25) J J J J J (λe26 o27 o28=>?_);refine S6 1 J ?_;refine⟨J,?_⟩;refine c6<|S5 2 J<|y0 J (J2 (f:=iF) (l:=[v17]) J j1 l7 y9 J J nl J J)<|r9 h λv18 hv29 h=>N9 J (L5 (f:=iF) hv29 J J J J J J (.inl ⟨_,J,J⟩) j1 l7 J3 y9 J (λ_=>J)) J J J<|S2 1 J ?_;refine⟨J,?_⟩;refine E1 (WPE (λl=>if l=2020 then 11 else l) [(1000003,.ptr 2011 0 0),(1000006,.fn (.func 276) [.rptr [.L iF v11]]),(0,.fn (.yield l17) []),(5,.L iF v11),(6,.I (v11.length:Int)),(7,.I s13),(13,.bool (v17 != 0)),(16,.bool true)] [(2011,vS (.sl 2020) 1),(2020,⟨List.map iF v18,s14.length,true,1,true⟩)])<|y0 (congrArg some hg25) (a0x J J)<|y0 J (a13 J J hg25)<|yN ?_;refine y7 false J (λq=>nomatch q) (λ_=>?_);refine b5<|S6 2 J ?_;exact eL h (Wk.trans (l6 _ [2020]) (WP (λl=>if l=912511 then 2020 else l)))
   ·have h:=ifF h hg25;refine R1 (congrArg some hg25)<|R1 (congrArg some hg25)<|y0 J (a3E J J hg25)<|yN ?_;refine y7 false J (λq=>nomatch q) (λ_=>?_);refine b5<|S6 2 J ?_;exact eL h (Wk.trans (l6 _ [912511]) W)
  ·refine o9 ?_;refine c4<|c4<|j7 ?_;refine .inl ⟨J,?_⟩;have h:=xL hx23 h;exact eJ h (Wk.trans (l6 _ [912511]) (WP (λl=>if l=2001 then 2011 else if l=912501 then 912511 else l)))

theorem a5A{a0 a1}:PO Tryz.prog 121 [.L a8.Pv a0,.L iF a1] (a3X a0 a1) λr=>.tup [.L a8.Pv r.1,.L iF r.2]:=by
 refine pO Tryz.func121 λr h _ _=>?_;refine S4 2 J<|S4 1 J ?_;refine jq h (λq=>St.of [(0,.L a8.Pv q.1),(6,.sl 910006)] [(910006,⟨List.map iF q.2,(List.map iF q.2).length,true,1,true⟩)]) (λq20 h=>?_) λκ17 h=>?_
 ·obtain⟨j18,j19⟩:=q20;refine S4 4 J<|a7 ?_;cases h;exact f2
 ·refine S3 1 J ?_;refine nL J j1<|S2 1 J<|c6<|lq h (λq=>St.of [(0,.L a8.Pv q.1),(6,.sl 910006),(12,.L iF a1),(13,.I (a1.length:Int)),(14,.I q.2.1)] [(910006,⟨List.map iF q.2.2,(List.map iF q.2.2).length,true,1,true⟩)]) (Wk.trans (J0 (t:=6) (l:=920006) (z:=1) J J) (WP (λl=>if l=910006 then 920006 else l))) λq26 x25 h hx14=>?_;obtain⟨s22,s23,s24⟩:=q26;refine S4 1 J<|c5 ?_;refine cN h (λhc h=>?_) λhc h=>?_
  ·refine b5 ?_;refine jq h (λq=>St.of [(0,.L a8.Pv q.1),(6,.sl 31),(12,.L iF a1),(13,.I (a1.length:Int)),(14,.I s23)] [(31,⟨List.map iF q.2,(List.map iF q.2).length,true,1,true⟩)]) (λq33 h=>?_) λκ30 h=>?_
   ·obtain⟨j31,j32⟩:=q33;refine S6 2 J ?_;exact eL h (Wk.trans (l6 _ [31]) (WP (λl=>if l=910006 then 31 else l)))
   ·refine c6 ?_;refine sR<|iL h J J j1 l7 λv34 _ h=>S2 2 J<|S3 2 J<|cF h a43 J J λv35 _ h=>S2 7 J<|S4 2 J ?_;refine cN h (λhc h=>?_) λhc h=>?_
    ·refine S5 3 J ?_;refine y0 J (J2 (f:=iF) (l:=[v35.2.1]) J j1 l7 y9 J J nl J J)<|r9 h λv36 hv21 h=>N9 J (L5 (f:=iF) hv21 J J J J J J (.inl ⟨_,J,J⟩) j1 l7 J3 y9 J (λ_=>J)) J J J<|S2 2 J ?_;exact eJ h (Wk.trans (l6 _ [31]) W)
    ·refine b5 ?_;exact eJ h (Wk.trans (l6 _ [910006]) (WP (λl=>if l=31 then 910006 else l)))
  ·refine o9 ?_;refine c4<|c4<|j7 ?_;have h:=xL hx14 h;exact eJ h (Wk.trans (l6 _ [910006]) W)

theorem a2h{a0 a1}:PO Tryz.prog 194 [b9.Pv a0,.I a1] (Z9 a0 a1) λr=>.tup [b9.Pv r.1,.I r.2]:=by
 refine pO Tryz.func194 λr h _ _=>?_;refine S4 3 J<|S3 2 J<|cF h W1 J J λv1 _ h=>S2 6 J<|c5<|S4 2 J ?_;refine cN h (λhc h=>?_) λhc h=>?_
 ·refine S4 4 J ?_;refine a7 ?_;cases h;exact⟨J,[_,_],⟨oL J J J Y4 T0 nl J,⟨J,tr⟩⟩,J,io⟩
 ·refine b5 ?_;refine dr [] p7 (by kernel_rfl) (by kernel_rfl)<|S7 2 J<|r9 h λv2 hv2 h=>d2 J (H3 J a2Y J hv2) J<|S7 1 J<|r9 h λv3 hv3 h=>d2 J (H3 J a3Z J hv3) J<|S7 1 J<|d7 J (λ_ hN=>o6 (cs:=[.I 2,.I v3,.I v1.1.Serial,.I v1.1.Strong,.I v1.1.Weak,.I v1.1.Prog,.bool v1.1.Started,.L iF v1.1.Fields]) J a6F a3x J J J) J<|r9 h λv4 hv4 h=>d2f J (u9 J B6 J hv4) J<|x4 (x':=b9.Pv v4) (cl':=true) J J (.inr J) T0<|S8 1 J<|a7 ?_;cases h;exact⟨J,[_,_],⟨oL J J J Y4 T0 nl J,⟨J,tr⟩⟩,J,io⟩

theorem a5U{a0 a1}:PO Tryz.prog 122 [a6.Pv a0,.I a1] (a4f a0 a1) λr=>a6.Pv r:=by
 refine pO Tryz.func122 λr h _ _=>?_;refine S4 2 J<|S3 3 J<|cF h u5 J J λv1 _ h=>S2 6 J<|S3 1 J<|a3u (x':=.agg [.I v1.1.Serial,.I v1.1.Strong,.I v1.1.Weak,.I v1.1.Prog,.bool v1.1.Started,.nl]) (cl':=true) J J (.inl J) a6W<|S1 1 J<|a3u (x':=.agg [.I v1.1.Serial,.I 0,.I v1.1.Weak,.I v1.1.Prog,.bool v1.1.Started,.nl]) (cl':=true) J J (.inl J) l7<|yN<|S3 4 J<|cF h N6 J J λv2 _ h=>S2 5 J<|S3 4 J<|cF h a2h J J λv3 _ h=>S2 6 J<|c5<|S4 3 J ?_;refine cN h (λhc h=>?_) λhc h=>?_
 ·refine S5 4 J ?_;refine cF h U9 J J λv4 _ h=>S2 6 J<|S4 2 J<|a7 ?_;cases h;exact⟨J,[_],⟨oL J J J o5 l4 nl J,tr⟩,J,io⟩
 ·refine b5 ?_;refine S4 2 J<|a7 ?_;cases h;exact⟨J,[_],⟨oL J J J o5 l4 nl J,tr⟩,J,io⟩

theorem a3o{a0 a1}:PO Tryz.prog 66 [a6.Pv a0,.L iF a1] (a3n a0 a1) λr=>a6.Pv r:=by
 refine pO Tryz.func66 λr h _ _=>?_;refine S4 2 J<|S3 2 J<|cF h a3N J J λv1 _ h=>S2 1 J<|S3 2 J<|cF h a5m J J λv2 _ h=>S2 1 J<|S4 1 J<|S4 2 J ?_;refine jq h (λj13=>St.of [(2,.ptr 2 0 0),(4,.ptr 4 0 0),(5,.L iF v1),(6,.ptr 6 0 0),(7,.fn (.func 119) [.ptr 6 0 0])] [(6,vS (.sl 910506) 1),(910506,⟨List.map iF j13,(List.map iF j13).length,true,1,true⟩),(4,vR (.agg [.nl,.I 0,.I 0,.nl,.nl,.nl,.nl,.I 0]) 8),(2,vR (a6.Pv v2) 8)]) (λj13 h=>?_) λκ12 h=>?_
 ·refine S3 3 J ?_;refine cF h a5A J J λv14 _ h=>S2 5 J<|S3 2 J<|E1 (WPE (λl=>if l=2025 then 6 else if l=2026 then 4 else if l=2027 then 2 else if l=2028 then 910506 else l) [(2,.ptr 2027 0 0),(4,.ptr 2026 0 0),(5,.L iF v1),(6,.ptr 2025 0 0),(12,.L a8.Pv v14.1),(51,.fn (.func 119) [.ptr 2025 0 0]),(52,.L iF v14.2)] [(2025,vS (.sl 2028) 1),(2028,⟨List.map iF j13,(List.map iF j13).length,true,1,true⟩),(2026,vR (.agg [.nl,.I 0,.I 0,.nl,.nl,.nl,.nl,.I 0]) 8),(2027,vR (a6.Pv v2) 8)]) ?_;refine a8Q (fn:=Tryz.f119) (N1:=6) J J Tryz.func119 J b1d J J nl (λe14 o15=>?_);refine S5 2 J<|r9 h λv15 hv16 h=>N9 J (L5 (f:=iF) hv16 J J J J J J (.inl ⟨_,J,J⟩) j1 l7 J3 y9 J (λ_=>J)) J J J<|S2 1 J ?_;refine⟨J,[],tr,?_⟩;refine E1 (WPE (λl=>if l=2029 then 5 else l) [(2,.ptr 2027 0 0),(4,.ptr 2026 0 0),(5,.L iF v1),(6,.ptr 2025 0 0),(12,.L a8.Pv v14.1)] [(2025,vS (.sl 2029) 1),(2029,⟨List.map iF v15,j13.length,true,1,true⟩),(2026,vR (.agg [.nl,.I 0,.I 0,.nl,.nl,.nl,.nl,.I 0]) 8),(2027,vR (a6.Pv v2) 8)])<|yN<|S4 3 J ?_;refine jq h (λj24=>St.of [(2,.ptr 2027 0 0),(4,.ptr 2026 0 0),(6,.ptr 2025 0 0)] [(2025,vS (.sl 2029) 1),(2029,⟨List.map iF v15,j13.length,true,1,true⟩),(2026,vR (.agg [.nl,.I 0,.I 0,.nl,.nl,.nl,.nl,.I 0]) 8),(2027,vR (a6.Pv j24) 8)]) (λj24 h=>?_) λκ23 h=>?_
  ·refine jq h (λj33=>St.of [(2,.ptr 2027 0 0),(4,.ptr 2026 0 0)] [(2026,vR (.agg [.nl,.I 0,.I 0,.nl,.nl,.nl,.nl,.I 0]) 8),(2027,vR (a6.Pv j33) 8)]) (λj33 h=>?_) λκ32 h=>?_
   ·refine S4 2 J ?_;refine a7 ?_;cases h;exact⟨J,[_],⟨oL J J J o5 l4 nl J,tr⟩,J,io⟩
   ·refine S3 1 J ?_;refine y0 J (a8H (f:=iF) J J J j1)<|S2 1 J<|c6<|lq h (λq=>St.of [(2,.ptr 2027 0 0),(4,.ptr 2026 0 0),(66,.sl 2029),(67,.I (v15.length:Int)),(68,.I q.1)] [(2029,⟨List.map iF v15,j13.length,true,1,true⟩),(2026,vR (.agg [.nl,.I 0,.I 0,.nl,.nl,.nl,.nl,.I 0]) 8),(2027,vR (a6.Pv q.2) 8)]) W λq38 x37 h hx31=>?_;obtain⟨s35,s36⟩:=q38;refine S4 1 J<|c5 ?_;refine cN h (λhc h=>?_) λhc h=>?_
    ·refine b5 ?_;refine c5<|c6<|sR<|r9 h λv39 hv32 h=>y0 J (a0w (f:=iF) hv32 J J J J j1 l7 J)<|y0 J (b2P (f:=iF) hv32 J J J G0 J)<|S2 1 J<|S5 2 J<|cF h K3 J J λv40 _ h=>S2 1 J<|S6 2 J ?_;exact eL h W
    ·refine o9 ?_;refine c4<|c4<|j7 ?_;have h:=xL hx31 h;exact eJ h W
  ·refine S3 1 J ?_;refine nL J j1<|S2 1 J<|c6<|lq h (λq=>St.of [(2,.ptr 2027 0 0),(4,.ptr 2026 0 0),(6,.ptr 2025 0 0),(56,.L iF v1),(57,.I (v1.length:Int)),(58,.I q.1)] [(2025,vS (.sl 2029) 1),(2029,⟨List.map iF v15,j13.length,true,1,true⟩),(2026,vR (.agg [.nl,.I 0,.I 0,.nl,.nl,.nl,.nl,.I 0]) 8),(2027,vR (a6.Pv q.2) 8)]) W λq45 x44 h hx36=>?_;obtain⟨s42,s43⟩:=q45;refine S4 1 J<|c5 ?_;refine cN h (λhc h=>?_) λhc h=>?_
   ·refine b5 ?_;refine c5<|c6<|sR<|iL h J J j1 l7 λv46 _ h=>S2 2 J<|S5 2 J<|cF h a5U J J λv47 _ h=>S2 1 J<|S6 2 J ?_;exact eL h W
   ·refine o9 ?_;refine c4<|c4<|j7 ?_;have h:=xL hx36 h;exact eJ h W
 ·refine S3 1 J ?_;refine nL J j1<|S2 1 J<|c6<|lq h (λq=>St.of [(2,.ptr 2 0 0),(4,.ptr 4 0 0),(5,.L iF v1),(6,.ptr 6 0 0),(7,.fn (.func 119) [.ptr 6 0 0]),(25,.L iF v1),(26,.I (v1.length:Int)),(27,.I q.1)] [(6,vS (.sl 910506) 1),(4,vR (.agg [.nl,.I 0,.I 0,.nl,.nl,.nl,.nl,.I 0]) 8),(2,vR (a6.Pv v2) 8),(910506,⟨List.map iF q.2,(List.map iF q.2).length,true,1,true⟩)]) (Wk.trans (a6S (l0:=6) (j:=0) (l:=920506) (z:=1) J J J J J) (WP (λl=>if l=910506 then 920506 else l))) λq52 x51 h hx41=>?_;obtain⟨s49,s50⟩:=q52;refine S4 1 J<|c5 ?_;refine cN h (λhc h=>?_) λhc h=>?_
  ·refine b5 ?_;refine c5<|c6<|sR<|iL h J J j1 l7 λv53 _ h=>S2 2 J<|S3 3 J<|cF h u5 J J λv54 _ h=>S2 6 J<|S5 3 J<|cF h a5p J J λv55 _ h=>E1 (WPE (λl=>if l=2049 then 6 else if l=2050 then 4 else if l=2051 then 2 else if l=2052 then 910506 else l) [(2,.ptr 2051 0 0),(4,.ptr 2050 0 0),(5,.L iF v1),(6,.ptr 2049 0 0),(7,.fn (.func 119) [.ptr 2049 0 0]),(25,.L iF v1),(26,.I (v1.length:Int)),(27,.I s49),(38,.fn (.func 119) [.ptr 2049 0 0]),(41,.L iF v55)] [(2049,vS (.sl 2052) 1),(2052,⟨List.map iF s50,(List.map iF s50).length,true,1,true⟩),(2050,vR (.agg [.nl,.I 0,.I 0,.nl,.nl,.nl,.nl,.I 0]) 8),(2051,vR (a6.Pv v2) 8)]) ?_;refine a8Q (fn:=Tryz.f119) (N1:=6) J J Tryz.func119 J b1d J J nl (λe45 o46=>?_);refine S5 2 J<|r9 h λv56 hv47 h=>N9 J (L5 (f:=iF) hv47 J J J J J J (.inl ⟨_,J,J⟩) j1 l7 J3 y9 J (λ_=>J)) J J J<|S2 1 J ?_;refine⟨J,[],tr,?_⟩;refine E1 (WPE (λl=>if l=2053 then 5 else l) [(2,.ptr 2051 0 0),(4,.ptr 2050 0 0),(5,.L iF v1),(6,.ptr 2049 0 0),(7,.fn (.func 119) [.ptr 2049 0 0]),(25,.L iF v1),(26,.I (v1.length:Int)),(27,.I s49)] [(2049,vS (.sl 2053) 1),(2053,⟨List.map iF v56,s50.length,true,1,true⟩),(2050,vR (.agg [.nl,.I 0,.I 0,.nl,.nl,.nl,.nl,.I 0]) 8),(2051,vR (a6.Pv v2) 8)])<|yN<|S6 2 J ?_;exact eL h (Wk.trans (l6 _ [2053]) (WP (λl=>if l=2 then 2051 else if l=4 then 2050 else if l=6 then 2049 else if l=910506 then 2053 else l)))
  ·refine o9 ?_;refine c4<|c4<|j7 ?_;have h:=xL hx41 h;exact eJ h (Wk.trans (l6 _ [910506]) W)

theorem N5{a0}:PO Tryz.prog 62 [a6.Pv a0] (P6 a0) λr=>a6.Pv r:=by
 refine pO Tryz.func62 λr h _ _=>?_;refine S4 2 J<|lqS h (λs2=>St.of [(1,.ptr 1 0 0),(2,.ptr 2 0 0)] [(2,vR (.agg [.nl,.I 0,.I 0,.nl,.nl,.nl,.nl,.I 0]) 8),(1,vR (a6.Pv s2) 8)]) W λs2 x3 h hx3=>S3 1 J<|cF h a7H J J λv4 _ h=>S2 1 J<|c5<|S3 1 J<|nL J j1<|S2 1 J ?_;refine cN h (λhc h=>?_) λhc h=>?_
 ·refine S4 2 J ?_;refine a7 ?_;have h:=xL hx3 h;cases h;exact⟨J,[_],⟨oL J J J o5 l4 nl J,tr⟩,J,io⟩
 ·refine b5 ?_;refine c5<|dr [] p7 (by kernel_rfl) (by kernel_rfl)<|S7 3 J<|r9 h λv5 hv5 h=>d0 J (B4 (f:=iF) (cs:=[.I v5]) hv5 J J j1 l7 J J) J<|S7 1 J<|r9 h λv6 hv6 h=>d2f J (u9 J u5 J hv6) J<|S7 4 J<|x4 (x':=p8.Pv v6.1) (cl':=true) J J (.inr J) a0K<|S8 1 J<|S3 1 J<|cA h a0X J J λv7 _ h=>yN ?_;refine cN h (λhc h=>?_) λhc h=>?_
  ·refine a7x [] p7 (by kernel_rfl) (by kernel_rfl) ?_;refine S7 2 J<|d0 J (B4 (f:=iF) (cs:=[.I v5]) hv5 J J j1 l7 J J) J<|S7 1 J<|r9 h λv8 hv8 h=>d2f J (u9 J a1w J hv8) J<|x4 (x':=a6.Pv v8) (cl':=true) J J (.inr J) l4<|R3<|b1y ?_;exact eS h W
  ·refine a7x [] p7 (by kernel_rfl) (by kernel_rfl) ?_;refine S7 2 J<|r9 h λv9 hv9 h=>d0 J (a9l (f:=iF) hv9 J J ⟨_,J⟩ j1 l7 (λ_=>J)) J<|r9 h λv10 hv10 h=>d2f J (u9 J a3o J hv10) J<|x4 (x':=a6.Pv v10) (cl':=true) J J (.inr J) l4<|R3<|b1y ?_;exact eS h W

theorem a5e{a0 a1 a2}:PO Tryz.prog 63 [a6.Pv a0,a6.Pv a1,j5.Pv a2] (a3f a0 a1 a2) λr=>.I r:=by
 refine pO Tryz.func63 λr h _ _=>?_;refine S4 4 J<|c5<|S4 2 J<|c6<|S4 2 J ?_;refine cN h (λhc h=>?_) λhc h=>?_
 ·refine S3 3 J ?_;refine cA h W9 J J λv1 _ h=>S2 1 J<|a7 ?_;cases h;exact f1
 ·refine jq h (λj3=>St.of [(3,.ptr 3 0 0),(4,.ptr 4 0 0),(5,.ptr 5 0 0),(8,.I a2.Kind),(15,.bool j3)] [(5,vR (j5.Pv a2) 4),(4,vR (a6.Pv a1) 8),(3,vR (a6.Pv a0) 8)]) (λj3 h=>?_) λκ2 h=>?_
  ·refine cN h (λhc h=>?_) λhc h=>?_
   ·refine S3 3 J ?_;refine cA h W9 J J λv4 _ h=>S2 1 J<|a7 ?_;cases h;exact f1
   ·refine S4 2 J ?_;refine cN h (λhc h=>?_) λhc h=>?_
    ·refine c5 ?_;refine dr [] p7 (by kernel_rfl) (by kernel_rfl)<|S7 3 J<|r9 h λv5 hv4 h=>d2 J (H3 J E6 J hv4) J<|S7 3 J<|r9 h λv6 hv5 h=>d2 J (H3 J E6 J hv5) J<|S8 1 J ?_;refine cN h (λhc h=>?_) λhc h=>?_
     ·refine S4 1 J ?_;refine a7 ?_;cases h;exact f1
     ·refine b5 ?_;refine S4 1 J<|a7 ?_;cases h;exact f1
    ·refine b5 ?_;refine S3 3 J<|cA h W9 J J λv7 _ h=>S2 1 J<|a7 ?_;cases h;exact f1
  ·refine S4 2 J ?_;refine cN h (λhc h=>?_) λhc h=>?_
   ·refine b5 ?_;exact eJ h W
   ·refine S6 2 J ?_;exact eJ h W

theorem a38{a0 a1}:PO Tryz.prog 34 [a6.Pv a0,j5.Pv a1] (a4z a0 a1) λr=>.tup [a6.Pv r.1,.I r.2.1,.I r.2.2]:=by
 refine pO Tryz.func34 λr h _ _=>?_;refine S4 5 J<|c5<|S3 1 J<|cA h a03 J J λv1 _ h=>S2 1 J<|S4 2 J ?_;refine cN h (λhc h=>?_) λhc h=>?_
 ·refine S4 5 J ?_;refine a7 ?_;cases h;exact⟨J,[_,_,_],⟨oL J J J o5 l4 nl J,⟨J,⟨J,tr⟩⟩⟩,J,io⟩
 ·refine b5 ?_;refine dr [] p7 (by kernel_rfl) (by kernel_rfl)<|r9 h λv2 hv2 h=>d2f J (u9 J a5I J hv2) J<|S7 2 J<|d4 J (b6x (es:=v2) (k:=a1.Kind) (E:=fvE) (EK:=iF) (d:=.tup [fvE ((F7 v2 a1.Kind).getD (none:Fv)),.bool ((F7 v2 a1.Kind).isSome)]) J J L7 (s6 D5) b30 J (lk2 _ _ _)) J<|S8 5 J<|c5<|S4 2 J ?_;refine cN h (λhc h=>?_) λhc h=>?_
  ·refine S4 4 J ?_;refine a7 ?_;cases h;exact⟨J,[_,_,_],⟨oL J J J o5 l4 nl J,⟨J,⟨J,tr⟩⟩⟩,J,io⟩
  ·refine b5 ?_;refine S3 3 J<|y0 J (o6 (cs:=[.L b6.Pv a0.S.S.o8,.I a0.S.S.Last,.I a0.S.Serial,.L iF a0.Roots,.L c9.Pv a0.o8,.L a8.Pv a0.T,.L k8.Pv a0.Q.L,.I a0.Q.Cap,.I a1.Kind,.I a1.A,.I a1.B,.I a1.C]) J b3O b31 J J J) ?_;obtain⟨v3,hv3,h⟩:=a1l h;obtain⟨n4,he4,hk5,hp6⟩:=b0P hv3;refine E1 (b42 30 J he4)<|yc J (a6K J hk5 J hp6)<|S2 6 J<|c5<|S4 2 J ?_;refine cN h (λhc h=>?_) λhc h=>?_
   ·refine S4 5 J ?_;refine a7 ?_;cases h;exact⟨J,[_,_,_],⟨oL J J J o5 l4 nl J,⟨J,⟨J,tr⟩⟩⟩,J,io⟩
   ·refine b5 ?_;refine S3 1 J<|cF h N5 J J λv5 _ h=>S2 2 J<|dr [] p7 (by kernel_rfl) (by kernel_rfl)<|S7 4 J<|r9 h λv6 hv8 h=>d2 J (H3 J a5e J hv8) J<|x4 (x':=a6.Pv v5) (cl':=true) J J (.inr J) l4<|S8 2 J<|a7 ?_;cases h;exact⟨J,[_,_,_],⟨oL J J J o5 l4 nl J,⟨J,⟨J,tr⟩⟩⟩,J,io⟩

theorem a8c{a0}:PO Tryz.prog 395 [b8.Pv a0] (a4F a0) λr=>.fn (.func 406) [.rptr (b8.Pc r)]:=by
 refine pO Tryz.func395 λr h _ _=>?_;unfold a4F at h;refine S4 2 J<|S4 2 J<|a7 ?_;cases h;exact f1

theorem a6l{a0 a1}:PO Tryz.prog 378 [b8.Pv a0,.I a1] (a7B a0 a1) λr=>.L iF r:=by
 refine pO Tryz.func378 λr h _ _=>?_;refine S4 2 J<|S3 2 J<|cF h u5 J J λv1 _ h=>S2 6 J<|S3 2 J<|cF h a5p J J λv2 _ h=>S2 1 J<|a7 ?_;cases h;exact f1

theorem b0X{a0 a1}:PO Tryz.prog 381 [b8.Pv a0,.I a1] (b1C a0 a1) λr=>.I r:=by
 refine pO Tryz.func381 λr h _ _=>?_;refine S4 3 J<|S4 2 J ?_;refine jq h (λj31=>St.of [(5,.ptr 2001 0 0)] [(2001,vR (.I j31) 1)]) (λj31 h=>?_) λκ30 h=>?_
 ·refine S4 2 J ?_;refine a7 ?_;cases h;exact f1
 ·refine S3 1 J ?_;refine cF h a8c J J λv32 _ h=>yN<|c6<|R6 (WPE (λl=>if l=2003 then 5 else if l=2004 then 3 else l) [(3,.ptr 2004 0 0),(5,.ptr 2003 0 0),(9,.fn (.func 406) [.rptr (b8.Pc v32)])] [(2003,vR (.I 0) 1),(2004,vR (.I a1) 1)]) ?_;refine U4 (fn:=Tryz.f406) (N1:=29) J Tryz.func406 J J nl J b3K J J (λl33 e34 o35 hR36=>?_);refine a7z<|c5<|a7y<|S3 1 J<|cF h D4 J J λv33 _ h=>nL J j1<|S2 1 J<|c6<|lq h (λq=>St.of [(1000003,.ptr 2004 0 0),(1000005,.ptr 2003 0 0),(1000009,.fn (.func 406) [.rptr (b8.Pc v32)]),(0,.fn (.yield l33) []),(1,.rptr (b8.Pc v32)),(8,.L iF v33),(9,.I (v33.length:Int)),(10,.I q.1)] [(2003,vR (.I q.2) 1),(2004,vR (.I a1) 1)]) W λq38 x37 h hx40=>?_;obtain⟨s35,s36⟩:=q38;refine S4 1 J<|c5 ?_;refine cN h (λhc h=>?_) λhc h=>?_
  ·refine b5 ?_;refine jq h (λj50=>St.of [(1000003,.ptr 2004 0 0),(1000005,.ptr 2003 0 0),(1000009,.fn (.func 406) [.rptr (b8.Pc v32)]),(0,.fn (.yield l33) []),(1,.rptr (b8.Pc v32)),(8,.L iF v33),(9,.I (v33.length:Int)),(10,.I s35)] [(2003,vR (.I j50) 1),(2004,vR (.I a1) 1)]) (λj50 h=>?_) λκ49 h=>?_
   ·refine S6 2 J ?_;exact eL h W
   ·refine c6 ?_;refine sR<|iL h J J j1 l7 λv51 _ h=>S2 2 J<|S3 2 J<|cF h a6l J J λv52 _ h=>nL J j1<|S2 1 J<|c6<|lq h (λq=>St.of [(1000003,.ptr 2004 0 0),(1000005,.ptr 2003 0 0),(1000009,.fn (.func 406) [.rptr (b8.Pc v32)]),(0,.fn (.yield l33) []),(1,.rptr (b8.Pc v32)),(4,.I v51),(8,.L iF v33),(9,.I (v33.length:Int)),(10,.I s35),(16,.L iF v52),(17,.I (v52.length:Int)),(18,.I q.1)] [(2003,vR (.I q.2) 1),(2004,vR (.I a1) 1)]) W λq57 x56 h hx56=>?_;obtain⟨s54,s55⟩:=q57;refine S4 1 J<|c5 ?_;refine cN h (λhc h=>?_) λhc h=>?_
    ·refine b5 ?_;refine c5<|c6<|sR<|iL h J J j1 l7 λv58 _ h=>S2 2 J<|S3 3 J<|E1 (WE [(1000003,.ptr 2004 0 0),(1000005,.ptr 2003 0 0),(1000009,.fn (.func 406) [.rptr (b8.Pc v32)]),(0,.fn (.yield l33) []),(1,.rptr (b8.Pc v32)),(4,.I v51),(8,.L iF v33),(9,.I (v33.length:Int)),(10,.I s35),(16,.L iF v52),(17,.I (v52.length:Int)),(18,.I s54),(22,.fn (.yield l33) []),(23,.I v51),(24,.I v58)] [(2003,vR (.I s55) 1),(2004,vR (.I a1) 1)]) ?_;refine a2p hR36 J J J J J J (λe58 o59 o60=>?_);refine S6 1 J ?_;refine⟨J,?_⟩;refine jqE h (λj60=>St.of [(2000003,.ptr 2004 0 0),(2000005,.ptr 2003 0 0),(2000009,.fn (.func 406) [.rptr (b8.Pc v32)]),(1000000,.fn (.yield l33) []),(1000001,.rptr (b8.Pc v32)),(1000004,.I v51),(1000008,.L iF v33),(1000009,.I (v33.length:Int)),(1000010,.I s35),(1000016,.L iF v52),(1000017,.I (v52.length:Int)),(1000018,.I s54),(1000022,.fn (.yield l33) []),(1000023,.I v51),(1000024,.I v58)] [(2003,vR (.I j60) 1),(2004,vR (.I a1) 1)]) (λj60 h=>?_) λκ59 h=>?_
     ·refine⟨J,?_⟩;refine E1 (WE [(1000003,.ptr 2004 0 0),(1000005,.ptr 2003 0 0),(1000009,.fn (.func 406) [.rptr (b8.Pc v32)]),(0,.fn (.yield l33) []),(1,.rptr (b8.Pc v32)),(4,.I v51),(8,.L iF v33),(9,.I (v33.length:Int)),(10,.I s35),(16,.L iF v52),(17,.I (v52.length:Int)),(18,.I s54),(25,.bool true)] [(2003,vR (.I j60) 1),(2004,vR (.I a1) 1)])<|S2 1 J ?_;refine y7 false J (λq=>nomatch q) (λ_=>?_);refine b5<|S6 2 J ?_;exact eL h W
     ·refine c6 ?_;refine S4 3 J ?_;refine cN h (λhc h=>?_) λhc h=>?_
      ·refine S6 3 J ?_;exact eJ h W
      ·refine b5 ?_;exact eJ h W
    ·refine o9 ?_;refine c4<|c4<|j7 ?_;have h:=xL hx56 h;exact eJ h W
  ·refine o9 ?_;refine c4<|c4<|j7<|a8d ?_;refine .inl ⟨J,?_⟩;have h:=xL hx40 h;exact eJ h (WP (λl=>if l=2001 then 2003 else l))

theorem a2S{a0}:PO Tryz.prog 397 [.L a8.Pv a0] (a0N a0) λr=>.fn (.func 407) [.rptr [.L a8.Pv r]]:=by
 refine pO Tryz.func397 λr h _ _=>?_;unfold a0N at h;refine S4 2 J<|S4 2 J<|a7 ?_;cases h;exact f1

theorem a48{a0}:PO Tryz.prog 408 [.L a8.Pv a0] (a5F a0) λr=>.L iF r:=by
 refine pO Tryz.func408 λr h _ _=>?_;refine S4 1 J<|S4 1 J ?_;refine jq h (λj13=>St.of [(3,.sl 910003)] [(910003,⟨List.map iF j13,(List.map iF j13).length,true,1,true⟩)]) (λj13 h=>?_) λκ12 h=>?_
 ·refine S4 2 J ?_;refine a7 ?_;cases h;exact f1
 ·refine S3 1 J ?_;refine nL J Q1<|S2 1 J<|c6<|lq h (λq=>St.of [(3,.sl 910003),(6,.L a8.Pv a0),(7,.I (a0.length:Int)),(8,.I q.1)] [(910003,⟨List.map iF q.2,(List.map iF q.2).length,true,1,true⟩)]) (Wk.trans (J0 (t:=3) (l:=920003) (z:=1) J J) (WP (λl=>if l=910003 then 920003 else l))) λq18 x17 h hx12=>?_;obtain⟨s15,s16⟩:=q18;refine S4 1 J<|c5 ?_;refine cN h (λhc h=>?_) λhc h=>?_
  ·refine b5 ?_;refine jq h (λj22=>St.of [(3,.sl 19),(6,.L a8.Pv a0),(7,.I (a0.length:Int)),(8,.I s15)] [(19,⟨List.map iF j22,(List.map iF j22).length,true,1,true⟩)]) (λj22 h=>?_) λκ21 h=>?_
   ·refine S6 2 J ?_;exact eL h (Wk.trans (l6 _ [19]) (WP (λl=>if l=910003 then 19 else l)))
   ·refine c6 ?_;refine sR<|iL h J J Q1 P8 λv23 _ h=>S2 3 J<|S4 3 J ?_;refine cN h (λhc h=>?_) λhc h=>?_
    ·refine S5 3 J ?_;refine y0 J (J2 (f:=iF) (l:=[v23.Key]) J j1 l7 y9 J J nl J J)<|r9 h λv24 hv17 h=>N9 J (L5 (f:=iF) hv17 J J J J J J (.inl ⟨_,J,J⟩) j1 l7 J3 y9 J (λ_=>J)) J J J<|S2 1 J ?_;exact eJ h (Wk.trans (l6 _ [19]) W)
    ·refine b5 ?_;exact eJ h (Wk.trans (l6 _ [910003]) (WP (λl=>if l=19 then 910003 else l)))
  ·refine o9 ?_;refine c4<|c4<|j7 ?_;have h:=xL hx12 h;exact eJ h (Wk.trans (l6 _ [910003]) W)

theorem a5y{a0 a1}:PO Tryz.prog 398 [j8.Pv a0,.rptr [.I a1]] (a09 a0 a1) λr=>.bool r:=by
 refine pO Tryz.func398 λr h _ _=>?_;unfold a09 at h;refine S4 2 J<|S3 3 J<|k9 J (λhg=>oF J a8n J)<|k9 J (λhg=>oS (ct hg) J J G0 J)<|k9 J (λhg=>C6 J G0 J)<|k9 J (λhg=>A0 (ct hg) (ct hg) J)<|y0 J (A3 J J J (λq=>eqT q))<|S2 1 J<|a7 ?_;cases h;exact f1

theorem C7{a0 a1}:PO Tryz.prog 396 [.fn (.func 407) [.rptr [.L a8.Pv a0]],.fn (.func 398) [.rptr [.I a1]]] (x6 a0 a1) λr=>.L j8.Pv r:=by
 refine pO Tryz.func396 λr h _ _=>?_;refine S4 2 J<|S4 1 J ?_;refine jq h (λj16=>St.of [(5,.ptr 2001 0 0)] [(2001,vS (.sl 912501) 1),(912501,⟨List.map j8.Pv j16,(List.map j8.Pv j16).length,true,2,true⟩)]) (λj16 h=>?_) λκ15 h=>?_
 ·refine S4 2 J ?_;refine a7 ?_;cases h;exact f1
 ·refine S4 1 J ?_;refine c6<|R6 (WPE (λl=>if l=2012 then 5 else if l=2013 then 3 else l) [(3,.ptr 2013 0 0),(5,.ptr 2012 0 0),(7,.fn (.func 407) [.rptr [.L a8.Pv a0]])] [(2012,vR (.nl) 1),(2013,vR (.fn (.func 398) [.rptr [.I a1]]) 1)]) ?_;refine U4 (fn:=Tryz.f407) (N1:=27) J Tryz.func407 J J nl J b1g J J (λl20 e21 o22 hR23=>?_);refine S3 1 J<|cF h a48 J J λv17 _ h=>nL J j1<|S2 1 J<|c6<|lq h (λq=>St.of [(1000003,.ptr 2013 0 0),(1000005,.ptr 2012 0 0),(1000007,.fn (.func 407) [.rptr [.L a8.Pv a0]]),(0,.fn (.yield l20) []),(1,.rptr [.L a8.Pv a0]),(8,.L iF v17),(9,.I (v17.length:Int)),(10,.I q.1)] [(2012,vS (.sl 912512) 1),(2013,vR (.fn (.func 398) [.rptr [.I a1]]) 1),(912512,⟨List.map j8.Pv q.2,(List.map j8.Pv q.2).length,true,2,true⟩)]) (Wk.trans (a6S (l0:=2012) (j:=0) (l:=922512) (z:=2) J J J J J) (WP (λl=>if l=912512 then 922512 else l))) λq22 x21 h hx27=>?_;obtain⟨s19,s20⟩:=q22;refine S4 1 J<|c5 ?_;refine cN h (λhc h=>?_) λhc h=>?_
  ·refine b5 ?_;refine c5<|c6<|sR<|iL h J J j1 l7 λv23 _ h=>S2 2 J<|S3 2 J<|cA h a0O J J λv24 _ h=>S2 5 J<|S3 3 J<|y0 J (o6 (cs:=[.I v23,.I v24.1]) J b1j a3y J J J)<|E1 (WPE (λl=>if l=2021 then 912512 else l) [(1000003,.ptr 2013 0 0),(1000005,.ptr 2012 0 0),(1000007,.fn (.func 407) [.rptr [.L a8.Pv a0]]),(0,.fn (.yield l20) []),(1,.rptr [.L a8.Pv a0]),(8,.L iF v17),(9,.I (v17.length:Int)),(10,.I s19),(20,.fn (.yield l20) []),(23,.agg [.I v23,.I v24.1])] [(2012,vS (.sl 2021) 1),(2021,⟨List.map j8.Pv s20,(List.map j8.Pv s20).length,true,2,true⟩),(2013,vR (.fn (.func 398) [.rptr [.I a1]]) 1)]) ?_;refine a2p hR23 J J J J J J (λe30 o31 o32=>?_);refine S6 2 J ?_;refine⟨J,?_⟩;refine jqE h (λj28=>St.of [(2000003,.ptr 2013 0 0),(2000005,.ptr 2012 0 0),(2000007,.fn (.func 407) [.rptr [.L a8.Pv a0]]),(1000000,.fn (.yield l20) []),(1000001,.rptr [.L a8.Pv a0]),(1000008,.L iF v17),(1000009,.I (v17.length:Int)),(1000010,.I s19),(1000020,.fn (.yield l20) []),(1000023,.agg [.I v23,.I v24.1])] [(2012,vS (.sl 15) 1),(15,⟨List.map j8.Pv j28,(List.map j8.Pv j28).length,true,2,true⟩),(2013,vR (.fn (.func 398) [.rptr [.I a1]]) 1)]) (λj28 h=>?_) λκ27 h=>?_
   ·refine⟨J,?_⟩;refine E1 (WPE (λl=>if l=2022 then 15 else l) [(1000003,.ptr 2013 0 0),(1000005,.ptr 2012 0 0),(1000007,.fn (.func 407) [.rptr [.L a8.Pv a0]]),(0,.fn (.yield l20) []),(1,.rptr [.L a8.Pv a0]),(8,.L iF v17),(9,.I (v17.length:Int)),(10,.I s19),(24,.bool true)] [(2012,vS (.sl 2022) 1),(2022,⟨List.map j8.Pv j28,(List.map j8.Pv j28).length,true,2,true⟩),(2013,vR (.fn (.func 398) [.rptr [.I a1]]) 1)])<|S2 1 J ?_;refine y7 false J (λq=>nomatch q) (λ_=>?_);refine b5<|S6 2 J ?_;exact eL h (Wk.trans (l6 _ [2022]) (WP (λl=>if l=912512 then 2022 else l)))
   ·refine c6 ?_;refine S3 2 J<|cA h a5y J J λv29 _ h=>yN ?_;refine cN h (λhc h=>?_) λhc h=>?_
    ·refine S5 2 J ?_;refine y0 J (J2 (f:=j8.Pv) (l:=[(⟨v23,v24.1⟩:j8)]) J a1I a4O a3y J J nl J J)<|r9 h λv30 hv37 h=>N9 J (L5 (f:=j8.Pv) hv37 J J J J J J (.inl ⟨_,J,J⟩) a1I a4O b1c a3y J (λ_=>J)) J J J<|S2 1 J ?_;exact eJ h (Wk.trans (l6 _ [15]) W)
    ·refine b5 ?_;exact eJ h (Wk.trans (l6 _ [2021]) (WP (λl=>if l=15 then 2021 else l)))
  ·refine o9 ?_;refine c4<|c4<|j7 ?_;refine .inl ⟨J,?_⟩;have h:=xL hx27 h;exact eJ h (Wk.trans (l6 _ [912512]) (WP (λl=>if l=2001 then 2012 else if l=912501 then 912512 else l)))

theorem a7c{a0 a1}:PO Tryz.prog 382 [.L a8.Pv a0,.I a1] (a6b a0 a1) λr=>.I r:=by
 refine pO Tryz.func382 λr h _ _=>?_;refine S4 2 J<|S3 1 J<|cF h a2S J J λv1 _ h=>S1 1 J<|r9 h λv2 hv2 h=>ycL J (u9 J C7 J hv2) J<|nL J a1I<|S2 1 J<|a7 ?_;cases h;exact f1

theorem a7N{a0 a1 a2}:PO Tryz.prog 341 [b8.Pv a0,.L a8.Pv a1,.I a2] (a6p a0 a1 a2) λr=>.I r:=by
 refine pO Tryz.func341 λr h _ _=>?_;refine S4 2 J<|S3 2 J<|cA h b0X J J λv1 _ h=>S1 2 J<|cA h a7c J J λv2 _ h=>S2 2 J<|a7 ?_;cases h;exact f1

theorem a8h{a0 a1 a2}:PO Tryz.prog 285 [b8.Pv a0,.L a8.Pv a1,.I a2] (a7O a0 a1 a2) λr=>.I r:=by
 refine pO Tryz.func285 λr h _ _=>?_;refine S4 2 J<|S3 2 J<|cF h u5 J J λv1 _ h=>S2 6 J<|c5<|S4 2 J ?_;refine cN h (λhc h=>?_) λhc h=>?_
 ·refine S4 1 J ?_;refine a7 ?_;cases h;exact f1
 ·refine b5 ?_;refine dr [] p7 (by kernel_rfl) (by kernel_rfl)<|S7 5 J<|r9 h λv2 hv2 h=>d2 J (H3 J a7N J hv2) J<|S8 2 J<|a7 ?_;cases h;exact f1

theorem a61{a0}:PO Tryz.prog 286 [.I a0] (a52 a0) λr=>.bool r:=by
 refine pO Tryz.func286 λr h _ _=>?_;refine S4 1 J<|S3 1 J<|cA h L9 J J λv1 _ h=>S2 1 J<|a7 ?_;cases h;exact f1

theorem a6C{a0 a1 a2 a3}:PO Tryz.prog 284 [.I a0,p8.Pv a1,.rptr (b8.Pc a2),.rptr [.L a8.Pv a3]] (a5n a0 a1 a2 a3) λr=>.bool r:=by
 refine pO Tryz.func284 λr h _ _=>?_;refine S4 2 J<|S3 3 J<|cA h a8h J J λv1 _ h=>S1 2 J<|k9 J (λhg=>oF J b1K J)<|k9 J (λhg=>oS (ct hg) J J G0 J)<|r9 h λv2 hv2 h=>k9 J (λhg=>H3 J a61 (a0o (ct hg) J) (L6 hv2 hg))<|y0 J (D8 J J J (λq=>eqF q))<|S2 1 J<|a7 ?_;cases h;exact f1

theorem a8g{a0 a1}:PO Tryz.prog 199 [b8.Pv a0,.L a8.Pv a1] (a7M a0 a1) λr=>.L iF r:=by
 refine pO Tryz.func199 λr h _ _=>?_;refine S4 3 J<|S3 1 J<|y0 J (o6 (cs:=[.fn (.func 284) [.ptr 2 0 0,.ptr 3 0 0]]) J b3T b36 J J J)<|E1 (a2C 7 (d':=.agg [.fn (.func 284) [.ptr 2 0 0,.ptr 3 0 0]]) J)<|S2 2 J<|S3 2 J<|E1 (WPE (λl=>if l=2001 then 3 else if l=2002 then 2 else l) [(8,.agg [.fn (.func 284) [.ptr 2002 0 0,.ptr 2001 0 0]]),(9,b8.Pv a0)] [(2001,vR (.L a8.Pv a1) 1),(2002,vR (b8.Pv a0) 3)]) ?_;refine a8Q (fn:=Tryz.f287) (N1:=34) J J Tryz.func287 J b3G J J nl (λe1 o2=>?_);refine jqR h (λj36=>St.of [(1000008,.agg [.fn (.func 284) [.ptr 2002 0 0,.ptr 2001 0 0]]),(1000009,b8.Pv a0),(4,.sl 910005)] [(910005,⟨List.map iF j36,(List.map iF j36).length,true,1,true⟩),(2001,vR (.L a8.Pv a1) 1),(2002,vR (b8.Pv a0) 3)]) (λj36 h=>dup ?_) λκ35 h=>?_
 ·refine⟨J,[.sl 910005],⟨J,tr⟩,?_⟩;refine E1 (WPE (λl=>if l=2003 then 910005 else l) [(10,.sl 2003)] [(2003,⟨List.map iF j36,(List.map iF j36).length,true,1,true⟩)])<|S2 1 J<|a7 ?_;cases h;exact f1
 ·refine S4 3 J ?_;refine S4 1 J ?_;refine jq h (λj54=>St.of [(1000008,.agg [.fn (.func 284) [.ptr 2002 0 0,.ptr 2001 0 0]]),(1000009,b8.Pv a0),(5,.sl 910005)] [(910005,⟨List.map iF j54,(List.map iF j54).length,true,1,true⟩),(2001,vR (.L a8.Pv a1) 1),(2002,vR (b8.Pv a0) 3)]) (λj54 h=>?_) λκ53 h=>?_
  ·refine S4 2 J ?_;refine a7 ?_;exact eJ h (Wk.trans (l6 _ [910005]) W)
  ·refine S3 1 J ?_;refine cF h D4 J J λv55 _ h=>nL J j1<|S2 1 J<|c6<|lq h (λq=>St.of [(1000008,.agg [.fn (.func 284) [.ptr 2002 0 0,.ptr 2001 0 0]]),(1000009,b8.Pv a0),(2,.ptr 2 0 0),(3,.ptr 3 0 0),(5,.sl 910005),(11,.L iF v55),(12,.I (v55.length:Int)),(13,.I q.1)] [(3,vR (b8.Pv a0) 3),(2,vS (.agg [.fn (.func 284) [.ptr 2002 0 0,.ptr 2001 0 0]]) 1),(2001,vR (.L a8.Pv a1) 1),(2002,vR (b8.Pv a0) 3),(910005,⟨List.map iF q.2,(List.map iF q.2).length,true,1,true⟩)]) (Wk.trans (J0 (t:=5) (l:=920005) (z:=1) J J) (WP (λl=>if l=910005 then 920005 else l))) λq60 x59 h hx48=>?_;obtain⟨s57,s58⟩:=q60;refine S4 1 J<|c5 ?_;refine cN h (λhc h=>?_) λhc h=>?_
   ·refine b5 ?_;refine jq h (λj66=>St.of [(1000008,.agg [.fn (.func 284) [.ptr 2002 0 0,.ptr 2001 0 0]]),(1000009,b8.Pv a0),(2,.ptr 2 0 0),(3,.ptr 3 0 0),(5,.sl 31),(11,.L iF v55),(12,.I (v55.length:Int)),(13,.I s57)] [(31,⟨List.map iF j66,(List.map iF j66).length,true,1,true⟩),(3,vR (b8.Pv a0) 3),(2,vS (.agg [.fn (.func 284) [.ptr 2002 0 0,.ptr 2001 0 0]]) 1),(2001,vR (.L a8.Pv a1) 1),(2002,vR (b8.Pv a0) 3)]) (λj66 h=>?_) λκ65 h=>?_
    ·refine S6 2 J ?_;exact eL h (Wk.trans (l6 _ [31]) (WP (λl=>if l=910005 then 31 else l)))
    ·refine c6 ?_;refine sR<|iL h J J j1 l7 λv67 _ h=>S2 2 J<|S3 2 J<|cF h u5 J J λv68 _ h=>S2 6 J<|S3 4 J<|cA h a6C J J λv69 _ h=>yN ?_;refine cN h (λhc h=>?_) λhc h=>?_
     ·refine S5 2 J ?_;refine y0 J (J2 (f:=iF) (l:=[v67]) J j1 l7 y9 J J nl J J)<|r9 h λv70 hv57 h=>N9 J (L5 (f:=iF) hv57 J J J J J J (.inl ⟨_,J,J⟩) j1 l7 J3 y9 J (λ_=>J)) J J J<|S2 1 J ?_;exact eJ h (Wk.trans (l6 _ [31]) W)
     ·refine b5 ?_;exact eJ h (Wk.trans (l6 _ [910005]) (WP (λl=>if l=31 then 910005 else l)))
   ·refine o9 ?_;refine c4<|c4<|j7 ?_;have h:=xL hx48 h;exact eJ h (Wk.trans (l6 _ [910005]) W)

theorem a5O{a0}:PO Tryz.prog 372 [.I a0] (a1f a0) λr=>e8.Pv r:=by
 refine pO Tryz.func372 λr h _ _=>?_;unfold a1f at h;refine S4 1 J<|S3 1 J<|y0 J (o6 (cs:=[.nl,.I a0]) J b3V b38 J J J)<|a3u (x':=.agg [.nl,.I a0]) (cl':=true) J J (.inl J) a0L<|yN<|a7 ?_;cases h;exact⟨J,[_],⟨oL J J J a3v a0L nl J,tr⟩,J,io⟩

theorem a2y{a0 a1}:PO Tryz.prog 374 [b8.Pv a0,.I a1] (a2a a0 a1) λr=>.bool r:=by
 refine pO Tryz.func374 λr h _ _=>?_;refine S4 2 J<|S3 2 J<|cF h u5 J J λv1 _ h=>S2 6 J<|S4 3 J<|a7 ?_;cases h;exact f1

theorem I8{a0}:PO Tryz.prog 376 [e8.Pv a0] (P2 a0) λr=>.I r:=by
 refine pO Tryz.func376 λr h _ _=>?_;unfold P2 at h;refine S4 2 J<|S3 2 J<|nL J j1<|S2 1 J<|a7 ?_;cases h;exact f1

theorem U6{a0 a1 a2}:PO Tryz.prog 390 [.L iF a0,.I a1,.I a2] (M2 a0 a1 a2) λr=>.lst true (List.map iF r):=by
 refine pO Tryz.func390 λr h _ _=>?_;unfold M2 at h;refine S4 1 J<|S3 4 J<|r9 h λv1 hv1 h=>y0 J (b2O (f:=iF) hv1 J ⟨_,J⟩ ⟨_,J⟩ ⟨_,J⟩ J J j1 l7 (λ_=>J))<|S2 1 J<|a7 ?_;cases h;exact f1

theorem a0W{a0 a1}:PO Tryz.prog 375 [e8.Pv a0,.I a1] (U5 a0 a1) λr=>.tup [e8.Pv r.1,.I r.2]:=by
 refine pO Tryz.func375 λr h _ _=>?_;unfold U5 at h;refine S4 3 J<|c5<|dr [] p7 (by kernel_rfl) (by kernel_rfl)<|S7 1 J<|r9 h λv1 hv1 h=>d2 J (H3 J I8 J hv1) J<|S8 3 J ?_;refine cN h (λhc h=>?_) λhc h=>?_
 ·refine S4 3 J ?_;refine a7 ?_;cases h;exact⟨J,[_,_],⟨oL J J J a3v a0L nl J,⟨J,tr⟩⟩,J,io⟩
 ·refine b5 ?_;refine dr [] p7 (by kernel_rfl) (by kernel_rfl)<|S7 3 J<|d2 J (H3 J I8 J hv1) J<|r9 h λv2 hv2 h=>d2f J (u9 J U6 J hv2) J<|S7 1 J<|d1n J (J2 (f:=iF) (l:=[a1]) J j1 l7 y9 J J nl J J) J<|r9 h λv3 hv3 h=>d3 J (b0c (f:=iF) hv3 J J (.inl ⟨_,J,J⟩) j1 l7 J3 y9 J (λ_=>J)) J J J<|S7 1 J<|x4 (x':=.agg [.sl 19,.I a0.Cap]) (cl':=false) J J (.inl J) a6W<|R3<|S4 3 J<|a7 ?_;cases h;exact⟨J,[_,_],⟨oL J J J a3v a0L nl J,⟨J,tr⟩⟩,J,io⟩

theorem a4C{a0 a1}:PO Tryz.prog 391 [e8.Pv a0,.I a1] (a2x a0 a1) λr=>.tup [e8.Pv r.1,.L iF r.2]:=by
 refine pO Tryz.func391 λr h _ _=>?_;refine S4 3 J<|S3 2 J<|cA h I8 J J λv1 hv1 h=>y0 J (b4X J J J)<|y0 J (b1v J J J)<|S2 1 J<|S3 3 J<|cF h U6 J J λv2 _ h=>S2 1 J<|dr [] p7 (by kernel_rfl) (by kernel_rfl)<|S7 4 J<|d2 J (H3 J I8 J hv1) J<|r9 h λv3 hv3 h=>d2f J (u9 J U6 J hv3) J<|S7 1 J<|x4 (x':=.agg [.L iF v3,.I a0.Cap]) (cl':=true) J J (.inr J) a6W<|R3<|S4 4 J<|a7 ?_;cases h;exact⟨J,[_,_],⟨oL J J J a3v a0L nl J,⟨J,tr⟩⟩,J,io⟩

theorem a5P{a0}:PO Tryz.prog 377 [e8.Pv a0] (a4b a0) λr=>.tup [e8.Pv r.1,.I r.2.1,.I r.2.2]:=by
 refine pO Tryz.func377 λr h _ _=>?_;refine S4 4 J<|S3 1 J<|cF h a4C J J λv1 _ h=>S2 6 J<|c5<|S3 1 J<|nL J j1<|S2 1 J ?_;refine cN h (λhc h=>?_) λhc h=>?_
 ·refine S4 1 J ?_;refine S4 5 J<|a7 ?_;cases h;exact⟨J,[_,_,_],⟨oL J J J a3v a0L nl J,⟨J,⟨J,tr⟩⟩⟩,J,io⟩
 ·refine b5 ?_;refine dr [2,3] p7 (by kernel_rfl) (by kernel_rfl)<|S7 2 J<|r9 h λv2 hv2 h=>d7 J (λ_ hN=>B4 (f:=iF) (cs:=[.I v2]) hv2 J J j1 l7 J J) J<|d7 J (λ_ hN=>C6 J G0 J) J<|x4 (x':=e8.Pv v1.1) (cl':=true) J J (.inr J) a0L<|S8 2 J<|a7 ?_;cases h;exact⟨J,[_,_,_],⟨oL J J J a3v a0L nl J,⟨J,⟨J,tr⟩⟩⟩,J,io⟩

theorem a2z{a0 a1}:PO Tryz.prog 337 [b8.Pv a0,.L iF a1] (a2b a0 a1) λr=>.abs (I0 (List.map (ent iF PV.bool) r)):=by
 refine pO Tryz.func337 λr h _ _=>?_;refine S4 2 J<|sR<|a8R (KT:=Int) (VT:=Bool) (EK:=iF) (E:=PV.bool) 5000009 J J<|S2 2 J<|S3 1 J<|cF h D4 J J λv1 _ h=>nL J j1<|cF h a5O J J λv2 _ h=>S2 2 J<|S4 2 J<|S3 2 J<|E1 (WPE (λl=>if l=2001 then 6 else if l=2002 then 5 else if l=2003 then 2 else if l=5002004 then 5000009 else l) [(2,.ptr 2003 0 0),(5,.ptr 2002 0 0),(6,.ptr 2001 0 0),(7,.fn (.func 373) [.ptr 2003 0 0,.ptr 2002 0 0,.ptr 2001 0 0]),(15,.fn (.func 373) [.ptr 2003 0 0,.ptr 2002 0 0,.ptr 2001 0 0]),(16,.L iF a1)] [(2001,vR (e8.Pv v2) 2),(2002,vS (.mp 5002004) 1),(5002004,⟨[.mapc (List.map (ent iF PV.bool) [])],0,false,0,false⟩),(2003,vR (b8.Pv a0) 3)]) ?_;refine a8Q (fn:=Tryz.f373) (N1:=31) J J Tryz.func373 J b1f J J nl (λe3 o4=>?_);refine jqR h (λq=>St.of [(1000002,.ptr 2003 0 0),(1000005,.ptr 2002 0 0),(1000006,.ptr 2001 0 0),(1000007,.fn (.func 373) [.ptr 2003 0 0,.ptr 2002 0 0,.ptr 2001 0 0]),(1000015,.fn (.func 373) [.ptr 2003 0 0,.ptr 2002 0 0,.ptr 2001 0 0]),(1000016,.L iF a1)] [(2001,vR (e8.Pv q.1) 2),(2002,vS (.mp 5002004) 1),(5002004,⟨[.mapc (List.map (ent iF PV.bool) q.2)],0,false,0,false⟩),(2003,vR (b8.Pv a0) 3)]) (λq22 h=>dup ?_) λκ19 h=>?_
 ·obtain⟨j20,j21⟩:=q22;refine⟨J,[],tr,?_⟩;refine E1 (WE [(2,.ptr 2003 0 0),(5,.ptr 2002 0 0),(6,.ptr 2001 0 0),(7,.fn (.func 373) [.ptr 2003 0 0,.ptr 2002 0 0,.ptr 2001 0 0])] [(2001,vR (e8.Pv j20) 2),(2002,vS (.mp 5002004) 1),(5002004,⟨[.mapc (List.map (ent iF PV.bool) j21)],0,false,0,false⟩),(2003,vR (b8.Pv a0) 3)])<|yN ?_;refine jq h (λj68=>St.of [(5,.ptr 2002 0 0)] [(2002,vS (.mp 5002004) 1),(5002004,⟨[.mapc (List.map (ent iF PV.bool) j68)],0,false,0,false⟩)]) (λj68 h=>?_) λκ67 h=>?_
  ·refine S4 2 J ?_;refine R6 (a9D 4 5002004 J J)<|a7 ?_;cases h;exact f1
  ·refine c6 ?_;refine lq h (λq=>St.of [(2,.ptr 2003 0 0),(5,.ptr 2002 0 0),(6,.ptr 2001 0 0),(7,.fn (.func 373) [.ptr 2003 0 0,.ptr 2002 0 0,.ptr 2001 0 0])] [(2001,vR (e8.Pv q.1) 2),(2002,vS (.mp 5002004) 1),(5002004,⟨[.mapc (List.map (ent iF PV.bool) q.2)],0,false,0,false⟩),(2003,vR (b8.Pv a0) 3)]) W λq73 x72 h hx54=>?_;obtain⟨s70,s71⟩:=q73;refine c5<|S3 1 J<|cA h I8 J J λv74 _ h=>S2 1 J ?_;refine cN h (λhc h=>?_) λhc h=>?_
   ·refine b5 ?_;refine c6<|S4 1 J<|S3 1 J<|cF h a5P J J λv75 _ h=>S2 6 J<|S5 3 J<|cF h a6l J J λv76 _ h=>E1 (WE [(2,.ptr 2003 0 0),(5,.ptr 2002 0 0),(6,.ptr 2001 0 0),(7,.fn (.func 373) [.ptr 2003 0 0,.ptr 2002 0 0,.ptr 2001 0 0]),(27,.fn (.func 373) [.ptr 2003 0 0,.ptr 2002 0 0,.ptr 2001 0 0]),(30,.L iF v76)] [(2001,vR (e8.Pv v75.1) 2),(2002,vS (.mp 5002004) 1),(5002004,⟨[.mapc (List.map (ent iF PV.bool) s71)],0,false,0,false⟩),(2003,vR (b8.Pv a0) 3)]) ?_;refine a8Q (fn:=Tryz.f373) (N1:=31) J J Tryz.func373 J b1f J J nl (λe58 o59=>?_);refine jqR h (λq=>St.of [(1000002,.ptr 2003 0 0),(1000005,.ptr 2002 0 0),(1000006,.ptr 2001 0 0),(1000007,.fn (.func 373) [.ptr 2003 0 0,.ptr 2002 0 0,.ptr 2001 0 0]),(1000027,.fn (.func 373) [.ptr 2003 0 0,.ptr 2002 0 0,.ptr 2001 0 0]),(1000030,.L iF v76)] [(2001,vR (e8.Pv q.1) 2),(2002,vS (.mp 5002004) 1),(5002004,⟨[.mapc (List.map (ent iF PV.bool) q.2)],0,false,0,false⟩),(2003,vR (b8.Pv a0) 3)]) (λq96 h=>dup ?_) λκ93 h=>?_
    ·obtain⟨j94,j95⟩:=q96;refine⟨J,[],tr,?_⟩;refine E1 (WE [(2,.ptr 2003 0 0),(5,.ptr 2002 0 0),(6,.ptr 2001 0 0),(7,.fn (.func 373) [.ptr 2003 0 0,.ptr 2002 0 0,.ptr 2001 0 0])] [(2001,vR (e8.Pv j94) 2),(2002,vS (.mp 5002004) 1),(5002004,⟨[.mapc (List.map (ent iF PV.bool) j95)],0,false,0,false⟩),(2003,vR (b8.Pv a0) 3)])<|yN ?_;exact eL h W
    ·refine S3 1 J ?_;refine nL J j1<|S2 1 J<|c6<|lq h (λq=>St.of [(1000002,.ptr 2003 0 0),(1000005,.ptr 2002 0 0),(1000006,.ptr 2001 0 0),(1000007,.fn (.func 373) [.ptr 2003 0 0,.ptr 2002 0 0,.ptr 2001 0 0]),(1000027,.fn (.func 373) [.ptr 2003 0 0,.ptr 2002 0 0,.ptr 2001 0 0]),(1000030,.L iF v76),(1,.ptr 2003 0 0),(2,.ptr 2002 0 0),(3,.ptr 2001 0 0),(7,.L iF v76),(8,.I (v76.length:Int)),(9,.I q.1)] [(2001,vR (e8.Pv q.2.1) 2),(2002,vS (.mp 5002004) 1),(5002004,⟨[.mapc (List.map (ent iF PV.bool) q.2.2)],0,false,0,false⟩),(2003,vR (b8.Pv a0) 3)]) W λq102 x101 h hx75=>?_;obtain⟨s98,s99,s100⟩:=q102;refine S4 1 J<|c5 ?_;refine cN h (λhc h=>?_) λhc h=>?_
     ·refine b5 ?_;refine jq h (λq=>St.of [(1000002,.ptr 2003 0 0),(1000005,.ptr 2002 0 0),(1000006,.ptr 2001 0 0),(1000007,.fn (.func 373) [.ptr 2003 0 0,.ptr 2002 0 0,.ptr 2001 0 0]),(1000027,.fn (.func 373) [.ptr 2003 0 0,.ptr 2002 0 0,.ptr 2001 0 0]),(1000030,.L iF v76),(1,.ptr 2003 0 0),(2,.ptr 2002 0 0),(3,.ptr 2001 0 0),(7,.L iF v76),(8,.I (v76.length:Int)),(9,.I s98)] [(2001,vR (e8.Pv q.1) 2),(2002,vS (.mp 5002004) 1),(5002004,⟨[.mapc (List.map (ent iF PV.bool) q.2)],0,false,0,false⟩),(2003,vR (b8.Pv a0) 3)]) (λq109 h=>?_) λκ106 h=>?_
      ·obtain⟨j107,j108⟩:=q109;refine S6 2 J ?_;exact eL h W
      ·refine c6 ?_;refine sR<|iL h J J j1 l7 λv110 _ h=>S2 2 J<|S3 2 J<|cA h a2y J J λv111 _ h=>S1 1 J<|k9 J (λhg=>oS J J J b08 J)<|k9 J (λhg=>mI J) ?_;rcases Bool.eq_false_or_eq_true (v111==true) with hg83 | hg83
       ·have h:=ifT h hg83;refine b3i (es:=s100) (k:=v110) (E:=PV.bool) (EK:=iF) (d:=.bool ((F7 s100 v110).getD (false:Bool))) (congrArg some hg83) (ct hg83) J (ct hg83) X0 (s6 D5) a9M J (lk1 _ _ _)<|y0 (congrArg some hg83) (a0x J J)<|y0 J (a13 J J hg83)<|yN ?_;refine cN h (λhc h=>?_) λhc h=>?_
        ·refine S3 2 J ?_;refine z7 (es:=s100) (k:=v110) (v:=true) (E:=PV.bool) (EK:=iF) (.inl J) J J J J J J X0 (s6 D5)<|yN<|S5 2 J<|cF h a0W J J λv112 _ h=>S2 4 J ?_;exact eJ h W
        ·refine b5 ?_;exact eJ h W
       ·have h:=ifF h hg83;refine R1 (congrArg some hg83)<|R1 (congrArg some hg83)<|y0 J (a3E J J hg83)<|yN ?_;refine y7 false J (λq=>nomatch q) (λ_=>?_);refine b5 ?_;exact eJ h W
     ·refine o9 ?_;refine c4<|c4<|j7 ?_;have h:=xL hx75 h;exact eJ h W
   ·refine o9 ?_;refine c4<|c4<|j7 ?_;have h:=xL hx54 h;exact eJ h W
 ·refine S3 1 J ?_;refine nL J j1<|S2 1 J<|c6<|lq h (λq=>St.of [(1000002,.ptr 2003 0 0),(1000005,.ptr 2002 0 0),(1000006,.ptr 2001 0 0),(1000007,.fn (.func 373) [.ptr 2003 0 0,.ptr 2002 0 0,.ptr 2001 0 0]),(1000015,.fn (.func 373) [.ptr 2003 0 0,.ptr 2002 0 0,.ptr 2001 0 0]),(1000016,.L iF a1),(1,.ptr 2003 0 0),(2,.ptr 2002 0 0),(3,.ptr 2001 0 0),(7,.L iF a1),(8,.I (a1.length:Int)),(9,.I q.1)] [(2001,vR (e8.Pv q.2.1) 2),(2002,vS (.mp 5002004) 1),(5002004,⟨[.mapc (List.map (ent iF PV.bool) q.2.2)],0,false,0,false⟩),(2003,vR (b8.Pv a0) 3)]) W λq118 x117 h hx87=>?_;obtain⟨s114,s115,s116⟩:=q118;refine S4 1 J<|c5 ?_;refine cN h (λhc h=>?_) λhc h=>?_
  ·refine b5 ?_;refine jq h (λq=>St.of [(1000002,.ptr 2003 0 0),(1000005,.ptr 2002 0 0),(1000006,.ptr 2001 0 0),(1000007,.fn (.func 373) [.ptr 2003 0 0,.ptr 2002 0 0,.ptr 2001 0 0]),(1000015,.fn (.func 373) [.ptr 2003 0 0,.ptr 2002 0 0,.ptr 2001 0 0]),(1000016,.L iF a1),(1,.ptr 2003 0 0),(2,.ptr 2002 0 0),(3,.ptr 2001 0 0),(7,.L iF a1),(8,.I (a1.length:Int)),(9,.I s114)] [(2001,vR (e8.Pv q.1) 2),(2002,vS (.mp 5002004) 1),(5002004,⟨[.mapc (List.map (ent iF PV.bool) q.2)],0,false,0,false⟩),(2003,vR (b8.Pv a0) 3)]) (λq125 h=>?_) λκ122 h=>?_
   ·obtain⟨j123,j124⟩:=q125;refine S6 2 J ?_;exact eL h W
   ·refine c6 ?_;refine sR<|iL h J J j1 l7 λv126 _ h=>S2 2 J<|S3 2 J<|cA h a2y J J λv127 _ h=>S1 1 J<|k9 J (λhg=>oS J J J b08 J)<|k9 J (λhg=>mI J) ?_;rcases Bool.eq_false_or_eq_true (v127==true) with hg95 | hg95
    ·have h:=ifT h hg95;refine b3i (es:=s116) (k:=v126) (E:=PV.bool) (EK:=iF) (d:=.bool ((F7 s116 v126).getD (false:Bool))) (congrArg some hg95) (ct hg95) J (ct hg95) X0 (s6 D5) a9M J (lk1 _ _ _)<|y0 (congrArg some hg95) (a0x J J)<|y0 J (a13 J J hg95)<|yN ?_;refine cN h (λhc h=>?_) λhc h=>?_
     ·refine S3 2 J ?_;refine z7 (es:=s116) (k:=v126) (v:=true) (E:=PV.bool) (EK:=iF) (.inl J) J J J J J J X0 (s6 D5)<|yN<|S5 2 J<|cF h a0W J J λv128 _ h=>S2 4 J ?_;exact eJ h W
     ·refine b5 ?_;exact eJ h W
    ·have h:=ifF h hg95;refine R1 (congrArg some hg95)<|R1 (congrArg some hg95)<|y0 J (a3E J J hg95)<|yN ?_;refine y7 false J (λq=>nomatch q) (λ_=>?_);refine b5 ?_;exact eJ h W
  ·refine o9 ?_;refine c4<|c4<|j7 ?_;have h:=xL hx87 h;exact eJ h W

theorem a6x{a0 a1}:PO Tryz.prog 392 [.I a0,.rptr [.abs (I0 (List.map (ent iF PV.bool) a1))]] (a18 a0 a1) λr=>.bool r:=by
 refine pO Tryz.func392 λr h _ _=>?_;unfold a18 at h;refine S4 1 J<|S3 2 J<|y0 J (b0d (es:=a1) (k:=a0) (E:=PV.bool) (EK:=iF) (d:=.bool ((F7 a1 a0).getD (false:Bool))) J J X0 (s6 D5) a9M J (lk1 _ _ _))<|S2 1 J<|a7 ?_;cases h;exact f1

theorem a0f{a0 a1}:PO Tryz.prog 338 [b8.Pv a0,.fn (.func 392) [.rptr [.abs (I0 (List.map (ent iF PV.bool) a1))]]] (P3 a0 a1) λr=>.L iF r:=by
 refine pO Tryz.func338 λr h _ _=>?_;refine S4 2 J<|S4 1 J ?_;refine jq h (λj16=>St.of [(5,.sl 910005)] [(910005,⟨List.map iF j16,(List.map iF j16).length,true,1,true⟩)]) (λj16 h=>?_) λκ15 h=>?_
 ·refine S4 2 J ?_;refine a7 ?_;cases h;exact f1
 ·refine S3 1 J ?_;refine cF h D4 J J λv17 _ h=>nL J j1<|S2 1 J<|c6<|lq h (λq=>St.of [(1,.fn (.func 392) [.rptr [.abs (I0 (List.map (ent iF PV.bool) a1))]]),(5,.sl 910005),(9,.L iF v17),(10,.I (v17.length:Int)),(11,.I q.1)] [(910005,⟨List.map iF q.2,(List.map iF q.2).length,true,1,true⟩)]) (Wk.trans (J0 (t:=5) (l:=920005) (z:=1) J J) (WP (λl=>if l=910005 then 920005 else l))) λq22 x21 h hx16=>?_;obtain⟨s19,s20⟩:=q22;refine S4 1 J<|c5 ?_;refine cN h (λhc h=>?_) λhc h=>?_
  ·refine b5 ?_;refine jq h (λj27=>St.of [(1,.fn (.func 392) [.rptr [.abs (I0 (List.map (ent iF PV.bool) a1))]]),(5,.sl 21),(9,.L iF v17),(10,.I (v17.length:Int)),(11,.I s19)] [(21,⟨List.map iF j27,(List.map iF j27).length,true,1,true⟩)]) (λj27 h=>?_) λκ26 h=>?_
   ·refine S6 2 J ?_;exact eL h (Wk.trans (l6 _ [21]) (WP (λl=>if l=910005 then 21 else l)))
   ·refine c6 ?_;refine sR<|iL h J J j1 l7 λv28 _ h=>S2 2 J<|S3 2 J<|cA h a6x J J λv29 _ h=>yN ?_;refine cN h (λhc h=>?_) λhc h=>?_
    ·refine S5 2 J ?_;refine y0 J (J2 (f:=iF) (l:=[v28]) J j1 l7 y9 J J nl J J)<|r9 h λv30 hv23 h=>N9 J (L5 (f:=iF) hv23 J J J J J J (.inl ⟨_,J,J⟩) j1 l7 J3 y9 J (λ_=>J)) J J J<|S2 1 J ?_;exact eJ h (Wk.trans (l6 _ [21]) W)
    ·refine b5 ?_;exact eJ h (Wk.trans (l6 _ [910005]) (WP (λl=>if l=21 then 910005 else l)))
  ·refine o9 ?_;refine c4<|c4<|j7 ?_;have h:=xL hx16 h;exact eJ h (Wk.trans (l6 _ [910005]) W)

theorem a4c{a0 a1}:PO Tryz.prog 379 [b8.Pv a0,.L iF a1] (a4D a0 a1) λr=>.L iF r:=by
 refine pO Tryz.func379 λr h _ _=>?_;refine S4 2 J<|S3 2 J<|cF h a2z J J λv1 _ h=>S2 2 J<|S3 2 J<|r9 h λv2 hv2 h=>ycL J (u9 J a0f J hv2) J<|S2 1 J<|a7 ?_;cases h;exact f1

theorem a5z{a0}:PO Tryz.prog 405 [j8.Pv a0] (a1a a0) λr=>.bool r:=by
 refine pO Tryz.func405 λr h _ _=>?_;unfold a1a at h;refine S4 2 J<|S4 1 J<|a7 ?_;cases h;exact f1

theorem C8{a0}:PO Tryz.prog 396 [.fn (.func 407) [.rptr [.L a8.Pv a0]],.fn (.func 405) []] (x8 a0) λr=>.L j8.Pv r:=by
 refine pO Tryz.func396 λr h _ _=>?_;refine S4 2 J<|S4 1 J ?_;refine jq h (λj16=>St.of [(5,.ptr 2001 0 0)] [(2001,vS (.sl 912501) 1),(912501,⟨List.map j8.Pv j16,(List.map j8.Pv j16).length,true,2,true⟩)]) (λj16 h=>?_) λκ15 h=>?_
 ·refine S4 2 J ?_;refine a7 ?_;cases h;exact f1
 ·refine S4 1 J ?_;refine c6<|R6 (WPE (λl=>if l=2012 then 5 else if l=2013 then 3 else l) [(3,.ptr 2013 0 0),(5,.ptr 2012 0 0),(7,.fn (.func 407) [.rptr [.L a8.Pv a0]])] [(2012,vR (.nl) 1),(2013,vR (.fn (.func 405) []) 1)]) ?_;refine U4 (fn:=Tryz.f407) (N1:=27) J Tryz.func407 J J nl J b1g J J (λl20 e21 o22 hR23=>?_);refine S3 1 J<|cF h a48 J J λv17 _ h=>nL J j1<|S2 1 J<|c6<|lq h (λq=>St.of [(1000003,.ptr 2013 0 0),(1000005,.ptr 2012 0 0),(1000007,.fn (.func 407) [.rptr [.L a8.Pv a0]]),(0,.fn (.yield l20) []),(1,.rptr [.L a8.Pv a0]),(8,.L iF v17),(9,.I (v17.length:Int)),(10,.I q.1)] [(2012,vS (.sl 912512) 1),(2013,vR (.fn (.func 405) []) 1),(912512,⟨List.map j8.Pv q.2,(List.map j8.Pv q.2).length,true,2,true⟩)]) (Wk.trans (a6S (l0:=2012) (j:=0) (l:=922512) (z:=2) J J J J J) (WP (λl=>if l=912512 then 922512 else l))) λq22 x21 h hx27=>?_;obtain⟨s19,s20⟩:=q22;refine S4 1 J<|c5 ?_;refine cN h (λhc h=>?_) λhc h=>?_
  ·refine b5 ?_;refine c5<|c6<|sR<|iL h J J j1 l7 λv23 _ h=>S2 2 J<|S3 2 J<|cA h a0O J J λv24 _ h=>S2 5 J<|S3 3 J<|y0 J (o6 (cs:=[.I v23,.I v24.1]) J b1j a3y J J J)<|E1 (WPE (λl=>if l=2021 then 912512 else l) [(1000003,.ptr 2013 0 0),(1000005,.ptr 2012 0 0),(1000007,.fn (.func 407) [.rptr [.L a8.Pv a0]]),(0,.fn (.yield l20) []),(1,.rptr [.L a8.Pv a0]),(8,.L iF v17),(9,.I (v17.length:Int)),(10,.I s19),(20,.fn (.yield l20) []),(23,.agg [.I v23,.I v24.1])] [(2012,vS (.sl 2021) 1),(2021,⟨List.map j8.Pv s20,(List.map j8.Pv s20).length,true,2,true⟩),(2013,vR (.fn (.func 405) []) 1)]) ?_;refine a2p hR23 J J J J J J (λe30 o31 o32=>?_);refine S6 2 J ?_;refine⟨J,?_⟩;refine jqE h (λj28=>St.of [(2000003,.ptr 2013 0 0),(2000005,.ptr 2012 0 0),(2000007,.fn (.func 407) [.rptr [.L a8.Pv a0]]),(1000000,.fn (.yield l20) []),(1000001,.rptr [.L a8.Pv a0]),(1000008,.L iF v17),(1000009,.I (v17.length:Int)),(1000010,.I s19),(1000020,.fn (.yield l20) []),(1000023,.agg [.I v23,.I v24.1])] [(2012,vS (.sl 15) 1),(15,⟨List.map j8.Pv j28,(List.map j8.Pv j28).length,true,2,true⟩),(2013,vR (.fn (.func 405) []) 1)]) (λj28 h=>?_) λκ27 h=>?_
   ·refine⟨J,?_⟩;refine E1 (WPE (λl=>if l=2022 then 15 else l) [(1000003,.ptr 2013 0 0),(1000005,.ptr 2012 0 0),(1000007,.fn (.func 407) [.rptr [.L a8.Pv a0]]),(0,.fn (.yield l20) []),(1,.rptr [.L a8.Pv a0]),(8,.L iF v17),(9,.I (v17.length:Int)),(10,.I s19),(24,.bool true)] [(2012,vS (.sl 2022) 1),(2022,⟨List.map j8.Pv j28,(List.map j8.Pv j28).length,true,2,true⟩),(2013,vR (.fn (.func 405) []) 1)])<|S2 1 J ?_;refine y7 false J (λq=>nomatch q) (λ_=>?_);refine b5<|S6 2 J ?_;exact eL h (Wk.trans (l6 _ [2022]) (WP (λl=>if l=912512 then 2022 else l)))
   ·refine c6 ?_;refine S3 2 J<|cA h a5z J J λv29 _ h=>yN ?_;refine cN h (λhc h=>?_) λhc h=>?_
    ·refine S5 2 J ?_;refine y0 J (J2 (f:=j8.Pv) (l:=[(⟨v23,v24.1⟩:j8)]) J a1I a4O a3y J J nl J J)<|r9 h λv30 hv37 h=>N9 J (L5 (f:=j8.Pv) hv37 J J J J J J (.inl ⟨_,J,J⟩) a1I a4O b1c a3y J (λ_=>J)) J J J<|S2 1 J ?_;exact eJ h (Wk.trans (l6 _ [15]) W)
    ·refine b5 ?_;exact eJ h (Wk.trans (l6 _ [2021]) (WP (λl=>if l=15 then 2021 else l)))
  ·refine o9 ?_;refine c4<|c4<|j7 ?_;refine .inl ⟨J,?_⟩;have h:=xL hx27 h;exact eJ h (Wk.trans (l6 _ [912512]) (WP (λl=>if l=2001 then 2012 else if l=912501 then 912512 else l)))

theorem a7d{a0}:PO Tryz.prog 394 [.L a8.Pv a0] (a6c a0) λr=>.L j8.Pv r:=by
 refine pO Tryz.func394 λr h _ _=>?_;refine S4 1 J<|S3 1 J<|cF h a2S J J λv1 _ h=>cF h C8 J J λv2 _ h=>S2 1 J<|a7 ?_;cases h;exact f1

theorem a3Y{a0 a1}:PO Tryz.prog 393 [.I a0,.rptr (b8.Pc a1)] (a4w a0 a1) λr=>.bool r:=by
 refine pO Tryz.func393 λr h _ _=>?_;refine S4 1 J<|S3 2 J<|cF h u5 J J λv1 _ h=>S2 6 J<|S4 3 J<|a7 ?_;cases h;exact f1

theorem a9c{a0 a1 a2}:PON Tryz.prog 380 [b8.Pv a0,.L a8.Pv a1,.L iF a2] (a9V a0 a1 a2) λr=>⟨List.map iF r,(List.map iF r).length,true,1,true⟩:=by
 refine pON Tryz.func380 λr h _ _=>?_;refine S4 2 J<|S4 2 J<|S4 1 J ?_;refine jq h (λj20=>St.of [(8,.sl 910008)] [(910008,⟨List.map iF j20,(List.map iF j20).length,true,1,true⟩)]) (λj20 h=>?_) λκ19 h=>?_
 ·refine S4 2 J ?_;refine R6 (l6 _ [910008])<|a7 ?_;cases h;exact⟨J,_,_,J,J,J,J⟩
 ·refine S3 1 J ?_;refine cF h a7d J J λv21 _ h=>nL J a1I<|S2 1 J<|c6<|lq h (λq=>St.of [(2,.L iF a2),(7,.fn (.func 393) [.ptr 3 0 0]),(8,.sl 910008),(13,.L j8.Pv v21),(14,.I (v21.length:Int)),(15,.I q.1)] [(3,vR (b8.Pv a0) 3),(910008,⟨List.map iF q.2,(List.map iF q.2).length,true,1,true⟩)]) (Wk.trans (J0 (t:=8) (l:=920008) (z:=1) J J) (WP (λl=>if l=910008 then 920008 else l))) λq26 x25 h hx20=>?_;obtain⟨s23,s24⟩:=q26;refine S4 1 J<|c5 ?_;refine cN h (λhc h=>?_) λhc h=>?_
  ·refine b5 ?_;refine jq h (λj33=>St.of [(2,.L iF a2),(7,.fn (.func 393) [.ptr 3 0 0]),(8,.sl 39),(13,.L j8.Pv v21),(14,.I (v21.length:Int)),(15,.I s23)] [(39,⟨List.map iF j33,(List.map iF j33).length,true,1,true⟩),(3,vR (b8.Pv a0) 3)]) (λj33 h=>?_) λκ32 h=>?_
   ·refine S6 2 J ?_;exact eL h (Wk.trans (l6 _ [39]) (WP (λl=>if l=910008 then 39 else l)))
   ·refine c6 ?_;refine sR<|iL h J J a1I a4O λv34 _ h=>S2 3 J<|S3 3 J<|cA h F8 J J λv35 _ h=>S1 1 J<|k9 J (λhg=>om (d:=.fn (.func 393) [.ptr 3 0 0]) J)<|k9 J (λhg=>oF J b1Q J)<|k9 J (λhg=>oS (ct hg) J J G0 J)<|r9 h λv36 hv29 h=>k9 J (λhg=>H3 (ct hg) a3Y (a0o (ct hg) J) (L6 hv29 hg))<|y0 J (A3 J J J (λq=>eqT q))<|S1 1 J<|k9 J (λhg=>om (d:=.fn (.func 393) [.ptr 3 0 0]) J)<|k9 J (λhg=>oF J a8n J)<|k9 J (λhg=>oS (ct hg) J J G0 J)<|r9 h λv37 hv30 h=>k9 J (λhg=>H3 (ct hg) a3Y (a0o (ct hg) J) (L6 hv30 hg))<|y0 J (A3 J J J (λq=>eqT q))<|yN ?_;refine cN h (λhc h=>?_) λhc h=>?_
    ·refine S5 3 J ?_;refine y0 J (J2 (f:=iF) (l:=[v34.Val]) J j1 l7 y9 J J nl J J)<|r9 h λv38 hv31 h=>N9 J (L5 (f:=iF) hv31 J J J J J J (.inl ⟨_,J,J⟩) j1 l7 J3 y9 J (λ_=>J)) J J J<|S2 1 J ?_;exact eJ h (Wk.trans (l6 _ [39]) W)
    ·refine b5 ?_;exact eJ h (Wk.trans (l6 _ [910008]) (WP (λl=>if l=39 then 910008 else l)))
  ·refine o9 ?_;refine c4<|c4<|j7 ?_;have h:=xL hx20 h;exact eJ h (Wk.trans (l6 _ [910008]) W)

theorem a9b{a0 a1 a2}:PO Tryz.prog 340 [b8.Pv a0,.L a8.Pv a1,.L iF a2] (a8v a0 a1 a2) λr=>.tup [.L iF r.1,.I r.2]:=by
 refine pO Tryz.func340 λr h _ _=>?_;refine S4 3 J<|a7z<|S3 2 J<|cF h a4c J J λv1 _ h=>S2 1 J<|c5<|a7y<|c6<|lq h (λq=>St.of [(1,.L a8.Pv a1),(3,.ptr 3 0 0),(6,.L iF q.1),(7,.I q.2)] [(3,vR (b8.Pv a0) 3)]) W λq6 x5 h hx4=>?_;obtain⟨s3,s4⟩:=q6;refine c6<|S3 3 J<|r9 h λv7 hv5 h=>ycN J (a8G J a9c J hv5) J J<|S2 1 J ?_;refine jq h (λ_=>St.of [(6,.L iF s3),(7,.I s4)] []) (λq16 h=>?_) λκ15 h=>?_
 ·refine S4 4 J ?_;refine a7 ?_;have h:=xL hx4 h;cases h;exact f2
 ·refine S3 1 J ?_;refine y0 J (a8H (f:=iF) J J J j1)<|S2 1 J<|c6<|lq h (λs18=>St.of [(1,.L a8.Pv a1),(3,.ptr 3 0 0),(6,.L iF s3),(7,.I s4),(8,.sl 17),(18,.sl 17),(19,.I (v7.length:Int)),(20,.I s18)] [(17,⟨List.map iF v7,(List.map iF v7).length,true,1,true⟩),(3,vR (b8.Pv a0) 3)]) (Wk.trans (l6 _ [17]) W) λs18 x19 h hx16=>S4 1 J<|c5 ?_;refine cN h (λhc h=>?_) λhc h=>?_
  ·refine b5 ?_;refine c5<|c6<|sR<|r9 h λv20 hv17 h=>y0 J (a0w (f:=iF) hv17 J J J J j1 l7 J)<|y0 J (b2P (f:=iF) hv17 J J J G0 J)<|S2 1 J<|S3 2 J<|cA h F8 J J λv21 _ h=>S2 1 J ?_;refine cN h (λhc h=>?_) λhc h=>?_
   ·refine dr [4] p7 (by kernel_rfl) (by kernel_rfl) ?_;refine S7 3 J<|r9 h λv22 hv19 h=>d3a J (L5 (f:=iF) hv19 J J J J J J (.inl ⟨_,J,J⟩) j1 l7 J3 y9 J (λ_=>J)) J J J J J<|r9 h λv23 hv20 h=>d5f J (u9 J a4c J hv20) J J<|S8 1 J<|S4 3 J<|o9<|N2 (by decide)<|c4<|c4<|N2 (by decide)<|c4<|j7 ?_;have h:=xL hx16 h;exact eL h W
   ·refine b5 ?_;refine S6 2 J ?_;exact eL h (Wk.trans (l6 _ [17]) W)
  ·refine o9 ?_;refine c4<|c4<|j7 ?_;have h:=xL hx16 h;exact eJ h W

theorem a9T{a0 a1 a2}:PO Tryz.prog 283 [b8.Pv a0,.L a8.Pv a1,.L iF a2] (a9S a0 a1 a2) λr=>.L iF r:=by
 refine pO Tryz.func283 λr h _ _=>?_;refine S4 2 J<|S3 3 J<|cF h a9b J J λv1 _ h=>S2 5 J<|S4 2 J<|a7 ?_;cases h;exact f1

theorem a6y{a0 a1}:PO Tryz.prog 339 [.I a0,.rptr [.abs (I0 (List.map (ent iF PV.bool) a1))]] (a19 a0 a1) λr=>.bool r:=by
 refine pO Tryz.func339 λr h _ _=>?_;unfold a19 at h;refine S4 1 J<|S3 2 J<|y0 J (b0d (es:=a1) (k:=a0) (E:=PV.bool) (EK:=iF) (d:=.bool ((F7 a1 a0).getD (false:Bool))) J J X0 (s6 D5) a9M J (lk1 _ _ _))<|S2 2 J<|a7 ?_;cases h;exact f1

theorem a0g{a0 a1}:PO Tryz.prog 338 [b8.Pv a0,.fn (.func 339) [.rptr [.abs (I0 (List.map (ent iF PV.bool) a1))]]] (P4 a0 a1) λr=>.L iF r:=by
 refine pO Tryz.func338 λr h _ _=>?_;refine S4 2 J<|S4 1 J ?_;refine jq h (λj16=>St.of [(5,.sl 910005)] [(910005,⟨List.map iF j16,(List.map iF j16).length,true,1,true⟩)]) (λj16 h=>?_) λκ15 h=>?_
 ·refine S4 2 J ?_;refine a7 ?_;cases h;exact f1
 ·refine S3 1 J ?_;refine cF h D4 J J λv17 _ h=>nL J j1<|S2 1 J<|c6<|lq h (λq=>St.of [(1,.fn (.func 339) [.rptr [.abs (I0 (List.map (ent iF PV.bool) a1))]]),(5,.sl 910005),(9,.L iF v17),(10,.I (v17.length:Int)),(11,.I q.1)] [(910005,⟨List.map iF q.2,(List.map iF q.2).length,true,1,true⟩)]) (Wk.trans (J0 (t:=5) (l:=920005) (z:=1) J J) (WP (λl=>if l=910005 then 920005 else l))) λq22 x21 h hx16=>?_;obtain⟨s19,s20⟩:=q22;refine S4 1 J<|c5 ?_;refine cN h (λhc h=>?_) λhc h=>?_
  ·refine b5 ?_;refine jq h (λj27=>St.of [(1,.fn (.func 339) [.rptr [.abs (I0 (List.map (ent iF PV.bool) a1))]]),(5,.sl 21),(9,.L iF v17),(10,.I (v17.length:Int)),(11,.I s19)] [(21,⟨List.map iF j27,(List.map iF j27).length,true,1,true⟩)]) (λj27 h=>?_) λκ26 h=>?_
   ·refine S6 2 J ?_;exact eL h (Wk.trans (l6 _ [21]) (WP (λl=>if l=910005 then 21 else l)))
   ·refine c6 ?_;refine sR<|iL h J J j1 l7 λv28 _ h=>S2 2 J<|S3 2 J<|cA h a6y J J λv29 _ h=>yN ?_;refine cN h (λhc h=>?_) λhc h=>?_
    ·refine S5 2 J ?_;refine y0 J (J2 (f:=iF) (l:=[v28]) J j1 l7 y9 J J nl J J)<|r9 h λv30 hv23 h=>N9 J (L5 (f:=iF) hv23 J J J J J J (.inl ⟨_,J,J⟩) j1 l7 J3 y9 J (λ_=>J)) J J J<|S2 1 J ?_;exact eJ h (Wk.trans (l6 _ [21]) W)
    ·refine b5 ?_;exact eJ h (Wk.trans (l6 _ [910005]) (WP (λl=>if l=21 then 910005 else l)))
  ·refine o9 ?_;refine c4<|c4<|j7 ?_;have h:=xL hx16 h;exact eJ h (Wk.trans (l6 _ [910005]) W)

theorem a8b{a0 a1}:PO Tryz.prog 282 [b8.Pv a0,.L iF a1] (a7A a0 a1) λr=>.L iF r:=by
 refine pO Tryz.func282 λr h _ _=>?_;refine S4 2 J<|S3 2 J<|cF h a2z J J λv1 _ h=>S2 2 J<|S3 2 J<|r9 h λv2 hv2 h=>ycL J (u9 J a0g J hv2) J<|S2 1 J<|a7 ?_;cases h;exact f1

theorem a9U{a0 a1 a2}:PO Tryz.prog 198 [b8.Pv a0,.L a8.Pv a1,.L iF a2] (a7f a0 a1 a2) λr=>.L iF r:=by
 refine pO Tryz.func198 λr h _ _=>?_;unfold a7f at h;refine S4 2 J<|dr [] p7 (by kernel_rfl) (by kernel_rfl)<|S7 4 J<|r9 h λv1 hv1 h=>d2f J (u9 J a9T J hv1) J<|r9 h λv2 hv2 h=>d2f J (u9 J a8b J hv2) J<|S8 1 J<|a7 ?_;cases h;exact f1

theorem a5W{a0 a1}:PO Tryz.prog 124 [b8.Pv a0,.L a8.Pv a1] (a1j a0 a1) λr=>.L iF r:=by
 refine pO Tryz.func124 λr h _ _=>?_;unfold a1j at h;refine S4 2 J<|dr [] p7 (by kernel_rfl) (by kernel_rfl)<|S7 4 J<|r9 h λv1 hv1 h=>d2f J (u9 J a8g J hv1) J<|r9 h λv2 hv2 h=>d2f J (u9 J a9U J hv2) J<|S8 1 J<|a7 ?_;cases h;exact f1

theorem a0n{a0}:PO Tryz.prog 67 [a6.Pv a0] (Y6 a0) λr=>.L iF r:=by
 refine pO Tryz.func67 λr h _ _=>?_;refine S4 2 J<|S3 4 J<|cF h a5W J J λv1 _ h=>S2 1 J<|a7 ?_;cases h;exact f1

theorem a4q{a0 a1}:PO Tryz.prog 113 [.I a0,.rptr (a6.Pc a1)] (a2q a0 a1) λr=>.bool r:=by
 refine pO Tryz.func113 λr h _ _=>?_;refine S4 1 J<|S3 3 J<|cF h u5 J J λv1 _ h=>S2 6 J<|S3 4 J<|k9 J (λhg=>oF J a8k J)<|k9 J (λhg=>oS (ct hg) J J a8j J)<|k9 J (λhg=>a0x (ct hg) J)<|y0 J (A3 J J J (λq=>eqT q))<|S2 1 J<|a7 ?_;cases h;exact f1

theorem O0{a0 a1}:PO Tryz.prog 112 [.L iF a0,.fn (.func 113) [.rptr (a6.Pc a1)]] (G1 a0 a1) λr=>.L iF r:=by
 refine pO Tryz.func112 λr h _ _=>?_;refine S4 1 J<|S4 1 J ?_;refine jq h (λj15=>St.of [(5,.sl 910005)] [(910005,⟨List.map iF j15,(List.map iF j15).length,true,1,true⟩)]) (λj15 h=>?_) λκ14 h=>?_
 ·refine S4 2 J ?_;refine a7 ?_;cases h;exact f1
 ·refine S3 1 J ?_;refine nL J j1<|S2 1 J<|c6<|lq h (λq=>St.of [(1,.fn (.func 113) [.rptr (a6.Pc a1)]),(5,.sl 910005),(8,.L iF a0),(9,.I (a0.length:Int)),(10,.I q.1)] [(910005,⟨List.map iF q.2,(List.map iF q.2).length,true,1,true⟩)]) (Wk.trans (J0 (t:=5) (l:=920005) (z:=1) J J) (WP (λl=>if l=910005 then 920005 else l))) λq20 x19 h hx14=>?_;obtain⟨s17,s18⟩:=q20;refine S4 1 J<|c5 ?_;refine cN h (λhc h=>?_) λhc h=>?_
  ·refine b5 ?_;refine jq h (λj25=>St.of [(1,.fn (.func 113) [.rptr (a6.Pc a1)]),(5,.sl 20),(8,.L iF a0),(9,.I (a0.length:Int)),(10,.I s17)] [(20,⟨List.map iF j25,(List.map iF j25).length,true,1,true⟩)]) (λj25 h=>?_) λκ24 h=>?_
   ·refine S6 2 J ?_;exact eL h (Wk.trans (l6 _ [20]) (WP (λl=>if l=910005 then 20 else l)))
   ·refine c6 ?_;refine sR<|iL h J J j1 l7 λv26 _ h=>S2 2 J<|S3 2 J<|cA h a4q J J λv27 _ h=>yN ?_;refine cN h (λhc h=>?_) λhc h=>?_
    ·refine S5 2 J ?_;refine y0 J (J2 (f:=iF) (l:=[v26]) J j1 l7 y9 J J nl J J)<|r9 h λv28 hv21 h=>N9 J (L5 (f:=iF) hv21 J J J J J J (.inl ⟨_,J,J⟩) j1 l7 J3 y9 J (λ_=>J)) J J J<|S2 1 J ?_;exact eJ h (Wk.trans (l6 _ [20]) W)
    ·refine b5 ?_;exact eJ h (Wk.trans (l6 _ [910005]) (WP (λl=>if l=20 then 910005 else l)))
  ·refine o9 ?_;refine c4<|c4<|j7 ?_;have h:=xL hx14 h;exact eJ h (Wk.trans (l6 _ [910005]) W)

theorem a5v{a0}:PO Tryz.prog 64 [a6.Pv a0] (a3T a0) λr=>.L iF r:=by
 refine pO Tryz.func64 λr h _ _=>?_;refine S4 2 J<|S3 1 J<|cF h a0n J J λv1 _ h=>S1 1 J<|r9 h λv2 hv2 h=>ycL J (u9 J O0 J hv2) J<|S2 1 J<|a7 ?_;cases h;exact f1

theorem a4r{a0}:PO Tryz.prog 35 [a6.Pv a0] (a2r a0) λr=>.tup [a6.Pv r.1,.I r.2.1,.I r.2.2]:=by
 refine pO Tryz.func35 λr h _ _=>?_;refine S4 4 J<|S3 1 J<|cF h a5v J J λv1 _ h=>S2 1 J ?_;refine jq h (λj10=>St.of [(1,.ptr 1 0 0),(2,.ptr 2 0 0),(5,.L iF v1)] [(2,vR (.agg [.nl,.I 0,.I 0,.nl,.nl,.nl,.nl,.I 0]) 8),(1,vR (a6.Pv j10) 8)]) (λj10 h=>?_) λκ9 h=>?_
 ·refine c5 ?_;refine S3 1 J<|nL J j1<|S2 1 J ?_;refine cN h (λhc h=>?_) λhc h=>?_
  ·refine S3 2 J ?_;refine nL J j1<|S2 3 J<|a7 ?_;cases h;exact⟨J,[_,_,_],⟨oL J J J o5 l4 nl J,⟨J,⟨J,tr⟩⟩⟩,J,io⟩
  ·refine b5 ?_;refine dr [] p7 (by kernel_rfl) (by kernel_rfl)<|S7 2 J<|r9 h λv11 hv8 h=>d2f J (u9 J a0n J hv8) J<|r9 h λv12 hv9 h=>d2f J (u9 J a3o J hv9) J<|r9 h λv13 hv10 h=>d2f J (u9 J N5 J hv10) J<|S7 1 J<|x4 (x':=a6.Pv v13) (cl':=true) J J (.inr J) l4<|R3<|dr [4,8] p7 (by kernel_rfl) (by kernel_rfl)<|S7 3 J<|r9 h λv14 hv11 h=>d2f J (u9 J D4 J hv11) J<|d7 J (λ_ hN=>a3g (f:=iF) J j1) J<|S7 2 J<|r9 h λv15 hv12 h=>d2f J (u9 J D4 J hv12) J<|d7 J (λ_ hN=>a3g (f:=iF) J j1) J<|S7 1 J<|x4 (x':=a6.Pv v13) (cl':=true) J J (.inr J) l4<|S8 2 J<|a7 ?_;cases h;exact⟨J,[_,_,_],⟨oL J J J o5 l4 nl J,⟨J,⟨J,tr⟩⟩⟩,J,io⟩
 ·refine S3 1 J ?_;refine nL J j1<|S2 1 J<|c6<|lq h (λq=>St.of [(1,.ptr 1 0 0),(2,.ptr 2 0 0),(5,.L iF v1),(11,.L iF v1),(12,.I (v1.length:Int)),(13,.I q.1)] [(2,vR (.agg [.nl,.I 0,.I 0,.nl,.nl,.nl,.nl,.I 0]) 8),(1,vR (a6.Pv q.2) 8)]) W λq20 x19 h hx15=>?_;obtain⟨s17,s18⟩:=q20;refine S4 1 J<|c5 ?_;refine cN h (λhc h=>?_) λhc h=>?_
  ·refine b5 ?_;refine c5<|c6<|sR<|iL h J J j1 l7 λv21 _ h=>S2 2 J<|S5 2 J<|cF h a1w J J λv22 _ h=>S2 1 J<|S6 2 J ?_;exact eL h W
  ·refine o9 ?_;refine c4<|c4<|j7 ?_;have h:=xL hx15 h;exact eJ h W

theorem a1e{a0 a1}:PO Tryz.prog 297 [b7.Pv a0,.I a1] (W0 a0 a1) λr=>.tup [b7.Pv r.1,.L k8.Pv r.2]:=by
 refine pO Tryz.func297 λr h _ _=>?_;refine S4 3 J<|S3 2 J<|cA h F0 J J λv1 hv1 h=>y0 J (b4X J J J)<|y0 J (b1v J J J)<|S2 1 J<|S3 3 J<|cF h I9 J J λv2 _ h=>S2 1 J<|dr [] p7 (by kernel_rfl) (by kernel_rfl)<|S7 4 J<|d2 J (H3 J F0 J hv1) J<|r9 h λv3 hv3 h=>d2f J (u9 J I9 J hv3) J<|S7 1 J<|x4 (x':=.agg [.L k8.Pv v3,.I a0.Cap]) (cl':=true) J J (.inr J) b2o<|R3<|S4 4 J<|a7 ?_;cases h;exact⟨J,[_,_],⟨oL J J J a02 T3 nl J,⟨J,tr⟩⟩,J,io⟩

theorem a16{a0}:PO Tryz.prog 203 [b7.Pv a0] (Z8 a0) λr=>.tup [b7.Pv r.1,k8.Pv r.2.1,.I r.2.2]:=by
 refine pO Tryz.func203 λr h _ _=>?_;refine S4 4 J<|S3 1 J<|cF h a1e J J λv1 _ h=>S2 6 J<|c5<|S3 1 J<|nL J a2L<|S2 1 J ?_;refine cN h (λhc h=>?_) λhc h=>?_
 ·refine S4 1 J ?_;refine dr [1,1007] p7 (by kernel_rfl) (by kernel_rfl)<|S7 1 J<|d7 J (λ_ hN=>a10 (cs:=[.I 0,.I 0,.I 0]) hN J J J J R9 E2 nl J) J<|x4 (x':=b7.Pv a0) (cl':=true) J J (.inr J) T3<|x4 (x':=.agg [.I 0,.I 0,.I 0]) (cl':=true) J J (.inl J) E2<|S8 1 J<|a7 ?_;cases h;exact⟨J,[_,_,_],⟨oL J J J a02 T3 nl J,⟨oL J J J R9 E2 nl J,⟨J,tr⟩⟩⟩,J,io⟩
 ·refine b5 ?_;refine dr [2,3] p7 (by kernel_rfl) (by kernel_rfl)<|S7 2 J<|r9 h λv2 hv2 h=>d7 J (λ_ hN=>B4 (f:=k8.Pv) (cs:=k8.Pc v2) hv2 J J a2L E2 J J) J<|d7 J (λ_ hN=>b2R J R9 E2 nl J) J<|x4 (x':=b7.Pv v1.1) (cl':=true) J J (.inr J) T3<|x4 (x':=k8.Pv v2) (cl':=true) J J (.inl J) E2<|S8 1 J<|a7 ?_;cases h;exact⟨J,[_,_,_],⟨oL J J J a02 T3 nl J,⟨oL J J J R9 E2 nl J,⟨J,tr⟩⟩⟩,J,io⟩

theorem a2l{a0}:PO Tryz.prog 130 [b7.Pv a0] (a3H a0) λr=>.tup [b7.Pv r.1,k8.Pv r.2.1,.I r.2.2]:=by
 refine pO Tryz.func130 λr h _ _=>?_;refine S4 4 J<|S3 1 J<|cF h a16 J J λv1 _ h=>S2 6 J<|a7 ?_;cases h;exact⟨J,[_,_,_],⟨oL J J J a02 T3 nl J,⟨oL J J J R9 E2 nl J,⟨J,tr⟩⟩⟩,J,io⟩

theorem a2R{a0}:PO Tryz.prog 70 [a6.Pv a0] (a2Q a0) λr=>.bool r:=by
 refine pO Tryz.func70 λr h _ _=>?_;refine S4 2 J<|S3 2 J<|cF h a2l J J λv1 _ h=>S2 9 J<|S4 3 J<|a7 ?_;cases h;exact f1

theorem a3V{a0 a1}:PO Tryz.prog 204 [.L (Ls j5.Pv) a0,.I a1] (a4t a0 a1) λr=>.L j5.Pv r:=by
 refine pO Tryz.func204 λr h _ _=>?_;refine S4 1 J<|c5<|S3 3 J<|k9 J (λhg=>mI J)<|k9 J (λhg=>om (d:=.L (Ls j5.Pv) a0) J)<|k9 J (λhg=>a3g (f:=(Ls j5.Pv)) (ct hg) a0l)<|k9 J (λhg=>A0 (ct hg) (ct hg) J)<|y0 J (D8 J J J (λq=>eqF q))<|yN ?_;refine cN h (λhc h=>?_) λhc h=>?_
 ·refine S4 1 J ?_;refine a7 ?_;cases h;exact f1
 ·refine b5 ?_;refine S3 2 J<|iL h J J a0l a0d λv1 _ h=>S2 2 J<|a7 ?_;cases h;exact f1

theorem a7Y{a0 a1}:PO Tryz.prog 131 [.L (Ls j5.Pv) a0,k8.Pv a1] (a65 a0 a1) λr=>.I r:=by
 refine pO Tryz.func131 λr h _ _=>?_;refine S4 2 J<|S3 3 J<|cF h a3V J J λv1 _ h=>nL J a0J<|S2 2 J<|a7 ?_;cases h;exact f1

theorem a7t{a0 a1}:PO Tryz.prog 206 [a6.Pv a0,.L j5.Pv a1] (a6i a0 a1) λr=>.tup [a6.Pv r.1,.L iF r.2]:=by
 refine pO Tryz.func206 λr h _ _=>?_;refine S4 3 J<|S4 1 J ?_;refine jq h (λq=>St.of [(2,.ptr 2 0 0),(4,.ptr 4 0 0),(6,.sl 910006)] [(910006,⟨List.map iF q.2,(List.map iF q.2).length,true,1,true⟩),(4,vR (.agg [.nl,.I 0,.I 0,.nl,.nl,.nl,.nl,.I 0]) 8),(2,vR (a6.Pv q.1) 8)]) (λq13 h=>?_) λκ10 h=>?_
 ·obtain⟨j11,j12⟩:=q13;refine S4 4 J<|a7 ?_;cases h;exact⟨J,[_,_],⟨oL J J J o5 l4 nl J,⟨J,tr⟩⟩,J,io⟩
 ·refine S3 1 J ?_;refine nL J a0J<|S2 1 J<|c6<|lq h (λq=>St.of [(2,.ptr 2 0 0),(4,.ptr 4 0 0),(6,.sl 910006),(10,.L j5.Pv a1),(11,.I (a1.length:Int)),(12,.I q.1)] [(4,vR (.agg [.nl,.I 0,.I 0,.nl,.nl,.nl,.nl,.I 0]) 8),(2,vR (a6.Pv q.2.1) 8),(910006,⟨List.map iF q.2.2,(List.map iF q.2.2).length,true,1,true⟩)]) (Wk.trans (J0 (t:=6) (l:=920006) (z:=1) J J) (WP (λl=>if l=910006 then 920006 else l))) λq19 x18 h hx10=>?_;obtain⟨s15,s16,s17⟩:=q19;refine S4 1 J<|c5 ?_;refine cN h (λhc h=>?_) λhc h=>?_
  ·refine b5 ?_;refine c5<|c6<|sR<|iL h J J a0J a1L λv20 _ h=>S2 3 J<|S4 1 J<|S3 2 J<|cF h a38 J J λv21 _ h=>S2 6 J<|S5 2 J<|y0 J (J2 (f:=iF) (l:=[v21.2.1]) J j1 l7 y9 J J nl J J)<|r9 h λv22 hv13 h=>N9 J (L5 (f:=iF) hv13 J J J J J J (.inl ⟨_,J,J⟩) j1 l7 J3 y9 J (λ_=>J)) J J J<|S2 1 J<|S6 2 J ?_;exact eL h (Wk.trans (l6 _ [26]) (WP (λl=>if l=910006 then 26 else l)))
  ·refine o9 ?_;refine c4<|c4<|j7 ?_;have h:=xL hx10 h;exact eJ h (Wk.trans (l6 _ [910006]) W)

theorem a7Z{a0 a1}:PO Tryz.prog 132 [a6.Pv a0,.L (Ls j5.Pv) a1] (a69 a0 a1) λr=>.tup [a6.Pv r.1,k8.Pv r.2.1,.I r.2.2]:=by
 refine pO Tryz.func132 λr h _ _=>?_;refine S4 4 J<|S3 2 J<|cF h a2l J J λv1 _ h=>S2 9 J<|c5<|S4 2 J ?_;refine cN h (λhc h=>?_) λhc h=>?_
 ·refine S3 1 J ?_;refine y0 J (o6 (cs:=[.I 0,.I 0,.I 0]) J a8X a4P J J J)<|S2 4 J<|a7 ?_;cases h;exact⟨J,[_,_,_],⟨oL J J J o5 l4 nl J,⟨oL J J J R9 E2 nl J,⟨J,tr⟩⟩⟩,J,io⟩
 ·refine b5 ?_;refine S4 3 J<|S4 4 J ?_;refine jq h (λj6=>St.of [(1,.L (Ls j5.Pv) a1),(2,.ptr 2 0 0),(4,.ptr 4 0 0),(5,.ptr 5 0 0),(8,.ptr 8 0 0),(10,.bool (v1.2.1.Kind==1))] [(8,vR (k8.Pv v1.2.1) 3),(5,vR (.agg [.I 0,.I 0,.I 0]) 3),(4,vR (.agg [.nl,.I 0,.I 0,.nl,.nl,.nl,.nl,.I 0]) 8),(2,vR (a6.Pv j6) 8)]) (λj6 h=>?_) λκ5 h=>?_
  ·refine dr [] p7 (by kernel_rfl) (by kernel_rfl) ?_;refine S7 4 J<|r9 h λv7 hv6 h=>d2f J (u9 J a3V J hv6) J<|r9 h λv8 hv7 h=>d2f J (u9 J a7t J hv7) J<|S7 3 J<|x4 (x':=a6.Pv v8.1) (cl':=true) J J (.inr J) l4<|R3<|c5<|S4 1 J ?_;refine cN h (λhc h=>?_) λhc h=>?_
   ·refine S3 1 J ?_;refine cF h a1X J J λv9 _ h=>S2 4 J<|S5 1 J<|cF h N5 J J λv10 _ h=>S2 1 J<|dr [1,1008] p7 (by kernel_rfl) (by kernel_rfl)<|S7 1 J<|d7 J (λ_ hN=>a10 (cs:=k8.Pc v1.2.1) hN J J J J R9 E2 nl J) J<|x4 (x':=a6.Pv v10) (cl':=true) J J (.inr J) l4<|x4 (x':=k8.Pv v1.2.1) (cl':=true) J J (.inl J) E2<|S8 1 J<|a7 ?_;cases h;exact⟨J,[_,_,_],⟨oL J J J o5 l4 nl J,⟨oL J J J R9 E2 nl J,⟨J,tr⟩⟩⟩,J,io⟩
   ·refine b5 ?_;refine dr [1,1008] p7 (by kernel_rfl) (by kernel_rfl)<|S7 1 J<|d7 J (λ_ hN=>a10 (cs:=k8.Pc v1.2.1) hN J J J J R9 E2 nl J) J<|x4 (x':=a6.Pv v8.1) (cl':=true) J J (.inr J) l4<|x4 (x':=k8.Pv v1.2.1) (cl':=true) J J (.inl J) E2<|S8 1 J<|a7 ?_;cases h;exact⟨J,[_,_,_],⟨oL J J J o5 l4 nl J,⟨oL J J J R9 E2 nl J,⟨J,tr⟩⟩⟩,J,io⟩
  ·refine S4 1 J ?_;refine cN h (λhc h=>?_) λhc h=>?_
   ·refine S3 3 J ?_;refine cF h a1X J J λv11 _ h=>S2 4 J<|S5 3 J<|cF h K3 J J λv12 _ h=>cF h N5 J J λv13 _ h=>S2 1 J ?_;exact eJ h W
   ·refine b5 ?_;exact eJ h W

theorem a68{a0 a1 a2}:PO Tryz.prog 36 [a6.Pv a0,.L (Ls j5.Pv) a1,.I a2] (a6a a0 a1 a2) λr=>.tup [a6.Pv r.1,.I r.2.1,.I r.2.2.1,.I r.2.2.2]:=by
 refine pO Tryz.func36 λr h _ _=>?_;refine S4 6 J<|S4 2 J ?_;refine jq h (λq=>St.of [(3,.ptr 2004 0 0),(5,.ptr 2003 0 0),(6,.ptr 2002 0 0),(10,.ptr 2001 0 0)] [(2001,vR (.I q.1) 1),(2002,vR (.agg [.nl,.I 0,.I 0,.nl,.nl,.nl,.nl,.I 0]) 8),(2003,vR (.I q.2.1) 1),(2004,vR (a6.Pv q.2.2) 8)]) (λq17 h=>?_) λκ13 h=>?_
 ·obtain⟨j14,j15,j16⟩:=q17;refine c5<|S3 1 J<|cA h a2R J J λv18 _ h=>S2 1 J ?_;refine cN h (λhc h=>?_) λhc h=>?_
  ·refine dr [1,2,3001,3003] p7 (by kernel_rfl) (by kernel_rfl) ?_;refine S7 1 J<|d7 J (λ_ hN=>a6J hN J J J J G0 J) J<|d7 J (λ_ hN=>a6J hN J J J J G0 J) J<|x4 (x':=a6.Pv j16) (cl':=true) J J (.inr J) l4<|S8 3 J<|a7 ?_;cases h;exact⟨J,[_,_,_,_],⟨oL J J J o5 l4 nl J,⟨J,⟨J,⟨J,tr⟩⟩⟩⟩,J,io⟩
  ·refine b5 ?_;refine dr [1,2,3001,3003] p7 (by kernel_rfl) (by kernel_rfl)<|S7 1 J<|d7 J (λ_ hN=>a6J hN J J J J G0 J) J<|d7 J (λ_ hN=>a6J hN J J J J G0 J) J<|x4 (x':=a6.Pv j16) (cl':=true) J J (.inr J) l4<|S8 3 J<|a7 ?_;cases h;exact⟨J,[_,_,_,_],⟨oL J J J o5 l4 nl J,⟨J,⟨J,⟨J,tr⟩⟩⟩⟩,J,io⟩
 ·refine S3 3 J ?_;refine E1 (WPE (λl=>if l=2008 then 10 else if l=2009 then 6 else if l=2010 then 5 else if l=2011 then 3 else l) [(3,.ptr 2011 0 0),(5,.ptr 2010 0 0),(6,.ptr 2009 0 0),(10,.ptr 2008 0 0),(13,a6.Pv a0),(14,.L (Ls j5.Pv) a1),(15,.I a2)] [(2008,vR (.I 0) 1),(2009,vR (.agg [.nl,.I 0,.I 0,.nl,.nl,.nl,.nl,.I 0]) 8),(2010,vR (.I a2) 1),(2011,vR (a6.Pv a0) 8)]) ?_;refine a8Q (fn:=Tryz.f69) (N1:=8) J J Tryz.func69 J b5e J J nl (λe19 o20=>?_);refine S4 4 J<|S4 2 J<|a7 ?_;refine⟨J,[.fn (.func 129) [.ptr 3 0 0,.ptr 4 0 0,.ptr 5 0 0]],⟨J,tr⟩,?_⟩;refine E1 (WPE (λl=>if l=2012 then 5 else if l=2013 then 4 else if l=2014 then 3 else l) [(3,.ptr 2011 0 0),(5,.ptr 2010 0 0),(6,.ptr 2009 0 0),(10,.ptr 2008 0 0),(16,.fn (.func 129) [.ptr 2014 0 0,.ptr 2013 0 0,.ptr 2012 0 0])] [(2012,vR (.I a2) 1),(2013,vR (.L (Ls j5.Pv) a1) 1),(2014,vR (a6.Pv a0) 8),(2008,vR (.I 0) 1),(2009,vR (.agg [.nl,.I 0,.I 0,.nl,.nl,.nl,.nl,.I 0]) 8),(2010,vR (.I a2) 1),(2011,vR (a6.Pv a0) 8)])<|yN<|c6<|R6 (WE [(3,.ptr 2011 0 0),(5,.ptr 2010 0 0),(6,.ptr 2009 0 0),(10,.ptr 2008 0 0),(16,.fn (.func 129) [.ptr 2014 0 0,.ptr 2013 0 0,.ptr 2012 0 0])] [(2012,vR (.I a2) 1),(2013,vR (.L (Ls j5.Pv) a1) 1),(2014,vR (a6.Pv a0) 8),(2008,vR (.I 0) 1),(2009,vR (.agg [.nl,.I 0,.I 0,.nl,.nl,.nl,.nl,.I 0]) 8),(2010,vR (.I a2) 1),(2011,vR (a6.Pv a0) 8)]) ?_;refine U4 (fn:=Tryz.f129) (N1:=40) J Tryz.func129 J J nl J b3z J J (λl21 e22 o23 hR24=>?_);refine c6<|lq h (λq=>St.of [(1000003,.ptr 2011 0 0),(1000005,.ptr 2010 0 0),(1000006,.ptr 2009 0 0),(1000010,.ptr 2008 0 0),(1000016,.fn (.func 129) [.ptr 2014 0 0,.ptr 2013 0 0,.ptr 2012 0 0]),(0,.fn (.yield l21) []),(1,.ptr 2014 0 0),(2,.ptr 2013 0 0),(3,.ptr 2012 0 0)] [(2012,vR (.I q.1) 1),(2013,vR (.L (Ls j5.Pv) a1) 1),(2014,vR (a6.Pv q.2.1) 8),(2008,vR (.I q.2.2.1) 1),(2009,vR (.agg [.nl,.I 0,.I 0,.nl,.nl,.nl,.nl,.I 0]) 8),(2010,vR (.I q.2.2.2.1) 1),(2011,vR (a6.Pv q.2.2.2.2) 8)]) W λq26 x25 h hx27=>?_;obtain⟨s20,s21,s22,s23,s24⟩:=q26;refine c5<|S3 1 J<|cA h a2R J J λv27 _ h=>S2 1 J ?_;refine cN h (λhc h=>?_) λhc h=>?_
  ·refine b5 ?_;refine c6<|S3 2 J<|cF h a2l J J λv28 _ h=>S2 9 J<|S3 2 J<|cA h a7Y J J λv29 _ h=>S2 1 J<|c5<|S4 3 J ?_;refine cN h (λhc h=>?_) λhc h=>?_
   ·refine a7 ?_;refine .inl ⟨J,?_⟩;have h:=xL hx27 h;exact eJ h (WP (λl=>if l=2004 then 2011 else if l=2003 then 2010 else if l=2002 then 2009 else if l=2001 then 2008 else l))
   ·refine b5 ?_;refine S3 2 J<|cF h a7Z J J λv30 _ h=>S2 5 J<|S4 4 J<|S3 3 J<|E1 (WE [(1000003,.ptr 2011 0 0),(1000005,.ptr 2010 0 0),(1000006,.ptr 2009 0 0),(1000010,.ptr 2008 0 0),(1000016,.fn (.func 129) [.ptr 2014 0 0,.ptr 2013 0 0,.ptr 2012 0 0]),(0,.fn (.yield l21) []),(1,.ptr 2014 0 0),(2,.ptr 2013 0 0),(3,.ptr 2012 0 0),(35,.fn (.yield l21) []),(36,a6.Pv v30.1),(37,.I (G2 (s20-v29)))] [(2012,vR (.I (G2 (s20-v29))) 1),(2013,vR (.L (Ls j5.Pv) a1) 1),(2014,vR (a6.Pv v30.1) 8),(2008,vR (.I s22) 1),(2009,vR (.agg [.nl,.I 0,.I 0,.nl,.nl,.nl,.nl,.I 0]) 8),(2010,vR (.I s23) 1),(2011,vR (a6.Pv s24) 8)]) ?_;refine a2p hR24 J J J J J J (λe32 o33 o34=>?_);refine S4 2 J<|S6 1 J ?_;refine⟨J,?_⟩;refine c6<|S4 4 J<|S6 3 J ?_;refine⟨J,?_⟩;refine E1 (WE [(1000003,.ptr 2011 0 0),(1000005,.ptr 2010 0 0),(1000006,.ptr 2009 0 0),(1000010,.ptr 2008 0 0),(1000016,.fn (.func 129) [.ptr 2014 0 0,.ptr 2013 0 0,.ptr 2012 0 0]),(0,.fn (.yield l21) []),(1,.ptr 2014 0 0),(2,.ptr 2013 0 0),(3,.ptr 2012 0 0),(38,.bool true)] [(2012,vR (.I (G2 (s20-v29))) 1),(2013,vR (.L (Ls j5.Pv) a1) 1),(2014,vR (a6.Pv v30.1) 8),(2008,vR (.I (G2 (s22+1))) 1),(2009,vR (.agg [.nl,.I 0,.I 0,.nl,.nl,.nl,.nl,.I 0]) 8),(2010,vR (.I (G2 (s20-v29))) 1),(2011,vR (a6.Pv v30.1) 8)])<|S2 1 J ?_;refine y7 false J (λq=>nomatch q) (λ_=>?_);refine b5 ?_;exact eL h W
  ·refine o9 ?_;refine c4<|c4<|j7 ?_;refine .inl ⟨J,?_⟩;have h:=xL hx27 h;exact eJ h (WP (λl=>if l=2004 then 2011 else if l=2003 then 2010 else if l=2002 then 2009 else if l=2001 then 2008 else l))

theorem a4X{a0 a1}:PO Tryz.prog 19 [l3.Pv a0,.L iF a1] (a5x a0 a1) λr=>.tup [l3.Pv r.1,k7.Pv r.2]:=by
 refine pO Tryz.func19 λr h _ _=>?_;refine S4 3 J<|S3 1 J<|cA h a6Z J J λv1 _ h=>S2 6 J<|c5<|S4 2 J ?_;refine cN h (λhc h=>?_) λhc h=>?_
 ·refine S3 2 J ?_;refine y0 J (o6 (cs:=[.I 0,.I v1.2]) J b5l b0E J J J)<|S2 2 J<|a7 ?_;cases h;exact⟨J,[_,_],⟨oL J J J a0k K6 nl J,⟨oL J J J a1F J4 nl J,tr⟩⟩,J,io⟩
 ·refine b5 ?_;refine S4 1 J<|c5<|S3 1 J<|cF h a6w J J λv2 _ h=>yN<|c6<|sR<|y0 J (a9p (n:=a4i) (d:=.tup [.agg [.I (ifG v2 99 0),.I (ifG v2 99 1),.I (ifG v2 99 2),.I (ifG v2 99 3)],.bool (decide (v2.t=99))]) J b2n b2t J J J)<|S2 2 J ?_;refine cN h (λhc h=>?_) λhc h=>?_
  ·refine S4 2 J ?_;refine S5 4 J<|cF h a38 J J λv3 _ h=>S2 10 J<|dr [1,1008] p7 (by kernel_rfl) (by kernel_rfl)<|S7 1 J<|d7 J (λ_ hN=>a10 (cs:=[.I v3.2.1,.I v3.2.2]) hN J J J J a1F J4 nl J) J<|x4 (x':=.agg [.L b6.Pv v3.1.S.S.o8,.I v3.1.S.S.Last,.I v3.1.S.Serial,.L iF v3.1.Roots,.L c9.Pv v3.1.o8,.L a8.Pv v3.1.T,.L k8.Pv v3.1.Q.L,.I v3.1.Q.Cap,.L (Ls j5.Pv) a0.Progs]) (cl':=true) J J (.inr J) K6<|x4 (x':=.agg [.I v3.2.1,.I v3.2.2]) (cl':=true) J J (.inl J) J4<|R3<|a7 ?_;cases h;exact⟨J,[_,_],⟨oL J J J a0k K6 nl J,⟨oL J J J a1F J4 nl J,tr⟩⟩,J,io⟩
  ·refine sR ?_;refine y0 J (a9p (n:=a4i) (d:=.tup [.agg [],.bool (decide (v2.t=103))]) J b1k b1o J J J)<|S2 2 J ?_;refine cN h (λhc h=>?_) λhc h=>?_
   ·refine S3 1 J ?_;refine b6c J J J b3X<|yN<|S4 2 J<|S3 2 J<|cF h a4r J J λv4 _ h=>S2 8 J<|S6 5 J<|dr [1,1008] p7 (by kernel_rfl) (by kernel_rfl)<|S7 1 J<|d7 J (λ_ hN=>a10 (cs:=[.I (G2 (v4.2.2-v4.2.1)),.I 0]) hN J J J J a1F J4 nl J) J<|x4 (x':=.agg [.L b6.Pv v4.1.S.S.o8,.I v4.1.S.S.Last,.I v4.1.S.Serial,.L iF v4.1.Roots,.L c9.Pv v4.1.o8,.L a8.Pv v4.1.T,.L k8.Pv v4.1.Q.L,.I v4.1.Q.Cap,.L (Ls j5.Pv) a0.Progs]) (cl':=true) J J (.inr J) K6<|x4 (x':=.agg [.I (G2 (v4.2.2-v4.2.1)),.I 0]) (cl':=true) J J (.inl J) J4<|R3<|a7 ?_;cases h;exact⟨J,[_,_],⟨oL J J J a0k K6 nl J,⟨oL J J J a1F J4 nl J,tr⟩⟩,J,io⟩
   ·refine sR ?_;refine y0 J (a9p (n:=a4i) (d:=.tup [.agg [.I (ifG v2 107 0)],.bool (decide (v2.t=107))]) J b1l b1p J J J)<|S2 2 J ?_;refine cN h (λhc h=>?_) λhc h=>?_
    ·refine S4 2 J ?_;refine S5 6 J<|cF h a68 J J λv5 _ h=>S2 11 J<|dr [1,1008] p7 (by kernel_rfl) (by kernel_rfl)<|S7 1 J<|d7 J (λ_ hN=>a10 (cs:=[.I v5.2.1,.I v5.2.2.2]) hN J J J J a1F J4 nl J) J<|x4 (x':=.agg [.L b6.Pv v5.1.S.S.o8,.I v5.1.S.S.Last,.I v5.1.S.Serial,.L iF v5.1.Roots,.L c9.Pv v5.1.o8,.L a8.Pv v5.1.T,.L k8.Pv v5.1.Q.L,.I v5.1.Q.Cap,.L (Ls j5.Pv) a0.Progs]) (cl':=true) J J (.inr J) K6<|x4 (x':=.agg [.I v5.2.1,.I v5.2.2.2]) (cl':=true) J J (.inl J) J4<|R3<|a7 ?_;cases h;exact⟨J,[_,_],⟨oL J J J a0k K6 nl J,⟨oL J J J a1F J4 nl J,tr⟩⟩,J,io⟩
    ·refine b5 ?_;refine dr [1,1008] p7 (by kernel_rfl) (by kernel_rfl)<|S7 1 J<|d7 J (λ_ hN=>a10 (cs:=[.I 0,.I 0]) hN J J J J a1F J4 nl J) J<|x4 (x':=l3.Pv a0) (cl':=true) J J (.inr J) K6<|x4 (x':=.agg [.I 0,.I 0]) (cl':=true) J J (.inl J) J4<|R3<|a7 ?_;cases h;exact⟨J,[_,_],⟨oL J J J a0k K6 nl J,⟨oL J J J a1F J4 nl J,tr⟩⟩,J,io⟩

theorem a6u{a0}:PO Tryz.prog 15 [k7.Pv a0] (a4T a0) λr=>.str r:=by
 refine pO Tryz.func15 λr h _ _=>?_;refine S4 2 J<|c5<|S4 3 J ?_;refine cN h (λhc h=>?_) λhc h=>?_
 ·refine S3 2 J ?_;refine cA h E3 J J λv1 _ h=>S2 1 J<|a7 ?_;cases h;exact f1
 ·refine b5 ?_;refine S3 2 J<|r9 h λv2 hv2 h=>y0 J (a5K J b0C J (b2M hv2))<|S2 1 J<|a7 ?_;cases h;exact f1

theorem a1Q{a0 a1 a2}:PO Tryz.prog 139 [c3.Pv a0,.I a1,.L iF a2] (O1 a0 a1 a2) λr=>.tup [c3.Pv r.1,.str r.2]:=by
 refine pO Tryz.func139 λr h _ _=>?_;unfold O1 at h;refine S4 3 J<|sR<|r9 h λv1 hv1 h=>y1 J (a7v (f:=iF) hv1 J J J j1 l7 y9 J3 J J J) J<|S2 1 J<|S3 2 J<|r9 h λv2 hv2 h=>y0 J (a0w (f:=iF) hv2 J J J J j1 l7 J)<|a4h (f:=iF) (v:=a1) hv2 J J (.inl J) l7<|yN<|S3 1 J<|r9 h λv3 hv3 h=>b59 (f:=iF) (ys:=a2) hv3 J J J J (by decide) j1 j1 l7 (λ_=>J) (by decide)<|yN<|S4 1 J<|S3 3 J<|r9 h λv4 hv4 h=>ycL J (u9 J a4X J hv4) J<|S2 6 J<|dr [] p7 (by kernel_rfl) (by kernel_rfl)<|S7 2 J<|r9 h λv5 hv5 h=>d2 J (H3 J a6u J hv5) J<|x4 (x':=.agg [.L b6.Pv v4.1.X.S.S.o8,.I v4.1.X.S.S.Last,.I v4.1.X.S.Serial,.L iF v4.1.X.Roots,.L c9.Pv v4.1.X.o8,.L a8.Pv v4.1.X.T,.L k8.Pv v4.1.X.Q.L,.I v4.1.X.Q.Cap,.L (Ls j5.Pv) v4.1.Progs,.bool a0.begun,.L (Ls j5.Pv) a0.progs]) (cl':=true) J J (.inr J) F4<|S8 1 J<|a7 ?_;cases h;exact⟨J,[_,_],⟨oL J J J S0 F4 nl J,⟨J,tr⟩⟩,J,io⟩

theorem a1R{a0 a1 a2}:PO Tryz.prog 138 [c3.Pv a0,.L iF a1,.rptr [.I a2]] (Z3 a0 a1 a2) λr=>.tup [c3.Pv r.1,.str r.2]:=by
 refine pO Tryz.func138 λr h _ _=>?_;refine S4 3 J<|S3 3 J<|cF h a1Q J J λv1 _ h=>S2 4 J<|a7 ?_;cases h;exact⟨J,[_,_],⟨oL J J J S0 F4 nl J,⟨J,tr⟩⟩,J,io⟩

theorem b0R{f:Fw}{a0:c3}{a1:List Int}{r:c3 × ByteArray}(h:a9h f a0 a1=some r):∃n cap,fwP f = .fn (.func n) cap∧FwC cap∧o7 Tryz.prog n∧E5 Tryz.prog n ([c3.Pv a0,.L iF a1]++cap) (.tup [c3.Pv r.1,.str r.2]):=by
 unfold a9h at h;match f,h with
 | none,h=>cases h
 | some (n,none),h=>
  dsimp only at h;by_cases e76:n=76
  ·rw[if_pos e76] at h;subst e76;exact⟨76,_,J,.inl J,b5g,a0p.2 _ h⟩
  rw[if_neg e76] at h;by_cases e78:n=78
  ·rw[if_pos e78] at h;subst e78;exact⟨78,_,J,.inl J,b5h,a1o.2 _ h⟩
  rw[if_neg e78] at h;by_cases e80:n=80
  ·rw[if_pos e80] at h;subst e80;exact⟨80,_,J,.inl J,b5i,a06.2 _ h⟩
  rw[if_neg e80] at h;by_cases e81:n=81
  ·rw[if_pos e81] at h;subst e81;exact⟨81,_,J,.inl J,b5j,a07.2 _ h⟩
  rw[if_neg e81] at h;by_cases e82:n=82
  ·rw[if_pos e82] at h;subst e82;exact⟨82,_,J,.inl J,b5k,a08.2 _ h⟩
  rw[if_neg e82] at h;cases h
 | some (n,some c),h=>
  dsimp only at h;by_cases e138:n=138
  ·rw[if_pos e138] at h;subst e138;exact⟨138,_,J,.inr ⟨c,J⟩,b3B,a1R.2 _ h⟩
  rw[if_neg e138] at h;cases h

theorem a0q{a0 a1}:PO Tryz.prog 24 [c3.Pv a0,.L PV.str a1] (I4 a0 a1) λr=>.tup [c3.Pv r.1,.str r.2]:=by
 refine pO Tryz.func24 λr h _ _=>?_;unfold I4 at h;refine S4 3 J<|dr [4] p7 (by kernel_rfl) (by kernel_rfl)<|r9 h λv1 hv1 h=>d2f J (u9 J a3K J hv1) J<|S7 1 J<|r9 h λv2 hv2 h=>d0 J (B4 (f:=PV.str) (cs:=[.str v2]) hv2 J J G9 V5 J J) J<|S7 1 J<|d7 J (λ_ hN=>b6y (es:=v1) (k:=v2) (E:=b4.Pv) (EK:=PV.str) (d:=.tup [b4.Pv ((F7 v1 v2).getD (⟨none,none,false⟩:b4)),.bool ((F7 v1 v2).isSome)]) J J C4 (C5 A7) a1N J (lk2 _ _ (⟨none,none,false⟩:b4))) J<|S7 4 J<|x4 (x':=b4.Pv ((F7 v1 v2).getD (⟨none,none,false⟩:b4))) (cl':=true) J J (.inl J) b1n<|S8 1 J<|S3 1 J<|r9 h λv3 hv3 h=>y0 J (a9l (f:=PV.str) hv3 J ⟨_,J⟩ J G9 V5 (λ_=>J))<|cF h a2O J J λv4 _ h=>S2 5 J<|c5<|S3 3 J<|k9 J (λhg=>mB J)<|k9 J (λhg=>a0x (ct hg) J)<|y0 J (D8 J J J (λq=>eqF q))<|S1 1 J<|k9 J (λhg=>oF J b1I J)<|k9 J (λhg=>oS (ct hg) J J b3s J)<|k9 J (λhg=>om (d:=.L iF v4.1) J)<|k9 J (λhg=>a3g (f:=iF) (ct hg) j1) ?_;rcases Bool.eq_false_or_eq_true (((!((F7 v1 v2).isSome))||(!v4.2))==false) with hg5 | hg5
 ·have h:=ifT h hg5;obtain⟨v5,hv6,h⟩:=a1l h;obtain⟨n6,c7,he7,hc10,hk8,hp9⟩:=b0Q hv6;refine E1 (b3f 32 (ct hg5) he7)<|yc (congrArg some hg5) (b1u (ls:=[]) (ds:=[.I (v4.1.length:Int)]) J hc10 hk8 (a0o (ct hg5) J) hp9)<|y0 (congrArg some hg5) (a0x J J)<|y0 J (b5R J J hg5)<|yN ?_;refine cN h (λhc h=>?_) λhc h=>?_
  ·refine dr [] p7 (by kernel_rfl) (by kernel_rfl) ?_;refine S7 1 J<|r9 h λv8 hv11 h=>d2 J (H3 J E3 J hv11) J<|x4 (x':=c3.Pv a0) (cl':=true) J J (.inr J) F4<|S8 1 J<|a7 ?_;cases h;exact⟨J,[_,_],⟨oL J J J S0 F4 nl J,⟨J,tr⟩⟩,J,io⟩
  ·refine b5 ?_;refine c5<|S3 4 J<|k9 J (λhg=>oF J b1J J)<|k9 J (λhg=>oS (ct hg) J J a8j J)<|k9 J (λhg=>a0x (ct hg) J)<|y0 J (A3 J J J (λq=>eqT q))<|yN ?_;refine cN h (λhc h=>?_) λhc h=>?_
   ·refine S4 3 J ?_;refine a7 ?_;cases h;exact⟨J,[_,_],⟨oL J J J S0 F4 nl J,⟨J,tr⟩⟩,J,io⟩
   ·refine b5 ?_;refine S3 4 J ?_;obtain⟨v9,hv12,h⟩:=a1l h;obtain⟨n10,c11,he13,hc16,hk14,hp15⟩:=b0R hv12;refine E1 (b3f 50 J he13)<|yc J (b1u (ls:=[]) (ds:=[c3.Pv a0,.L iF v4.1]) J hc16 hk14 J hp15)<|S2 4 J<|a7 ?_;cases h;exact⟨J,[_,_],⟨oL J J J S0 F4 nl J,⟨J,tr⟩⟩,J,io⟩
 ·have h:=ifF h hg5;refine R1 (congrArg some hg5)<|R1 (congrArg some hg5)<|y0 J (b5Q J J hg5)<|yN ?_;refine y7 true J (λ_=>?_) (λq=>nomatch q);refine dr [] p7 (by kernel_rfl) (by kernel_rfl)<|S7 1 J<|r9 h λv12 hv17 h=>d2 J (H3 J E3 J hv17) J<|x4 (x':=c3.Pv a0) (cl':=true) J J (.inr J) F4<|S8 1 J<|a7 ?_;cases h;exact⟨J,[_,_],⟨oL J J J S0 F4 nl J,⟨J,tr⟩⟩,J,io⟩

theorem a5w{a0}:PO Tryz.prog 11 [.str a0] (a3U a0) λr=>.L PV.str r:=by
 refine pO Tryz.func11 λr h _ _=>?_;refine S4 1 J<|S4 1 J<|S4 1 J ?_;refine jq h (λj21=>St.of [(3,.sl 910003)] [(910003,⟨List.map PV.str j21,(List.map PV.str j21).length,true,1,true⟩)]) (λj21 h=>?_) λκ20 h=>?_
 ·refine S4 2 J ?_;refine a7 ?_;cases h;exact f1
 ·refine S3 1 J ?_;obtain⟨v22,hv15,h⟩:=a1l h;refine yc J (a6K J b5d J (b53 hv15))<|nL J G9<|S2 1 J<|c6<|lq h (λq=>St.of [(3,.sl 910003),(4,.ptr 4 0 0),(10,.L PV.str v22),(11,.I (v22.length:Int)),(12,.I q.1)] [(4,vR (c3.Pv q.2.1) 11),(910003,⟨List.map PV.str q.2.2,(List.map PV.str q.2.2).length,true,1,true⟩)]) (Wk.trans (J0 (t:=3) (l:=920003) (z:=1) J J) (Wk.trans (a4J 4 0 J J J J) (Wk.trans (a4J 4 3 J J J J) (Wk.trans (a4J 4 4 J J J J) (Wk.trans (a4J 4 5 J J J J) (Wk.trans (a4J 4 6 J J J J) (Wk.trans (a4J 4 8 J J J J) (Wk.trans (a4J 4 10 J J J J) (WP (λl=>if l=910003 then 920003 else l)))))))))) λq28 x27 h hx18=>?_;obtain⟨s24,s25,s26⟩:=q28;refine S4 1 J<|c5 ?_;refine cN h (λhc h=>?_) λhc h=>?_
  ·refine b5 ?_;refine jq h (λq=>St.of [(3,.sl 910003),(4,.ptr 4 0 0),(10,.L PV.str v22),(11,.I (v22.length:Int)),(12,.I s24)] [(4,vR (c3.Pv q.1) 11),(910003,⟨List.map PV.str q.2,(List.map PV.str q.2).length,true,1,true⟩)]) (λq36 h=>?_) λκ33 h=>?_
   ·obtain⟨j34,j35⟩:=q36;refine S6 2 J ?_;exact eL h (Wk.trans (l6 _ [910003]) W)
   ·refine c6 ?_;refine sR<|iL h J J G9 V5 λv37 _ h=>S2 2 J<|S3 1 J<|cF h M7 J J λv38 _ h=>S2 1 J<|c5<|S3 1 J<|nL J G9<|S2 1 J ?_;refine cN h (λhc h=>?_) λhc h=>?_
    ·refine o9 ?_;refine c4<|j7 ?_;exact eJ h (Wk.trans (l6 _ [910003]) W)
    ·refine b5 ?_;refine S4 1 J<|S3 2 J<|cF h a0q J J λv39 _ h=>S2 5 J<|S5 2 J<|y0 J (J2 (f:=PV.str) (l:=[v39.2]) J G9 V5 b2s J J nl J J)<|r9 h λv40 hv27 h=>N9 J (L5 (f:=PV.str) hv27 J J J J J J (.inl ⟨_,J,J⟩) G9 V5 b4H b2s J (λ_=>J)) J J J<|S2 1 J ?_;exact eJ h (Wk.trans (l6 _ [30]) (WP (λl=>if l=910003 then 30 else l)))
  ·refine o9 ?_;refine c4<|c4<|j7 ?_;have h:=xL hx18 h;exact eJ h (Wk.trans (l6 _ [910003]) W)

theorem b0u{a0 a1}:PO Tryz.prog 38 [.I a0,.I a1] (b0t a0 a1) λr=>l3.Pv r:=by
 refine pO Tryz.func38 λr h _ _=>?_;refine S4 1 J<|S3 2 J<|cF h a3W J J λv1 _ h=>S2 6 J<|S4 2 J<|a7 ?_;cases h;exact⟨J,[_],⟨oL J J J a0k K6 nl J,tr⟩,J,io⟩

theorem W7{a0 a1 a2 a3}:PO Tryz.prog 39 [.I a0,.I a1,.I a2,.I a3] (a2o a0 a1 a2 a3) λr=>.lst true (List.map iF r):=by
 refine pO Tryz.func39 λr h _ _=>?_;unfold a2o at h;refine S4 1 J<|S3 4 J<|y0 J (J2 (f:=iF) (l:=[a0,a1,a2,a3]) J j1 l7 y9 J J nl J J)<|S2 1 J<|a7 ?_;cases h;exact f1

theorem a71{a0 a1}:PO Tryz.prog 37 [l3.Pv a0,.L (Ls iF) a1] (a7b a0 a1) λr=>.tup [l3.Pv r.1,.L k7.Pv r.2]:=by
 refine pO Tryz.func37 λr h _ _=>?_;refine S4 3 J<|S4 1 J ?_;refine jq h (λq=>St.of [(2,.ptr 2 0 0),(4,.ptr 4 0 0),(6,.sl 910006)] [(910006,⟨List.map k7.Pv q.2,(List.map k7.Pv q.2).length,true,2,true⟩),(4,vR (.agg [.nl,.I 0,.I 0,.nl,.nl,.nl,.nl,.I 0,.nl]) 9),(2,vR (l3.Pv q.1) 9)]) (λq13 h=>?_) λκ10 h=>?_
 ·obtain⟨j11,j12⟩:=q13;refine S4 4 J<|a7 ?_;cases h;exact⟨J,[_,_],⟨oL J J J a0k K6 nl J,⟨J,tr⟩⟩,J,io⟩
 ·refine S3 1 J ?_;refine nL J b0B<|S2 1 J<|c6<|lq h (λq=>St.of [(2,.ptr 2 0 0),(4,.ptr 4 0 0),(6,.sl 910006),(10,.L (Ls iF) a1),(11,.I (a1.length:Int)),(12,.I q.1)] [(4,vR (.agg [.nl,.I 0,.I 0,.nl,.nl,.nl,.nl,.I 0,.nl]) 9),(2,vR (l3.Pv q.2.1) 9),(910006,⟨List.map k7.Pv q.2.2,(List.map k7.Pv q.2.2).length,true,2,true⟩)]) (Wk.trans (J0 (t:=6) (l:=920006) (z:=2) J J) (WP (λl=>if l=910006 then 920006 else l))) λq19 x18 h hx10=>?_;obtain⟨s15,s16,s17⟩:=q19;refine S4 1 J<|c5 ?_;refine cN h (λhc h=>?_) λhc h=>?_
  ·refine b5 ?_;refine c5<|c6<|sR<|iL h J J b0B a6W λv20 _ h=>S2 2 J<|S4 1 J<|S3 2 J<|cF h a4X J J λv21 _ h=>S2 5 J<|S5 2 J<|y0 J (J2 (f:=k7.Pv) (l:=[v21.2]) J a1H J4 b0E J J nl J J)<|r9 h λv22 hv13 h=>N9 J (L5 (f:=k7.Pv) hv13 J J J J J J (.inl ⟨_,J,J⟩) a1H J4 b5b b0E J (λ_=>J)) J J J<|S2 1 J<|S6 2 J ?_;exact eL h (Wk.trans (l6 _ [25]) (WP (λl=>if l=910006 then 25 else l)))
  ·refine o9 ?_;refine c4<|c4<|j7 ?_;have h:=xL hx10 h;exact eJ h (Wk.trans (l6 _ [910006]) W)

theorem b0w:PO Tryz.prog 20 [] (b0v) λr=>.bool r:=by
 refine pO Tryz.func20 λr h _ _=>?_;refine S4 1 J<|sR<|cF h b0u J J λv1 _ h=>cF h W7 J J λv2 _ h=>cF h W7 J J λv3 _ h=>cF h W7 J J λv4 _ h=>cF h W7 J J λv5 _ h=>cF h W7 J J λv6 _ h=>cF h W7 J J λv7 _ h=>cF h W7 J J λv8 _ h=>y0 J (J2 (f:=(Ls iF)) (l:=[v2,v3,v4,v5,v6,v7,v8]) J b0B a6W b5p J J nl J J)<|cF h a71 J J λv9 _ h=>S2 6 J<|S3 1 J<|nL J a1H<|S1 2 J<|k9 J (λhg=>om (d:=.L k7.Pv v9.2) J)<|r9 h λv10 hv10 h=>k9 J (λhg=>B4 (f:=k7.Pv) (cs:=k7.Pc v10) (L6 hv10 hg) (ct hg) J a1H J4 J J)<|k9 J (λhg=>N4 (ct hg) a6U J)<|k9 J (λhg=>C6 (ct hg) G0 J)<|k9 J (λhg=>A0 (ct hg) J J)<|y0 J (A3 J J J (λq=>eqT q))<|S1 1 J<|k9 J (λhg=>om (d:=.L k7.Pv v9.2) J)<|r9 h λv11 hv11 h=>k9 J (λhg=>B4 (f:=k7.Pv) (cs:=k7.Pc v11) (L6 hv11 hg) (ct hg) J a1H J4 J J)<|k9 J (λhg=>N4 (ct hg) a6U J)<|k9 J (λhg=>C6 (ct hg) G0 J)<|k9 J (λhg=>A0 (ct hg) J J)<|y0 J (A3 J J J (λq=>eqT q))<|S1 1 J<|k9 J (λhg=>om (d:=.L k7.Pv v9.2) J)<|r9 h λv12 hv12 h=>k9 J (λhg=>B4 (f:=k7.Pv) (cs:=k7.Pc v12) (L6 hv12 hg) (ct hg) J a1H J4 J J)<|k9 J (λhg=>N4 (ct hg) a6U J)<|k9 J (λhg=>C6 (ct hg) G0 J)<|k9 J (λhg=>A0 (ct hg) J J)<|y0 J (A3 J J J (λq=>eqT q))<|S1 1 J<|k9 J (λhg=>om (d:=.L k7.Pv v9.2) J)<|r9 h λv13 hv13 h=>k9 J (λhg=>B4 (f:=k7.Pv) (cs:=k7.Pc v13) (L6 hv13 hg) (ct hg) J a1H J4 J J)<|k9 J (λhg=>N4 (ct hg) b2f J)<|k9 J (λhg=>C6 (ct hg) a5s J)<|k9 J (λhg=>A0 (ct hg) J J)<|y0 J (A3 J J J (λq=>eqT q))<|S1 1 J<|k9 J (λhg=>oL J J J a0k K6 nl J)<|r9 h λv14 hv14 h=>k9 J (λhg=>H3 J a2s (a0o (ct hg) J) (L6 hv14 hg))<|k9 J (λhg=>o6 (cs:=[.I 0,.I 2,.I 0,.I 0]) J b3N b3Y J J J)<|k9 J (λhg=>b6u (xs:=A4.Pc v14) (ys:=[.I 0,.I 2,.I 0,.I 0]) b3W (ct hg) (ct hg) J)<|y0 J (A3 J J J (λq=>eqT q))<|S2 1 J<|a7 ?_;cases h;exact f1

theorem wt_TopConsole_ok{a0 a1}:PO Tryz.prog 8 [.int .u8 a0,.int .u8 a1] (n0 a0 a1) λr=>.bool r:=by
 refine pO Tryz.func8 λr h _ _=>?_;unfold n0 at h;refine S4 1 J<|S3 1 J<|r9 h λv1 hv1 h=>y0 J (a5f J J hv1)<|S1 1 J<|y0 J (J2 (f:=(PV.int .u8)) (l:=[w8 (48+v1)]) J a8W b4I b4K J J nl J J)<|y0 J (b4U J a8W b4J A7)<|S2 1 J<|S3 1 J<|r9 h λv2 hv2 h=>y0 J (a5f J J hv2)<|S1 1 J<|y0 J (J2 (f:=(PV.int .u8)) (l:=[w8 (48+v2)]) J a8W b4I b4K J J nl J J)<|y0 J (b4U J a8W b4J A7)<|S2 1 J<|S3 1 J<|r9 h λv3 hv3 h=>y0 J (M0 hv3 J J A7)<|r9 h λv4 hv4 h=>y0 J (M0 hv4 J J A7)<|S1 1 J<|r9 h λv5 hv5 h=>y0 J (M0 hv5 J J A7)<|r9 h λv6 hv6 h=>y0 J (M0 hv6 J J A7)<|S1 1 J<|r9 h λv7 hv7 h=>y0 J (M0 hv7 J J A7)<|r9 h λv8 hv8 h=>y0 J (M0 hv8 J J A7)<|S1 1 J<|r9 h λv9 hv9 h=>y0 J (M0 hv9 J J A7)<|r9 h λv10 hv10 h=>y0 J (M0 hv10 J J A7)<|S1 1 J<|r9 h λv11 hv11 h=>y0 J (M0 hv11 J J A7)<|r9 h λv12 hv12 h=>y0 J (M0 hv12 J J A7)<|S1 1 J<|r9 h λv13 hv13 h=>y0 J (M0 hv13 J J A7)<|r9 h λv14 hv14 h=>y0 J (M0 hv14 J J A7)<|S1 1 J<|r9 h λv15 hv15 h=>y0 J (M0 hv15 J J A7)<|r9 h λv16 hv16 h=>y0 J (M0 hv16 J J A7)<|cF h a5w J J λv17 _ h=>S2 1 J<|S3 1 J<|nL J G9<|S1 2 J ?_;generalize ((v17.length:Int)==14)=b1_ at h ⊢;refine k9 J (λhg=>om (d:=.L PV.str v17) J)<|r9 h λv18 hv18 h=>k9 J (λhg=>B4 (f:=PV.str) (cs:=[.str v18]) (L6 hv18 hg) (ct hg) J G9 V5 J J)<|k9 J (λhg=>C6 (ct hg) a4N J)<|k9 J (λhg=>a5g (ct hg) J J)<|y0 J (A3 J J J (λq=>eqT q))<|S1 1 J ?_;generalize (b1_&&(v18.toList==(p5 [49]).toList))=b2_ at h ⊢;refine k9 J (λhg=>om (d:=.L PV.str v17) J)<|r9 h λv19 hv19 h=>k9 J (λhg=>B4 (f:=PV.str) (cs:=[.str v19]) (L6 hv19 hg) (ct hg) J G9 V5 J J)<|k9 J (λhg=>C6 (ct hg) a4N J)<|k9 J (λhg=>a5g (ct hg) J J)<|y0 J (A3 J J J (λq=>eqT q))<|S1 1 J ?_;generalize (b2_&&(v19.toList==(p5 [48]).toList))=b3_ at h ⊢;refine k9 J (λhg=>om (d:=.L PV.str v17) J)<|r9 h λv20 hv20 h=>k9 J (λhg=>B4 (f:=PV.str) (cs:=[.str v20]) (L6 hv20 hg) (ct hg) J G9 V5 J J)<|k9 J (λhg=>C6 (ct hg) a4N J)<|k9 J (λhg=>a5g (ct hg) J J)<|y0 J (A3 J J J (λq=>eqT q))<|S1 1 J ?_;generalize (b3_&&(v20.toList==(p5 [108,105,118,101,115,32,49]).toList))=b4_ at h ⊢;refine k9 J (λhg=>om (d:=.L PV.str v17) J)<|r9 h λv21 hv21 h=>k9 J (λhg=>B4 (f:=PV.str) (cs:=[.str v21]) (L6 hv21 hg) (ct hg) J G9 V5 J J)<|k9 J (λhg=>C6 (ct hg) a4N J)<|k9 J (λhg=>a5g (ct hg) J J)<|y0 J (A3 J J J (λq=>eqT q))<|S1 1 J ?_;generalize (b4_&&(v21.toList==(p5 [49]).toList))=b5_ at h ⊢;refine k9 J (λhg=>om (d:=.L PV.str v17) J)<|r9 h λv22 hv22 h=>k9 J (λhg=>B4 (f:=PV.str) (cs:=[.str v22]) (L6 hv22 hg) (ct hg) J G9 V5 J J)<|k9 J (λhg=>C6 (ct hg) a4N J)<|k9 J (λhg=>a5g (ct hg) J J)<|y0 J (A3 J J J (λq=>eqT q))<|S1 1 J ?_;generalize (b5_&&(v22.toList==(p5 [49]).toList))=b6_ at h ⊢;refine k9 J (λhg=>om (d:=.L PV.str v17) J)<|r9 h λv23 hv23 h=>k9 J (λhg=>B4 (f:=PV.str) (cs:=[.str v23]) (L6 hv23 hg) (ct hg) J G9 V5 J J)<|k9 J (λhg=>C6 (ct hg) a4N J)<|k9 J (λhg=>a5g (ct hg) J J)<|y0 J (A3 J J J (λq=>eqT q))<|S1 1 J ?_;generalize (b6_&&(v23.toList==(p5 [49]).toList))=b7_ at h ⊢;refine k9 J (λhg=>om (d:=.L PV.str v17) J)<|r9 h λv24 hv24 h=>k9 J (λhg=>B4 (f:=PV.str) (cs:=[.str v24]) (L6 hv24 hg) (ct hg) J G9 V5 J J)<|k9 J (λhg=>C6 (ct hg) a4N J)<|k9 J (λhg=>a5g (ct hg) J J)<|y0 J (A3 J J J (λq=>eqT q))<|S1 1 J ?_;generalize (b7_&&(v24.toList==(p5 [108,105,118,101,115]).toList))=b8_ at h ⊢;refine k9 J (λhg=>om (d:=.L PV.str v17) J)<|r9 h λv25 hv25 h=>k9 J (λhg=>B4 (f:=PV.str) (cs:=[.str v25]) (L6 hv25 hg) (ct hg) J G9 V5 J J)<|k9 J (λhg=>C6 (ct hg) a4N J)<|k9 J (λhg=>a5g (ct hg) J J)<|y0 J (A3 J J J (λq=>eqT q))<|S1 1 J ?_;generalize (b8_&&(v25.toList==(p5 [101,114,114,111,114,32,57]).toList))=b9_ at h ⊢;refine k9 J (λhg=>om (d:=.L PV.str v17) J)<|r9 h λv26 hv26 h=>k9 J (λhg=>B4 (f:=PV.str) (cs:=[.str v26]) (L6 hv26 hg) (ct hg) J G9 V5 J J)<|k9 J (λhg=>C6 (ct hg) a4N J)<|k9 J (λhg=>a5g (ct hg) J J)<|y0 J (A3 J J J (λq=>eqT q))<|S1 1 J ?_;generalize (b9_&&(v26.toList==(p5 [116,97,108,108,121,32,51,32,48,32,49,32,48]).toList))=b10_ at h ⊢;obtain⟨v27,hv27,h⟩:=a1l h;refine k9 J (λhg=>H3 J b0w J (L6 hv27 hg))<|y0 J (A3 J J J (λq=>eqT q))<|S2 1 J<|a7 ?_;cases h;exact f1

end Go.Proofs.YtppgkaeodaaidaaGreatDoor.Ok
