/-
 The functions of the program do as the plain functions do.
-/
import Derived.Test.YtlkcpapbolbjnaaGreatO20fOk1
set_option linter.unusedVariables false
set_option linter.unusedSimpArgs false
set_option linter.unusedSectionVars false
namespace Go.Proofs.YtlkcpapbolbjnaaGreat.Ok
open Go Go.Pw Go.Sh Go.Proofs
set_option maxRecDepth 100000
set_option maxHeartbeats 4000000
theorem J0{a0 a1 a2}:PO Tryz.prog 285 [g9.Pv a0,.I a1,b8.Pv a2] (D1 a0 a1 a2) λr=>g9.Pv r:=by
 refine pO Tryz.func285 λr h _ _=>?_;unfold D1 at h;refine S4 3 J<|S3 2 J<|u5 h λv1 hv1 h=>ycN J (b65 J M5 J hv1) J J<|S2 2 J<|S3 4 J<|u5 h λv2 hv2 h=>y0 J (a0W (f:=b8.Pv) hv2 J J J J H7 M8 J)<|a4G (f:=b8.Pv) (v:=a2) hv2 J J (.inr J) M8<|yN<|S4 2 J<|a8 ?_;cases h;exact⟨J,[_],⟨oL J J J a3o a1H nl J,tr⟩,J,io⟩

theorem a4d{a0 a1}:PO Tryz.prog 101 [.I a0,.I a1] (a0k a0 a1) λr=>.I r:=by
 refine pO Tryz.func101 λr h _ _=>?_;refine S4 1 J<|c5<|S3 3 J<|c8 J (λhg=>mI J)<|c8 J (λhg=>m8 (ct hg) J J)<|y0 J (r8 J J J (λq=>K5 q))<|S1 1 J<|c8 J (λhg=>mI J)<|c8 J (λhg=>m8 (ct hg) J J)<|y0 J (r8 J J J (λq=>K5 q))<|S1 1 J<|c8 J (λhg=>mI J)<|c8 J (λhg=>m8 (ct hg) J J)<|y0 J (r8 J J J (λq=>K5 q))<|yN ?_;refine cN h (λhc h=>?_) λhc h=>?_
 ·refine S4 1 J ?_;refine a8 ?_;cases h;exact f1
 ·refine b9 ?_;refine S4 7 J<|a8 ?_;cases h;exact f1

theorem a7g{a0 a1}:PO Tryz.prog 366 [g9.Pv a0,k9.Pv a1] (J5 a0 a1) λr=>.tup [g9.Pv r.1,.I r.2.1,.I r.2.2]:=by
 refine pO Tryz.func366 λr h _ _=>?_;refine S4 5 J ?_;refine jq h (λ_=>St.of [(2,.ptr 2005 0 0),(4,.ptr 2003 0 0),(5,.ptr 2002 0 0),(6,.ptr 2001 0 0)] [(2001,vR (.I 0) 1),(2002,vR (.I 0) 1),(2003,vR (.agg [.nl,.I 0]) 2),(2005,vR (g9.Pv a0) 2)]) (λq10 h=>?_) λκ9 h=>?_
 ·refine S4 4 J ?_;refine a8 ?_;cases h;exact⟨J,[_,_,_],⟨oL J J J a3o a1H nl J,⟨oS J J J p8 J,⟨oS J J J b4v J,tr⟩⟩⟩,J,io⟩
 ·refine S3 1 J ?_;refine cF h a7h J J λv11 _ h=>yN<|g5<|a3d (WPE (λl=>if l=2006 then 6 else if l=2007 then 5 else if l=2008 then 4 else if l=2009 then 3 else if l=2010 then 2 else l) [(2,.ptr 2010 0 0),(3,.ptr 2009 0 0),(4,.ptr 2008 0 0),(5,.ptr 2007 0 0),(6,.ptr 2006 0 0),(10,.fn (.func 397) [.rptr (g9.Pc v11)])] [(2006,vR (.I 0) 1),(2007,vR (.I 0) 1),(2008,vR (.agg [.nl,.I 0]) 2),(2009,vR (k9.Pv a1) 6),(2010,vR (g9.Pv a0) 2)]) ?_
  refine a0q (fn:=Tryz.f397) (N1:=23) J Tryz.func397 J J nl J c7x J J (λl19 e20 o21 hR22=>?_);refine S3 2 J<|nL J H7<|S2 1 J<|g5<|lq h (λs13=>St.of [(1000002,.ptr 2010 0 0),(1000003,.ptr 2009 0 0),(1000004,.ptr 2008 0 0),(1000005,.ptr 2007 0 0),(1000006,.ptr 2006 0 0),(1000010,.fn (.func 397) [.rptr (g9.Pc v11)]),(0,.fn (.yield l19) []),(6,.L b8.Pv v11.Cells),(7,.I (v11.Cells.length:Int)),(8,.I s13)] [(2006,vR (.I 0) 1),(2007,vR (.I 0) 1),(2008,vR (.agg [.nl,.I 0]) 2),(2009,vR (k9.Pv a1) 6),(2010,vR (g9.Pv a0) 2)]) W λs13 x14 h hx25=>S4 1 J<|c5 ?_;refine cN h (λhc h=>?_) λhc h=>?_
  ·refine b9 ?_;refine c5<|g5<|S3 1 J<|iL h J J H7 M8 λv15 _ h=>S2 4 J<|S3 4 J<|c8 J (λhg=>om (d:=.fn (.yield l19) []) J)<|c8 J (λhg=>mI J) ?_;rcases Bool.eq_false_or_eq_true ((v15.State==0)==true) with hg27 | hg27
   ·have h:=ifT h hg27;refine L8 (WE [(1000002,.ptr 2010 0 0),(1000003,.ptr 2009 0 0),(1000004,.ptr 2008 0 0),(1000005,.ptr 2007 0 0),(1000006,.ptr 2006 0 0),(1000010,.fn (.func 397) [.rptr (g9.Pc v11)]),(0,.fn (.yield l19) []),(6,.L b8.Pv v11.Cells),(7,.I (v11.Cells.length:Int)),(8,.I s13),(16,.bool (v15.State==0)),(17,.fn (.yield l19) []),(18,.I s13)] [(2006,vR (.I 0) 1),(2007,vR (.I 0) 1),(2008,vR (.agg [.nl,.I 0]) 2),(2009,vR (k9.Pv a1) 6),(2010,vR (g9.Pv a0) 2)]) ?_;refine a3T hR22 (congrArg some hg27) J J J J J (λe28 o29 o30=>?_);refine S6 1 J ?_;refine⟨J,?_⟩;refine g5<|S3 3 J<|iL h J J H7 M8 λv16 _ h=>S2 3 J<|S3 4 J<|y0 J (o9 (cs:=[.I 1,.I v16.Gen,.I a1.Serial,.I a1.Strong,.I a1.Weak,.I a1.Prog,.bool a1.Started,.L iF a1.Fields]) J b3V a8W J J J)<|cF h J0 J J λv17 _ h=>S1 2 J<|cA h a4d J J λv18 _ h=>S2 3 J<|a8 ?_;refine⟨J,?_⟩;refine L8 (WE [(1000002,.ptr 2010 0 0),(1000003,.ptr 2009 0 0),(1000004,.ptr 2008 0 0),(1000005,.ptr 2007 0 0),(1000006,.ptr 2006 0 0),(1000010,.fn (.func 397) [.rptr (g9.Pc v11)]),(0,.fn (.yield l19) []),(6,.L b8.Pv v11.Cells),(7,.I (v11.Cells.length:Int)),(8,.I s13),(16,.bool (v15.State==0)),(19,.bool false)] [(2006,vR (.I 0) 1),(2007,vR (.I v18) 1),(2008,vR (g9.Pv v17) 2),(2009,vR (k9.Pv a1) 6),(2010,vR (g9.Pv a0) 2)])<|y0 (congrArg some hg27) (U3 J J)<|y0 J (a9f J J hg27)<|yN ?_;refine H6 true J (λ_=>?_) (λq=>nomatch q);refine a8 ?_;refine .inr ⟨.ret,J,c8b ?_⟩;have h:=xL hx25 h;cases h;exact⟨J,[_,_,_],⟨oL J J J a3o a1H nl J,⟨oS J J J p8 J,⟨oS J J J b4v J,tr⟩⟩⟩,J,io⟩
   ·have h:=ifF h hg27;refine a2e (congrArg some hg27)<|a2e (congrArg some hg27)<|y0 J (a9e J J hg27)<|yN ?_;refine H6 false J (λq=>nomatch q) (λ_=>?_);refine b9<|S6 2 J ?_;exact eL h W
  ·refine l6 ?_;refine c4<|c4<|j1 ?_;refine .inl ⟨J,?_⟩;have h:=xL hx25 h;exact eJ h (WP (λl=>if l=2005 then 2010 else if l=2003 then 2008 else if l=2002 then 2007 else if l=2001 then 2006 else l))

theorem b6w{a0 a1 a2}:PO Tryz.prog 314 [a7.Pv a0,.I a1,.I a2] (S0 a0 a1 a2) λr=>.tup [a7.Pv r.1,.I r.2.1,.I r.2.2]:=by
 refine pO Tryz.func314 λr h _ _=>?_;refine S4 4 J<|S3 1 J<|cF h c12 J J λv1 _ h=>S2 5 J<|c5<|S4 2 J ?_;refine cN h (λhc h=>?_) λhc h=>?_
 ·refine S4 5 J ?_;refine a8 ?_;cases h;exact⟨J,[_,_,_],⟨oL J J J a5q a5t nl J,⟨J,⟨J,tr⟩⟩⟩,J,io⟩
 ·refine b9 ?_;refine c5<|S3 1 J<|cA h a3j J J λv2 _ h=>S2 1 J ?_;refine cN h (λhc h=>?_) λhc h=>?_
  ·refine S4 4 J ?_;refine a8 ?_;cases h;exact⟨J,[_,_,_],⟨oL J J J a5q a5t nl J,⟨J,⟨J,tr⟩⟩⟩,J,io⟩
  ·refine b9 ?_;refine S3 7 J<|y0 J (o9 (cs:=[.I (x6 (a0.Serial+1)),.I 0,.I 0,.I a2,.bool false,.L iF v1.1]) J c7y c7L J J J)<|cF h a7g J J λv3 _ h=>S2 8 J<|c5<|S4 2 J ?_;refine cN h (λhc h=>?_) λhc h=>?_
   ·refine S4 5 J ?_;refine a8 ?_;cases h;exact⟨J,[_,_,_],⟨oL J J J a5q a5t nl J,⟨J,⟨J,tr⟩⟩⟩,J,io⟩
   ·refine b9 ?_;refine S3 4 J<|y0 J (o9 (cs:=[.L b8.Pv v3.1.Cells,.I v3.1.Last,.I (x6 (a0.Serial+1))]) J c4N c4U J J J)<|S2 4 J<|a8 ?_;cases h;exact⟨J,[_,_,_],⟨oL J J J a5q a5t nl J,⟨J,⟨J,tr⟩⟩⟩,J,io⟩

theorem a7y{a0}:PO Tryz.prog 347 [.I a0] (a1Q a0) λr=>.tup [.I r.1,.I r.2.1,.bool r.2.2]:=by
 refine pO Tryz.func347 λr h _ _=>?_;refine S4 3 J<|c5<|S4 2 J ?_;refine cN h (λhc h=>?_) λhc h=>?_
 ·refine S4 3 J ?_;refine a8 ?_;cases h;exact f3
 ·refine b9 ?_;refine S3 2 J<|u5 h λv1 hv1 h=>y0 J (a56 J J hv1)<|u5 h λv2 hv2 h=>y0 J (a56 J J hv2)<|S1 2 J<|u5 h λv3 hv3 h=>y0 J (a56 J J hv3)<|S2 2 J<|c5<|S3 3 J<|c8 J (λhg=>mI J)<|c8 J (λhg=>m8 (ct hg) J J)<|y0 J (r8 J J J (λq=>K5 q))<|yN ?_;refine cN h (λhc h=>?_) λhc h=>?_
  ·refine S4 3 J ?_;refine a8 ?_;cases h;exact f3
  ·refine b9 ?_;refine S4 5 J<|a8 ?_;cases h;exact f3

theorem a8e{a0}:PO Tryz.prog 277 [.I a0] (a27 a0) λr=>.I r:=by
 refine pO Tryz.func277 λr h _ _=>?_;refine S4 1 J<|S3 1 J<|cA h a7y J J λv1 _ h=>S2 7 J<|S4 2 J<|a8 ?_;cases h;exact f1

theorem a94{a0}:PO Tryz.prog 278 [.I a0] (a4b a0) λr=>.I r:=by
 refine pO Tryz.func278 λr h _ _=>?_;refine S4 1 J<|S3 1 J<|cA h a7y J J λv1 _ h=>S2 7 J<|S4 2 J<|a8 ?_;cases h;exact f1

theorem G0{a0 a1}:PO Tryz.prog 208 [g9.Pv a0,.I a1] (u7 a0 a1) λr=>.tup [.I r.1,.I r.2]:=by
 refine pO Tryz.func208 λr h _ _=>?_;refine S4 3 J<|c5<|S4 2 J ?_;refine cN h (λhc h=>?_) λhc h=>?_
 ·refine S4 2 J ?_;refine a8 ?_;cases h;exact f2
 ·refine b9 ?_;refine S3 1 J<|cA h a8e J J λv1 _ h=>S2 1 J<|c5<|S3 3 J<|c8 J (λhg=>mI J)<|c8 J (λhg=>oF J c4H J)<|c8 J (λhg=>oS (ct hg) J J c9N J)<|c8 J (λhg=>H9 (f:=b8.Pv) (ct hg) H7)<|c8 J (λhg=>m8 (ct hg) (ct hg) J)<|y0 J (r8 J J J (λq=>K5 q))<|yN ?_;refine cN h (λhc h=>?_) λhc h=>?_
  ·refine S4 2 J ?_;refine a8 ?_;cases h;exact f2
  ·refine b9 ?_;refine S3 3 J<|iL h J J H7 M8 λv2 _ h=>S2 3 J<|c5<|dr [] p6 (by kernel_rfl) (by kernel_rfl)<|S7 3 J<|u5 h λv3 hv3 h=>d2 J (A0 J a94 J hv3) J<|S7 2 J<|s7 J (λhg _ hN=>oF J a5K J) J<|A5 J (λhg=>oS (ct hg) J J p8 J) J<|s7 J (λhg _ hN=>m8 (ct hg) J J) J<|s7 J (λhg _ hN=>om (d:=.bool (v2.State != 1)) (ct hg)) J<|s7 (w8 J J J) (λhg _ hN=>oF J a5K J) J<|A5 (w8 J J J) (λhg=>oS (ct hg) J J p8 J) J<|s7 (w8 J J J) (λhg _ hN=>m8 (ct hg) J J) J<|s7 J (λhg _ hN=>n9 (ct hg) J J (λq=>a3I hg (K3 q))) J<|d7 J (λ_ hN=>r8 J J J (λq=>K5 q)) J<|N2 ?_
   refine cN h (λhc h=>?_) λhc h=>?_
   ·refine S4 2 J ?_;refine a8 ?_;cases h;exact f2
   ·refine b9 ?_;refine S4 3 J<|a8 ?_;cases h;exact f2

theorem a2l{a0 a1}:PO Tryz.prog 152 [g9.Pv a0,.I a1] (D8 a0 a1) λr=>.tup [k9.Pv r.1,.I r.2]:=by
 refine pO Tryz.func152 λr h _ _=>?_;refine S4 3 J<|S4 1 J<|S3 2 J<|cA h G0 J J λv1 _ h=>S2 5 J<|c5<|S4 2 J ?_;refine cN h (λhc h=>?_) λhc h=>?_
 ·refine S3 2 J ?_;refine a8S (x':=.agg [.I 0,.I 0,.I 0,.I 0,.bool false,.nl]) (cl':=true) J J (.inl J) a4P<|S2 1 J<|a8 ?_;cases h;exact⟨J,[_,_],⟨oL J J J b0S a4P nl J,⟨J,tr⟩⟩,J,io⟩
 ·refine b9 ?_;refine c5<|S3 3 J<|iL h J J H7 M8 λv2 hv2 h=>S2 3 J ?_;refine cN h (λhc h=>?_) λhc h=>?_
  ·refine S3 1 J ?_;refine a8S (x':=.agg [.I 0,.I 0,.I 0,.I 0,.bool false,.nl]) (cl':=true) J J (.inl J) a4P<|S2 1 J<|a8 ?_;cases h;exact⟨J,[_,_],⟨oL J J J b0S a4P nl J,⟨J,tr⟩⟩,J,io⟩
  ·refine b9 ?_;refine S3 3 J<|y0 J (x5 (f:=b8.Pv) (cs:=b8.Pc v2) hv2 J J H7 M8 J J)<|S2 4 J<|a8 ?_;cases h;exact⟨J,[_,_],⟨oL J J J b0S a4P nl J,⟨J,tr⟩⟩,J,io⟩

theorem C2{a0 a1}:PO Tryz.prog 74 [a7.Pv a0,.I a1] (y5 a0 a1) λr=>.tup [k9.Pv r.1,.I r.2]:=by
 refine pO Tryz.func74 λr h _ _=>?_;refine S4 3 J<|S3 3 J<|cF h a2l J J λv1 _ h=>S2 4 J<|a8 ?_;cases h;exact⟨J,[_,_],⟨oL J J J b0S a4P nl J,⟨J,tr⟩⟩,J,io⟩

theorem a1T{a0 a1}:PO Tryz.prog 202 [b7.Pv a0,.I a1] (a0n a0 a1) λr=>.bool r:=by
 refine pO Tryz.func202 λr h _ _=>?_;refine S4 2 J<|S3 3 J<|cF h C2 J J λv1 _ h=>S2 6 J<|S4 3 J<|a8 ?_;cases h;exact f1

theorem P1{a0 a1}:PO Tryz.prog 183 [b7.Pv a0,.I a1] (I0 a0 a1) λr=>.bool r:=by
 refine pO Tryz.func183 λr h _ _=>?_;unfold I0 at h;refine S4 2 J<|S3 3 J<|c8 J (λhg=>oL J J J u4 p5 nl J)<|c8 J (λhg=>mI J)<|u5 h λv1 hv1 h=>c8 J (λhg=>A0 J a1T (w7 (ct hg) (w7 (ct hg) J)) (B6 hv1 hg))<|y0 J (r8 J J J (λq=>K5 q))<|S2 1 J<|a8 ?_;cases h;exact f1

theorem a0g{a0}:PO Tryz.prog 281 [.I a0] (G3 a0) λr=>.bool r:=by
 refine pO Tryz.func281 λr h _ _=>?_;unfold G3 at h;refine S4 1 J<|S4 3 J<|a8 ?_;cases h;exact f1

theorem b09{a0}:PO Tryz.prog 288 [.I a0] (a4a a0) λr=>.tup [.I r.1,.I r.2]:=by
 refine pO Tryz.func288 λr h _ _=>?_;refine S4 2 J<|c5<|S3 1 J<|cA h a0g J J λv1 _ h=>yN ?_;refine cN h (λhc h=>?_) λhc h=>?_
 ·refine S4 2 J ?_;refine a8 ?_;cases h;exact f2
 ·refine b9 ?_;refine S3 1 J<|y0 J (c9B J J J)<|S2 3 J<|a8 ?_;cases h;exact f2

theorem b7A{a0}:PO Tryz.prog 218 [.I a0] (a81 a0) λr=>.I r:=by
 refine pO Tryz.func218 λr h _ _=>?_;refine S4 1 J<|S3 1 J<|cA h b09 J J λv1 _ h=>S2 5 J<|S4 2 J<|a8 ?_;cases h;exact f1

theorem a7N{a0 a1 a2}:PO Tryz.prog 216 [g9.Pv a0,.I a1,k9.Pv a2] (K9 a0 a1 a2) λr=>.tup [g9.Pv r.1,.I r.2]:=by
 refine pO Tryz.func216 λr h _ _=>?_;refine S4 4 J<|S3 2 J<|cA h G0 J J λv1 _ h=>S2 5 J<|c5<|S4 2 J ?_;refine cN h (λhc h=>?_) λhc h=>?_
 ·refine S4 4 J ?_;refine a8 ?_;cases h;exact⟨J,[_,_],⟨oL J J J a3o a1H nl J,⟨J,tr⟩⟩,J,io⟩
 ·refine b9 ?_;refine S3 3 J<|iL h J J H7 M8 λv2 _ h=>S2 3 J<|S4 3 J<|S3 3 J<|cF h J0 J J λv3 _ h=>S2 2 J<|a8 ?_;cases h;exact⟨J,[_,_],⟨oL J J J a3o a1H nl J,⟨J,tr⟩⟩,J,io⟩

theorem a0R{a0 a1 a2}:PO Tryz.prog 130 [a7.Pv a0,.I a1,k9.Pv a2] (L0 a0 a1 a2) λr=>.tup [a7.Pv r.1,.I r.2]:=by
 refine pO Tryz.func130 λr h _ _=>?_;refine S4 4 J<|S4 1 J<|S3 4 J<|cF h a7N J J λv1 _ h=>S2 6 J<|S4 4 J<|a8 ?_;cases h;exact⟨J,[_,_],⟨oL J J J a5q a5t nl J,⟨J,tr⟩⟩,J,io⟩

theorem a4g{a0 a1}:PO Tryz.prog 186 [b7.Pv a0,.I a1,.fn (.func 218) []] (U0 a0 a1) λr=>b7.Pv r:=by
 refine pO Tryz.func186 λr h _ _=>?_;refine S4 2 J<|S3 3 J<|cF h C2 J J λv1 _ h=>S2 6 J<|c5<|S4 2 J ?_;refine cN h (λhc h=>?_) λhc h=>?_
 ·refine S3 3 J ?_;refine cA h b7A J J λv2 _ h=>S2 2 J<|S5 4 J<|cF h a0R J J λv3 _ h=>S2 5 J<|S4 2 J<|a8 ?_;cases h;exact⟨J,[_],⟨oL J J J u4 p5 nl J,tr⟩,J,io⟩
 ·refine b9 ?_;refine S4 2 J<|a8 ?_;cases h;exact⟨J,[_],⟨oL J J J u4 p5 nl J,tr⟩,J,io⟩

theorem a1S{a0 a1}:PO Tryz.prog 132 [b7.Pv a0,.I a1] (a0l a0 a1) λr=>b7.Pv r:=by
 refine pO Tryz.func132 λr h _ _=>?_;refine S4 2 J<|S3 2 J<|cF h a4g J J λv1 _ h=>S2 1 J<|a8 ?_;cases h;exact⟨J,[_],⟨oL J J J u4 p5 nl J,tr⟩,J,io⟩

theorem a1d{a0}:PON Tryz.prog 196 [.L iF a0] (F6 a0) λr=>⟨List.map iF r,0,true,1,true⟩:=by
 refine pON Tryz.func196 λr h _ _=>?_;unfold F6 at h;refine S4 1 J<|c5<|S3 1 J<|b86 J j5 λb hb=>yN ?_;refine H6 b J (λhc=>?_) (λhc=>?_)
 ·obtain rfl:a0 = []:=by simpa using hb hc
  refine S4 1 J<|a3d (G1 (t:=2) (l:=920000) (z:=1) J J)<|a8 ?_;cases h;exact⟨J,_,_,J,J,J,J⟩
 ·refine b9 ?_;refine sR<|y0 J (B5 J j5 n7)<|S1 1 J<|y1 J (a7C (f:=iF) h J J (.inl ⟨_,J,J⟩) j5 n7 J6 B9 J (λ_=>J)) J<|S2 1 J<|a8 ?_;exact⟨J,_,_,J,J,J,J⟩

theorem a7K{a0 a1}:PO Tryz.prog 185 [I6.Pv a0,b7.Pv a1] (P6 a0 a1) λr=>b7.Pv r:=by
 refine pO Tryz.func185 λr h _ _=>?_;unfold P6 at h;refine S4 3 J<|S3 2 J<|u5 h λv1 hv1 h=>ycN J (b65 J a1d J hv1) J J<|S2 2 J<|S3 6 J<|u5 h λv2 hv2 h=>y0 J (a0W (f:=iF) hv2 J J J J j5 n7 J)<|a4G (f:=iF) (v:=a0.h) hv2 J J (.inl J) n7<|yN<|S4 2 J<|a8 ?_;cases h;exact⟨J,[_],⟨oL J J J u4 p5 nl J,tr⟩,J,io⟩

theorem a9O{a0}:PO Tryz.prog 265 [.I a0] (a2n a0) λr=>.tup [.I r.1,.I r.2]:=by
 refine pO Tryz.func265 λr h _ _=>?_;refine S4 2 J<|c5<|S3 1 J<|cA h a0g J J λv1 _ h=>yN ?_;refine cN h (λhc h=>?_) λhc h=>?_
 ·refine S4 2 J ?_;refine a8 ?_;cases h;exact f2
 ·refine b9 ?_;refine c5<|S4 2 J ?_;refine cN h (λhc h=>?_) λhc h=>?_
  ·refine S4 2 J ?_;refine a8 ?_;cases h;exact f2
  ·refine b9 ?_;refine S4 4 J<|a8 ?_;cases h;exact f2

theorem b7z{a0}:PO Tryz.prog 188 [.I a0] (b2F a0) λr=>.tup [.I r.1,.I r.2]:=by
 refine pO Tryz.func188 λr h _ _=>?_;refine S4 2 J<|S3 1 J<|cA h a9O J J λv1 _ h=>S2 5 J<|S4 4 J<|a8 ?_;cases h;exact f2

theorem b1o{a0}:PO Tryz.prog 187 [.I a0] (a1R a0) λr=>.I r:=by
 refine pO Tryz.func187 λr h _ _=>?_;refine S4 1 J<|S3 1 J<|cA h b7z J J λv1 _ h=>S2 5 J<|c5<|S4 2 J ?_;refine cN h (λhc h=>?_) λhc h=>?_
 ·refine S4 2 J ?_;refine a8 ?_;cases h;exact f1
 ·refine b9 ?_;refine S4 2 J<|a8 ?_;cases h;exact f1

theorem a2g{a0 a1}:PO Tryz.prog 186 [b7.Pv a0,.I a1,.fn (.func 187) []] (N9 a0 a1) λr=>b7.Pv r:=by
 refine pO Tryz.func186 λr h _ _=>?_;refine S4 2 J<|S3 3 J<|cF h C2 J J λv1 _ h=>S2 6 J<|c5<|S4 2 J ?_;refine cN h (λhc h=>?_) λhc h=>?_
 ·refine S3 3 J ?_;refine cA h b1o J J λv2 _ h=>S2 2 J<|S5 4 J<|cF h a0R J J λv3 _ h=>S2 5 J<|S4 2 J<|a8 ?_;cases h;exact⟨J,[_],⟨oL J J J u4 p5 nl J,tr⟩,J,io⟩
 ·refine b9 ?_;refine S4 2 J<|a8 ?_;cases h;exact⟨J,[_],⟨oL J J J u4 p5 nl J,tr⟩,J,io⟩

theorem W8{a0 a1}:PO Tryz.prog 110 [b7.Pv a0,.I a1] (D0 a0 a1) λr=>b7.Pv r:=by
 refine pO Tryz.func110 λr h _ _=>?_;refine S4 2 J<|S3 2 J<|cF h a2g J J λv1 _ h=>S2 1 J<|a8 ?_;cases h;exact⟨J,[_],⟨oL J J J u4 p5 nl J,tr⟩,J,io⟩

theorem a1k{a0 a1 a2 a3}:PO Tryz.prog 184 [b7.Pv a0,.I a1,.I a2,.abs (BFn 185 [I6.Pv a3])] (F3 a0 a1 a2 a3) λr=>b7.Pv r:=by
 refine pO Tryz.func184 λr h _ _=>?_;refine S4 2 J<|S3 3 J<|cF h a1S J J λv1 _ h=>u5 h λv2 hv2 h=>b85 (xs:=[b7.Pv v1]) J J c7p J (a7K.2 _ hv2)<|S1 1 J<|cF h W8 J J λv3 _ h=>S2 1 J<|a8 ?_;cases h;exact⟨J,[_],⟨oL J J J u4 p5 nl J,tr⟩,J,io⟩

theorem a6S{a0 a1 a2}:PO Tryz.prog 109 [b7.Pv a0,.I a1,.I a2] (a0J a0 a1 a2) λr=>.tup [b7.Pv r.1,.I r.2]:=by
 refine pO Tryz.func109 λr h _ _=>?_;refine S4 3 J<|c5<|S3 3 J<|c8 J (λhg=>mI J)<|c8 J (λhg=>oF J b0T J)<|c8 J (λhg=>oS (ct hg) J J a0a J)<|c8 J (λhg=>H9 (f:=iF) (ct hg) j5)<|c8 J (λhg=>m8 (ct hg) (ct hg) J)<|y0 J (r8 J J J (λq=>K5 q))<|yN ?_;refine cN h (λhc h=>?_) λhc h=>?_
 ·refine S4 3 J ?_;refine a8 ?_;cases h;exact⟨J,[_,_],⟨oL J J J u4 p5 nl J,⟨J,tr⟩⟩,J,io⟩
 ·refine b9 ?_;refine c5<|S3 2 J<|cA h P1 J J λv1 _ h=>S2 1 J ?_;refine cN h (λhc h=>?_) λhc h=>?_
  ·refine S4 3 J ?_;refine a8 ?_;cases h;exact⟨J,[_,_],⟨oL J J J u4 p5 nl J,⟨J,tr⟩⟩,J,io⟩
  ·refine b9 ?_;refine dr [] p6 (by kernel_rfl) (by kernel_rfl)<|S7 4 J<|u5 h λv2 hv2 h=>d0 J (x5 (f:=iF) (cs:=[.I v2]) hv2 J J j5 n7 J J) J<|S7 4 J<|d7 J (λ_ hN=>o9 (cs:=[.I a1,.I a2]) J c7C c7O J J J) J<|d7 J (λ_ hN=>b2Z (d:=.agg [.I a1,.I a2]) J) J<|u5 h λv3 hv3 h=>d2f J (y8 J a1k J hv3) J<|C9 (x':=b7.Pv v3) (cl':=true) J J (.inr J) p5<|S8 1 J<|a8 ?_
   cases h;exact⟨J,[_,_],⟨oL J J J u4 p5 nl J,⟨J,tr⟩⟩,J,io⟩

theorem H3{a0 a1 a2}:PO Tryz.prog 315 [r9.Pv a0,.I a1,.I a2] (B7 a0 a1 a2) λr=>.tup [b7.Pv r.1,.I r.2]:=by
 refine pO Tryz.func315 λr h _ _=>?_;refine S4 3 J<|c5<|S4 2 J ?_;refine cN h (λhc h=>?_) λhc h=>?_
 ·refine S4 5 J ?_;refine a8 ?_;cases h;exact⟨J,[_,_],⟨oL J J J u4 p5 nl J,⟨J,tr⟩⟩,J,io⟩
 ·refine b9 ?_;refine S3 6 J<|cF h a6S J J λv1 _ h=>S2 4 J<|a8 ?_;cases h;exact⟨J,[_,_],⟨oL J J J u4 p5 nl J,⟨J,tr⟩⟩,J,io⟩

theorem a10{a0}:PO Tryz.prog 242 [r9.Pv a0] (T0 a0) λr=>.tup [b7.Pv r.1,.I r.2]:=by
 refine pO Tryz.func242 λr h _ _=>?_;refine S4 3 J<|S3 9 J<|cF h b6w J J λv1 _ h=>S2 8 J<|c5<|S4 2 J ?_;refine cN h (λhc h=>?_) λhc h=>?_
 ·refine S4 5 J ?_;refine a8 ?_;cases h;exact⟨J,[_,_],⟨oL J J J u4 p5 nl J,⟨J,tr⟩⟩,J,io⟩
 ·refine b9 ?_;refine S4 4 J<|S3 2 J<|cF h H3 J J λv2 _ h=>S2 4 J<|a8 ?_;cases h;exact⟨J,[_,_],⟨oL J J J u4 p5 nl J,⟨J,tr⟩⟩,J,io⟩

theorem O1{a0 a1}:PO Tryz.prog 181 [b7.Pv a0,.I a1] (L6 a0 a1) λr=>.I r:=by
 refine pO Tryz.func181 λr h _ _=>?_;refine S4 2 J<|c5<|S3 3 J<|c8 J (λhg=>mI J)<|c8 J (λhg=>oF J b0T J)<|c8 J (λhg=>oS (ct hg) J J a0a J)<|c8 J (λhg=>H9 (f:=iF) (ct hg) j5)<|c8 J (λhg=>m8 (ct hg) (ct hg) J)<|y0 J (r8 J J J (λq=>K5 q))<|yN ?_;refine cN h (λhc h=>?_) λhc h=>?_
 ·refine S4 1 J ?_;refine a8 ?_;cases h;exact f1
 ·refine b9 ?_;refine S3 3 J<|iL h J J j5 n7 λv1 _ h=>S2 2 J<|a8 ?_;cases h;exact f1

theorem a0V{a0}:PO Tryz.prog 243 [r9.Pv a0] (I8 a0) λr=>.tup [b7.Pv r.1,.I r.2]:=by
 refine pO Tryz.func243 λr h _ _=>?_;unfold I8 at h;refine S4 3 J<|dr [] p6 (by kernel_rfl) (by kernel_rfl)<|S7 6 J<|u5 h λv1 hv1 h=>d2 J (A0 J O1 J hv1) J<|u5 h λv2 hv2 h=>d2f J (y8 J H3 J hv2) J<|S7 2 J<|C9 (x':=b7.Pv v2.1) (cl':=true) J J (.inr J) p5<|S8 1 J<|a8 ?_
 cases h;exact⟨J,[_,_],⟨oL J J J u4 p5 nl J,⟨J,tr⟩⟩,J,io⟩

theorem a28{a0}:PO Tryz.prog 244 [r9.Pv a0] (Z5 a0) λr=>.tup [b7.Pv r.1,.I r.2]:=by
 refine pO Tryz.func244 λr h _ _=>?_;refine S4 3 J<|S3 1 J<|cF h H3 J J λv1 _ h=>S2 4 J<|a8 ?_;cases h;exact⟨J,[_,_],⟨oL J J J u4 p5 nl J,⟨J,tr⟩⟩,J,io⟩

theorem R1{a0 a1}:PO Tryz.prog 316 [b7.Pv a0,.I a1] (M2 a0 a1) λr=>.tup [.I r.1,.I r.2]:=by
 refine pO Tryz.func316 λr h _ _=>?_;refine S4 3 J<|S3 2 J<|cA h O1 J J λv1 _ h=>S2 1 J<|c5<|S4 2 J ?_;refine cN h (λhc h=>?_) λhc h=>?_
 ·refine S4 2 J ?_;refine a8 ?_;cases h;exact f2
 ·refine b9 ?_;refine S4 3 J<|a8 ?_;cases h;exact f2

theorem b5W{a0 a1}:PO Tryz.prog 391 [.L iF a0,.I a1] (a7q a0 a1) λr=>.bool r:=by
 refine pO Tryz.func391 λr h _ _=>?_;unfold a7q at h;refine S4 1 J<|S3 3 J<|c8 J (λhg=>mI J)<|c8 J (λhg=>om (d:=.L iF a0) J)<|c8 J (λhg=>H9 (f:=iF) (ct hg) j5)<|c8 J (λhg=>m8 (ct hg) (ct hg) J)<|y0 J (n9 J J J (λq=>K3 q))<|S2 1 J<|a8 ?_;cases h;exact f1

theorem c4A{a0 a1}:PO Tryz.prog 367 [.L iF a0,.I a1] (b3f a0 a1) λr=>.tup [.I r.1,.I r.2]:=by
 refine pO Tryz.func367 λr h _ _=>?_;refine S4 2 J<|c5<|S3 2 J<|cA h b5W J J λv1 _ h=>S2 1 J ?_;refine cN h (λhc h=>?_) λhc h=>?_
 ·refine S4 2 J ?_;refine a8 ?_;cases h;exact f2
 ·refine b9 ?_;refine S3 2 J<|iL h J J j5 n7 λv2 _ h=>S2 3 J<|a8 ?_;cases h;exact f2

theorem a8N{a0 a1 a2}:PO Tryz.prog 317 [a7.Pv a0,.I a1,.I a2] (a0A a0 a1 a2) λr=>.tup [.I r.1,.I r.2]:=by
 refine pO Tryz.func317 λr h _ _=>?_;refine S4 3 J<|S3 2 J<|cF h C2 J J λv1 _ h=>S2 6 J<|c5<|S4 2 J ?_;refine cN h (λhc h=>?_) λhc h=>?_
 ·refine S4 3 J ?_;refine a8 ?_;cases h;exact f2
 ·refine b9 ?_;refine S3 3 J<|cA h c4A J J λv2 _ h=>S2 4 J<|a8 ?_;cases h;exact f2

theorem a29{a0}:PO Tryz.prog 245 [r9.Pv a0] (Z6 a0) λr=>.tup [b7.Pv r.1,.I r.2]:=by
 refine pO Tryz.func245 λr h _ _=>?_;refine S4 3 J<|S3 5 J<|cA h R1 J J λv1 _ h=>S2 5 J<|c5<|S4 2 J ?_;refine cN h (λhc h=>?_) λhc h=>?_
 ·refine S4 5 J ?_;refine a8 ?_;cases h;exact⟨J,[_,_],⟨oL J J J u4 p5 nl J,⟨J,tr⟩⟩,J,io⟩
 ·refine b9 ?_;refine dr [] p6 (by kernel_rfl) (by kernel_rfl)<|S7 8 J<|u5 h λv2 hv2 h=>d2 J (A0 J a8N J hv2) J<|S7 2 J<|u5 h λv3 hv3 h=>d2f J (y8 J H3 J hv3) J<|S7 2 J<|C9 (x':=b7.Pv v3.1) (cl':=true) J J (.inr J) p5<|S8 1 J<|a8 ?_
  cases h;exact⟨J,[_,_],⟨oL J J J u4 p5 nl J,⟨J,tr⟩⟩,J,io⟩

theorem c0y{a0 a1 a2}:PO Tryz.prog 398 [.L iF a0,.I a1,.I a2] (b5V a0 a1 a2) λr=>.tup [.L iF r.1,.I r.2]:=by
 refine pO Tryz.func398 λr h _ _=>?_;refine S4 2 J<|c5<|S3 2 J<|cA h b5W J J λv1 _ h=>S2 1 J ?_;refine cN h (λhc h=>?_) λhc h=>?_
 ·refine S4 3 J ?_;refine a8 ?_;cases h;exact f2
 ·refine b9 ?_;refine S3 1 J<|nL J j5<|u5 h λv2 hv2 h=>y1 J (b9O (f:=iF) hv2 J J J j5 n7 B9 J6 J J J) J<|S2 1 J<|S3 2 J<|u5 h λv3 hv3 h=>d2Q (f:=iF) hv3 J J J (.inl ⟨_,J,J⟩) j5 n7 (λ_=>J) (by decide)<|yN<|S3 3 J<|u5 h λv4 hv4 h=>y0 J (a0W (f:=iF) hv4 J J J J j5 n7 J)<|a4G (f:=iF) (v:=a2) hv4 J J (.inl J) n7<|yN<|S4 3 J<|a8 ?_
  cases h;exact f2

theorem b8R{a0 a1 a2 a3}:PO Tryz.prog 392 [a7.Pv a0,.I a1,.I a2,.I a3] (a9B a0 a1 a2 a3) λr=>.tup [a7.Pv r.1,.I r.2]:=by
 refine pO Tryz.func392 λr h _ _=>?_;refine S4 3 J<|S3 2 J<|cF h C2 J J λv1 _ h=>S2 6 J<|c5<|S4 2 J ?_;refine cN h (λhc h=>?_) λhc h=>?_
 ·refine S4 4 J ?_;refine a8 ?_;cases h;exact⟨J,[_,_],⟨oL J J J a5q a5t nl J,⟨J,tr⟩⟩,J,io⟩
 ·refine b9 ?_;refine c5<|S3 4 J<|cF h c0y J J λv2 _ h=>S2 6 J<|S4 2 J ?_;refine cN h (λhc h=>?_) λhc h=>?_
  ·refine S4 4 J ?_;refine a8 ?_;cases h;exact⟨J,[_,_],⟨oL J J J a5q a5t nl J,⟨J,tr⟩⟩,J,io⟩
  ·refine b9 ?_;refine S3 3 J<|cF h a0R J J λv3 _ h=>S2 4 J<|a8 ?_;cases h;exact⟨J,[_,_],⟨oL J J J a5q a5t nl J,⟨J,tr⟩⟩,J,io⟩

theorem a6T{a0 a1}:PO Tryz.prog 368 [G6.Pv a0,b7.Pv a1] (a0Y a0 a1) λr=>b7.Pv r:=by
 refine pO Tryz.func368 λr h _ _=>?_;refine S4 3 J<|S3 8 J<|cF h b8R J J λv1 _ h=>S2 5 J<|S4 2 J<|a8 ?_;cases h;exact⟨J,[_],⟨oL J J J u4 p5 nl J,tr⟩,J,io⟩

theorem a05{a0 a1 a2 a3}:PO Tryz.prog 184 [b7.Pv a0,.I a1,.I a2,.abs (BFn 368 [G6.Pv a3])] (I7 a0 a1 a2 a3) λr=>b7.Pv r:=by
 refine pO Tryz.func184 λr h _ _=>?_;refine S4 2 J<|S3 3 J<|cF h a1S J J λv1 _ h=>u5 h λv2 hv2 h=>b85 (xs:=[b7.Pv v1]) J J c7u J (a6T.2 _ hv2)<|S1 1 J<|cF h W8 J J λv3 _ h=>S2 1 J<|a8 ?_;cases h;exact⟨J,[_],⟨oL J J J u4 p5 nl J,tr⟩,J,io⟩

theorem b6j{a0 a1 a2 a3}:PO Tryz.prog 318 [b7.Pv a0,.I a1,.I a2,.I a3] (a2q a0 a1 a2 a3) λr=>.tup [b7.Pv r.1,.I r.2]:=by
 refine pO Tryz.func318 λr h _ _=>?_;refine S4 3 J<|S3 4 J<|cA h a8N J J λv1 _ h=>S2 5 J<|c5<|S4 2 J ?_;refine cN h (λhc h=>?_) λhc h=>?_
 ·refine S4 4 J ?_;refine a8 ?_;cases h;exact⟨J,[_,_],⟨oL J J J u4 p5 nl J,⟨J,tr⟩⟩,J,io⟩
 ·refine b9 ?_;refine c5<|S3 2 J<|cA h P1 J J λv2 _ h=>S2 1 J ?_;refine cN h (λhc h=>?_) λhc h=>?_
  ·refine S4 3 J ?_;refine a8 ?_;cases h;exact⟨J,[_,_],⟨oL J J J u4 p5 nl J,⟨J,tr⟩⟩,J,io⟩
  ·refine b9 ?_;refine S3 6 J<|y0 J (o9 (cs:=[.I a1,.I a2,.I a3]) J c7E c7R J J J)<|y0 J (b2Z (d:=.agg [.I a1,.I a2,.I a3]) J)<|cF h a05 J J λv3 _ h=>S2 2 J<|a8 ?_;cases h;exact⟨J,[_,_],⟨oL J J J u4 p5 nl J,⟨J,tr⟩⟩,J,io⟩

theorem a2k{a0}:PO Tryz.prog 246 [r9.Pv a0] (W3 a0) λr=>.tup [b7.Pv r.1,.I r.2]:=by
 refine pO Tryz.func246 λr h _ _=>?_;refine S4 3 J<|S3 5 J<|cA h R1 J J λv1 _ h=>S2 5 J<|c5<|S4 2 J ?_;refine cN h (λhc h=>?_) λhc h=>?_
 ·refine S4 5 J ?_;refine a8 ?_;cases h;exact⟨J,[_,_],⟨oL J J J u4 p5 nl J,⟨J,tr⟩⟩,J,io⟩
 ·refine b9 ?_;refine dr [] p6 (by kernel_rfl) (by kernel_rfl)<|S7 11 J<|u5 h λv2 hv2 h=>d2 J (A0 J O1 J hv2) J<|u5 h λv3 hv3 h=>d2f J (y8 J b6j J hv3) J<|S7 2 J<|C9 (x':=b7.Pv v3.1) (cl':=true) J J (.inr J) p5<|S8 1 J<|a8 ?_
  cases h;exact⟨J,[_,_],⟨oL J J J u4 p5 nl J,⟨J,tr⟩⟩,J,io⟩

theorem b5R{a0 a1}:PO Tryz.prog 284 [g6.Pv a0,.I a1] (a9D a0 a1) λr=>.fn (.func 350) [.rptr (g6.Pc r.1),.rptr [.I r.2]]:=by
 refine pO Tryz.func284 λr h _ _=>?_;unfold a9D at h;refine S4 3 J<|S4 2 J<|a8 ?_;cases h;exact f1

theorem b6x{a0 a1}:PO Tryz.prog 369 [g6.Pv a0,.I a1] (a4D a0 a1) λr=>.bool r:=by
 refine pO Tryz.func369 λr h _ _=>?_;refine S4 3 J ?_;refine jq h (λ_=>St.of [(4,.ptr 2001 0 0)] [(2001,vR (.bool false) 1)]) (λq7 h=>?_) λκ6 h=>?_
 ·refine S4 1 J ?_;refine a8 ?_;cases h;exact⟨J,[_],⟨oS J J J a20 J,tr⟩,J,io⟩
 ·refine S3 1 J ?_;refine cF h b5R J J λv8 _ h=>yN<|g5<|a3d (WPE (λl=>if l=2003 then 4 else if l=2004 then 3 else l) [(3,.ptr 2004 0 0),(4,.ptr 2003 0 0),(7,.fn (.func 350) [.rptr (g6.Pc v8.1),.rptr [.I v8.2]])] [(2003,vR (.bool false) 1),(2004,vR (.I a1) 1)]) ?_
  refine a0q (fn:=Tryz.f350) (N1:=24) J Tryz.func350 J J nl J c2k J J (λl16 e17 o18 hR19=>?_);refine S3 2 J<|nL J a0d<|S2 1 J<|g5<|lq h (λs10=>St.of [(1000003,.ptr 2004 0 0),(1000004,.ptr 2003 0 0),(1000007,.fn (.func 350) [.rptr (g6.Pc v8.1),.rptr [.I v8.2]]),(0,.fn (.yield l16) []),(2,.rptr [.I v8.2]),(7,.L g8.Pv v8.1.L),(8,.I (v8.1.L.length:Int)),(9,.I s10)] [(2003,vR (.bool false) 1),(2004,vR (.I a1) 1)]) W λs10 x11 h hx22=>S4 1 J<|c5 ?_;refine cN h (λhc h=>?_) λhc h=>?_
  ·refine b9 ?_;refine c5<|g5<|sR<|iL h J J a0d I4 λv12 _ h=>S2 3 J<|S3 5 J<|c8 J (λhg=>om (d:=.fn (.yield l16) []) J)<|c8 J (λhg=>oL J J J a0c I4 nl J) ?_;rcases Bool.eq_false_or_eq_true ((v12.Kind==v8.2)==true) with hg24 | hg24
   ·have h:=ifT h hg24;refine L8 (WE [(1000003,.ptr 2004 0 0),(1000004,.ptr 2003 0 0),(1000007,.fn (.func 350) [.rptr (g6.Pc v8.1),.rptr [.I v8.2]]),(0,.fn (.yield l16) []),(2,.rptr [.I v8.2]),(7,.L g8.Pv v8.1.L),(8,.I (v8.1.L.length:Int)),(9,.I s10),(17,.bool (v12.Kind==v8.2)),(18,.fn (.yield l16) []),(19,g8.Pv v12)] [(2003,vR (.bool false) 1),(2004,vR (.I a1) 1)]) ?_;refine a3T hR19 (congrArg some hg24) J J J J J (λe25 o26 o27=>?_);refine S6 2 J ?_;refine⟨J,?_⟩;refine g5<|S4 4 J ?_;refine cN h (λhc h=>?_) λhc h=>?_
    ·refine S4 1 J ?_;refine a8 ?_;refine⟨J,?_⟩;refine L8 (WE [(1000003,.ptr 2004 0 0),(1000004,.ptr 2003 0 0),(1000007,.fn (.func 350) [.rptr (g6.Pc v8.1),.rptr [.I v8.2]]),(0,.fn (.yield l16) []),(2,.rptr [.I v8.2]),(7,.L g8.Pv v8.1.L),(8,.I (v8.1.L.length:Int)),(9,.I s10),(17,.bool (v12.Kind==v8.2)),(20,.bool false)] [(2003,vR (.bool true) 1),(2004,vR (.I a1) 1)])<|y0 (congrArg some hg24) (U3 J J)<|y0 J (a9f J J hg24)<|yN ?_;refine H6 true J (λ_=>?_) (λq=>nomatch q);refine a8 ?_;refine .inr ⟨.ret,J,c8b ?_⟩;have h:=xL hx22 h;cases h;exact⟨J,[_],⟨oS J J J a20 J,tr⟩,J,io⟩
    ·refine b9 ?_;refine⟨J,?_⟩;refine L8 (WE [(1000003,.ptr 2004 0 0),(1000004,.ptr 2003 0 0),(1000007,.fn (.func 350) [.rptr (g6.Pc v8.1),.rptr [.I v8.2]]),(0,.fn (.yield l16) []),(2,.rptr [.I v8.2]),(7,.L g8.Pv v8.1.L),(8,.I (v8.1.L.length:Int)),(9,.I s10),(17,.bool (v12.Kind==v8.2)),(20,.bool true)] [(2003,vR (.bool false) 1),(2004,vR (.I a1) 1)])<|y0 (congrArg some hg24) (U3 J J)<|y0 J (a9f J J hg24)<|yN ?_;refine H6 false J (λq=>nomatch q) (λ_=>?_);refine b9<|S6 2 J ?_;exact eL h W
   ·have h:=ifF h hg24;refine a2e (congrArg some hg24)<|a2e (congrArg some hg24)<|y0 J (a9e J J hg24)<|yN ?_;refine H6 false J (λq=>nomatch q) (λ_=>?_);refine b9<|S6 2 J ?_;exact eL h W
  ·refine l6 ?_;refine c4<|c4<|j1 ?_;refine .inl ⟨J,?_⟩;have h:=xL hx22 h;exact eJ h (WP (λl=>if l=2001 then 2003 else l))

theorem b3I{a0 a1}:PO Tryz.prog 373 [.L g7.Pv a0,.I a1] (a6u a0 a1) λr=>.bool r:=by
 refine pO Tryz.func373 λr h _ _=>?_;unfold a6u at h;refine S4 1 J<|S3 3 J<|c8 J (λhg=>mI J)<|c8 J (λhg=>om (d:=.L g7.Pv a0) J)<|c8 J (λhg=>H9 (f:=g7.Pv) (ct hg) G4)<|c8 J (λhg=>m8 (ct hg) (ct hg) J)<|y0 J (n9 J J J (λq=>K3 q))<|S2 1 J<|a8 ?_;cases h;exact f1

theorem a7G{a0}:PON Tryz.prog 291 [.L g7.Pv a0] (a0E a0) λr=>⟨List.map g7.Pv r,0,true,3,true⟩:=by
 refine pON Tryz.func291 λr h _ _=>?_;unfold a0E at h;refine S4 1 J<|S3 1 J<|nL J G4<|u5 h λv1 hv1 h=>y1 J (b9O (f:=g7.Pv) hv1 J J J G4 T7 c0R c4G J J J) J<|S2 1 J<|S3 2 J<|u5 h λv2 hv2 h=>d2Q (f:=g7.Pv) hv2 J J J (.inl ⟨_,J,J⟩) G4 T7 (λ_=>J) (by decide)<|yN<|S4 2 J<|a8 ?_
 cases h;exact⟨J,_,_,J,J,J,J⟩

theorem c0C{a0 a1 a2 a3}:PO Tryz.prog 370 [.L g7.Pv a0,.I a1,.I a2,.I a3] (b2r a0 a1 a2 a3) λr=>.tup [.L g7.Pv r.1,.I r.2.1,.I r.2.2]:=by
 refine pO Tryz.func370 λr h _ _=>?_;refine S4 3 J<|c5<|S3 2 J<|cA h b3I J J λv1 _ h=>S2 1 J ?_;refine cN h (λhc h=>?_) λhc h=>?_
 ·refine S4 4 J ?_;refine a8 ?_;cases h;exact f3
 ·refine b9 ?_;refine S3 1 J<|u5 h λv2 hv2 h=>ycN J (b65 J a7G J hv2) J J<|S2 1 J<|S3 6 J<|y0 J (o9 (cs:=[.I a2,.bool (a2 != 0),.I a3]) J c9T c0R J J J)<|u5 h λv3 hv3 h=>y0 J (a0W (f:=g7.Pv) hv3 J J J J G4 T7 J)<|a4G (f:=g7.Pv) (v:=(⟨a2,(a2 != 0),a3⟩:g7)) hv3 J J (.inl J) T7<|yN<|dr [] p6 (by kernel_rfl) (by kernel_rfl)<|S7 3 J<|u5 h λv4 hv4 h=>d0 J (x5 (f:=g7.Pv) (cs:=g7.Pc v4) hv4 J J G4 T7 J J) J<|S8 5 J<|a8 ?_
  cases h;exact f3

theorem a8i{a0 a1 a2}:PO Tryz.prog 372 [b7.Pv a0,.I a1,.I a2] (a1w a0 a1 a2) λr=>b7.Pv r:=by
 refine pO Tryz.func372 λr h _ _=>?_;refine S4 2 J<|S3 4 J<|cA h G0 J J λv1 _ h=>S2 5 J<|c5<|S4 2 J ?_;refine cN h (λhc h=>?_) λhc h=>?_
 ·refine S3 5 J ?_;refine iL h J J H7 M8 λv2 _ h=>S2 4 J<|S4 6 J<|S5 4 J<|cF h a0R J J λv3 _ h=>S2 5 J<|S4 2 J<|a8 ?_;cases h;exact⟨J,[_],⟨oL J J J u4 p5 nl J,tr⟩,J,io⟩
 ·refine b9 ?_;refine S4 2 J<|a8 ?_;cases h;exact⟨J,[_],⟨oL J J J u4 p5 nl J,tr⟩,J,io⟩

theorem a2a{a0 a1}:PO Tryz.prog 223 [g9.Pv a0,.I a1] (O3 a0 a1) λr=>.tup [g9.Pv r.1,.I r.2]:=by
 refine pO Tryz.func223 λr h _ _=>?_;refine S4 3 J<|S3 2 J<|cA h G0 J J λv1 _ h=>S2 5 J<|c5<|S4 2 J ?_;refine cN h (λhc h=>?_) λhc h=>?_
 ·refine S4 4 J ?_;refine a8 ?_;cases h;exact⟨J,[_,_],⟨oL J J J a3o a1H nl J,⟨J,tr⟩⟩,J,io⟩
 ·refine b9 ?_;refine S3 3 J<|iL h J J H7 M8 λv2 _ h=>S2 3 J<|c5<|S4 4 J ?_;refine cN h (λhc h=>?_) λhc h=>?_
  ·refine S3 3 J ?_;refine y0 J (o9 (cs:=[.I 3,.I v2.Gen,.I 0,.I 0,.I 0,.I 0,.bool false,.nl]) J b3V a8W J J J)<|cF h J0 J J λv3 _ h=>S2 2 J<|a8 ?_;cases h;exact⟨J,[_,_],⟨oL J J J a3o a1H nl J,⟨J,tr⟩⟩,J,io⟩
  ·refine b9 ?_;refine S3 4 J<|y0 J (o9 (cs:=[.I 0,.I (x6 (v2.Gen+1)),.I 0,.I 0,.I 0,.I 0,.bool false,.nl]) J b3V a8W J J J)<|cF h J0 J J λv4 _ h=>S2 2 J<|a8 ?_;cases h;exact⟨J,[_,_],⟨oL J J J a3o a1H nl J,⟨J,tr⟩⟩,J,io⟩

theorem b2Q{a0 a1}:PO Tryz.prog 371 [b7.Pv a0,.I a1] (a2T a0 a1) λr=>b7.Pv r:=by
 refine pO Tryz.func371 λr h _ _=>?_;refine S4 2 J<|S3 2 J<|cF h a8i J J λv1 _ h=>S2 1 J<|S3 4 J<|cA h G0 J J λv2 _ h=>S2 5 J<|c5<|S4 2 J ?_;refine cN h (λhc h=>?_) λhc h=>?_
 ·refine S4 2 J ?_;refine a8 ?_;cases h;exact⟨J,[_],⟨oL J J J u4 p5 nl J,tr⟩,J,io⟩
 ·refine b9 ?_;refine c5<|S3 5 J<|iL h J J H7 M8 λv3 _ h=>S2 3 J<|S3 4 J<|c8 J (λhg=>oF J a8T J)<|c8 J (λhg=>oF (ct hg) b2v J)<|c8 J (λhg=>oS (ct hg) J J p8 J)<|c8 J (λhg=>m8 (ct hg) J J)<|y0 J (n9 J J J (λq=>K3 q))<|yN ?_;refine cN h (λhc h=>?_) λhc h=>?_
  ·refine S5 4 J ?_;refine cF h a2a J J λv4 _ h=>S2 6 J<|S4 2 J<|a8 ?_;cases h;exact⟨J,[_],⟨oL J J J u4 p5 nl J,tr⟩,J,io⟩
  ·refine b9 ?_;refine S4 2 J<|a8 ?_;cases h;exact⟨J,[_],⟨oL J J J u4 p5 nl J,tr⟩,J,io⟩

theorem b1p{a0 a1 a2 a3}:PO Tryz.prog 319 [b7.Pv a0,.I a1,.I a2,.I a3] (a0K a0 a1 a2 a3) λr=>.tup [b7.Pv r.1,.I r.2]:=by
 refine pO Tryz.func319 λr h _ _=>?_;unfold a0K at h;refine S4 3 J<|c5<|S3 3 J<|c8 J (λhg=>mI J)<|c8 J (λhg=>oF J a21 J)<|c8 J (λhg=>oS (ct hg) J J a7T J)<|c8 J (λhg=>H9 (f:=g7.Pv) (ct hg) G4)<|c8 J (λhg=>m8 (ct hg) (ct hg) J)<|y0 J (r8 J J J (λq=>K5 q))<|S1 1 J<|c8 J (λhg=>oF J a7U J)<|c8 J (λhg=>oL (ct hg) J J a5r a1I nl J)<|c8 J (λhg=>mI J)<|u5 h λv1 hv1 h=>c8 J (λhg=>A0 J b6x (w7 (ct hg) (w7 (ct hg) J)) (B6 hv1 hg))<|y0 J (r8 J J J (λq=>K5 q))<|yN ?_;refine cN h (λhc h=>?_) λhc h=>?_
 ·refine S4 3 J ?_;refine a8 ?_;cases h;exact⟨J,[_,_],⟨oL J J J u4 p5 nl J,⟨J,tr⟩⟩,J,io⟩
 ·refine b9 ?_;refine c5<|S3 2 J<|cA h P1 J J λv2 _ h=>S2 1 J ?_;refine cN h (λhc h=>?_) λhc h=>?_
  ·refine S4 3 J ?_;refine a8 ?_;cases h;exact⟨J,[_,_],⟨oL J J J u4 p5 nl J,⟨J,tr⟩⟩,J,io⟩
  ·refine b9 ?_;refine S3 5 J<|cF h c0C J J λv3 _ h=>S2 7 J<|S4 3 J<|S3 2 J<|cF h a8i J J λv4 _ h=>S1 1 J<|cF h b2Q J J λv5 _ h=>S2 2 J<|a8 ?_;cases h;exact⟨J,[_,_],⟨oL J J J u4 p5 nl J,⟨J,tr⟩⟩,J,io⟩

theorem a11{a0}:PO Tryz.prog 247 [r9.Pv a0] (T1 a0) λr=>.tup [b7.Pv r.1,.I r.2]:=by
 refine pO Tryz.func247 λr h _ _=>?_;refine S4 3 J<|c5<|S4 4 J ?_;refine cN h (λhc h=>?_) λhc h=>?_
 ·refine S3 8 J ?_;refine cF h b1p J J λv1 _ h=>S2 4 J<|a8 ?_;cases h;exact⟨J,[_,_],⟨oL J J J u4 p5 nl J,⟨J,tr⟩⟩,J,io⟩
 ·refine b9 ?_;refine S3 5 J<|cA h R1 J J λv2 _ h=>S2 5 J<|c5<|S4 2 J ?_;refine cN h (λhc h=>?_) λhc h=>?_
  ·refine S4 5 J ?_;refine a8 ?_;cases h;exact⟨J,[_,_],⟨oL J J J u4 p5 nl J,⟨J,tr⟩⟩,J,io⟩
  ·refine b9 ?_;refine S3 9 J<|cF h b1p J J λv3 _ h=>S2 4 J<|a8 ?_;cases h;exact⟨J,[_,_],⟨oL J J J u4 p5 nl J,⟨J,tr⟩⟩,J,io⟩

theorem b83{a0 a1}:PO Tryz.prog 320 [.L g7.Pv a0,.I a1] (a6t a0 a1) λr=>.tup [.I r.1,.I r.2]:=by
 refine pO Tryz.func320 λr h _ _=>?_;refine S4 2 J<|c5<|S3 2 J<|cA h b3I J J λv1 _ h=>S2 1 J ?_;refine cN h (λhc h=>?_) λhc h=>?_
 ·refine S4 2 J ?_;refine a8 ?_;cases h;exact f2
 ·refine b9 ?_;refine c5<|S3 2 J<|iL h J J G4 T7 λv2 hv2 h=>S1 4 J<|c8 J (λhg=>om (d:=.L g7.Pv a0) J)<|c8 J (λhg=>mI J)<|c8 J (λhg=>x5 (f:=g7.Pv) (cs:=g7.Pc v2) hv2 (ct hg) (ct hg) G4 T7 J J)<|c8 J (λhg=>A9 (ct hg) b0W J)<|c8 J (λhg=>F2 (ct hg) a20 J)<|c8 J (λhg=>U3 (ct hg) J)<|y0 J (r8 J J J (λq=>K5 q))<|yN ?_;refine cN h (λhc h=>?_) λhc h=>?_
  ·refine S4 2 J ?_;refine a8 ?_;cases h;exact f2
  ·refine b9 ?_;refine S3 2 J<|y0 J (x5 (f:=g7.Pv) (cs:=g7.Pc v2) hv2 J J G4 T7 J J)<|S2 4 J<|a8 ?_;cases h;exact f2

theorem a4k{a0}:PO Tryz.prog 248 [r9.Pv a0] (W9 a0) λr=>.tup [b7.Pv r.1,.I r.2]:=by
 refine pO Tryz.func248 λr h _ _=>?_;unfold W9 at h;refine S4 3 J<|dr [] p6 (by kernel_rfl) (by kernel_rfl)<|S7 7 J<|u5 h λv1 hv1 h=>d2 J (A0 J b83 J hv1) J<|S7 2 J<|u5 h λv2 hv2 h=>d2f J (y8 J H3 J hv2) J<|S7 2 J<|C9 (x':=b7.Pv v2.1) (cl':=true) J J (.inr J) p5<|S8 1 J<|a8 ?_
 cases h;exact⟨J,[_,_],⟨oL J J J u4 p5 nl J,⟨J,tr⟩⟩,J,io⟩

theorem b1l{a0 a1}:PO Tryz.prog 343 [.I a0,.I a1] (a3U a0 a1) λr=>.fn (.func 382) [.rptr [.I r.1],.rptr [.I r.2]]:=by
 refine pO Tryz.func343 λr h _ _=>?_;unfold a3U at h;refine S4 3 J<|S4 2 J<|a8 ?_;cases h;exact f1

theorem b1i{a0 a1}:PO Tryz.prog 383 [.I a0,.I a1] (a0I a0 a1) λr=>.I r:=by
 refine pO Tryz.func383 λr h _ _=>?_;refine S4 1 J<|c5<|S4 2 J ?_;refine cN h (λhc h=>?_) λhc h=>?_
 ·refine S4 1 J ?_;refine a8 ?_;cases h;exact f1
 ·refine b9 ?_;refine S3 4 J<|u5 h λv1 hv1 h=>y0 J (a56 J J hv1)<|S2 1 J<|c5<|S4 2 J ?_;refine cN h (λhc h=>?_) λhc h=>?_
  ·refine S6 4 J ?_;refine S4 2 J<|a8 ?_;cases h;exact f1
  ·refine b9 ?_;refine S4 2 J<|a8 ?_;cases h;exact f1

theorem a3K{a0 a1}:PO Tryz.prog 273 [.L c9.Pv a0,.I a1] (N3 a0 a1) λr=>.I r:=by
 refine pO Tryz.func273 λr h _ _=>?_;refine S4 3 J ?_;refine jq h (λ_=>St.of [(4,.ptr 2001 0 0)] [(2001,vR (.I 0) 1)]) (λq9 h=>?_) λκ8 h=>?_
 ·refine S4 1 J ?_;refine a8 ?_;cases h;exact⟨J,[_],⟨oS J J J p8 J,tr⟩,J,io⟩
 ·refine S3 1 J ?_;refine nL J Q5<|S1 1 J<|cF h b1l J J λv10 _ h=>yN<|g5<|a3d (WPE (λl=>if l=2004 then 4 else if l=2005 then 3 else if l=2006 then 2 else l) [(2,.ptr 2006 0 0),(3,.ptr 2005 0 0),(4,.ptr 2004 0 0),(9,.fn (.func 382) [.rptr [.I v10.1],.rptr [.I v10.2]])] [(2004,vR (.I 0) 1),(2005,vR (.I a1) 1),(2006,vR (.L c9.Pv a0) 1)]) ?_
  refine a0q (fn:=Tryz.f382) (N1:=20) J Tryz.func382 J J nl J c2l J J (λl17 e18 o19 hR20=>?_);refine S4 2 J<|g5<|lq h (λs12=>St.of [(1000002,.ptr 2006 0 0),(1000003,.ptr 2005 0 0),(1000004,.ptr 2004 0 0),(1000009,.fn (.func 382) [.rptr [.I v10.1],.rptr [.I v10.2]]),(0,.fn (.yield l17) []),(1,.rptr [.I v10.1]),(2,.rptr [.I v10.2]),(5,.I v10.1),(6,.I s12)] [(2004,vR (.I 0) 1),(2005,vR (.I a1) 1),(2006,vR (.L c9.Pv a0) 1)]) W λs12 x13 h hx23=>S4 1 J<|c5 ?_;refine cN h (λhc h=>?_) λhc h=>?_
  ·refine b9 ?_;refine c5<|g5<|S4 2 J<|drY [] 8 p6 (by kernel_rfl) (by kernel_rfl) (by kernel_rfl) (by kernel_rfl) nl<|S7 3 J<|u5 h λv14 hv24 h=>d2 J (A0 J b1i J hv24) J<|S7 3 J<|u5 h λv15 hv25 h=>d7 J (λ_ hN=>a56 J J hv25) J<|N2<|c57 (WE [(1000002,.ptr 2006 0 0),(1000003,.ptr 2005 0 0),(1000004,.ptr 2004 0 0),(1000009,.fn (.func 382) [.rptr [.I v10.1],.rptr [.I v10.2]]),(0,.fn (.yield l17) []),(1,.rptr [.I v10.1]),(2,.rptr [.I v10.2]),(5,.I v10.1),(6,.I s12),(9,.fn (.yield l17) []),(16,.I v15)] [(2004,vR (.I 0) 1),(2005,vR (.I a1) 1),(2006,vR (.L c9.Pv a0) 1)]) ?_
   refine b55 J hR20 J J J J J J (λe26 o27 o28=>?_);refine S6 1 J ?_;refine⟨J,?_⟩;refine g5<|c5<|S3 2 J<|iL h J J Q5 V6 λv16 hv29 h=>S2 3 J ?_;refine cN h (λhc h=>?_) λhc h=>?_
   ·refine l6 ?_;refine c4<|b03 (by decide) ?_
    refine⟨J,?_⟩;refine⟨_,b52 [(1000002,.ptr 2006 0 0),(1000003,.ptr 2005 0 0),(1000004,.ptr 2004 0 0),(1000009,.fn (.func 382) [.rptr [.I v10.1],.rptr [.I v10.2]]),(0,.fn (.yield l17) []),(1,.rptr [.I v10.1]),(2,.rptr [.I v10.2]),(5,.I v10.1),(6,.I s12),(17,.bool false)] [(2004,vR (.I 0) 1),(2005,vR (.I a1) 1),(2006,vR (.L c9.Pv a0) 1)] ⟨J,J,J,J,J,J,J,J,J,J,J,J,J,J,J,J,J,J,J,J,J,J,J,J,J,J,J,J,J,J,tr⟩ ⟨rS,rS,rS,tr⟩,?_⟩;refine S8 1 J ?_;refine H6 true J (λ_=>?_) (λq=>nomatch q);refine a8 ?_;refine .inr ⟨.exit 0,J,d3F ?_⟩;refine j1 ?_;have h:=xL hx23 h;exact eJ h (WP (λl=>if l=2001 then 2004 else l))
   ·refine b9 ?_;refine dr [] p6 (by kernel_rfl) (by kernel_rfl)<|S7 2 J<|d0 J (x5 (f:=c9.Pv) (cs:=c9.Pc v16) hv29 J J Q5 V6 J J) J<|S7 4 J<|A5 J (λhg=>oS J J J b0i J) J<|s7 J (λhg _ hN=>mI J) J<|A5 J (λhg=>x5 (f:=c9.Pv) (cs:=c9.Pc v16) hv29 (ct hg) (ct hg) Q5 V6 J J) J<|s7 J (λhg _ hN=>A9 (ct hg) b6J J) J<|A5 J (λhg=>F2 (ct hg) p8 J) J<|A5 J (λhg=>oS J J J p8 J) J<|s7 J (λhg _ hN=>m8 (ct hg) (ct hg) J) J<|d7 J (λ_ hN=>n9 J J J (λq=>K3 q)) J<|N2 ?_
    refine cN h (λhc h=>?_) λhc h=>?_
    ·refine S4 2 J ?_;refine a8 ?_;refine⟨J,?_⟩;refine⟨_,b52 [(1000002,.ptr 2006 0 0),(1000003,.ptr 2005 0 0),(1000004,.ptr 2004 0 0),(1000009,.fn (.func 382) [.rptr [.I v10.1],.rptr [.I v10.2]]),(0,.fn (.yield l17) []),(1,.rptr [.I v10.1]),(2,.rptr [.I v10.2]),(5,.I v10.1),(6,.I s12),(17,.bool false)] [(2004,vR (.I v15) 1),(2005,vR (.I a1) 1),(2006,vR (.L c9.Pv a0) 1)] ⟨J,J,J,J,J,J,J,J,J,J,J,J,J,J,J,J,J,J,J,J,J,J,J,J,J,J,J,J,J,J,tr⟩ ⟨rS,rS,rS,tr⟩,?_⟩;refine S8 1 J ?_;refine H6 true J (λ_=>?_) (λq=>nomatch q);refine a8 ?_;refine .inr ⟨.ret,J,c8b ?_⟩;have h:=xL hx23 h;cases h;exact⟨J,[_],⟨oS J J J p8 J,tr⟩,J,io⟩
    ·refine b9 ?_;refine⟨J,?_⟩;refine⟨_,b52 [(1000002,.ptr 2006 0 0),(1000003,.ptr 2005 0 0),(1000004,.ptr 2004 0 0),(1000009,.fn (.func 382) [.rptr [.I v10.1],.rptr [.I v10.2]]),(0,.fn (.yield l17) []),(1,.rptr [.I v10.1]),(2,.rptr [.I v10.2]),(5,.I v10.1),(6,.I s12),(17,.bool true)] [(2004,vR (.I 0) 1),(2005,vR (.I a1) 1),(2006,vR (.L c9.Pv a0) 1)] ⟨J,J,J,J,J,J,J,J,J,J,J,J,J,J,J,J,J,J,J,J,J,J,J,J,J,J,J,J,J,J,tr⟩ ⟨rS,rS,rS,tr⟩,?_⟩;refine S8 1 J ?_;refine H6 false J (λq=>nomatch q) (λ_=>?_);refine b9<|S6 2 J ?_;exact eL h W
  ·refine l6 ?_;refine c4<|c4<|j1 ?_;refine .inl ⟨J,?_⟩;have h:=xL hx23 h;exact eJ h (WP (λl=>if l=2001 then 2004 else l))

theorem a4Y{a0 a1}:PO Tryz.prog 346 [.L c9.Pv a0,.I a1] (M0 a0 a1) λr=>.tup [.I r.1,.I r.2]:=by
 refine pO Tryz.func346 λr h _ _=>?_;refine S4 2 J<|S3 2 J<|cA h a3K J J λv1 _ h=>S2 1 J<|c5<|S4 2 J ?_;refine cN h (λhc h=>?_) λhc h=>?_
 ·refine S4 2 J ?_;refine a8 ?_;cases h;exact f2
 ·refine b9 ?_;refine S3 2 J<|iL h J J Q5 V6 λv2 _ h=>S2 4 J<|a8 ?_;cases h;exact f2

theorem a0x{a0}:PON Tryz.prog 353 [.L c9.Pv a0] (D9 a0) λr=>⟨List.map c9.Pv r,0,true,3,true⟩:=by
 refine pON Tryz.func353 λr h _ _=>?_;unfold D9 at h;refine S4 1 J<|c5<|S3 1 J<|b86 J Q5 λb hb=>yN ?_;refine H6 b J (λhc=>?_) (λhc=>?_)
 ·obtain rfl:a0 = []:=by simpa using hb hc
  refine S4 1 J<|a3d (G1 (t:=2) (l:=920000) (z:=3) J J)<|a8 ?_;cases h;exact⟨J,_,_,J,J,J,J⟩
 ·refine b9 ?_;refine sR<|y0 J (B5 J Q5 V6)<|S1 1 J<|y1 J (a7C (f:=c9.Pv) h J J (.inl ⟨_,J,J⟩) Q5 V6 c2e a8Y J (λ_=>J)) J<|S2 1 J<|a8 ?_;exact⟨J,_,_,J,J,J,J⟩

theorem a6O{a0 a1 a2}:PO Tryz.prog 293 [.L c9.Pv a0,.I a1,c9.Pv a2] (a1v a0 a1 a2) λr=>.L c9.Pv r:=by
 refine pO Tryz.func293 λr h _ _=>?_;unfold a1v at h;refine S4 2 J<|S3 1 J<|u5 h λv1 hv1 h=>ycN J (b65 J a0x J hv1) J J<|S2 1 J<|S3 3 J<|u5 h λv2 hv2 h=>y0 J (a0W (f:=c9.Pv) hv2 J J J J Q5 V6 J)<|a4G (f:=c9.Pv) (v:=a2) hv2 J J (.inl J) V6<|yN<|S4 2 J<|a8 ?_;cases h;exact f1

theorem b1h{a0 a1}:PO Tryz.prog 221 [.L c9.Pv a0,.I a1] (X8 a0 a1) λr=>.tup [.L c9.Pv r.1,.I r.2.1,.I r.2.2]:=by
 refine pO Tryz.func221 λr h _ _=>?_;refine S4 3 J<|S3 2 J<|cA h a3K J J λv1 _ h=>S2 1 J<|c5<|S4 2 J ?_;refine cN h (λhc h=>?_) λhc h=>?_
 ·refine S4 4 J ?_;refine a8 ?_;cases h;exact f3
 ·refine b9 ?_;refine dr [] p6 (by kernel_rfl) (by kernel_rfl)<|S7 2 J<|d7 J (λ_ hN=>o9 (cs:=[.I 2,.I 0,.I 0]) J b3W a8Y J J J) J<|u5 h λv2 hv2 h=>d2f J (y8 J a6O J hv2) J<|S7 2 J<|u5 h λv3 hv3 h=>d0 J (x5 (f:=c9.Pv) (cs:=c9.Pc v3) hv3 J J Q5 V6 J J) J<|S8 5 J<|a8 ?_
  cases h;exact f3

theorem b9w{a0 a1 a2}:PO Tryz.prog 393 [.L c9.Pv a0,.I a1,.I a2] (a8f a0 a1 a2) λr=>.tup [.L c9.Pv r.1,.I r.2]:=by
 refine pO Tryz.func393 λr h _ _=>?_;refine S4 3 J<|S3 2 J<|y0 J (o9 (cs:=[.I 1,.I a1,.I a2]) J b3W a8Y J J J)<|S2 2 J<|c5<|S3 2 J<|cA h a3K J J λv1 _ h=>S2 1 J<|S4 2 J ?_;refine cN h (λhc h=>?_) λhc h=>?_
 ·refine S3 3 J ?_;refine cF h a6O J J λv2 _ h=>S2 2 J<|a8 ?_;cases h;exact⟨J,[_,_],⟨oS J J J b0i J,⟨oS J J J b4v J,tr⟩⟩,J,io⟩
 ·refine b9 ?_;refine jq h (λ_=>St.of [(3,.ptr 2004 0 0),(6,.ptr 2003 0 0),(7,.ptr 2002 0 0)] [(2002,vR (.I 0) 1),(2003,vR (.nl) 1),(2004,vR (.L c9.Pv a0) 1)]) (λq12 h=>?_) λκ11 h=>?_
  ·refine S4 3 J ?_;refine a8 ?_;cases h;exact⟨J,[_,_],⟨oS J J J b0i J,⟨oS J J J b4v J,tr⟩⟩,J,io⟩
  ·refine S3 1 J ?_;refine nL J Q5<|S1 1 J<|cF h b1l J J λv13 _ h=>yN<|g5<|a3d (WPE (λl=>if l=2005 then 8 else if l=2006 then 7 else if l=2007 then 6 else if l=2008 then 3 else l) [(3,.ptr 2008 0 0),(6,.ptr 2007 0 0),(7,.ptr 2006 0 0),(8,.ptr 2005 0 0),(26,.fn (.func 382) [.rptr [.I v13.1],.rptr [.I v13.2]])] [(2005,vR (.agg [.I 1,.I a1,.I a2]) 3),(2006,vR (.I 0) 1),(2007,vR (.nl) 1),(2008,vR (.L c9.Pv a0) 1)]) ?_
   refine a0q (fn:=Tryz.f382) (N1:=20) J Tryz.func382 J J nl J c2l J J (λl20 e21 o22 hR23=>?_);refine S4 2 J<|g5<|lq h (λs15=>St.of [(1000003,.ptr 2008 0 0),(1000006,.ptr 2007 0 0),(1000007,.ptr 2006 0 0),(1000008,.ptr 2005 0 0),(1000026,.fn (.func 382) [.rptr [.I v13.1],.rptr [.I v13.2]]),(0,.fn (.yield l20) []),(1,.rptr [.I v13.1]),(2,.rptr [.I v13.2]),(5,.I v13.1),(6,.I s15)] [(2005,vR (.agg [.I 1,.I a1,.I a2]) 3),(2006,vR (.I 0) 1),(2007,vR (.nl) 1),(2008,vR (.L c9.Pv a0) 1)]) W λs15 x16 h hx26=>S4 1 J<|c5 ?_;refine cN h (λhc h=>?_) λhc h=>?_
   ·refine b9 ?_;refine c5<|g5<|S4 2 J<|drY [] 8 p6 (by kernel_rfl) (by kernel_rfl) (by kernel_rfl) (by kernel_rfl) nl<|S7 3 J<|u5 h λv17 hv27 h=>d2 J (A0 J b1i J hv27) J<|S7 3 J<|u5 h λv18 hv28 h=>d7 J (λ_ hN=>a56 J J hv28) J<|N2<|c57 (WE [(1000003,.ptr 2008 0 0),(1000006,.ptr 2007 0 0),(1000007,.ptr 2006 0 0),(1000008,.ptr 2005 0 0),(1000026,.fn (.func 382) [.rptr [.I v13.1],.rptr [.I v13.2]]),(0,.fn (.yield l20) []),(1,.rptr [.I v13.1]),(2,.rptr [.I v13.2]),(5,.I v13.1),(6,.I s15),(9,.fn (.yield l20) []),(16,.I v18)] [(2005,vR (.agg [.I 1,.I a1,.I a2]) 3),(2006,vR (.I 0) 1),(2007,vR (.nl) 1),(2008,vR (.L c9.Pv a0) 1)]) ?_
    refine b55 J hR23 J J J J J J (λe29 o30 o31=>?_);refine S6 1 J ?_;refine⟨J,?_⟩;refine g5<|S3 2 J<|iL h J J Q5 V6 λv19 _ h=>S2 3 J ?_;refine cN h (λhc h=>?_) λhc h=>?_
    ·refine S3 3 J ?_;refine cF h a6O J J λv20 _ h=>S2 2 J<|a8 ?_;refine⟨J,?_⟩;refine⟨_,b52 [(1000003,.ptr 2008 0 0),(1000006,.ptr 2007 0 0),(1000007,.ptr 2006 0 0),(1000008,.ptr 2005 0 0),(1000026,.fn (.func 382) [.rptr [.I v13.1],.rptr [.I v13.2]]),(0,.fn (.yield l20) []),(1,.rptr [.I v13.1]),(2,.rptr [.I v13.2]),(5,.I v13.1),(6,.I s15),(17,.bool false)] [(2005,vR (.agg [.I 1,.I a1,.I a2]) 3),(2006,vR (.I 0) 1),(2007,vR (.L c9.Pv v20) 1),(2008,vR (.L c9.Pv a0) 1)] ⟨J,J,J,J,J,J,J,J,J,J,J,J,J,J,J,J,J,J,J,J,J,J,J,J,J,J,J,J,J,J,J,J,J,tr⟩ ⟨rS,rS,rS,rS,tr⟩,?_⟩;refine S8 1 J ?_;refine H6 true J (λ_=>?_) (λq=>nomatch q);refine a8 ?_;refine .inr ⟨.ret,J,c8b ?_⟩;have h:=xL hx26 h;cases h;exact⟨J,[_,_],⟨oS J J J b0i J,⟨oS J J J b4v J,tr⟩⟩,J,io⟩
    ·refine b9 ?_;refine⟨J,?_⟩;refine⟨_,b52 [(1000003,.ptr 2008 0 0),(1000006,.ptr 2007 0 0),(1000007,.ptr 2006 0 0),(1000008,.ptr 2005 0 0),(1000026,.fn (.func 382) [.rptr [.I v13.1],.rptr [.I v13.2]]),(0,.fn (.yield l20) []),(1,.rptr [.I v13.1]),(2,.rptr [.I v13.2]),(5,.I v13.1),(6,.I s15),(17,.bool true)] [(2005,vR (.agg [.I 1,.I a1,.I a2]) 3),(2006,vR (.I 0) 1),(2007,vR (.nl) 1),(2008,vR (.L c9.Pv a0) 1)] ⟨J,J,J,J,J,J,J,J,J,J,J,J,J,J,J,J,J,J,J,J,J,J,J,J,J,J,J,J,J,J,J,J,J,tr⟩ ⟨rS,rS,rS,rS,tr⟩,?_⟩;refine S8 1 J ?_;refine H6 false J (λq=>nomatch q) (λ_=>?_);refine b9<|S6 2 J ?_;exact eL h W
   ·refine l6 ?_;refine c4<|c4<|j1 ?_;refine .inl ⟨J,?_⟩;have h:=xL hx26 h;exact eJ h (WP (λl=>if l=2004 then 2008 else if l=2003 then 2007 else if l=2002 then 2006 else l))

theorem b7J{a0 a1 a2}:PO Tryz.prog 374 [.L c9.Pv a0,.I a1,.I a2] (X6 a0 a1 a2) λr=>.tup [.L c9.Pv r.1,.I r.2.1,.I r.2.2]:=by
 refine pO Tryz.func374 λr h _ _=>?_;refine S4 3 J<|c5<|S4 2 J ?_;refine cN h (λhc h=>?_) λhc h=>?_
 ·refine S4 4 J ?_;refine a8 ?_;cases h;exact f3
 ·refine b9 ?_;refine S3 2 J<|cA h a4Y J J λv1 _ h=>S2 5 J<|c5<|S4 2 J ?_;refine cN h (λhc h=>?_) λhc h=>?_
  ·refine S3 2 J ?_;refine cF h b1h J J λv2 _ h=>S2 7 J<|S4 5 J<|a8 ?_;cases h;exact f3
  ·refine b9 ?_;refine S3 3 J<|cF h b9w J J λv3 _ h=>S2 5 J<|c5<|S4 2 J ?_;refine cN h (λhc h=>?_) λhc h=>?_
   ·refine S4 5 J ?_;refine a8 ?_;cases h;exact f3
   ·refine b9 ?_;refine S4 5 J<|a8 ?_;cases h;exact f3

theorem a7J{a0 a1}:PO Tryz.prog 375 [I5.Pv a0,b7.Pv a1] (W1 a0 a1) λr=>b7.Pv r:=by
 refine pO Tryz.func375 λr h _ _=>?_;unfold W1 at h;refine S4 3 J<|S4 4 J<|S4 2 J<|a8 ?_;cases h;exact⟨J,[_],⟨oL J J J u4 p5 nl J,tr⟩,J,io⟩

theorem a1j{a0 a1 a2 a3}:PO Tryz.prog 184 [b7.Pv a0,.I a1,.I a2,.abs (BFn 375 [I5.Pv a3])] (K0 a0 a1 a2 a3) λr=>b7.Pv r:=by
 refine pO Tryz.func184 λr h _ _=>?_;refine S4 2 J<|S3 3 J<|cF h a1S J J λv1 _ h=>u5 h λv2 hv2 h=>b85 (xs:=[b7.Pv v1]) J J c7v J (a7J.2 _ hv2)<|S1 1 J<|cF h W8 J J λv3 _ h=>S2 1 J<|a8 ?_;cases h;exact⟨J,[_],⟨oL J J J u4 p5 nl J,tr⟩,J,io⟩

theorem b7S{a0 a1 a2}:PO Tryz.prog 321 [b7.Pv a0,.I a1,.I a2] (a3V a0 a1 a2) λr=>.tup [b7.Pv r.1,.I r.2]:=by
 refine pO Tryz.func321 λr h _ _=>?_;refine S4 3 J<|c5<|S4 2 J ?_;refine cN h (λhc h=>?_) λhc h=>?_
 ·refine S4 3 J ?_;refine a8 ?_;cases h;exact⟨J,[_,_],⟨oL J J J u4 p5 nl J,⟨J,tr⟩⟩,J,io⟩
 ·refine b9 ?_;refine c5<|S3 2 J<|cA h P1 J J λv1 _ h=>S1 2 J<|c8 J (λhg=>oL J J J u4 p5 nl J)<|c8 J (λhg=>mI J)<|u5 h λv2 hv2 h=>c8 J (λhg=>A0 J P1 (w7 (ct hg) (w7 (ct hg) J)) (B6 hv2 hg))<|c8 J (λhg=>U3 (ct hg) J)<|y0 J (r8 J J J (λq=>K5 q))<|yN ?_;refine cN h (λhc h=>?_) λhc h=>?_
  ·refine S4 3 J ?_;refine a8 ?_;cases h;exact⟨J,[_,_],⟨oL J J J u4 p5 nl J,⟨J,tr⟩⟩,J,io⟩
  ·refine b9 ?_;refine S3 4 J<|cF h b7J J J λv3 _ h=>S2 7 J<|c5<|S4 2 J ?_;refine cN h (λhc h=>?_) λhc h=>?_
   ·refine S4 4 J ?_;refine a8 ?_;cases h;exact⟨J,[_,_],⟨oL J J J u4 p5 nl J,⟨J,tr⟩⟩,J,io⟩
   ·refine b9 ?_;refine S3 4 J<|y0 J (o9 (cs:=[.L c9.Pv v3.1]) J c7F c7S J J J)<|y0 J (b2Z (d:=.agg [.L c9.Pv v3.1]) J)<|cF h a1j J J λv4 _ h=>S2 2 J<|a8 ?_;cases h;exact⟨J,[_,_],⟨oL J J J u4 p5 nl J,⟨J,tr⟩⟩,J,io⟩

theorem a3a{a0}:PO Tryz.prog 249 [r9.Pv a0] (Z7 a0) λr=>.tup [b7.Pv r.1,.I r.2]:=by
 refine pO Tryz.func249 λr h _ _=>?_;refine S4 3 J<|S3 5 J<|cA h R1 J J λv1 _ h=>S2 5 J<|c5<|S4 2 J ?_;refine cN h (λhc h=>?_) λhc h=>?_
 ·refine S4 5 J ?_;refine a8 ?_;cases h;exact⟨J,[_,_],⟨oL J J J u4 p5 nl J,⟨J,tr⟩⟩,J,io⟩
 ·refine b9 ?_;refine dr [] p6 (by kernel_rfl) (by kernel_rfl)<|S7 8 J<|u5 h λv2 hv2 h=>d2 J (A0 J O1 J hv2) J<|u5 h λv3 hv3 h=>d2f J (y8 J b7S J hv3) J<|S7 2 J<|C9 (x':=b7.Pv v3.1) (cl':=true) J J (.inr J) p5<|S8 1 J<|a8 ?_
  cases h;exact⟨J,[_,_],⟨oL J J J u4 p5 nl J,⟨J,tr⟩⟩,J,io⟩

theorem b7I{a0 a1}:PO Tryz.prog 322 [.L c9.Pv a0,.I a1] (b2H a0 a1) λr=>.tup [.I r.1,.I r.2]:=by
 refine pO Tryz.func322 λr h _ _=>?_;refine S4 2 J<|S3 2 J<|cA h a4Y J J λv1 _ h=>S2 4 J<|a8 ?_;cases h;exact f2

theorem a3C{a0}:PO Tryz.prog 250 [r9.Pv a0] (a0L a0) λr=>.tup [b7.Pv r.1,.I r.2]:=by
 refine pO Tryz.func250 λr h _ _=>?_;refine S4 3 J<|S3 5 J<|cA h R1 J J λv1 _ h=>S2 5 J<|c5<|S4 2 J ?_;refine cN h (λhc h=>?_) λhc h=>?_
 ·refine S4 5 J ?_;refine a8 ?_;cases h;exact⟨J,[_,_],⟨oL J J J u4 p5 nl J,⟨J,tr⟩⟩,J,io⟩
 ·refine b9 ?_;refine dr [] p6 (by kernel_rfl) (by kernel_rfl)<|S7 5 J<|u5 h λv2 hv2 h=>d2 J (A0 J b7I J hv2) J<|S7 2 J<|u5 h λv3 hv3 h=>d2f J (y8 J H3 J hv3) J<|S7 2 J<|C9 (x':=b7.Pv v3.1) (cl':=true) J J (.inr J) p5<|S8 1 J<|a8 ?_
  cases h;exact⟨J,[_,_],⟨oL J J J u4 p5 nl J,⟨J,tr⟩⟩,J,io⟩

theorem a2j{a0}:PO Tryz.prog 251 [r9.Pv a0] (P8 a0) λr=>.tup [b7.Pv r.1,.I r.2]:=by
 refine pO Tryz.func251 λr h _ _=>?_;unfold P8 at h;refine S4 3 J<|S4 4 J<|a8 ?_;cases h;exact⟨J,[_,_],⟨oL J J J u4 p5 nl J,⟨J,tr⟩⟩,J,io⟩

theorem c07{f:Fv}{a0:r9}{r:b7 × Int}(h:b33 f a0=some r):∃n,f=some n∧B1 Tryz.prog n∧T5 Tryz.prog n [r9.Pv a0] (.tup [b7.Pv r.1,.I r.2]):=by
 unfold b33 at h;by_cases e242:f=some 242
 ·rw[if_pos e242] at h;exact⟨242,e242,(@a10 a0).1,(@a10 a0).2 _ h⟩
 rw[if_neg e242] at h;by_cases e243:f=some 243
 ·rw[if_pos e243] at h;exact⟨243,e243,(@a0V a0).1,(@a0V a0).2 _ h⟩
 rw[if_neg e243] at h;by_cases e244:f=some 244
 ·rw[if_pos e244] at h;exact⟨244,e244,(@a28 a0).1,(@a28 a0).2 _ h⟩
 rw[if_neg e244] at h;by_cases e245:f=some 245
 ·rw[if_pos e245] at h;exact⟨245,e245,(@a29 a0).1,(@a29 a0).2 _ h⟩
 rw[if_neg e245] at h;by_cases e246:f=some 246
 ·rw[if_pos e246] at h;exact⟨246,e246,(@a2k a0).1,(@a2k a0).2 _ h⟩
 rw[if_neg e246] at h;by_cases e247:f=some 247
 ·rw[if_pos e247] at h;exact⟨247,e247,(@a11 a0).1,(@a11 a0).2 _ h⟩
 rw[if_neg e247] at h;by_cases e248:f=some 248
 ·rw[if_pos e248] at h;exact⟨248,e248,(@a4k a0).1,(@a4k a0).2 _ h⟩
 rw[if_neg e248] at h;by_cases e249:f=some 249
 ·rw[if_pos e249] at h;exact⟨249,e249,(@a3a a0).1,(@a3a a0).2 _ h⟩
 rw[if_neg e249] at h;by_cases e250:f=some 250
 ·rw[if_pos e250] at h;exact⟨250,e250,(@a3C a0).1,(@a3C a0).2 _ h⟩
 rw[if_neg e250] at h;by_cases e251:f=some 251
 ·rw[if_pos e251] at h;exact⟨251,e251,(@a2j a0).1,(@a2j a0).2 _ h⟩
 rw[if_neg e251] at h;cases h

theorem a5R{a0}:PO Tryz.prog 177 [.I a0] (a04 a0) λr=>.bool r:=by
 refine pO Tryz.func177 λr h _ _=>?_;unfold a04 at h;refine S4 1 J<|S4 4 J<|a8 ?_;cases h;exact f1

theorem b0n{a0 a1}:PO Tryz.prog 104 [.I a0,.I a1] (a3q a0 a1) λr=>.I r:=by
 refine pO Tryz.func104 λr h _ _=>?_;refine S4 1 J<|S3 1 J<|cA h a5R J J λv1 _ h=>S2 1 J<|S3 1 J<|cA h a5R J J λv2 _ h=>S2 1 J<|c5<|S4 1 J ?_;refine cN h (λhc h=>?_) λhc h=>?_
 ·refine c5 ?_;refine S4 1 J ?_;refine cN h (λhc h=>?_) λhc h=>?_
  ·refine S4 1 J ?_;refine a8 ?_;cases h;exact f1
  ·refine b9 ?_;refine S4 1 J<|a8 ?_;cases h;exact f1
 ·refine b9 ?_;refine c5<|S4 1 J ?_;refine cN h (λhc h=>?_) λhc h=>?_
  ·refine S4 1 J ?_;refine a8 ?_;cases h;exact f1
  ·refine b9 ?_;refine c5<|S4 3 J ?_;refine cN h (λhc h=>?_) λhc h=>?_
   ·refine S4 1 J ?_;refine a8 ?_;cases h;exact f1
   ·refine b9 ?_;refine c5<|S4 3 J ?_;refine cN h (λhc h=>?_) λhc h=>?_
    ·refine S4 1 J ?_;refine a8 ?_;cases h;exact f1
    ·refine b9 ?_;refine S4 1 J<|a8 ?_;cases h;exact f1

theorem b3S{a0 a1 a2}:PO Tryz.prog 103 [.I a0,.I a1,.rptr [.abs (a3B (List.map (ent iF iF) a2))]] (a3O a0 a1 a2) λr=>.I r:=by
 refine pO Tryz.func103 λr h _ _=>?_;refine S4 1 J<|S3 2 J<|y0 J (c5V (es:=a2) (k:=a0) (E:=iF) (EK:=iF) (d:=.I ((B4 a2 a0).getD (0:Int))) J J b4D (C0 P4) B9 J (lk1 _ _ _))<|S1 2 J<|y0 J (c5V (es:=a2) (k:=a1) (E:=iF) (EK:=iF) (d:=.I ((B4 a2 a1).getD (0:Int))) J J b4D (C0 P4) B9 J (lk1 _ _ _))<|cA h b0n J J λv1 _ h=>S2 1 J<|a8 ?_;cases h;exact f1

theorem a2Y{a0}:PO Tryz.prog 41 [a7.Pv a0] (J1 a0) λr=>.L iF r:=by
 refine pO Tryz.func41 λr h _ _=>?_;refine S4 2 J<|S4 1 J<|sR<|b7j (KT:=Int) (VT:=Int) (EK:=iF) (E:=iF) 5000008 J J<|S2 2 J ?_;refine jq h (λq=>St.of [(3,.sl 910003),(4,.ptr 4 0 0)] [(4,vS (.mp 5000008) 1),(5000008,⟨[.mapc (List.map (ent iF iF) q.1)],0,false,0,false⟩),(910003,⟨List.map iF q.2,0,true,1,true⟩)]) (λq20 h=>?_) λκ17 h=>?_
 ·obtain⟨j18,j19⟩:=q20;refine S3 2 J<|L8 (Wk.trans (c88 5000008 nl J) (d1y 4 0 5000008 J J J J))<|u5 h λv21 hv12 h=>d1B hv12 J J c7m d1m J J J c7n J J J J J (λp q r h=>b3S.2 r h)<|yN<|S4 2 J<|a8 ?_;cases h;exact f1
 ·refine S3 3 J ?_;refine nL J H7<|S2 1 J<|g5<|lq h (λq=>St.of [(3,.sl 910003),(4,.ptr 4 0 0),(11,.L b8.Pv a0.S.Cells),(12,.I (a0.S.Cells.length:Int)),(13,.I q.1)] [(4,vS (.mp 5000008) 1),(5000008,⟨[.mapc (List.map (ent iF iF) q.2.1)],0,false,0,false⟩),(910003,⟨List.map iF q.2.2,0,true,1,true⟩)]) (Wk.trans (G1 (t:=3) (l:=920003) (z:=1) J J) (WP (λl=>if l=910003 then 920003 else l))) λq27 x26 h hx15=>?_
  obtain⟨s23,s24,s25⟩:=q27;refine S4 1 J<|c5 ?_;refine cN h (λhc h=>?_) λhc h=>?_
  ·refine b9 ?_;refine jq h (λq=>St.of [(3,.sl 33),(4,.ptr 4 0 0),(11,.L b8.Pv a0.S.Cells),(12,.I (a0.S.Cells.length:Int)),(13,.I s23)] [(4,vS (.mp 5000008) 1),(5000008,⟨[.mapc (List.map (ent iF iF) q.1)],0,false,0,false⟩),(33,⟨List.map iF q.2,0,true,1,true⟩)]) (λq34 h=>?_) λκ31 h=>?_
   ·obtain⟨j32,j33⟩:=q34;refine S6 2 J ?_;exact eL h (WP (λl=>if l=910003 then 33 else l))
   ·refine g5 ?_;refine S3 1 J<|iL h J J H7 M8 λv35 _ h=>S2 4 J<|S4 3 J ?_;refine cN h (λhc h=>?_) λhc h=>?_
    ·refine S3 3 J ?_;refine cA h a4d J J λv36 _ h=>S2 1 J<|S3 5 J<|a02 (es:=s24) (k:=v36) (v:=v35.Val.Serial) (E:=iF) (EK:=iF) (.inl J) J J J J J J b4D (C0 P4)<|yN<|S5 2 J<|y0 J (M3 (f:=iF) (l:=[v36]) J j5 n7 B9 J J nl J J)<|u5 h λv37 hv22 h=>d2P (f:=iF) (b:=8) [(4,.ptr 4 0 0),(11,.L b8.Pv a0.S.Cells),(12,.I (a0.S.Cells.length:Int)),(13,.I s23),(14,.bool (decide (s23<(a0.S.Cells.length:Int)))),(15,.I s23),(16,.rptr (b8.Pc v35)),(17,b8.Pv v35),(6,.ptr 6 0 0),(5,.I s23),(18,.ptr 6 0 0),(19,.I v35.State),(20,.bool (v35.State==1)),(21,.I s23),(22,.ptr 6 0 1),(23,.I v35.Gen),(24,.I v36),(7,.I v36),(25,.mp 5000008),(26,.I v36),(27,.ptr 6 0 2),(28,.ptr 6 0 2),(29,.I v35.Val.Serial),(31,.I v36),(32,.lst true (List.map iF [v36]))] [(6,vR (b8.Pv v35) 8),(5000008,⟨[.mapc (List.map (ent iF iF) (r7 s24 v36 v35.Val.Serial))],0,false,0,false⟩),(4,vS (.mp 5000008) 1)] J hv22 ⟨J,J,J,J,J,J,J,J,J,J,J,J,J,J,J,J,J,J,J,J,J,J,J,J,J,J,J,J,J,J,J,J,J,J,J,J,J,J,J,J,J,J,J,J,J,J,J,J,J,J,J,J,J,J,J,J,J,J,J,J,J,J,J,J,J,J,J,J,J,J,J,J,J,J,J,tr⟩ ⟨rS,a2F J J J (λq=>nomatch q) J J J J,a2F J J J (λq=>nomatch q) J J J J,tr⟩ J J J J (.inl ⟨_,J,J⟩) j5 n7 J6 B9 J (λ_=>J)<|S2 1 J ?_;exact eJ h W
    ·refine b9 ?_;exact eJ h (WP (λl=>if l=33 then 910003 else l))
  ·refine l6 ?_;refine c4<|c4<|j1 ?_;have h:=xL hx15 h;exact eJ h W

theorem b5L{a0}:PO Tryz.prog 133 [b7.Pv a0] (a1A a0) λr=>.L iF r:=by
 refine pO Tryz.func133 λr h _ _=>?_;refine S4 2 J<|S4 1 J ?_;refine jq h (λj16=>St.of [(3,.sl 910003)] [(910003,⟨List.map iF j16,(List.map iF j16).length,true,1,true⟩)]) (λj16 h=>?_) λκ15 h=>?_
 ·refine S4 2 J ?_;refine a8 ?_;cases h;exact f1
 ·refine S3 2 J ?_;refine cF h a2Y J J λv17 _ h=>nL J j5<|S2 1 J<|g5<|lq h (λq=>St.of [(1,.ptr 1 0 0),(3,.sl 910003),(10,.L iF v17),(11,.I (v17.length:Int)),(12,.I q.1)] [(1,vR (b7.Pv a0) 8),(910003,⟨List.map iF q.2,(List.map iF q.2).length,true,1,true⟩)]) (Wk.trans (G1 (t:=3) (l:=920003) (z:=1) J J) (WP (λl=>if l=910003 then 920003 else l))) λq22 x21 h hx16=>?_
  obtain⟨s19,s20⟩:=q22;refine S4 1 J<|c5 ?_;refine cN h (λhc h=>?_) λhc h=>?_
  ·refine b9 ?_;refine jq h (λj27=>St.of [(1,.ptr 1 0 0),(3,.sl 29),(10,.L iF v17),(11,.I (v17.length:Int)),(12,.I s19)] [(29,⟨List.map iF j27,(List.map iF j27).length,true,1,true⟩),(1,vR (b7.Pv a0) 8)]) (λj27 h=>?_) λκ26 h=>?_
   ·refine S6 2 J ?_;exact eL h (Wk.trans (n8 _ [29]) (WP (λl=>if l=910003 then 29 else l)))
   ·refine g5 ?_;refine sR<|iL h J J j5 n7 λv28 _ h=>S2 2 J<|S3 3 J<|cF h C2 J J λv29 _ h=>S2 6 J<|S4 3 J ?_;refine cN h (λhc h=>?_) λhc h=>?_
    ·refine S5 2 J ?_;refine y0 J (M3 (f:=iF) (l:=[v28]) J j5 n7 B9 J J nl J J)<|u5 h λv30 hv23 h=>J8 J (G8 (f:=iF) hv23 J J J J J J (.inl ⟨_,J,J⟩) j5 n7 J6 B9 J (λ_=>J)) J J J<|S2 1 J ?_;exact eJ h (Wk.trans (n8 _ [29]) W)
    ·refine b9 ?_;exact eJ h (Wk.trans (n8 _ [910003]) (WP (λl=>if l=29 then 910003 else l)))
  ·refine l6 ?_;refine c4<|c4<|j1 ?_;have h:=xL hx16 h;exact eJ h (Wk.trans (n8 _ [910003]) W)

theorem a5k{a0}:PO Tryz.prog 129 [k9.Pv a0] (M4 a0) λr=>.bool r:=by
 refine pO Tryz.func129 λr h _ _=>?_;unfold M4 at h;refine S4 2 J<|S3 4 J<|c8 J (λhg=>oF J b2w J)<|c8 J (λhg=>oS (ct hg) J J a20 J)<|c8 J (λhg=>U3 (ct hg) J)<|y0 J (n9 J J J (λq=>K3 q))<|S2 1 J<|a8 ?_;cases h;exact f1

theorem P0{a0}:PO Tryz.prog 286 [g6.Pv a0] (J4 a0) λr=>.I r:=by
 refine pO Tryz.func286 λr h _ _=>?_;unfold J4 at h;refine S4 2 J<|S3 2 J<|nL J a0d<|S2 1 J<|a8 ?_;cases h;exact f1

theorem U4{a0 a1 a2}:PO Tryz.prog 287 [.L g8.Pv a0,.I a1,.I a2] (F4 a0 a1 a2) λr=>.lst true (List.map g8.Pv r):=by
 refine pO Tryz.func287 λr h _ _=>?_;unfold F4 at h;refine S4 1 J<|S3 4 J<|u5 h λv1 hv1 h=>y0 J (d0K (f:=g8.Pv) hv1 J ⟨_,J⟩ ⟨_,J⟩ ⟨_,J⟩ J J a0d I4 (λ_=>J))<|S2 1 J<|a8 ?_;cases h;exact f1

theorem a58{a0 a1}:PO Tryz.prog 217 [g6.Pv a0,g8.Pv a1] (R2 a0 a1) λr=>.tup [g6.Pv r.1,.I r.2]:=by
 refine pO Tryz.func217 λr h _ _=>?_;unfold R2 at h;refine S4 4 J<|c5<|dr [] p6 (by kernel_rfl) (by kernel_rfl)<|S7 1 J<|u5 h λv1 hv1 h=>d2 J (A0 J P0 J hv1) J<|S8 3 J ?_
 refine cN h (λhc h=>?_) λhc h=>?_
 ·refine S4 3 J ?_;refine a8 ?_;cases h;exact⟨J,[_,_],⟨oL J J J a5r a1I nl J,⟨J,tr⟩⟩,J,io⟩
 ·refine b9 ?_;refine dr [] p6 (by kernel_rfl) (by kernel_rfl)<|S7 3 J<|d2 J (A0 J P0 J hv1) J<|u5 h λv2 hv2 h=>d2f J (y8 J U4 J hv2) J<|S7 1 J<|d1n J (M3 (f:=g8.Pv) (l:=[a1]) J a0d I4 a73 J J nl J J) J<|u5 h λv3 hv3 h=>d3 J (a7C (f:=g8.Pv) hv3 J J (.inl ⟨_,J,J⟩) a0d I4 c9P a73 J (λ_=>J)) J J J<|S7 1 J<|C9 (x':=.agg [.sl 19,.I a0.Cap]) (cl':=false) J J (.inl J) c4R<|N2<|S4 3 J<|a8 ?_
  cases h;exact⟨J,[_,_],⟨oL J J J a5r a1I nl J,⟨J,tr⟩⟩,J,io⟩

theorem b3E{a0 a1}:PO Tryz.prog 131 [g6.Pv a0,g8.Pv a1] (a8O a0 a1) λr=>.tup [g6.Pv r.1,.I r.2]:=by
 refine pO Tryz.func131 λr h _ _=>?_;refine S4 4 J<|S3 2 J<|cF h a58 J J λv1 _ h=>S2 4 J<|a8 ?_;cases h;exact⟨J,[_,_],⟨oL J J J a5r a1I nl J,⟨J,tr⟩⟩,J,io⟩

theorem b28{a0 a1}:PO Tryz.prog 63 [b7.Pv a0,.I a1] (Y2 a0 a1) λr=>b7.Pv r:=by
 refine pO Tryz.func63 λr h _ _=>?_;refine S4 2 J<|S3 3 J<|cF h C2 J J λv1 _ h=>S2 6 J<|c5<|S3 3 J<|c8 J (λhg=>oL J J J b0S a4P nl J)<|u5 h λv2 hv2 h=>c8 J (λhg=>A0 J a5k (w7 (ct hg) J) (B6 hv2 hg))<|c8 J (λhg=>U3 (ct hg) J)<|y0 J (r8 J J J (λq=>K5 q))<|yN ?_;refine cN h (λhc h=>?_) λhc h=>?_
 ·refine S4 2 J ?_;refine a8 ?_;cases h;exact⟨J,[_],⟨oL J J J u4 p5 nl J,tr⟩,J,io⟩
 ·refine b9 ?_;refine S4 2 J<|S3 4 J<|cF h a0R J J λv3 _ h=>S2 5 J<|S3 5 J<|y0 J (o9 (cs:=[.I 1,.I a1,.I v1.1.Prog]) J b2C a73 J J J)<|cF h b3E J J λv4 _ h=>S2 5 J<|S3 2 J<|cF h a1S J J λv5 _ h=>S2 1 J<|a8 ?_;cases h;exact⟨J,[_],⟨oL J J J u4 p5 nl J,tr⟩,J,io⟩

theorem a9S{a0 a1}:PO Tryz.prog 134 [b7.Pv a0,.L iF a1] (U7 a0 a1) λr=>.L iF r:=by
 refine pO Tryz.func134 λr h _ _=>?_;refine S4 2 J<|sR<|b7j (KT:=Int) (VT:=Bool) (EK:=iF) (E:=PV.bool) 5000011 J J<|S2 1 J<|S4 1 J ?_;refine jq h (λj18=>St.of [(6,.sl 910006)] [(910006,⟨List.map iF j18,(List.map iF j18).length,true,1,true⟩)]) (λj18 h=>?_) λκ17 h=>?_
 ·refine S4 2 J ?_;refine a8 ?_;cases h;exact f1
 ·refine S3 1 J ?_;refine nL J j5<|S2 1 J<|g5<|lq h (λq=>St.of [(2,.ptr 2 0 0),(5,.mp 5000011),(6,.sl 910006),(12,.L iF a1),(13,.I (a1.length:Int)),(14,.I q.1)] [(5000011,⟨[.mapc (List.map (ent iF PV.bool) q.2.1)],0,false,0,false⟩),(2,vR (b7.Pv a0) 8),(910006,⟨List.map iF q.2.2,(List.map iF q.2.2).length,true,1,true⟩)]) (Wk.trans (G1 (t:=6) (l:=920006) (z:=1) J J) (WP (λl=>if l=910006 then 920006 else l))) λq24 x23 h hx16=>?_
  obtain⟨s20,s21,s22⟩:=q24;refine S4 1 J<|c5 ?_;refine cN h (λhc h=>?_) λhc h=>?_
  ·refine b9 ?_;refine jq h (λq=>St.of [(2,.ptr 2 0 0),(5,.mp 5000011),(6,.sl 38),(12,.L iF a1),(13,.I (a1.length:Int)),(14,.I s20)] [(38,⟨List.map iF q.1,(List.map iF q.1).length,true,1,true⟩),(5000011,⟨[.mapc (List.map (ent iF PV.bool) q.2)],0,false,0,false⟩),(2,vR (b7.Pv a0) 8)]) (λq31 h=>?_) λκ28 h=>?_
   ·obtain⟨j29,j30⟩:=q31;refine S6 2 J ?_;exact eL h (Wk.trans (n8 _ [38]) (WP (λl=>if l=910006 then 38 else l)))
   ·refine g5 ?_;refine sR<|iL h J J j5 n7 λv32 _ h=>S2 2 J<|S3 3 J<|cF h C2 J J λv33 _ h=>S2 6 J<|S3 3 J<|c8 J (λhg=>om (d:=.mp 5000011) J)<|c8 J (λhg=>mI J) ?_;rcases Bool.eq_false_or_eq_true ((v33.2==0)==true) with hg24 | hg24
    ·have h:=ifT h hg24;refine c63 (es:=s21) (k:=v32) (E:=PV.bool) (EK:=iF) (d:=.bool ((B4 s21 v32).getD (false:Bool))) (congrArg some hg24) (ct hg24) J (ct hg24) b0Y (C0 P4) c4W J (lk1 _ _ _)<|y0 (congrArg some hg24) (U3 J J)<|y0 J (a9f J J hg24)<|yN ?_;refine cN h (λhc h=>?_) λhc h=>?_
     ·refine S3 2 J ?_;refine a02 (es:=s21) (k:=v32) (v:=true) (E:=PV.bool) (EK:=iF) (.inl J) J J J J J J b0Y (C0 P4)<|yN<|S5 2 J<|y0 J (M3 (f:=iF) (l:=[v32]) J j5 n7 B9 J J nl J J)<|u5 h λv34 hv25 h=>J8 J (G8 (f:=iF) hv25 J J J J J J (.inl ⟨_,J,J⟩) j5 n7 J6 B9 J (λ_=>J)) J J J<|S2 1 J ?_;exact eJ h (Wk.trans (n8 _ [38]) W)
     ·refine b9 ?_;exact eJ h (Wk.trans (n8 _ [910006]) (WP (λl=>if l=38 then 910006 else l)))
    ·have h:=ifF h hg24;refine a2e (congrArg some hg24)<|a2e (congrArg some hg24)<|y0 J (a9e J J hg24)<|yN ?_;refine H6 false J (λq=>nomatch q) (λ_=>?_);refine b9 ?_;exact eJ h (Wk.trans (n8 _ [910006]) (WP (λl=>if l=38 then 910006 else l)))
  ·refine l6 ?_;refine c4<|c4<|j1 ?_;have h:=xL hx16 h;exact eJ h (Wk.trans (n8 _ [910006]) W)

theorem a6o{a0 a1}:PO Tryz.prog 352 [.L iF a0,.I a1] (R3 a0 a1) λr=>.I r:=by
 refine pO Tryz.func352 λr h _ _=>?_;refine S4 1 J ?_;refine jq h (λ_=>St.of [] []) (λq6 h=>?_) λκ5 h=>?_
 ·refine S4 1 J ?_;refine a8 ?_;cases h;exact f1
 ·refine S3 1 J ?_;refine nL J j5<|S2 1 J<|g5<|lq h (λs8=>St.of [(0,.L iF a0),(1,.I a1),(7,.I (a0.length:Int)),(8,.I s8)] []) W λs8 x9 h hx8=>S4 1 J<|c5 ?_;refine cN h (λhc h=>?_) λhc h=>?_
  ·refine b9 ?_;refine c5<|g5<|S4 2 J<|S3 3 J<|iL h J J j5 n7 λv10 _ h=>S2 2 J ?_;refine cN h (λhc h=>?_) λhc h=>?_
   ·refine S4 2 J ?_;refine a8 ?_;have h:=xL hx8 h;cases h;exact f1
   ·refine b9 ?_;refine S6 2 J ?_;exact eL h W
  ·refine l6 ?_;refine c4<|c4<|j1 ?_;have h:=xL hx8 h;exact eJ h W

theorem a4A{a0 a1}:PO Tryz.prog 290 [.L iF a0,.I a1] (N7 a0 a1) λr=>.bool r:=by
 refine pO Tryz.func290 λr h _ _=>?_;refine S4 1 J<|S3 2 J<|cA h a6o J J λv1 _ h=>S2 2 J<|a8 ?_;cases h;exact f1

theorem b3U{a0 a1}:PO Tryz.prog 289 [g7.Pv a0,.rptr [.L iF a1]] (a0T a0 a1) λr=>.bool r:=by
 refine pO Tryz.func289 λr h _ _=>?_;unfold a0T at h;refine S4 2 J<|S3 3 J<|c8 J (λhg=>oF J b4C J)<|c8 J (λhg=>oS (ct hg) J J p8 J)<|c8 J (λhg=>m8 (ct hg) J J)<|y0 J (n9 J J J (λq=>K3 q))<|S1 1 J<|c8 J (λhg=>F2 J a0a J)<|c8 J (λhg=>oF J b4C J)<|c8 J (λhg=>oS (ct hg) J J p8 J)<|u5 h λv1 hv1 h=>c8 J (λhg=>A0 J a4A (w7 (ct hg) (w7 (ct hg) J)) (B6 hv1 hg))<|y0 J (n9 J J J (λq=>K3 q))<|S2 1 J<|a8 ?_;cases h;exact f1

theorem a3A{a0 a1}:PO Tryz.prog 279 [.L g7.Pv a0,.fn (.func 289) [.rptr [.L iF a1]]] (K4 a0 a1) λr=>.L iF r:=by
 refine pO Tryz.func279 λr h _ _=>?_;refine S4 1 J<|S4 1 J ?_;refine jq h (λj15=>St.of [(5,.sl 910005)] [(910005,⟨List.map iF j15,(List.map iF j15).length,true,1,true⟩)]) (λj15 h=>?_) λκ14 h=>?_
 ·refine S4 2 J ?_;refine a8 ?_;cases h;exact f1
 ·refine S3 1 J ?_;refine nL J G4<|S2 1 J<|g5<|lq h (λq=>St.of [(1,.fn (.func 289) [.rptr [.L iF a1]]),(5,.sl 910005),(8,.L g7.Pv a0),(9,.I (a0.length:Int)),(10,.I q.1)] [(910005,⟨List.map iF q.2,(List.map iF q.2).length,true,1,true⟩)]) (Wk.trans (G1 (t:=5) (l:=920005) (z:=1) J J) (WP (λl=>if l=910005 then 920005 else l))) λq20 x19 h hx14=>?_
  obtain⟨s17,s18⟩:=q20;refine S4 1 J<|c5 ?_;refine cN h (λhc h=>?_) λhc h=>?_
  ·refine b9 ?_;refine jq h (λj25=>St.of [(1,.fn (.func 289) [.rptr [.L iF a1]]),(5,.sl 21),(8,.L g7.Pv a0),(9,.I (a0.length:Int)),(10,.I s17)] [(21,⟨List.map iF j25,(List.map iF j25).length,true,1,true⟩)]) (λj25 h=>?_) λκ24 h=>?_
   ·refine S6 2 J ?_;exact eL h (Wk.trans (n8 _ [21]) (WP (λl=>if l=910005 then 21 else l)))
   ·refine g5 ?_;refine S3 1 J<|iL h J J G4 T7 λv26 _ h=>S2 4 J<|S3 2 J<|cA h b3U J J λv27 _ h=>yN ?_;refine cN h (λhc h=>?_) λhc h=>?_
    ·refine S5 2 J ?_;refine y0 J (M3 (f:=iF) (l:=[s17]) J j5 n7 B9 J J nl J J)<|u5 h λv28 hv21 h=>J8 J (G8 (f:=iF) hv21 J J J J J J (.inl ⟨_,J,J⟩) j5 n7 J6 B9 J (λ_=>J)) J J J<|S2 1 J ?_;exact eJ h (Wk.trans (n8 _ [21]) W)
    ·refine b9 ?_;exact eJ h (Wk.trans (n8 _ [910005]) (WP (λl=>if l=21 then 910005 else l)))
  ·refine l6 ?_;refine c4<|c4<|j1 ?_;have h:=xL hx14 h;exact eJ h (Wk.trans (n8 _ [910005]) W)

theorem b6B{a0 a1}:PO Tryz.prog 219 [.L g7.Pv a0,.L iF a1] (a4F a0 a1) λr=>.tup [.L g7.Pv r.1,.L iF r.2]:=by
 refine pO Tryz.func219 λr h _ _=>?_;unfold a4F at h;refine S4 3 J<|S3 2 J<|u5 h λv1 hv1 h=>ycL J (y8 J a3A J hv1) J<|S2 1 J<|S3 1 J<|u5 h λv2 hv2 h=>ycN J (b65 J a7G J hv2) J J<|S2 1 J<|S4 1 J ?_;refine jq h (λq=>St.of [(7,.sl 15),(8,.sl 910008)] [(910008,⟨List.map iF q.1,(List.map iF q.1).length,true,1,true⟩),(15,⟨List.map g7.Pv q.2,0,true,3,true⟩)]) (λq24 h=>?_) λκ21 h=>?_
 ·obtain⟨j22,j23⟩:=q24;refine S4 4 J<|a8 ?_;cases h;exact f2
 ·refine S3 1 J ?_;refine nL J j5<|S2 1 J<|g5<|lq h (λq=>St.of [(7,.sl 15),(8,.sl 910008),(16,.L iF v1),(17,.I (v1.length:Int)),(18,.I q.1)] [(15,⟨List.map g7.Pv q.2.1,0,true,3,true⟩),(910008,⟨List.map iF q.2.2,(List.map iF q.2.2).length,true,1,true⟩)]) (Wk.trans (G1 (t:=8) (l:=920008) (z:=1) J J) (WP (λl=>if l=910008 then 920008 else l))) λq30 x29 h hx18=>?_
  obtain⟨s26,s27,s28⟩:=q30;refine S4 1 J<|c5 ?_;refine cN h (λhc h=>?_) λhc h=>?_
  ·refine b9 ?_;refine jq h (λq=>St.of [(7,.sl 15),(8,.sl 35),(16,.L iF v1),(17,.I (v1.length:Int)),(18,.I s26)] [(35,⟨List.map iF q.1,(List.map iF q.1).length,true,1,true⟩),(15,⟨List.map g7.Pv q.2,0,true,3,true⟩)]) (λq38 h=>?_) λκ35 h=>?_
   ·obtain⟨j36,j37⟩:=q38;refine S6 2 J ?_;exact eL h (Wk.trans (n8 _ [35]) (WP (λl=>if l=910008 then 35 else l)))
   ·refine g5 ?_;refine sR<|iL h J J j5 n7 λv39 _ h=>S2 2 J<|S3 2 J<|u5 h λv40 hv25 h=>y0 J (a0W (f:=g7.Pv) hv25 J J J J G4 T7 J)<|S1 1 J<|a4G (f:=g7.Pv) (v:=(⟨v40.Target,false,v40.Call⟩:g7)) hv25 J J (.inl J) d1L<|yN<|S3 2 J<|u5 h λv41 hv26 h=>y0 J (a0W (f:=g7.Pv) hv26 J J J J G4 T7 J)<|S1 1 J<|y0 J (b5d (f:=g7.Pv) hv26 J J J p8 J)<|S2 1 J ?_;refine cN h (λhc h=>?_) λhc h=>?_
    ·refine S5 2 J ?_;refine y0 J (M3 (f:=iF) (l:=[v39]) J j5 n7 B9 J J nl J J)<|u5 h λv42 hv27 h=>J8 J (G8 (f:=iF) hv27 J J J J J J (.inl ⟨_,J,J⟩) j5 n7 J6 B9 J (λ_=>J)) J J J<|S2 1 J ?_;exact eJ h (Wk.trans (n8 _ [35]) W)
    ·refine b9 ?_;exact eJ h (Wk.trans (n8 _ [910008]) (WP (λl=>if l=35 then 910008 else l)))
  ·refine l6 ?_;refine c4<|c4<|j1 ?_;have h:=xL hx18 h;exact eJ h (Wk.trans (n8 _ [910008]) W)

theorem b2g{a0 a1}:PO Tryz.prog 135 [b7.Pv a0,.L iF a1] (a18 a0 a1) λr=>b7.Pv r:=by
 refine pO Tryz.func135 λr h _ _=>?_;refine S4 2 J<|S3 3 J<|cF h b6B J J λv1 _ h=>S2 5 J<|S4 3 J ?_;refine jq h (λj11=>St.of [(2,.ptr 2 0 0),(4,.ptr 4 0 0)] [(4,vR (.agg [.nl,.I 0,.I 0,.nl,.nl,.nl,.nl,.I 0]) 8),(2,vR (.agg [.L b8.Pv a0.S.S.Cells,.I a0.S.S.Last,.I a0.S.Serial,.L iF a0.Roots,.L g7.Pv v1.1,.L c9.Pv a0.T,.L g8.Pv j11.L,.I j11.Cap]) 8)]) (λj11 h=>?_) λκ10 h=>?_
 ·refine S4 2 J ?_;refine a8 ?_;cases h;exact⟨J,[_],⟨oL J J J u4 p5 nl J,tr⟩,J,io⟩
 ·refine S3 1 J ?_;refine nL J j5<|S2 1 J<|g5<|lq h (λq=>St.of [(2,.ptr 2 0 0),(4,.ptr 4 0 0),(5,.L g7.Pv v1.1),(18,.L iF v1.2),(19,.I (v1.2.length:Int)),(20,.I q.1)] [(4,vR (.agg [.nl,.I 0,.I 0,.nl,.nl,.nl,.nl,.I 0]) 8),(2,vR (.agg [.L b8.Pv a0.S.S.Cells,.I a0.S.S.Last,.I a0.S.Serial,.L iF a0.Roots,.L g7.Pv v1.1,.L c9.Pv a0.T,.L g8.Pv q.2.L,.I q.2.Cap]) 8)]) W λq16 x15 h hx11=>?_;obtain⟨s13,s14⟩:=q16;refine S4 1 J<|c5 ?_;refine cN h (λhc h=>?_) λhc h=>?_
  ·refine b9 ?_;refine c5<|g5<|sR<|iL h J J j5 n7 λv17 _ h=>S2 2 J<|a2w [] p6 (by kernel_rfl) (by kernel_rfl)<|S7 5 J<|u5 h λv18 hv13 h=>d0 J (x5 (f:=g7.Pv) (cs:=g7.Pc v18) hv13 J J G4 T7 J J) J<|S7 2 J<|d7 J (λ_ hN=>o9 (cs:=[.I 2,.I v17,.I v18.Call]) J b2C a73 J J J) J<|u5 h λv19 hv14 h=>d2f J (y8 J b3E J hv14) J<|S7 4 J<|C9 (x':=.agg [.L b8.Pv a0.S.S.Cells,.I a0.S.S.Last,.I a0.S.Serial,.L iF a0.Roots,.L g7.Pv v1.1,.L c9.Pv a0.T,.L g8.Pv v19.1.L,.I v19.1.Cap]) (cl':=true) J J (.inr J) a1I<|N2<|S6 2 J ?_
   exact eL h W
  ·refine l6 ?_;refine c4<|c4<|j1 ?_;have h:=xL hx11 h;exact eJ h W

theorem b2q{a0}:PO Tryz.prog 220 [.L iF a0] (a33 a0) λr=>.fn (.func 292) [.rptr [.L iF r]]:=by
 refine pO Tryz.func220 λr h _ _=>?_;unfold a33 at h;refine S4 2 J<|S4 2 J<|a8 ?_;cases h;exact f1

theorem b2p{a0}:PO Tryz.prog 137 [.L iF a0] (a32 a0) λr=>.L iF r:=by
 refine pO Tryz.func137 λr h _ _=>?_;refine S4 1 J<|S4 1 J ?_;refine jq h (λj10=>St.of [(3,.ptr 2001 0 0)] [(2001,vS (.sl 912501) 1),(912501,⟨List.map iF j10,(List.map iF j10).length,true,1,true⟩)]) (λj10 h=>?_) λκ9 h=>?_
 ·refine S4 2 J ?_;refine a8 ?_;cases h;exact f1
 ·refine S3 1 J ?_;refine cF h b2q J J λv11 _ h=>yN<|g5<|a3d (WPE (λl=>if l=2011 then 3 else l) [(3,.ptr 2011 0 0),(6,.fn (.func 292) [.rptr [.L iF v11]])] [(2011,vR (.nl) 1)]) ?_
  refine a0q (fn:=Tryz.f292) (N1:=20) J Tryz.func292 J J nl J c2i J J (λl17 e18 o19 hR20=>?_);refine S3 1 J<|nL J j5<|S2 1 J<|g5<|lq h (λq=>St.of [(1000003,.ptr 2011 0 0),(1000006,.fn (.func 292) [.rptr [.L iF v11]]),(0,.fn (.yield l17) []),(5,.L iF v11),(6,.I (v11.length:Int)),(7,.I q.1)] [(2011,vS (.sl 912511) 1),(912511,⟨List.map iF q.2,(List.map iF q.2).length,true,1,true⟩)]) (Wk.trans (a9M (l0:=2011) (j:=0) (l:=922511) (z:=1) J J J J J) (WP (λl=>if l=912511 then 922511 else l))) λq16 x15 h hx23=>?_
  obtain⟨s13,s14⟩:=q16;refine S4 1 J<|c5 ?_;refine cN h (λhc h=>?_) λhc h=>?_
  ·refine b9 ?_;refine c5<|g5<|sR<|iL h J J j5 n7 λv17 _ h=>S2 2 J<|S3 3 J<|c8 J (λhg=>om (d:=.fn (.yield l17) []) J)<|c8 J (λhg=>mI J) ?_;rcases Bool.eq_false_or_eq_true ((v17 != 0)==true) with hg25 | hg25
   ·have h:=ifT h hg25;refine L8 (WPE (λl=>if l=2019 then 912511 else l) [(1000003,.ptr 2011 0 0),(1000006,.fn (.func 292) [.rptr [.L iF v11]]),(0,.fn (.yield l17) []),(5,.L iF v11),(6,.I (v11.length:Int)),(7,.I s13),(13,.bool (v17 != 0)),(14,.fn (.yield l17) []),(15,.I v17)] [(2011,vS (.sl 2019) 1),(2019,⟨List.map iF s14,(List.map iF s14).length,true,1,true⟩)]) ?_
    refine a3T hR20 (congrArg some hg25) J J J J J (λe26 o27 o28=>?_);refine S6 1 J ?_;refine⟨J,?_⟩;refine g5<|S5 2 J<|y0 J (M3 (f:=iF) (l:=[v17]) J j5 n7 B9 J J nl J J)<|u5 h λv18 hv29 h=>J8 J (G8 (f:=iF) hv29 J J J J J J (.inl ⟨_,J,J⟩) j5 n7 J6 B9 J (λ_=>J)) J J J<|S2 1 J ?_;refine⟨J,?_⟩;refine L8 (WPE (λl=>if l=2020 then 11 else l) [(1000003,.ptr 2011 0 0),(1000006,.fn (.func 292) [.rptr [.L iF v11]]),(0,.fn (.yield l17) []),(5,.L iF v11),(6,.I (v11.length:Int)),(7,.I s13),(13,.bool (v17 != 0)),(16,.bool true)] [(2011,vS (.sl 2020) 1),(2020,⟨List.map iF v18,s14.length,true,1,true⟩)])<|y0 (congrArg some hg25) (U3 J J)<|y0 J (a9f J J hg25)<|yN ?_
    refine H6 false J (λq=>nomatch q) (λ_=>?_);refine b9<|S6 2 J ?_;exact eL h (Wk.trans (n8 _ [2020]) (WP (λl=>if l=912511 then 2020 else l)))
   ·have h:=ifF h hg25;refine a2e (congrArg some hg25)<|a2e (congrArg some hg25)<|y0 J (a9e J J hg25)<|yN ?_;refine H6 false J (λq=>nomatch q) (λ_=>?_);refine b9<|S6 2 J ?_;exact eL h (Wk.trans (n8 _ [912511]) W)
  ·refine l6 ?_;refine c4<|c4<|j1 ?_;refine .inl ⟨J,?_⟩;have h:=xL hx23 h;exact eJ h (Wk.trans (n8 _ [912511]) (WP (λl=>if l=2001 then 2011 else if l=912501 then 912511 else l)))

theorem b2K{a0 a1}:PO Tryz.prog 138 [.L c9.Pv a0,.L iF a1] (X7 a0 a1) λr=>.tup [.L c9.Pv r.1,.L iF r.2]:=by
 refine pO Tryz.func138 λr h _ _=>?_;refine S4 2 J<|S4 1 J ?_;refine jq h (λq=>St.of [(0,.L c9.Pv q.1),(6,.sl 910006)] [(910006,⟨List.map iF q.2,(List.map iF q.2).length,true,1,true⟩)]) (λq20 h=>?_) λκ17 h=>?_
 ·obtain⟨j18,j19⟩:=q20;refine S4 4 J<|a8 ?_;cases h;exact f2
 ·refine S3 1 J ?_;refine nL J j5<|S2 1 J<|g5<|lq h (λq=>St.of [(0,.L c9.Pv q.1),(6,.sl 910006),(12,.L iF a1),(13,.I (a1.length:Int)),(14,.I q.2.1)] [(910006,⟨List.map iF q.2.2,(List.map iF q.2.2).length,true,1,true⟩)]) (Wk.trans (G1 (t:=6) (l:=920006) (z:=1) J J) (WP (λl=>if l=910006 then 920006 else l))) λq26 x25 h hx14=>?_
  obtain⟨s22,s23,s24⟩:=q26;refine S4 1 J<|c5 ?_;refine cN h (λhc h=>?_) λhc h=>?_
  ·refine b9 ?_;refine jq h (λq=>St.of [(0,.L c9.Pv q.1),(6,.sl 31),(12,.L iF a1),(13,.I (a1.length:Int)),(14,.I s23)] [(31,⟨List.map iF q.2,(List.map iF q.2).length,true,1,true⟩)]) (λq33 h=>?_) λκ30 h=>?_
   ·obtain⟨j31,j32⟩:=q33;refine S6 2 J ?_;exact eL h (Wk.trans (n8 _ [31]) (WP (λl=>if l=910006 then 31 else l)))
   ·refine g5 ?_;refine sR<|iL h J J j5 n7 λv34 _ h=>S2 2 J<|S3 2 J<|cF h b1h J J λv35 _ h=>S2 7 J<|S4 2 J ?_;refine cN h (λhc h=>?_) λhc h=>?_
    ·refine S5 3 J ?_;refine y0 J (M3 (f:=iF) (l:=[v35.2.1]) J j5 n7 B9 J J nl J J)<|u5 h λv36 hv21 h=>J8 J (G8 (f:=iF) hv21 J J J J J J (.inl ⟨_,J,J⟩) j5 n7 J6 B9 J (λ_=>J)) J J J<|S2 2 J ?_;exact eJ h (Wk.trans (n8 _ [31]) W)
    ·refine b9 ?_;exact eJ h (Wk.trans (n8 _ [910006]) (WP (λl=>if l=31 then 910006 else l)))
  ·refine l6 ?_;refine c4<|c4<|j1 ?_;have h:=xL hx14 h;exact eJ h (Wk.trans (n8 _ [910006]) W)

theorem a7f{a0 a1}:PO Tryz.prog 222 [g9.Pv a0,.I a1] (T2 a0 a1) λr=>.tup [g9.Pv r.1,.I r.2]:=by
 refine pO Tryz.func222 λr h _ _=>?_;refine S4 3 J<|S3 2 J<|cF h a2l J J λv1 _ h=>S2 6 J<|c5<|S4 2 J ?_;refine cN h (λhc h=>?_) λhc h=>?_
 ·refine S4 4 J ?_;refine a8 ?_;cases h;exact⟨J,[_,_],⟨oL J J J a3o a1H nl J,⟨J,tr⟩⟩,J,io⟩
 ·refine b9 ?_;refine dr [] p6 (by kernel_rfl) (by kernel_rfl)<|S7 2 J<|u5 h λv2 hv2 h=>d2 J (A0 J a8e J hv2) J<|S7 1 J<|u5 h λv3 hv3 h=>d2 J (A0 J a94 J hv3) J<|S7 1 J<|d7 J (λ_ hN=>o9 (cs:=[.I 2,.I v3,.I v1.1.Serial,.I v1.1.Strong,.I v1.1.Weak,.I v1.1.Prog,.bool v1.1.Started,.L iF v1.1.Fields]) J b3V a8W J J J) J<|u5 h λv4 hv4 h=>d2f J (y8 J J0 J hv4) J<|C9 (x':=g9.Pv v4) (cl':=true) J J (.inr J) a1H<|S8 1 J<|a8 ?_
  cases h;exact⟨J,[_,_],⟨oL J J J a3o a1H nl J,⟨J,tr⟩⟩,J,io⟩

theorem b29{a0 a1}:PO Tryz.prog 139 [b7.Pv a0,.I a1] (Y3 a0 a1) λr=>b7.Pv r:=by
 refine pO Tryz.func139 λr h _ _=>?_;refine S4 2 J<|S3 3 J<|cF h C2 J J λv1 _ h=>S2 6 J<|S3 1 J<|a8S (x':=.agg [.I v1.1.Serial,.I v1.1.Strong,.I v1.1.Weak,.I v1.1.Prog,.bool v1.1.Started,.nl]) (cl':=true) J J (.inl J) c4Q<|S1 1 J<|a8S (x':=.agg [.I v1.1.Serial,.I 0,.I v1.1.Weak,.I v1.1.Prog,.bool v1.1.Started,.nl]) (cl':=true) J J (.inl J) n7<|yN<|S3 4 J<|cF h a0R J J λv2 _ h=>S2 5 J<|S3 4 J<|cF h a7f J J λv3 _ h=>S2 6 J<|c5<|S4 3 J ?_;refine cN h (λhc h=>?_) λhc h=>?_
 ·refine S5 4 J ?_;refine cF h a2a J J λv4 _ h=>S2 6 J<|S4 2 J<|a8 ?_;cases h;exact⟨J,[_],⟨oL J J J u4 p5 nl J,tr⟩,J,io⟩
 ·refine b9 ?_;refine S4 2 J<|a8 ?_;cases h;exact⟨J,[_],⟨oL J J J u4 p5 nl J,tr⟩,J,io⟩

theorem b5K{a0 a1}:PO Tryz.prog 65 [b7.Pv a0,.L iF a1] (a1z a0 a1) λr=>b7.Pv r:=by
 refine pO Tryz.func65 λr h _ _=>?_;refine S4 2 J<|S3 2 J<|cF h a9S J J λv1 _ h=>S2 1 J<|S3 2 J<|cF h b2g J J λv2 _ h=>S2 1 J<|S4 1 J<|S4 2 J ?_;refine jq h (λj13=>St.of [(2,.ptr 2 0 0),(4,.ptr 4 0 0),(5,.L iF v1),(6,.ptr 6 0 0),(7,.fn (.func 136) [.ptr 6 0 0])] [(6,vS (.sl 910506) 1),(910506,⟨List.map iF j13,(List.map iF j13).length,true,1,true⟩),(4,vR (.agg [.nl,.I 0,.I 0,.nl,.nl,.nl,.nl,.I 0]) 8),(2,vR (b7.Pv v2) 8)]) (λj13 h=>?_) λκ12 h=>?_
 ·refine S3 3 J ?_;refine cF h b2K J J λv14 _ h=>S2 5 J<|S3 2 J<|L8 (WPE (λl=>if l=2025 then 6 else if l=2026 then 4 else if l=2027 then 2 else if l=2028 then 910506 else l) [(2,.ptr 2027 0 0),(4,.ptr 2026 0 0),(5,.L iF v1),(6,.ptr 2025 0 0),(12,.L c9.Pv v14.1),(51,.fn (.func 136) [.ptr 2025 0 0]),(52,.L iF v14.2)] [(2025,vS (.sl 2028) 1),(2028,⟨List.map iF j13,(List.map iF j13).length,true,1,true⟩),(2026,vR (.agg [.nl,.I 0,.I 0,.nl,.nl,.nl,.nl,.I 0]) 8),(2027,vR (b7.Pv v2) 8)]) ?_
  refine b7i (fn:=Tryz.f136) (N1:=6) J J Tryz.func136 J c2h J J nl (λe14 o15=>?_);refine S5 2 J<|u5 h λv15 hv16 h=>J8 J (G8 (f:=iF) hv16 J J J J J J (.inl ⟨_,J,J⟩) j5 n7 J6 B9 J (λ_=>J)) J J J<|S2 1 J ?_;refine⟨J,[],tr,?_⟩;refine L8 (WPE (λl=>if l=2029 then 5 else l) [(2,.ptr 2027 0 0),(4,.ptr 2026 0 0),(5,.L iF v1),(6,.ptr 2025 0 0),(12,.L c9.Pv v14.1)] [(2025,vS (.sl 2029) 1),(2029,⟨List.map iF v15,j13.length,true,1,true⟩),(2026,vR (.agg [.nl,.I 0,.I 0,.nl,.nl,.nl,.nl,.I 0]) 8),(2027,vR (b7.Pv v2) 8)])<|yN<|S4 3 J ?_
  refine jq h (λj24=>St.of [(2,.ptr 2027 0 0),(4,.ptr 2026 0 0),(6,.ptr 2025 0 0)] [(2025,vS (.sl 2029) 1),(2029,⟨List.map iF v15,j13.length,true,1,true⟩),(2026,vR (.agg [.nl,.I 0,.I 0,.nl,.nl,.nl,.nl,.I 0]) 8),(2027,vR (b7.Pv j24) 8)]) (λj24 h=>?_) λκ23 h=>?_
  ·refine jq h (λj33=>St.of [(2,.ptr 2027 0 0),(4,.ptr 2026 0 0)] [(2026,vR (.agg [.nl,.I 0,.I 0,.nl,.nl,.nl,.nl,.I 0]) 8),(2027,vR (b7.Pv j33) 8)]) (λj33 h=>?_) λκ32 h=>?_
   ·refine S4 2 J ?_;refine a8 ?_;cases h;exact⟨J,[_],⟨oL J J J u4 p5 nl J,tr⟩,J,io⟩
   ·refine S3 1 J ?_;refine y0 J (b9N (f:=iF) J J J j5)<|S2 1 J<|g5<|lq h (λq=>St.of [(2,.ptr 2027 0 0),(4,.ptr 2026 0 0),(66,.sl 2029),(67,.I (v15.length:Int)),(68,.I q.1)] [(2029,⟨List.map iF v15,j13.length,true,1,true⟩),(2026,vR (.agg [.nl,.I 0,.I 0,.nl,.nl,.nl,.nl,.I 0]) 8),(2027,vR (b7.Pv q.2) 8)]) W λq38 x37 h hx31=>?_;obtain⟨s35,s36⟩:=q38;refine S4 1 J<|c5 ?_;refine cN h (λhc h=>?_) λhc h=>?_
    ·refine b9 ?_;refine c5<|g5<|sR<|u5 h λv39 hv32 h=>y0 J (a0W (f:=iF) hv32 J J J J j5 n7 J)<|y0 J (b5d (f:=iF) hv32 J J J p8 J)<|S2 1 J<|S5 2 J<|cF h W8 J J λv40 _ h=>S2 1 J<|S6 2 J ?_;exact eL h W
    ·refine l6 ?_;refine c4<|c4<|j1 ?_;have h:=xL hx31 h;exact eJ h W
  ·refine S3 1 J ?_;refine nL J j5<|S2 1 J<|g5<|lq h (λq=>St.of [(2,.ptr 2027 0 0),(4,.ptr 2026 0 0),(6,.ptr 2025 0 0),(56,.L iF v1),(57,.I (v1.length:Int)),(58,.I q.1)] [(2025,vS (.sl 2029) 1),(2029,⟨List.map iF v15,j13.length,true,1,true⟩),(2026,vR (.agg [.nl,.I 0,.I 0,.nl,.nl,.nl,.nl,.I 0]) 8),(2027,vR (b7.Pv q.2) 8)]) W λq45 x44 h hx36=>?_;obtain⟨s42,s43⟩:=q45;refine S4 1 J<|c5 ?_;refine cN h (λhc h=>?_) λhc h=>?_
   ·refine b9 ?_;refine c5<|g5<|sR<|iL h J J j5 n7 λv46 _ h=>S2 2 J<|S5 2 J<|cF h b29 J J λv47 _ h=>S2 1 J<|S6 2 J ?_;exact eL h W
   ·refine l6 ?_;refine c4<|c4<|j1 ?_;have h:=xL hx36 h;exact eJ h W
 ·refine S3 1 J ?_;refine nL J j5<|S2 1 J<|g5<|lq h (λq=>St.of [(2,.ptr 2 0 0),(4,.ptr 4 0 0),(5,.L iF v1),(6,.ptr 6 0 0),(7,.fn (.func 136) [.ptr 6 0 0]),(25,.L iF v1),(26,.I (v1.length:Int)),(27,.I q.1)] [(6,vS (.sl 910506) 1),(4,vR (.agg [.nl,.I 0,.I 0,.nl,.nl,.nl,.nl,.I 0]) 8),(2,vR (b7.Pv v2) 8),(910506,⟨List.map iF q.2,(List.map iF q.2).length,true,1,true⟩)]) (Wk.trans (a9M (l0:=6) (j:=0) (l:=920506) (z:=1) J J J J J) (WP (λl=>if l=910506 then 920506 else l))) λq52 x51 h hx41=>?_
  obtain⟨s49,s50⟩:=q52;refine S4 1 J<|c5 ?_;refine cN h (λhc h=>?_) λhc h=>?_
  ·refine b9 ?_;refine c5<|g5<|sR<|iL h J J j5 n7 λv53 _ h=>S2 2 J<|S3 3 J<|cF h C2 J J λv54 _ h=>S2 6 J<|S5 3 J<|cF h b2p J J λv55 _ h=>L8 (WPE (λl=>if l=2049 then 6 else if l=2050 then 4 else if l=2051 then 2 else if l=2052 then 910506 else l) [(2,.ptr 2051 0 0),(4,.ptr 2050 0 0),(5,.L iF v1),(6,.ptr 2049 0 0),(7,.fn (.func 136) [.ptr 2049 0 0]),(25,.L iF v1),(26,.I (v1.length:Int)),(27,.I s49),(38,.fn (.func 136) [.ptr 2049 0 0]),(41,.L iF v55)] [(2049,vS (.sl 2052) 1),(2052,⟨List.map iF s50,(List.map iF s50).length,true,1,true⟩),(2050,vR (.agg [.nl,.I 0,.I 0,.nl,.nl,.nl,.nl,.I 0]) 8),(2051,vR (b7.Pv v2) 8)]) ?_
   refine b7i (fn:=Tryz.f136) (N1:=6) J J Tryz.func136 J c2h J J nl (λe45 o46=>?_);refine S5 2 J<|u5 h λv56 hv47 h=>J8 J (G8 (f:=iF) hv47 J J J J J J (.inl ⟨_,J,J⟩) j5 n7 J6 B9 J (λ_=>J)) J J J<|S2 1 J ?_;refine⟨J,[],tr,?_⟩;refine L8 (WPE (λl=>if l=2053 then 5 else l) [(2,.ptr 2051 0 0),(4,.ptr 2050 0 0),(5,.L iF v1),(6,.ptr 2049 0 0),(7,.fn (.func 136) [.ptr 2049 0 0]),(25,.L iF v1),(26,.I (v1.length:Int)),(27,.I s49)] [(2049,vS (.sl 2053) 1),(2053,⟨List.map iF v56,s50.length,true,1,true⟩),(2050,vR (.agg [.nl,.I 0,.I 0,.nl,.nl,.nl,.nl,.I 0]) 8),(2051,vR (b7.Pv v2) 8)])<|yN<|S6 2 J ?_
   exact eL h (Wk.trans (n8 _ [2053]) (WP (λl=>if l=2 then 2051 else if l=4 then 2050 else if l=6 then 2049 else if l=910506 then 2053 else l)))
  ·refine l6 ?_;refine c4<|c4<|j1 ?_;have h:=xL hx41 h;exact eJ h (Wk.trans (n8 _ [910506]) W)

theorem a2J{a0}:PO Tryz.prog 64 [b7.Pv a0] (R9 a0) λr=>b7.Pv r:=by
 refine pO Tryz.func64 λr h _ _=>?_;refine S4 2 J<|lqS h (λs2=>St.of [(1,.ptr 1 0 0),(2,.ptr 2 0 0)] [(2,vR (.agg [.nl,.I 0,.I 0,.nl,.nl,.nl,.nl,.I 0]) 8),(1,vR (b7.Pv s2) 8)]) W λs2 x3 h hx3=>S3 1 J<|cF h b5L J J λv4 _ h=>S2 1 J<|c5<|S3 1 J<|nL J j5<|S2 1 J ?_;refine cN h (λhc h=>?_) λhc h=>?_
 ·refine S4 2 J ?_;refine a8 ?_;have h:=xL hx3 h;cases h;exact⟨J,[_],⟨oL J J J u4 p5 nl J,tr⟩,J,io⟩
 ·refine b9 ?_;refine c5<|dr [] p6 (by kernel_rfl) (by kernel_rfl)<|S7 3 J<|u5 h λv5 hv5 h=>d0 J (x5 (f:=iF) (cs:=[.I v5]) hv5 J J j5 n7 J J) J<|S7 1 J<|u5 h λv6 hv6 h=>d2f J (y8 J C2 J hv6) J<|S7 4 J<|C9 (x':=k9.Pv v6.1) (cl':=true) J J (.inr J) a4P<|S8 1 J<|S3 1 J<|cA h a5k J J λv7 _ h=>yN ?_
  refine cN h (λhc h=>?_) λhc h=>?_
  ·refine a2w [] p6 (by kernel_rfl) (by kernel_rfl) ?_
   refine S7 2 J<|d0 J (x5 (f:=iF) (cs:=[.I v5]) hv5 J J j5 n7 J J) J<|S7 1 J<|u5 h λv8 hv8 h=>d2f J (y8 J b28 J hv8) J<|C9 (x':=b7.Pv v8) (cl':=true) J J (.inr J) p5<|N2<|c24 ?_;exact eS h W
  ·refine a2w [] p6 (by kernel_rfl) (by kernel_rfl) ?_
   refine S7 2 J<|u5 h λv9 hv9 h=>d0 J (c1p (f:=iF) hv9 J J ⟨_,J⟩ j5 n7 (λ_=>J)) J<|u5 h λv10 hv10 h=>d2f J (y8 J b5K J hv10) J<|C9 (x':=b7.Pv v10) (cl':=true) J J (.inr J) p5<|N2<|c24 ?_;exact eS h W

theorem b1y{a0 a1}:PO Tryz.prog 180 [b7.Pv a0,.I a1] (a1Z a0 a1) λr=>.I r:=by
 refine pO Tryz.func180 λr h _ _=>?_;refine S4 2 J<|S3 3 J<|cF h C2 J J λv1 _ h=>S2 6 J<|S4 3 J<|a8 ?_;cases h;exact f1

theorem a06{a0 a1}:PO Tryz.prog 107 [b7.Pv a0,.I a1] (W2 a0 a1) λr=>.I r:=by
 refine pO Tryz.func107 λr h _ _=>?_;unfold W2 at h;refine S4 2 J<|dr [] p6 (by kernel_rfl) (by kernel_rfl)<|S7 3 J<|u5 h λv1 hv1 h=>d2 J (A0 J O1 J hv1) J<|u5 h λv2 hv2 h=>d2 J (A0 J b1y J hv2) J<|S8 1 J<|a8 ?_
 cases h;exact f1

theorem b1z{a0 a1 a2}:PO Tryz.prog 172 [b7.Pv a0,b7.Pv a1,j2.Pv a2] (U1 a0 a1 a2) λr=>.I r:=by
 refine pO Tryz.func172 λr h _ _=>?_;refine S4 4 J<|c5<|S4 2 J<|g5<|S4 2 J ?_;refine cN h (λhc h=>?_) λhc h=>?_
 ·refine S3 3 J ?_;refine cA h a06 J J λv1 _ h=>S2 1 J<|a8 ?_;cases h;exact f1
 ·refine jq h (λj3=>St.of [(3,.ptr 3 0 0),(4,.ptr 4 0 0),(5,.ptr 5 0 0),(8,.I a2.Kind),(15,.bool j3)] [(5,vR (j2.Pv a2) 4),(4,vR (b7.Pv a1) 8),(3,vR (b7.Pv a0) 8)]) (λj3 h=>?_) λκ2 h=>?_
  ·refine cN h (λhc h=>?_) λhc h=>?_
   ·refine S3 3 J ?_;refine cA h a06 J J λv4 _ h=>S2 1 J<|a8 ?_;cases h;exact f1
   ·refine S4 2 J ?_;refine cN h (λhc h=>?_) λhc h=>?_
    ·refine c5 ?_;refine dr [] p6 (by kernel_rfl) (by kernel_rfl)<|S7 3 J<|u5 h λv5 hv4 h=>d2 J (A0 J O1 J hv4) J<|S7 3 J<|u5 h λv6 hv5 h=>d2 J (A0 J O1 J hv5) J<|S8 1 J ?_
     refine cN h (λhc h=>?_) λhc h=>?_
     ·refine S4 1 J ?_;refine a8 ?_;cases h;exact f1
     ·refine b9 ?_;refine S4 1 J<|a8 ?_;cases h;exact f1
    ·refine b9 ?_;refine S3 3 J<|cA h a06 J J λv7 _ h=>S2 1 J<|a8 ?_;cases h;exact f1
  ·refine S4 2 J ?_;refine cN h (λhc h=>?_) λhc h=>?_
   ·refine b9 ?_;exact eJ h W
   ·refine S6 2 J ?_;exact eJ h W

theorem a96{a0 a1}:PO Tryz.prog 96 [b7.Pv a0,j2.Pv a1] (w9 a0 a1) λr=>.tup [b7.Pv r.1,.I r.2.1,.I r.2.2]:=by
 refine pO Tryz.func96 λr h _ _=>?_;refine S4 5 J<|c5<|S3 1 J<|cA h b6f J J λv1 _ h=>S2 1 J<|S4 2 J ?_;refine cN h (λhc h=>?_) λhc h=>?_
 ·refine S4 5 J ?_;refine a8 ?_;cases h;exact⟨J,[_,_,_],⟨oL J J J u4 p5 nl J,⟨J,⟨J,tr⟩⟩⟩,J,io⟩
 ·refine b9 ?_;refine dr [] p6 (by kernel_rfl) (by kernel_rfl)<|u5 h λv2 hv2 h=>d2f J (y8 J b2V J hv2) J<|S7 2 J<|d4 J (d2p (es:=v2) (k:=a1.Kind) (E:=fvE) (EK:=iF) (d:=.tup [fvE ((B4 v2 a1.Kind).getD (none:Fv)),.bool ((B4 v2 a1.Kind).isSome)]) J J a0e (C0 P4) c7M J (lk2 _ _ _)) J<|S8 5 J<|c5<|S4 2 J ?_
  refine cN h (λhc h=>?_) λhc h=>?_
  ·refine S4 4 J ?_;refine a8 ?_;cases h;exact⟨J,[_,_,_],⟨oL J J J u4 p5 nl J,⟨J,⟨J,tr⟩⟩⟩,J,io⟩
  ·refine b9 ?_;refine S3 3 J<|y0 J (o9 (cs:=[.L b8.Pv a0.S.S.Cells,.I a0.S.S.Last,.I a0.S.Serial,.L iF a0.Roots,.L g7.Pv a0.Cells,.L c9.Pv a0.T,.L g8.Pv a0.Q.L,.I a0.Q.Cap,.I a1.Kind,.I a1.A,.I a1.B,.I a1.C]) J c7B c7N J J J) ?_;obtain⟨v3,hv3,h⟩:=a74 h;obtain⟨n4,he4,hk5,hp6⟩:=c07 hv3;refine L8 (c3r 30 J he4)<|yc J (b70 J hk5 J hp6)<|S2 6 J<|c5<|S4 2 J ?_;refine cN h (λhc h=>?_) λhc h=>?_
   ·refine S4 5 J ?_;refine a8 ?_;cases h;exact⟨J,[_,_,_],⟨oL J J J u4 p5 nl J,⟨J,⟨J,tr⟩⟩⟩,J,io⟩
   ·refine b9 ?_;refine S3 1 J<|cF h a2J J J λv5 _ h=>S2 2 J<|dr [] p6 (by kernel_rfl) (by kernel_rfl)<|S7 4 J<|u5 h λv6 hv8 h=>d2 J (A0 J b1z J hv8) J<|C9 (x':=b7.Pv v5) (cl':=true) J J (.inr J) p5<|S8 2 J<|a8 ?_
    cases h;exact⟨J,[_,_,_],⟨oL J J J u4 p5 nl J,⟨J,⟨J,tr⟩⟩⟩,J,io⟩

theorem a8n{a0 a1}:PO Tryz.prog 39 [b7.Pv a0,.L j2.Pv a1] (a0p a0 a1) λr=>.tup [b7.Pv r.1,.L iF r.2]:=by
 refine pO Tryz.func39 λr h _ _=>?_;refine S4 3 J<|S4 1 J ?_;refine jq h (λq=>St.of [(2,.ptr 2 0 0),(4,.ptr 4 0 0),(6,.sl 910006)] [(910006,⟨List.map iF q.2,(List.map iF q.2).length,true,1,true⟩),(4,vR (.agg [.nl,.I 0,.I 0,.nl,.nl,.nl,.nl,.I 0]) 8),(2,vR (b7.Pv q.1) 8)]) (λq13 h=>?_) λκ10 h=>?_
 ·obtain⟨j11,j12⟩:=q13;refine S4 4 J<|a8 ?_;cases h;exact⟨J,[_,_],⟨oL J J J u4 p5 nl J,⟨J,tr⟩⟩,J,io⟩
 ·refine S3 1 J ?_;refine nL J a5s<|S2 1 J<|g5<|lq h (λq=>St.of [(2,.ptr 2 0 0),(4,.ptr 4 0 0),(6,.sl 910006),(10,.L j2.Pv a1),(11,.I (a1.length:Int)),(12,.I q.1)] [(4,vR (.agg [.nl,.I 0,.I 0,.nl,.nl,.nl,.nl,.I 0]) 8),(2,vR (b7.Pv q.2.1) 8),(910006,⟨List.map iF q.2.2,(List.map iF q.2.2).length,true,1,true⟩)]) (Wk.trans (G1 (t:=6) (l:=920006) (z:=1) J J) (WP (λl=>if l=910006 then 920006 else l))) λq19 x18 h hx10=>?_
  obtain⟨s15,s16,s17⟩:=q19;refine S4 1 J<|c5 ?_;refine cN h (λhc h=>?_) λhc h=>?_
  ·refine b9 ?_;refine c5<|g5<|sR<|iL h J J a5s b4F λv20 _ h=>S2 3 J<|S4 1 J<|S3 2 J<|cF h a96 J J λv21 _ h=>S2 6 J<|S5 2 J<|y0 J (M3 (f:=iF) (l:=[v21.2.1]) J j5 n7 B9 J J nl J J)<|u5 h λv22 hv13 h=>J8 J (G8 (f:=iF) hv13 J J J J J J (.inl ⟨_,J,J⟩) j5 n7 J6 B9 J (λ_=>J)) J J J<|S2 1 J<|S6 2 J ?_;exact eL h (Wk.trans (n8 _ [26]) (WP (λl=>if l=910006 then 26 else l)))
  ·refine l6 ?_;refine c4<|c4<|j1 ?_;have h:=xL hx10 h;exact eJ h (Wk.trans (n8 _ [910006]) W)

theorem a5D{a0 a1}:PO Tryz.prog 264 [g6.Pv a0,.I a1] (Z2 a0 a1) λr=>.tup [g6.Pv r.1,.L g8.Pv r.2]:=by
 refine pO Tryz.func264 λr h _ _=>?_;refine S4 3 J<|S3 2 J<|cA h P0 J J λv1 hv1 h=>y0 J (d2q J J J)<|y0 J (c9B J J J)<|S2 1 J<|S3 3 J<|cF h U4 J J λv2 _ h=>S2 1 J<|dr [] p6 (by kernel_rfl) (by kernel_rfl)<|S7 4 J<|d2 J (A0 J P0 J hv1) J<|u5 h λv3 hv3 h=>d2f J (y8 J U4 J hv3) J<|S7 1 J<|C9 (x':=.agg [.L g8.Pv v3,.I a0.Cap]) (cl':=true) J J (.inr J) c4R<|N2<|S4 4 J<|a8 ?_
 cases h;exact⟨J,[_,_],⟨oL J J J a5r a1I nl J,⟨J,tr⟩⟩,J,io⟩

theorem a64{a0}:PO Tryz.prog 182 [g6.Pv a0] (a00 a0) λr=>.tup [g6.Pv r.1,g8.Pv r.2.1,.I r.2.2]:=by
 refine pO Tryz.func182 λr h _ _=>?_;refine S4 4 J<|S3 1 J<|cF h a5D J J λv1 _ h=>S2 6 J<|c5<|S3 1 J<|nL J a0d<|S2 1 J ?_;refine cN h (λhc h=>?_) λhc h=>?_
 ·refine S4 1 J ?_;refine dr [1,1007] p6 (by kernel_rfl) (by kernel_rfl)<|S7 1 J<|d7 J (λ_ hN=>b1B (cs:=[.I 0,.I 0,.I 0]) hN J J J J a0c I4 nl J) J<|C9 (x':=g6.Pv a0) (cl':=true) J J (.inr J) a1I<|C9 (x':=.agg [.I 0,.I 0,.I 0]) (cl':=true) J J (.inl J) I4<|S8 1 J<|a8 ?_
  cases h;exact⟨J,[_,_,_],⟨oL J J J a5r a1I nl J,⟨oL J J J a0c I4 nl J,⟨J,tr⟩⟩⟩,J,io⟩
 ·refine b9 ?_;refine dr [2,3] p6 (by kernel_rfl) (by kernel_rfl)<|S7 2 J<|u5 h λv2 hv2 h=>d7 J (λ_ hN=>x5 (f:=g8.Pv) (cs:=g8.Pc v2) hv2 J J a0d I4 J J) J<|d7 J (λ_ hN=>a4l J a0c I4 nl J) J<|C9 (x':=g6.Pv v1.1) (cl':=true) J J (.inr J) a1I<|C9 (x':=g8.Pv v2) (cl':=true) J J (.inl J) I4<|S8 1 J<|a8 ?_
  cases h;exact⟨J,[_,_,_],⟨oL J J J a5r a1I nl J,⟨oL J J J a0c I4 nl J,⟨J,tr⟩⟩⟩,J,io⟩

theorem a7l{a0}:PO Tryz.prog 108 [g6.Pv a0] (a1C a0) λr=>.tup [g6.Pv r.1,g8.Pv r.2.1,.I r.2.2]:=by
 refine pO Tryz.func108 λr h _ _=>?_;refine S4 4 J<|S3 1 J<|cF h a64 J J λv1 _ h=>S2 6 J<|a8 ?_;cases h;exact⟨J,[_,_,_],⟨oL J J J a5r a1I nl J,⟨oL J J J a0c I4 nl J,⟨J,tr⟩⟩⟩,J,io⟩

theorem a1L{a0}:PO Tryz.prog 52 [b7.Pv a0] (a0h a0) λr=>.bool r:=by
 refine pO Tryz.func52 λr h _ _=>?_;refine S4 2 J<|S3 2 J<|cF h a7l J J λv1 _ h=>S2 9 J<|S4 3 J<|a8 ?_;cases h;exact f1

theorem a5y{a0 a1}:PO Tryz.prog 54 [.L (Ls j2.Pv) a0,.I a1] (a2p a0 a1) λr=>.L j2.Pv r:=by
 refine pO Tryz.func54 λr h _ _=>?_;refine S4 1 J<|c5<|S3 3 J<|c8 J (λhg=>mI J)<|c8 J (λhg=>om (d:=.L (Ls j2.Pv) a0) J)<|c8 J (λhg=>H9 (f:=(Ls j2.Pv)) (ct hg) a6D)<|c8 J (λhg=>m8 (ct hg) (ct hg) J)<|y0 J (r8 J J J (λq=>K5 q))<|yN ?_;refine cN h (λhc h=>?_) λhc h=>?_
 ·refine S4 1 J ?_;refine a8 ?_;cases h;exact f1
 ·refine b9 ?_;refine S3 2 J<|iL h J J a6D b4G λv1 _ h=>S2 2 J<|a8 ?_;cases h;exact f1

theorem a5x{a0 a1}:PO Tryz.prog 50 [.L (Ls j2.Pv) a0,g8.Pv a1] (a2o a0 a1) λr=>.I r:=by
 refine pO Tryz.func50 λr h _ _=>?_;refine S4 2 J<|S3 3 J<|cF h a5y J J λv1 _ h=>nL J a5s<|S2 2 J<|a8 ?_;cases h;exact f1

theorem a5z{a0 a1}:PO Tryz.prog 46 [b7.Pv a0,.L (Ls j2.Pv) a1] (V9 a0 a1) λr=>.tup [b7.Pv r.1,g8.Pv r.2.1,.I r.2.2]:=by
 refine pO Tryz.func46 λr h _ _=>?_;refine S4 4 J<|S3 2 J<|cF h a7l J J λv1 _ h=>S2 9 J<|c5<|S4 2 J ?_;refine cN h (λhc h=>?_) λhc h=>?_
 ·refine S3 1 J ?_;refine y0 J (o9 (cs:=[.I 0,.I 0,.I 0]) J b2C a73 J J J)<|S2 4 J<|a8 ?_;cases h;exact⟨J,[_,_,_],⟨oL J J J u4 p5 nl J,⟨oL J J J a0c I4 nl J,⟨J,tr⟩⟩⟩,J,io⟩
 ·refine b9 ?_;refine S4 3 J<|S4 4 J ?_;refine jq h (λj6=>St.of [(1,.L (Ls j2.Pv) a1),(2,.ptr 2 0 0),(4,.ptr 4 0 0),(5,.ptr 5 0 0),(8,.ptr 8 0 0),(10,.bool (v1.2.1.Kind==1))] [(8,vR (g8.Pv v1.2.1) 3),(5,vR (.agg [.I 0,.I 0,.I 0]) 3),(4,vR (.agg [.nl,.I 0,.I 0,.nl,.nl,.nl,.nl,.I 0]) 8),(2,vR (b7.Pv j6) 8)]) (λj6 h=>?_) λκ5 h=>?_
  ·refine dr [] p6 (by kernel_rfl) (by kernel_rfl) ?_
   refine S7 4 J<|u5 h λv7 hv6 h=>d2f J (y8 J a5y J hv6) J<|u5 h λv8 hv7 h=>d2f J (y8 J a8n J hv7) J<|S7 3 J<|C9 (x':=b7.Pv v8.1) (cl':=true) J J (.inr J) p5<|N2<|c5<|S4 1 J ?_;refine cN h (λhc h=>?_) λhc h=>?_
   ·refine S3 1 J ?_;refine cF h a6S J J λv9 _ h=>S2 4 J<|S5 1 J<|cF h a2J J J λv10 _ h=>S2 1 J<|dr [1,1008] p6 (by kernel_rfl) (by kernel_rfl)<|S7 1 J<|d7 J (λ_ hN=>b1B (cs:=g8.Pc v1.2.1) hN J J J J a0c I4 nl J) J<|C9 (x':=b7.Pv v10) (cl':=true) J J (.inr J) p5<|C9 (x':=g8.Pv v1.2.1) (cl':=true) J J (.inl J) I4<|S8 1 J<|a8 ?_
    cases h;exact⟨J,[_,_,_],⟨oL J J J u4 p5 nl J,⟨oL J J J a0c I4 nl J,⟨J,tr⟩⟩⟩,J,io⟩
   ·refine b9 ?_;refine dr [1,1008] p6 (by kernel_rfl) (by kernel_rfl)<|S7 1 J<|d7 J (λ_ hN=>b1B (cs:=g8.Pc v1.2.1) hN J J J J a0c I4 nl J) J<|C9 (x':=b7.Pv v8.1) (cl':=true) J J (.inr J) p5<|C9 (x':=g8.Pv v1.2.1) (cl':=true) J J (.inl J) I4<|S8 1 J<|a8 ?_
    cases h;exact⟨J,[_,_,_],⟨oL J J J u4 p5 nl J,⟨oL J J J a0c I4 nl J,⟨J,tr⟩⟩⟩,J,io⟩
  ·refine S4 1 J ?_;refine cN h (λhc h=>?_) λhc h=>?_
   ·refine S3 3 J ?_;refine cF h a6S J J λv11 _ h=>S2 4 J<|S5 3 J<|cF h W8 J J λv12 _ h=>cF h a2J J J λv13 _ h=>S2 1 J ?_;exact eJ h W
   ·refine b9 ?_;exact eJ h W

theorem a1K{a0 a1 a2}:PO Tryz.prog 56 [b7.Pv a0,.L (Ls j2.Pv) a1,.I a2] (V4 a0 a1 a2) λr=>.tup [b7.Pv r.1,.I r.2.1,.I r.2.2.1,.I r.2.2.2]:=by
 refine pO Tryz.func56 λr h _ _=>?_;refine S4 6 J<|S4 2 J ?_;refine jq h (λq=>St.of [(3,.ptr 2004 0 0),(5,.ptr 2003 0 0),(6,.ptr 2002 0 0),(10,.ptr 2001 0 0)] [(2001,vR (.I q.1) 1),(2002,vR (.agg [.nl,.I 0,.I 0,.nl,.nl,.nl,.nl,.I 0]) 8),(2003,vR (.I q.2.1) 1),(2004,vR (b7.Pv q.2.2) 8)]) (λq17 h=>?_) λκ13 h=>?_
 ·obtain⟨j14,j15,j16⟩:=q17;refine c5<|S3 1 J<|cA h a1L J J λv18 _ h=>S2 1 J ?_;refine cN h (λhc h=>?_) λhc h=>?_
  ·refine dr [1,2,3001,3003] p6 (by kernel_rfl) (by kernel_rfl) ?_
   refine S7 1 J<|d7 J (λ_ hN=>b1C hN J J J J p8 J) J<|d7 J (λ_ hN=>b1C hN J J J J p8 J) J<|C9 (x':=b7.Pv j16) (cl':=true) J J (.inr J) p5<|S8 3 J<|a8 ?_;cases h;exact⟨J,[_,_,_,_],⟨oL J J J u4 p5 nl J,⟨J,⟨J,⟨J,tr⟩⟩⟩⟩,J,io⟩
  ·refine b9 ?_;refine dr [1,2,3001,3003] p6 (by kernel_rfl) (by kernel_rfl)<|S7 1 J<|d7 J (λ_ hN=>b1C hN J J J J p8 J) J<|d7 J (λ_ hN=>b1C hN J J J J p8 J) J<|C9 (x':=b7.Pv j16) (cl':=true) J J (.inr J) p5<|S8 3 J<|a8 ?_
   cases h;exact⟨J,[_,_,_,_],⟨oL J J J u4 p5 nl J,⟨J,⟨J,⟨J,tr⟩⟩⟩⟩,J,io⟩
 ·refine S3 3 J ?_;refine L8 (WPE (λl=>if l=2008 then 10 else if l=2009 then 6 else if l=2010 then 5 else if l=2011 then 3 else l) [(3,.ptr 2011 0 0),(5,.ptr 2010 0 0),(6,.ptr 2009 0 0),(10,.ptr 2008 0 0),(13,b7.Pv a0),(14,.L (Ls j2.Pv) a1),(15,.I a2)] [(2008,vR (.I 0) 1),(2009,vR (.agg [.nl,.I 0,.I 0,.nl,.nl,.nl,.nl,.I 0]) 8),(2010,vR (.I a2) 1),(2011,vR (b7.Pv a0) 8)]) ?_
  refine b7i (fn:=Tryz.f120) (N1:=8) J J Tryz.func120 J c7o J J nl (λe19 o20=>?_);refine S4 4 J<|S4 2 J<|a8 ?_;refine⟨J,[.fn (.func 193) [.ptr 3 0 0,.ptr 4 0 0,.ptr 5 0 0]],⟨J,tr⟩,?_⟩;refine L8 (WPE (λl=>if l=2012 then 5 else if l=2013 then 4 else if l=2014 then 3 else l) [(3,.ptr 2011 0 0),(5,.ptr 2010 0 0),(6,.ptr 2009 0 0),(10,.ptr 2008 0 0),(16,.fn (.func 193) [.ptr 2014 0 0,.ptr 2013 0 0,.ptr 2012 0 0])] [(2012,vR (.I a2) 1),(2013,vR (.L (Ls j2.Pv) a1) 1),(2014,vR (b7.Pv a0) 8),(2008,vR (.I 0) 1),(2009,vR (.agg [.nl,.I 0,.I 0,.nl,.nl,.nl,.nl,.I 0]) 8),(2010,vR (.I a2) 1),(2011,vR (b7.Pv a0) 8)])<|yN<|g5<|a3d (WE [(3,.ptr 2011 0 0),(5,.ptr 2010 0 0),(6,.ptr 2009 0 0),(10,.ptr 2008 0 0),(16,.fn (.func 193) [.ptr 2014 0 0,.ptr 2013 0 0,.ptr 2012 0 0])] [(2012,vR (.I a2) 1),(2013,vR (.L (Ls j2.Pv) a1) 1),(2014,vR (b7.Pv a0) 8),(2008,vR (.I 0) 1),(2009,vR (.agg [.nl,.I 0,.I 0,.nl,.nl,.nl,.nl,.I 0]) 8),(2010,vR (.I a2) 1),(2011,vR (b7.Pv a0) 8)]) ?_
  refine a0q (fn:=Tryz.f193) (N1:=40) J Tryz.func193 J J nl J c7q J J (λl21 e22 o23 hR24=>?_);refine g5<|lq h (λq=>St.of [(1000003,.ptr 2011 0 0),(1000005,.ptr 2010 0 0),(1000006,.ptr 2009 0 0),(1000010,.ptr 2008 0 0),(1000016,.fn (.func 193) [.ptr 2014 0 0,.ptr 2013 0 0,.ptr 2012 0 0]),(0,.fn (.yield l21) []),(1,.ptr 2014 0 0),(2,.ptr 2013 0 0),(3,.ptr 2012 0 0)] [(2012,vR (.I q.1) 1),(2013,vR (.L (Ls j2.Pv) a1) 1),(2014,vR (b7.Pv q.2.1) 8),(2008,vR (.I q.2.2.1) 1),(2009,vR (.agg [.nl,.I 0,.I 0,.nl,.nl,.nl,.nl,.I 0]) 8),(2010,vR (.I q.2.2.2.1) 1),(2011,vR (b7.Pv q.2.2.2.2) 8)]) W λq26 x25 h hx27=>?_;obtain⟨s20,s21,s22,s23,s24⟩:=q26;refine c5<|S3 1 J<|cA h a1L J J λv27 _ h=>S2 1 J ?_;refine cN h (λhc h=>?_) λhc h=>?_
  ·refine b9 ?_;refine g5<|S3 2 J<|cF h a7l J J λv28 _ h=>S2 9 J<|S3 2 J<|cA h a5x J J λv29 _ h=>S2 1 J<|c5<|S4 3 J ?_;refine cN h (λhc h=>?_) λhc h=>?_
   ·refine a8 ?_;refine .inl ⟨J,?_⟩;have h:=xL hx27 h;exact eJ h (WP (λl=>if l=2004 then 2011 else if l=2003 then 2010 else if l=2002 then 2009 else if l=2001 then 2008 else l))
   ·refine b9 ?_;refine S3 2 J<|cF h a5z J J λv30 _ h=>S2 5 J<|S4 4 J<|S3 3 J<|L8 (WE [(1000003,.ptr 2011 0 0),(1000005,.ptr 2010 0 0),(1000006,.ptr 2009 0 0),(1000010,.ptr 2008 0 0),(1000016,.fn (.func 193) [.ptr 2014 0 0,.ptr 2013 0 0,.ptr 2012 0 0]),(0,.fn (.yield l21) []),(1,.ptr 2014 0 0),(2,.ptr 2013 0 0),(3,.ptr 2012 0 0),(35,.fn (.yield l21) []),(36,b7.Pv v30.1),(37,.I (x6 (s20-v29)))] [(2012,vR (.I (x6 (s20-v29))) 1),(2013,vR (.L (Ls j2.Pv) a1) 1),(2014,vR (b7.Pv v30.1) 8),(2008,vR (.I s22) 1),(2009,vR (.agg [.nl,.I 0,.I 0,.nl,.nl,.nl,.nl,.I 0]) 8),(2010,vR (.I s23) 1),(2011,vR (b7.Pv s24) 8)]) ?_;refine a3T hR24 J J J J J J (λe32 o33 o34=>?_);refine S4 2 J<|S6 1 J ?_;refine⟨J,?_⟩;refine g5<|S4 4 J<|S6 3 J ?_;refine⟨J,?_⟩;refine L8 (WE [(1000003,.ptr 2011 0 0),(1000005,.ptr 2010 0 0),(1000006,.ptr 2009 0 0),(1000010,.ptr 2008 0 0),(1000016,.fn (.func 193) [.ptr 2014 0 0,.ptr 2013 0 0,.ptr 2012 0 0]),(0,.fn (.yield l21) []),(1,.ptr 2014 0 0),(2,.ptr 2013 0 0),(3,.ptr 2012 0 0),(38,.bool true)] [(2012,vR (.I (x6 (s20-v29))) 1),(2013,vR (.L (Ls j2.Pv) a1) 1),(2014,vR (b7.Pv v30.1) 8),(2008,vR (.I (x6 (s22+1))) 1),(2009,vR (.agg [.nl,.I 0,.I 0,.nl,.nl,.nl,.nl,.I 0]) 8),(2010,vR (.I (x6 (s20-v29))) 1),(2011,vR (b7.Pv v30.1) 8)])<|S2 1 J ?_;refine H6 false J (λq=>nomatch q) (λ_=>?_);refine b9 ?_;exact eL h W
  ·refine l6 ?_;refine c4<|c4<|j1 ?_;refine .inl ⟨J,?_⟩;have h:=xL hx27 h;exact eJ h (WP (λl=>if l=2004 then 2011 else if l=2003 then 2010 else if l=2002 then 2009 else if l=2001 then 2008 else l))

theorem b5P:PO Tryz.prog 271 [] (a5l) λr=>.lst true (List.map C4.Pv r):=by
 refine pO Tryz.func271 λr h _ _=>?_;unfold a5l at h;refine S4 1 J<|sR<|y0 J (o9 (cs:=[.fn (.func 338) []]) J b3X b01 J J J)<|L8 (a3F 1 (d':=.agg [fvE (some 338)]) J)<|y0 J (o9 (cs:=[.fn (.func 339) []]) J b3X b01 J J J)<|L8 (a3F 2 (d':=.agg [fvE (some 339)]) J)<|y0 J (o9 (cs:=[.fn (.func 340) []]) J b3X b01 J J J)<|L8 (a3F 3 (d':=.agg [fvE (some 340)]) J)<|y0 J (o9 (cs:=[.fn (.func 341) []]) J b3X b01 J J J)<|L8 (a3F 4 (d':=.agg [fvE (some 341)]) J)<|y0 J (M3 (f:=C4.Pv) (l:=[(⟨(some 338)⟩:C4),(⟨(some 339)⟩:C4),(⟨(some 340)⟩:C4),(⟨(some 341)⟩:C4)]) J b7q c2r b01 J J nl J J)<|S2 1 J<|a8 ?_;cases h;exact f1

theorem a4B{a0 a1}:PO Tryz.prog 338 [a7.Pv a0,b8.Pv a1] (X5 a0 a1) λr=>.bool r:=by
 refine pO Tryz.func338 λr h _ _=>?_;unfold X5 at h;refine S4 3 J<|S3 4 J<|c8 J (λhg=>oF J a5K J)<|c8 J (λhg=>oS (ct hg) J J p8 J)<|c8 J (λhg=>m8 (ct hg) J J)<|y0 J (n9 J J J (λq=>K3 q))<|S2 1 J<|a8 ?_;cases h;exact f1

theorem a1B{a0 a1}:PO Tryz.prog 339 [a7.Pv a0,b8.Pv a1] (M6 a0 a1) λr=>.bool r:=by
 refine pO Tryz.func339 λr h _ _=>?_;unfold M6 at h;refine S4 3 J<|S3 4 J<|c8 J (λhg=>oF J c3w J)<|c8 J (λhg=>oS (ct hg) J J p8 J)<|c8 J (λhg=>oF J b4x J)<|c8 J (λhg=>oF (ct hg) b4w J)<|c8 J (λhg=>oS (ct hg) J J p8 J)<|c8 J (λhg=>m8 (ct hg) (ct hg) J)<|y0 J (n9 J J J (λq=>K3 q))<|S2 1 J<|a8 ?_;cases h;exact f1

theorem a0B{a0}:PO Tryz.prog 342 [b8.Pv a0] (J2 a0) λr=>.bool r:=by
 refine pO Tryz.func342 λr h _ _=>?_;unfold J2 at h;refine S4 2 J<|S3 4 J<|c8 J (λhg=>oF J a5K J)<|c8 J (λhg=>oS (ct hg) J J p8 J)<|c8 J (λhg=>m8 (ct hg) J J)<|y0 J (r8 J J J (λq=>K5 q))<|S2 1 J<|a8 ?_;cases h;exact f1

theorem a3D{a0 a1}:PO Tryz.prog 340 [a7.Pv a0,b8.Pv a1] (U8 a0 a1) λr=>.bool r:=by
 refine pO Tryz.func340 λr h _ _=>?_;refine S4 3 J<|S4 4 J<|S3 1 J<|cA h a0B J J λv1 _ h=>S1 2 J<|c8 J (λhg=>oF J b6E J)<|c8 J (λhg=>oS (ct hg) J J p8 J)<|c8 J (λhg=>m8 (ct hg) J J)<|c8 J (λhg=>om (d:=.bool (decide (a1.Val.Serial≥1))) (ct hg))<|c8 (w8 J J J) (λhg=>oF J b6E J)<|c8 (w8 J J J) (λhg=>oS (ct hg) J J p8 J)<|c8 (w8 J J J) (λhg=>oF J b4y J)<|c8 (w8 J J J) (λhg=>oS (ct hg) J J p8 J)<|c8 (w8 J J J) (λhg=>m8 (ct hg) (ct hg) J)<|c8 J (λhg=>n9 (ct hg) J J (λq=>a3I hg (K3 q)))<|c8 J (λhg=>om (d:=.bool ((decide (a1.Val.Serial≥1))&&(decide (a1.Val.Serial≤a0.Serial)))) (ct hg))<|c8 (w8 J J J) (λhg=>oF J b6F J)<|c8 (w8 J J J) (λhg=>oS (ct hg) J J p8 J)<|c8 (w8 J J J) (λhg=>m8 (ct hg) J J)<|c8 J (λhg=>n9 (ct hg) J J (λq=>a3I hg (K3 q)))<|c8 J (λhg=>om (d:=.bool (((decide (a1.Val.Serial≥1))&&(decide (a1.Val.Serial≤a0.Serial)))&&(decide (a1.Val.Strong≥0)))) (ct hg))<|c8 (w8 J J J) (λhg=>oF J b2v J)<|c8 (w8 J J J) (λhg=>oS (ct hg) J J p8 J)<|c8 (w8 J J J) (λhg=>m8 (ct hg) J J)<|c8 J (λhg=>n9 (ct hg) J J (λq=>a3I hg (K3 q)))<|c8 J (λhg=>om (d:=.bool ((((decide (a1.Val.Serial≥1))&&(decide (a1.Val.Serial≤a0.Serial)))&&(decide (a1.Val.Strong≥0)))&&(decide (a1.Val.Weak≥0)))) (ct hg))<|c8 (w8 J J J) (λhg=>oF J c3v J)<|c8 (w8 J J J) (λhg=>oS (ct hg) J J p8 J)<|u5 h λv2 hv2 h=>c8 (w8 J J J) (λhg=>A0 J a3j (w7 (ct hg) J) (B6 hv2 hg))<|c8 J (λhg=>n9 (ct hg) J J (λq=>a3I hg (K3 q)))<|c8 J (λhg=>om (d:=.bool (((((decide (a1.Val.Serial≥1))&&(decide (a1.Val.Serial≤a0.Serial)))&&(decide (a1.Val.Strong≥0)))&&(decide (a1.Val.Weak≥0)))&&v2)) (ct hg))<|c8 (w8 J J J) (λhg=>oF J b2x J)<|c8 (w8 J J J) (λhg=>oS (ct hg) J J a0a J)<|c8 (w8 J J J) (λhg=>H9 (f:=iF) (ct hg) j5)<|c8 (w8 J J J) (λhg=>m8 (ct hg) J J)<|c8 J (λhg=>n9 (ct hg) J J (λq=>a3I hg (K3 q)))<|y0 J (r8 J J J (λq=>K5 q))<|S2 1 J<|a8 ?_;cases h;exact f1

theorem a2c{a0 a1}:PO Tryz.prog 341 [a7.Pv a0,b8.Pv a1] (O5 a0 a1) λr=>.bool r:=by
 refine pO Tryz.func341 λr h _ _=>?_;refine S4 3 J<|S4 4 J<|S3 8 J<|y0 J (o9 (cs:=[.I a1.Val.Serial,.I a1.Val.Strong,.I a1.Val.Weak,.I a1.Val.Prog]) J c2p c2u J J J)<|S2 2 J<|S3 1 J<|cA h a0B J J λv1 _ h=>S1 1 J<|c8 J (λhg=>oL J J J c7j c7K nl J)<|c8 J (λhg=>o9 (cs:=[.I 0,.I 0,.I 0,.I 0]) J c2p c2u J J J)<|c8 J (λhg=>b9M (xs:=[.I a1.Val.Serial,.I a1.Val.Strong,.I a1.Val.Weak,.I a1.Val.Prog]) (ys:=[.I 0,.I 0,.I 0,.I 0]) c7I (ct hg) (ct hg) J)<|c8 J (λhg=>om (d:=.bool ((a1.Val.Serial==0)&&((a1.Val.Strong==0)&&((a1.Val.Weak==0)&&((a1.Val.Prog==0)&&true))))) (ct hg))<|c8 (w8 J J J) (λhg=>oF J b2w J)<|c8 (w8 J J J) (λhg=>oS (ct hg) J J a20 J)<|c8 (w8 J J J) (λhg=>U3 (ct hg) J)<|c8 J (λhg=>n9 (ct hg) J J (λq=>a3I hg (K3 q)))<|c8 J (λhg=>om (d:=.bool (((a1.Val.Serial==0)&&((a1.Val.Strong==0)&&((a1.Val.Weak==0)&&((a1.Val.Prog==0)&&true))))&&(!a1.Val.Started))) (ct hg))<|c8 (w8 J J J) (λhg=>oF J b2x J)<|c8 (w8 J J J) (λhg=>oS (ct hg) J J a0a J)<|c8 (w8 J J J) (λhg=>H9 (f:=iF) (ct hg) j5)<|c8 (w8 J J J) (λhg=>m8 (ct hg) J J)<|c8 J (λhg=>n9 (ct hg) J J (λq=>a3I hg (K3 q)))<|y0 J (r8 J J J (λq=>K5 q))<|S2 1 J<|a8 ?_;cases h;exact f1

theorem c08{f:Fv}{a0:a7}{a1:b8}{r:Bool}(h:b34 f a0 a1=some r):∃n,f=some n∧B1 Tryz.prog n∧T5 Tryz.prog n [a7.Pv a0,b8.Pv a1] (.bool r):=by
 unfold b34 at h;by_cases e338:f=some 338
 ·rw[if_pos e338] at h;exact⟨338,e338,(@a4B a0 a1).1,(@a4B a0 a1).2 _ h⟩
 rw[if_neg e338] at h;by_cases e339:f=some 339
 ·rw[if_pos e339] at h;exact⟨339,e339,(@a1B a0 a1).1,(@a1B a0 a1).2 _ h⟩
 rw[if_neg e339] at h;by_cases e340:f=some 340
 ·rw[if_pos e340] at h;exact⟨340,e340,(@a3D a0 a1).1,(@a3D a0 a1).2 _ h⟩
 rw[if_neg e340] at h;by_cases e341:f=some 341
 ·rw[if_pos e341] at h;exact⟨341,e341,(@a2c a0 a1).1,(@a2c a0 a1).2 _ h⟩
 rw[if_neg e341] at h;cases h

end Go.Proofs.YtlkcpapbolbjnaaGreat.Ok
