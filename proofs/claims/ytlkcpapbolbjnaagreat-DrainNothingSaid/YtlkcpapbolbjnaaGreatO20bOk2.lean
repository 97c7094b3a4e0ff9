/-
 The functions of the program do as the plain functions do.
-/
import Derived.Test.YtlkcpapbolbjnaaGreatO20bOk1
set_option linter.unusedVariables false
set_option linter.unusedSimpArgs false
set_option linter.unusedSectionVars false
namespace Go.Proofs.YtlkcpapbolbjnaaGreat.Ok
open Go Go.Pw Go.Sh Go.Proofs
set_option maxRecDepth 100000
set_option maxHeartbeats 4000000
theorem I4{a0 a1 a2}:PO Tryz.prog 285 [g8.Pv a0,.I a1,b7.Pv a2] (C6 a0 a1 a2) λr=>g8.Pv r:=by
 refine pO Tryz.func285 λr h _ _=>?_;unfold C6 at h;refine S4 3 J<|S3 2 J<|w8 h λv1 hv1 h=>ycN J (b6r J L8 J hv1) J J<|S2 2 J<|S3 4 J<|w8 h λv2 hv2 h=>y0 J (a4a (f:=b7.Pv) hv2 J J J J H0 M0 J)<|b1U (f:=b7.Pv) (v:=a2) hv2 J J (.inr J) M0<|yN<|S4 2 J<|b8 ?_;cases h;exact⟨J,[_],⟨oL J J J a3e a1v nl J,tr⟩,J,io⟩

theorem a31{a0 a1}:PO Tryz.prog 101 [.I a0,.I a1] (a0b a0 a1) λr=>.I r:=by
 refine pO Tryz.func101 λr h _ _=>?_;refine S4 1 J<|g7<|S3 3 J<|c5 J (λhg=>mI J)<|c5 J (λhg=>l5 (ct hg) J J)<|y0 J (o9 J J J (λq=>I8 q))<|S1 1 J<|c5 J (λhg=>mI J)<|c5 J (λhg=>l5 (ct hg) J J)<|y0 J (o9 J J J (λq=>I8 q))<|S1 1 J<|c5 J (λhg=>mI J)<|c5 J (λhg=>l5 (ct hg) J J)<|y0 J (o9 J J J (λq=>I8 q))<|yN ?_;refine cN h (λhc h=>?_) λhc h=>?_
 ·refine S4 1 J ?_;refine b8 ?_;cases h;exact f1
 ·refine b9 ?_;refine S4 7 J<|b8 ?_;cases h;exact f1

theorem a6R{a0 a1}:PO Tryz.prog 366 [g8.Pv a0,k8.Pv a1] (J0 a0 a1) λr=>.tup [g8.Pv r.1,.I r.2.1,.I r.2.2]:=by
 refine pO Tryz.func366 λr h _ _=>?_;refine S4 5 J ?_;refine jq h (λ_=>St.of [(2,.ptr 2005 0 0),(4,.ptr 2003 0 0),(5,.ptr 2002 0 0),(6,.ptr 2001 0 0)] [(2001,vR (.I 0) 1),(2002,vR (.I 0) 1),(2003,vR (.agg [.nl,.I 0]) 2),(2005,vR (g8.Pv a0) 2)]) (λq10 h=>?_) λκ9 h=>?_
 ·refine S4 4 J ?_;refine b8 ?_;cases h;exact⟨J,[_,_,_],⟨oL J J J a3e a1v nl J,⟨oS J J J p7 J,⟨oS J J J b3U J,tr⟩⟩⟩,J,io⟩
 ·refine S3 1 J ?_;refine cF h a6S J J λv11 _ h=>yN<|g6<|a2Y (WPE (λl=>if l=2006 then 6 else if l=2007 then 5 else if l=2008 then 4 else if l=2009 then 3 else if l=2010 then 2 else l) [(2,.ptr 2010 0 0),(3,.ptr 2009 0 0),(4,.ptr 2008 0 0),(5,.ptr 2007 0 0),(6,.ptr 2006 0 0),(10,.fn (.func 397) [.rptr (g8.Pc v11)])] [(2006,vR (.I 0) 1),(2007,vR (.I 0) 1),(2008,vR (.agg [.nl,.I 0]) 2),(2009,vR (k8.Pv a1) 6),(2010,vR (g8.Pv a0) 2)]) ?_
  refine a0h (fn:=Tryz.f397) (N1:=23) J Tryz.func397 J J nl J c6I J J (λl19 e20 o21 hR22=>?_);refine S3 2 J<|nL J H0<|S2 1 J<|g6<|lq h (λs13=>St.of [(1000002,.ptr 2010 0 0),(1000003,.ptr 2009 0 0),(1000004,.ptr 2008 0 0),(1000005,.ptr 2007 0 0),(1000006,.ptr 2006 0 0),(1000010,.fn (.func 397) [.rptr (g8.Pc v11)]),(0,.fn (.yield l19) []),(6,.L b7.Pv v11.Cells),(7,.I (v11.Cells.length:Int)),(8,.I s13)] [(2006,vR (.I 0) 1),(2007,vR (.I 0) 1),(2008,vR (.agg [.nl,.I 0]) 2),(2009,vR (k8.Pv a1) 6),(2010,vR (g8.Pv a0) 2)]) W λs13 x14 h hx25=>S4 1 J<|g7 ?_;refine cN h (λhc h=>?_) λhc h=>?_
  ·refine b9 ?_;refine g7<|g6<|S3 1 J<|iL h J J H0 M0 λv15 _ h=>S2 4 J<|S3 4 J<|c5 J (λhg=>om (d:=.fn (.yield l19) []) J)<|c5 J (λhg=>mI J) ?_;rcases Bool.eq_false_or_eq_true ((v15.State==0)==true) with hg27 | hg27
   ·have h:=ifT h hg27;refine L2 (WE [(1000002,.ptr 2010 0 0),(1000003,.ptr 2009 0 0),(1000004,.ptr 2008 0 0),(1000005,.ptr 2007 0 0),(1000006,.ptr 2006 0 0),(1000010,.fn (.func 397) [.rptr (g8.Pc v11)]),(0,.fn (.yield l19) []),(6,.L b7.Pv v11.Cells),(7,.I (v11.Cells.length:Int)),(8,.I s13),(16,.bool (v15.State==0)),(17,.fn (.yield l19) []),(18,.I s13)] [(2006,vR (.I 0) 1),(2007,vR (.I 0) 1),(2008,vR (.agg [.nl,.I 0]) 2),(2009,vR (k8.Pv a1) 6),(2010,vR (g8.Pv a0) 2)]) ?_;refine a3L hR22 (congrArg some hg27) J J J J J (λe28 o29 o30=>?_);refine S6 1 J ?_;refine⟨J,?_⟩;refine g6<|S3 3 J<|iL h J J H0 M0 λv16 _ h=>S2 3 J<|S3 4 J<|y0 J (s7 (cs:=[.I 1,.I v16.Gen,.I a1.Serial,.I a1.Strong,.I a1.Weak,.I a1.Prog,.bool a1.Started,.L iF a1.Fields]) J b3l a8A J J J)<|cF h I4 J J λv17 _ h=>S1 2 J<|cA h a31 J J λv18 _ h=>S2 3 J<|b8 ?_;refine⟨J,?_⟩;refine L2 (WE [(1000002,.ptr 2010 0 0),(1000003,.ptr 2009 0 0),(1000004,.ptr 2008 0 0),(1000005,.ptr 2007 0 0),(1000006,.ptr 2006 0 0),(1000010,.fn (.func 397) [.rptr (g8.Pc v11)]),(0,.fn (.yield l19) []),(6,.L b7.Pv v11.Cells),(7,.I (v11.Cells.length:Int)),(8,.I s13),(16,.bool (v15.State==0)),(19,.bool false)] [(2006,vR (.I 0) 1),(2007,vR (.I v18) 1),(2008,vR (g8.Pv v17) 2),(2009,vR (k8.Pv a1) 6),(2010,vR (g8.Pv a0) 2)])<|y0 (congrArg some hg27) (P5 J J)<|y0 J (a8S J J hg27)<|yN ?_;refine G9 true J (λ_=>?_) (λq=>nomatch q);refine b8 ?_;refine .inr ⟨.ret,J,c7r ?_⟩;have h:=xL hx25 h;cases h;exact⟨J,[_,_,_],⟨oL J J J a3e a1v nl J,⟨oS J J J p7 J,⟨oS J J J b3U J,tr⟩⟩⟩,J,io⟩
   ·have h:=ifF h hg27;refine a11 (congrArg some hg27)<|a11 (congrArg some hg27)<|y0 J (a8R J J hg27)<|yN ?_;refine G9 false J (λq=>nomatch q) (λ_=>?_);refine b9<|S6 2 J ?_;exact eL h W
  ·refine m7 ?_;refine c4<|c4<|j4 ?_;refine .inl ⟨J,?_⟩;have h:=xL hx25 h;exact eJ h (WP (λl=>if l=2005 then 2010 else if l=2003 then 2008 else if l=2002 then 2007 else if l=2001 then 2006 else l))

theorem b5R{a0 a1 a2}:PO Tryz.prog 314 [a7.Pv a0,.I a1,.I a2] (R6 a0 a1 a2) λr=>.tup [a7.Pv r.1,.I r.2.1,.I r.2.2]:=by
 refine pO Tryz.func314 λr h _ _=>?_;refine S4 4 J<|S3 1 J<|cF h c1b J J λv1 _ h=>S2 5 J<|g7<|S4 2 J ?_;refine cN h (λhc h=>?_) λhc h=>?_
 ·refine S4 5 J ?_;refine b8 ?_;cases h;exact⟨J,[_,_,_],⟨oL J J J a49 a5b nl J,⟨J,⟨J,tr⟩⟩⟩,J,io⟩
 ·refine b9 ?_;refine g7<|S3 1 J<|cA h a28 J J λv2 _ h=>S2 1 J ?_;refine cN h (λhc h=>?_) λhc h=>?_
  ·refine S4 4 J ?_;refine b8 ?_;cases h;exact⟨J,[_,_,_],⟨oL J J J a49 a5b nl J,⟨J,⟨J,tr⟩⟩⟩,J,io⟩
  ·refine b9 ?_;refine S3 7 J<|y0 J (s7 (cs:=[.I (u9 (a0.Serial+1)),.I 0,.I 0,.I a2,.bool false,.L iF v1.1]) J c6J c6Y J J J)<|cF h a6R J J λv3 _ h=>S2 8 J<|g7<|S4 2 J ?_;refine cN h (λhc h=>?_) λhc h=>?_
   ·refine S4 5 J ?_;refine b8 ?_;cases h;exact⟨J,[_,_,_],⟨oL J J J a49 a5b nl J,⟨J,⟨J,tr⟩⟩⟩,J,io⟩
   ·refine b9 ?_;refine S3 4 J<|y0 J (s7 (cs:=[.L b7.Pv v3.1.Cells,.I v3.1.Last,.I (u9 (a0.Serial+1))]) J c3O c3U J J J)<|S2 4 J<|b8 ?_;cases h;exact⟨J,[_,_,_],⟨oL J J J a49 a5b nl J,⟨J,⟨J,tr⟩⟩⟩,J,io⟩

theorem a67{a0}:PO Tryz.prog 347 [.I a0] (a1C a0) λr=>.tup [.I r.1,.I r.2.1,.bool r.2.2]:=by
 refine pO Tryz.func347 λr h _ _=>?_;refine S4 3 J<|g7<|S4 2 J ?_;refine cN h (λhc h=>?_) λhc h=>?_
 ·refine S4 3 J ?_;refine b8 ?_;cases h;exact f3
 ·refine b9 ?_;refine S3 2 J<|w8 h λv1 hv1 h=>y0 J (a3u J J hv1)<|w8 h λv2 hv2 h=>y0 J (a3u J J hv2)<|S1 2 J<|w8 h λv3 hv3 h=>y0 J (a3u J J hv3)<|S2 2 J<|g7<|S3 3 J<|c5 J (λhg=>mI J)<|c5 J (λhg=>l5 (ct hg) J J)<|y0 J (o9 J J J (λq=>I8 q))<|yN ?_;refine cN h (λhc h=>?_) λhc h=>?_
  ·refine S4 3 J ?_;refine b8 ?_;cases h;exact f3
  ·refine b9 ?_;refine S4 5 J<|b8 ?_;cases h;exact f3

theorem a7P{a0}:PO Tryz.prog 277 [.I a0] (a2R a0) λr=>.I r:=by
 refine pO Tryz.func277 λr h _ _=>?_;refine S4 1 J<|S3 1 J<|cA h a67 J J λv1 _ h=>S2 7 J<|S4 2 J<|b8 ?_;cases h;exact f1

theorem a9I{a0}:PO Tryz.prog 278 [.I a0] (a3Z a0) λr=>.I r:=by
 refine pO Tryz.func278 λr h _ _=>?_;refine S4 1 J<|S3 1 J<|cA h a67 J J λv1 _ h=>S2 7 J<|S4 2 J<|b8 ?_;cases h;exact f1

theorem F6{a0 a1}:PO Tryz.prog 208 [g8.Pv a0,.I a1] (u4 a0 a1) λr=>.tup [.I r.1,.I r.2]:=by
 refine pO Tryz.func208 λr h _ _=>?_;refine S4 3 J<|g7<|S4 2 J ?_;refine cN h (λhc h=>?_) λhc h=>?_
 ·refine S4 2 J ?_;refine b8 ?_;cases h;exact f2
 ·refine b9 ?_;refine S3 1 J<|cA h a7P J J λv1 _ h=>S2 1 J<|g7<|S3 3 J<|c5 J (λhg=>mI J)<|c5 J (λhg=>oF J c3H J)<|c5 J (λhg=>oS (ct hg) J J c8Z J)<|c5 J (λhg=>J7 (f:=b7.Pv) (ct hg) H0)<|c5 J (λhg=>l5 (ct hg) (ct hg) J)<|y0 J (o9 J J J (λq=>I8 q))<|yN ?_;refine cN h (λhc h=>?_) λhc h=>?_
  ·refine S4 2 J ?_;refine b8 ?_;cases h;exact f2
  ·refine b9 ?_;refine S3 3 J<|iL h J J H0 M0 λv2 _ h=>S2 3 J<|g7<|dr [] u5 (by kernel_rfl) (by kernel_rfl)<|S7 3 J<|w8 h λv3 hv3 h=>d2 J (z8 J a9I J hv3) J<|S7 2 J<|p9 J (λhg _ hN=>oF J a5o J) J<|A5 J (λhg=>oS (ct hg) J J p7 J) J<|p9 J (λhg _ hN=>l5 (ct hg) J J) J<|p9 J (λhg _ hN=>om (d:=.bool (v2.State != 1)) (ct hg)) J<|p9 (r9 J J J) (λhg _ hN=>oF J a5o J) J<|A5 (r9 J J J) (λhg=>oS (ct hg) J J p7 J) J<|p9 (r9 J J J) (λhg _ hN=>l5 (ct hg) J J) J<|p9 J (λhg _ hN=>m8 (ct hg) J J (λq=>a2a hg (J2 q))) J<|d7 J (λ_ hN=>o9 J J J (λq=>I8 q)) J<|U7 ?_
   refine cN h (λhc h=>?_) λhc h=>?_
   ·refine S4 2 J ?_;refine b8 ?_;cases h;exact f2
   ·refine b9 ?_;refine S4 3 J<|b8 ?_;cases h;exact f2

theorem a18{a0 a1}:PO Tryz.prog 152 [g8.Pv a0,.I a1] (D5 a0 a1) λr=>.tup [k8.Pv r.1,.I r.2]:=by
 refine pO Tryz.func152 λr h _ _=>?_;refine S4 3 J<|S4 1 J<|S3 2 J<|cA h F6 J J λv1 _ h=>S2 5 J<|g7<|S4 2 J ?_;refine cN h (λhc h=>?_) λhc h=>?_
 ·refine S3 2 J ?_;refine b1V (x':=.agg [.I 0,.I 0,.I 0,.I 0,.bool false,.nl]) (cl':=true) J J (.inl J) a4E<|S2 1 J<|b8 ?_;cases h;exact⟨J,[_,_],⟨oL J J J b0u a4E nl J,⟨J,tr⟩⟩,J,io⟩
 ·refine b9 ?_;refine g7<|S3 3 J<|iL h J J H0 M0 λv2 hv2 h=>S2 3 J ?_;refine cN h (λhc h=>?_) λhc h=>?_
  ·refine S3 1 J ?_;refine b1V (x':=.agg [.I 0,.I 0,.I 0,.I 0,.bool false,.nl]) (cl':=true) J J (.inl J) a4E<|S2 1 J<|b8 ?_;cases h;exact⟨J,[_,_],⟨oL J J J b0u a4E nl J,⟨J,tr⟩⟩,J,io⟩
  ·refine b9 ?_;refine S3 3 J<|y0 J (z7 (f:=b7.Pv) (cs:=b7.Pc v2) hv2 J J H0 M0 J J)<|S2 4 J<|b8 ?_;cases h;exact⟨J,[_,_],⟨oL J J J b0u a4E nl J,⟨J,tr⟩⟩,J,io⟩

theorem B7{a0 a1}:PO Tryz.prog 74 [a7.Pv a0,.I a1] (x5 a0 a1) λr=>.tup [k8.Pv r.1,.I r.2]:=by
 refine pO Tryz.func74 λr h _ _=>?_;refine S4 3 J<|S3 3 J<|cF h a18 J J λv1 _ h=>S2 4 J<|b8 ?_;cases h;exact⟨J,[_,_],⟨oL J J J b0u a4E nl J,⟨J,tr⟩⟩,J,io⟩

theorem a1F{a0 a1}:PO Tryz.prog 202 [a8.Pv a0,.I a1] (a0e a0 a1) λr=>.bool r:=by
 refine pO Tryz.func202 λr h _ _=>?_;refine S4 2 J<|S3 3 J<|cF h B7 J J λv1 _ h=>S2 6 J<|S4 3 J<|b8 ?_;cases h;exact f1

theorem O6{a0 a1}:PO Tryz.prog 183 [a8.Pv a0,.I a1] (H5 a0 a1) λr=>.bool r:=by
 refine pO Tryz.func183 λr h _ _=>?_;unfold H5 at h;refine S4 2 J<|S3 3 J<|c5 J (λhg=>oL J J J p5 n9 nl J)<|c5 J (λhg=>mI J)<|w8 h λv1 hv1 h=>c5 J (λhg=>z8 J a1F (u6 (ct hg) (u6 (ct hg) J)) (y7 hv1 hg))<|y0 J (o9 J J J (λq=>I8 q))<|S2 1 J<|b8 ?_;cases h;exact f1

theorem Z7{a0}:PO Tryz.prog 281 [.I a0] (F8 a0) λr=>.bool r:=by
 refine pO Tryz.func281 λr h _ _=>?_;unfold F8 at h;refine S4 1 J<|S4 3 J<|b8 ?_;cases h;exact f1

theorem b0K{a0}:PO Tryz.prog 288 [.I a0] (a3X a0) λr=>.tup [.I r.1,.I r.2]:=by
 refine pO Tryz.func288 λr h _ _=>?_;refine S4 2 J<|g7<|S3 1 J<|cA h Z7 J J λv1 _ h=>yN ?_;refine cN h (λhc h=>?_) λhc h=>?_
 ·refine S4 2 J ?_;refine b8 ?_;cases h;exact f2
 ·refine b9 ?_;refine S3 1 J<|y0 J (c8M J J J)<|S2 3 J<|b8 ?_;cases h;exact f2

theorem b6W{a0}:PO Tryz.prog 218 [.I a0] (a8D a0) λr=>.I r:=by
 refine pO Tryz.func218 λr h _ _=>?_;refine S4 1 J<|S3 1 J<|cA h b0K J J λv1 _ h=>S2 5 J<|S4 2 J<|b8 ?_;cases h;exact f1

theorem a7l{a0 a1 a2}:PO Tryz.prog 216 [g8.Pv a0,.I a1,k8.Pv a2] (K2 a0 a1 a2) λr=>.tup [g8.Pv r.1,.I r.2]:=by
 refine pO Tryz.func216 λr h _ _=>?_;refine S4 4 J<|S3 2 J<|cA h F6 J J λv1 _ h=>S2 5 J<|g7<|S4 2 J ?_;refine cN h (λhc h=>?_) λhc h=>?_
 ·refine S4 4 J ?_;refine b8 ?_;cases h;exact⟨J,[_,_],⟨oL J J J a3e a1v nl J,⟨J,tr⟩⟩,J,io⟩
 ·refine b9 ?_;refine S3 3 J<|iL h J J H0 M0 λv2 _ h=>S2 3 J<|S4 3 J<|S3 3 J<|cF h I4 J J λv3 _ h=>S2 2 J<|b8 ?_;cases h;exact⟨J,[_,_],⟨oL J J J a3e a1v nl J,⟨J,tr⟩⟩,J,io⟩

theorem a0A{a0 a1 a2}:PO Tryz.prog 130 [a7.Pv a0,.I a1,k8.Pv a2] (K3 a0 a1 a2) λr=>.tup [a7.Pv r.1,.I r.2]:=by
 refine pO Tryz.func130 λr h _ _=>?_;refine S4 4 J<|S4 1 J<|S3 4 J<|cF h a7l J J λv1 _ h=>S2 6 J<|S4 4 J<|b8 ?_;cases h;exact⟨J,[_,_],⟨oL J J J a49 a5b nl J,⟨J,tr⟩⟩,J,io⟩

theorem a34{a0 a1}:PO Tryz.prog 186 [a8.Pv a0,.I a1,.fn (.func 218) []] (T5 a0 a1) λr=>a8.Pv r:=by
 refine pO Tryz.func186 λr h _ _=>?_;refine S4 2 J<|S3 3 J<|cF h B7 J J λv1 _ h=>S2 6 J<|g7<|S4 2 J ?_;refine cN h (λhc h=>?_) λhc h=>?_
 ·refine S3 3 J ?_;refine cA h b6W J J λv2 _ h=>S2 2 J<|S5 4 J<|cF h a0A J J λv3 _ h=>S2 5 J<|S4 2 J<|b8 ?_;cases h;exact⟨J,[_],⟨oL J J J p5 n9 nl J,tr⟩,J,io⟩
 ·refine b9 ?_;refine S4 2 J<|b8 ?_;cases h;exact⟨J,[_],⟨oL J J J p5 n9 nl J,tr⟩,J,io⟩

theorem a1E{a0 a1}:PO Tryz.prog 132 [a8.Pv a0,.I a1] (a0c a0 a1) λr=>a8.Pv r:=by
 refine pO Tryz.func132 λr h _ _=>?_;refine S4 2 J<|S3 2 J<|cF h a34 J J λv1 _ h=>S2 1 J<|b8 ?_;cases h;exact⟨J,[_],⟨oL J J J p5 n9 nl J,tr⟩,J,io⟩

theorem a0V{a0}:PON Tryz.prog 196 [.L iF a0] (F2 a0) λr=>⟨List.map iF r,0,true,1,true⟩:=by
 refine pON Tryz.func196 λr h _ _=>?_;unfold F2 at h;refine S4 1 J<|g7<|S3 1 J<|b8B J j8 λb hb=>yN ?_;refine G9 b J (λhc=>?_) (λhc=>?_)
 ·obtain rfl:a0 = []:=by simpa using hb hc
  refine S4 1 J<|a2Y (H4 (t:=2) (l:=920000) (z:=1) J J)<|b8 ?_;cases h;exact⟨J,_,_,J,J,J,J⟩
 ·refine b9 ?_;refine sR<|y0 J (G1 J j8 o8)<|S1 1 J<|y1 J (b9i (f:=iF) h J J (.inl ⟨_,J,J⟩) j8 o8 O2 C2 J (λ_=>J)) J<|S2 1 J<|b8 ?_;exact⟨J,_,_,J,J,J,J⟩

theorem a7i{a0 a1}:PO Tryz.prog 185 [I0.Pv a0,a8.Pv a1] (P2 a0 a1) λr=>a8.Pv r:=by
 refine pO Tryz.func185 λr h _ _=>?_;unfold P2 at h;refine S4 3 J<|S3 2 J<|w8 h λv1 hv1 h=>ycN J (b6r J a0V J hv1) J J<|S2 2 J<|S3 6 J<|w8 h λv2 hv2 h=>y0 J (a4a (f:=iF) hv2 J J J J j8 o8 J)<|b1U (f:=iF) (v:=a0.h) hv2 J J (.inl J) o8<|yN<|S4 2 J<|b8 ?_;cases h;exact⟨J,[_],⟨oL J J J p5 n9 nl J,tr⟩,J,io⟩

theorem a9r{a0}:PO Tryz.prog 265 [.I a0] (a2c a0) λr=>.tup [.I r.1,.I r.2]:=by
 refine pO Tryz.func265 λr h _ _=>?_;refine S4 2 J<|g7<|S3 1 J<|cA h Z7 J J λv1 _ h=>yN ?_;refine cN h (λhc h=>?_) λhc h=>?_
 ·refine S4 2 J ?_;refine b8 ?_;cases h;exact f2
 ·refine b9 ?_;refine g7<|S4 2 J ?_;refine cN h (λhc h=>?_) λhc h=>?_
  ·refine S4 2 J ?_;refine b8 ?_;cases h;exact f2
  ·refine b9 ?_;refine S4 4 J<|b8 ?_;cases h;exact f2

theorem b6V{a0}:PO Tryz.prog 188 [.I a0] (b18 a0) λr=>.tup [.I r.1,.I r.2]:=by
 refine pO Tryz.func188 λr h _ _=>?_;refine S4 2 J<|S3 1 J<|cA h a9r J J λv1 _ h=>S2 5 J<|S4 4 J<|b8 ?_;cases h;exact f2

theorem b0Z{a0}:PO Tryz.prog 187 [.I a0] (a1D a0) λr=>.I r:=by
 refine pO Tryz.func187 λr h _ _=>?_;refine S4 1 J<|S3 1 J<|cA h b6V J J λv1 _ h=>S2 5 J<|g7<|S4 2 J ?_;refine cN h (λhc h=>?_) λhc h=>?_
 ·refine S4 2 J ?_;refine b8 ?_;cases h;exact f1
 ·refine b9 ?_;refine S4 2 J<|b8 ?_;cases h;exact f1

theorem a13{a0 a1}:PO Tryz.prog 186 [a8.Pv a0,.I a1,.fn (.func 187) []] (M7 a0 a1) λr=>a8.Pv r:=by
 refine pO Tryz.func186 λr h _ _=>?_;refine S4 2 J<|S3 3 J<|cF h B7 J J λv1 _ h=>S2 6 J<|g7<|S4 2 J ?_;refine cN h (λhc h=>?_) λhc h=>?_
 ·refine S3 3 J ?_;refine cA h b0Z J J λv2 _ h=>S2 2 J<|S5 4 J<|cF h a0A J J λv3 _ h=>S2 5 J<|S4 2 J<|b8 ?_;cases h;exact⟨J,[_],⟨oL J J J p5 n9 nl J,tr⟩,J,io⟩
 ·refine b9 ?_;refine S4 2 J<|b8 ?_;cases h;exact⟨J,[_],⟨oL J J J p5 n9 nl J,tr⟩,J,io⟩

theorem W1{a0 a1}:PO Tryz.prog 110 [a8.Pv a0,.I a1] (C5 a0 a1) λr=>a8.Pv r:=by
 refine pO Tryz.func110 λr h _ _=>?_;refine S4 2 J<|S3 2 J<|cF h a13 J J λv1 _ h=>S2 1 J<|b8 ?_;cases h;exact⟨J,[_],⟨oL J J J p5 n9 nl J,tr⟩,J,io⟩

theorem a04{a0 a1 a2 a3}:PO Tryz.prog 184 [a8.Pv a0,.I a1,.I a2,.abs (BFn 185 [I0.Pv a3])] (E7 a0 a1 a2 a3) λr=>a8.Pv r:=by
 refine pO Tryz.func184 λr h _ _=>?_;refine S4 2 J<|S3 3 J<|cF h a1E J J λv1 _ h=>w8 h λv2 hv2 h=>b8A (xs:=[a8.Pv v1]) J J c6A J (a7i.2 _ hv2)<|S1 1 J<|cF h W1 J J λv3 _ h=>S2 1 J<|b8 ?_;cases h;exact⟨J,[_],⟨oL J J J p5 n9 nl J,tr⟩,J,io⟩

theorem a6r{a0 a1 a2}:PO Tryz.prog 109 [a8.Pv a0,.I a1,.I a2] (a0u a0 a1 a2) λr=>.tup [a8.Pv r.1,.I r.2]:=by
 refine pO Tryz.func109 λr h _ _=>?_;refine S4 3 J<|g7<|S3 3 J<|c5 J (λhg=>mI J)<|c5 J (λhg=>oF J a5p J)<|c5 J (λhg=>oS (ct hg) J J U9 J)<|c5 J (λhg=>J7 (f:=iF) (ct hg) j8)<|c5 J (λhg=>l5 (ct hg) (ct hg) J)<|y0 J (o9 J J J (λq=>I8 q))<|yN ?_;refine cN h (λhc h=>?_) λhc h=>?_
 ·refine S4 3 J ?_;refine b8 ?_;cases h;exact⟨J,[_,_],⟨oL J J J p5 n9 nl J,⟨J,tr⟩⟩,J,io⟩
 ·refine b9 ?_;refine g7<|S3 2 J<|cA h O6 J J λv1 _ h=>S2 1 J ?_;refine cN h (λhc h=>?_) λhc h=>?_
  ·refine S4 3 J ?_;refine b8 ?_;cases h;exact⟨J,[_,_],⟨oL J J J p5 n9 nl J,⟨J,tr⟩⟩,J,io⟩
  ·refine b9 ?_;refine dr [] u5 (by kernel_rfl) (by kernel_rfl)<|S7 4 J<|w8 h λv2 hv2 h=>d0 J (z7 (f:=iF) (cs:=[.I v2]) hv2 J J j8 o8 J J) J<|S7 4 J<|d7 J (λ_ hN=>s7 (cs:=[.I a1,.I a2]) J c6P c62 J J J) J<|d7 J (λ_ hN=>b2s (d:=.agg [.I a1,.I a2]) J) J<|w8 h λv3 hv3 h=>d2f J (B0 J a04 J hv3) J<|P0 (x':=a8.Pv v3) (cl':=true) J J (.inr J) n9<|S8 1 J<|b8 ?_
   cases h;exact⟨J,[_,_],⟨oL J J J p5 n9 nl J,⟨J,tr⟩⟩,J,io⟩

theorem G7{a0 a1 a2}:PO Tryz.prog 315 [p8.Pv a0,.I a1,.I a2] (B1 a0 a1 a2) λr=>.tup [a8.Pv r.1,.I r.2]:=by
 refine pO Tryz.func315 λr h _ _=>?_;refine S4 3 J<|g7<|S4 2 J ?_;refine cN h (λhc h=>?_) λhc h=>?_
 ·refine S4 5 J ?_;refine b8 ?_;cases h;exact⟨J,[_,_],⟨oL J J J p5 n9 nl J,⟨J,tr⟩⟩,J,io⟩
 ·refine b9 ?_;refine S3 6 J<|cF h a6r J J λv1 _ h=>S2 4 J<|b8 ?_;cases h;exact⟨J,[_,_],⟨oL J J J p5 n9 nl J,⟨J,tr⟩⟩,J,io⟩

theorem a1M{a0}:PO Tryz.prog 242 [p8.Pv a0] (R7 a0) λr=>.tup [a8.Pv r.1,.I r.2]:=by
 refine pO Tryz.func242 λr h _ _=>?_;refine S4 3 J<|S3 9 J<|cF h b5R J J λv1 _ h=>S2 8 J<|g7<|S4 2 J ?_;refine cN h (λhc h=>?_) λhc h=>?_
 ·refine S4 5 J ?_;refine b8 ?_;cases h;exact⟨J,[_,_],⟨oL J J J p5 n9 nl J,⟨J,tr⟩⟩,J,io⟩
 ·refine b9 ?_;refine S4 4 J<|S3 2 J<|cF h G7 J J λv2 _ h=>S2 4 J<|b8 ?_;cases h;exact⟨J,[_,_],⟨oL J J J p5 n9 nl J,⟨J,tr⟩⟩,J,io⟩

theorem M9{a0 a1}:PO Tryz.prog 181 [a8.Pv a0,.I a1] (L0 a0 a1) λr=>.I r:=by
 refine pO Tryz.func181 λr h _ _=>?_;refine S4 2 J<|g7<|S3 3 J<|c5 J (λhg=>mI J)<|c5 J (λhg=>oF J a5p J)<|c5 J (λhg=>oS (ct hg) J J U9 J)<|c5 J (λhg=>J7 (f:=iF) (ct hg) j8)<|c5 J (λhg=>l5 (ct hg) (ct hg) J)<|y0 J (o9 J J J (λq=>I8 q))<|yN ?_;refine cN h (λhc h=>?_) λhc h=>?_
 ·refine S4 1 J ?_;refine b8 ?_;cases h;exact f1
 ·refine b9 ?_;refine S3 3 J<|iL h J J j8 o8 λv1 _ h=>S2 2 J<|b8 ?_;cases h;exact f1

theorem a0D{a0}:PO Tryz.prog 243 [p8.Pv a0] (I2 a0) λr=>.tup [a8.Pv r.1,.I r.2]:=by
 refine pO Tryz.func243 λr h _ _=>?_;unfold I2 at h;refine S4 3 J<|dr [] u5 (by kernel_rfl) (by kernel_rfl)<|S7 6 J<|w8 h λv1 hv1 h=>d2 J (z8 J M9 J hv1) J<|w8 h λv2 hv2 h=>d2f J (B0 J G7 J hv2) J<|S7 2 J<|P0 (x':=a8.Pv v2.1) (cl':=true) J J (.inr J) n9<|S8 1 J<|b8 ?_
 cases h;exact⟨J,[_,_],⟨oL J J J p5 n9 nl J,⟨J,tr⟩⟩,J,io⟩

theorem a2S{a0}:PO Tryz.prog 244 [p8.Pv a0] (Z0 a0) λr=>.tup [a8.Pv r.1,.I r.2]:=by
 refine pO Tryz.func244 λr h _ _=>?_;refine S4 3 J<|S3 1 J<|cF h G7 J J λv1 _ h=>S2 4 J<|b8 ?_;cases h;exact⟨J,[_,_],⟨oL J J J p5 n9 nl J,⟨J,tr⟩⟩,J,io⟩

theorem Q3{a0 a1}:PO Tryz.prog 316 [a8.Pv a0,.I a1] (L6 a0 a1) λr=>.tup [.I r.1,.I r.2]:=by
 refine pO Tryz.func316 λr h _ _=>?_;refine S4 3 J<|S3 2 J<|cA h M9 J J λv1 _ h=>S2 1 J<|g7<|S4 2 J ?_;refine cN h (λhc h=>?_) λhc h=>?_
 ·refine S4 2 J ?_;refine b8 ?_;cases h;exact f2
 ·refine b9 ?_;refine S4 3 J<|b8 ?_;cases h;exact f2

theorem b5k{a0 a1}:PO Tryz.prog 391 [.L iF a0,.I a1] (a60 a0 a1) λr=>.bool r:=by
 refine pO Tryz.func391 λr h _ _=>?_;unfold a60 at h;refine S4 1 J<|S3 3 J<|c5 J (λhg=>mI J)<|c5 J (λhg=>om (d:=.L iF a0) J)<|c5 J (λhg=>J7 (f:=iF) (ct hg) j8)<|c5 J (λhg=>l5 (ct hg) (ct hg) J)<|y0 J (m8 J J J (λq=>J2 q))<|S2 1 J<|b8 ?_;cases h;exact f1

theorem c3A{a0 a1}:PO Tryz.prog 367 [.L iF a0,.I a1] (b2L a0 a1) λr=>.tup [.I r.1,.I r.2]:=by
 refine pO Tryz.func367 λr h _ _=>?_;refine S4 2 J<|g7<|S3 2 J<|cA h b5k J J λv1 _ h=>S2 1 J ?_;refine cN h (λhc h=>?_) λhc h=>?_
 ·refine S4 2 J ?_;refine b8 ?_;cases h;exact f2
 ·refine b9 ?_;refine S3 2 J<|iL h J J j8 o8 λv2 _ h=>S2 3 J<|b8 ?_;cases h;exact f2

theorem a8r{a0 a1 a2}:PO Tryz.prog 317 [a7.Pv a0,.I a1,.I a2] (a0n a0 a1 a2) λr=>.tup [.I r.1,.I r.2]:=by
 refine pO Tryz.func317 λr h _ _=>?_;refine S4 3 J<|S3 2 J<|cF h B7 J J λv1 _ h=>S2 6 J<|g7<|S4 2 J ?_;refine cN h (λhc h=>?_) λhc h=>?_
 ·refine S4 3 J ?_;refine b8 ?_;cases h;exact f2
 ·refine b9 ?_;refine S3 3 J<|cA h c3A J J λv2 _ h=>S2 4 J<|b8 ?_;cases h;exact f2

theorem a2T{a0}:PO Tryz.prog 245 [p8.Pv a0] (Z1 a0) λr=>.tup [a8.Pv r.1,.I r.2]:=by
 refine pO Tryz.func245 λr h _ _=>?_;refine S4 3 J<|S3 5 J<|cA h Q3 J J λv1 _ h=>S2 5 J<|g7<|S4 2 J ?_;refine cN h (λhc h=>?_) λhc h=>?_
 ·refine S4 5 J ?_;refine b8 ?_;cases h;exact⟨J,[_,_],⟨oL J J J p5 n9 nl J,⟨J,tr⟩⟩,J,io⟩
 ·refine b9 ?_;refine dr [] u5 (by kernel_rfl) (by kernel_rfl)<|S7 8 J<|w8 h λv2 hv2 h=>d2 J (z8 J a8r J hv2) J<|S7 2 J<|w8 h λv3 hv3 h=>d2f J (B0 J G7 J hv3) J<|S7 2 J<|P0 (x':=a8.Pv v3.1) (cl':=true) J J (.inr J) n9<|S8 1 J<|b8 ?_
  cases h;exact⟨J,[_,_],⟨oL J J J p5 n9 nl J,⟨J,tr⟩⟩,J,io⟩

theorem b9W{a0 a1 a2}:PO Tryz.prog 398 [.L iF a0,.I a1,.I a2] (b5j a0 a1 a2) λr=>.tup [.L iF r.1,.I r.2]:=by
 refine pO Tryz.func398 λr h _ _=>?_;refine S4 2 J<|g7<|S3 2 J<|cA h b5k J J λv1 _ h=>S2 1 J ?_;refine cN h (λhc h=>?_) λhc h=>?_
 ·refine S4 3 J ?_;refine b8 ?_;cases h;exact f2
 ·refine b9 ?_;refine S3 1 J<|nL J j8<|w8 h λv2 hv2 h=>y1 J (c0F (f:=iF) hv2 J J J j8 o8 C2 O2 J J J) J<|S2 1 J<|S3 2 J<|w8 h λv3 hv3 h=>d1Z (f:=iF) hv3 J J J (.inl ⟨_,J,J⟩) j8 o8 (λ_=>J) (by decide)<|yN<|S3 3 J<|w8 h λv4 hv4 h=>y0 J (a4a (f:=iF) hv4 J J J J j8 o8 J)<|b1U (f:=iF) (v:=a2) hv4 J J (.inl J) o8<|yN<|S4 3 J<|b8 ?_
  cases h;exact f2

theorem b8l{a0 a1 a2 a3}:PO Tryz.prog 392 [a7.Pv a0,.I a1,.I a2,.I a3] (a9d a0 a1 a2 a3) λr=>.tup [a7.Pv r.1,.I r.2]:=by
 refine pO Tryz.func392 λr h _ _=>?_;refine S4 3 J<|S3 2 J<|cF h B7 J J λv1 _ h=>S2 6 J<|g7<|S4 2 J ?_;refine cN h (λhc h=>?_) λhc h=>?_
 ·refine S4 4 J ?_;refine b8 ?_;cases h;exact⟨J,[_,_],⟨oL J J J a49 a5b nl J,⟨J,tr⟩⟩,J,io⟩
 ·refine b9 ?_;refine g7<|S3 4 J<|cF h b9W J J λv2 _ h=>S2 6 J<|S4 2 J ?_;refine cN h (λhc h=>?_) λhc h=>?_
  ·refine S4 4 J ?_;refine b8 ?_;cases h;exact⟨J,[_,_],⟨oL J J J a49 a5b nl J,⟨J,tr⟩⟩,J,io⟩
  ·refine b9 ?_;refine S3 3 J<|cF h a0A J J λv3 _ h=>S2 4 J<|b8 ?_;cases h;exact⟨J,[_,_],⟨oL J J J a49 a5b nl J,⟨J,tr⟩⟩,J,io⟩

theorem a6s{a0 a1}:PO Tryz.prog 368 [G3.Pv a0,a8.Pv a1] (a0G a0 a1) λr=>a8.Pv r:=by
 refine pO Tryz.func368 λr h _ _=>?_;refine S4 3 J<|S3 8 J<|cF h b8l J J λv1 _ h=>S2 5 J<|S4 2 J<|b8 ?_;cases h;exact⟨J,[_],⟨oL J J J p5 n9 nl J,tr⟩,J,io⟩

theorem a0P{a0 a1 a2 a3}:PO Tryz.prog 184 [a8.Pv a0,.I a1,.I a2,.abs (BFn 368 [G3.Pv a3])] (I1 a0 a1 a2 a3) λr=>a8.Pv r:=by
 refine pO Tryz.func184 λr h _ _=>?_;refine S4 2 J<|S3 3 J<|cF h a1E J J λv1 _ h=>w8 h λv2 hv2 h=>b8A (xs:=[a8.Pv v1]) J J c6F J (a6s.2 _ hv2)<|S1 1 J<|cF h W1 J J λv3 _ h=>S2 1 J<|b8 ?_;cases h;exact⟨J,[_],⟨oL J J J p5 n9 nl J,tr⟩,J,io⟩

theorem b5F{a0 a1 a2 a3}:PO Tryz.prog 318 [a8.Pv a0,.I a1,.I a2,.I a3] (a2e a0 a1 a2 a3) λr=>.tup [a8.Pv r.1,.I r.2]:=by
 refine pO Tryz.func318 λr h _ _=>?_;refine S4 3 J<|S3 4 J<|cA h a8r J J λv1 _ h=>S2 5 J<|g7<|S4 2 J ?_;refine cN h (λhc h=>?_) λhc h=>?_
 ·refine S4 4 J ?_;refine b8 ?_;cases h;exact⟨J,[_,_],⟨oL J J J p5 n9 nl J,⟨J,tr⟩⟩,J,io⟩
 ·refine b9 ?_;refine g7<|S3 2 J<|cA h O6 J J λv2 _ h=>S2 1 J ?_;refine cN h (λhc h=>?_) λhc h=>?_
  ·refine S4 3 J ?_;refine b8 ?_;cases h;exact⟨J,[_,_],⟨oL J J J p5 n9 nl J,⟨J,tr⟩⟩,J,io⟩
  ·refine b9 ?_;refine S3 6 J<|y0 J (s7 (cs:=[.I a1,.I a2,.I a3]) J c6R c65 J J J)<|y0 J (b2s (d:=.agg [.I a1,.I a2,.I a3]) J)<|cF h a0P J J λv3 _ h=>S2 2 J<|b8 ?_;cases h;exact⟨J,[_,_],⟨oL J J J p5 n9 nl J,⟨J,tr⟩⟩,J,io⟩

theorem a17{a0}:PO Tryz.prog 246 [p8.Pv a0] (V7 a0) λr=>.tup [a8.Pv r.1,.I r.2]:=by
 refine pO Tryz.func246 λr h _ _=>?_;refine S4 3 J<|S3 5 J<|cA h Q3 J J λv1 _ h=>S2 5 J<|g7<|S4 2 J ?_;refine cN h (λhc h=>?_) λhc h=>?_
 ·refine S4 5 J ?_;refine b8 ?_;cases h;exact⟨J,[_,_],⟨oL J J J p5 n9 nl J,⟨J,tr⟩⟩,J,io⟩
 ·refine b9 ?_;refine dr [] u5 (by kernel_rfl) (by kernel_rfl)<|S7 11 J<|w8 h λv2 hv2 h=>d2 J (z8 J M9 J hv2) J<|w8 h λv3 hv3 h=>d2f J (B0 J b5F J hv3) J<|S7 2 J<|P0 (x':=a8.Pv v3.1) (cl':=true) J J (.inr J) n9<|S8 1 J<|b8 ?_
  cases h;exact⟨J,[_,_],⟨oL J J J p5 n9 nl J,⟨J,tr⟩⟩,J,io⟩

theorem b5f{a0 a1}:PO Tryz.prog 284 [c9.Pv a0,.I a1] (a9f a0 a1) λr=>.fn (.func 350) [.rptr (c9.Pc r.1),.rptr [.I r.2]]:=by
 refine pO Tryz.func284 λr h _ _=>?_;unfold a9f at h;refine S4 3 J<|S4 2 J<|b8 ?_;cases h;exact f1

theorem b5S{a0 a1}:PO Tryz.prog 369 [c9.Pv a0,.I a1] (a4q a0 a1) λr=>.bool r:=by
 refine pO Tryz.func369 λr h _ _=>?_;refine S4 3 J ?_;refine jq h (λ_=>St.of [(4,.ptr 2001 0 0)] [(2001,vR (.bool false) 1)]) (λq7 h=>?_) λκ6 h=>?_
 ·refine S4 1 J ?_;refine b8 ?_;cases h;exact⟨J,[_],⟨oS J J J a3U J,tr⟩,J,io⟩
 ·refine S3 1 J ?_;refine cF h b5f J J λv8 _ h=>yN<|g6<|a2Y (WPE (λl=>if l=2003 then 4 else if l=2004 then 3 else l) [(3,.ptr 2004 0 0),(4,.ptr 2003 0 0),(7,.fn (.func 350) [.rptr (c9.Pc v8.1),.rptr [.I v8.2]])] [(2003,vR (.bool false) 1),(2004,vR (.I a1) 1)]) ?_
  refine a0h (fn:=Tryz.f350) (N1:=24) J Tryz.func350 J J nl J c1q J J (λl16 e17 o18 hR19=>?_);refine S3 2 J<|nL J F7<|S2 1 J<|g6<|lq h (λs10=>St.of [(1000003,.ptr 2004 0 0),(1000004,.ptr 2003 0 0),(1000007,.fn (.func 350) [.rptr (c9.Pc v8.1),.rptr [.I v8.2]]),(0,.fn (.yield l16) []),(2,.rptr [.I v8.2]),(7,.L c8.Pv v8.1.L),(8,.I (v8.1.L.length:Int)),(9,.I s10)] [(2003,vR (.bool false) 1),(2004,vR (.I a1) 1)]) W λs10 x11 h hx22=>S4 1 J<|g7 ?_;refine cN h (λhc h=>?_) λhc h=>?_
  ·refine b9 ?_;refine g7<|g6<|sR<|iL h J J F7 D9 λv12 _ h=>S2 3 J<|S3 5 J<|c5 J (λhg=>om (d:=.fn (.yield l16) []) J)<|c5 J (λhg=>oL J J J a0E D9 nl J) ?_;rcases Bool.eq_false_or_eq_true ((v12.Kind==v8.2)==true) with hg24 | hg24
   ·have h:=ifT h hg24;refine L2 (WE [(1000003,.ptr 2004 0 0),(1000004,.ptr 2003 0 0),(1000007,.fn (.func 350) [.rptr (c9.Pc v8.1),.rptr [.I v8.2]]),(0,.fn (.yield l16) []),(2,.rptr [.I v8.2]),(7,.L c8.Pv v8.1.L),(8,.I (v8.1.L.length:Int)),(9,.I s10),(17,.bool (v12.Kind==v8.2)),(18,.fn (.yield l16) []),(19,c8.Pv v12)] [(2003,vR (.bool false) 1),(2004,vR (.I a1) 1)]) ?_;refine a3L hR19 (congrArg some hg24) J J J J J (λe25 o26 o27=>?_);refine S6 2 J ?_;refine⟨J,?_⟩;refine g6<|S4 4 J ?_;refine cN h (λhc h=>?_) λhc h=>?_
    ·refine S4 1 J ?_;refine b8 ?_;refine⟨J,?_⟩;refine L2 (WE [(1000003,.ptr 2004 0 0),(1000004,.ptr 2003 0 0),(1000007,.fn (.func 350) [.rptr (c9.Pc v8.1),.rptr [.I v8.2]]),(0,.fn (.yield l16) []),(2,.rptr [.I v8.2]),(7,.L c8.Pv v8.1.L),(8,.I (v8.1.L.length:Int)),(9,.I s10),(17,.bool (v12.Kind==v8.2)),(20,.bool false)] [(2003,vR (.bool true) 1),(2004,vR (.I a1) 1)])<|y0 (congrArg some hg24) (P5 J J)<|y0 J (a8S J J hg24)<|yN ?_;refine G9 true J (λ_=>?_) (λq=>nomatch q);refine b8 ?_;refine .inr ⟨.ret,J,c7r ?_⟩;have h:=xL hx22 h;cases h;exact⟨J,[_],⟨oS J J J a3U J,tr⟩,J,io⟩
    ·refine b9 ?_;refine⟨J,?_⟩;refine L2 (WE [(1000003,.ptr 2004 0 0),(1000004,.ptr 2003 0 0),(1000007,.fn (.func 350) [.rptr (c9.Pc v8.1),.rptr [.I v8.2]]),(0,.fn (.yield l16) []),(2,.rptr [.I v8.2]),(7,.L c8.Pv v8.1.L),(8,.I (v8.1.L.length:Int)),(9,.I s10),(17,.bool (v12.Kind==v8.2)),(20,.bool true)] [(2003,vR (.bool false) 1),(2004,vR (.I a1) 1)])<|y0 (congrArg some hg24) (P5 J J)<|y0 J (a8S J J hg24)<|yN ?_;refine G9 false J (λq=>nomatch q) (λ_=>?_);refine b9<|S6 2 J ?_;exact eL h W
   ·have h:=ifF h hg24;refine a11 (congrArg some hg24)<|a11 (congrArg some hg24)<|y0 J (a8R J J hg24)<|yN ?_;refine G9 false J (λq=>nomatch q) (λ_=>?_);refine b9<|S6 2 J ?_;exact eL h W
  ·refine m7 ?_;refine c4<|c4<|j4 ?_;refine .inl ⟨J,?_⟩;have h:=xL hx22 h;exact eJ h (WP (λl=>if l=2001 then 2003 else l))

theorem b28{a0 a1}:PO Tryz.prog 373 [.L g5.Pv a0,.I a1] (a51 a0 a1) λr=>.bool r:=by
 refine pO Tryz.func373 λr h _ _=>?_;unfold a51 at h;refine S4 1 J<|S3 3 J<|c5 J (λhg=>mI J)<|c5 J (λhg=>om (d:=.L g5.Pv a0) J)<|c5 J (λhg=>J7 (f:=g5.Pv) (ct hg) G0)<|c5 J (λhg=>l5 (ct hg) (ct hg) J)<|y0 J (m8 J J J (λq=>J2 q))<|S2 1 J<|b8 ?_;cases h;exact f1

theorem a7e{a0}:PON Tryz.prog 291 [.L g5.Pv a0] (a0p a0) λr=>⟨List.map g5.Pv r,0,true,3,true⟩:=by
 refine pON Tryz.func291 λr h _ _=>?_;unfold a0p at h;refine S4 1 J<|S3 1 J<|nL J G0<|w8 h λv1 hv1 h=>y1 J (c0F (f:=g5.Pv) hv1 J J J G0 T2 c0a c3G J J J) J<|S2 1 J<|S3 2 J<|w8 h λv2 hv2 h=>d1Z (f:=g5.Pv) hv2 J J J (.inl ⟨_,J,J⟩) G0 T2 (λ_=>J) (by decide)<|yN<|S4 2 J<|b8 ?_
 cases h;exact⟨J,_,_,J,J,J,J⟩

theorem b91{a0 a1 a2 a3}:PO Tryz.prog 370 [.L g5.Pv a0,.I a1,.I a2,.I a3] (b1T a0 a1 a2 a3) λr=>.tup [.L g5.Pv r.1,.I r.2.1,.I r.2.2]:=by
 refine pO Tryz.func370 λr h _ _=>?_;refine S4 3 J<|g7<|S3 2 J<|cA h b28 J J λv1 _ h=>S2 1 J ?_;refine cN h (λhc h=>?_) λhc h=>?_
 ·refine S4 4 J ?_;refine b8 ?_;cases h;exact f3
 ·refine b9 ?_;refine S3 1 J<|w8 h λv2 hv2 h=>ycN J (b6r J a7e J hv2) J J<|S2 1 J<|S3 6 J<|y0 J (s7 (cs:=[.I a2,.bool (a2 != 0),.I a3]) J c88 c0a J J J)<|w8 h λv3 hv3 h=>y0 J (a4a (f:=g5.Pv) hv3 J J J J G0 T2 J)<|b1U (f:=g5.Pv) (v:=(⟨a2,(a2 != 0),a3⟩:g5)) hv3 J J (.inl J) T2<|yN<|dr [] u5 (by kernel_rfl) (by kernel_rfl)<|S7 3 J<|w8 h λv4 hv4 h=>d0 J (z7 (f:=g5.Pv) (cs:=g5.Pc v4) hv4 J J G0 T2 J J) J<|S8 5 J<|b8 ?_
  cases h;exact f3

theorem a7T{a0 a1 a2}:PO Tryz.prog 372 [a8.Pv a0,.I a1,.I a2] (a1k a0 a1 a2) λr=>a8.Pv r:=by
 refine pO Tryz.func372 λr h _ _=>?_;refine S4 2 J<|S3 4 J<|cA h F6 J J λv1 _ h=>S2 5 J<|g7<|S4 2 J ?_;refine cN h (λhc h=>?_) λhc h=>?_
 ·refine S3 5 J ?_;refine iL h J J H0 M0 λv2 _ h=>S2 4 J<|S4 6 J<|S5 4 J<|cF h a0A J J λv3 _ h=>S2 5 J<|S4 2 J<|b8 ?_;cases h;exact⟨J,[_],⟨oL J J J p5 n9 nl J,tr⟩,J,io⟩
 ·refine b9 ?_;refine S4 2 J<|b8 ?_;cases h;exact⟨J,[_],⟨oL J J J p5 n9 nl J,tr⟩,J,io⟩

theorem a1V{a0 a1}:PO Tryz.prog 223 [g8.Pv a0,.I a1] (N3 a0 a1) λr=>.tup [g8.Pv r.1,.I r.2]:=by
 refine pO Tryz.func223 λr h _ _=>?_;refine S4 3 J<|S3 2 J<|cA h F6 J J λv1 _ h=>S2 5 J<|g7<|S4 2 J ?_;refine cN h (λhc h=>?_) λhc h=>?_
 ·refine S4 4 J ?_;refine b8 ?_;cases h;exact⟨J,[_,_],⟨oL J J J a3e a1v nl J,⟨J,tr⟩⟩,J,io⟩
 ·refine b9 ?_;refine S3 3 J<|iL h J J H0 M0 λv2 _ h=>S2 3 J<|g7<|S4 4 J ?_;refine cN h (λhc h=>?_) λhc h=>?_
  ·refine S3 3 J ?_;refine y0 J (s7 (cs:=[.I 3,.I v2.Gen,.I 0,.I 0,.I 0,.I 0,.bool false,.nl]) J b3l a8A J J J)<|cF h I4 J J λv3 _ h=>S2 2 J<|b8 ?_;cases h;exact⟨J,[_,_],⟨oL J J J a3e a1v nl J,⟨J,tr⟩⟩,J,io⟩
  ·refine b9 ?_;refine S3 4 J<|y0 J (s7 (cs:=[.I 0,.I (u9 (v2.Gen+1)),.I 0,.I 0,.I 0,.I 0,.bool false,.nl]) J b3l a8A J J J)<|cF h I4 J J λv4 _ h=>S2 2 J<|b8 ?_;cases h;exact⟨J,[_,_],⟨oL J J J a3e a1v nl J,⟨J,tr⟩⟩,J,io⟩

theorem b2j{a0 a1}:PO Tryz.prog 371 [a8.Pv a0,.I a1] (a2H a0 a1) λr=>a8.Pv r:=by
 refine pO Tryz.func371 λr h _ _=>?_;refine S4 2 J<|S3 2 J<|cF h a7T J J λv1 _ h=>S2 1 J<|S3 4 J<|cA h F6 J J λv2 _ h=>S2 5 J<|g7<|S4 2 J ?_;refine cN h (λhc h=>?_) λhc h=>?_
 ·refine S4 2 J ?_;refine b8 ?_;cases h;exact⟨J,[_],⟨oL J J J p5 n9 nl J,tr⟩,J,io⟩
 ·refine b9 ?_;refine g7<|S3 5 J<|iL h J J H0 M0 λv3 _ h=>S2 3 J<|S3 4 J<|c5 J (λhg=>oF J a8w J)<|c5 J (λhg=>oF (ct hg) b1Y J)<|c5 J (λhg=>oS (ct hg) J J p7 J)<|c5 J (λhg=>l5 (ct hg) J J)<|y0 J (m8 J J J (λq=>J2 q))<|yN ?_;refine cN h (λhc h=>?_) λhc h=>?_
  ·refine S5 4 J ?_;refine cF h a1V J J λv4 _ h=>S2 6 J<|S4 2 J<|b8 ?_;cases h;exact⟨J,[_],⟨oL J J J p5 n9 nl J,tr⟩,J,io⟩
  ·refine b9 ?_;refine S4 2 J<|b8 ?_;cases h;exact⟨J,[_],⟨oL J J J p5 n9 nl J,tr⟩,J,io⟩

theorem b00{a0 a1 a2 a3}:PO Tryz.prog 319 [a8.Pv a0,.I a1,.I a2,.I a3] (a0v a0 a1 a2 a3) λr=>.tup [a8.Pv r.1,.I r.2]:=by
 refine pO Tryz.func319 λr h _ _=>?_;unfold a0v at h;refine S4 3 J<|g7<|S3 3 J<|c5 J (λhg=>mI J)<|c5 J (λhg=>oF J a2P J)<|c5 J (λhg=>oS (ct hg) J J a7s J)<|c5 J (λhg=>J7 (f:=g5.Pv) (ct hg) G0)<|c5 J (λhg=>l5 (ct hg) (ct hg) J)<|y0 J (o9 J J J (λq=>I8 q))<|S1 1 J<|c5 J (λhg=>oF J a0L J)<|c5 J (λhg=>oL (ct hg) J J a5a a1w nl J)<|c5 J (λhg=>mI J)<|w8 h λv1 hv1 h=>c5 J (λhg=>z8 J b5S (u6 (ct hg) (u6 (ct hg) J)) (y7 hv1 hg))<|y0 J (o9 J J J (λq=>I8 q))<|yN ?_;refine cN h (λhc h=>?_) λhc h=>?_
 ·refine S4 3 J ?_;refine b8 ?_;cases h;exact⟨J,[_,_],⟨oL J J J p5 n9 nl J,⟨J,tr⟩⟩,J,io⟩
 ·refine b9 ?_;refine g7<|S3 2 J<|cA h O6 J J λv2 _ h=>S2 1 J ?_;refine cN h (λhc h=>?_) λhc h=>?_
  ·refine S4 3 J ?_;refine b8 ?_;cases h;exact⟨J,[_,_],⟨oL J J J p5 n9 nl J,⟨J,tr⟩⟩,J,io⟩
  ·refine b9 ?_;refine S3 5 J<|cF h b91 J J λv3 _ h=>S2 7 J<|S4 3 J<|S3 2 J<|cF h a7T J J λv4 _ h=>S1 1 J<|cF h b2j J J λv5 _ h=>S2 2 J<|b8 ?_;cases h;exact⟨J,[_,_],⟨oL J J J p5 n9 nl J,⟨J,tr⟩⟩,J,io⟩

theorem a1N{a0}:PO Tryz.prog 247 [p8.Pv a0] (R8 a0) λr=>.tup [a8.Pv r.1,.I r.2]:=by
 refine pO Tryz.func247 λr h _ _=>?_;refine S4 3 J<|g7<|S4 4 J ?_;refine cN h (λhc h=>?_) λhc h=>?_
 ·refine S3 8 J ?_;refine cF h b00 J J λv1 _ h=>S2 4 J<|b8 ?_;cases h;exact⟨J,[_,_],⟨oL J J J p5 n9 nl J,⟨J,tr⟩⟩,J,io⟩
 ·refine b9 ?_;refine S3 5 J<|cA h Q3 J J λv2 _ h=>S2 5 J<|g7<|S4 2 J ?_;refine cN h (λhc h=>?_) λhc h=>?_
  ·refine S4 5 J ?_;refine b8 ?_;cases h;exact⟨J,[_,_],⟨oL J J J p5 n9 nl J,⟨J,tr⟩⟩,J,io⟩
  ·refine b9 ?_;refine S3 9 J<|cF h b00 J J λv3 _ h=>S2 4 J<|b8 ?_;cases h;exact⟨J,[_,_],⟨oL J J J p5 n9 nl J,⟨J,tr⟩⟩,J,io⟩

theorem b8y{a0 a1}:PO Tryz.prog 320 [.L g5.Pv a0,.I a1] (a5Z a0 a1) λr=>.tup [.I r.1,.I r.2]:=by
 refine pO Tryz.func320 λr h _ _=>?_;refine S4 2 J<|g7<|S3 2 J<|cA h b28 J J λv1 _ h=>S2 1 J ?_;refine cN h (λhc h=>?_) λhc h=>?_
 ·refine S4 2 J ?_;refine b8 ?_;cases h;exact f2
 ·refine b9 ?_;refine g7<|S3 2 J<|iL h J J G0 T2 λv2 hv2 h=>S1 4 J<|c5 J (λhg=>om (d:=.L g5.Pv a0) J)<|c5 J (λhg=>mI J)<|c5 J (λhg=>z7 (f:=g5.Pv) (cs:=g5.Pc v2) hv2 (ct hg) (ct hg) G0 T2 J J)<|c5 J (λhg=>A3 (ct hg) b0y J)<|c5 J (λhg=>E6 (ct hg) a3U J)<|c5 J (λhg=>P5 (ct hg) J)<|y0 J (o9 J J J (λq=>I8 q))<|yN ?_;refine cN h (λhc h=>?_) λhc h=>?_
  ·refine S4 2 J ?_;refine b8 ?_;cases h;exact f2
  ·refine b9 ?_;refine S3 2 J<|y0 J (z7 (f:=g5.Pv) (cs:=g5.Pc v2) hv2 J J G0 T2 J J)<|S2 4 J<|b8 ?_;cases h;exact f2

theorem a37{a0}:PO Tryz.prog 248 [p8.Pv a0] (W2 a0) λr=>.tup [a8.Pv r.1,.I r.2]:=by
 refine pO Tryz.func248 λr h _ _=>?_;unfold W2 at h;refine S4 3 J<|dr [] u5 (by kernel_rfl) (by kernel_rfl)<|S7 7 J<|w8 h λv1 hv1 h=>d2 J (z8 J b8y J hv1) J<|S7 2 J<|w8 h λv2 hv2 h=>d2f J (B0 J G7 J hv2) J<|S7 2 J<|P0 (x':=a8.Pv v2.1) (cl':=true) J J (.inr J) n9<|S8 1 J<|b8 ?_
 cases h;exact⟨J,[_,_],⟨oL J J J p5 n9 nl J,⟨J,tr⟩⟩,J,io⟩

theorem b0W{a0 a1}:PO Tryz.prog 343 [.I a0,.I a1] (a3M a0 a1) λr=>.fn (.func 382) [.rptr [.I r.1],.rptr [.I r.2]]:=by
 refine pO Tryz.func343 λr h _ _=>?_;unfold a3M at h;refine S4 3 J<|S4 2 J<|b8 ?_;cases h;exact f1

theorem b0T{a0 a1}:PO Tryz.prog 383 [.I a0,.I a1] (a0t a0 a1) λr=>.I r:=by
 refine pO Tryz.func383 λr h _ _=>?_;refine S4 1 J<|g7<|S4 2 J ?_;refine cN h (λhc h=>?_) λhc h=>?_
 ·refine S4 1 J ?_;refine b8 ?_;cases h;exact f1
 ·refine b9 ?_;refine S3 4 J<|w8 h λv1 hv1 h=>y0 J (a3u J J hv1)<|S2 1 J<|g7<|S4 2 J ?_;refine cN h (λhc h=>?_) λhc h=>?_
  ·refine S6 4 J ?_;refine S4 2 J<|b8 ?_;cases h;exact f1
  ·refine b9 ?_;refine S4 2 J<|b8 ?_;cases h;exact f1

theorem a3D{a0 a1}:PO Tryz.prog 273 [.L c7.Pv a0,.I a1] (M2 a0 a1) λr=>.I r:=by
 refine pO Tryz.func273 λr h _ _=>?_;refine S4 3 J ?_;refine jq h (λ_=>St.of [(4,.ptr 2001 0 0)] [(2001,vR (.I 0) 1)]) (λq9 h=>?_) λκ8 h=>?_
 ·refine S4 1 J ?_;refine b8 ?_;cases h;exact⟨J,[_],⟨oS J J J p7 J,tr⟩,J,io⟩
 ·refine S3 1 J ?_;refine nL J Q0<|S1 1 J<|cF h b0W J J λv10 _ h=>yN<|g6<|a2Y (WPE (λl=>if l=2004 then 4 else if l=2005 then 3 else if l=2006 then 2 else l) [(2,.ptr 2006 0 0),(3,.ptr 2005 0 0),(4,.ptr 2004 0 0),(9,.fn (.func 382) [.rptr [.I v10.1],.rptr [.I v10.2]])] [(2004,vR (.I 0) 1),(2005,vR (.I a1) 1),(2006,vR (.L c7.Pv a0) 1)]) ?_
  refine a0h (fn:=Tryz.f382) (N1:=20) J Tryz.func382 J J nl J c1r J J (λl17 e18 o19 hR20=>?_);refine S4 2 J<|g6<|lq h (λs12=>St.of [(1000002,.ptr 2006 0 0),(1000003,.ptr 2005 0 0),(1000004,.ptr 2004 0 0),(1000009,.fn (.func 382) [.rptr [.I v10.1],.rptr [.I v10.2]]),(0,.fn (.yield l17) []),(1,.rptr [.I v10.1]),(2,.rptr [.I v10.2]),(5,.I v10.1),(6,.I s12)] [(2004,vR (.I 0) 1),(2005,vR (.I a1) 1),(2006,vR (.L c7.Pv a0) 1)]) W λs12 x13 h hx23=>S4 1 J<|g7 ?_;refine cN h (λhc h=>?_) λhc h=>?_
  ·refine b9 ?_;refine g7<|g6<|S4 2 J<|drY [] 8 u5 (by kernel_rfl) (by kernel_rfl) (by kernel_rfl) (by kernel_rfl) nl<|S7 3 J<|w8 h λv14 hv24 h=>d2 J (z8 J b0T J hv24) J<|S7 3 J<|w8 h λv15 hv25 h=>d7 J (λ_ hN=>a3u J J hv25) J<|U7<|c5c (WE [(1000002,.ptr 2006 0 0),(1000003,.ptr 2005 0 0),(1000004,.ptr 2004 0 0),(1000009,.fn (.func 382) [.rptr [.I v10.1],.rptr [.I v10.2]]),(0,.fn (.yield l17) []),(1,.rptr [.I v10.1]),(2,.rptr [.I v10.2]),(5,.I v10.1),(6,.I s12),(9,.fn (.yield l17) []),(16,.I v15)] [(2004,vR (.I 0) 1),(2005,vR (.I a1) 1),(2006,vR (.L c7.Pv a0) 1)]) ?_
   refine b5r J hR20 J J J J J J (λe26 o27 o28=>?_);refine S6 1 J ?_;refine⟨J,?_⟩;refine g6<|g7<|S3 2 J<|iL h J J Q0 V1 λv16 hv29 h=>S2 3 J ?_;refine cN h (λhc h=>?_) λhc h=>?_
   ·refine m7 ?_;refine c4<|b0D (by decide) ?_
    refine⟨J,?_⟩;refine⟨_,b5p [(1000002,.ptr 2006 0 0),(1000003,.ptr 2005 0 0),(1000004,.ptr 2004 0 0),(1000009,.fn (.func 382) [.rptr [.I v10.1],.rptr [.I v10.2]]),(0,.fn (.yield l17) []),(1,.rptr [.I v10.1]),(2,.rptr [.I v10.2]),(5,.I v10.1),(6,.I s12),(17,.bool false)] [(2004,vR (.I 0) 1),(2005,vR (.I a1) 1),(2006,vR (.L c7.Pv a0) 1)] ⟨J,J,J,J,J,J,J,J,J,J,J,J,J,J,J,J,J,J,J,J,J,J,J,J,J,J,J,J,J,J,tr⟩ ⟨rS,rS,rS,tr⟩,?_⟩;refine S8 1 J ?_;refine G9 true J (λ_=>?_) (λq=>nomatch q);refine b8 ?_;refine .inr ⟨.exit 0,J,d2N ?_⟩;refine j4 ?_;have h:=xL hx23 h;exact eJ h (WP (λl=>if l=2001 then 2004 else l))
   ·refine b9 ?_;refine dr [] u5 (by kernel_rfl) (by kernel_rfl)<|S7 2 J<|d0 J (z7 (f:=c7.Pv) (cs:=c7.Pc v16) hv29 J J Q0 V1 J J) J<|S7 4 J<|A5 J (λhg=>oS J J J a9V J) J<|p9 J (λhg _ hN=>mI J) J<|A5 J (λhg=>z7 (f:=c7.Pv) (cs:=c7.Pc v16) hv29 (ct hg) (ct hg) Q0 V1 J J) J<|p9 J (λhg _ hN=>A3 (ct hg) b54 J) J<|A5 J (λhg=>E6 (ct hg) p7 J) J<|A5 J (λhg=>oS J J J p7 J) J<|p9 J (λhg _ hN=>l5 (ct hg) (ct hg) J) J<|d7 J (λ_ hN=>m8 J J J (λq=>J2 q)) J<|U7 ?_
    refine cN h (λhc h=>?_) λhc h=>?_
    ·refine S4 2 J ?_;refine b8 ?_;refine⟨J,?_⟩;refine⟨_,b5p [(1000002,.ptr 2006 0 0),(1000003,.ptr 2005 0 0),(1000004,.ptr 2004 0 0),(1000009,.fn (.func 382) [.rptr [.I v10.1],.rptr [.I v10.2]]),(0,.fn (.yield l17) []),(1,.rptr [.I v10.1]),(2,.rptr [.I v10.2]),(5,.I v10.1),(6,.I s12),(17,.bool false)] [(2004,vR (.I v15) 1),(2005,vR (.I a1) 1),(2006,vR (.L c7.Pv a0) 1)] ⟨J,J,J,J,J,J,J,J,J,J,J,J,J,J,J,J,J,J,J,J,J,J,J,J,J,J,J,J,J,J,tr⟩ ⟨rS,rS,rS,tr⟩,?_⟩;refine S8 1 J ?_;refine G9 true J (λ_=>?_) (λq=>nomatch q);refine b8 ?_;refine .inr ⟨.ret,J,c7r ?_⟩;have h:=xL hx23 h;cases h;exact⟨J,[_],⟨oS J J J p7 J,tr⟩,J,io⟩
    ·refine b9 ?_;refine⟨J,?_⟩;refine⟨_,b5p [(1000002,.ptr 2006 0 0),(1000003,.ptr 2005 0 0),(1000004,.ptr 2004 0 0),(1000009,.fn (.func 382) [.rptr [.I v10.1],.rptr [.I v10.2]]),(0,.fn (.yield l17) []),(1,.rptr [.I v10.1]),(2,.rptr [.I v10.2]),(5,.I v10.1),(6,.I s12),(17,.bool true)] [(2004,vR (.I 0) 1),(2005,vR (.I a1) 1),(2006,vR (.L c7.Pv a0) 1)] ⟨J,J,J,J,J,J,J,J,J,J,J,J,J,J,J,J,J,J,J,J,J,J,J,J,J,J,J,J,J,J,tr⟩ ⟨rS,rS,rS,tr⟩,?_⟩;refine S8 1 J ?_;refine G9 false J (λq=>nomatch q) (λ_=>?_);refine b9<|S6 2 J ?_;exact eL h W
  ·refine m7 ?_;refine c4<|c4<|j4 ?_;refine .inl ⟨J,?_⟩;have h:=xL hx23 h;exact eJ h (WP (λl=>if l=2001 then 2004 else l))

theorem a4N{a0 a1}:PO Tryz.prog 346 [.L c7.Pv a0,.I a1] (L4 a0 a1) λr=>.tup [.I r.1,.I r.2]:=by
 refine pO Tryz.func346 λr h _ _=>?_;refine S4 2 J<|S3 2 J<|cA h a3D J J λv1 _ h=>S2 1 J<|g7<|S4 2 J ?_;refine cN h (λhc h=>?_) λhc h=>?_
 ·refine S4 2 J ?_;refine b8 ?_;cases h;exact f2
 ·refine b9 ?_;refine S3 2 J<|iL h J J Q0 V1 λv2 _ h=>S2 4 J<|b8 ?_;cases h;exact f2

theorem a0k{a0}:PON Tryz.prog 353 [.L c7.Pv a0] (D6 a0) λr=>⟨List.map c7.Pv r,0,true,3,true⟩:=by
 refine pON Tryz.func353 λr h _ _=>?_;unfold D6 at h;refine S4 1 J<|g7<|S3 1 J<|b8B J Q0 λb hb=>yN ?_;refine G9 b J (λhc=>?_) (λhc=>?_)
 ·obtain rfl:a0 = []:=by simpa using hb hc
  refine S4 1 J<|a2Y (H4 (t:=2) (l:=920000) (z:=3) J J)<|b8 ?_;cases h;exact⟨J,_,_,J,J,J,J⟩
 ·refine b9 ?_;refine sR<|y0 J (G1 J Q0 V1)<|S1 1 J<|y1 J (b9i (f:=c7.Pv) h J J (.inl ⟨_,J,J⟩) Q0 V1 c1l a8B J (λ_=>J)) J<|S2 1 J<|b8 ?_;exact⟨J,_,_,J,J,J,J⟩

theorem a6n{a0 a1 a2}:PO Tryz.prog 293 [.L c7.Pv a0,.I a1,c7.Pv a2] (a1j a0 a1 a2) λr=>.L c7.Pv r:=by
 refine pO Tryz.func293 λr h _ _=>?_;unfold a1j at h;refine S4 2 J<|S3 1 J<|w8 h λv1 hv1 h=>ycN J (b6r J a0k J hv1) J J<|S2 1 J<|S3 3 J<|w8 h λv2 hv2 h=>y0 J (a4a (f:=c7.Pv) hv2 J J J J Q0 V1 J)<|b1U (f:=c7.Pv) (v:=a2) hv2 J J (.inl J) V1<|yN<|S4 2 J<|b8 ?_;cases h;exact f1

theorem b0S{a0 a1}:PO Tryz.prog 221 [.L c7.Pv a0,.I a1] (W8 a0 a1) λr=>.tup [.L c7.Pv r.1,.I r.2.1,.I r.2.2]:=by
 refine pO Tryz.func221 λr h _ _=>?_;refine S4 3 J<|S3 2 J<|cA h a3D J J λv1 _ h=>S2 1 J<|g7<|S4 2 J ?_;refine cN h (λhc h=>?_) λhc h=>?_
 ·refine S4 4 J ?_;refine b8 ?_;cases h;exact f3
 ·refine b9 ?_;refine dr [] u5 (by kernel_rfl) (by kernel_rfl)<|S7 2 J<|d7 J (λ_ hN=>s7 (cs:=[.I 2,.I 0,.I 0]) J b3m a8B J J J) J<|w8 h λv2 hv2 h=>d2f J (B0 J a6n J hv2) J<|S7 2 J<|w8 h λv3 hv3 h=>d0 J (z7 (f:=c7.Pv) (cs:=c7.Pc v3) hv3 J J Q0 V1 J J) J<|S8 5 J<|b8 ?_
  cases h;exact f3

theorem b83{a0 a1 a2}:PO Tryz.prog 393 [.L c7.Pv a0,.I a1,.I a2] (a7Q a0 a1 a2) λr=>.tup [.L c7.Pv r.1,.I r.2]:=by
 refine pO Tryz.func393 λr h _ _=>?_;refine S4 3 J<|S3 2 J<|y0 J (s7 (cs:=[.I 1,.I a1,.I a2]) J b3m a8B J J J)<|S2 2 J<|g7<|S3 2 J<|cA h a3D J J λv1 _ h=>S2 1 J<|S4 2 J ?_;refine cN h (λhc h=>?_) λhc h=>?_
 ·refine S3 3 J ?_;refine cF h a6n J J λv2 _ h=>S2 2 J<|b8 ?_;cases h;exact⟨J,[_,_],⟨oS J J J a9V J,⟨oS J J J b3U J,tr⟩⟩,J,io⟩
 ·refine b9 ?_;refine jq h (λ_=>St.of [(3,.ptr 2004 0 0),(6,.ptr 2003 0 0),(7,.ptr 2002 0 0)] [(2002,vR (.I 0) 1),(2003,vR (.nl) 1),(2004,vR (.L c7.Pv a0) 1)]) (λq12 h=>?_) λκ11 h=>?_
  ·refine S4 3 J ?_;refine b8 ?_;cases h;exact⟨J,[_,_],⟨oS J J J a9V J,⟨oS J J J b3U J,tr⟩⟩,J,io⟩
  ·refine S3 1 J ?_;refine nL J Q0<|S1 1 J<|cF h b0W J J λv13 _ h=>yN<|g6<|a2Y (WPE (λl=>if l=2005 then 8 else if l=2006 then 7 else if l=2007 then 6 else if l=2008 then 3 else l) [(3,.ptr 2008 0 0),(6,.ptr 2007 0 0),(7,.ptr 2006 0 0),(8,.ptr 2005 0 0),(26,.fn (.func 382) [.rptr [.I v13.1],.rptr [.I v13.2]])] [(2005,vR (.agg [.I 1,.I a1,.I a2]) 3),(2006,vR (.I 0) 1),(2007,vR (.nl) 1),(2008,vR (.L c7.Pv a0) 1)]) ?_
   refine a0h (fn:=Tryz.f382) (N1:=20) J Tryz.func382 J J nl J c1r J J (λl20 e21 o22 hR23=>?_);refine S4 2 J<|g6<|lq h (λs15=>St.of [(1000003,.ptr 2008 0 0),(1000006,.ptr 2007 0 0),(1000007,.ptr 2006 0 0),(1000008,.ptr 2005 0 0),(1000026,.fn (.func 382) [.rptr [.I v13.1],.rptr [.I v13.2]]),(0,.fn (.yield l20) []),(1,.rptr [.I v13.1]),(2,.rptr [.I v13.2]),(5,.I v13.1),(6,.I s15)] [(2005,vR (.agg [.I 1,.I a1,.I a2]) 3),(2006,vR (.I 0) 1),(2007,vR (.nl) 1),(2008,vR (.L c7.Pv a0) 1)]) W λs15 x16 h hx26=>S4 1 J<|g7 ?_;refine cN h (λhc h=>?_) λhc h=>?_
   ·refine b9 ?_;refine g7<|g6<|S4 2 J<|drY [] 8 u5 (by kernel_rfl) (by kernel_rfl) (by kernel_rfl) (by kernel_rfl) nl<|S7 3 J<|w8 h λv17 hv27 h=>d2 J (z8 J b0T J hv27) J<|S7 3 J<|w8 h λv18 hv28 h=>d7 J (λ_ hN=>a3u J J hv28) J<|U7<|c5c (WE [(1000003,.ptr 2008 0 0),(1000006,.ptr 2007 0 0),(1000007,.ptr 2006 0 0),(1000008,.ptr 2005 0 0),(1000026,.fn (.func 382) [.rptr [.I v13.1],.rptr [.I v13.2]]),(0,.fn (.yield l20) []),(1,.rptr [.I v13.1]),(2,.rptr [.I v13.2]),(5,.I v13.1),(6,.I s15),(9,.fn (.yield l20) []),(16,.I v18)] [(2005,vR (.agg [.I 1,.I a1,.I a2]) 3),(2006,vR (.I 0) 1),(2007,vR (.nl) 1),(2008,vR (.L c7.Pv a0) 1)]) ?_
    refine b5r J hR23 J J J J J J (λe29 o30 o31=>?_);refine S6 1 J ?_;refine⟨J,?_⟩;refine g6<|S3 2 J<|iL h J J Q0 V1 λv19 _ h=>S2 3 J ?_;refine cN h (λhc h=>?_) λhc h=>?_
    ·refine S3 3 J ?_;refine cF h a6n J J λv20 _ h=>S2 2 J<|b8 ?_;refine⟨J,?_⟩;refine⟨_,b5p [(1000003,.ptr 2008 0 0),(1000006,.ptr 2007 0 0),(1000007,.ptr 2006 0 0),(1000008,.ptr 2005 0 0),(1000026,.fn (.func 382) [.rptr [.I v13.1],.rptr [.I v13.2]]),(0,.fn (.yield l20) []),(1,.rptr [.I v13.1]),(2,.rptr [.I v13.2]),(5,.I v13.1),(6,.I s15),(17,.bool false)] [(2005,vR (.agg [.I 1,.I a1,.I a2]) 3),(2006,vR (.I 0) 1),(2007,vR (.L c7.Pv v20) 1),(2008,vR (.L c7.Pv a0) 1)] ⟨J,J,J,J,J,J,J,J,J,J,J,J,J,J,J,J,J,J,J,J,J,J,J,J,J,J,J,J,J,J,J,J,J,tr⟩ ⟨rS,rS,rS,rS,tr⟩,?_⟩;refine S8 1 J ?_;refine G9 true J (λ_=>?_) (λq=>nomatch q);refine b8 ?_;refine .inr ⟨.ret,J,c7r ?_⟩;have h:=xL hx26 h;cases h;exact⟨J,[_,_],⟨oS J J J a9V J,⟨oS J J J b3U J,tr⟩⟩,J,io⟩
    ·refine b9 ?_;refine⟨J,?_⟩;refine⟨_,b5p [(1000003,.ptr 2008 0 0),(1000006,.ptr 2007 0 0),(1000007,.ptr 2006 0 0),(1000008,.ptr 2005 0 0),(1000026,.fn (.func 382) [.rptr [.I v13.1],.rptr [.I v13.2]]),(0,.fn (.yield l20) []),(1,.rptr [.I v13.1]),(2,.rptr [.I v13.2]),(5,.I v13.1),(6,.I s15),(17,.bool true)] [(2005,vR (.agg [.I 1,.I a1,.I a2]) 3),(2006,vR (.I 0) 1),(2007,vR (.nl) 1),(2008,vR (.L c7.Pv a0) 1)] ⟨J,J,J,J,J,J,J,J,J,J,J,J,J,J,J,J,J,J,J,J,J,J,J,J,J,J,J,J,J,J,J,J,J,tr⟩ ⟨rS,rS,rS,rS,tr⟩,?_⟩;refine S8 1 J ?_;refine G9 false J (λq=>nomatch q) (λ_=>?_);refine b9<|S6 2 J ?_;exact eL h W
   ·refine m7 ?_;refine c4<|c4<|j4 ?_;refine .inl ⟨J,?_⟩;have h:=xL hx26 h;exact eJ h (WP (λl=>if l=2004 then 2008 else if l=2003 then 2007 else if l=2002 then 2006 else l))

theorem b66{a0 a1 a2}:PO Tryz.prog 374 [.L c7.Pv a0,.I a1,.I a2] (W6 a0 a1 a2) λr=>.tup [.L c7.Pv r.1,.I r.2.1,.I r.2.2]:=by
 refine pO Tryz.func374 λr h _ _=>?_;refine S4 3 J<|g7<|S4 2 J ?_;refine cN h (λhc h=>?_) λhc h=>?_
 ·refine S4 4 J ?_;refine b8 ?_;cases h;exact f3
 ·refine b9 ?_;refine S3 2 J<|cA h a4N J J λv1 _ h=>S2 5 J<|g7<|S4 2 J ?_;refine cN h (λhc h=>?_) λhc h=>?_
  ·refine S3 2 J ?_;refine cF h b0S J J λv2 _ h=>S2 7 J<|S4 5 J<|b8 ?_;cases h;exact f3
  ·refine b9 ?_;refine S3 3 J<|cF h b83 J J λv3 _ h=>S2 5 J<|g7<|S4 2 J ?_;refine cN h (λhc h=>?_) λhc h=>?_
   ·refine S4 5 J ?_;refine b8 ?_;cases h;exact f3
   ·refine b9 ?_;refine S4 5 J<|b8 ?_;cases h;exact f3

theorem a7h{a0 a1}:PO Tryz.prog 375 [H9.Pv a0,a8.Pv a1] (V5 a0 a1) λr=>a8.Pv r:=by
 refine pO Tryz.func375 λr h _ _=>?_;unfold V5 at h;refine S4 3 J<|S4 4 J<|S4 2 J<|b8 ?_;cases h;exact⟨J,[_],⟨oL J J J p5 n9 nl J,tr⟩,J,io⟩

theorem a03{a0 a1 a2 a3}:PO Tryz.prog 184 [a8.Pv a0,.I a1,.I a2,.abs (BFn 375 [H9.Pv a3])] (J3 a0 a1 a2 a3) λr=>a8.Pv r:=by
 refine pO Tryz.func184 λr h _ _=>?_;refine S4 2 J<|S3 3 J<|cF h a1E J J λv1 _ h=>w8 h λv2 hv2 h=>b8A (xs:=[a8.Pv v1]) J J c6G J (a7h.2 _ hv2)<|S1 1 J<|cF h W1 J J λv3 _ h=>S2 1 J<|b8 ?_;cases h;exact⟨J,[_],⟨oL J J J p5 n9 nl J,tr⟩,J,io⟩

theorem b7g{a0 a1 a2}:PO Tryz.prog 321 [a8.Pv a0,.I a1,.I a2] (a3N a0 a1 a2) λr=>.tup [a8.Pv r.1,.I r.2]:=by
 refine pO Tryz.func321 λr h _ _=>?_;refine S4 3 J<|g7<|S4 2 J ?_;refine cN h (λhc h=>?_) λhc h=>?_
 ·refine S4 3 J ?_;refine b8 ?_;cases h;exact⟨J,[_,_],⟨oL J J J p5 n9 nl J,⟨J,tr⟩⟩,J,io⟩
 ·refine b9 ?_;refine g7<|S3 2 J<|cA h O6 J J λv1 _ h=>S1 2 J<|c5 J (λhg=>oL J J J p5 n9 nl J)<|c5 J (λhg=>mI J)<|w8 h λv2 hv2 h=>c5 J (λhg=>z8 J O6 (u6 (ct hg) (u6 (ct hg) J)) (y7 hv2 hg))<|c5 J (λhg=>P5 (ct hg) J)<|y0 J (o9 J J J (λq=>I8 q))<|yN ?_;refine cN h (λhc h=>?_) λhc h=>?_
  ·refine S4 3 J ?_;refine b8 ?_;cases h;exact⟨J,[_,_],⟨oL J J J p5 n9 nl J,⟨J,tr⟩⟩,J,io⟩
  ·refine b9 ?_;refine S3 4 J<|cF h b66 J J λv3 _ h=>S2 7 J<|g7<|S4 2 J ?_;refine cN h (λhc h=>?_) λhc h=>?_
   ·refine S4 4 J ?_;refine b8 ?_;cases h;exact⟨J,[_,_],⟨oL J J J p5 n9 nl J,⟨J,tr⟩⟩,J,io⟩
   ·refine b9 ?_;refine S3 4 J<|y0 J (s7 (cs:=[.L c7.Pv v3.1]) J c6S c66 J J J)<|y0 J (b2s (d:=.agg [.L c7.Pv v3.1]) J)<|cF h a03 J J λv4 _ h=>S2 2 J<|b8 ?_;cases h;exact⟨J,[_,_],⟨oL J J J p5 n9 nl J,⟨J,tr⟩⟩,J,io⟩

theorem a2U{a0}:PO Tryz.prog 249 [p8.Pv a0] (Z2 a0) λr=>.tup [a8.Pv r.1,.I r.2]:=by
 refine pO Tryz.func249 λr h _ _=>?_;refine S4 3 J<|S3 5 J<|cA h Q3 J J λv1 _ h=>S2 5 J<|g7<|S4 2 J ?_;refine cN h (λhc h=>?_) λhc h=>?_
 ·refine S4 5 J ?_;refine b8 ?_;cases h;exact⟨J,[_,_],⟨oL J J J p5 n9 nl J,⟨J,tr⟩⟩,J,io⟩
 ·refine b9 ?_;refine dr [] u5 (by kernel_rfl) (by kernel_rfl)<|S7 8 J<|w8 h λv2 hv2 h=>d2 J (z8 J M9 J hv2) J<|w8 h λv3 hv3 h=>d2f J (B0 J b7g J hv3) J<|S7 2 J<|P0 (x':=a8.Pv v3.1) (cl':=true) J J (.inr J) n9<|S8 1 J<|b8 ?_
  cases h;exact⟨J,[_,_],⟨oL J J J p5 n9 nl J,⟨J,tr⟩⟩,J,io⟩

theorem b65{a0 a1}:PO Tryz.prog 322 [.L c7.Pv a0,.I a1] (b2a a0 a1) λr=>.tup [.I r.1,.I r.2]:=by
 refine pO Tryz.func322 λr h _ _=>?_;refine S4 2 J<|S3 2 J<|cA h a4N J J λv1 _ h=>S2 4 J<|b8 ?_;cases h;exact f2

theorem a3t{a0}:PO Tryz.prog 250 [p8.Pv a0] (a0w a0) λr=>.tup [a8.Pv r.1,.I r.2]:=by
 refine pO Tryz.func250 λr h _ _=>?_;refine S4 3 J<|S3 5 J<|cA h Q3 J J λv1 _ h=>S2 5 J<|g7<|S4 2 J ?_;refine cN h (λhc h=>?_) λhc h=>?_
 ·refine S4 5 J ?_;refine b8 ?_;cases h;exact⟨J,[_,_],⟨oL J J J p5 n9 nl J,⟨J,tr⟩⟩,J,io⟩
 ·refine b9 ?_;refine dr [] u5 (by kernel_rfl) (by kernel_rfl)<|S7 5 J<|w8 h λv2 hv2 h=>d2 J (z8 J b65 J hv2) J<|S7 2 J<|w8 h λv3 hv3 h=>d2f J (B0 J G7 J hv3) J<|S7 2 J<|P0 (x':=a8.Pv v3.1) (cl':=true) J J (.inr J) n9<|S8 1 J<|b8 ?_
  cases h;exact⟨J,[_,_],⟨oL J J J p5 n9 nl J,⟨J,tr⟩⟩,J,io⟩

theorem a16{a0}:PO Tryz.prog 251 [p8.Pv a0] (P4 a0) λr=>.tup [a8.Pv r.1,.I r.2]:=by
 refine pO Tryz.func251 λr h _ _=>?_;unfold P4 at h;refine S4 3 J<|S4 4 J<|b8 ?_;cases h;exact⟨J,[_,_],⟨oL J J J p5 n9 nl J,⟨J,tr⟩⟩,J,io⟩

theorem c0o{f:Fv}{a0:p8}{r:a8 × Int}(h:b3s f a0=some r):∃n,f=some n∧A6 Tryz.prog n∧T0 Tryz.prog n [p8.Pv a0] (.tup [a8.Pv r.1,.I r.2]):=by
 unfold b3s at h;by_cases e242:f=some 242
 ·rw[if_pos e242] at h;exact⟨242,e242,(@a1M a0).1,(@a1M a0).2 _ h⟩
 rw[if_neg e242] at h;by_cases e243:f=some 243
 ·rw[if_pos e243] at h;exact⟨243,e243,(@a0D a0).1,(@a0D a0).2 _ h⟩
 rw[if_neg e243] at h;by_cases e244:f=some 244
 ·rw[if_pos e244] at h;exact⟨244,e244,(@a2S a0).1,(@a2S a0).2 _ h⟩
 rw[if_neg e244] at h;by_cases e245:f=some 245
 ·rw[if_pos e245] at h;exact⟨245,e245,(@a2T a0).1,(@a2T a0).2 _ h⟩
 rw[if_neg e245] at h;by_cases e246:f=some 246
 ·rw[if_pos e246] at h;exact⟨246,e246,(@a17 a0).1,(@a17 a0).2 _ h⟩
 rw[if_neg e246] at h;by_cases e247:f=some 247
 ·rw[if_pos e247] at h;exact⟨247,e247,(@a1N a0).1,(@a1N a0).2 _ h⟩
 rw[if_neg e247] at h;by_cases e248:f=some 248
 ·rw[if_pos e248] at h;exact⟨248,e248,(@a37 a0).1,(@a37 a0).2 _ h⟩
 rw[if_neg e248] at h;by_cases e249:f=some 249
 ·rw[if_pos e249] at h;exact⟨249,e249,(@a2U a0).1,(@a2U a0).2 _ h⟩
 rw[if_neg e249] at h;by_cases e250:f=some 250
 ·rw[if_pos e250] at h;exact⟨250,e250,(@a3t a0).1,(@a3t a0).2 _ h⟩
 rw[if_neg e250] at h;by_cases e251:f=some 251
 ·rw[if_pos e251] at h;exact⟨251,e251,(@a16 a0).1,(@a16 a0).2 _ h⟩
 rw[if_neg e251] at h;cases h

theorem a5t{a0}:PO Tryz.prog 177 [.I a0] (a0N a0) λr=>.bool r:=by
 refine pO Tryz.func177 λr h _ _=>?_;unfold a0N at h;refine S4 1 J<|S4 4 J<|b8 ?_;cases h;exact f1

theorem a91{a0 a1}:PO Tryz.prog 104 [.I a0,.I a1] (a3g a0 a1) λr=>.I r:=by
 refine pO Tryz.func104 λr h _ _=>?_;refine S4 1 J<|S3 1 J<|cA h a5t J J λv1 _ h=>S2 1 J<|S3 1 J<|cA h a5t J J λv2 _ h=>S2 1 J<|g7<|S4 1 J ?_;refine cN h (λhc h=>?_) λhc h=>?_
 ·refine g7 ?_;refine S4 1 J ?_;refine cN h (λhc h=>?_) λhc h=>?_
  ·refine S4 1 J ?_;refine b8 ?_;cases h;exact f1
  ·refine b9 ?_;refine S4 1 J<|b8 ?_;cases h;exact f1
 ·refine b9 ?_;refine g7<|S4 1 J ?_;refine cN h (λhc h=>?_) λhc h=>?_
  ·refine S4 1 J ?_;refine b8 ?_;cases h;exact f1
  ·refine b9 ?_;refine g7<|S4 3 J ?_;refine cN h (λhc h=>?_) λhc h=>?_
   ·refine S4 1 J ?_;refine b8 ?_;cases h;exact f1
   ·refine b9 ?_;refine g7<|S4 3 J ?_;refine cN h (λhc h=>?_) λhc h=>?_
    ·refine S4 1 J ?_;refine b8 ?_;cases h;exact f1
    ·refine b9 ?_;refine S4 1 J<|b8 ?_;cases h;exact f1

theorem b3i{a0 a1 a2}:PO Tryz.prog 103 [.I a0,.I a1,.rptr [.abs (a3r (List.map (ent iF iF) a2))]] (a3I a0 a1 a2) λr=>.I r:=by
 refine pO Tryz.func103 λr h _ _=>?_;refine S4 1 J<|S3 2 J<|y0 J (c41 (es:=a2) (k:=a0) (E:=iF) (EK:=iF) (d:=.I ((A9 a2 a0).getD (0:Int))) J J b32 (B4 O9) C2 J (lk1 _ _ _))<|S1 2 J<|y0 J (c41 (es:=a2) (k:=a1) (E:=iF) (EK:=iF) (d:=.I ((A9 a2 a1).getD (0:Int))) J J b32 (B4 O9) C2 J (lk1 _ _ _))<|cA h a91 J J λv1 _ h=>S2 1 J<|b8 ?_;cases h;exact f1

theorem a2M{a0}:PO Tryz.prog 41 [a7.Pv a0] (I5 a0) λr=>.L iF r:=by
 refine pO Tryz.func41 λr h _ _=>?_;refine S4 2 J<|S4 1 J<|sR<|b6G (KT:=Int) (VT:=Int) (EK:=iF) (E:=iF) 5000008 J J<|S2 2 J ?_;refine jq h (λq=>St.of [(3,.sl 910003),(4,.ptr 4 0 0)] [(4,vS (.mp 5000008) 1),(5000008,⟨[.mapc (List.map (ent iF iF) q.1)],0,false,0,false⟩),(910003,⟨List.map iF q.2,0,true,1,true⟩)]) (λq20 h=>?_) λκ17 h=>?_
 ·obtain⟨j18,j19⟩:=q20;refine S3 2 J<|L2 (Wk.trans (c8o 5000008 nl J) (d0S 4 0 5000008 J J J J))<|w8 h λv21 hv12 h=>d0V hv12 J J c6x d0H J J J c6y J J J J J (λp q r h=>b3i.2 r h)<|yN<|S4 2 J<|b8 ?_;cases h;exact f1
 ·refine S3 3 J ?_;refine nL J H0<|S2 1 J<|g6<|lq h (λq=>St.of [(3,.sl 910003),(4,.ptr 4 0 0),(11,.L b7.Pv a0.S.Cells),(12,.I (a0.S.Cells.length:Int)),(13,.I q.1)] [(4,vS (.mp 5000008) 1),(5000008,⟨[.mapc (List.map (ent iF iF) q.2.1)],0,false,0,false⟩),(910003,⟨List.map iF q.2.2,0,true,1,true⟩)]) (Wk.trans (H4 (t:=3) (l:=920003) (z:=1) J J) (WP (λl=>if l=910003 then 920003 else l))) λq27 x26 h hx15=>?_
  obtain⟨s23,s24,s25⟩:=q27;refine S4 1 J<|g7 ?_;refine cN h (λhc h=>?_) λhc h=>?_
  ·refine b9 ?_;refine jq h (λq=>St.of [(3,.sl 33),(4,.ptr 4 0 0),(11,.L b7.Pv a0.S.Cells),(12,.I (a0.S.Cells.length:Int)),(13,.I s23)] [(4,vS (.mp 5000008) 1),(5000008,⟨[.mapc (List.map (ent iF iF) q.1)],0,false,0,false⟩),(33,⟨List.map iF q.2,0,true,1,true⟩)]) (λq34 h=>?_) λκ31 h=>?_
   ·obtain⟨j32,j33⟩:=q34;refine S6 2 J ?_;exact eL h (WP (λl=>if l=910003 then 33 else l))
   ·refine g6 ?_;refine S3 1 J<|iL h J J H0 M0 λv35 _ h=>S2 4 J<|S4 3 J ?_;refine cN h (λhc h=>?_) λhc h=>?_
    ·refine S3 3 J ?_;refine cA h a31 J J λv36 _ h=>S2 1 J<|S3 5 J<|a0K (es:=s24) (k:=v36) (v:=v35.Val.Serial) (E:=iF) (EK:=iF) (.inl J) J J J J J J b32 (B4 O9)<|yN<|S5 2 J<|y0 J (N9 (f:=iF) (l:=[v36]) J j8 o8 C2 J J nl J J)<|w8 h λv37 hv22 h=>d1Y (f:=iF) (b:=8) [(4,.ptr 4 0 0),(11,.L b7.Pv a0.S.Cells),(12,.I (a0.S.Cells.length:Int)),(13,.I s23),(14,.bool (decide (s23<(a0.S.Cells.length:Int)))),(15,.I s23),(16,.rptr (b7.Pc v35)),(17,b7.Pv v35),(6,.ptr 6 0 0),(5,.I s23),(18,.ptr 6 0 0),(19,.I v35.State),(20,.bool (v35.State==1)),(21,.I s23),(22,.ptr 6 0 1),(23,.I v35.Gen),(24,.I v36),(7,.I v36),(25,.mp 5000008),(26,.I v36),(27,.ptr 6 0 2),(28,.ptr 6 0 2),(29,.I v35.Val.Serial),(31,.I v36),(32,.lst true (List.map iF [v36]))] [(6,vR (b7.Pv v35) 8),(5000008,⟨[.mapc (List.map (ent iF iF) (p6 s24 v36 v35.Val.Serial))],0,false,0,false⟩),(4,vS (.mp 5000008) 1)] J hv22 ⟨J,J,J,J,J,J,J,J,J,J,J,J,J,J,J,J,J,J,J,J,J,J,J,J,J,J,J,J,J,J,J,J,J,J,J,J,J,J,J,J,J,J,J,J,J,J,J,J,J,J,J,J,J,J,J,J,J,J,J,J,J,J,J,J,J,J,J,J,J,J,J,J,J,J,J,tr⟩ ⟨rS,a2r J J J (λq=>nomatch q) J J J J,a2r J J J (λq=>nomatch q) J J J J,tr⟩ J J J J (.inl ⟨_,J,J⟩) j8 o8 O2 C2 J (λ_=>J)<|S2 1 J ?_;exact eJ h W
    ·refine b9 ?_;exact eJ h (WP (λl=>if l=33 then 910003 else l))
  ·refine m7 ?_;refine c4<|c4<|j4 ?_;have h:=xL hx15 h;exact eJ h W

theorem b48{a0}:PO Tryz.prog 133 [a8.Pv a0] (a1p a0) λr=>.L iF r:=by
 refine pO Tryz.func133 λr h _ _=>?_;refine S4 2 J<|S4 1 J ?_;refine jq h (λj16=>St.of [(3,.sl 910003)] [(910003,⟨List.map iF j16,(List.map iF j16).length,true,1,true⟩)]) (λj16 h=>?_) λκ15 h=>?_
 ·refine S4 2 J ?_;refine b8 ?_;cases h;exact f1
 ·refine S3 2 J ?_;refine cF h a2M J J λv17 _ h=>nL J j8<|S2 1 J<|g6<|lq h (λq=>St.of [(1,.ptr 1 0 0),(3,.sl 910003),(10,.L iF v17),(11,.I (v17.length:Int)),(12,.I q.1)] [(1,vR (a8.Pv a0) 8),(910003,⟨List.map iF q.2,(List.map iF q.2).length,true,1,true⟩)]) (Wk.trans (H4 (t:=3) (l:=920003) (z:=1) J J) (WP (λl=>if l=910003 then 920003 else l))) λq22 x21 h hx16=>?_
  obtain⟨s19,s20⟩:=q22;refine S4 1 J<|g7 ?_;refine cN h (λhc h=>?_) λhc h=>?_
  ·refine b9 ?_;refine jq h (λj27=>St.of [(1,.ptr 1 0 0),(3,.sl 29),(10,.L iF v17),(11,.I (v17.length:Int)),(12,.I s19)] [(29,⟨List.map iF j27,(List.map iF j27).length,true,1,true⟩),(1,vR (a8.Pv a0) 8)]) (λj27 h=>?_) λκ26 h=>?_
   ·refine S6 2 J ?_;exact eL h (Wk.trans (n7 _ [29]) (WP (λl=>if l=910003 then 29 else l)))
   ·refine g6 ?_;refine sR<|iL h J J j8 o8 λv28 _ h=>S2 2 J<|S3 3 J<|cF h B7 J J λv29 _ h=>S2 6 J<|S4 3 J ?_;refine cN h (λhc h=>?_) λhc h=>?_
    ·refine S5 2 J ?_;refine y0 J (N9 (f:=iF) (l:=[v28]) J j8 o8 C2 J J nl J J)<|w8 h λv30 hv23 h=>O5 J (K5 (f:=iF) hv23 J J J J J J (.inl ⟨_,J,J⟩) j8 o8 O2 C2 J (λ_=>J)) J J J<|S2 1 J ?_;exact eJ h (Wk.trans (n7 _ [29]) W)
    ·refine b9 ?_;exact eJ h (Wk.trans (n7 _ [910003]) (WP (λl=>if l=29 then 910003 else l)))
  ·refine m7 ?_;refine c4<|c4<|j4 ?_;have h:=xL hx16 h;exact eJ h (Wk.trans (n7 _ [910003]) W)

theorem a41{a0}:PO Tryz.prog 129 [k8.Pv a0] (L7 a0) λr=>.bool r:=by
 refine pO Tryz.func129 λr h _ _=>?_;unfold L7 at h;refine S4 2 J<|S3 4 J<|c5 J (λhg=>oF J b1Z J)<|c5 J (λhg=>oS (ct hg) J J a3U J)<|c5 J (λhg=>P5 (ct hg) J)<|y0 J (m8 J J J (λq=>J2 q))<|S2 1 J<|b8 ?_;cases h;exact f1

theorem O0{a0}:PO Tryz.prog 286 [c9.Pv a0] (I9 a0) λr=>.I r:=by
 refine pO Tryz.func286 λr h _ _=>?_;unfold I9 at h;refine S4 2 J<|S3 2 J<|nL J F7<|S2 1 J<|b8 ?_;cases h;exact f1

theorem T8{a0 a1 a2}:PO Tryz.prog 287 [.L c8.Pv a0,.I a1,.I a2] (E9 a0 a1 a2) λr=>.lst true (List.map c8.Pv r):=by
 refine pO Tryz.func287 λr h _ _=>?_;unfold E9 at h;refine S4 1 J<|S3 4 J<|w8 h λv1 hv1 h=>y0 J (c95 (f:=c8.Pv) hv1 J ⟨_,J⟩ ⟨_,J⟩ ⟨_,J⟩ J J F7 D9 (λ_=>J))<|S2 1 J<|b8 ?_;cases h;exact f1

theorem a5G{a0 a1}:PO Tryz.prog 217 [c9.Pv a0,c8.Pv a1] (Q4 a0 a1) λr=>.tup [c9.Pv r.1,.I r.2]:=by
 refine pO Tryz.func217 λr h _ _=>?_;unfold Q4 at h;refine S4 4 J<|g7<|dr [] u5 (by kernel_rfl) (by kernel_rfl)<|S7 1 J<|w8 h λv1 hv1 h=>d2 J (z8 J O0 J hv1) J<|S8 3 J ?_
 refine cN h (λhc h=>?_) λhc h=>?_
 ·refine S4 3 J ?_;refine b8 ?_;cases h;exact⟨J,[_,_],⟨oL J J J a5a a1w nl J,⟨J,tr⟩⟩,J,io⟩
 ·refine b9 ?_;refine dr [] u5 (by kernel_rfl) (by kernel_rfl)<|S7 3 J<|d2 J (z8 J O0 J hv1) J<|w8 h λv2 hv2 h=>d2f J (B0 J T8 J hv2) J<|S7 1 J<|d1n J (N9 (f:=c8.Pv) (l:=[a1]) J F7 D9 a7G J J nl J J) J<|w8 h λv3 hv3 h=>d3 J (b9i (f:=c8.Pv) hv3 J J (.inl ⟨_,J,J⟩) F7 D9 c81 a7G J (λ_=>J)) J J J<|S7 1 J<|P0 (x':=.agg [.sl 19,.I a0.Cap]) (cl':=false) J J (.inl J) c3R<|U7<|S4 3 J<|b8 ?_
  cases h;exact⟨J,[_,_],⟨oL J J J a5a a1w nl J,⟨J,tr⟩⟩,J,io⟩

theorem b25{a0 a1}:PO Tryz.prog 131 [c9.Pv a0,c8.Pv a1] (a8s a0 a1) λr=>.tup [c9.Pv r.1,.I r.2]:=by
 refine pO Tryz.func131 λr h _ _=>?_;refine S4 4 J<|S3 2 J<|cF h a5G J J λv1 _ h=>S2 4 J<|b8 ?_;cases h;exact⟨J,[_,_],⟨oL J J J a5a a1w nl J,⟨J,tr⟩⟩,J,io⟩

theorem b2D{a0 a1}:PO Tryz.prog 63 [a8.Pv a0,.I a1] (X6 a0 a1) λr=>a8.Pv r:=by
 refine pO Tryz.func63 λr h _ _=>?_;refine S4 2 J<|S3 3 J<|cF h B7 J J λv1 _ h=>S2 6 J<|g7<|S3 3 J<|c5 J (λhg=>oL J J J b0u a4E nl J)<|w8 h λv2 hv2 h=>c5 J (λhg=>z8 J a41 (u6 (ct hg) J) (y7 hv2 hg))<|c5 J (λhg=>P5 (ct hg) J)<|y0 J (o9 J J J (λq=>I8 q))<|yN ?_;refine cN h (λhc h=>?_) λhc h=>?_
 ·refine S4 2 J ?_;refine b8 ?_;cases h;exact⟨J,[_],⟨oL J J J p5 n9 nl J,tr⟩,J,io⟩
 ·refine b9 ?_;refine S4 2 J<|S3 4 J<|cF h a0A J J λv3 _ h=>S2 5 J<|S3 5 J<|y0 J (s7 (cs:=[.I 1,.I a1,.I v1.1.Prog]) J b15 a7G J J J)<|cF h b25 J J λv4 _ h=>S2 5 J<|S3 2 J<|cF h a1E J J λv5 _ h=>S2 1 J<|b8 ?_;cases h;exact⟨J,[_],⟨oL J J J p5 n9 nl J,tr⟩,J,io⟩

theorem a9v{a0 a1}:PO Tryz.prog 134 [a8.Pv a0,.L iF a1] (U0 a0 a1) λr=>.L iF r:=by
 refine pO Tryz.func134 λr h _ _=>?_;refine S4 2 J<|sR<|b6G (KT:=Int) (VT:=Bool) (EK:=iF) (E:=PV.bool) 5000011 J J<|S2 1 J<|S4 1 J ?_;refine jq h (λj18=>St.of [(6,.sl 910006)] [(910006,⟨List.map iF j18,(List.map iF j18).length,true,1,true⟩)]) (λj18 h=>?_) λκ17 h=>?_
 ·refine S4 2 J ?_;refine b8 ?_;cases h;exact f1
 ·refine S3 1 J ?_;refine nL J j8<|S2 1 J<|g6<|lq h (λq=>St.of [(2,.ptr 2 0 0),(5,.mp 5000011),(6,.sl 910006),(12,.L iF a1),(13,.I (a1.length:Int)),(14,.I q.1)] [(5000011,⟨[.mapc (List.map (ent iF PV.bool) q.2.1)],0,false,0,false⟩),(2,vR (a8.Pv a0) 8),(910006,⟨List.map iF q.2.2,(List.map iF q.2.2).length,true,1,true⟩)]) (Wk.trans (H4 (t:=6) (l:=920006) (z:=1) J J) (WP (λl=>if l=910006 then 920006 else l))) λq24 x23 h hx16=>?_
  obtain⟨s20,s21,s22⟩:=q24;refine S4 1 J<|g7 ?_;refine cN h (λhc h=>?_) λhc h=>?_
  ·refine b9 ?_;refine jq h (λq=>St.of [(2,.ptr 2 0 0),(5,.mp 5000011),(6,.sl 38),(12,.L iF a1),(13,.I (a1.length:Int)),(14,.I s20)] [(38,⟨List.map iF q.1,(List.map iF q.1).length,true,1,true⟩),(5000011,⟨[.mapc (List.map (ent iF PV.bool) q.2)],0,false,0,false⟩),(2,vR (a8.Pv a0) 8)]) (λq31 h=>?_) λκ28 h=>?_
   ·obtain⟨j29,j30⟩:=q31;refine S6 2 J ?_;exact eL h (Wk.trans (n7 _ [38]) (WP (λl=>if l=910006 then 38 else l)))
   ·refine g6 ?_;refine sR<|iL h J J j8 o8 λv32 _ h=>S2 2 J<|S3 3 J<|cF h B7 J J λv33 _ h=>S2 6 J<|S3 3 J<|c5 J (λhg=>om (d:=.mp 5000011) J)<|c5 J (λhg=>mI J) ?_;rcases Bool.eq_false_or_eq_true ((v33.2==0)==true) with hg24 | hg24
    ·have h:=ifT h hg24;refine c59 (es:=s21) (k:=v32) (E:=PV.bool) (EK:=iF) (d:=.bool ((A9 s21 v32).getD (false:Bool))) (congrArg some hg24) (ct hg24) J (ct hg24) b0z (B4 O9) c3W J (lk1 _ _ _)<|y0 (congrArg some hg24) (P5 J J)<|y0 J (a8S J J hg24)<|yN ?_;refine cN h (λhc h=>?_) λhc h=>?_
     ·refine S3 2 J ?_;refine a0K (es:=s21) (k:=v32) (v:=true) (E:=PV.bool) (EK:=iF) (.inl J) J J J J J J b0z (B4 O9)<|yN<|S5 2 J<|y0 J (N9 (f:=iF) (l:=[v32]) J j8 o8 C2 J J nl J J)<|w8 h λv34 hv25 h=>O5 J (K5 (f:=iF) hv25 J J J J J J (.inl ⟨_,J,J⟩) j8 o8 O2 C2 J (λ_=>J)) J J J<|S2 1 J ?_;exact eJ h (Wk.trans (n7 _ [38]) W)
     ·refine b9 ?_;exact eJ h (Wk.trans (n7 _ [910006]) (WP (λl=>if l=38 then 910006 else l)))
    ·have h:=ifF h hg24;refine a11 (congrArg some hg24)<|a11 (congrArg some hg24)<|y0 J (a8R J J hg24)<|yN ?_;refine G9 false J (λq=>nomatch q) (λ_=>?_);refine b9 ?_;exact eJ h (Wk.trans (n7 _ [910006]) (WP (λl=>if l=38 then 910006 else l)))
  ·refine m7 ?_;refine c4<|c4<|j4 ?_;have h:=xL hx16 h;exact eJ h (Wk.trans (n7 _ [910006]) W)

theorem a5V{a0 a1}:PO Tryz.prog 352 [.L iF a0,.I a1] (Q5 a0 a1) λr=>.I r:=by
 refine pO Tryz.func352 λr h _ _=>?_;refine S4 1 J ?_;refine jq h (λ_=>St.of [] []) (λq6 h=>?_) λκ5 h=>?_
 ·refine S4 1 J ?_;refine b8 ?_;cases h;exact f1
 ·refine S3 1 J ?_;refine nL J j8<|S2 1 J<|g6<|lq h (λs8=>St.of [(0,.L iF a0),(1,.I a1),(7,.I (a0.length:Int)),(8,.I s8)] []) W λs8 x9 h hx8=>S4 1 J<|g7 ?_;refine cN h (λhc h=>?_) λhc h=>?_
  ·refine b9 ?_;refine g7<|g6<|S4 2 J<|S3 3 J<|iL h J J j8 o8 λv10 _ h=>S2 2 J ?_;refine cN h (λhc h=>?_) λhc h=>?_
   ·refine S4 2 J ?_;refine b8 ?_;have h:=xL hx8 h;cases h;exact f1
   ·refine b9 ?_;refine S6 2 J ?_;exact eL h W
  ·refine m7 ?_;refine c4<|c4<|j4 ?_;have h:=xL hx8 h;exact eJ h W

theorem a4n{a0 a1}:PO Tryz.prog 290 [.L iF a0,.I a1] (M5 a0 a1) λr=>.bool r:=by
 refine pO Tryz.func290 λr h _ _=>?_;refine S4 1 J<|S3 2 J<|cA h a5V J J λv1 _ h=>S2 2 J<|b8 ?_;cases h;exact f1

theorem b3k{a0 a1}:PO Tryz.prog 289 [g5.Pv a0,.rptr [.L iF a1]] (a0B a0 a1) λr=>.bool r:=by
 refine pO Tryz.func289 λr h _ _=>?_;unfold a0B at h;refine S4 2 J<|S3 3 J<|c5 J (λhg=>oF J b30 J)<|c5 J (λhg=>oS (ct hg) J J p7 J)<|c5 J (λhg=>l5 (ct hg) J J)<|y0 J (m8 J J J (λq=>J2 q))<|S1 1 J<|c5 J (λhg=>E6 J U9 J)<|c5 J (λhg=>oF J b30 J)<|c5 J (λhg=>oS (ct hg) J J p7 J)<|w8 h λv1 hv1 h=>c5 J (λhg=>z8 J a4n (u6 (ct hg) (u6 (ct hg) J)) (y7 hv1 hg))<|y0 J (m8 J J J (λq=>J2 q))<|S2 1 J<|b8 ?_;cases h;exact f1

theorem a3q{a0 a1}:PO Tryz.prog 279 [.L g5.Pv a0,.fn (.func 289) [.rptr [.L iF a1]]] (J6 a0 a1) λr=>.L iF r:=by
 refine pO Tryz.func279 λr h _ _=>?_;refine S4 1 J<|S4 1 J ?_;refine jq h (λj15=>St.of [(5,.sl 910005)] [(910005,⟨List.map iF j15,(List.map iF j15).length,true,1,true⟩)]) (λj15 h=>?_) λκ14 h=>?_
 ·refine S4 2 J ?_;refine b8 ?_;cases h;exact f1
 ·refine S3 1 J ?_;refine nL J G0<|S2 1 J<|g6<|lq h (λq=>St.of [(1,.fn (.func 289) [.rptr [.L iF a1]]),(5,.sl 910005),(8,.L g5.Pv a0),(9,.I (a0.length:Int)),(10,.I q.1)] [(910005,⟨List.map iF q.2,(List.map iF q.2).length,true,1,true⟩)]) (Wk.trans (H4 (t:=5) (l:=920005) (z:=1) J J) (WP (λl=>if l=910005 then 920005 else l))) λq20 x19 h hx14=>?_
  obtain⟨s17,s18⟩:=q20;refine S4 1 J<|g7 ?_;refine cN h (λhc h=>?_) λhc h=>?_
  ·refine b9 ?_;refine jq h (λj25=>St.of [(1,.fn (.func 289) [.rptr [.L iF a1]]),(5,.sl 21),(8,.L g5.Pv a0),(9,.I (a0.length:Int)),(10,.I s17)] [(21,⟨List.map iF j25,(List.map iF j25).length,true,1,true⟩)]) (λj25 h=>?_) λκ24 h=>?_
   ·refine S6 2 J ?_;exact eL h (Wk.trans (n7 _ [21]) (WP (λl=>if l=910005 then 21 else l)))
   ·refine g6 ?_;refine S3 1 J<|iL h J J G0 T2 λv26 _ h=>S2 4 J<|S3 2 J<|cA h b3k J J λv27 _ h=>yN ?_;refine cN h (λhc h=>?_) λhc h=>?_
    ·refine S5 2 J ?_;refine y0 J (N9 (f:=iF) (l:=[s17]) J j8 o8 C2 J J nl J J)<|w8 h λv28 hv21 h=>O5 J (K5 (f:=iF) hv21 J J J J J J (.inl ⟨_,J,J⟩) j8 o8 O2 C2 J (λ_=>J)) J J J<|S2 1 J ?_;exact eJ h (Wk.trans (n7 _ [21]) W)
    ·refine b9 ?_;exact eJ h (Wk.trans (n7 _ [910005]) (WP (λl=>if l=21 then 910005 else l)))
  ·refine m7 ?_;refine c4<|c4<|j4 ?_;have h:=xL hx14 h;exact eJ h (Wk.trans (n7 _ [910005]) W)

theorem b5W{a0 a1}:PO Tryz.prog 219 [.L g5.Pv a0,.L iF a1] (a4v a0 a1) λr=>.tup [.L g5.Pv r.1,.L iF r.2]:=by
 refine pO Tryz.func219 λr h _ _=>?_;unfold a4v at h;refine S4 3 J<|S3 2 J<|w8 h λv1 hv1 h=>ycL J (B0 J a3q J hv1) J<|S2 1 J<|S3 1 J<|w8 h λv2 hv2 h=>ycN J (b6r J a7e J hv2) J J<|S2 1 J<|S4 1 J ?_;refine jq h (λq=>St.of [(7,.sl 15),(8,.sl 910008)] [(910008,⟨List.map iF q.1,(List.map iF q.1).length,true,1,true⟩),(15,⟨List.map g5.Pv q.2,0,true,3,true⟩)]) (λq24 h=>?_) λκ21 h=>?_
 ·obtain⟨j22,j23⟩:=q24;refine S4 4 J<|b8 ?_;cases h;exact f2
 ·refine S3 1 J ?_;refine nL J j8<|S2 1 J<|g6<|lq h (λq=>St.of [(7,.sl 15),(8,.sl 910008),(16,.L iF v1),(17,.I (v1.length:Int)),(18,.I q.1)] [(15,⟨List.map g5.Pv q.2.1,0,true,3,true⟩),(910008,⟨List.map iF q.2.2,(List.map iF q.2.2).length,true,1,true⟩)]) (Wk.trans (H4 (t:=8) (l:=920008) (z:=1) J J) (WP (λl=>if l=910008 then 920008 else l))) λq30 x29 h hx18=>?_
  obtain⟨s26,s27,s28⟩:=q30;refine S4 1 J<|g7 ?_;refine cN h (λhc h=>?_) λhc h=>?_
  ·refine b9 ?_;refine jq h (λq=>St.of [(7,.sl 15),(8,.sl 35),(16,.L iF v1),(17,.I (v1.length:Int)),(18,.I s26)] [(35,⟨List.map iF q.1,(List.map iF q.1).length,true,1,true⟩),(15,⟨List.map g5.Pv q.2,0,true,3,true⟩)]) (λq38 h=>?_) λκ35 h=>?_
   ·obtain⟨j36,j37⟩:=q38;refine S6 2 J ?_;exact eL h (Wk.trans (n7 _ [35]) (WP (λl=>if l=910008 then 35 else l)))
   ·refine g6 ?_;refine sR<|iL h J J j8 o8 λv39 _ h=>S2 2 J<|S3 2 J<|w8 h λv40 hv25 h=>y0 J (a4a (f:=g5.Pv) hv25 J J J J G0 T2 J)<|S1 1 J<|b1U (f:=g5.Pv) (v:=(⟨v40.Target,false,v40.Call⟩:g5)) hv25 J J (.inl J) d05<|yN<|S3 2 J<|w8 h λv41 hv26 h=>y0 J (a4a (f:=g5.Pv) hv26 J J J J G0 T2 J)<|S1 1 J<|y0 J (b6s (f:=g5.Pv) hv26 J J J p7 J)<|S2 1 J ?_;refine cN h (λhc h=>?_) λhc h=>?_
    ·refine S5 2 J ?_;refine y0 J (N9 (f:=iF) (l:=[v39]) J j8 o8 C2 J J nl J J)<|w8 h λv42 hv27 h=>O5 J (K5 (f:=iF) hv27 J J J J J J (.inl ⟨_,J,J⟩) j8 o8 O2 C2 J (λ_=>J)) J J J<|S2 1 J ?_;exact eJ h (Wk.trans (n7 _ [35]) W)
    ·refine b9 ?_;exact eJ h (Wk.trans (n7 _ [910008]) (WP (λl=>if l=35 then 910008 else l)))
  ·refine m7 ?_;refine c4<|c4<|j4 ?_;have h:=xL hx18 h;exact eJ h (Wk.trans (n7 _ [910008]) W)

theorem b1I{a0 a1}:PO Tryz.prog 135 [a8.Pv a0,.L iF a1] (a1T a0 a1) λr=>a8.Pv r:=by
 refine pO Tryz.func135 λr h _ _=>?_;refine S4 2 J<|S3 3 J<|cF h b5W J J λv1 _ h=>S2 5 J<|S4 3 J ?_;refine jq h (λj11=>St.of [(2,.ptr 2 0 0),(4,.ptr 4 0 0)] [(4,vR (.agg [.nl,.I 0,.I 0,.nl,.nl,.nl,.nl,.I 0]) 8),(2,vR (.agg [.L b7.Pv a0.S.S.Cells,.I a0.S.S.Last,.I a0.S.Serial,.L iF a0.Roots,.L g5.Pv v1.1,.L c7.Pv a0.T,.L c8.Pv j11.L,.I j11.Cap]) 8)]) (λj11 h=>?_) λκ10 h=>?_
 ·refine S4 2 J ?_;refine b8 ?_;cases h;exact⟨J,[_],⟨oL J J J p5 n9 nl J,tr⟩,J,io⟩
 ·refine S3 1 J ?_;refine nL J j8<|S2 1 J<|g6<|lq h (λq=>St.of [(2,.ptr 2 0 0),(4,.ptr 4 0 0),(5,.L g5.Pv v1.1),(18,.L iF v1.2),(19,.I (v1.2.length:Int)),(20,.I q.1)] [(4,vR (.agg [.nl,.I 0,.I 0,.nl,.nl,.nl,.nl,.I 0]) 8),(2,vR (.agg [.L b7.Pv a0.S.S.Cells,.I a0.S.S.Last,.I a0.S.Serial,.L iF a0.Roots,.L g5.Pv v1.1,.L c7.Pv a0.T,.L c8.Pv q.2.L,.I q.2.Cap]) 8)]) W λq16 x15 h hx11=>?_;obtain⟨s13,s14⟩:=q16;refine S4 1 J<|g7 ?_;refine cN h (λhc h=>?_) λhc h=>?_
  ·refine b9 ?_;refine g7<|g6<|sR<|iL h J J j8 o8 λv17 _ h=>S2 2 J<|a7Z [] u5 (by kernel_rfl) (by kernel_rfl)<|S7 5 J<|w8 h λv18 hv13 h=>d0 J (z7 (f:=g5.Pv) (cs:=g5.Pc v18) hv13 J J G0 T2 J J) J<|S7 2 J<|d7 J (λ_ hN=>s7 (cs:=[.I 2,.I v17,.I v18.Call]) J b15 a7G J J J) J<|w8 h λv19 hv14 h=>d2f J (B0 J b25 J hv14) J<|S7 4 J<|P0 (x':=.agg [.L b7.Pv a0.S.S.Cells,.I a0.S.S.Last,.I a0.S.Serial,.L iF a0.Roots,.L g5.Pv v1.1,.L c7.Pv a0.T,.L c8.Pv v19.1.L,.I v19.1.Cap]) (cl':=true) J J (.inr J) a1w<|U7<|S6 2 J ?_
   exact eL h W
  ·refine m7 ?_;refine c4<|c4<|j4 ?_;have h:=xL hx11 h;exact eJ h W

theorem b1S{a0}:PO Tryz.prog 220 [.L iF a0] (a3T a0) λr=>.fn (.func 292) [.rptr [.L iF r]]:=by
 refine pO Tryz.func220 λr h _ _=>?_;unfold a3T at h;refine S4 2 J<|S4 2 J<|b8 ?_;cases h;exact f1

theorem b1R{a0}:PO Tryz.prog 137 [.L iF a0] (a3S a0) λr=>.L iF r:=by
 refine pO Tryz.func137 λr h _ _=>?_;refine S4 1 J<|S4 1 J ?_;refine jq h (λj10=>St.of [(3,.ptr 2001 0 0)] [(2001,vS (.sl 912501) 1),(912501,⟨List.map iF j10,(List.map iF j10).length,true,1,true⟩)]) (λj10 h=>?_) λκ9 h=>?_
 ·refine S4 2 J ?_;refine b8 ?_;cases h;exact f1
 ·refine S3 1 J ?_;refine cF h b1S J J λv11 _ h=>yN<|g6<|a2Y (WPE (λl=>if l=2011 then 3 else l) [(3,.ptr 2011 0 0),(6,.fn (.func 292) [.rptr [.L iF v11]])] [(2011,vR (.nl) 1)]) ?_
  refine a0h (fn:=Tryz.f292) (N1:=20) J Tryz.func292 J J nl J c1o J J (λl17 e18 o19 hR20=>?_);refine S3 1 J<|nL J j8<|S2 1 J<|g6<|lq h (λq=>St.of [(1000003,.ptr 2011 0 0),(1000006,.fn (.func 292) [.rptr [.L iF v11]]),(0,.fn (.yield l17) []),(5,.L iF v11),(6,.I (v11.length:Int)),(7,.I q.1)] [(2011,vS (.sl 912511) 1),(912511,⟨List.map iF q.2,(List.map iF q.2).length,true,1,true⟩)]) (Wk.trans (a9p (l0:=2011) (j:=0) (l:=922511) (z:=1) J J J J J) (WP (λl=>if l=912511 then 922511 else l))) λq16 x15 h hx23=>?_
  obtain⟨s13,s14⟩:=q16;refine S4 1 J<|g7 ?_;refine cN h (λhc h=>?_) λhc h=>?_
  ·refine b9 ?_;refine g7<|g6<|sR<|iL h J J j8 o8 λv17 _ h=>S2 2 J<|S3 3 J<|c5 J (λhg=>om (d:=.fn (.yield l17) []) J)<|c5 J (λhg=>mI J) ?_;rcases Bool.eq_false_or_eq_true ((v17 != 0)==true) with hg25 | hg25
   ·have h:=ifT h hg25;refine L2 (WPE (λl=>if l=2019 then 912511 else l) [(1000003,.ptr 2011 0 0),(1000006,.fn (.func 292) [.rptr [.L iF v11]]),(0,.fn (.yield l17) []),(5,.L iF v11),(6,.I (v11.length:Int)),(7,.I s13),(13,.bool (v17 != 0)),(14,.fn (.yield l17) []),(15,.I v17)] [(2011,vS (.sl 2019) 1),(2019,⟨List.map iF s14,(List.map iF s14).length,true,1,true⟩)]) ?_
    refine a3L hR20 (congrArg some hg25) J J J J J (λe26 o27 o28=>?_);refine S6 1 J ?_;refine⟨J,?_⟩;refine g6<|S5 2 J<|y0 J (N9 (f:=iF) (l:=[v17]) J j8 o8 C2 J J nl J J)<|w8 h λv18 hv29 h=>O5 J (K5 (f:=iF) hv29 J J J J J J (.inl ⟨_,J,J⟩) j8 o8 O2 C2 J (λ_=>J)) J J J<|S2 1 J ?_;refine⟨J,?_⟩;refine L2 (WPE (λl=>if l=2020 then 11 else l) [(1000003,.ptr 2011 0 0),(1000006,.fn (.func 292) [.rptr [.L iF v11]]),(0,.fn (.yield l17) []),(5,.L iF v11),(6,.I (v11.length:Int)),(7,.I s13),(13,.bool (v17 != 0)),(16,.bool true)] [(2011,vS (.sl 2020) 1),(2020,⟨List.map iF v18,s14.length,true,1,true⟩)])<|y0 (congrArg some hg25) (P5 J J)<|y0 J (a8S J J hg25)<|yN ?_
    refine G9 false J (λq=>nomatch q) (λ_=>?_);refine b9<|S6 2 J ?_;exact eL h (Wk.trans (n7 _ [2020]) (WP (λl=>if l=912511 then 2020 else l)))
   ·have h:=ifF h hg25;refine a11 (congrArg some hg25)<|a11 (congrArg some hg25)<|y0 J (a8R J J hg25)<|yN ?_;refine G9 false J (λq=>nomatch q) (λ_=>?_);refine b9<|S6 2 J ?_;exact eL h (Wk.trans (n7 _ [912511]) W)
  ·refine m7 ?_;refine c4<|c4<|j4 ?_;refine .inl ⟨J,?_⟩;have h:=xL hx23 h;exact eJ h (Wk.trans (n7 _ [912511]) (WP (λl=>if l=2001 then 2011 else if l=912501 then 912511 else l)))

theorem b2d{a0 a1}:PO Tryz.prog 138 [.L c7.Pv a0,.L iF a1] (W7 a0 a1) λr=>.tup [.L c7.Pv r.1,.L iF r.2]:=by
 refine pO Tryz.func138 λr h _ _=>?_;refine S4 2 J<|S4 1 J ?_;refine jq h (λq=>St.of [(0,.L c7.Pv q.1),(6,.sl 910006)] [(910006,⟨List.map iF q.2,(List.map iF q.2).length,true,1,true⟩)]) (λq20 h=>?_) λκ17 h=>?_
 ·obtain⟨j18,j19⟩:=q20;refine S4 4 J<|b8 ?_;cases h;exact f2
 ·refine S3 1 J ?_;refine nL J j8<|S2 1 J<|g6<|lq h (λq=>St.of [(0,.L c7.Pv q.1),(6,.sl 910006),(12,.L iF a1),(13,.I (a1.length:Int)),(14,.I q.2.1)] [(910006,⟨List.map iF q.2.2,(List.map iF q.2.2).length,true,1,true⟩)]) (Wk.trans (H4 (t:=6) (l:=920006) (z:=1) J J) (WP (λl=>if l=910006 then 920006 else l))) λq26 x25 h hx14=>?_
  obtain⟨s22,s23,s24⟩:=q26;refine S4 1 J<|g7 ?_;refine cN h (λhc h=>?_) λhc h=>?_
  ·refine b9 ?_;refine jq h (λq=>St.of [(0,.L c7.Pv q.1),(6,.sl 31),(12,.L iF a1),(13,.I (a1.length:Int)),(14,.I s23)] [(31,⟨List.map iF q.2,(List.map iF q.2).length,true,1,true⟩)]) (λq33 h=>?_) λκ30 h=>?_
   ·obtain⟨j31,j32⟩:=q33;refine S6 2 J ?_;exact eL h (Wk.trans (n7 _ [31]) (WP (λl=>if l=910006 then 31 else l)))
   ·refine g6 ?_;refine sR<|iL h J J j8 o8 λv34 _ h=>S2 2 J<|S3 2 J<|cF h b0S J J λv35 _ h=>S2 7 J<|S4 2 J ?_;refine cN h (λhc h=>?_) λhc h=>?_
    ·refine S5 3 J ?_;refine y0 J (N9 (f:=iF) (l:=[v35.2.1]) J j8 o8 C2 J J nl J J)<|w8 h λv36 hv21 h=>O5 J (K5 (f:=iF) hv21 J J J J J J (.inl ⟨_,J,J⟩) j8 o8 O2 C2 J (λ_=>J)) J J J<|S2 2 J ?_;exact eJ h (Wk.trans (n7 _ [31]) W)
    ·refine b9 ?_;exact eJ h (Wk.trans (n7 _ [910006]) (WP (λl=>if l=31 then 910006 else l)))
  ·refine m7 ?_;refine c4<|c4<|j4 ?_;have h:=xL hx14 h;exact eJ h (Wk.trans (n7 _ [910006]) W)

theorem a6Q{a0 a1}:PO Tryz.prog 222 [g8.Pv a0,.I a1] (R9 a0 a1) λr=>.tup [g8.Pv r.1,.I r.2]:=by
 refine pO Tryz.func222 λr h _ _=>?_;refine S4 3 J<|S3 2 J<|cF h a18 J J λv1 _ h=>S2 6 J<|g7<|S4 2 J ?_;refine cN h (λhc h=>?_) λhc h=>?_
 ·refine S4 4 J ?_;refine b8 ?_;cases h;exact⟨J,[_,_],⟨oL J J J a3e a1v nl J,⟨J,tr⟩⟩,J,io⟩
 ·refine b9 ?_;refine dr [] u5 (by kernel_rfl) (by kernel_rfl)<|S7 2 J<|w8 h λv2 hv2 h=>d2 J (z8 J a7P J hv2) J<|S7 1 J<|w8 h λv3 hv3 h=>d2 J (z8 J a9I J hv3) J<|S7 1 J<|d7 J (λ_ hN=>s7 (cs:=[.I 2,.I v3,.I v1.1.Serial,.I v1.1.Strong,.I v1.1.Weak,.I v1.1.Prog,.bool v1.1.Started,.L iF v1.1.Fields]) J b3l a8A J J J) J<|w8 h λv4 hv4 h=>d2f J (B0 J I4 J hv4) J<|P0 (x':=g8.Pv v4) (cl':=true) J J (.inr J) a1v<|S8 1 J<|b8 ?_
  cases h;exact⟨J,[_,_],⟨oL J J J a3e a1v nl J,⟨J,tr⟩⟩,J,io⟩

theorem b2E{a0 a1}:PO Tryz.prog 139 [a8.Pv a0,.I a1] (X7 a0 a1) λr=>a8.Pv r:=by
 refine pO Tryz.func139 λr h _ _=>?_;refine S4 2 J<|S3 3 J<|cF h B7 J J λv1 _ h=>S2 6 J<|S3 1 J<|b1V (x':=.agg [.I v1.1.Serial,.I v1.1.Strong,.I v1.1.Weak,.I v1.1.Prog,.bool v1.1.Started,.nl]) (cl':=true) J J (.inl J) c9a<|S1 1 J<|b1V (x':=.agg [.I v1.1.Serial,.I 0,.I v1.1.Weak,.I v1.1.Prog,.bool v1.1.Started,.nl]) (cl':=true) J J (.inl J) o8<|yN<|S3 4 J<|cF h a0A J J λv2 _ h=>S2 5 J<|S3 4 J<|cF h a6Q J J λv3 _ h=>S2 6 J<|g7<|S4 3 J ?_;refine cN h (λhc h=>?_) λhc h=>?_
 ·refine S5 4 J ?_;refine cF h a1V J J λv4 _ h=>S2 6 J<|S4 2 J<|b8 ?_;cases h;exact⟨J,[_],⟨oL J J J p5 n9 nl J,tr⟩,J,io⟩
 ·refine b9 ?_;refine S4 2 J<|b8 ?_;cases h;exact⟨J,[_],⟨oL J J J p5 n9 nl J,tr⟩,J,io⟩

theorem b47{a0 a1}:PO Tryz.prog 65 [a8.Pv a0,.L iF a1] (a1o a0 a1) λr=>a8.Pv r:=by
 refine pO Tryz.func65 λr h _ _=>?_;refine S4 2 J<|S3 2 J<|cF h a9v J J λv1 _ h=>S2 1 J<|S3 2 J<|cF h b1I J J λv2 _ h=>S2 1 J<|S4 1 J<|S4 2 J ?_;refine jq h (λj13=>St.of [(2,.ptr 2 0 0),(4,.ptr 4 0 0),(5,.L iF v1),(6,.ptr 6 0 0),(7,.fn (.func 136) [.ptr 6 0 0])] [(6,vS (.sl 910506) 1),(910506,⟨List.map iF j13,(List.map iF j13).length,true,1,true⟩),(4,vR (.agg [.nl,.I 0,.I 0,.nl,.nl,.nl,.nl,.I 0]) 8),(2,vR (a8.Pv v2) 8)]) (λj13 h=>?_) λκ12 h=>?_
 ·refine S3 3 J ?_;refine cF h b2d J J λv14 _ h=>S2 5 J<|S3 2 J<|L2 (WPE (λl=>if l=2025 then 6 else if l=2026 then 4 else if l=2027 then 2 else if l=2028 then 910506 else l) [(2,.ptr 2027 0 0),(4,.ptr 2026 0 0),(5,.L iF v1),(6,.ptr 2025 0 0),(12,.L c7.Pv v14.1),(51,.fn (.func 136) [.ptr 2025 0 0]),(52,.L iF v14.2)] [(2025,vS (.sl 2028) 1),(2028,⟨List.map iF j13,(List.map iF j13).length,true,1,true⟩),(2026,vR (.agg [.nl,.I 0,.I 0,.nl,.nl,.nl,.nl,.I 0]) 8),(2027,vR (a8.Pv v2) 8)]) ?_
  refine b6F (fn:=Tryz.f136) (N1:=6) J J Tryz.func136 J c1n J J nl (λe14 o15=>?_);refine S5 2 J<|w8 h λv15 hv16 h=>O5 J (K5 (f:=iF) hv16 J J J J J J (.inl ⟨_,J,J⟩) j8 o8 O2 C2 J (λ_=>J)) J J J<|S2 1 J ?_;refine⟨J,[],tr,?_⟩;refine L2 (WPE (λl=>if l=2029 then 5 else l) [(2,.ptr 2027 0 0),(4,.ptr 2026 0 0),(5,.L iF v1),(6,.ptr 2025 0 0),(12,.L c7.Pv v14.1)] [(2025,vS (.sl 2029) 1),(2029,⟨List.map iF v15,j13.length,true,1,true⟩),(2026,vR (.agg [.nl,.I 0,.I 0,.nl,.nl,.nl,.nl,.I 0]) 8),(2027,vR (a8.Pv v2) 8)])<|yN<|S4 3 J ?_
  refine jq h (λj24=>St.of [(2,.ptr 2027 0 0),(4,.ptr 2026 0 0),(6,.ptr 2025 0 0)] [(2025,vS (.sl 2029) 1),(2029,⟨List.map iF v15,j13.length,true,1,true⟩),(2026,vR (.agg [.nl,.I 0,.I 0,.nl,.nl,.nl,.nl,.I 0]) 8),(2027,vR (a8.Pv j24) 8)]) (λj24 h=>?_) λκ23 h=>?_
  ·refine jq h (λj33=>St.of [(2,.ptr 2027 0 0),(4,.ptr 2026 0 0)] [(2026,vR (.agg [.nl,.I 0,.I 0,.nl,.nl,.nl,.nl,.I 0]) 8),(2027,vR (a8.Pv j33) 8)]) (λj33 h=>?_) λκ32 h=>?_
   ·refine S4 2 J ?_;refine b8 ?_;cases h;exact⟨J,[_],⟨oL J J J p5 n9 nl J,tr⟩,J,io⟩
   ·refine S3 1 J ?_;refine y0 J (c1Y (f:=iF) J J J j8)<|S2 1 J<|g6<|lq h (λq=>St.of [(2,.ptr 2027 0 0),(4,.ptr 2026 0 0),(66,.sl 2029),(67,.I (v15.length:Int)),(68,.I q.1)] [(2029,⟨List.map iF v15,j13.length,true,1,true⟩),(2026,vR (.agg [.nl,.I 0,.I 0,.nl,.nl,.nl,.nl,.I 0]) 8),(2027,vR (a8.Pv q.2) 8)]) W λq38 x37 h hx31=>?_;obtain⟨s35,s36⟩:=q38;refine S4 1 J<|g7 ?_;refine cN h (λhc h=>?_) λhc h=>?_
    ·refine b9 ?_;refine g7<|g6<|sR<|w8 h λv39 hv32 h=>y0 J (a4a (f:=iF) hv32 J J J J j8 o8 J)<|y0 J (b6s (f:=iF) hv32 J J J p7 J)<|S2 1 J<|S5 2 J<|cF h W1 J J λv40 _ h=>S2 1 J<|S6 2 J ?_;exact eL h W
    ·refine m7 ?_;refine c4<|c4<|j4 ?_;have h:=xL hx31 h;exact eJ h W
  ·refine S3 1 J ?_;refine nL J j8<|S2 1 J<|g6<|lq h (λq=>St.of [(2,.ptr 2027 0 0),(4,.ptr 2026 0 0),(6,.ptr 2025 0 0),(56,.L iF v1),(57,.I (v1.length:Int)),(58,.I q.1)] [(2025,vS (.sl 2029) 1),(2029,⟨List.map iF v15,j13.length,true,1,true⟩),(2026,vR (.agg [.nl,.I 0,.I 0,.nl,.nl,.nl,.nl,.I 0]) 8),(2027,vR (a8.Pv q.2) 8)]) W λq45 x44 h hx36=>?_;obtain⟨s42,s43⟩:=q45;refine S4 1 J<|g7 ?_;refine cN h (λhc h=>?_) λhc h=>?_
   ·refine b9 ?_;refine g7<|g6<|sR<|iL h J J j8 o8 λv46 _ h=>S2 2 J<|S5 2 J<|cF h b2E J J λv47 _ h=>S2 1 J<|S6 2 J ?_;exact eL h W
   ·refine m7 ?_;refine c4<|c4<|j4 ?_;have h:=xL hx36 h;exact eJ h W
 ·refine S3 1 J ?_;refine nL J j8<|S2 1 J<|g6<|lq h (λq=>St.of [(2,.ptr 2 0 0),(4,.ptr 4 0 0),(5,.L iF v1),(6,.ptr 6 0 0),(7,.fn (.func 136) [.ptr 6 0 0]),(25,.L iF v1),(26,.I (v1.length:Int)),(27,.I q.1)] [(6,vS (.sl 910506) 1),(4,vR (.agg [.nl,.I 0,.I 0,.nl,.nl,.nl,.nl,.I 0]) 8),(2,vR (a8.Pv v2) 8),(910506,⟨List.map iF q.2,(List.map iF q.2).length,true,1,true⟩)]) (Wk.trans (a9p (l0:=6) (j:=0) (l:=920506) (z:=1) J J J J J) (WP (λl=>if l=910506 then 920506 else l))) λq52 x51 h hx41=>?_
  obtain⟨s49,s50⟩:=q52;refine S4 1 J<|g7 ?_;refine cN h (λhc h=>?_) λhc h=>?_
  ·refine b9 ?_;refine g7<|g6<|sR<|iL h J J j8 o8 λv53 _ h=>S2 2 J<|S3 3 J<|cF h B7 J J λv54 _ h=>S2 6 J<|S5 3 J<|cF h b1R J J λv55 _ h=>L2 (WPE (λl=>if l=2049 then 6 else if l=2050 then 4 else if l=2051 then 2 else if l=2052 then 910506 else l) [(2,.ptr 2051 0 0),(4,.ptr 2050 0 0),(5,.L iF v1),(6,.ptr 2049 0 0),(7,.fn (.func 136) [.ptr 2049 0 0]),(25,.L iF v1),(26,.I (v1.length:Int)),(27,.I s49),(38,.fn (.func 136) [.ptr 2049 0 0]),(41,.L iF v55)] [(2049,vS (.sl 2052) 1),(2052,⟨List.map iF s50,(List.map iF s50).length,true,1,true⟩),(2050,vR (.agg [.nl,.I 0,.I 0,.nl,.nl,.nl,.nl,.I 0]) 8),(2051,vR (a8.Pv v2) 8)]) ?_
   refine b6F (fn:=Tryz.f136) (N1:=6) J J Tryz.func136 J c1n J J nl (λe45 o46=>?_);refine S5 2 J<|w8 h λv56 hv47 h=>O5 J (K5 (f:=iF) hv47 J J J J J J (.inl ⟨_,J,J⟩) j8 o8 O2 C2 J (λ_=>J)) J J J<|S2 1 J ?_;refine⟨J,[],tr,?_⟩;refine L2 (WPE (λl=>if l=2053 then 5 else l) [(2,.ptr 2051 0 0),(4,.ptr 2050 0 0),(5,.L iF v1),(6,.ptr 2049 0 0),(7,.fn (.func 136) [.ptr 2049 0 0]),(25,.L iF v1),(26,.I (v1.length:Int)),(27,.I s49)] [(2049,vS (.sl 2053) 1),(2053,⟨List.map iF v56,s50.length,true,1,true⟩),(2050,vR (.agg [.nl,.I 0,.I 0,.nl,.nl,.nl,.nl,.I 0]) 8),(2051,vR (a8.Pv v2) 8)])<|yN<|S6 2 J ?_
   exact eL h (Wk.trans (n7 _ [2053]) (WP (λl=>if l=2 then 2051 else if l=4 then 2050 else if l=6 then 2049 else if l=910506 then 2053 else l)))
  ·refine m7 ?_;refine c4<|c4<|j4 ?_;have h:=xL hx41 h;exact eJ h (Wk.trans (n7 _ [910506]) W)

theorem a2v{a0}:PO Tryz.prog 64 [a8.Pv a0] (R5 a0) λr=>a8.Pv r:=by
 refine pO Tryz.func64 λr h _ _=>?_;refine S4 2 J<|lqS h (λs2=>St.of [(1,.ptr 1 0 0),(2,.ptr 2 0 0)] [(2,vR (.agg [.nl,.I 0,.I 0,.nl,.nl,.nl,.nl,.I 0]) 8),(1,vR (a8.Pv s2) 8)]) W λs2 x3 h hx3=>S3 1 J<|cF h b48 J J λv4 _ h=>S2 1 J<|g7<|S3 1 J<|nL J j8<|S2 1 J ?_;refine cN h (λhc h=>?_) λhc h=>?_
 ·refine S4 2 J ?_;refine b8 ?_;have h:=xL hx3 h;cases h;exact⟨J,[_],⟨oL J J J p5 n9 nl J,tr⟩,J,io⟩
 ·refine b9 ?_;refine g7<|dr [] u5 (by kernel_rfl) (by kernel_rfl)<|S7 3 J<|w8 h λv5 hv5 h=>d0 J (z7 (f:=iF) (cs:=[.I v5]) hv5 J J j8 o8 J J) J<|S7 1 J<|w8 h λv6 hv6 h=>d2f J (B0 J B7 J hv6) J<|S7 4 J<|P0 (x':=k8.Pv v6.1) (cl':=true) J J (.inr J) a4E<|S8 1 J<|S3 1 J<|cA h a41 J J λv7 _ h=>yN ?_
  refine cN h (λhc h=>?_) λhc h=>?_
  ·refine a7Z [] u5 (by kernel_rfl) (by kernel_rfl) ?_
   refine S7 2 J<|d0 J (z7 (f:=iF) (cs:=[.I v5]) hv5 J J j8 o8 J J) J<|S7 1 J<|w8 h λv8 hv8 h=>d2f J (B0 J b2D J hv8) J<|P0 (x':=a8.Pv v8) (cl':=true) J J (.inr J) n9<|U7<|c19 ?_;exact eS h W
  ·refine a7Z [] u5 (by kernel_rfl) (by kernel_rfl) ?_
   refine S7 2 J<|w8 h λv9 hv9 h=>d0 J (c94 (f:=iF) hv9 J J ⟨_,J⟩ j8 o8 (λ_=>J)) J<|w8 h λv10 hv10 h=>d2f J (B0 J b47 J hv10) J<|P0 (x':=a8.Pv v10) (cl':=true) J J (.inr J) n9<|U7<|c19 ?_;exact eS h W

theorem b09{a0 a1}:PO Tryz.prog 180 [a8.Pv a0,.I a1] (a1L a0 a1) λr=>.I r:=by
 refine pO Tryz.func180 λr h _ _=>?_;refine S4 2 J<|S3 3 J<|cF h B7 J J λv1 _ h=>S2 6 J<|S4 3 J<|b8 ?_;cases h;exact f1

theorem a0Q{a0 a1}:PO Tryz.prog 107 [a8.Pv a0,.I a1] (V6 a0 a1) λr=>.I r:=by
 refine pO Tryz.func107 λr h _ _=>?_;unfold V6 at h;refine S4 2 J<|dr [] u5 (by kernel_rfl) (by kernel_rfl)<|S7 3 J<|w8 h λv1 hv1 h=>d2 J (z8 J M9 J hv1) J<|w8 h λv2 hv2 h=>d2 J (z8 J b09 J hv2) J<|S8 1 J<|b8 ?_
 cases h;exact f1

theorem b1a{a0 a1 a2}:PO Tryz.prog 172 [a8.Pv a0,a8.Pv a1,j1.Pv a2] (T6 a0 a1 a2) λr=>.I r:=by
 refine pO Tryz.func172 λr h _ _=>?_;refine S4 4 J<|g7<|S4 2 J<|g6<|S4 2 J ?_;refine cN h (λhc h=>?_) λhc h=>?_
 ·refine S3 3 J ?_;refine cA h a0Q J J λv1 _ h=>S2 1 J<|b8 ?_;cases h;exact f1
 ·refine jq h (λj3=>St.of [(3,.ptr 3 0 0),(4,.ptr 4 0 0),(5,.ptr 5 0 0),(8,.I a2.Kind),(15,.bool j3)] [(5,vR (j1.Pv a2) 4),(4,vR (a8.Pv a1) 8),(3,vR (a8.Pv a0) 8)]) (λj3 h=>?_) λκ2 h=>?_
  ·refine cN h (λhc h=>?_) λhc h=>?_
   ·refine S3 3 J ?_;refine cA h a0Q J J λv4 _ h=>S2 1 J<|b8 ?_;cases h;exact f1
   ·refine S4 2 J ?_;refine cN h (λhc h=>?_) λhc h=>?_
    ·refine g7 ?_;refine dr [] u5 (by kernel_rfl) (by kernel_rfl)<|S7 3 J<|w8 h λv5 hv4 h=>d2 J (z8 J M9 J hv4) J<|S7 3 J<|w8 h λv6 hv5 h=>d2 J (z8 J M9 J hv5) J<|S8 1 J ?_
     refine cN h (λhc h=>?_) λhc h=>?_
     ·refine S4 1 J ?_;refine b8 ?_;cases h;exact f1
     ·refine b9 ?_;refine S4 1 J<|b8 ?_;cases h;exact f1
    ·refine b9 ?_;refine S3 3 J<|cA h a0Q J J λv7 _ h=>S2 1 J<|b8 ?_;cases h;exact f1
  ·refine S4 2 J ?_;refine cN h (λhc h=>?_) λhc h=>?_
   ·refine b9 ?_;exact eJ h W
   ·refine S6 2 J ?_;exact eJ h W

theorem a9K{a0 a1}:PO Tryz.prog 96 [a8.Pv a0,j1.Pv a1] (u7 a0 a1) λr=>.tup [a8.Pv r.1,.I r.2.1,.I r.2.2]:=by
 refine pO Tryz.func96 λr h _ _=>?_;refine S4 5 J<|g7<|S3 1 J<|cA h b5B J J λv1 _ h=>S2 1 J<|S4 2 J ?_;refine cN h (λhc h=>?_) λhc h=>?_
 ·refine S4 5 J ?_;refine b8 ?_;cases h;exact⟨J,[_,_,_],⟨oL J J J p5 n9 nl J,⟨J,⟨J,tr⟩⟩⟩,J,io⟩
 ·refine b9 ?_;refine dr [] u5 (by kernel_rfl) (by kernel_rfl)<|w8 h λv2 hv2 h=>d2f J (B0 J b2o J hv2) J<|S7 2 J<|d4 J (d1z (es:=v2) (k:=a1.Kind) (E:=fvE) (EK:=iF) (d:=.tup [fvE ((A9 v2 a1.Kind).getD (none:Fv)),.bool ((A9 v2 a1.Kind).isSome)]) J J Z5 (B4 O9) c60 J (lk2 _ _ _)) J<|S8 5 J<|g7<|S4 2 J ?_
  refine cN h (λhc h=>?_) λhc h=>?_
  ·refine S4 4 J ?_;refine b8 ?_;cases h;exact⟨J,[_,_,_],⟨oL J J J p5 n9 nl J,⟨J,⟨J,tr⟩⟩⟩,J,io⟩
  ·refine b9 ?_;refine S3 3 J<|y0 J (s7 (cs:=[.L b7.Pv a0.S.S.Cells,.I a0.S.S.Last,.I a0.S.Serial,.L iF a0.Roots,.L g5.Pv a0.Cells,.L c7.Pv a0.T,.L c8.Pv a0.Q.L,.I a0.Q.Cap,.I a1.Kind,.I a1.A,.I a1.B,.I a1.C]) J c6O c61 J J J) ?_;obtain⟨v3,hv3,h⟩:=a7H h;obtain⟨n4,he4,hk5,hp6⟩:=c0o hv3;refine L2 (c2v 30 J he4)<|yc J (b7q J hk5 J hp6)<|S2 6 J<|g7<|S4 2 J ?_;refine cN h (λhc h=>?_) λhc h=>?_
   ·refine S4 5 J ?_;refine b8 ?_;cases h;exact⟨J,[_,_,_],⟨oL J J J p5 n9 nl J,⟨J,⟨J,tr⟩⟩⟩,J,io⟩
   ·refine b9 ?_;refine S3 1 J<|cF h a2v J J λv5 _ h=>S2 2 J<|dr [] u5 (by kernel_rfl) (by kernel_rfl)<|S7 4 J<|w8 h λv6 hv8 h=>d2 J (z8 J b1a J hv8) J<|P0 (x':=a8.Pv v5) (cl':=true) J J (.inr J) n9<|S8 2 J<|b8 ?_
    cases h;exact⟨J,[_,_,_],⟨oL J J J p5 n9 nl J,⟨J,⟨J,tr⟩⟩⟩,J,io⟩

theorem a7Y{a0 a1}:PO Tryz.prog 39 [a8.Pv a0,.L j1.Pv a1] (a0g a0 a1) λr=>.tup [a8.Pv r.1,.L iF r.2]:=by
 refine pO Tryz.func39 λr h _ _=>?_;refine S4 3 J<|S4 1 J ?_;refine jq h (λq=>St.of [(2,.ptr 2 0 0),(4,.ptr 4 0 0),(6,.sl 910006)] [(910006,⟨List.map iF q.2,(List.map iF q.2).length,true,1,true⟩),(4,vR (.agg [.nl,.I 0,.I 0,.nl,.nl,.nl,.nl,.I 0]) 8),(2,vR (a8.Pv q.1) 8)]) (λq13 h=>?_) λκ10 h=>?_
 ·obtain⟨j11,j12⟩:=q13;refine S4 4 J<|b8 ?_;cases h;exact⟨J,[_,_],⟨oL J J J p5 n9 nl J,⟨J,tr⟩⟩,J,io⟩
 ·refine S3 1 J ?_;refine nL J a6a<|S2 1 J<|g6<|lq h (λq=>St.of [(2,.ptr 2 0 0),(4,.ptr 4 0 0),(6,.sl 910006),(10,.L j1.Pv a1),(11,.I (a1.length:Int)),(12,.I q.1)] [(4,vR (.agg [.nl,.I 0,.I 0,.nl,.nl,.nl,.nl,.I 0]) 8),(2,vR (a8.Pv q.2.1) 8),(910006,⟨List.map iF q.2.2,(List.map iF q.2.2).length,true,1,true⟩)]) (Wk.trans (H4 (t:=6) (l:=920006) (z:=1) J J) (WP (λl=>if l=910006 then 920006 else l))) λq19 x18 h hx10=>?_
  obtain⟨s15,s16,s17⟩:=q19;refine S4 1 J<|g7 ?_;refine cN h (λhc h=>?_) λhc h=>?_
  ·refine b9 ?_;refine g7<|g6<|sR<|iL h J J a6a b34 λv20 _ h=>S2 3 J<|S4 1 J<|S3 2 J<|cF h a9K J J λv21 _ h=>S2 6 J<|S5 2 J<|y0 J (N9 (f:=iF) (l:=[v21.2.1]) J j8 o8 C2 J J nl J J)<|w8 h λv22 hv13 h=>O5 J (K5 (f:=iF) hv13 J J J J J J (.inl ⟨_,J,J⟩) j8 o8 O2 C2 J (λ_=>J)) J J J<|S2 1 J<|S6 2 J ?_;exact eL h (Wk.trans (n7 _ [26]) (WP (λl=>if l=910006 then 26 else l)))
  ·refine m7 ?_;refine c4<|c4<|j4 ?_;have h:=xL hx10 h;exact eJ h (Wk.trans (n7 _ [910006]) W)

theorem a5i{a0 a1}:PO Tryz.prog 264 [c9.Pv a0,.I a1] (Y7 a0 a1) λr=>.tup [c9.Pv r.1,.L c8.Pv r.2]:=by
 refine pO Tryz.func264 λr h _ _=>?_;refine S4 3 J<|S3 2 J<|cA h O0 J J λv1 hv1 h=>y0 J (d1A J J J)<|y0 J (c8M J J J)<|S2 1 J<|S3 3 J<|cF h T8 J J λv2 _ h=>S2 1 J<|dr [] u5 (by kernel_rfl) (by kernel_rfl)<|S7 4 J<|d2 J (z8 J O0 J hv1) J<|w8 h λv3 hv3 h=>d2f J (B0 J T8 J hv3) J<|S7 1 J<|P0 (x':=.agg [.L c8.Pv v3,.I a0.Cap]) (cl':=true) J J (.inr J) c3R<|U7<|S4 4 J<|b8 ?_
 cases h;exact⟨J,[_,_],⟨oL J J J a5a a1w nl J,⟨J,tr⟩⟩,J,io⟩

theorem a6D{a0}:PO Tryz.prog 182 [c9.Pv a0] (a0I a0) λr=>.tup [c9.Pv r.1,c8.Pv r.2.1,.I r.2.2]:=by
 refine pO Tryz.func182 λr h _ _=>?_;refine S4 4 J<|S3 1 J<|cF h a5i J J λv1 _ h=>S2 6 J<|g7<|S3 1 J<|nL J F7<|S2 1 J ?_;refine cN h (λhc h=>?_) λhc h=>?_
 ·refine S4 1 J ?_;refine dr [1,1007] u5 (by kernel_rfl) (by kernel_rfl)<|S7 1 J<|d7 J (λ_ hN=>b7p (cs:=[.I 0,.I 0,.I 0]) hN J J J J a0E D9 nl J) J<|P0 (x':=c9.Pv a0) (cl':=true) J J (.inr J) a1w<|P0 (x':=.agg [.I 0,.I 0,.I 0]) (cl':=true) J J (.inl J) D9<|S8 1 J<|b8 ?_
  cases h;exact⟨J,[_,_,_],⟨oL J J J a5a a1w nl J,⟨oL J J J a0E D9 nl J,⟨J,tr⟩⟩⟩,J,io⟩
 ·refine b9 ?_;refine dr [2,3] u5 (by kernel_rfl) (by kernel_rfl)<|S7 2 J<|w8 h λv2 hv2 h=>d7 J (λ_ hN=>z7 (f:=c8.Pv) (cs:=c8.Pc v2) hv2 J J F7 D9 J J) J<|d7 J (λ_ hN=>a4b J a0E D9 nl J) J<|P0 (x':=c9.Pv v1.1) (cl':=true) J J (.inr J) a1w<|P0 (x':=c8.Pv v2) (cl':=true) J J (.inl J) D9<|S8 1 J<|b8 ?_
  cases h;exact⟨J,[_,_,_],⟨oL J J J a5a a1w nl J,⟨oL J J J a0E D9 nl J,⟨J,tr⟩⟩⟩,J,io⟩

theorem a6W{a0}:PO Tryz.prog 108 [c9.Pv a0] (a1r a0) λr=>.tup [c9.Pv r.1,c8.Pv r.2.1,.I r.2.2]:=by
 refine pO Tryz.func108 λr h _ _=>?_;refine S4 4 J<|S3 1 J<|cF h a6D J J λv1 _ h=>S2 6 J<|b8 ?_;cases h;exact⟨J,[_,_,_],⟨oL J J J a5a a1w nl J,⟨oL J J J a0E D9 nl J,⟨J,tr⟩⟩⟩,J,io⟩

theorem Z8{a0}:PO Tryz.prog 52 [a8.Pv a0] (U8 a0) λr=>.bool r:=by
 refine pO Tryz.func52 λr h _ _=>?_;refine S4 2 J<|S3 2 J<|cF h a6W J J λv1 _ h=>S2 9 J<|S4 3 J<|b8 ?_;cases h;exact f1

theorem a9F{a0 a1}:PO Tryz.prog 54 [.L (Ls j1.Pv) a0,.I a1] (a3Y a0 a1) λr=>.L j1.Pv r:=by
 refine pO Tryz.func54 λr h _ _=>?_;refine S4 1 J<|g7<|S3 3 J<|c5 J (λhg=>mI J)<|c5 J (λhg=>om (d:=.L (Ls j1.Pv) a0) J)<|c5 J (λhg=>J7 (f:=(Ls j1.Pv)) (ct hg) a6b)<|c5 J (λhg=>l5 (ct hg) (ct hg) J)<|y0 J (o9 J J J (λq=>I8 q))<|yN ?_;refine cN h (λhc h=>?_) λhc h=>?_
 ·refine S4 1 J ?_;refine b8 ?_;cases h;exact f1
 ·refine b9 ?_;refine S3 2 J<|iL h J J a6b b35 λv1 _ h=>S2 2 J<|b8 ?_;cases h;exact f1

theorem a5e{a0 a1}:PO Tryz.prog 50 [.L (Ls j1.Pv) a0,c8.Pv a1] (a2d a0 a1) λr=>.I r:=by
 refine pO Tryz.func50 λr h _ _=>?_;refine S4 2 J<|S3 3 J<|cF h a9F J J λv1 _ h=>nL J a6a<|S2 2 J<|b8 ?_;cases h;exact f1

theorem a0O{a0 a1}:PO Tryz.prog 46 [a8.Pv a0,.L (Ls j1.Pv) a1] (P1 a0 a1) λr=>.tup [a8.Pv r.1,c8.Pv r.2.1,.I r.2.2]:=by
 refine pO Tryz.func46 λr h _ _=>?_;refine S4 4 J<|S3 2 J<|cF h a6W J J λv1 _ h=>S2 9 J<|g7<|S4 2 J ?_;refine cN h (λhc h=>?_) λhc h=>?_
 ·refine S3 1 J ?_;refine y0 J (s7 (cs:=[.I 0,.I 0,.I 0]) J b15 a7G J J J)<|S2 4 J<|b8 ?_;cases h;exact⟨J,[_,_,_],⟨oL J J J p5 n9 nl J,⟨oL J J J a0E D9 nl J,⟨J,tr⟩⟩⟩,J,io⟩
 ·refine b9 ?_;refine S4 3 J<|S4 4 J ?_;refine jq h (λj6=>St.of [(1,.L (Ls j1.Pv) a1),(2,.ptr 2 0 0),(4,.ptr 4 0 0),(5,.ptr 5 0 0),(8,.ptr 8 0 0),(10,.bool (v1.2.1.Kind==1))] [(8,vR (c8.Pv v1.2.1) 3),(5,vR (.agg [.I 0,.I 0,.I 0]) 3),(4,vR (.agg [.nl,.I 0,.I 0,.nl,.nl,.nl,.nl,.I 0]) 8),(2,vR (a8.Pv j6) 8)]) (λj6 h=>?_) λκ5 h=>?_
  ·refine dr [] u5 (by kernel_rfl) (by kernel_rfl) ?_
   refine S7 4 J<|w8 h λv7 hv6 h=>d2f J (B0 J a9F J hv6) J<|w8 h λv8 hv7 h=>d2f J (B0 J a7Y J hv7) J<|S7 3 J<|P0 (x':=a8.Pv v8.1) (cl':=true) J J (.inr J) n9<|U7<|g7<|S4 1 J ?_;refine cN h (λhc h=>?_) λhc h=>?_
   ·refine S3 1 J ?_;refine cF h a6r J J λv9 _ h=>S2 4 J<|S5 1 J<|cF h a2v J J λv10 _ h=>S2 1 J<|dr [1,1008] u5 (by kernel_rfl) (by kernel_rfl)<|S7 1 J<|d7 J (λ_ hN=>b7p (cs:=c8.Pc v1.2.1) hN J J J J a0E D9 nl J) J<|P0 (x':=a8.Pv v10) (cl':=true) J J (.inr J) n9<|P0 (x':=c8.Pv v1.2.1) (cl':=true) J J (.inl J) D9<|S8 1 J<|b8 ?_
    cases h;exact⟨J,[_,_,_],⟨oL J J J p5 n9 nl J,⟨oL J J J a0E D9 nl J,⟨J,tr⟩⟩⟩,J,io⟩
   ·refine b9 ?_;refine dr [1,1008] u5 (by kernel_rfl) (by kernel_rfl)<|S7 1 J<|d7 J (λ_ hN=>b7p (cs:=c8.Pc v1.2.1) hN J J J J a0E D9 nl J) J<|P0 (x':=a8.Pv v8.1) (cl':=true) J J (.inr J) n9<|P0 (x':=c8.Pv v1.2.1) (cl':=true) J J (.inl J) D9<|S8 1 J<|b8 ?_
    cases h;exact⟨J,[_,_,_],⟨oL J J J p5 n9 nl J,⟨oL J J J a0E D9 nl J,⟨J,tr⟩⟩⟩,J,io⟩
  ·refine S4 1 J ?_;refine cN h (λhc h=>?_) λhc h=>?_
   ·refine S3 3 J ?_;refine cF h a6r J J λv11 _ h=>S2 4 J<|S5 3 J<|cF h W1 J J λv12 _ h=>cF h a2v J J λv13 _ h=>S2 1 J ?_;exact eJ h W
   ·refine b9 ?_;exact eJ h W

theorem H8{a0 a1 a2}:PO Tryz.prog 56 [a8.Pv a0,.L (Ls j1.Pv) a1,.I a2] (G6 a0 a1 a2) λr=>.tup [a8.Pv r.1,.I r.2.1,.I r.2.2.1,.I r.2.2.2]:=by
 refine pO Tryz.func56 λr h _ _=>?_;refine S4 6 J<|S4 2 J ?_;refine jq h (λq=>St.of [(3,.ptr 2004 0 0),(5,.ptr 2003 0 0),(6,.ptr 2002 0 0),(10,.ptr 2001 0 0)] [(2001,vR (.I q.1) 1),(2002,vR (.agg [.nl,.I 0,.I 0,.nl,.nl,.nl,.nl,.I 0]) 8),(2003,vR (.I q.2.1) 1),(2004,vR (a8.Pv q.2.2) 8)]) (λq17 h=>?_) λκ13 h=>?_
 ·obtain⟨j14,j15,j16⟩:=q17;refine g7<|S3 1 J<|cA h Z8 J J λv18 _ h=>S2 1 J ?_;refine cN h (λhc h=>?_) λhc h=>?_
  ·refine dr [1,2,3001,3003] u5 (by kernel_rfl) (by kernel_rfl) ?_
   refine S7 1 J<|d7 J (λ_ hN=>b3w hN J J J J p7 J) J<|d7 J (λ_ hN=>b3w hN J J J J p7 J) J<|P0 (x':=a8.Pv j16) (cl':=true) J J (.inr J) n9<|S8 3 J<|b8 ?_;cases h;exact⟨J,[_,_,_,_],⟨oL J J J p5 n9 nl J,⟨J,⟨J,⟨J,tr⟩⟩⟩⟩,J,io⟩
  ·refine b9 ?_;refine dr [1,2,3001,3003] u5 (by kernel_rfl) (by kernel_rfl)<|S7 1 J<|d7 J (λ_ hN=>b3w hN J J J J p7 J) J<|d7 J (λ_ hN=>b3w hN J J J J p7 J) J<|P0 (x':=a8.Pv j16) (cl':=true) J J (.inr J) n9<|S8 3 J<|b8 ?_
   cases h;exact⟨J,[_,_,_,_],⟨oL J J J p5 n9 nl J,⟨J,⟨J,⟨J,tr⟩⟩⟩⟩,J,io⟩
 ·refine S3 3 J ?_;refine L2 (WPE (λl=>if l=2008 then 10 else if l=2009 then 6 else if l=2010 then 5 else if l=2011 then 3 else l) [(3,.ptr 2011 0 0),(5,.ptr 2010 0 0),(6,.ptr 2009 0 0),(10,.ptr 2008 0 0),(13,a8.Pv a0),(14,.L (Ls j1.Pv) a1),(15,.I a2)] [(2008,vR (.I 0) 1),(2009,vR (.agg [.nl,.I 0,.I 0,.nl,.nl,.nl,.nl,.I 0]) 8),(2010,vR (.I a2) 1),(2011,vR (a8.Pv a0) 8)]) ?_
  refine b6F (fn:=Tryz.f120) (N1:=8) J J Tryz.func120 J c6z J J nl (λe19 o20=>?_);refine S4 4 J<|S4 2 J<|b8 ?_;refine⟨J,[.fn (.func 193) [.ptr 3 0 0,.ptr 4 0 0,.ptr 5 0 0]],⟨J,tr⟩,?_⟩;refine L2 (WPE (λl=>if l=2012 then 5 else if l=2013 then 4 else if l=2014 then 3 else l) [(3,.ptr 2011 0 0),(5,.ptr 2010 0 0),(6,.ptr 2009 0 0),(10,.ptr 2008 0 0),(16,.fn (.func 193) [.ptr 2014 0 0,.ptr 2013 0 0,.ptr 2012 0 0])] [(2012,vR (.I a2) 1),(2013,vR (.L (Ls j1.Pv) a1) 1),(2014,vR (a8.Pv a0) 8),(2008,vR (.I 0) 1),(2009,vR (.agg [.nl,.I 0,.I 0,.nl,.nl,.nl,.nl,.I 0]) 8),(2010,vR (.I a2) 1),(2011,vR (a8.Pv a0) 8)])<|yN<|g6<|a2Y (WE [(3,.ptr 2011 0 0),(5,.ptr 2010 0 0),(6,.ptr 2009 0 0),(10,.ptr 2008 0 0),(16,.fn (.func 193) [.ptr 2014 0 0,.ptr 2013 0 0,.ptr 2012 0 0])] [(2012,vR (.I a2) 1),(2013,vR (.L (Ls j1.Pv) a1) 1),(2014,vR (a8.Pv a0) 8),(2008,vR (.I 0) 1),(2009,vR (.agg [.nl,.I 0,.I 0,.nl,.nl,.nl,.nl,.I 0]) 8),(2010,vR (.I a2) 1),(2011,vR (a8.Pv a0) 8)]) ?_
  refine a0h (fn:=Tryz.f193) (N1:=40) J Tryz.func193 J J nl J c6B J J (λl21 e22 o23 hR24=>?_);refine g6<|lq h (λq=>St.of [(1000003,.ptr 2011 0 0),(1000005,.ptr 2010 0 0),(1000006,.ptr 2009 0 0),(1000010,.ptr 2008 0 0),(1000016,.fn (.func 193) [.ptr 2014 0 0,.ptr 2013 0 0,.ptr 2012 0 0]),(0,.fn (.yield l21) []),(1,.ptr 2014 0 0),(2,.ptr 2013 0 0),(3,.ptr 2012 0 0)] [(2012,vR (.I q.1) 1),(2013,vR (.L (Ls j1.Pv) a1) 1),(2014,vR (a8.Pv q.2.1) 8),(2008,vR (.I q.2.2.1) 1),(2009,vR (.agg [.nl,.I 0,.I 0,.nl,.nl,.nl,.nl,.I 0]) 8),(2010,vR (.I q.2.2.2.1) 1),(2011,vR (a8.Pv q.2.2.2.2) 8)]) W λq26 x25 h hx27=>?_;obtain⟨s20,s21,s22,s23,s24⟩:=q26;refine g7<|S3 1 J<|cA h Z8 J J λv27 _ h=>S2 1 J ?_;refine cN h (λhc h=>?_) λhc h=>?_
  ·refine b9 ?_;refine g6<|S3 2 J<|cF h a6W J J λv28 _ h=>S2 9 J<|S3 2 J<|cA h a5e J J λv29 _ h=>S2 1 J<|g7<|S4 3 J ?_;refine cN h (λhc h=>?_) λhc h=>?_
   ·refine b8 ?_;refine .inl ⟨J,?_⟩;have h:=xL hx27 h;exact eJ h (WP (λl=>if l=2004 then 2011 else if l=2003 then 2010 else if l=2002 then 2009 else if l=2001 then 2008 else l))
   ·refine b9 ?_;refine S3 2 J<|cF h a0O J J λv30 _ h=>S2 5 J<|S4 4 J<|S3 3 J<|L2 (WE [(1000003,.ptr 2011 0 0),(1000005,.ptr 2010 0 0),(1000006,.ptr 2009 0 0),(1000010,.ptr 2008 0 0),(1000016,.fn (.func 193) [.ptr 2014 0 0,.ptr 2013 0 0,.ptr 2012 0 0]),(0,.fn (.yield l21) []),(1,.ptr 2014 0 0),(2,.ptr 2013 0 0),(3,.ptr 2012 0 0),(35,.fn (.yield l21) []),(36,a8.Pv v30.1),(37,.I (u9 (s20-v29)))] [(2012,vR (.I (u9 (s20-v29))) 1),(2013,vR (.L (Ls j1.Pv) a1) 1),(2014,vR (a8.Pv v30.1) 8),(2008,vR (.I s22) 1),(2009,vR (.agg [.nl,.I 0,.I 0,.nl,.nl,.nl,.nl,.I 0]) 8),(2010,vR (.I s23) 1),(2011,vR (a8.Pv s24) 8)]) ?_;refine a3L hR24 J J J J J J (λe32 o33 o34=>?_);refine S4 2 J<|S6 1 J ?_;refine⟨J,?_⟩;refine g6<|S4 4 J<|S6 3 J ?_;refine⟨J,?_⟩;refine L2 (WE [(1000003,.ptr 2011 0 0),(1000005,.ptr 2010 0 0),(1000006,.ptr 2009 0 0),(1000010,.ptr 2008 0 0),(1000016,.fn (.func 193) [.ptr 2014 0 0,.ptr 2013 0 0,.ptr 2012 0 0]),(0,.fn (.yield l21) []),(1,.ptr 2014 0 0),(2,.ptr 2013 0 0),(3,.ptr 2012 0 0),(38,.bool true)] [(2012,vR (.I (u9 (s20-v29))) 1),(2013,vR (.L (Ls j1.Pv) a1) 1),(2014,vR (a8.Pv v30.1) 8),(2008,vR (.I (u9 (s22+1))) 1),(2009,vR (.agg [.nl,.I 0,.I 0,.nl,.nl,.nl,.nl,.I 0]) 8),(2010,vR (.I (u9 (s20-v29))) 1),(2011,vR (a8.Pv v30.1) 8)])<|S2 1 J ?_;refine G9 false J (λq=>nomatch q) (λ_=>?_);refine b9 ?_;exact eL h W
  ·refine m7 ?_;refine c4<|c4<|j4 ?_;refine .inl ⟨J,?_⟩;have h:=xL hx27 h;exact eJ h (WP (λl=>if l=2004 then 2011 else if l=2003 then 2010 else if l=2002 then 2009 else if l=2001 then 2008 else l))

theorem b5d:PO Tryz.prog 271 [] (a42) λr=>.lst true (List.map B9.Pv r):=by
 refine pO Tryz.func271 λr h _ _=>?_;unfold a42 at h;refine S4 1 J<|sR<|y0 J (s7 (cs:=[.fn (.func 338) []]) J b3n b0B J J J)<|L2 (a3x 1 (d':=.agg [fvE (some 338)]) J)<|y0 J (s7 (cs:=[.fn (.func 339) []]) J b3n b0B J J J)<|L2 (a3x 2 (d':=.agg [fvE (some 339)]) J)<|y0 J (s7 (cs:=[.fn (.func 340) []]) J b3n b0B J J J)<|L2 (a3x 3 (d':=.agg [fvE (some 340)]) J)<|y0 J (s7 (cs:=[.fn (.func 341) []]) J b3n b0B J J J)<|L2 (a3x 4 (d':=.agg [fvE (some 341)]) J)<|y0 J (N9 (f:=B9.Pv) (l:=[(⟨(some 338)⟩:B9),(⟨(some 339)⟩:B9),(⟨(some 340)⟩:B9),(⟨(some 341)⟩:B9)]) J b6M c1w b0B J J nl J J)<|S2 1 J<|b8 ?_;cases h;exact f1

theorem a4o{a0 a1}:PO Tryz.prog 338 [a7.Pv a0,b7.Pv a1] (W5 a0 a1) λr=>.bool r:=by
 refine pO Tryz.func338 λr h _ _=>?_;unfold W5 at h;refine S4 3 J<|S3 4 J<|c5 J (λhg=>oF J a5o J)<|c5 J (λhg=>oS (ct hg) J J p7 J)<|c5 J (λhg=>l5 (ct hg) J J)<|y0 J (m8 J J J (λq=>J2 q))<|S2 1 J<|b8 ?_;cases h;exact f1

theorem a1q{a0 a1}:PO Tryz.prog 339 [a7.Pv a0,b7.Pv a1] (L9 a0 a1) λr=>.bool r:=by
 refine pO Tryz.func339 λr h _ _=>?_;unfold L9 at h;refine S4 3 J<|S3 4 J<|c5 J (λhg=>oF J c2A J)<|c5 J (λhg=>oS (ct hg) J J p7 J)<|c5 J (λhg=>oF J b3W J)<|c5 J (λhg=>oF (ct hg) b3V J)<|c5 J (λhg=>oS (ct hg) J J p7 J)<|c5 J (λhg=>l5 (ct hg) (ct hg) J)<|y0 J (m8 J J J (λq=>J2 q))<|S2 1 J<|b8 ?_;cases h;exact f1

theorem a0o{a0}:PO Tryz.prog 342 [b7.Pv a0] (I6 a0) λr=>.bool r:=by
 refine pO Tryz.func342 λr h _ _=>?_;unfold I6 at h;refine S4 2 J<|S3 4 J<|c5 J (λhg=>oF J a5o J)<|c5 J (λhg=>oS (ct hg) J J p7 J)<|c5 J (λhg=>l5 (ct hg) J J)<|y0 J (o9 J J J (λq=>I8 q))<|S2 1 J<|b8 ?_;cases h;exact f1

theorem a3v{a0 a1}:PO Tryz.prog 340 [a7.Pv a0,b7.Pv a1] (U1 a0 a1) λr=>.bool r:=by
 refine pO Tryz.func340 λr h _ _=>?_;refine S4 3 J<|S4 4 J<|S3 1 J<|cA h a0o J J λv1 _ h=>S1 2 J<|c5 J (λhg=>oF J b5Z J)<|c5 J (λhg=>oS (ct hg) J J p7 J)<|c5 J (λhg=>l5 (ct hg) J J)<|c5 J (λhg=>om (d:=.bool (decide (a1.Val.Serial≥1))) (ct hg))<|c5 (r9 J J J) (λhg=>oF J b5Z J)<|c5 (r9 J J J) (λhg=>oS (ct hg) J J p7 J)<|c5 (r9 J J J) (λhg=>oF J b3X J)<|c5 (r9 J J J) (λhg=>oS (ct hg) J J p7 J)<|c5 (r9 J J J) (λhg=>l5 (ct hg) (ct hg) J)<|c5 J (λhg=>m8 (ct hg) J J (λq=>a2a hg (J2 q)))<|c5 J (λhg=>om (d:=.bool ((decide (a1.Val.Serial≥1))&&(decide (a1.Val.Serial≤a0.Serial)))) (ct hg))<|c5 (r9 J J J) (λhg=>oF J b50 J)<|c5 (r9 J J J) (λhg=>oS (ct hg) J J p7 J)<|c5 (r9 J J J) (λhg=>l5 (ct hg) J J)<|c5 J (λhg=>m8 (ct hg) J J (λq=>a2a hg (J2 q)))<|c5 J (λhg=>om (d:=.bool (((decide (a1.Val.Serial≥1))&&(decide (a1.Val.Serial≤a0.Serial)))&&(decide (a1.Val.Strong≥0)))) (ct hg))<|c5 (r9 J J J) (λhg=>oF J b1Y J)<|c5 (r9 J J J) (λhg=>oS (ct hg) J J p7 J)<|c5 (r9 J J J) (λhg=>l5 (ct hg) J J)<|c5 J (λhg=>m8 (ct hg) J J (λq=>a2a hg (J2 q)))<|c5 J (λhg=>om (d:=.bool ((((decide (a1.Val.Serial≥1))&&(decide (a1.Val.Serial≤a0.Serial)))&&(decide (a1.Val.Strong≥0)))&&(decide (a1.Val.Weak≥0)))) (ct hg))<|c5 (r9 J J J) (λhg=>oF J c2z J)<|c5 (r9 J J J) (λhg=>oS (ct hg) J J p7 J)<|w8 h λv2 hv2 h=>c5 (r9 J J J) (λhg=>z8 J a28 (u6 (ct hg) J) (y7 hv2 hg))<|c5 J (λhg=>m8 (ct hg) J J (λq=>a2a hg (J2 q)))<|c5 J (λhg=>om (d:=.bool (((((decide (a1.Val.Serial≥1))&&(decide (a1.Val.Serial≤a0.Serial)))&&(decide (a1.Val.Strong≥0)))&&(decide (a1.Val.Weak≥0)))&&v2)) (ct hg))<|c5 (r9 J J J) (λhg=>oF J b10 J)<|c5 (r9 J J J) (λhg=>oS (ct hg) J J U9 J)<|c5 (r9 J J J) (λhg=>J7 (f:=iF) (ct hg) j8)<|c5 (r9 J J J) (λhg=>l5 (ct hg) J J)<|c5 J (λhg=>m8 (ct hg) J J (λq=>a2a hg (J2 q)))<|y0 J (o9 J J J (λq=>I8 q))<|S2 1 J<|b8 ?_;cases h;exact f1

theorem a1X{a0 a1}:PO Tryz.prog 341 [a7.Pv a0,b7.Pv a1] (N5 a0 a1) λr=>.bool r:=by
 refine pO Tryz.func341 λr h _ _=>?_;refine S4 3 J<|S4 4 J<|S3 8 J<|y0 J (s7 (cs:=[.I a1.Val.Serial,.I a1.Val.Strong,.I a1.Val.Weak,.I a1.Val.Prog]) J c1t c1B J J J)<|S2 2 J<|S3 1 J<|cA h a0o J J λv1 _ h=>S1 1 J<|c5 J (λhg=>oL J J J c6q c6X nl J)<|c5 J (λhg=>s7 (cs:=[.I 0,.I 0,.I 0,.I 0]) J c1t c1B J J J)<|c5 J (λhg=>c1X (xs:=[.I a1.Val.Serial,.I a1.Val.Strong,.I a1.Val.Weak,.I a1.Val.Prog]) (ys:=[.I 0,.I 0,.I 0,.I 0]) c6V (ct hg) (ct hg) J)<|c5 J (λhg=>om (d:=.bool ((a1.Val.Serial==0)&&((a1.Val.Strong==0)&&((a1.Val.Weak==0)&&((a1.Val.Prog==0)&&true))))) (ct hg))<|c5 (r9 J J J) (λhg=>oF J b1Z J)<|c5 (r9 J J J) (λhg=>oS (ct hg) J J a3U J)<|c5 (r9 J J J) (λhg=>P5 (ct hg) J)<|c5 J (λhg=>m8 (ct hg) J J (λq=>a2a hg (J2 q)))<|c5 J (λhg=>om (d:=.bool (((a1.Val.Serial==0)&&((a1.Val.Strong==0)&&((a1.Val.Weak==0)&&((a1.Val.Prog==0)&&true))))&&(!a1.Val.Started))) (ct hg))<|c5 (r9 J J J) (λhg=>oF J b10 J)<|c5 (r9 J J J) (λhg=>oS (ct hg) J J U9 J)<|c5 (r9 J J J) (λhg=>J7 (f:=iF) (ct hg) j8)<|c5 (r9 J J J) (λhg=>l5 (ct hg) J J)<|c5 J (λhg=>m8 (ct hg) J J (λq=>a2a hg (J2 q)))<|y0 J (o9 J J J (λq=>I8 q))<|S2 1 J<|b8 ?_;cases h;exact f1

theorem c0p{f:Fv}{a0:a7}{a1:b7}{r:Bool}(h:b3t f a0 a1=some r):∃n,f=some n∧A6 Tryz.prog n∧T0 Tryz.prog n [a7.Pv a0,b7.Pv a1] (.bool r):=by
 unfold b3t at h;by_cases e338:f=some 338
 ·rw[if_pos e338] at h;exact⟨338,e338,(@a4o a0 a1).1,(@a4o a0 a1).2 _ h⟩
 rw[if_neg e338] at h;by_cases e339:f=some 339
 ·rw[if_pos e339] at h;exact⟨339,e339,(@a1q a0 a1).1,(@a1q a0 a1).2 _ h⟩
 rw[if_neg e339] at h;by_cases e340:f=some 340
 ·rw[if_pos e340] at h;exact⟨340,e340,(@a3v a0 a1).1,(@a3v a0 a1).2 _ h⟩
 rw[if_neg e340] at h;by_cases e341:f=some 341
 ·rw[if_pos e341] at h;exact⟨341,e341,(@a1X a0 a1).1,(@a1X a0 a1).2 _ h⟩
 rw[if_neg e341] at h;cases h

end Go.Proofs.YtlkcpapbolbjnaaGreat.Ok
