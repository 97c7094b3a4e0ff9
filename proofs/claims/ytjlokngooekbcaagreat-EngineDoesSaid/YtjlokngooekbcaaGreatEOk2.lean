/- A part. -/
import Derived.Test.YtjlokngooekbcaaGreatEOk1
set_option linter.unusedVariables false
set_option linter.unusedSimpArgs false
set_option linter.unusedSectionVars false
namespace Go.Proofs.YtjlokngooekbcaaGreat.Ok
open Go Go.Pw Go.Sh Go.Proofs Tryz
set_option maxRecDepth 100000
set_option maxHeartbeats 4000000
theorem yu{a0}:PO prog 57 [.L iF a0] (X7 a0) λr=>.tup [k8.Pv r.1,.I r.2]:=by
 refine pO func57 λr h _ _=>?_;refine S4 2 J<|c7<|S3 1 J<|nL J g5<|S2 1 J ?_;refine cN h (λhc h=>?_) λhc h=>?_
 .refine sR ?_;refine y0 J (p9 (cs:=[.I 0,.I 0,.I 0,.I 0]) J xt sJ J J J)<|S2 2 J<|a8 ?_;cases h;exact⟨J,[_,_],⟨oL J J J xr gv nl J,⟨J,tr⟩⟩,J,io⟩
 .refine b8 ?_;refine dr [] p8 (by kernel_rfl) (by kernel_rfl)<|S7 1 J<|s7 h λv1 hv1 h=>d0 J (u7 (f:=iF) (cs:=[.I v1]) hv1 J J g5 m7 J J) J<|S7 2 J<|s7 h λv2 hv2 h=>d0 J (u7 (f:=iF) (cs:=[.I v2]) hv2 J J g5 m7 J J) J<|S7 2 J<|s7 h λv3 hv3 h=>d0 J (u7 (f:=iF) (cs:=[.I v3]) hv3 J J g5 m7 J J) J<|S7 2 J<|s7 h λv4 hv4 h=>d0 J (u7 (f:=iF) (cs:=[.I v4]) hv4 J J g5 m7 J J) J<|S7 1 J<|d7 J (λ_ hN=>p9 (cs:=[.I v1,.I v2,.I v3,.I v4]) J xt sJ J J J) J<|S7 1 J<|B6 (x':=.agg [.I v1,.I v2,.I v3,.I v4]) (cl':=true) J J (.inl J) gv<|G6<|c7<|S3 1 J<|cA h kf J J λv5 _ h=>S2 1 J<|S4 2 J ?_;refine cN h (λhc h=>?_) λhc h=>?_
  .refine sR ?_;refine y0 J (p9 (cs:=[.I 0,.I 0,.I 0,.I 0]) J xt sJ J J J)<|S2 3 J<|a8 ?_;cases h;exact⟨J,[_,_],⟨oL J J J xr gv nl J,⟨J,tr⟩⟩,J,io⟩
  .refine b8 ?_;refine S4 3 J<|a8 ?_;cases h;exact⟨J,[_,_],⟨oL J J J xr gv nl J,⟨J,tr⟩⟩,J,io⟩
theorem xe{a0}:PO prog 58 [k8.Pv a0] (mr a0) λr=>Zc rC r:=by
 refine pO func58 λr h _ _=>?_;refine S4 2 J<|c7<|S4 2 J<|c8<|S4 2 J ?_;refine cN h (λhc h=>?_) λhc h=>?_
 .refine sR ?_;refine y0 J (p9 (cs:=[]) J Su Ld J J J)<|y0 J (JE (n:=rC) (T:=136) (xs:=[]) J KZ J)<|S2 1 J<|a8 ?_;cases h;exact f1
 .refine S4 2 J ?_;refine cN h (λhc h=>?_) λhc h=>?_
  .refine S3 2 J ?_;refine y0 J (p9 (cs:=[.I a0.A]) J Sw Le J J J)<|y0 J (JE (n:=rC) (T:=140) (xs:=[a0.A]) J La J)<|S2 1 J<|a8 ?_;cases h;exact f1
  .refine b8 ?_;refine S3 1 J<|y0 J (p9 (cs:=[.I a0.Kind,.I a0.A,.I a0.B,.I a0.C]) J Ss Lc J J J)<|y0 J (JE (n:=rC) (T:=132) (xs:=[a0.Kind,a0.A,a0.B,a0.C]) J KY J)<|S2 1 J<|a8 ?_;cases h;exact f1
theorem vC:PO prog 102 [] (fv) λr=>.abs (Z0 (List.map (iq iF tg) r)):=by
 refine pO func102 λr h _ _=>?_;unfold fv at h;refine S4 1 J<|sR<|IF (KT:=Int) (VT:=Fv) (EK:=iF) (E:=tg) 5000001 J J<|kE (es:=[]) (k:=1) (v:=(some 151)) (E:=tg) (EK:=iF) (.inr J) J J J J J J aH (C3 N3)<|kE (es:=(u9 [] 1 (some 151))) (k:=2) (v:=(some 152)) (E:=tg) (EK:=iF) (.inr J) J J J J J J aH (C3 N3)<|kE (es:=(u9 (u9 [] 1 (some 151)) 2 (some 152))) (k:=3) (v:=(some 153)) (E:=tg) (EK:=iF) (.inr J) J J J J J J aH (C3 N3)<|kE (es:=(u9 (u9 (u9 [] 1 (some 151)) 2 (some 152)) 3 (some 153))) (k:=4) (v:=(some 154)) (E:=tg) (EK:=iF) (.inr J) J J J J J J aH (C3 N3)<|kE (es:=(u9 (u9 (u9 (u9 [] 1 (some 151)) 2 (some 152)) 3 (some 153)) 4 (some 154))) (k:=5) (v:=(some 155)) (E:=tg) (EK:=iF) (.inr J) J J J J J J aH (C3 N3)<|kE (es:=(u9 (u9 (u9 (u9 (u9 [] 1 (some 151)) 2 (some 152)) 3 (some 153)) 4 (some 154)) 5 (some 155))) (k:=6) (v:=(some 156)) (E:=tg) (EK:=iF) (.inr J) J J J J J J aH (C3 N3)<|kE (es:=(u9 (u9 (u9 (u9 (u9 (u9 [] 1 (some 151)) 2 (some 152)) 3 (some 153)) 4 (some 154)) 5 (some 155)) 6 (some 156))) (k:=7) (v:=(some 157)) (E:=tg) (EK:=iF) (.inr J) J J J J J J aH (C3 N3)<|kE (es:=(u9 (u9 (u9 (u9 (u9 (u9 (u9 [] 1 (some 151)) 2 (some 152)) 3 (some 153)) 4 (some 154)) 5 (some 155)) 6 (some 156)) 7 (some 157))) (k:=8) (v:=(some 158)) (E:=tg) (EK:=iF) (.inr J) J J J J J J aH (C3 N3)<|kE (es:=(u9 (u9 (u9 (u9 (u9 (u9 (u9 (u9 [] 1 (some 151)) 2 (some 152)) 3 (some 153)) 4 (some 154)) 5 (some 155)) 6 (some 156)) 7 (some 157)) 8 (some 158))) (k:=9) (v:=(some 159)) (E:=tg) (EK:=iF) (.inr J) J J J J J J aH (C3 N3)<|kE (es:=(u9 (u9 (u9 (u9 (u9 (u9 (u9 (u9 (u9 [] 1 (some 151)) 2 (some 152)) 3 (some 153)) 4 (some 154)) 5 (some 155)) 6 (some 156)) 7 (some 157)) 8 (some 158)) 9 (some 159))) (k:=10) (v:=(some 160)) (E:=tg) (EK:=iF) (.inr J) J J J J J J aH (C3 N3)<|S2 2 J<|fL (KB 0 5000001 J J)<|a8 ?_;cases h;exact f1
theorem Kw{a0}:PO prog 297 [.I a0] (FM a0) λr=>.tup [.L iF r.1,.I r.2]:=by
 refine pO func297 λr h _ _=>?_;refine S4 2 J<|c7<|S3 3 J<|g8 J (λhg=>mI J)<|g8 J (λhg=>r9 (ct hg) J J)<|y0 J (y5 J J J (λq=>P1 q))<|yN ?_;refine cN h (λhc h=>?_) λhc h=>?_
 .refine S4 2 J ?_;refine a8 ?_;cases h;exact f2
 .refine b8 ?_;refine S3 1 J<|s7 h λv1 hv1 h=>y1 J (Hh (f:=iF) hv1 J J J g5 m7 A0 F9 J J J) J<|S2 2 J<|a8 ?_;cases h;exact f2
theorem pA{a0}:PO prog 298 [.I a0] (T9 a0) λr=>.bool r:=by
 refine pO func298 λr h _ _=>?_;unfold T9 at h;refine S4 1 J<|S3 3 J<|g8 J (λhg=>mI J)<|g8 J (λhg=>r9 (ct hg) J J)<|y0 J (w8 J J J (λq=>V0 q))<|S2 1 J<|a8 ?_;cases h;exact f1
theorem nr{a0}:PO prog 342 [g6.Pv a0] (P8 a0) λr=>.fn (.func 361) [.rptr (g6.Pc r)]:=by
 refine pO func342 λr h _ _=>?_;unfold P8 at h;refine S4 2 J<|S4 2 J<|a8 ?_;cases h;exact f1
theorem O1{a0}:VU prog 348 [.L c4.Pv a0] (A8 a0) λr=>⟨List.map c4.Pv r,0,true,8,true⟩:=by
 refine Zs func348 λr h _ _=>?_;unfold A8 at h;refine S4 1 J<|c7<|S3 1 J<|FW J O8 λb hb=>yN ?_;refine K0 b J (λhc=>?_) (λhc=>?_)
 .obtain rfl:a0 = []:=by simpa using hb hc
  refine S4 1 J<|fL (D7 (t:=2) (l:=920000) (z:=8) J J)<|a8 ?_;cases h;exact⟨J,_,_,J,J,J,J⟩
 .refine b8 ?_;refine sR<|y0 J (A9 J O8 R7)<|S1 1 J<|y1 J (iE (f:=c4.Pv) h J J (.inl ⟨_,J,J⟩) O8 R7 KJ pK J (λ_=>J)) J<|S2 1 J<|a8 ?_;exact⟨J,_,_,J,J,J,J⟩
theorem K4{a0 a1 a2}:PO prog 312 [g6.Pv a0,.I a1,c4.Pv a2] (E3 a0 a1 a2) λr=>g6.Pv r:=by
 refine pO func312 λr h _ _=>?_;unfold E3 at h;refine S4 3 J<|S3 2 J<|s7 h λv1 hv1 h=>YG J (CC J O1 J hv1) J J<|S2 2 J<|S3 4 J<|s7 h λv2 hv2 h=>y0 J (aN (f:=c4.Pv) hv2 J J J J O8 R7 J)<|iZ (f:=c4.Pv) (v:=a2) hv2 J J (.inr J) R7<|yN<|S4 2 J<|a8 ?_;cases h;exact⟨J,[_],⟨oL J J J fQ dg nl J,tr⟩,J,io⟩
theorem oJ{a0 a1}:PO prog 122 [.I a0,.I a1] (cQ a0 a1) λr=>.I r:=by
 refine pO func122 λr h _ _=>?_;refine S4 1 J<|c7<|S3 3 J<|g8 J (λhg=>mI J)<|g8 J (λhg=>r9 (ct hg) J J)<|y0 J (y5 J J J (λq=>P1 q))<|S1 1 J<|g8 J (λhg=>mI J)<|g8 J (λhg=>r9 (ct hg) J J)<|y0 J (y5 J J J (λq=>P1 q))<|S1 1 J<|g8 J (λhg=>mI J)<|g8 J (λhg=>r9 (ct hg) J J)<|y0 J (y5 J J J (λq=>P1 q))<|yN ?_;refine cN h (λhc h=>?_) λhc h=>?_
 .refine S4 1 J ?_;refine a8 ?_;cases h;exact f1
 .refine b8 ?_;refine S4 7 J<|a8 ?_;cases h;exact f1
theorem nq{a0 a1}:PO prog 299 [g6.Pv a0,n7.Pv a1] (K7 a0 a1) λr=>.tup [g6.Pv r.1,.I r.2.1,.I r.2.2]:=by
 refine pO func299 λr h _ _=>?_;refine S4 5 J ?_;refine jq h (λ_=>St.of [(2,.ptr 2005 0 0),(4,.ptr 2003 0 0),(5,.ptr 2002 0 0),(6,.ptr 2001 0 0)] [(2001,vR (.I 0) 1),(2002,vR (.I 0) 1),(2003,vR (.agg [.nl,.I 0]) 2),(2005,vR (g6.Pv a0) 2)]) (λq10 h=>?_) λκ9 h=>?_
 .refine S4 4 J ?_;refine a8 ?_;cases h;exact⟨J,[_,_,_],⟨oL J J J fQ dg nl J,⟨oS J J J x6 J,⟨oS J J J rB J,tr⟩⟩⟩,J,io⟩
 .refine S3 1 J ?_;refine cF h nr J J λv11 _ h=>yN<|c8<|fL (yq (λl=>if l=2006 then 6 else if l=2007 then 5 else if l=2008 then 4 else if l=2009 then 3 else if l=2010 then 2 else l) [(2,.ptr 2010 0 0),(3,.ptr 2009 0 0),(4,.ptr 2008 0 0),(5,.ptr 2007 0 0),(6,.ptr 2006 0 0),(10,.fn (.func 361) [.rptr (g6.Pc v11)])] [(2006,vR (.I 0) 1),(2007,vR (.I 0) 1),(2008,vR (.agg [.nl,.I 0]) 2),(2009,vR (n7.Pv a1) 6),(2010,vR (g6.Pv a0) 2)]) ?_;refine dI (fn:=Tryz.f361) (N1:=23) J func361 J J nl J So J J (λl19 e20 o21 hR22=>?_);refine S3 2 J<|nL J O8<|S2 1 J<|c8<|lq h (λs13=>St.of [(1000002,.ptr 2010 0 0),(1000003,.ptr 2009 0 0),(1000004,.ptr 2008 0 0),(1000005,.ptr 2007 0 0),(1000006,.ptr 2006 0 0),(1000010,.fn (.func 361) [.rptr (g6.Pc v11)]),(0,.fn (.yield l19) []),(6,.L c4.Pv v11.Cells),(7,.I (v11.Cells.length:Int)),(8,.I s13)] [(2006,vR (.I 0) 1),(2007,vR (.I 0) 1),(2008,vR (.agg [.nl,.I 0]) 2),(2009,vR (n7.Pv a1) 6),(2010,vR (g6.Pv a0) 2)]) W λs13 x14 h hx25=>S4 1 J<|c7 ?_;refine cN h (λhc h=>?_) λhc h=>?_
  .refine b8 ?_;refine c7<|c8<|S3 1 J<|iL h J J O8 R7 λv15 _ h=>S2 4 J<|S3 4 J<|g8 J (λhg=>om (d:=.fn (.yield l19) []) J)<|g8 J (λhg=>mI J) ?_;rcases za6 ((v15.State==0)==true) with hg27 | hg27
   .have h:=WV h hg27;refine U9 (WE [(1000002,.ptr 2010 0 0),(1000003,.ptr 2009 0 0),(1000004,.ptr 2008 0 0),(1000005,.ptr 2007 0 0),(1000006,.ptr 2006 0 0),(1000010,.fn (.func 361) [.rptr (g6.Pc v11)]),(0,.fn (.yield l19) []),(6,.L c4.Pv v11.Cells),(7,.I (v11.Cells.length:Int)),(8,.I s13),(16,.bool (v15.State==0)),(17,.fn (.yield l19) []),(18,.I s13)] [(2006,vR (.I 0) 1),(2007,vR (.I 0) 1),(2008,vR (.agg [.nl,.I 0]) 2),(2009,vR (n7.Pv a1) 6),(2010,vR (g6.Pv a0) 2)]) ?_;refine nD hR22 (zaj some hg27) J J J J J (λe28 o29 o30=>?_);refine S6 1 J ?_;refine⟨J,?_⟩;refine c8<|S3 3 J<|iL h J J O8 R7 λv16 _ h=>S2 3 J<|S3 4 J<|y0 J (p9 (cs:=[.I 1,.I v16.Gen,.I a1.Serial,.I a1.Strong,.I a1.Weak,.I a1.Prog,.bool a1.Started,.L iF a1.Fields]) J xu pK J J J)<|cF h K4 J J λv17 _ h=>S1 2 J<|cA h oJ J J λv18 _ h=>S2 3 J<|a8 ?_;refine⟨J,?_⟩;refine U9 (WE [(1000002,.ptr 2010 0 0),(1000003,.ptr 2009 0 0),(1000004,.ptr 2008 0 0),(1000005,.ptr 2007 0 0),(1000006,.ptr 2006 0 0),(1000010,.fn (.func 361) [.rptr (g6.Pc v11)]),(0,.fn (.yield l19) []),(6,.L c4.Pv v11.Cells),(7,.I (v11.Cells.length:Int)),(8,.I s13),(16,.bool (v15.State==0)),(19,.bool false)] [(2006,vR (.I 0) 1),(2007,vR (.I v18) 1),(2008,vR (g6.Pv v17) 2),(2009,vR (n7.Pv a1) 6),(2010,vR (g6.Pv a0) 2)])<|y0 (zaj some hg27) (Z4 J J)<|y0 J (mQ J J hg27)<|yN ?_;refine K0 true J (λ_=>?_) (λq=>nomatch q);refine a8 ?_;refine .inr ⟨.ret,J,TC ?_⟩;have h:=xL hx25 h;cases h;exact⟨J,[_,_,_],⟨oL J J J fQ dg nl J,⟨oS J J J x6 J,⟨oS J J J rB J,tr⟩⟩⟩,J,io⟩
   .have h:=WU h hg27;refine dX (zaj some hg27)<|dX (zaj some hg27)<|y0 J (pZ J J hg27)<|yN ?_;refine K0 false J (λq=>nomatch q) (λ_=>?_);refine b8<|S6 2 J ?_;exact eL h W
  .refine n9 ?_;refine b9<|b9<|j5 ?_;refine .inl ⟨J,?_⟩;have h:=xL hx25 h;exact eJ h (WP (λl=>if l=2005 then 2010 else if l=2003 then 2008 else if l=2002 then 2007 else if l=2001 then 2006 else l))
theorem BK{a0 a1 a2}:PO prog 240 [a7.Pv a0,.I a1,.I a2] (U8 a0 a1 a2) λr=>.tup [a7.Pv r.1,.I r.2.1,.I r.2.2]:=by
 refine pO func240 λr h _ _=>?_;refine S4 4 J<|S3 1 J<|cF h Kw J J λv1 _ h=>S2 5 J<|c7<|S4 2 J ?_;refine cN h (λhc h=>?_) λhc h=>?_
 .refine S4 5 J ?_;refine a8 ?_;cases h;exact⟨J,[_,_,_],⟨oL J J J lZ mf nl J,⟨J,⟨J,tr⟩⟩⟩,J,io⟩
 .refine b8 ?_;refine c7<|S3 1 J<|cA h pA J J λv2 _ h=>S2 1 J ?_;refine cN h (λhc h=>?_) λhc h=>?_
  .refine S4 4 J ?_;refine a8 ?_;cases h;exact⟨J,[_,_,_],⟨oL J J J lZ mf nl J,⟨J,⟨J,tr⟩⟩⟩,J,io⟩
  .refine b8 ?_;refine S3 7 J<|y0 J (p9 (cs:=[.I (A1 (a0.Serial+1)),.I 0,.I 0,.I a2,.bool false,.L iF v1.1]) J Sx SP J J J)<|cF h nq J J λv3 _ h=>S2 8 J<|c7<|S4 2 J ?_;refine cN h (λhc h=>?_) λhc h=>?_
   .refine S4 5 J ?_;refine a8 ?_;cases h;exact⟨J,[_,_,_],⟨oL J J J lZ mf nl J,⟨J,⟨J,tr⟩⟩⟩,J,io⟩
   .refine b8 ?_;refine S3 4 J<|y0 J (p9 (cs:=[.L c4.Pv v3.1.Cells,.I v3.1.Last,.I (A1 (a0.Serial+1))]) J Ov OD J J J)<|S2 4 J<|a8 ?_;cases h;exact⟨J,[_,_,_],⟨oL J J J lZ mf nl J,⟨J,⟨J,tr⟩⟩⟩,J,io⟩
theorem nM{a0}:PO prog 353 [.I a0] (dx a0) λr=>.tup [.I r.1,.I r.2.1,.bool r.2.2]:=by
 refine pO func353 λr h _ _=>?_;refine S4 3 J<|c7<|S4 2 J ?_;refine cN h (λhc h=>?_) λhc h=>?_
 .refine S4 3 J ?_;refine a8 ?_;cases h;exact f3
 .refine b8 ?_;refine S3 2 J<|s7 h λv1 hv1 h=>y0 J (kZ J J hv1)<|s7 h λv2 hv2 h=>y0 J (kZ J J hv2)<|S1 2 J<|s7 h λv3 hv3 h=>y0 J (kZ J J hv3)<|S2 2 J<|c7<|S3 3 J<|g8 J (λhg=>mI J)<|g8 J (λhg=>r9 (ct hg) J J)<|y0 J (y5 J J J (λq=>P1 q))<|yN ?_;refine cN h (λhc h=>?_) λhc h=>?_
  .refine S4 3 J ?_;refine a8 ?_;cases h;exact f3
  .refine b8 ?_;refine S4 5 J<|a8 ?_;cases h;exact f3
theorem oK{a0}:PO prog 323 [.I a0] (fF a0) λr=>.I r:=by
 refine pO func323 λr h _ _=>?_;refine S4 1 J<|S3 1 J<|cA h nM J J λv1 _ h=>S2 7 J<|S4 2 J<|a8 ?_;cases h;exact f1
theorem rj{a0}:PO prog 324 [.I a0] (iw a0) λr=>.I r:=by
 refine pO func324 λr h _ _=>?_;refine S4 1 J<|S3 1 J<|cA h nM J J λv1 _ h=>S2 7 J<|S4 2 J<|a8 ?_;cases h;exact f1
theorem K3{a0 a1}:PO prog 288 [g6.Pv a0,.I a1] (y8 a0 a1) λr=>.tup [.I r.1,.I r.2]:=by
 refine pO func288 λr h _ _=>?_;refine S4 3 J<|c7<|S4 2 J ?_;refine cN h (λhc h=>?_) λhc h=>?_
 .refine S4 2 J ?_;refine a8 ?_;cases h;exact f2
 .refine b8 ?_;refine S3 1 J<|cA h oK J J λv1 _ h=>S2 1 J<|c7<|S3 3 J<|g8 J (λhg=>mI J)<|g8 J (λhg=>oF J Ol J)<|g8 J (λhg=>oS (ct hg) J J VW J)<|g8 J (λhg=>N8 (f:=c4.Pv) (ct hg) O8)<|g8 J (λhg=>r9 (ct hg) (ct hg) J)<|y0 J (y5 J J J (λq=>P1 q))<|yN ?_;refine cN h (λhc h=>?_) λhc h=>?_
  .refine S4 2 J ?_;refine a8 ?_;cases h;exact f2
  .refine b8 ?_;refine S3 3 J<|iL h J J O8 R7 λv2 _ h=>S2 3 J<|c7<|dr [] p8 (by kernel_rfl) (by kernel_rfl)<|S7 3 J<|s7 h λv3 hv3 h=>d2 J (B7 J rj J hv3) J<|S7 2 J<|y7 J (λhg _ hN=>oF J BR J) J<|C0 J (λhg=>oS (ct hg) J J x6 J) J<|y7 J (λhg _ hN=>r9 (ct hg) J J) J<|y7 J (λhg _ hN=>om (d:=.bool (v2.State != 1)) (ct hg)) J<|y7 (D9 J J J) (λhg _ hN=>oF J BR J) J<|C0 (D9 J J J) (λhg=>oS (ct hg) J J x6 J) J<|y7 (D9 J J J) (λhg _ hN=>r9 (ct hg) J J) J<|y7 J (λhg _ hN=>w8 (ct hg) J J (λq=>sL hg (V0 q))) J<|d7 J (λ_ hN=>y5 J J J (λq=>P1 q)) J<|G6 ?_;refine cN h (λhc h=>?_) λhc h=>?_
   .refine S4 2 J ?_;refine a8 ?_;cases h;exact f2
   .refine b8 ?_;refine S4 3 J<|a8 ?_;cases h;exact f2
theorem ep{a0 a1}:PO prog 210 [g6.Pv a0,.I a1] (F0 a0 a1) λr=>.tup [n7.Pv r.1,.I r.2]:=by
 refine pO func210 λr h _ _=>?_;refine S4 3 J<|S4 1 J<|S3 2 J<|cA h K3 J J λv1 _ h=>S2 5 J<|c7<|S4 2 J ?_;refine cN h (λhc h=>?_) λhc h=>?_
 .refine S3 2 J ?_;refine ja (x':=.agg [.I 0,.I 0,.I 0,.I 0,.bool false,.nl]) (cl':=true) J J (.inl J) ji<|S2 1 J<|a8 ?_;cases h;exact⟨J,[_,_],⟨oL J J J sC ji nl J,⟨J,tr⟩⟩,J,io⟩
 .refine b8 ?_;refine c7<|S3 3 J<|iL h J J O8 R7 λv2 hv2 h=>S2 3 J ?_;refine cN h (λhc h=>?_) λhc h=>?_
  .refine S3 1 J ?_;refine ja (x':=.agg [.I 0,.I 0,.I 0,.I 0,.bool false,.nl]) (cl':=true) J J (.inl J) ji<|S2 1 J<|a8 ?_;cases h;exact⟨J,[_,_],⟨oL J J J sC ji nl J,⟨J,tr⟩⟩,J,io⟩
  .refine b8 ?_;refine S3 3 J<|y0 J (u7 (f:=c4.Pv) (cs:=c4.Pc v2) hv2 J J O8 R7 J J)<|S2 4 J<|a8 ?_;cases h;exact⟨J,[_,_],⟨oL J J J sC ji nl J,⟨J,tr⟩⟩,J,io⟩
theorem D5{a0 a1}:PO prog 126 [a7.Pv a0,.I a1] (A7 a0 a1) λr=>.tup [n7.Pv r.1,.I r.2]:=by
 refine pO func126 λr h _ _=>?_;refine S4 3 J<|S3 3 J<|cF h ep J J λv1 _ h=>S2 4 J<|a8 ?_;cases h;exact⟨J,[_,_],⟨oL J J J sC ji nl J,⟨J,tr⟩⟩,J,io⟩
theorem yT{a0 a1}:PO prog 344 [b7.Pv a0,.I a1] (jx a0 a1) λr=>.bool r:=by
 refine pO func344 λr h _ _=>?_;refine S4 2 J<|S3 3 J<|cF h D5 J J λv1 _ h=>S2 6 J<|S4 3 J<|a8 ?_;cases h;exact f1
theorem W1{a0 a1}:PO prog 301 [b7.Pv a0,.I a1] (M4 a0 a1) λr=>.bool r:=by
 refine pO func301 λr h _ _=>?_;unfold M4 at h;refine S4 2 J<|S3 3 J<|g8 J (λhg=>oL J J J y6 u4 nl J)<|g8 J (λhg=>mI J)<|s7 h λv1 hv1 h=>g8 J (λhg=>B7 J yT (A3 (ct hg) (A3 (ct hg) J)) (C8 hv1 hg))<|y0 J (y5 J J J (λq=>P1 q))<|S2 1 J<|a8 ?_;cases h;exact f1
theorem aJ{a0}:PO prog 349 [.I a0] (H8 a0) λr=>.bool r:=by
 refine pO func349 λr h _ _=>?_;unfold H8 at h;refine S4 1 J<|S4 3 J<|a8 ?_;cases h;exact f1
theorem sV{a0}:PO prog 315 [.I a0] (hZ a0) λr=>.tup [.I r.1,.I r.2]:=by
 refine pO func315 λr h _ _=>?_;refine S4 2 J<|c7<|S3 1 J<|cA h aJ J J λv1 _ h=>yN ?_;refine cN h (λhc h=>?_) λhc h=>?_
 .refine S4 2 J ?_;refine a8 ?_;cases h;exact f2
 .refine b8 ?_;refine S3 1 J<|y0 J (Qt J J J)<|S2 3 J<|a8 ?_;cases h;exact f2
theorem DD{a0}:PO prog 252 [.I a0] (pP a0) λr=>.I r:=by
 refine pO func252 λr h _ _=>?_;refine S4 1 J<|S3 1 J<|cA h sV J J λv1 _ h=>S2 5 J<|S4 2 J<|a8 ?_;cases h;exact f1
theorem od{a0 a1 a2}:PO prog 249 [g6.Pv a0,.I a1,n7.Pv a2] (L7 a0 a1 a2) λr=>.tup [g6.Pv r.1,.I r.2]:=by
 refine pO func249 λr h _ _=>?_;refine S4 4 J<|S3 2 J<|cA h K3 J J λv1 _ h=>S2 5 J<|c7<|S4 2 J ?_;refine cN h (λhc h=>?_) λhc h=>?_
 .refine S4 4 J ?_;refine a8 ?_;cases h;exact⟨J,[_,_],⟨oL J J J fQ dg nl J,⟨J,tr⟩⟩,J,io⟩
 .refine b8 ?_;refine S3 3 J<|iL h J J O8 R7 λv2 _ h=>S2 3 J<|S4 3 J<|S3 3 J<|cF h K4 J J λv3 _ h=>S2 2 J<|a8 ?_;cases h;exact⟨J,[_,_],⟨oL J J J fQ dg nl J,⟨J,tr⟩⟩,J,io⟩
theorem bA{a0 a1 a2}:PO prog 167 [a7.Pv a0,.I a1,n7.Pv a2] (L8 a0 a1 a2) λr=>.tup [a7.Pv r.1,.I r.2]:=by
 refine pO func167 λr h _ _=>?_;refine S4 4 J<|S4 1 J<|S3 4 J<|cF h od J J λv1 _ h=>S2 6 J<|S4 4 J<|a8 ?_;cases h;exact⟨J,[_,_],⟨oL J J J lZ mf nl J,⟨J,tr⟩⟩,J,io⟩
theorem iz{a0 a1}:PO prog 251 [b7.Pv a0,.I a1,.fn (.func 252) []] (W0 a0 a1) λr=>b7.Pv r:=by
 refine pO func251 λr h _ _=>?_;refine S4 2 J<|S3 3 J<|cF h D5 J J λv1 _ h=>S2 6 J<|c7<|S4 2 J ?_;refine cN h (λhc h=>?_) λhc h=>?_
 .refine S3 3 J ?_;refine cA h DD J J λv2 _ h=>S2 2 J<|S5 4 J<|cF h bA J J λv3 _ h=>S2 5 J<|S4 2 J<|a8 ?_;cases h;exact⟨J,[_],⟨oL J J J y6 u4 nl J,tr⟩,J,io⟩
 .refine b8 ?_;refine S4 2 J<|a8 ?_;cases h;exact⟨J,[_],⟨oL J J J y6 u4 nl J,tr⟩,J,io⟩
theorem dz{a0 a1}:PO prog 169 [b7.Pv a0,.I a1] (aL a0 a1) λr=>b7.Pv r:=by
 refine pO func169 λr h _ _=>?_;refine S4 2 J<|S3 2 J<|cF h iz J J λv1 _ h=>S2 1 J<|a8 ?_;cases h;exact⟨J,[_],⟨oL J J J y6 u4 nl J,tr⟩,J,io⟩
theorem kB{a0}:VU prog 359 [.L iF a0] (O0 a0) λr=>⟨List.map iF r,0,true,1,true⟩:=by
 refine Zs func359 λr h _ _=>?_;unfold O0 at h;refine S4 1 J<|c7<|S3 1 J<|FW J g5 λb hb=>yN ?_;refine K0 b J (λhc=>?_) (λhc=>?_)
 .obtain rfl:a0 = []:=by simpa using hb hc
  refine S4 1 J<|fL (D7 (t:=2) (l:=920000) (z:=1) J J)<|a8 ?_;cases h;exact⟨J,_,_,J,J,J,J⟩
 .refine b8 ?_;refine sR<|y0 J (A9 J g5 m7)<|S1 1 J<|y1 J (iE (f:=iF) h J J (.inl ⟨_,J,J⟩) g5 m7 F9 A0 J (λ_=>J)) J<|S2 1 J<|a8 ?_;exact⟨J,_,_,J,J,J,J⟩
theorem nY{a0 a1}:PO prog 332 [J5.Pv a0,b7.Pv a1] (R1 a0 a1) λr=>b7.Pv r:=by
 refine pO func332 λr h _ _=>?_;unfold R1 at h;refine S4 3 J<|S3 2 J<|s7 h λv1 hv1 h=>YG J (CC J kB J hv1) J J<|S2 2 J<|S3 6 J<|s7 h λv2 hv2 h=>y0 J (aN (f:=iF) hv2 J J J J g5 m7 J)<|iZ (f:=iF) (v:=a0.h) hv2 J J (.inl J) m7<|yN<|S4 2 J<|a8 ?_;cases h;exact⟨J,[_],⟨oL J J J y6 u4 nl J,tr⟩,J,io⟩
theorem qM{a0}:PO prog 325 [.I a0] (eE a0) λr=>.tup [.I r.1,.I r.2]:=by
 refine pO func325 λr h _ _=>?_;refine S4 2 J<|c7<|S3 1 J<|cA h aJ J J λv1 _ h=>yN ?_;refine cN h (λhc h=>?_) λhc h=>?_
 .refine S4 2 J ?_;refine a8 ?_;cases h;exact f2
 .refine b8 ?_;refine c7<|S4 2 J ?_;refine cN h (λhc h=>?_) λhc h=>?_
  .refine S4 2 J ?_;refine a8 ?_;cases h;exact f2
  .refine b8 ?_;refine S4 4 J<|a8 ?_;cases h;exact f2
theorem DC{a0}:PO prog 259 [.I a0] (vm a0) λr=>.tup [.I r.1,.I r.2]:=by
 refine pO func259 λr h _ _=>?_;refine S4 2 J<|S3 1 J<|cA h qM J J λv1 _ h=>S2 5 J<|S4 4 J<|a8 ?_;cases h;exact f2
theorem tA{a0}:PO prog 258 [.I a0] (dy a0) λr=>.I r:=by
 refine pO func258 λr h _ _=>?_;refine S4 1 J<|S3 1 J<|cA h DC J J λv1 _ h=>S2 5 J<|c7<|S4 2 J ?_;refine cN h (λhc h=>?_) λhc h=>?_
 .refine S4 2 J ?_;refine a8 ?_;cases h;exact f1
 .refine b8 ?_;refine S4 2 J<|a8 ?_;cases h;exact f1
theorem dZ{a0 a1}:PO prog 251 [b7.Pv a0,.I a1,.fn (.func 258) []] (P2 a0 a1) λr=>b7.Pv r:=by
 refine pO func251 λr h _ _=>?_;refine S4 2 J<|S3 3 J<|cF h D5 J J λv1 _ h=>S2 6 J<|c7<|S4 2 J ?_;refine cN h (λhc h=>?_) λhc h=>?_
 .refine S3 3 J ?_;refine cA h tA J J λv2 _ h=>S2 2 J<|S5 4 J<|cF h bA J J λv3 _ h=>S2 5 J<|S4 2 J<|a8 ?_;cases h;exact⟨J,[_],⟨oL J J J y6 u4 nl J,tr⟩,J,io⟩
 .refine b8 ?_;refine S4 2 J<|a8 ?_;cases h;exact⟨J,[_],⟨oL J J J y6 u4 nl J,tr⟩,J,io⟩
theorem Z2{a0 a1}:PO prog 176 [b7.Pv a0,.I a1] (E2 a0 a1) λr=>b7.Pv r:=by
 refine pO func176 λr h _ _=>?_;refine S4 2 J<|S3 2 J<|cF h dZ J J λv1 _ h=>S2 1 J<|a8 ?_;cases h;exact⟨J,[_],⟨oL J J J y6 u4 nl J,tr⟩,J,io⟩
theorem cu{a0 a1 a2 a3}:PO prog 302 [b7.Pv a0,.I a1,.I a2,.abs (Vi 332 [J5.Pv a3])] (G8 a0 a1 a2 a3) λr=>b7.Pv r:=by
 refine pO func302 λr h _ _=>?_;refine S4 2 J<|S3 3 J<|cF h dz J J λv1 _ h=>s7 h λv2 hv2 h=>FV (xs:=[b7.Pv v1]) J J Sn J (nY.2 _ hv2)<|S1 1 J<|cF h Z2 J J λv3 _ h=>S2 1 J<|a8 ?_;cases h;exact⟨J,[_],⟨oL J J J y6 u4 nl J,tr⟩,J,io⟩
theorem mF{a0 a1 a2}:PO prog 263 [b7.Pv a0,.I a1,.I a2] (bl a0 a1 a2) λr=>.tup [b7.Pv r.1,.I r.2]:=by
 refine pO func263 λr h _ _=>?_;refine S4 3 J<|c7<|S3 3 J<|g8 J (λhg=>mI J)<|g8 J (λhg=>oF J yl J)<|g8 J (λhg=>oS (ct hg) J J fR J)<|g8 J (λhg=>N8 (f:=iF) (ct hg) g5)<|g8 J (λhg=>r9 (ct hg) (ct hg) J)<|y0 J (y5 J J J (λq=>P1 q))<|yN ?_;refine cN h (λhc h=>?_) λhc h=>?_
 .refine S4 3 J ?_;refine a8 ?_;cases h;exact⟨J,[_,_],⟨oL J J J y6 u4 nl J,⟨J,tr⟩⟩,J,io⟩
 .refine b8 ?_;refine c7<|S3 2 J<|cA h W1 J J λv1 _ h=>S2 1 J ?_;refine cN h (λhc h=>?_) λhc h=>?_
  .refine S4 3 J ?_;refine a8 ?_;cases h;exact⟨J,[_,_],⟨oL J J J y6 u4 nl J,⟨J,tr⟩⟩,J,io⟩
  .refine b8 ?_;refine dr [] p8 (by kernel_rfl) (by kernel_rfl)<|S7 4 J<|s7 h λv2 hv2 h=>d0 J (u7 (f:=iF) (cs:=[.I v2]) hv2 J J g5 m7 J J) J<|S7 4 J<|d7 J (λ_ hN=>p9 (cs:=[.I a1,.I a2]) J SG SY J J J) J<|d7 J (λ_ hN=>vH (d:=.agg [.I a1,.I a2]) J) J<|s7 h λv3 hv3 h=>ax J (x4 J cu J hv3) J<|B6 (x':=b7.Pv v3) (cl':=true) J J (.inr J) u4<|S8 1 J<|a8 ?_;cases h;exact⟨J,[_,_],⟨oL J J J y6 u4 nl J,⟨J,tr⟩⟩,J,io⟩
theorem I6{a0 a1 a2}:PO prog 241 [w7.Pv a0,.I a1,.I a2] (D4 a0 a1 a2) λr=>.tup [b7.Pv r.1,.I r.2]:=by
 refine pO func241 λr h _ _=>?_;refine S4 3 J<|c7<|S4 2 J ?_;refine cN h (λhc h=>?_) λhc h=>?_
 .refine S4 5 J ?_;refine a8 ?_;cases h;exact⟨J,[_,_],⟨oL J J J y6 u4 nl J,⟨J,tr⟩⟩,J,io⟩
 .refine b8 ?_;refine S3 6 J<|cF h mF J J λv1 _ h=>S2 4 J<|a8 ?_;cases h;exact⟨J,[_,_],⟨oL J J J y6 u4 nl J,⟨J,tr⟩⟩,J,io⟩
theorem dD{a0}:PO prog 151 [w7.Pv a0] (V1 a0) λr=>.tup [b7.Pv r.1,.I r.2]:=by
 refine pO func151 λr h _ _=>?_;refine S4 3 J<|S3 9 J<|cF h BK J J λv1 _ h=>S2 8 J<|c7<|S4 2 J ?_;refine cN h (λhc h=>?_) λhc h=>?_
 .refine S4 5 J ?_;refine a8 ?_;cases h;exact⟨J,[_,_],⟨oL J J J y6 u4 nl J,⟨J,tr⟩⟩,J,io⟩
 .refine b8 ?_;refine S4 4 J<|S3 2 J<|cF h I6 J J λv2 _ h=>S2 4 J<|a8 ?_;cases h;exact⟨J,[_,_],⟨oL J J J y6 u4 nl J,⟨J,tr⟩⟩,J,io⟩
theorem P3{a0 a1}:PO prog 164 [b7.Pv a0,.I a1] (M8 a0 a1) λr=>.I r:=by
 refine pO func164 λr h _ _=>?_;refine S4 2 J<|c7<|S3 3 J<|g8 J (λhg=>mI J)<|g8 J (λhg=>oF J yl J)<|g8 J (λhg=>oS (ct hg) J J fR J)<|g8 J (λhg=>N8 (f:=iF) (ct hg) g5)<|g8 J (λhg=>r9 (ct hg) (ct hg) J)<|y0 J (y5 J J J (λq=>P1 q))<|yN ?_;refine cN h (λhc h=>?_) λhc h=>?_
 .refine S4 1 J ?_;refine a8 ?_;cases h;exact f1
 .refine b8 ?_;refine S3 3 J<|iL h J J g5 m7 λv1 _ h=>S2 2 J<|a8 ?_;cases h;exact f1
theorem bF{a0}:PO prog 152 [w7.Pv a0] (J8 a0) λr=>.tup [b7.Pv r.1,.I r.2]:=by
 refine pO func152 λr h _ _=>?_;unfold J8 at h;refine S4 3 J<|dr [] p8 (by kernel_rfl) (by kernel_rfl)<|S7 6 J<|s7 h λv1 hv1 h=>d2 J (B7 J P3 J hv1) J<|s7 h λv2 hv2 h=>ax J (x4 J I6 J hv2) J<|S7 2 J<|B6 (x':=b7.Pv v2.1) (cl':=true) J J (.inr J) u4<|S8 1 J<|a8 ?_;cases h;exact⟨J,[_,_],⟨oL J J J y6 u4 nl J,⟨J,tr⟩⟩,J,io⟩
theorem fH{a0}:PO prog 153 [w7.Pv a0] (aB a0) λr=>.tup [b7.Pv r.1,.I r.2]:=by
 refine pO func153 λr h _ _=>?_;refine S4 3 J<|S3 1 J<|cF h I6 J J λv1 _ h=>S2 4 J<|a8 ?_;cases h;exact⟨J,[_,_],⟨oL J J J y6 u4 nl J,⟨J,tr⟩⟩,J,io⟩
theorem T4{a0 a1}:PO prog 242 [b7.Pv a0,.I a1] (N7 a0 a1) λr=>.tup [.I r.1,.I r.2]:=by
 refine pO func242 λr h _ _=>?_;refine S4 3 J<|S3 2 J<|cA h P3 J J λv1 _ h=>S2 1 J<|c7<|S4 2 J ?_;refine cN h (λhc h=>?_) λhc h=>?_
 .refine S4 2 J ?_;refine a8 ?_;cases h;exact f2
 .refine b8 ?_;refine S4 3 J<|a8 ?_;cases h;exact f2
theorem AZ{a0 a1}:PO prog 343 [.L iF a0,.I a1] (nA a0 a1) λr=>.bool r:=by
 refine pO func343 λr h _ _=>?_;unfold nA at h;refine S4 1 J<|S3 3 J<|g8 J (λhg=>mI J)<|g8 J (λhg=>om (d:=.L iF a0) J)<|g8 J (λhg=>N8 (f:=iF) (ct hg) g5)<|g8 J (λhg=>r9 (ct hg) (ct hg) J)<|y0 J (w8 J J J (λq=>V0 q))<|S2 1 J<|a8 ?_;cases h;exact f1
theorem Od{a0 a1}:PO prog 300 [.L iF a0,.I a1] (wj a0 a1) λr=>.tup [.I r.1,.I r.2]:=by
 refine pO func300 λr h _ _=>?_;refine S4 2 J<|c7<|S3 2 J<|cA h AZ J J λv1 _ h=>S2 1 J ?_;refine cN h (λhc h=>?_) λhc h=>?_
 .refine S4 2 J ?_;refine a8 ?_;cases h;exact f2
 .refine b8 ?_;refine S3 2 J<|iL h J J g5 m7 λv2 _ h=>S2 3 J<|a8 ?_;cases h;exact f2
theorem pz{a0 a1 a2}:PO prog 243 [a7.Pv a0,.I a1,.I a2] (aZ a0 a1 a2) λr=>.tup [.I r.1,.I r.2]:=by
 refine pO func243 λr h _ _=>?_;refine S4 3 J<|S3 2 J<|cF h D5 J J λv1 _ h=>S2 6 J<|c7<|S4 2 J ?_;refine cN h (λhc h=>?_) λhc h=>?_
 .refine S4 3 J ?_;refine a8 ?_;cases h;exact f2
 .refine b8 ?_;refine S3 3 J<|cA h Od J J λv2 _ h=>S2 4 J<|a8 ?_;cases h;exact f2
theorem fI{a0}:PO prog 154 [w7.Pv a0] (aC a0) λr=>.tup [b7.Pv r.1,.I r.2]:=by
 refine pO func154 λr h _ _=>?_;refine S4 3 J<|S3 5 J<|cA h T4 J J λv1 _ h=>S2 5 J<|c7<|S4 2 J ?_;refine cN h (λhc h=>?_) λhc h=>?_
 .refine S4 5 J ?_;refine a8 ?_;cases h;exact⟨J,[_,_],⟨oL J J J y6 u4 nl J,⟨J,tr⟩⟩,J,io⟩
 .refine b8 ?_;refine dr [] p8 (by kernel_rfl) (by kernel_rfl)<|S7 8 J<|s7 h λv2 hv2 h=>d2 J (B7 J pz J hv2) J<|S7 2 J<|s7 h λv3 hv3 h=>ax J (x4 J I6 J hv3) J<|S7 2 J<|B6 (x':=b7.Pv v3.1) (cl':=true) J J (.inr J) u4<|S8 1 J<|a8 ?_;cases h;exact⟨J,[_,_],⟨oL J J J y6 u4 nl J,⟨J,tr⟩⟩,J,io⟩
theorem Ix{a0 a1 a2}:PO prog 362 [.L iF a0,.I a1,.I a2] (AY a0 a1 a2) λr=>.tup [.L iF r.1,.I r.2]:=by
 refine pO func362 λr h _ _=>?_;refine S4 2 J<|c7<|S3 2 J<|cA h AZ J J λv1 _ h=>S2 1 J ?_;refine cN h (λhc h=>?_) λhc h=>?_
 .refine S4 3 J ?_;refine a8 ?_;cases h;exact f2
 .refine b8 ?_;refine S3 1 J<|nL J g5<|s7 h λv2 hv2 h=>y1 J (Hh (f:=iF) hv2 J J J g5 m7 A0 F9 J J J) J<|S2 1 J<|S3 2 J<|s7 h λv3 hv3 h=>ZT (f:=iF) hv3 J J J (.inl ⟨_,J,J⟩) g5 m7 (λ_=>J) (by decide)<|yN<|S3 3 J<|s7 h λv4 hv4 h=>y0 J (aN (f:=iF) hv4 J J J J g5 m7 J)<|iZ (f:=iF) (v:=a2) hv4 J J (.inl J) m7<|yN<|S4 3 J<|a8 ?_;cases h;exact f2
theorem FE{a0 a1 a2 a3}:PO prog 345 [a7.Pv a0,.I a1,.I a2,.I a3] (qB a0 a1 a2 a3) λr=>.tup [a7.Pv r.1,.I r.2]:=by
 refine pO func345 λr h _ _=>?_;refine S4 3 J<|S3 2 J<|cF h D5 J J λv1 _ h=>S2 6 J<|c7<|S4 2 J ?_;refine cN h (λhc h=>?_) λhc h=>?_
 .refine S4 4 J ?_;refine a8 ?_;cases h;exact⟨J,[_,_],⟨oL J J J lZ mf nl J,⟨J,tr⟩⟩,J,io⟩
 .refine b8 ?_;refine c7<|S3 4 J<|cF h Ix J J λv2 _ h=>S2 6 J<|S4 2 J ?_;refine cN h (λhc h=>?_) λhc h=>?_
  .refine S4 4 J ?_;refine a8 ?_;cases h;exact⟨J,[_,_],⟨oL J J J lZ mf nl J,⟨J,tr⟩⟩,J,io⟩
  .refine b8 ?_;refine S3 3 J<|cF h bA J J λv3 _ h=>S2 4 J<|a8 ?_;cases h;exact⟨J,[_,_],⟨oL J J J lZ mf nl J,⟨J,tr⟩⟩,J,io⟩
theorem mG{a0 a1}:PO prog 303 [I3.Pv a0,b7.Pv a1] (bH a0 a1) λr=>b7.Pv r:=by
 refine pO func303 λr h _ _=>?_;refine S4 3 J<|S3 8 J<|cF h FE J J λv1 _ h=>S2 5 J<|S4 2 J<|a8 ?_;cases h;exact⟨J,[_],⟨oL J J J y6 u4 nl J,tr⟩,J,io⟩
theorem bT{a0 a1 a2 a3}:PO prog 302 [b7.Pv a0,.I a1,.I a2,.abs (Vi 303 [I3.Pv a3])] (J6 a0 a1 a2 a3) λr=>b7.Pv r:=by
 refine pO func302 λr h _ _=>?_;refine S4 2 J<|S3 3 J<|cF h dz J J λv1 _ h=>s7 h λv2 hv2 h=>FV (xs:=[b7.Pv v1]) J J Si J (mG.2 _ hv2)<|S1 1 J<|cF h Z2 J J λv3 _ h=>S2 1 J<|a8 ?_;cases h;exact⟨J,[_],⟨oL J J J y6 u4 nl J,tr⟩,J,io⟩
theorem Bz{a0 a1 a2 a3}:PO prog 244 [b7.Pv a0,.I a1,.I a2,.I a3] (eH a0 a1 a2 a3) λr=>.tup [b7.Pv r.1,.I r.2]:=by
 refine pO func244 λr h _ _=>?_;refine S4 3 J<|S3 4 J<|cA h pz J J λv1 _ h=>S2 5 J<|c7<|S4 2 J ?_;refine cN h (λhc h=>?_) λhc h=>?_
 .refine S4 4 J ?_;refine a8 ?_;cases h;exact⟨J,[_,_],⟨oL J J J y6 u4 nl J,⟨J,tr⟩⟩,J,io⟩
 .refine b8 ?_;refine c7<|S3 2 J<|cA h W1 J J λv2 _ h=>S2 1 J ?_;refine cN h (λhc h=>?_) λhc h=>?_
  .refine S4 3 J ?_;refine a8 ?_;cases h;exact⟨J,[_,_],⟨oL J J J y6 u4 nl J,⟨J,tr⟩⟩,J,io⟩
  .refine b8 ?_;refine S3 6 J<|y0 J (p9 (cs:=[.I a1,.I a2,.I a3]) J SD SV J J J)<|y0 J (vH (d:=.agg [.I a1,.I a2,.I a3]) J)<|cF h bT J J λv3 _ h=>S2 2 J<|a8 ?_;cases h;exact⟨J,[_,_],⟨oL J J J y6 u4 nl J,⟨J,tr⟩⟩,J,io⟩
theorem en{a0}:PO prog 155 [w7.Pv a0] (Y5 a0) λr=>.tup [b7.Pv r.1,.I r.2]:=by
 refine pO func155 λr h _ _=>?_;refine S4 3 J<|S3 5 J<|cA h T4 J J λv1 _ h=>S2 5 J<|c7<|S4 2 J ?_;refine cN h (λhc h=>?_) λhc h=>?_
 .refine S4 5 J ?_;refine a8 ?_;cases h;exact⟨J,[_,_],⟨oL J J J y6 u4 nl J,⟨J,tr⟩⟩,J,io⟩
 .refine b8 ?_;refine dr [] p8 (by kernel_rfl) (by kernel_rfl)<|S7 11 J<|s7 h λv2 hv2 h=>d2 J (B7 J P3 J hv2) J<|s7 h λv3 hv3 h=>ax J (x4 J Bz J hv3) J<|S7 2 J<|B6 (x':=b7.Pv v3.1) (cl':=true) J J (.inr J) u4<|S8 1 J<|a8 ?_;cases h;exact⟨J,[_,_],⟨oL J J J y6 u4 nl J,⟨J,tr⟩⟩,J,io⟩
theorem Kr{a0 a1}:PO prog 346 [g7.Pv a0,.I a1] (xY a0 a1) λr=>.fn (.func 363) [.rptr (g7.Pc r.1),.rptr [.I r.2]]:=by
 refine pO func346 λr h _ _=>?_;unfold xY at h;refine S4 3 J<|S4 2 J<|a8 ?_;cases h;exact f1
theorem BL{a0 a1}:PO prog 304 [g7.Pv a0,.I a1] (iV a0 a1) λr=>.bool r:=by
 refine pO func304 λr h _ _=>?_;refine S4 3 J ?_;refine jq h (λ_=>St.of [(4,.ptr 2001 0 0)] [(2001,vR (.bool false) 1)]) (λq7 h=>?_) λκ6 h=>?_
 .refine S4 1 J ?_;refine a8 ?_;cases h;exact⟨J,[_],⟨oS J J J kI J,tr⟩,J,io⟩
 .refine S3 1 J ?_;refine cF h Kr J J λv8 _ h=>yN<|c8<|fL (yq (λl=>if l=2003 then 4 else if l=2004 then 3 else l) [(3,.ptr 2004 0 0),(4,.ptr 2003 0 0),(7,.fn (.func 363) [.rptr (g7.Pc v8.1),.rptr [.I v8.2]])] [(2003,vR (.bool false) 1),(2004,vR (.I a1) 1)]) ?_;refine dI (fn:=Tryz.f363) (N1:=24) J func363 J J nl J Sp J J (λl16 e17 o18 hR19=>?_);refine S3 2 J<|nL J gY<|S2 1 J<|c8<|lq h (λs10=>St.of [(1000003,.ptr 2004 0 0),(1000004,.ptr 2003 0 0),(1000007,.fn (.func 363) [.rptr (g7.Pc v8.1),.rptr [.I v8.2]]),(0,.fn (.yield l16) []),(2,.rptr [.I v8.2]),(7,.L l5.Pv v8.1.L),(8,.I (v8.1.L.length:Int)),(9,.I s10)] [(2003,vR (.bool false) 1),(2004,vR (.I a1) 1)]) W λs10 x11 h hx22=>S4 1 J<|c7 ?_;refine cN h (λhc h=>?_) λhc h=>?_
  .refine b8 ?_;refine c7<|c8<|sR<|iL h J J gY M0 λv12 _ h=>S2 3 J<|S3 5 J<|g8 J (λhg=>om (d:=.fn (.yield l16) []) J)<|g8 J (λhg=>oL J J J db M0 nl J) ?_;rcases za6 ((v12.Kind==v8.2)==true) with hg24 | hg24
   .have h:=WV h hg24;refine U9 (WE [(1000003,.ptr 2004 0 0),(1000004,.ptr 2003 0 0),(1000007,.fn (.func 363) [.rptr (g7.Pc v8.1),.rptr [.I v8.2]]),(0,.fn (.yield l16) []),(2,.rptr [.I v8.2]),(7,.L l5.Pv v8.1.L),(8,.I (v8.1.L.length:Int)),(9,.I s10),(17,.bool (v12.Kind==v8.2)),(18,.fn (.yield l16) []),(19,l5.Pv v12)] [(2003,vR (.bool false) 1),(2004,vR (.I a1) 1)]) ?_;refine nD hR19 (zaj some hg24) J J J J J (λe25 o26 o27=>?_);refine S6 2 J ?_;refine⟨J,?_⟩;refine c8<|S4 4 J ?_;refine cN h (λhc h=>?_) λhc h=>?_
    .refine S4 1 J ?_;refine a8 ?_;refine⟨J,?_⟩;refine U9 (WE [(1000003,.ptr 2004 0 0),(1000004,.ptr 2003 0 0),(1000007,.fn (.func 363) [.rptr (g7.Pc v8.1),.rptr [.I v8.2]]),(0,.fn (.yield l16) []),(2,.rptr [.I v8.2]),(7,.L l5.Pv v8.1.L),(8,.I (v8.1.L.length:Int)),(9,.I s10),(17,.bool (v12.Kind==v8.2)),(20,.bool false)] [(2003,vR (.bool true) 1),(2004,vR (.I a1) 1)])<|y0 (zaj some hg24) (Z4 J J)<|y0 J (mQ J J hg24)<|yN ?_;refine K0 true J (λ_=>?_) (λq=>nomatch q);refine a8 ?_;refine .inr ⟨.ret,J,TC ?_⟩;have h:=xL hx22 h;cases h;exact⟨J,[_],⟨oS J J J kI J,tr⟩,J,io⟩
    .refine b8 ?_;refine⟨J,?_⟩;refine U9 (WE [(1000003,.ptr 2004 0 0),(1000004,.ptr 2003 0 0),(1000007,.fn (.func 363) [.rptr (g7.Pc v8.1),.rptr [.I v8.2]]),(0,.fn (.yield l16) []),(2,.rptr [.I v8.2]),(7,.L l5.Pv v8.1.L),(8,.I (v8.1.L.length:Int)),(9,.I s10),(17,.bool (v12.Kind==v8.2)),(20,.bool true)] [(2003,vR (.bool false) 1),(2004,vR (.I a1) 1)])<|y0 (zaj some hg24) (Z4 J J)<|y0 J (mQ J J hg24)<|yN ?_;refine K0 false J (λq=>nomatch q) (λ_=>?_);refine b8<|S6 2 J ?_;exact eL h W
   .have h:=WU h hg24;refine dX (zaj some hg24)<|dX (zaj some hg24)<|y0 J (pZ J J hg24)<|yN ?_;refine K0 false J (λq=>nomatch q) (λ_=>?_);refine b8<|S6 2 J ?_;exact eL h W
  .refine n9 ?_;refine b9<|b9<|j5 ?_;refine .inl ⟨J,?_⟩;have h:=xL hx22 h;exact eJ h (WP (λl=>if l=2001 then 2003 else l))
theorem wZ{a0 a1}:PO prog 308 [.L g9.Pv a0,.I a1] (lW a0 a1) λr=>.bool r:=by
 refine pO func308 λr h _ _=>?_;unfold lW at h;refine S4 1 J<|S3 3 J<|g8 J (λhg=>mI J)<|g8 J (λhg=>om (d:=.L g9.Pv a0) J)<|g8 J (λhg=>N8 (f:=g9.Pv) (ct hg) U1)<|g8 J (λhg=>r9 (ct hg) (ct hg) J)<|y0 J (w8 J J J (λq=>V0 q))<|S2 1 J<|a8 ?_;cases h;exact f1
theorem nU{a0}:VU prog 319 [.L g9.Pv a0] (ba a0) λr=>⟨List.map g9.Pv r,0,true,3,true⟩:=by
 refine Zs func319 λr h _ _=>?_;unfold ba at h;refine S4 1 J<|S3 1 J<|nL J U1<|s7 h λv1 hv1 h=>y1 J (Hh (f:=g9.Pv) hv1 J J J U1 Y0 Dq KL J J J) J<|S2 1 J<|S3 2 J<|s7 h λv2 hv2 h=>ZT (f:=g9.Pv) hv2 J J J (.inl ⟨_,J,J⟩) U1 Y0 (λ_=>J) (by decide)<|yN<|S4 2 J<|a8 ?_;cases h;exact⟨J,_,_,J,J,J,J⟩
theorem ID{a0 a1 a2 a3}:PO prog 305 [.L g9.Pv a0,.I a1,.I a2,.I a3] (uY a0 a1 a2 a3) λr=>.tup [.L g9.Pv r.1,.I r.2.1,.I r.2.2]:=by
 refine pO func305 λr h _ _=>?_;refine S4 3 J<|c7<|S3 2 J<|cA h wZ J J λv1 _ h=>S2 1 J ?_;refine cN h (λhc h=>?_) λhc h=>?_
 .refine S4 4 J ?_;refine a8 ?_;cases h;exact f3
 .refine b8 ?_;refine S3 1 J<|s7 h λv2 hv2 h=>YG J (CC J nU J hv2) J J<|S2 1 J<|S3 6 J<|y0 J (p9 (cs:=[.I a2,.bool (a2 != 0),.I a3]) J Sz Dq J J J)<|s7 h λv3 hv3 h=>y0 J (aN (f:=g9.Pv) hv3 J J J J U1 Y0 J)<|iZ (f:=g9.Pv) (v:=(⟨a2,(a2 != 0),a3⟩:g9)) hv3 J J (.inl J) Y0<|yN<|dr [] p8 (by kernel_rfl) (by kernel_rfl)<|S7 3 J<|s7 h λv4 hv4 h=>d0 J (u7 (f:=g9.Pv) (cs:=g9.Pc v4) hv4 J J U1 Y0 J J) J<|S8 5 J<|a8 ?_;cases h;exact f3
theorem oP{a0 a1 a2}:PO prog 307 [b7.Pv a0,.I a1,.I a2] (cS a0 a1 a2) λr=>b7.Pv r:=by
 refine pO func307 λr h _ _=>?_;refine S4 2 J<|S3 4 J<|cA h K3 J J λv1 _ h=>S2 5 J<|c7<|S4 2 J ?_;refine cN h (λhc h=>?_) λhc h=>?_
 .refine S3 5 J ?_;refine iL h J J O8 R7 λv2 _ h=>S2 4 J<|S4 6 J<|S5 4 J<|cF h bA J J λv3 _ h=>S2 5 J<|S4 2 J<|a8 ?_;cases h;exact⟨J,[_],⟨oL J J J y6 u4 nl J,tr⟩,J,io⟩
 .refine b8 ?_;refine S4 2 J<|a8 ?_;cases h;exact⟨J,[_],⟨oL J J J y6 u4 nl J,tr⟩,J,io⟩
theorem dS{a0 a1}:PO prog 257 [g6.Pv a0,.I a1] (P7 a0 a1) λr=>.tup [g6.Pv r.1,.I r.2]:=by
 refine pO func257 λr h _ _=>?_;refine S4 3 J<|S3 2 J<|cA h K3 J J λv1 _ h=>S2 5 J<|c7<|S4 2 J ?_;refine cN h (λhc h=>?_) λhc h=>?_
 .refine S4 4 J ?_;refine a8 ?_;cases h;exact⟨J,[_,_],⟨oL J J J fQ dg nl J,⟨J,tr⟩⟩,J,io⟩
 .refine b8 ?_;refine S3 3 J<|iL h J J O8 R7 λv2 _ h=>S2 3 J<|c7<|S4 4 J ?_;refine cN h (λhc h=>?_) λhc h=>?_
  .refine S3 3 J ?_;refine y0 J (p9 (cs:=[.I 3,.I v2.Gen,.I 0,.I 0,.I 0,.I 0,.bool false,.nl]) J xu pK J J J)<|cF h K4 J J λv3 _ h=>S2 2 J<|a8 ?_;cases h;exact⟨J,[_,_],⟨oL J J J fQ dg nl J,⟨J,tr⟩⟩,J,io⟩
  .refine b8 ?_;refine S3 4 J<|y0 J (p9 (cs:=[.I 0,.I (A1 (v2.Gen+1)),.I 0,.I 0,.I 0,.I 0,.bool false,.nl]) J xu pK J J J)<|cF h K4 J J λv4 _ h=>S2 2 J<|a8 ?_;cases h;exact⟨J,[_,_],⟨oL J J J fQ dg nl J,⟨J,tr⟩⟩,J,io⟩
theorem vy{a0 a1}:PO prog 306 [b7.Pv a0,.I a1] (fu a0 a1) λr=>b7.Pv r:=by
 refine pO func306 λr h _ _=>?_;refine S4 2 J<|S3 2 J<|cF h oP J J λv1 _ h=>S2 1 J<|S3 4 J<|cA h K3 J J λv2 _ h=>S2 5 J<|c7<|S4 2 J ?_;refine cN h (λhc h=>?_) λhc h=>?_
 .refine S4 2 J ?_;refine a8 ?_;cases h;exact⟨J,[_],⟨oL J J J y6 u4 nl J,tr⟩,J,io⟩
 .refine b8 ?_;refine c7<|S3 5 J<|iL h J J O8 R7 λv3 _ h=>S2 3 J<|S3 4 J<|g8 J (λhg=>oF J MQ J)<|g8 J (λhg=>oF (ct hg) MO J)<|g8 J (λhg=>oS (ct hg) J J x6 J)<|g8 J (λhg=>r9 (ct hg) J J)<|y0 J (w8 J J J (λq=>V0 q))<|yN ?_;refine cN h (λhc h=>?_) λhc h=>?_
  .refine S5 4 J ?_;refine cF h dS J J λv4 _ h=>S2 6 J<|S4 2 J<|a8 ?_;cases h;exact⟨J,[_],⟨oL J J J y6 u4 nl J,tr⟩,J,io⟩
  .refine b8 ?_;refine S4 2 J<|a8 ?_;cases h;exact⟨J,[_],⟨oL J J J y6 u4 nl J,tr⟩,J,io⟩
theorem tB{a0 a1 a2 a3}:PO prog 245 [b7.Pv a0,.I a1,.I a2,.I a3] (bm a0 a1 a2 a3) λr=>.tup [b7.Pv r.1,.I r.2]:=by
 refine pO func245 λr h _ _=>?_;unfold bm at h;refine S4 3 J<|c7<|S3 3 J<|g8 J (λhg=>mI J)<|g8 J (λhg=>oF J Gk J)<|g8 J (λhg=>oS (ct hg) J J Oj J)<|g8 J (λhg=>N8 (f:=g9.Pv) (ct hg) U1)<|g8 J (λhg=>r9 (ct hg) (ct hg) J)<|y0 J (y5 J J J (λq=>P1 q))<|S1 1 J<|g8 J (λhg=>oF J Gl J)<|g8 J (λhg=>oL (ct hg) J J jZ dh nl J)<|g8 J (λhg=>mI J)<|s7 h λv1 hv1 h=>g8 J (λhg=>B7 J BL (A3 (ct hg) (A3 (ct hg) J)) (C8 hv1 hg))<|y0 J (y5 J J J (λq=>P1 q))<|yN ?_;refine cN h (λhc h=>?_) λhc h=>?_
 .refine S4 3 J ?_;refine a8 ?_;cases h;exact⟨J,[_,_],⟨oL J J J y6 u4 nl J,⟨J,tr⟩⟩,J,io⟩
 .refine b8 ?_;refine c7<|S3 2 J<|cA h W1 J J λv2 _ h=>S2 1 J ?_;refine cN h (λhc h=>?_) λhc h=>?_
  .refine S4 3 J ?_;refine a8 ?_;cases h;exact⟨J,[_,_],⟨oL J J J y6 u4 nl J,⟨J,tr⟩⟩,J,io⟩
  .refine b8 ?_;refine S3 5 J<|cF h ID J J λv3 _ h=>S2 7 J<|S4 3 J<|S3 2 J<|cF h oP J J λv4 _ h=>S1 1 J<|cF h vy J J λv5 _ h=>S2 2 J<|a8 ?_;cases h;exact⟨J,[_,_],⟨oL J J J y6 u4 nl J,⟨J,tr⟩⟩,J,io⟩
theorem dE{a0}:PO prog 156 [w7.Pv a0] (V2 a0) λr=>.tup [b7.Pv r.1,.I r.2]:=by
 refine pO func156 λr h _ _=>?_;refine S4 3 J<|c7<|S4 4 J ?_;refine cN h (λhc h=>?_) λhc h=>?_
 .refine S3 8 J ?_;refine cF h tB J J λv1 _ h=>S2 4 J<|a8 ?_;cases h;exact⟨J,[_,_],⟨oL J J J y6 u4 nl J,⟨J,tr⟩⟩,J,io⟩
 .refine b8 ?_;refine S3 5 J<|cA h T4 J J λv2 _ h=>S2 5 J<|c7<|S4 2 J ?_;refine cN h (λhc h=>?_) λhc h=>?_
  .refine S4 5 J ?_;refine a8 ?_;cases h;exact⟨J,[_,_],⟨oL J J J y6 u4 nl J,⟨J,tr⟩⟩,J,io⟩
  .refine b8 ?_;refine S3 9 J<|cF h tB J J λv3 _ h=>S2 4 J<|a8 ?_;cases h;exact⟨J,[_,_],⟨oL J J J y6 u4 nl J,⟨J,tr⟩⟩,J,io⟩
theorem FT{a0 a1}:PO prog 246 [.L g9.Pv a0,.I a1] (lV a0 a1) λr=>.tup [.I r.1,.I r.2]:=by
 refine pO func246 λr h _ _=>?_;refine S4 2 J<|c7<|S3 2 J<|cA h wZ J J λv1 _ h=>S2 1 J ?_;refine cN h (λhc h=>?_) λhc h=>?_
 .refine S4 2 J ?_;refine a8 ?_;cases h;exact f2
 .refine b8 ?_;refine c7<|S3 2 J<|iL h J J U1 Y0 λv2 hv2 h=>S1 4 J<|g8 J (λhg=>om (d:=.L g9.Pv a0) J)<|g8 J (λhg=>mI J)<|g8 J (λhg=>u7 (f:=g9.Pv) (cs:=g9.Pc v2) hv2 (ct hg) (ct hg) U1 Y0 J J)<|g8 J (λhg=>A2 (ct hg) MT J)<|g8 J (λhg=>D6 (ct hg) kI J)<|g8 J (λhg=>Z4 (ct hg) J)<|y0 J (y5 J J J (λq=>P1 q))<|yN ?_;refine cN h (λhc h=>?_) λhc h=>?_
  .refine S4 2 J ?_;refine a8 ?_;cases h;exact f2
  .refine b8 ?_;refine S3 2 J<|y0 J (u7 (f:=g9.Pv) (cs:=g9.Pc v2) hv2 J J U1 Y0 J J)<|S2 4 J<|a8 ?_;cases h;exact f2
theorem iC{a0}:PO prog 157 [w7.Pv a0] (Z3 a0) λr=>.tup [b7.Pv r.1,.I r.2]:=by
 refine pO func157 λr h _ _=>?_;unfold Z3 at h;refine S4 3 J<|dr [] p8 (by kernel_rfl) (by kernel_rfl)<|S7 7 J<|s7 h λv1 hv1 h=>d2 J (B7 J FT J hv1) J<|S7 2 J<|s7 h λv2 hv2 h=>ax J (x4 J I6 J hv2) J<|S7 2 J<|B6 (x':=b7.Pv v2.1) (cl':=true) J J (.inr J) u4<|S8 1 J<|a8 ?_;cases h;exact⟨J,[_,_],⟨oL J J J y6 u4 nl J,⟨J,tr⟩⟩,J,io⟩
theorem tv{a0 a1}:PO prog 351 [.I a0,.I a1] (gL a0 a1) λr=>.fn (.func 364) [.rptr [.I r.1],.rptr [.I r.2]]:=by
 refine pO func351 λr h _ _=>?_;unfold gL at h;refine S4 3 J<|S4 2 J<|a8 ?_;cases h;exact f1
theorem tq{a0 a1}:PO prog 365 [.I a0,.I a1] (bk a0 a1) λr=>.I r:=by
 refine pO func365 λr h _ _=>?_;refine S4 1 J<|c7<|S4 2 J ?_;refine cN h (λhc h=>?_) λhc h=>?_
 .refine S4 1 J ?_;refine a8 ?_;cases h;exact f1
 .refine b8 ?_;refine S3 4 J<|s7 h λv1 hv1 h=>y0 J (kZ J J hv1)<|S2 1 J<|c7<|S4 2 J ?_;refine cN h (λhc h=>?_) λhc h=>?_
  .refine S6 4 J ?_;refine S4 2 J<|a8 ?_;cases h;exact f1
  .refine b8 ?_;refine S4 2 J<|a8 ?_;cases h;exact f1
theorem mC{a0 a1}:PO prog 321 [.L c9.Pv a0,.I a1] (aa a0 a1) λr=>.I r:=by
 refine pO func321 λr h _ _=>?_;refine S4 3 J ?_;refine jq h (λ_=>St.of [(4,.ptr 2001 0 0)] [(2001,vR (.I 0) 1)]) (λq9 h=>?_) λκ8 h=>?_
 .refine S4 1 J ?_;refine a8 ?_;cases h;exact⟨J,[_],⟨oS J J J x6 J,tr⟩,J,io⟩
 .refine S3 1 J ?_;refine nL J al<|S1 1 J<|cF h tv J J λv10 _ h=>yN<|c8<|fL (yq (λl=>if l=2004 then 4 else if l=2005 then 3 else if l=2006 then 2 else l) [(2,.ptr 2006 0 0),(3,.ptr 2005 0 0),(4,.ptr 2004 0 0),(9,.fn (.func 364) [.rptr [.I v10.1],.rptr [.I v10.2]])] [(2004,vR (.I 0) 1),(2005,vR (.I a1) 1),(2006,vR (.L c9.Pv a0) 1)]) ?_;refine dI (fn:=Tryz.f364) (N1:=20) J func364 J J nl J KQ J J (λl17 e18 o19 hR20=>?_);refine S4 2 J<|c8<|lq h (λs12=>St.of [(1000002,.ptr 2006 0 0),(1000003,.ptr 2005 0 0),(1000004,.ptr 2004 0 0),(1000009,.fn (.func 364) [.rptr [.I v10.1],.rptr [.I v10.2]]),(0,.fn (.yield l17) []),(1,.rptr [.I v10.1]),(2,.rptr [.I v10.2]),(5,.I v10.1),(6,.I s12)] [(2004,vR (.I 0) 1),(2005,vR (.I a1) 1),(2006,vR (.L c9.Pv a0) 1)]) W λs12 x13 h hx23=>S4 1 J<|c7 ?_;refine cN h (λhc h=>?_) λhc h=>?_
  .refine b8 ?_;refine c7<|c8<|S4 2 J<|drY [] 8 p8 (by kernel_rfl) (by kernel_rfl) (by kernel_rfl) (by kernel_rfl) nl<|S7 3 J<|s7 h λv14 hv24 h=>d2 J (B7 J tq J hv24) J<|S7 3 J<|s7 h λv15 hv25 h=>d7 J (λ_ hN=>kZ J J hv25) J<|G6<|QG (WE [(1000002,.ptr 2006 0 0),(1000003,.ptr 2005 0 0),(1000004,.ptr 2004 0 0),(1000009,.fn (.func 364) [.rptr [.I v10.1],.rptr [.I v10.2]]),(0,.fn (.yield l17) []),(1,.rptr [.I v10.1]),(2,.rptr [.I v10.2]),(5,.I v10.1),(6,.I s12),(9,.fn (.yield l17) []),(16,.I v15)] [(2004,vR (.I 0) 1),(2005,vR (.I a1) 1),(2006,vR (.L c9.Pv a0) 1)]) ?_;refine Bh J hR20 J J J J J J (λe26 o27 o28=>?_);refine S6 1 J ?_;refine⟨J,?_⟩;refine c8<|c7<|S3 2 J<|iL h J J al bg λv16 hv29 h=>S2 3 J ?_;refine cN h (λhc h=>?_) λhc h=>?_
   .refine n9 ?_;refine b9<|gx (by decide) ?_;refine⟨J,?_⟩;refine⟨_,Be [(1000002,.ptr 2006 0 0),(1000003,.ptr 2005 0 0),(1000004,.ptr 2004 0 0),(1000009,.fn (.func 364) [.rptr [.I v10.1],.rptr [.I v10.2]]),(0,.fn (.yield l17) []),(1,.rptr [.I v10.1]),(2,.rptr [.I v10.2]),(5,.I v10.1),(6,.I s12),(17,.bool false)] [(2004,vR (.I 0) 1),(2005,vR (.I a1) 1),(2006,vR (.L c9.Pv a0) 1)] ⟨J,J,J,J,J,J,J,J,J,J,J,J,J,J,J,J,J,J,J,J,J,J,J,J,J,J,J,J,J,J,tr⟩ ⟨rS,rS,rS,tr⟩,?_⟩;refine S8 1 J ?_;refine K0 true J (λ_=>?_) (λq=>nomatch q);refine a8 ?_;refine .inr ⟨.exit 0,J,a0E ?_⟩;refine j5 ?_;have h:=xL hx23 h;exact eJ h (WP (λl=>if l=2001 then 2004 else l))
   .refine b8 ?_;refine dr [] p8 (by kernel_rfl) (by kernel_rfl)<|S7 2 J<|d0 J (u7 (f:=c9.Pv) (cs:=c9.Pc v16) hv29 J J al bg J J) J<|S7 4 J<|C0 J (λhg=>oS J J J yh J) J<|y7 J (λhg _ hN=>mI J) J<|C0 J (λhg=>u7 (f:=c9.Pv) (cs:=c9.Pc v16) hv29 (ct hg) (ct hg) al bg J J) J<|y7 J (λhg _ hN=>A2 (ct hg) MU J) J<|C0 J (λhg=>D6 (ct hg) x6 J) J<|C0 J (λhg=>oS J J J x6 J) J<|y7 J (λhg _ hN=>r9 (ct hg) (ct hg) J) J<|d7 J (λ_ hN=>w8 J J J (λq=>V0 q)) J<|G6 ?_;refine cN h (λhc h=>?_) λhc h=>?_
    .refine S4 2 J ?_;refine a8 ?_;refine⟨J,?_⟩;refine⟨_,Be [(1000002,.ptr 2006 0 0),(1000003,.ptr 2005 0 0),(1000004,.ptr 2004 0 0),(1000009,.fn (.func 364) [.rptr [.I v10.1],.rptr [.I v10.2]]),(0,.fn (.yield l17) []),(1,.rptr [.I v10.1]),(2,.rptr [.I v10.2]),(5,.I v10.1),(6,.I s12),(17,.bool false)] [(2004,vR (.I v15) 1),(2005,vR (.I a1) 1),(2006,vR (.L c9.Pv a0) 1)] ⟨J,J,J,J,J,J,J,J,J,J,J,J,J,J,J,J,J,J,J,J,J,J,J,J,J,J,J,J,J,J,tr⟩ ⟨rS,rS,rS,tr⟩,?_⟩;refine S8 1 J ?_;refine K0 true J (λ_=>?_) (λq=>nomatch q);refine a8 ?_;refine .inr ⟨.ret,J,TC ?_⟩;have h:=xL hx23 h;cases h;exact⟨J,[_],⟨oS J J J x6 J,tr⟩,J,io⟩
    .refine b8 ?_;refine⟨J,?_⟩;refine⟨_,Be [(1000002,.ptr 2006 0 0),(1000003,.ptr 2005 0 0),(1000004,.ptr 2004 0 0),(1000009,.fn (.func 364) [.rptr [.I v10.1],.rptr [.I v10.2]]),(0,.fn (.yield l17) []),(1,.rptr [.I v10.1]),(2,.rptr [.I v10.2]),(5,.I v10.1),(6,.I s12),(17,.bool true)] [(2004,vR (.I 0) 1),(2005,vR (.I a1) 1),(2006,vR (.L c9.Pv a0) 1)] ⟨J,J,J,J,J,J,J,J,J,J,J,J,J,J,J,J,J,J,J,J,J,J,J,J,J,J,J,J,J,J,tr⟩ ⟨rS,rS,rS,tr⟩,?_⟩;refine S8 1 J ?_;refine K0 false J (λq=>nomatch q) (λ_=>?_);refine b8<|S6 2 J ?_;exact eL h W
  .refine n9 ?_;refine b9<|b9<|j5 ?_;refine .inl ⟨J,?_⟩;have h:=xL hx23 h;exact eJ h (WP (λl=>if l=2001 then 2004 else l))
theorem jw{a0 a1}:PO prog 311 [.L c9.Pv a0,.I a1] (N5 a0 a1) λr=>.tup [.I r.1,.I r.2]:=by
 refine pO func311 λr h _ _=>?_;refine S4 2 J<|S3 2 J<|cA h mC J J λv1 _ h=>S2 1 J<|c7<|S4 2 J ?_;refine cN h (λhc h=>?_) λhc h=>?_
 .refine S4 2 J ?_;refine a8 ?_;cases h;exact f2
 .refine b8 ?_;refine S3 2 J<|iL h J J al bg λv2 _ h=>S2 4 J<|a8 ?_;cases h;exact f2
theorem aX{a0}:VU prog 352 [.L c9.Pv a0] (F1 a0) λr=>⟨List.map c9.Pv r,0,true,3,true⟩:=by
 refine Zs func352 λr h _ _=>?_;unfold F1 at h;refine S4 1 J<|c7<|S3 1 J<|FW J al λb hb=>yN ?_;refine K0 b J (λhc=>?_) (λhc=>?_)
 .obtain rfl:a0 = []:=by simpa using hb hc
  refine S4 1 J<|fL (D7 (t:=2) (l:=920000) (z:=3) J J)<|a8 ?_;cases h;exact⟨J,_,_,J,J,J,J⟩
 .refine b8 ?_;refine sR<|y0 J (A9 J al bg)<|S1 1 J<|y1 J (iE (f:=c9.Pv) h J J (.inl ⟨_,J,J⟩) al bg KM xw J (λ_=>J)) J<|S2 1 J<|a8 ?_;exact⟨J,_,_,J,J,J,J⟩
theorem mD{a0 a1 a2}:PO prog 322 [.L c9.Pv a0,.I a1,c9.Pv a2] (cR a0 a1 a2) λr=>.L c9.Pv r:=by
 refine pO func322 λr h _ _=>?_;unfold cR at h;refine S4 2 J<|S3 1 J<|s7 h λv1 hv1 h=>YG J (CC J aX J hv1) J J<|S2 1 J<|S3 3 J<|s7 h λv2 hv2 h=>y0 J (aN (f:=c9.Pv) hv2 J J J J al bg J)<|iZ (f:=c9.Pv) (v:=a2) hv2 J J (.inl J) bg<|yN<|S4 2 J<|a8 ?_;cases h;exact f1
theorem tp{a0 a1}:PO prog 255 [.L c9.Pv a0,.I a1] (Z9 a0 a1) λr=>.tup [.L c9.Pv r.1,.I r.2.1,.I r.2.2]:=by
 refine pO func255 λr h _ _=>?_;refine S4 3 J<|S3 2 J<|cA h mC J J λv1 _ h=>S2 1 J<|c7<|S4 2 J ?_;refine cN h (λhc h=>?_) λhc h=>?_
 .refine S4 4 J ?_;refine a8 ?_;cases h;exact f3
 .refine b8 ?_;refine dr [] p8 (by kernel_rfl) (by kernel_rfl)<|S7 2 J<|d7 J (λ_ hN=>p9 (cs:=[.I 2,.I 0,.I 0]) J KW xw J J J) J<|s7 h λv2 hv2 h=>ax J (x4 J mD J hv2) J<|S7 2 J<|s7 h λv3 hv3 h=>d0 J (u7 (f:=c9.Pv) (cs:=c9.Pc v3) hv3 J J al bg J J) J<|S8 5 J<|a8 ?_;cases h;exact f3
theorem GO{a0 a1 a2}:PO prog 347 [.L c9.Pv a0,.I a1,.I a2] (oM a0 a1 a2) λr=>.tup [.L c9.Pv r.1,.I r.2]:=by
 refine pO func347 λr h _ _=>?_;refine S4 3 J<|S3 2 J<|y0 J (p9 (cs:=[.I 1,.I a1,.I a2]) J KW xw J J J)<|S2 2 J<|c7<|S3 2 J<|cA h mC J J λv1 _ h=>S2 1 J<|S4 2 J ?_;refine cN h (λhc h=>?_) λhc h=>?_
 .refine S3 3 J ?_;refine cF h mD J J λv2 _ h=>S2 2 J<|a8 ?_;cases h;exact⟨J,[_,_],⟨oS J J J yh J,⟨oS J J J rB J,tr⟩⟩,J,io⟩
 .refine b8 ?_;refine jq h (λ_=>St.of [(3,.ptr 2004 0 0),(6,.ptr 2003 0 0),(7,.ptr 2002 0 0)] [(2002,vR (.I 0) 1),(2003,vR (.nl) 1),(2004,vR (.L c9.Pv a0) 1)]) (λq12 h=>?_) λκ11 h=>?_
  .refine S4 3 J ?_;refine a8 ?_;cases h;exact⟨J,[_,_],⟨oS J J J yh J,⟨oS J J J rB J,tr⟩⟩,J,io⟩
  .refine S3 1 J ?_;refine nL J al<|S1 1 J<|cF h tv J J λv13 _ h=>yN<|c8<|fL (yq (λl=>if l=2005 then 8 else if l=2006 then 7 else if l=2007 then 6 else if l=2008 then 3 else l) [(3,.ptr 2008 0 0),(6,.ptr 2007 0 0),(7,.ptr 2006 0 0),(8,.ptr 2005 0 0),(26,.fn (.func 364) [.rptr [.I v13.1],.rptr [.I v13.2]])] [(2005,vR (.agg [.I 1,.I a1,.I a2]) 3),(2006,vR (.I 0) 1),(2007,vR (.nl) 1),(2008,vR (.L c9.Pv a0) 1)]) ?_;refine dI (fn:=Tryz.f364) (N1:=20) J func364 J J nl J KQ J J (λl20 e21 o22 hR23=>?_);refine S4 2 J<|c8<|lq h (λs15=>St.of [(1000003,.ptr 2008 0 0),(1000006,.ptr 2007 0 0),(1000007,.ptr 2006 0 0),(1000008,.ptr 2005 0 0),(1000026,.fn (.func 364) [.rptr [.I v13.1],.rptr [.I v13.2]]),(0,.fn (.yield l20) []),(1,.rptr [.I v13.1]),(2,.rptr [.I v13.2]),(5,.I v13.1),(6,.I s15)] [(2005,vR (.agg [.I 1,.I a1,.I a2]) 3),(2006,vR (.I 0) 1),(2007,vR (.nl) 1),(2008,vR (.L c9.Pv a0) 1)]) W λs15 x16 h hx26=>S4 1 J<|c7 ?_;refine cN h (λhc h=>?_) λhc h=>?_
   .refine b8 ?_;refine c7<|c8<|S4 2 J<|drY [] 8 p8 (by kernel_rfl) (by kernel_rfl) (by kernel_rfl) (by kernel_rfl) nl<|S7 3 J<|s7 h λv17 hv27 h=>d2 J (B7 J tq J hv27) J<|S7 3 J<|s7 h λv18 hv28 h=>d7 J (λ_ hN=>kZ J J hv28) J<|G6<|QG (WE [(1000003,.ptr 2008 0 0),(1000006,.ptr 2007 0 0),(1000007,.ptr 2006 0 0),(1000008,.ptr 2005 0 0),(1000026,.fn (.func 364) [.rptr [.I v13.1],.rptr [.I v13.2]]),(0,.fn (.yield l20) []),(1,.rptr [.I v13.1]),(2,.rptr [.I v13.2]),(5,.I v13.1),(6,.I s15),(9,.fn (.yield l20) []),(16,.I v18)] [(2005,vR (.agg [.I 1,.I a1,.I a2]) 3),(2006,vR (.I 0) 1),(2007,vR (.nl) 1),(2008,vR (.L c9.Pv a0) 1)]) ?_;refine Bh J hR23 J J J J J J (λe29 o30 o31=>?_);refine S6 1 J ?_;refine⟨J,?_⟩;refine c8<|S3 2 J<|iL h J J al bg λv19 _ h=>S2 3 J ?_;refine cN h (λhc h=>?_) λhc h=>?_
    .refine S3 3 J ?_;refine cF h mD J J λv20 _ h=>S2 2 J<|a8 ?_;refine⟨J,?_⟩;refine⟨_,Be [(1000003,.ptr 2008 0 0),(1000006,.ptr 2007 0 0),(1000007,.ptr 2006 0 0),(1000008,.ptr 2005 0 0),(1000026,.fn (.func 364) [.rptr [.I v13.1],.rptr [.I v13.2]]),(0,.fn (.yield l20) []),(1,.rptr [.I v13.1]),(2,.rptr [.I v13.2]),(5,.I v13.1),(6,.I s15),(17,.bool false)] [(2005,vR (.agg [.I 1,.I a1,.I a2]) 3),(2006,vR (.I 0) 1),(2007,vR (.L c9.Pv v20) 1),(2008,vR (.L c9.Pv a0) 1)] ⟨J,J,J,J,J,J,J,J,J,J,J,J,J,J,J,J,J,J,J,J,J,J,J,J,J,J,J,J,J,J,J,J,J,tr⟩ ⟨rS,rS,rS,rS,tr⟩,?_⟩;refine S8 1 J ?_;refine K0 true J (λ_=>?_) (λq=>nomatch q);refine a8 ?_;refine .inr ⟨.ret,J,TC ?_⟩;have h:=xL hx26 h;cases h;exact⟨J,[_,_],⟨oS J J J yh J,⟨oS J J J rB J,tr⟩⟩,J,io⟩
    .refine b8 ?_;refine⟨J,?_⟩;refine⟨_,Be [(1000003,.ptr 2008 0 0),(1000006,.ptr 2007 0 0),(1000007,.ptr 2006 0 0),(1000008,.ptr 2005 0 0),(1000026,.fn (.func 364) [.rptr [.I v13.1],.rptr [.I v13.2]]),(0,.fn (.yield l20) []),(1,.rptr [.I v13.1]),(2,.rptr [.I v13.2]),(5,.I v13.1),(6,.I s15),(17,.bool true)] [(2005,vR (.agg [.I 1,.I a1,.I a2]) 3),(2006,vR (.I 0) 1),(2007,vR (.nl) 1),(2008,vR (.L c9.Pv a0) 1)] ⟨J,J,J,J,J,J,J,J,J,J,J,J,J,J,J,J,J,J,J,J,J,J,J,J,J,J,J,J,J,J,J,J,J,tr⟩ ⟨rS,rS,rS,rS,tr⟩,?_⟩;refine S8 1 J ?_;refine K0 false J (λq=>nomatch q) (λ_=>?_);refine b8<|S6 2 J ?_;exact eL h W
   .refine n9 ?_;refine b9<|b9<|j5 ?_;refine .inl ⟨J,?_⟩;have h:=xL hx26 h;exact eJ h (WP (λl=>if l=2004 then 2008 else if l=2003 then 2007 else if l=2002 then 2006 else l))
theorem DN{a0 a1 a2}:PO prog 309 [.L c9.Pv a0,.I a1,.I a2] (V8 a0 a1 a2) λr=>.tup [.L c9.Pv r.1,.I r.2.1,.I r.2.2]:=by
 refine pO func309 λr h _ _=>?_;refine S4 3 J<|c7<|S4 2 J ?_;refine cN h (λhc h=>?_) λhc h=>?_
 .refine S4 4 J ?_;refine a8 ?_;cases h;exact f3
 .refine b8 ?_;refine S3 2 J<|cA h jw J J λv1 _ h=>S2 5 J<|c7<|S4 2 J ?_;refine cN h (λhc h=>?_) λhc h=>?_
  .refine S3 2 J ?_;refine cF h tp J J λv2 _ h=>S2 7 J<|S4 5 J<|a8 ?_;cases h;exact f3
  .refine b8 ?_;refine S3 3 J<|cF h GO J J λv3 _ h=>S2 5 J<|c7<|S4 2 J ?_;refine cN h (λhc h=>?_) λhc h=>?_
   .refine S4 5 J ?_;refine a8 ?_;cases h;exact f3
   .refine b8 ?_;refine S4 5 J<|a8 ?_;cases h;exact f3
theorem nX{a0 a1}:PO prog 310 [J4.Pv a0,b7.Pv a1] (Y4 a0 a1) λr=>b7.Pv r:=by
 refine pO func310 λr h _ _=>?_;unfold Y4 at h;refine S4 3 J<|S4 4 J<|S4 2 J<|a8 ?_;cases h;exact⟨J,[_],⟨oL J J J y6 u4 nl J,tr⟩,J,io⟩
theorem cr{a0 a1 a2 a3}:PO prog 302 [b7.Pv a0,.I a1,.I a2,.abs (Vi 310 [J4.Pv a3])] (L0 a0 a1 a2 a3) λr=>b7.Pv r:=by
 refine pO func302 λr h _ _=>?_;refine S4 2 J<|S3 3 J<|cF h dz J J λv1 _ h=>s7 h λv2 hv2 h=>FV (xs:=[b7.Pv v1]) J J Sj J (nX.2 _ hv2)<|S1 1 J<|cF h Z2 J J λv3 _ h=>S2 1 J<|a8 ?_;cases h;exact⟨J,[_],⟨oL J J J y6 u4 nl J,tr⟩,J,io⟩
theorem Eb{a0 a1 a2}:PO prog 247 [b7.Pv a0,.I a1,.I a2] (gM a0 a1 a2) λr=>.tup [b7.Pv r.1,.I r.2]:=by
 refine pO func247 λr h _ _=>?_;refine S4 3 J<|c7<|S4 2 J ?_;refine cN h (λhc h=>?_) λhc h=>?_
 .refine S4 3 J ?_;refine a8 ?_;cases h;exact⟨J,[_,_],⟨oL J J J y6 u4 nl J,⟨J,tr⟩⟩,J,io⟩
 .refine b8 ?_;refine c7<|S3 2 J<|cA h W1 J J λv1 _ h=>S1 2 J<|g8 J (λhg=>oL J J J y6 u4 nl J)<|g8 J (λhg=>mI J)<|s7 h λv2 hv2 h=>g8 J (λhg=>B7 J W1 (A3 (ct hg) (A3 (ct hg) J)) (C8 hv2 hg))<|g8 J (λhg=>Z4 (ct hg) J)<|y0 J (y5 J J J (λq=>P1 q))<|yN ?_;refine cN h (λhc h=>?_) λhc h=>?_
  .refine S4 3 J ?_;refine a8 ?_;cases h;exact⟨J,[_,_],⟨oL J J J y6 u4 nl J,⟨J,tr⟩⟩,J,io⟩
  .refine b8 ?_;refine S3 4 J<|cF h DN J J λv3 _ h=>S2 7 J<|c7<|S4 2 J ?_;refine cN h (λhc h=>?_) λhc h=>?_
   .refine S4 4 J ?_;refine a8 ?_;cases h;exact⟨J,[_,_],⟨oL J J J y6 u4 nl J,⟨J,tr⟩⟩,J,io⟩
   .refine b8 ?_;refine S3 4 J<|y0 J (p9 (cs:=[.L c9.Pv v3.1]) J SE SW J J J)<|y0 J (vH (d:=.agg [.L c9.Pv v3.1]) J)<|cF h cr J J λv4 _ h=>S2 2 J<|a8 ?_;cases h;exact⟨J,[_,_],⟨oL J J J y6 u4 nl J,⟨J,tr⟩⟩,J,io⟩
theorem fJ{a0}:PO prog 158 [w7.Pv a0] (aD a0) λr=>.tup [b7.Pv r.1,.I r.2]:=by
 refine pO func158 λr h _ _=>?_;refine S4 3 J<|S3 5 J<|cA h T4 J J λv1 _ h=>S2 5 J<|c7<|S4 2 J ?_;refine cN h (λhc h=>?_) λhc h=>?_
 .refine S4 5 J ?_;refine a8 ?_;cases h;exact⟨J,[_,_],⟨oL J J J y6 u4 nl J,⟨J,tr⟩⟩,J,io⟩
 .refine b8 ?_;refine dr [] p8 (by kernel_rfl) (by kernel_rfl)<|S7 8 J<|s7 h λv2 hv2 h=>d2 J (B7 J P3 J hv2) J<|s7 h λv3 hv3 h=>ax J (x4 J Eb J hv3) J<|S7 2 J<|B6 (x':=b7.Pv v3.1) (cl':=true) J J (.inr J) u4<|S8 1 J<|a8 ?_;cases h;exact⟨J,[_,_],⟨oL J J J y6 u4 nl J,⟨J,tr⟩⟩,J,io⟩
theorem DM{a0 a1}:PO prog 248 [.L c9.Pv a0,.I a1] (vo a0 a1) λr=>.tup [.I r.1,.I r.2]:=by
 refine pO func248 λr h _ _=>?_;refine S4 2 J<|S3 2 J<|cA h jw J J λv1 _ h=>S2 4 J<|a8 ?_;cases h;exact f2
theorem gp{a0}:PO prog 159 [w7.Pv a0] (bo a0) λr=>.tup [b7.Pv r.1,.I r.2]:=by
 refine pO func159 λr h _ _=>?_;refine S4 3 J<|S3 5 J<|cA h T4 J J λv1 _ h=>S2 5 J<|c7<|S4 2 J ?_;refine cN h (λhc h=>?_) λhc h=>?_
 .refine S4 5 J ?_;refine a8 ?_;cases h;exact⟨J,[_,_],⟨oL J J J y6 u4 nl J,⟨J,tr⟩⟩,J,io⟩
 .refine b8 ?_;refine dr [] p8 (by kernel_rfl) (by kernel_rfl)<|S7 5 J<|s7 h λv2 hv2 h=>d2 J (B7 J DM J hv2) J<|S7 2 J<|s7 h λv3 hv3 h=>ax J (x4 J I6 J hv3) J<|S7 2 J<|B6 (x':=b7.Pv v3.1) (cl':=true) J J (.inr J) u4<|S8 1 J<|a8 ?_;cases h;exact⟨J,[_,_],⟨oL J J J y6 u4 nl J,⟨J,tr⟩⟩,J,io⟩
theorem eh{a0}:PO prog 160 [w7.Pv a0] (R2 a0) λr=>.tup [b7.Pv r.1,.I r.2]:=by
 refine pO func160 λr h _ _=>?_;unfold R2 at h;refine S4 3 J<|S4 4 J<|a8 ?_;cases h;exact⟨J,[_,_],⟨oL J J J y6 u4 nl J,⟨J,tr⟩⟩,J,io⟩
theorem Jo{f:Fv}{a0:w7}{r:b7 × Int}(h:xC f a0=some r):∃n,f=some n/\D3 prog n/\aj prog n [w7.Pv a0] (.tup [b7.Pv r.1,.I r.2]):=by
 unfold xC at h;by_cases e151:f=some 151
 .rw[zb e151] at h;exact⟨151,e151,(@dD a0).1,(@dD a0).2 _ h⟩
 rw[za e151] at h;by_cases e152:f=some 152
 .rw[zb e152] at h;exact⟨152,e152,(@bF a0).1,(@bF a0).2 _ h⟩
 rw[za e152] at h;by_cases e153:f=some 153
 .rw[zb e153] at h;exact⟨153,e153,(@fH a0).1,(@fH a0).2 _ h⟩
 rw[za e153] at h;by_cases e154:f=some 154
 .rw[zb e154] at h;exact⟨154,e154,(@fI a0).1,(@fI a0).2 _ h⟩
 rw[za e154] at h;by_cases e155:f=some 155
 .rw[zb e155] at h;exact⟨155,e155,(@en a0).1,(@en a0).2 _ h⟩
 rw[za e155] at h;by_cases e156:f=some 156
 .rw[zb e156] at h;exact⟨156,e156,(@dE a0).1,(@dE a0).2 _ h⟩
 rw[za e156] at h;by_cases e157:f=some 157
 .rw[zb e157] at h;exact⟨157,e157,(@iC a0).1,(@iC a0).2 _ h⟩
 rw[za e157] at h;by_cases e158:f=some 158
 .rw[zb e158] at h;exact⟨158,e158,(@fJ a0).1,(@fJ a0).2 _ h⟩
 rw[za e158] at h;by_cases e159:f=some 159
 .rw[zb e159] at h;exact⟨159,e159,(@gp a0).1,(@gp a0).2 _ h⟩
 rw[za e159] at h;by_cases e160:f=some 160
 .rw[zb e160] at h;exact⟨160,e160,(@eh a0).1,(@eh a0).2 _ h⟩
 rw[za e160] at h;cases h
theorem kO{a0}:PO prog 209 [.I a0] (bR a0) λr=>.bool r:=by
 refine pO func209 λr h _ _=>?_;unfold bR at h;refine S4 1 J<|S4 4 J<|a8 ?_;cases h;exact f1
theorem rF{a0 a1}:PO prog 125 [.I a0,.I a1] (fV a0 a1) λr=>.I r:=by
 refine pO func125 λr h _ _=>?_;refine S4 1 J<|S3 1 J<|cA h kO J J λv1 _ h=>S2 1 J<|S3 1 J<|cA h kO J J λv2 _ h=>S2 1 J<|c7<|S4 1 J ?_;refine cN h (λhc h=>?_) λhc h=>?_
 .refine c7 ?_;refine S4 1 J ?_;refine cN h (λhc h=>?_) λhc h=>?_
  .refine S4 1 J ?_;refine a8 ?_;cases h;exact f1
  .refine b8 ?_;refine S4 1 J<|a8 ?_;cases h;exact f1
 .refine b8 ?_;refine c7<|S4 1 J ?_;refine cN h (λhc h=>?_) λhc h=>?_
  .refine S4 1 J ?_;refine a8 ?_;cases h;exact f1
  .refine b8 ?_;refine c7<|S4 3 J ?_;refine cN h (λhc h=>?_) λhc h=>?_
   .refine S4 1 J ?_;refine a8 ?_;cases h;exact f1
   .refine b8 ?_;refine c7<|S4 3 J ?_;refine cN h (λhc h=>?_) λhc h=>?_
    .refine S4 1 J ?_;refine a8 ?_;cases h;exact f1
    .refine b8 ?_;refine S4 1 J<|a8 ?_;cases h;exact f1
theorem xm{a0 a1 a2}:PO prog 124 [.I a0,.I a1,.rptr [.abs (Z0 (List.map (iq iF iF) a2))]] (gI a0 a1 a2) λr=>.I r:=by
 refine pO func124 λr h _ _=>?_;refine S4 1 J<|S3 2 J<|y0 J (Hf (es:=a2) (k:=a0) (E:=iF) (EK:=iF) (d:=.I ((D1 a2 a0).getD (0:Int))) J J yo (C3 N3) A0 J (Xc _ _ _))<|S1 2 J<|y0 J (Hf (es:=a2) (k:=a1) (E:=iF) (EK:=iF) (d:=.I ((D1 a2 a1).getD (0:Int))) J J yo (C3 N3) A0 J (Xc _ _ _))<|cA h rF J J λv1 _ h=>S2 1 J<|a8 ?_;cases h;exact f1
theorem N2{a0}:PO prog 68 [a7.Pv a0] (F2 a0) λr=>.L iF r:=by
 refine pO func68 λr h _ _=>?_;refine S4 2 J<|S4 1 J<|sR<|IF (KT:=Int) (VT:=Int) (EK:=iF) (E:=iF) 5000008 J J<|S2 2 J ?_;refine jq h (λq=>St.of [(3,.sl 910003),(4,.ptr 4 0 0)] [(4,vS (.mp 5000008) 1),(5000008,⟨[.mapc (List.map (iq iF iF) q.1)],0,false,0,false⟩),(910003,⟨List.map iF q.2,0,true,1,true⟩)]) (λq20 h=>?_) λκ17 h=>?_
 .obtain⟨j18,j19⟩:=q20;refine S3 2 J<|U9 (Wk.trans (Vg 5000008 nl J) (Yu 4 0 5000008 J J J J))<|s7 h λv21 hv12 h=>Yx hv12 J J Se Yh J J J Sf J J J J J (λp q r h=>xm.2 r h)<|yN<|S4 2 J<|a8 ?_;cases h;exact f1
 .refine S3 3 J ?_;refine nL J O8<|S2 1 J<|c8<|lq h (λq=>St.of [(3,.sl 910003),(4,.ptr 4 0 0),(11,.L c4.Pv a0.S.Cells),(12,.I (a0.S.Cells.length:Int)),(13,.I q.1)] [(4,vS (.mp 5000008) 1),(5000008,⟨[.mapc (List.map (iq iF iF) q.2.1)],0,false,0,false⟩),(910003,⟨List.map iF q.2.2,0,true,1,true⟩)]) (Wk.trans (D7 (t:=3) (l:=920003) (z:=1) J J) (WP (λl=>if l=910003 then 920003 else l))) λq27 x26 h hx15=>?_;obtain⟨s23,s24,s25⟩:=q27;refine S4 1 J<|c7 ?_;refine cN h (λhc h=>?_) λhc h=>?_
  .refine b8 ?_;refine jq h (λq=>St.of [(3,.sl 33),(4,.ptr 4 0 0),(11,.L c4.Pv a0.S.Cells),(12,.I (a0.S.Cells.length:Int)),(13,.I s23)] [(4,vS (.mp 5000008) 1),(5000008,⟨[.mapc (List.map (iq iF iF) q.1)],0,false,0,false⟩),(33,⟨List.map iF q.2,0,true,1,true⟩)]) (λq34 h=>?_) λκ31 h=>?_
   .obtain⟨j32,j33⟩:=q34;refine S6 2 J ?_;exact eL h (WP (λl=>if l=910003 then 33 else l))
   .refine c8 ?_;refine S3 1 J<|iL h J J O8 R7 λv35 _ h=>S2 4 J<|S4 3 J ?_;refine cN h (λhc h=>?_) λhc h=>?_
    .refine S3 3 J ?_;refine cA h oJ J J λv36 _ h=>S2 1 J<|S3 5 J<|bO (es:=s24) (k:=v36) (v:=v35.Val.Serial) (E:=iF) (EK:=iF) (.inl J) J J J J J J yo (C3 N3)<|yN<|S5 2 J<|y0 J (H5 (f:=iF) (l:=[v36]) J g5 m7 A0 J J nl J J)<|s7 h λv37 hv22 h=>VQ (f:=iF) (b:=8) [(4,.ptr 4 0 0),(11,.L c4.Pv a0.S.Cells),(12,.I (a0.S.Cells.length:Int)),(13,.I s23),(14,.bool (decide (s23<(a0.S.Cells.length:Int)))),(15,.I s23),(16,.rptr (c4.Pc v35)),(17,c4.Pv v35),(6,.ptr 6 0 0),(5,.I s23),(18,.ptr 6 0 0),(19,.I v35.State),(20,.bool (v35.State==1)),(21,.I s23),(22,.ptr 6 0 1),(23,.I v35.Gen),(24,.I v36),(7,.I v36),(25,.mp 5000008),(26,.I v36),(27,.ptr 6 0 2),(28,.ptr 6 0 2),(29,.I v35.Val.Serial),(31,.I v36),(32,.lst true (List.map iF [v36]))] [(6,vR (c4.Pv v35) 8),(5000008,⟨[.mapc (List.map (iq iF iF) (u9 s24 v36 v35.Val.Serial))],0,false,0,false⟩),(4,vS (.mp 5000008) 1)] J hv22 ⟨J,J,J,J,J,J,J,J,J,J,J,J,J,J,J,J,J,J,J,J,J,J,J,J,J,J,J,J,J,J,J,J,J,J,J,J,J,J,J,J,J,J,J,J,J,J,J,J,J,J,J,J,J,J,J,J,J,J,J,J,J,J,J,J,J,J,J,J,J,J,J,J,J,J,J,tr⟩ ⟨rS,eW J J J (λq=>nomatch q) J J J J,eW J J J (λq=>nomatch q) J J J J,tr⟩ J J J J (.inl ⟨_,J,J⟩) g5 m7 F9 A0 J (λ_=>J)<|S2 1 J ?_;exact eJ h W
    .refine b8 ?_;exact eJ h (WP (λl=>if l=33 then 910003 else l))
  .refine n9 ?_;refine b9<|b9<|j5 ?_;have h:=xL hx15 h;exact eJ h W
theorem AQ{a0}:PO prog 161 [b7.Pv a0] (cX a0) λr=>.L iF r:=by
 refine pO func161 λr h _ _=>?_;refine S4 2 J<|S4 1 J ?_;refine jq h (λj16=>St.of [(3,.sl 910003)] [(910003,⟨List.map iF j16,(List.map iF j16).length,true,1,true⟩)]) (λj16 h=>?_) λκ15 h=>?_
 .refine S4 2 J ?_;refine a8 ?_;cases h;exact f1
 .refine S3 2 J ?_;refine cF h N2 J J λv17 _ h=>nL J g5<|S2 1 J<|c8<|lq h (λq=>St.of [(1,.ptr 1 0 0),(3,.sl 910003),(10,.L iF v17),(11,.I (v17.length:Int)),(12,.I q.1)] [(1,vR (b7.Pv a0) 8),(910003,⟨List.map iF q.2,(List.map iF q.2).length,true,1,true⟩)]) (Wk.trans (D7 (t:=3) (l:=920003) (z:=1) J J) (WP (λl=>if l=910003 then 920003 else l))) λq22 x21 h hx16=>?_;obtain⟨s19,s20⟩:=q22;refine S4 1 J<|c7 ?_;refine cN h (λhc h=>?_) λhc h=>?_
  .refine b8 ?_;refine jq h (λj27=>St.of [(1,.ptr 1 0 0),(3,.sl 29),(10,.L iF v17),(11,.I (v17.length:Int)),(12,.I s19)] [(29,⟨List.map iF j27,(List.map iF j27).length,true,1,true⟩),(1,vR (b7.Pv a0) 8)]) (λj27 h=>?_) λκ26 h=>?_
   .refine S6 2 J ?_;exact eL h (Wk.trans (n0 _ [29]) (WP (λl=>if l=910003 then 29 else l)))
   .refine c8 ?_;refine sR<|iL h J J g5 m7 λv28 _ h=>S2 2 J<|S3 3 J<|cF h D5 J J λv29 _ h=>S2 6 J<|S4 3 J ?_;refine cN h (λhc h=>?_) λhc h=>?_
    .refine S5 2 J ?_;refine y0 J (H5 (f:=iF) (l:=[v28]) J g5 m7 A0 J J nl J J)<|s7 h λv30 hv23 h=>I2 J (F7 (f:=iF) hv23 J J J J J J (.inl ⟨_,J,J⟩) g5 m7 F9 A0 J (λ_=>J)) J J J<|S2 1 J ?_;exact eJ h (Wk.trans (n0 _ [29]) W)
    .refine b8 ?_;exact eJ h (Wk.trans (n0 _ [910003]) (WP (λl=>if l=29 then 910003 else l)))
  .refine n9 ?_;refine b9<|b9<|j5 ?_;have h:=xL hx16 h;exact eJ h (Wk.trans (n0 _ [910003]) W)
theorem jQ{a0}:PO prog 162 [n7.Pv a0] (N9 a0) λr=>.bool r:=by
 refine pO func162 λr h _ _=>?_;unfold N9 at h;refine S4 2 J<|S3 4 J<|g8 J (λhg=>oF J BQ J)<|g8 J (λhg=>oS (ct hg) J J kI J)<|g8 J (λhg=>Z4 (ct hg) J)<|y0 J (w8 J J J (λq=>V0 q))<|S2 1 J<|a8 ?_;cases h;exact f1
theorem Q4{a0}:PO prog 313 [g7.Pv a0] (K5 a0) λr=>.I r:=by
 refine pO func313 λr h _ _=>?_;unfold K5 at h;refine S4 2 J<|S3 2 J<|nL J gY<|S2 1 J<|a8 ?_;cases h;exact f1
theorem W6{a0 a1 a2}:PO prog 314 [.L l5.Pv a0,.I a1,.I a2] (H3 a0 a1 a2) λr=>.lst true (List.map l5.Pv r):=by
 refine pO func314 λr h _ _=>?_;unfold H3 at h;refine S4 1 J<|S3 4 J<|s7 h λv1 hv1 h=>y0 J (Qr (f:=l5.Pv) hv1 J ⟨_,J⟩ ⟨_,J⟩ ⟨_,J⟩ J J gY M0 (λ_=>J))<|S2 1 J<|a8 ?_;cases h;exact f1
theorem lh{a0 a1}:PO prog 250 [g7.Pv a0,l5.Pv a1] (T5 a0 a1) λr=>.tup [g7.Pv r.1,.I r.2]:=by
 refine pO func250 λr h _ _=>?_;unfold T5 at h;refine S4 4 J<|c7<|dr [] p8 (by kernel_rfl) (by kernel_rfl)<|S7 1 J<|s7 h λv1 hv1 h=>d2 J (B7 J Q4 J hv1) J<|S8 3 J ?_;refine cN h (λhc h=>?_) λhc h=>?_
 .refine S4 3 J ?_;refine a8 ?_;cases h;exact⟨J,[_,_],⟨oL J J J jZ dh nl J,⟨J,tr⟩⟩,J,io⟩
 .refine b8 ?_;refine dr [] p8 (by kernel_rfl) (by kernel_rfl)<|S7 3 J<|d2 J (B7 J Q4 J hv1) J<|s7 h λv2 hv2 h=>ax J (x4 J W6 J hv2) J<|S7 1 J<|Tk J (H5 (f:=l5.Pv) (l:=[a1]) J gY M0 sK J J nl J J) J<|s7 h λv3 hv3 h=>d3 J (iE (f:=l5.Pv) hv3 J J (.inl ⟨_,J,J⟩) gY M0 Sb sK J (λ_=>J)) J J J<|S7 1 J<|B6 (x':=.agg [.sl 19,.I a0.Cap]) (cl':=false) J J (.inl J) OA<|G6<|S4 3 J<|a8 ?_;cases h;exact⟨J,[_,_],⟨oL J J J jZ dh nl J,⟨J,tr⟩⟩,J,io⟩
theorem wX{a0 a1}:PO prog 168 [g7.Pv a0,l5.Pv a1] (pB a0 a1) λr=>.tup [g7.Pv r.1,.I r.2]:=by
 refine pO func168 λr h _ _=>?_;refine S4 4 J<|S3 2 J<|cF h lh J J λv1 _ h=>S2 4 J<|a8 ?_;cases h;exact⟨J,[_,_],⟨oL J J J jZ dh nl J,⟨J,tr⟩⟩,J,io⟩
theorem lO{a0 a1}:PO prog 106 [b7.Pv a0,.I a1] (U6 a0 a1) λr=>b7.Pv r:=by
 refine pO func106 λr h _ _=>?_;refine S4 2 J<|S3 3 J<|cF h D5 J J λv1 _ h=>S2 6 J<|c7<|S3 3 J<|g8 J (λhg=>oL J J J sC ji nl J)<|s7 h λv2 hv2 h=>g8 J (λhg=>B7 J jQ (A3 (ct hg) J) (C8 hv2 hg))<|g8 J (λhg=>Z4 (ct hg) J)<|y0 J (y5 J J J (λq=>P1 q))<|yN ?_;refine cN h (λhc h=>?_) λhc h=>?_
 .refine S4 2 J ?_;refine a8 ?_;cases h;exact⟨J,[_],⟨oL J J J y6 u4 nl J,tr⟩,J,io⟩
 .refine b8 ?_;refine S4 2 J<|S3 4 J<|cF h bA J J λv3 _ h=>S2 5 J<|S3 5 J<|y0 J (p9 (cs:=[.I 1,.I a1,.I v1.1.Prog]) J Dh sK J J J)<|cF h wX J J λv4 _ h=>S2 5 J<|S3 2 J<|cF h dz J J λv5 _ h=>S2 1 J<|a8 ?_;cases h;exact⟨J,[_],⟨oL J J J y6 u4 nl J,tr⟩,J,io⟩
theorem qR{a0 a1}:PO prog 170 [b7.Pv a0,.L iF a1] (W9 a0 a1) λr=>.L iF r:=by
 refine pO func170 λr h _ _=>?_;refine S4 2 J<|sR<|IF (KT:=Int) (VT:=Bool) (EK:=iF) (E:=PV.bool) 5000011 J J<|S2 1 J<|S4 1 J ?_;refine jq h (λj18=>St.of [(6,.sl 910006)] [(910006,⟨List.map iF j18,(List.map iF j18).length,true,1,true⟩)]) (λj18 h=>?_) λκ17 h=>?_
 .refine S4 2 J ?_;refine a8 ?_;cases h;exact f1
 .refine S3 1 J ?_;refine nL J g5<|S2 1 J<|c8<|lq h (λq=>St.of [(2,.ptr 2 0 0),(5,.mp 5000011),(6,.sl 910006),(12,.L iF a1),(13,.I (a1.length:Int)),(14,.I q.1)] [(5000011,⟨[.mapc (List.map (iq iF PV.bool) q.2.1)],0,false,0,false⟩),(2,vR (b7.Pv a0) 8),(910006,⟨List.map iF q.2.2,(List.map iF q.2.2).length,true,1,true⟩)]) (Wk.trans (D7 (t:=6) (l:=920006) (z:=1) J J) (WP (λl=>if l=910006 then 920006 else l))) λq24 x23 h hx16=>?_;obtain⟨s20,s21,s22⟩:=q24;refine S4 1 J<|c7 ?_;refine cN h (λhc h=>?_) λhc h=>?_
  .refine b8 ?_;refine jq h (λq=>St.of [(2,.ptr 2 0 0),(5,.mp 5000011),(6,.sl 38),(12,.L iF a1),(13,.I (a1.length:Int)),(14,.I s20)] [(38,⟨List.map iF q.1,(List.map iF q.1).length,true,1,true⟩),(5000011,⟨[.mapc (List.map (iq iF PV.bool) q.2)],0,false,0,false⟩),(2,vR (b7.Pv a0) 8)]) (λq31 h=>?_) λκ28 h=>?_
   .obtain⟨j29,j30⟩:=q31;refine S6 2 J ?_;exact eL h (Wk.trans (n0 _ [38]) (WP (λl=>if l=910006 then 38 else l)))
   .refine c8 ?_;refine sR<|iL h J J g5 m7 λv32 _ h=>S2 2 J<|S3 3 J<|cF h D5 J J λv33 _ h=>S2 6 J<|S3 3 J<|g8 J (λhg=>om (d:=.mp 5000011) J)<|g8 J (λhg=>mI J) ?_;rcases za6 ((v33.2==0)==true) with hg24 | hg24
    .have h:=WV h hg24;refine RI (es:=s21) (k:=v32) (E:=PV.bool) (EK:=iF) (d:=.bool ((D1 s21 v32).getD (false:Bool))) (zaj some hg24) (ct hg24) J (ct hg24) fB (C3 N3) Gr J (Xc _ _ _)<|y0 (zaj some hg24) (Z4 J J)<|y0 J (mQ J J hg24)<|yN ?_;refine cN h (λhc h=>?_) λhc h=>?_
     .refine S3 2 J ?_;refine bO (es:=s21) (k:=v32) (v:=true) (E:=PV.bool) (EK:=iF) (.inl J) J J J J J J fB (C3 N3)<|yN<|S5 2 J<|y0 J (H5 (f:=iF) (l:=[v32]) J g5 m7 A0 J J nl J J)<|s7 h λv34 hv25 h=>I2 J (F7 (f:=iF) hv25 J J J J J J (.inl ⟨_,J,J⟩) g5 m7 F9 A0 J (λ_=>J)) J J J<|S2 1 J ?_;exact eJ h (Wk.trans (n0 _ [38]) W)
     .refine b8 ?_;exact eJ h (Wk.trans (n0 _ [910006]) (WP (λl=>if l=38 then 910006 else l)))
    .have h:=WU h hg24;refine dX (zaj some hg24)<|dX (zaj some hg24)<|y0 J (pZ J J hg24)<|yN ?_;refine K0 false J (λq=>nomatch q) (λ_=>?_);refine b8 ?_;exact eJ h (Wk.trans (n0 _ [910006]) (WP (λl=>if l=38 then 910006 else l)))
  .refine n9 ?_;refine b9<|b9<|j5 ?_;have h:=xL hx16 h;exact eJ h (Wk.trans (n0 _ [910006]) W)
theorem lQ{a0 a1}:PO prog 350 [.L iF a0,.I a1] (T8 a0 a1) λr=>.I r:=by
 refine pO func350 λr h _ _=>?_;refine S4 1 J ?_;refine jq h (λ_=>St.of [] []) (λq6 h=>?_) λκ5 h=>?_
 .refine S4 1 J ?_;refine a8 ?_;cases h;exact f1
 .refine S3 1 J ?_;refine nL J g5<|S2 1 J<|c8<|lq h (λs8=>St.of [(0,.L iF a0),(1,.I a1),(7,.I (a0.length:Int)),(8,.I s8)] []) W λs8 x9 h hx8=>S4 1 J<|c7 ?_;refine cN h (λhc h=>?_) λhc h=>?_
  .refine b8 ?_;refine c7<|c8<|S4 2 J<|S3 3 J<|iL h J J g5 m7 λv10 _ h=>S2 2 J ?_;refine cN h (λhc h=>?_) λhc h=>?_
   .refine S4 2 J ?_;refine a8 ?_;have h:=xL hx8 h;cases h;exact f1
   .refine b8 ?_;refine S6 2 J ?_;exact eL h W
  .refine n9 ?_;refine b9<|b9<|j5 ?_;have h:=xL hx8 h;exact eJ h W
theorem R5{a0 a1}:PO prog 318 [.L iF a0,.I a1] (G7 a0 a1) λr=>.bool r:=by
 refine pO func318 λr h _ _=>?_;refine S4 1 J<|S3 2 J<|cA h lQ J J λv1 _ h=>S2 2 J<|a8 ?_;cases h;exact f1
theorem xo{a0 a1}:PO prog 317 [g9.Pv a0,.rptr [.L iF a1]] (bC a0 a1) λr=>.bool r:=by
 refine pO func317 λr h _ _=>?_;unfold bC at h;refine S4 2 J<|S3 3 J<|g8 J (λhg=>oF J BW J)<|g8 J (λhg=>oS (ct hg) J J x6 J)<|g8 J (λhg=>r9 (ct hg) J J)<|y0 J (w8 J J J (λq=>V0 q))<|S1 1 J<|g8 J (λhg=>D6 J fR J)<|g8 J (λhg=>oF J BW J)<|g8 J (λhg=>oS (ct hg) J J x6 J)<|s7 h λv1 hv1 h=>g8 J (λhg=>B7 J R5 (A3 (ct hg) (A3 (ct hg) J)) (C8 hv1 hg))<|y0 J (w8 J J J (λq=>V0 q))<|S2 1 J<|a8 ?_;cases h;exact f1
theorem gm{a0 a1}:PO prog 316 [.L g9.Pv a0,.fn (.func 317) [.rptr [.L iF a1]]] (L4 a0 a1) λr=>.L iF r:=by
 refine pO func316 λr h _ _=>?_;refine S4 1 J<|S4 1 J ?_;refine jq h (λj15=>St.of [(5,.sl 910005)] [(910005,⟨List.map iF j15,(List.map iF j15).length,true,1,true⟩)]) (λj15 h=>?_) λκ14 h=>?_
 .refine S4 2 J ?_;refine a8 ?_;cases h;exact f1
 .refine S3 1 J ?_;refine nL J U1<|S2 1 J<|c8<|lq h (λq=>St.of [(1,.fn (.func 317) [.rptr [.L iF a1]]),(5,.sl 910005),(8,.L g9.Pv a0),(9,.I (a0.length:Int)),(10,.I q.1)] [(910005,⟨List.map iF q.2,(List.map iF q.2).length,true,1,true⟩)]) (Wk.trans (D7 (t:=5) (l:=920005) (z:=1) J J) (WP (λl=>if l=910005 then 920005 else l))) λq20 x19 h hx14=>?_;obtain⟨s17,s18⟩:=q20;refine S4 1 J<|c7 ?_;refine cN h (λhc h=>?_) λhc h=>?_
  .refine b8 ?_;refine jq h (λj25=>St.of [(1,.fn (.func 317) [.rptr [.L iF a1]]),(5,.sl 21),(8,.L g9.Pv a0),(9,.I (a0.length:Int)),(10,.I s17)] [(21,⟨List.map iF j25,(List.map iF j25).length,true,1,true⟩)]) (λj25 h=>?_) λκ24 h=>?_
   .refine S6 2 J ?_;exact eL h (Wk.trans (n0 _ [21]) (WP (λl=>if l=910005 then 21 else l)))
   .refine c8 ?_;refine S3 1 J<|iL h J J U1 Y0 λv26 _ h=>S2 4 J<|S3 2 J<|cA h xo J J λv27 _ h=>yN ?_;refine cN h (λhc h=>?_) λhc h=>?_
    .refine S5 2 J ?_;refine y0 J (H5 (f:=iF) (l:=[s17]) J g5 m7 A0 J J nl J J)<|s7 h λv28 hv21 h=>I2 J (F7 (f:=iF) hv21 J J J J J J (.inl ⟨_,J,J⟩) g5 m7 F9 A0 J (λ_=>J)) J J J<|S2 1 J ?_;exact eJ h (Wk.trans (n0 _ [21]) W)
    .refine b8 ?_;exact eJ h (Wk.trans (n0 _ [910005]) (WP (λl=>if l=21 then 910005 else l)))
  .refine n9 ?_;refine b9<|b9<|j5 ?_;have h:=xL hx14 h;exact eJ h (Wk.trans (n0 _ [910005]) W)
theorem BO{a0 a1}:PO prog 253 [.L g9.Pv a0,.L iF a1] (iX a0 a1) λr=>.tup [.L g9.Pv r.1,.L iF r.2]:=by
 refine pO func253 λr h _ _=>?_;unfold iX at h;refine S4 3 J<|S3 2 J<|s7 h λv1 hv1 h=>VS J (x4 J gm J hv1) J<|S2 1 J<|S3 1 J<|s7 h λv2 hv2 h=>YG J (CC J nU J hv2) J J<|S2 1 J<|S4 1 J ?_;refine jq h (λq=>St.of [(7,.sl 15),(8,.sl 910008)] [(910008,⟨List.map iF q.1,(List.map iF q.1).length,true,1,true⟩),(15,⟨List.map g9.Pv q.2,0,true,3,true⟩)]) (λq24 h=>?_) λκ21 h=>?_
 .obtain⟨j22,j23⟩:=q24;refine S4 4 J<|a8 ?_;cases h;exact f2
 .refine S3 1 J ?_;refine nL J g5<|S2 1 J<|c8<|lq h (λq=>St.of [(7,.sl 15),(8,.sl 910008),(16,.L iF v1),(17,.I (v1.length:Int)),(18,.I q.1)] [(15,⟨List.map g9.Pv q.2.1,0,true,3,true⟩),(910008,⟨List.map iF q.2.2,(List.map iF q.2.2).length,true,1,true⟩)]) (Wk.trans (D7 (t:=8) (l:=920008) (z:=1) J J) (WP (λl=>if l=910008 then 920008 else l))) λq30 x29 h hx18=>?_;obtain⟨s26,s27,s28⟩:=q30;refine S4 1 J<|c7 ?_;refine cN h (λhc h=>?_) λhc h=>?_
  .refine b8 ?_;refine jq h (λq=>St.of [(7,.sl 15),(8,.sl 35),(16,.L iF v1),(17,.I (v1.length:Int)),(18,.I s26)] [(35,⟨List.map iF q.1,(List.map iF q.1).length,true,1,true⟩),(15,⟨List.map g9.Pv q.2,0,true,3,true⟩)]) (λq38 h=>?_) λκ35 h=>?_
   .obtain⟨j36,j37⟩:=q38;refine S6 2 J ?_;exact eL h (Wk.trans (n0 _ [35]) (WP (λl=>if l=910008 then 35 else l)))
   .refine c8 ?_;refine sR<|iL h J J g5 m7 λv39 _ h=>S2 2 J<|S3 2 J<|s7 h λv40 hv25 h=>y0 J (aN (f:=g9.Pv) hv25 J J J J U1 Y0 J)<|S1 1 J<|iZ (f:=g9.Pv) (v:=(⟨v40.Target,false,v40.Call⟩:g9)) hv25 J J (.inl J) YK<|yN<|S3 2 J<|s7 h λv41 hv26 h=>y0 J (aN (f:=g9.Pv) hv26 J J J J U1 Y0 J)<|S1 1 J<|y0 J (wB (f:=g9.Pv) hv26 J J J x6 J)<|S2 1 J ?_;refine cN h (λhc h=>?_) λhc h=>?_
    .refine S5 2 J ?_;refine y0 J (H5 (f:=iF) (l:=[v39]) J g5 m7 A0 J J nl J J)<|s7 h λv42 hv27 h=>I2 J (F7 (f:=iF) hv27 J J J J J J (.inl ⟨_,J,J⟩) g5 m7 F9 A0 J (λ_=>J)) J J J<|S2 1 J ?_;exact eJ h (Wk.trans (n0 _ [35]) W)
    .refine b8 ?_;exact eJ h (Wk.trans (n0 _ [910008]) (WP (λl=>if l=35 then 910008 else l)))
  .refine n9 ?_;refine b9<|b9<|j5 ?_;have h:=xL hx18 h;exact eJ h (Wk.trans (n0 _ [910008]) W)
theorem uK{a0 a1}:PO prog 171 [b7.Pv a0,.L iF a1] (dR a0 a1) λr=>b7.Pv r:=by
 refine pO func171 λr h _ _=>?_;refine S4 2 J<|S3 3 J<|cF h BO J J λv1 _ h=>S2 5 J<|S4 3 J ?_;refine jq h (λj11=>St.of [(2,.ptr 2 0 0),(4,.ptr 4 0 0)] [(4,vR (.agg [.nl,.I 0,.I 0,.nl,.nl,.nl,.nl,.I 0]) 8),(2,vR (.agg [.L c4.Pv a0.S.S.Cells,.I a0.S.S.Last,.I a0.S.Serial,.L iF a0.Roots,.L g9.Pv v1.1,.L c9.Pv a0.T,.L l5.Pv j11.L,.I j11.Cap]) 8)]) (λj11 h=>?_) λκ10 h=>?_
 .refine S4 2 J ?_;refine a8 ?_;cases h;exact⟨J,[_],⟨oL J J J y6 u4 nl J,tr⟩,J,io⟩
 .refine S3 1 J ?_;refine nL J g5<|S2 1 J<|c8<|lq h (λq=>St.of [(2,.ptr 2 0 0),(4,.ptr 4 0 0),(5,.L g9.Pv v1.1),(18,.L iF v1.2),(19,.I (v1.2.length:Int)),(20,.I q.1)] [(4,vR (.agg [.nl,.I 0,.I 0,.nl,.nl,.nl,.nl,.I 0]) 8),(2,vR (.agg [.L c4.Pv a0.S.S.Cells,.I a0.S.S.Last,.I a0.S.Serial,.L iF a0.Roots,.L g9.Pv v1.1,.L c9.Pv a0.T,.L l5.Pv q.2.L,.I q.2.Cap]) 8)]) W λq16 x15 h hx11=>?_;obtain⟨s13,s14⟩:=q16;refine S4 1 J<|c7 ?_;refine cN h (λhc h=>?_) λhc h=>?_
  .refine b8 ?_;refine c7<|c8<|sR<|iL h J J g5 m7 λv17 _ h=>S2 2 J<|bJ [] p8 (by kernel_rfl) (by kernel_rfl)<|S7 5 J<|s7 h λv18 hv13 h=>d0 J (u7 (f:=g9.Pv) (cs:=g9.Pc v18) hv13 J J U1 Y0 J J) J<|S7 2 J<|d7 J (λ_ hN=>p9 (cs:=[.I 2,.I v17,.I v18.Call]) J Dh sK J J J) J<|s7 h λv19 hv14 h=>ax J (x4 J wX J hv14) J<|S7 4 J<|B6 (x':=.agg [.L c4.Pv a0.S.S.Cells,.I a0.S.S.Last,.I a0.S.Serial,.L iF a0.Roots,.L g9.Pv v1.1,.L c9.Pv a0.T,.L l5.Pv v19.1.L,.I v19.1.Cap]) (cl':=true) J J (.inr J) dh<|G6<|S6 2 J ?_;exact eL h W
  .refine n9 ?_;refine b9<|b9<|j5 ?_;have h:=xL hx11 h;exact eJ h W
theorem FN{a0}:PO prog 254 [.L iF a0] (qF a0) λr=>.fn (.func 320) [.rptr [.L iF r]]:=by
 refine pO func254 λr h _ _=>?_;unfold qF at h;refine S4 2 J<|S4 2 J<|a8 ?_;cases h;exact f1
theorem uU{a0}:PO prog 173 [.L iF a0] (gW a0) λr=>.L iF r:=by
 refine pO func173 λr h _ _=>?_;refine S4 1 J<|S4 1 J ?_;refine jq h (λj10=>St.of [(3,.ptr 2001 0 0)] [(2001,vS (.sl 912501) 1),(912501,⟨List.map iF j10,(List.map iF j10).length,true,1,true⟩)]) (λj10 h=>?_) λκ9 h=>?_
 .refine S4 2 J ?_;refine a8 ?_;cases h;exact f1
 .refine S3 1 J ?_;refine cF h FN J J λv11 _ h=>yN<|c8<|fL (yq (λl=>if l=2011 then 3 else l) [(3,.ptr 2011 0 0),(6,.fn (.func 320) [.rptr [.L iF v11]])] [(2011,vR (.nl) 1)]) ?_;refine dI (fn:=Tryz.f320) (N1:=20) J func320 J J nl J Sk J J (λl17 e18 o19 hR20=>?_);refine S3 1 J<|nL J g5<|S2 1 J<|c8<|lq h (λq=>St.of [(1000003,.ptr 2011 0 0),(1000006,.fn (.func 320) [.rptr [.L iF v11]]),(0,.fn (.yield l17) []),(5,.L iF v11),(6,.I (v11.length:Int)),(7,.I q.1)] [(2011,vS (.sl 912511) 1),(912511,⟨List.map iF q.2,(List.map iF q.2).length,true,1,true⟩)]) (Wk.trans (uZ (l0:=2011) (j:=0) (l:=922511) (z:=1) J J J J J) (WP (λl=>if l=912511 then 922511 else l))) λq16 x15 h hx23=>?_;obtain⟨s13,s14⟩:=q16;refine S4 1 J<|c7 ?_;refine cN h (λhc h=>?_) λhc h=>?_
  .refine b8 ?_;refine c7<|c8<|sR<|iL h J J g5 m7 λv17 _ h=>S2 2 J<|S3 3 J<|g8 J (λhg=>om (d:=.fn (.yield l17) []) J)<|g8 J (λhg=>mI J) ?_;rcases za6 ((v17 != 0)==true) with hg25 | hg25
   .have h:=WV h hg25;refine U9 (yq (λl=>if l=2019 then 912511 else l) [(1000003,.ptr 2011 0 0),(1000006,.fn (.func 320) [.rptr [.L iF v11]]),(0,.fn (.yield l17) []),(5,.L iF v11),(6,.I (v11.length:Int)),(7,.I s13),(13,.bool (v17 != 0)),(14,.fn (.yield l17) []),(15,.I v17)] [(2011,vS (.sl 2019) 1),(2019,⟨List.map iF s14,(List.map iF s14).length,true,1,true⟩)]) ?_;refine nD hR20 (zaj some hg25) J J J J J (λe26 o27 o28=>?_);refine S6 1 J ?_;refine⟨J,?_⟩;refine c8<|S5 2 J<|y0 J (H5 (f:=iF) (l:=[v17]) J g5 m7 A0 J J nl J J)<|s7 h λv18 hv29 h=>I2 J (F7 (f:=iF) hv29 J J J J J J (.inl ⟨_,J,J⟩) g5 m7 F9 A0 J (λ_=>J)) J J J<|S2 1 J ?_;refine⟨J,?_⟩;refine U9 (yq (λl=>if l=2020 then 11 else l) [(1000003,.ptr 2011 0 0),(1000006,.fn (.func 320) [.rptr [.L iF v11]]),(0,.fn (.yield l17) []),(5,.L iF v11),(6,.I (v11.length:Int)),(7,.I s13),(13,.bool (v17 != 0)),(16,.bool true)] [(2011,vS (.sl 2020) 1),(2020,⟨List.map iF v18,s14.length,true,1,true⟩)])<|y0 (zaj some hg25) (Z4 J J)<|y0 J (mQ J J hg25)<|yN ?_;refine K0 false J (λq=>nomatch q) (λ_=>?_);refine b8<|S6 2 J ?_;exact eL h (Wk.trans (n0 _ [2020]) (WP (λl=>if l=912511 then 2020 else l)))
   .have h:=WU h hg25;refine dX (zaj some hg25)<|dX (zaj some hg25)<|y0 J (pZ J J hg25)<|yN ?_;refine K0 false J (λq=>nomatch q) (λ_=>?_);refine b8<|S6 2 J ?_;exact eL h (Wk.trans (n0 _ [912511]) W)
  .refine n9 ?_;refine b9<|b9<|j5 ?_;refine .inl ⟨J,?_⟩;have h:=xL hx23 h;exact eJ h (Wk.trans (n0 _ [912511]) (WP (λl=>if l=2001 then 2011 else if l=912501 then 912511 else l)))
theorem vr{a0 a1}:PO prog 174 [.L c9.Pv a0,.L iF a1] (Z7 a0 a1) λr=>.tup [.L c9.Pv r.1,.L iF r.2]:=by
 refine pO func174 λr h _ _=>?_;refine S4 2 J<|S4 1 J ?_;refine jq h (λq=>St.of [(0,.L c9.Pv q.1),(6,.sl 910006)] [(910006,⟨List.map iF q.2,(List.map iF q.2).length,true,1,true⟩)]) (λq20 h=>?_) λκ17 h=>?_
 .obtain⟨j18,j19⟩:=q20;refine S4 4 J<|a8 ?_;cases h;exact f2
 .refine S3 1 J ?_;refine nL J g5<|S2 1 J<|c8<|lq h (λq=>St.of [(0,.L c9.Pv q.1),(6,.sl 910006),(12,.L iF a1),(13,.I (a1.length:Int)),(14,.I q.2.1)] [(910006,⟨List.map iF q.2.2,(List.map iF q.2.2).length,true,1,true⟩)]) (Wk.trans (D7 (t:=6) (l:=920006) (z:=1) J J) (WP (λl=>if l=910006 then 920006 else l))) λq26 x25 h hx14=>?_;obtain⟨s22,s23,s24⟩:=q26;refine S4 1 J<|c7 ?_;refine cN h (λhc h=>?_) λhc h=>?_
  .refine b8 ?_;refine jq h (λq=>St.of [(0,.L c9.Pv q.1),(6,.sl 31),(12,.L iF a1),(13,.I (a1.length:Int)),(14,.I s23)] [(31,⟨List.map iF q.2,(List.map iF q.2).length,true,1,true⟩)]) (λq33 h=>?_) λκ30 h=>?_
   .obtain⟨j31,j32⟩:=q33;refine S6 2 J ?_;exact eL h (Wk.trans (n0 _ [31]) (WP (λl=>if l=910006 then 31 else l)))
   .refine c8 ?_;refine sR<|iL h J J g5 m7 λv34 _ h=>S2 2 J<|S3 2 J<|cF h tp J J λv35 _ h=>S2 7 J<|S4 2 J ?_;refine cN h (λhc h=>?_) λhc h=>?_
    .refine S5 3 J ?_;refine y0 J (H5 (f:=iF) (l:=[v35.2.1]) J g5 m7 A0 J J nl J J)<|s7 h λv36 hv21 h=>I2 J (F7 (f:=iF) hv21 J J J J J J (.inl ⟨_,J,J⟩) g5 m7 F9 A0 J (λ_=>J)) J J J<|S2 2 J ?_;exact eJ h (Wk.trans (n0 _ [31]) W)
    .refine b8 ?_;exact eJ h (Wk.trans (n0 _ [910006]) (WP (λl=>if l=31 then 910006 else l)))
  .refine n9 ?_;refine b9<|b9<|j5 ?_;have h:=xL hx14 h;exact eJ h (Wk.trans (n0 _ [910006]) W)
theorem np{a0 a1}:PO prog 256 [g6.Pv a0,.I a1] (V3 a0 a1) λr=>.tup [g6.Pv r.1,.I r.2]:=by
 refine pO func256 λr h _ _=>?_;refine S4 3 J<|S3 2 J<|cF h ep J J λv1 _ h=>S2 6 J<|c7<|S4 2 J ?_;refine cN h (λhc h=>?_) λhc h=>?_
 .refine S4 4 J ?_;refine a8 ?_;cases h;exact⟨J,[_,_],⟨oL J J J fQ dg nl J,⟨J,tr⟩⟩,J,io⟩
 .refine b8 ?_;refine dr [] p8 (by kernel_rfl) (by kernel_rfl)<|S7 2 J<|s7 h λv2 hv2 h=>d2 J (B7 J oK J hv2) J<|S7 1 J<|s7 h λv3 hv3 h=>d2 J (B7 J rj J hv3) J<|S7 1 J<|d7 J (λ_ hN=>p9 (cs:=[.I 2,.I v3,.I v1.1.Serial,.I v1.1.Strong,.I v1.1.Weak,.I v1.1.Prog,.bool v1.1.Started,.L iF v1.1.Fields]) J xu pK J J J) J<|s7 h λv4 hv4 h=>ax J (x4 J K4 J hv4) J<|B6 (x':=g6.Pv v4) (cl':=true) J J (.inr J) dg<|S8 1 J<|a8 ?_;cases h;exact⟨J,[_,_],⟨oL J J J fQ dg nl J,⟨J,tr⟩⟩,J,io⟩
theorem vZ{a0 a1}:PO prog 175 [b7.Pv a0,.I a1] (ai a0 a1) λr=>b7.Pv r:=by
 refine pO func175 λr h _ _=>?_;refine S4 2 J<|S3 3 J<|cF h D5 J J λv1 _ h=>S2 6 J<|S3 1 J<|ja (x':=.agg [.I v1.1.Serial,.I v1.1.Strong,.I v1.1.Weak,.I v1.1.Prog,.bool v1.1.Started,.nl]) (cl':=true) J J (.inl J) vg<|S1 1 J<|ja (x':=.agg [.I v1.1.Serial,.I 0,.I v1.1.Weak,.I v1.1.Prog,.bool v1.1.Started,.nl]) (cl':=true) J J (.inl J) m7<|yN<|S3 4 J<|cF h bA J J λv2 _ h=>S2 5 J<|S3 4 J<|cF h np J J λv3 _ h=>S2 6 J<|c7<|S4 3 J ?_;refine cN h (λhc h=>?_) λhc h=>?_
 .refine S5 4 J ?_;refine cF h dS J J λv4 _ h=>S2 6 J<|S4 2 J<|a8 ?_;cases h;exact⟨J,[_],⟨oL J J J y6 u4 nl J,tr⟩,J,io⟩
 .refine b8 ?_;refine S4 2 J<|a8 ?_;cases h;exact⟨J,[_],⟨oL J J J y6 u4 nl J,tr⟩,J,io⟩
theorem px{a0 a1}:PO prog 107 [b7.Pv a0,.L iF a1] (aW a0 a1) λr=>b7.Pv r:=by
 refine pO func107 λr h _ _=>?_;refine S4 2 J<|S3 2 J<|cF h qR J J λv1 _ h=>S2 1 J<|S3 2 J<|cF h uK J J λv2 _ h=>S2 1 J<|S4 1 J<|S4 2 J ?_;refine jq h (λj13=>St.of [(2,.ptr 2 0 0),(4,.ptr 4 0 0),(5,.L iF v1),(6,.ptr 6 0 0),(7,.fn (.func 172) [.ptr 6 0 0])] [(6,vS (.sl 910506) 1),(910506,⟨List.map iF j13,(List.map iF j13).length,true,1,true⟩),(4,vR (.agg [.nl,.I 0,.I 0,.nl,.nl,.nl,.nl,.I 0]) 8),(2,vR (b7.Pv v2) 8)]) (λj13 h=>?_) λκ12 h=>?_
 .refine S3 3 J ?_;refine cF h vr J J λv14 _ h=>S2 5 J<|S3 2 J<|U9 (yq (λl=>if l=2025 then 6 else if l=2026 then 4 else if l=2027 then 2 else if l=2028 then 910506 else l) [(2,.ptr 2027 0 0),(4,.ptr 2026 0 0),(5,.L iF v1),(6,.ptr 2025 0 0),(12,.L c9.Pv v14.1),(51,.fn (.func 172) [.ptr 2025 0 0]),(52,.L iF v14.2)] [(2025,vS (.sl 2028) 1),(2028,⟨List.map iF j13,(List.map iF j13).length,true,1,true⟩),(2026,vR (.agg [.nl,.I 0,.I 0,.nl,.nl,.nl,.nl,.I 0]) 8),(2027,vR (b7.Pv v2) 8)]) ?_;refine CU (fn:=Tryz.f172) (N1:=6) J J func172 J KP J J nl (λe14 o15=>?_);refine S5 2 J<|s7 h λv15 hv16 h=>I2 J (F7 (f:=iF) hv16 J J J J J J (.inl ⟨_,J,J⟩) g5 m7 F9 A0 J (λ_=>J)) J J J<|S2 1 J ?_;refine⟨J,[],tr,?_⟩;refine U9 (yq (λl=>if l=2029 then 5 else l) [(2,.ptr 2027 0 0),(4,.ptr 2026 0 0),(5,.L iF v1),(6,.ptr 2025 0 0),(12,.L c9.Pv v14.1)] [(2025,vS (.sl 2029) 1),(2029,⟨List.map iF v15,j13.length,true,1,true⟩),(2026,vR (.agg [.nl,.I 0,.I 0,.nl,.nl,.nl,.nl,.I 0]) 8),(2027,vR (b7.Pv v2) 8)])<|yN<|S4 3 J ?_;refine jq h (λj24=>St.of [(2,.ptr 2027 0 0),(4,.ptr 2026 0 0),(6,.ptr 2025 0 0)] [(2025,vS (.sl 2029) 1),(2029,⟨List.map iF v15,j13.length,true,1,true⟩),(2026,vR (.agg [.nl,.I 0,.I 0,.nl,.nl,.nl,.nl,.I 0]) 8),(2027,vR (b7.Pv j24) 8)]) (λj24 h=>?_) λκ23 h=>?_
  .refine jq h (λj33=>St.of [(2,.ptr 2027 0 0),(4,.ptr 2026 0 0)] [(2026,vR (.agg [.nl,.I 0,.I 0,.nl,.nl,.nl,.nl,.I 0]) 8),(2027,vR (b7.Pv j33) 8)]) (λj33 h=>?_) λκ32 h=>?_
   .refine S4 2 J ?_;refine a8 ?_;cases h;exact⟨J,[_],⟨oL J J J y6 u4 nl J,tr⟩,J,io⟩
   .refine S3 1 J ?_;refine y0 J (Hg (f:=iF) J J J g5)<|S2 1 J<|c8<|lq h (λq=>St.of [(2,.ptr 2027 0 0),(4,.ptr 2026 0 0),(66,.sl 2029),(67,.I (v15.length:Int)),(68,.I q.1)] [(2029,⟨List.map iF v15,j13.length,true,1,true⟩),(2026,vR (.agg [.nl,.I 0,.I 0,.nl,.nl,.nl,.nl,.I 0]) 8),(2027,vR (b7.Pv q.2) 8)]) W λq38 x37 h hx31=>?_;obtain⟨s35,s36⟩:=q38;refine S4 1 J<|c7 ?_;refine cN h (λhc h=>?_) λhc h=>?_
    .refine b8 ?_;refine c7<|c8<|sR<|s7 h λv39 hv32 h=>y0 J (aN (f:=iF) hv32 J J J J g5 m7 J)<|y0 J (wB (f:=iF) hv32 J J J x6 J)<|S2 1 J<|S5 2 J<|cF h Z2 J J λv40 _ h=>S2 1 J<|S6 2 J ?_;exact eL h W
    .refine n9 ?_;refine b9<|b9<|j5 ?_;have h:=xL hx31 h;exact eJ h W
  .refine S3 1 J ?_;refine nL J g5<|S2 1 J<|c8<|lq h (λq=>St.of [(2,.ptr 2027 0 0),(4,.ptr 2026 0 0),(6,.ptr 2025 0 0),(56,.L iF v1),(57,.I (v1.length:Int)),(58,.I q.1)] [(2025,vS (.sl 2029) 1),(2029,⟨List.map iF v15,j13.length,true,1,true⟩),(2026,vR (.agg [.nl,.I 0,.I 0,.nl,.nl,.nl,.nl,.I 0]) 8),(2027,vR (b7.Pv q.2) 8)]) W λq45 x44 h hx36=>?_;obtain⟨s42,s43⟩:=q45;refine S4 1 J<|c7 ?_;refine cN h (λhc h=>?_) λhc h=>?_
   .refine b8 ?_;refine c7<|c8<|sR<|iL h J J g5 m7 λv46 _ h=>S2 2 J<|S5 2 J<|cF h vZ J J λv47 _ h=>S2 1 J<|S6 2 J ?_;exact eL h W
   .refine n9 ?_;refine b9<|b9<|j5 ?_;have h:=xL hx36 h;exact eJ h W
 .refine S3 1 J ?_;refine nL J g5<|S2 1 J<|c8<|lq h (λq=>St.of [(2,.ptr 2 0 0),(4,.ptr 4 0 0),(5,.L iF v1),(6,.ptr 6 0 0),(7,.fn (.func 172) [.ptr 6 0 0]),(25,.L iF v1),(26,.I (v1.length:Int)),(27,.I q.1)] [(6,vS (.sl 910506) 1),(4,vR (.agg [.nl,.I 0,.I 0,.nl,.nl,.nl,.nl,.I 0]) 8),(2,vR (b7.Pv v2) 8),(910506,⟨List.map iF q.2,(List.map iF q.2).length,true,1,true⟩)]) (Wk.trans (uZ (l0:=6) (j:=0) (l:=920506) (z:=1) J J J J J) (WP (λl=>if l=910506 then 920506 else l))) λq52 x51 h hx41=>?_;obtain⟨s49,s50⟩:=q52;refine S4 1 J<|c7 ?_;refine cN h (λhc h=>?_) λhc h=>?_
  .refine b8 ?_;refine c7<|c8<|sR<|iL h J J g5 m7 λv53 _ h=>S2 2 J<|S3 3 J<|cF h D5 J J λv54 _ h=>S2 6 J<|S5 3 J<|cF h uU J J λv55 _ h=>U9 (yq (λl=>if l=2049 then 6 else if l=2050 then 4 else if l=2051 then 2 else if l=2052 then 910506 else l) [(2,.ptr 2051 0 0),(4,.ptr 2050 0 0),(5,.L iF v1),(6,.ptr 2049 0 0),(7,.fn (.func 172) [.ptr 2049 0 0]),(25,.L iF v1),(26,.I (v1.length:Int)),(27,.I s49),(38,.fn (.func 172) [.ptr 2049 0 0]),(41,.L iF v55)] [(2049,vS (.sl 2052) 1),(2052,⟨List.map iF s50,(List.map iF s50).length,true,1,true⟩),(2050,vR (.agg [.nl,.I 0,.I 0,.nl,.nl,.nl,.nl,.I 0]) 8),(2051,vR (b7.Pv v2) 8)]) ?_;refine CU (fn:=Tryz.f172) (N1:=6) J J func172 J KP J J nl (λe45 o46=>?_);refine S5 2 J<|s7 h λv56 hv47 h=>I2 J (F7 (f:=iF) hv47 J J J J J J (.inl ⟨_,J,J⟩) g5 m7 F9 A0 J (λ_=>J)) J J J<|S2 1 J ?_;refine⟨J,[],tr,?_⟩;refine U9 (yq (λl=>if l=2053 then 5 else l) [(2,.ptr 2051 0 0),(4,.ptr 2050 0 0),(5,.L iF v1),(6,.ptr 2049 0 0),(7,.fn (.func 172) [.ptr 2049 0 0]),(25,.L iF v1),(26,.I (v1.length:Int)),(27,.I s49)] [(2049,vS (.sl 2053) 1),(2053,⟨List.map iF v56,s50.length,true,1,true⟩),(2050,vR (.agg [.nl,.I 0,.I 0,.nl,.nl,.nl,.nl,.I 0]) 8),(2051,vR (b7.Pv v2) 8)])<|yN<|S6 2 J ?_;exact eL h (Wk.trans (n0 _ [2053]) (WP (λl=>if l=2 then 2051 else if l=4 then 2050 else if l=6 then 2049 else if l=910506 then 2053 else l)))
  .refine n9 ?_;refine b9<|b9<|j5 ?_;have h:=xL hx41 h;exact eJ h (Wk.trans (n0 _ [910506]) W)
theorem bx{a0}:PO prog 103 [b7.Pv a0] (Q7 a0) λr=>b7.Pv r:=by
 refine pO func103 λr h _ _=>?_;refine S4 2 J<|lqS h (λs2=>St.of [(1,.ptr 1 0 0),(2,.ptr 2 0 0)] [(2,vR (.agg [.nl,.I 0,.I 0,.nl,.nl,.nl,.nl,.I 0]) 8),(1,vR (b7.Pv s2) 8)]) W λs2 x3 h hx3=>S3 1 J<|cF h AQ J J λv4 _ h=>S2 1 J<|c7<|S3 1 J<|nL J g5<|S2 1 J ?_;refine cN h (λhc h=>?_) λhc h=>?_
 .refine S4 2 J ?_;refine a8 ?_;have h:=xL hx3 h;cases h;exact⟨J,[_],⟨oL J J J y6 u4 nl J,tr⟩,J,io⟩
 .refine b8 ?_;refine c7<|dr [] p8 (by kernel_rfl) (by kernel_rfl)<|S7 3 J<|s7 h λv5 hv5 h=>d0 J (u7 (f:=iF) (cs:=[.I v5]) hv5 J J g5 m7 J J) J<|S7 1 J<|s7 h λv6 hv6 h=>ax J (x4 J D5 J hv6) J<|S7 4 J<|B6 (x':=n7.Pv v6.1) (cl':=true) J J (.inr J) ji<|S8 1 J<|S3 1 J<|cA h jQ J J λv7 _ h=>yN ?_;refine cN h (λhc h=>?_) λhc h=>?_
  .refine bJ [] p8 (by kernel_rfl) (by kernel_rfl) ?_;refine S7 2 J<|d0 J (u7 (f:=iF) (cs:=[.I v5]) hv5 J J g5 m7 J J) J<|S7 1 J<|s7 h λv8 hv8 h=>ax J (x4 J lO J hv8) J<|B6 (x':=b7.Pv v8) (cl':=true) J J (.inr J) u4<|G6<|Ma ?_;exact eS h W
  .refine bJ [] p8 (by kernel_rfl) (by kernel_rfl) ?_;refine S7 2 J<|s7 h λv9 hv9 h=>d0 J (JD (f:=iF) hv9 J J ⟨_,J⟩ g5 m7 (λ_=>J)) J<|s7 h λv10 hv10 h=>ax J (x4 J px J hv10) J<|B6 (x':=b7.Pv v10) (cl':=true) J J (.inr J) u4<|G6<|Ma ?_;exact eS h W
theorem jC{a0 a1}:PO prog 69 [b7.Pv a0,.I a1] (aM a0 a1) λr=>.I r:=by
 refine pO func69 λr h _ _=>?_;refine S4 2 J<|S3 3 J<|cF h D5 J J λv1 _ h=>S2 6 J<|S4 3 J<|a8 ?_;cases h;exact f1
theorem kp{a0 a1}:PO prog 163 [b7.Pv a0,.I a1] (cy a0 a1) λr=>.I r:=by
 refine pO func163 λr h _ _=>?_;unfold cy at h;refine S4 2 J<|dr [] p8 (by kernel_rfl) (by kernel_rfl)<|S7 3 J<|s7 h λv1 hv1 h=>d2 J (B7 J P3 J hv1) J<|s7 h λv2 hv2 h=>d2 J (B7 J jC J hv2) J<|S8 1 J<|a8 ?_;cases h;exact f1
theorem tJ{a0 a1 a2}:PO prog 104 [b7.Pv a0,b7.Pv a1,k8.Pv a2] (W3 a0 a1 a2) λr=>.I r:=by
 refine pO func104 λr h _ _=>?_;refine S4 4 J<|c7<|S4 2 J<|c8<|S4 2 J ?_;refine cN h (λhc h=>?_) λhc h=>?_
 .refine S3 3 J ?_;refine cA h kp J J λv1 _ h=>S2 1 J<|a8 ?_;cases h;exact f1
 .refine jq h (λj3=>St.of [(3,.ptr 3 0 0),(4,.ptr 4 0 0),(5,.ptr 5 0 0),(8,.I a2.Kind),(15,.bool j3)] [(5,vR (k8.Pv a2) 4),(4,vR (b7.Pv a1) 8),(3,vR (b7.Pv a0) 8)]) (λj3 h=>?_) λκ2 h=>?_
  .refine cN h (λhc h=>?_) λhc h=>?_
   .refine S3 3 J ?_;refine cA h kp J J λv4 _ h=>S2 1 J<|a8 ?_;cases h;exact f1
   .refine S4 2 J ?_;refine cN h (λhc h=>?_) λhc h=>?_
    .refine c7 ?_;refine dr [] p8 (by kernel_rfl) (by kernel_rfl)<|S7 3 J<|s7 h λv5 hv4 h=>d2 J (B7 J P3 J hv4) J<|S7 3 J<|s7 h λv6 hv5 h=>d2 J (B7 J P3 J hv5) J<|S8 1 J ?_;refine cN h (λhc h=>?_) λhc h=>?_
     .refine S4 1 J ?_;refine a8 ?_;cases h;exact f1
     .refine b8 ?_;refine S4 1 J<|a8 ?_;cases h;exact f1
    .refine b8 ?_;refine S3 3 J<|cA h kp J J λv7 _ h=>S2 1 J<|a8 ?_;cases h;exact f1
  .refine S4 2 J ?_;refine cN h (λhc h=>?_) λhc h=>?_
   .refine b8 ?_;exact eJ h W
   .refine S6 2 J ?_;exact eJ h W
theorem rl{a0 a1}:PO prog 59 [b7.Pv a0,k8.Pv a1] (z7 a0 a1) λr=>.tup [b7.Pv r.1,.I r.2.1,.I r.2.2]:=by
 refine pO func59 λr h _ _=>?_;refine S4 5 J<|c7<|S3 1 J<|cA h kf J J λv1 _ h=>S2 1 J<|S4 2 J ?_;refine cN h (λhc h=>?_) λhc h=>?_
 .refine S4 5 J ?_;refine a8 ?_;cases h;exact⟨J,[_,_,_],⟨oL J J J y6 u4 nl J,⟨J,⟨J,tr⟩⟩⟩,J,io⟩
 .refine b8 ?_;refine dr [] p8 (by kernel_rfl) (by kernel_rfl)<|s7 h λv2 hv2 h=>ax J (x4 J vC J hv2) J<|S7 2 J<|d4 J (Zr (es:=v2) (k:=a1.Kind) (E:=tg) (EK:=iF) (d:=.tup [tg ((D1 v2 a1.Kind).getD (none:Fv)),.bool ((D1 v2 a1.Kind).isSome)]) J J aH (C3 N3) SQ J (lk2 _ _ _)) J<|S8 5 J<|c7<|S4 2 J ?_;refine cN h (λhc h=>?_) λhc h=>?_
  .refine S4 4 J ?_;refine a8 ?_;cases h;exact⟨J,[_,_,_],⟨oL J J J y6 u4 nl J,⟨J,⟨J,tr⟩⟩⟩,J,io⟩
  .refine b8 ?_;refine S3 3 J<|y0 J (p9 (cs:=[.L c4.Pv a0.S.S.Cells,.I a0.S.S.Last,.I a0.S.Serial,.L iF a0.Roots,.L g9.Pv a0.Cells,.L c9.Pv a0.T,.L l5.Pv a0.Q.L,.I a0.Q.Cap,.I a1.Kind,.I a1.A,.I a1.B,.I a1.C]) J SA SS J J J) ?_;obtain⟨v3,hv3,h⟩:=oz h;obtain⟨n4,he4,hk5,hp6⟩:=Jo hv3;refine U9 (VP 30 J he4)<|yc J (Eh J hk5 J hp6)<|S2 6 J<|c7<|S4 2 J ?_;refine cN h (λhc h=>?_) λhc h=>?_
   .refine S4 5 J ?_;refine a8 ?_;cases h;exact⟨J,[_,_,_],⟨oL J J J y6 u4 nl J,⟨J,⟨J,tr⟩⟩⟩,J,io⟩
   .refine b8 ?_;refine S3 1 J<|cF h bx J J λv5 _ h=>S2 2 J<|dr [] p8 (by kernel_rfl) (by kernel_rfl)<|S7 4 J<|s7 h λv6 hv8 h=>d2 J (B7 J tJ J hv8) J<|B6 (x':=b7.Pv v5) (cl':=true) J J (.inr J) u4<|S8 2 J<|a8 ?_;cases h;exact⟨J,[_,_,_],⟨oL J J J y6 u4 nl J,⟨J,⟨J,tr⟩⟩⟩,J,io⟩
theorem BI{a0}:PO prog 382 [a7.Pv a0] (nh a0) λr=>.fn (.func 387) [.rptr (a7.Pc r)]:=by
 refine pO func382 λr h _ _=>?_;unfold nh at h;refine S4 2 J<|S4 2 J<|a8 ?_;cases h;exact f1
theorem wP{a0 a1}:PO prog 372 [a7.Pv a0,.I a1] (lH a0 a1) λr=>.L iF r:=by
 refine pO func372 λr h _ _=>?_;refine S4 2 J<|S3 2 J<|cF h D5 J J λv1 _ h=>S2 6 J<|S3 2 J<|cF h uU J J λv2 _ h=>S2 1 J<|a8 ?_;cases h;exact f1
theorem Kc{a0 a1}:PO prog 375 [a7.Pv a0,.I a1] (xW a0 a1) λr=>.I r:=by
 refine pO func375 λr h _ _=>?_;refine S4 3 J<|S4 2 J ?_;refine jq h (λj31=>St.of [(5,.ptr 2001 0 0)] [(2001,vR (.I j31) 1)]) (λj31 h=>?_) λκ30 h=>?_
 .refine S4 2 J ?_;refine a8 ?_;cases h;exact f1
 .refine S3 1 J ?_;refine cF h BI J J λv32 _ h=>yN<|c8<|fL (yq (λl=>if l=2003 then 5 else if l=2004 then 3 else l) [(3,.ptr 2004 0 0),(5,.ptr 2003 0 0),(9,.fn (.func 387) [.rptr (a7.Pc v32)])] [(2003,vR (.I 0) 1),(2004,vR (.I a1) 1)]) ?_;refine dI (fn:=Tryz.f387) (N1:=29) J func387 J J nl J Sr J J (λl33 e34 o35 hR36=>?_);refine Hs<|c7<|Hr<|S3 1 J<|cF h N2 J J λv33 _ h=>nL J g5<|S2 1 J<|c8<|lq h (λq=>St.of [(1000003,.ptr 2004 0 0),(1000005,.ptr 2003 0 0),(1000009,.fn (.func 387) [.rptr (a7.Pc v32)]),(0,.fn (.yield l33) []),(1,.rptr (a7.Pc v32)),(8,.L iF v33),(9,.I (v33.length:Int)),(10,.I q.1)] [(2003,vR (.I q.2) 1),(2004,vR (.I a1) 1)]) W λq38 x37 h hx40=>?_;obtain⟨s35,s36⟩:=q38;refine S4 1 J<|c7 ?_;refine cN h (λhc h=>?_) λhc h=>?_
  .refine b8 ?_;refine jq h (λj50=>St.of [(1000003,.ptr 2004 0 0),(1000005,.ptr 2003 0 0),(1000009,.fn (.func 387) [.rptr (a7.Pc v32)]),(0,.fn (.yield l33) []),(1,.rptr (a7.Pc v32)),(8,.L iF v33),(9,.I (v33.length:Int)),(10,.I s35)] [(2003,vR (.I j50) 1),(2004,vR (.I a1) 1)]) (λj50 h=>?_) λκ49 h=>?_
   .refine S6 2 J ?_;exact eL h W
   .refine c8 ?_;refine sR<|iL h J J g5 m7 λv51 _ h=>S2 2 J<|S3 2 J<|cF h wP J J λv52 _ h=>nL J g5<|S2 1 J<|c8<|lq h (λq=>St.of [(1000003,.ptr 2004 0 0),(1000005,.ptr 2003 0 0),(1000009,.fn (.func 387) [.rptr (a7.Pc v32)]),(0,.fn (.yield l33) []),(1,.rptr (a7.Pc v32)),(4,.I v51),(8,.L iF v33),(9,.I (v33.length:Int)),(10,.I s35),(16,.L iF v52),(17,.I (v52.length:Int)),(18,.I q.1)] [(2003,vR (.I q.2) 1),(2004,vR (.I a1) 1)]) W λq57 x56 h hx56=>?_;obtain⟨s54,s55⟩:=q57;refine S4 1 J<|c7 ?_;refine cN h (λhc h=>?_) λhc h=>?_
    .refine b8 ?_;refine c7<|c8<|sR<|iL h J J g5 m7 λv58 _ h=>S2 2 J<|S3 3 J<|U9 (WE [(1000003,.ptr 2004 0 0),(1000005,.ptr 2003 0 0),(1000009,.fn (.func 387) [.rptr (a7.Pc v32)]),(0,.fn (.yield l33) []),(1,.rptr (a7.Pc v32)),(4,.I v51),(8,.L iF v33),(9,.I (v33.length:Int)),(10,.I s35),(16,.L iF v52),(17,.I (v52.length:Int)),(18,.I s54),(22,.fn (.yield l33) []),(23,.I v51),(24,.I v58)] [(2003,vR (.I s55) 1),(2004,vR (.I a1) 1)]) ?_;refine nD hR36 J J J J J J (λe58 o59 o60=>?_);refine S6 1 J ?_;refine⟨J,?_⟩;refine jqE h (λj60=>St.of [(2000003,.ptr 2004 0 0),(2000005,.ptr 2003 0 0),(2000009,.fn (.func 387) [.rptr (a7.Pc v32)]),(1000000,.fn (.yield l33) []),(1000001,.rptr (a7.Pc v32)),(1000004,.I v51),(1000008,.L iF v33),(1000009,.I (v33.length:Int)),(1000010,.I s35),(1000016,.L iF v52),(1000017,.I (v52.length:Int)),(1000018,.I s54),(1000022,.fn (.yield l33) []),(1000023,.I v51),(1000024,.I v58)] [(2003,vR (.I j60) 1),(2004,vR (.I a1) 1)]) (λj60 h=>?_) λκ59 h=>?_
     .refine⟨J,?_⟩;refine U9 (WE [(1000003,.ptr 2004 0 0),(1000005,.ptr 2003 0 0),(1000009,.fn (.func 387) [.rptr (a7.Pc v32)]),(0,.fn (.yield l33) []),(1,.rptr (a7.Pc v32)),(4,.I v51),(8,.L iF v33),(9,.I (v33.length:Int)),(10,.I s35),(16,.L iF v52),(17,.I (v52.length:Int)),(18,.I s54),(25,.bool true)] [(2003,vR (.I j60) 1),(2004,vR (.I a1) 1)])<|S2 1 J ?_;refine K0 false J (λq=>nomatch q) (λ_=>?_);refine b8<|S6 2 J ?_;exact eL h W
     .refine c8 ?_;refine S4 3 J ?_;refine cN h (λhc h=>?_) λhc h=>?_
      .refine S6 3 J ?_;exact eJ h W
      .refine b8 ?_;exact eJ h W
    .refine n9 ?_;refine b9<|b9<|j5 ?_;have h:=xL hx56 h;exact eJ h W
  .refine n9 ?_;refine b9<|b9<|j5<|BJ ?_;refine .inl ⟨J,?_⟩;have h:=xL hx40 h;exact eJ h (WP (λl=>if l=2001 then 2003 else l))
theorem oD{a0}:PO prog 384 [.L c9.Pv a0] (cM a0) λr=>.fn (.func 388) [.rptr [.L c9.Pv r]]:=by
 refine pO func384 λr h _ _=>?_;unfold cM at h;refine S4 2 J<|S4 2 J<|a8 ?_;cases h;exact f1
theorem tt{a0}:PO prog 389 [.L c9.Pv a0] (kU a0) λr=>.L iF r:=by
 refine pO func389 λr h _ _=>?_;refine S4 1 J<|S4 1 J ?_;refine jq h (λj13=>St.of [(3,.sl 910003)] [(910003,⟨List.map iF j13,(List.map iF j13).length,true,1,true⟩)]) (λj13 h=>?_) λκ12 h=>?_
 .refine S4 2 J ?_;refine a8 ?_;cases h;exact f1
 .refine S3 1 J ?_;refine nL J al<|S2 1 J<|c8<|lq h (λq=>St.of [(3,.sl 910003),(6,.L c9.Pv a0),(7,.I (a0.length:Int)),(8,.I q.1)] [(910003,⟨List.map iF q.2,(List.map iF q.2).length,true,1,true⟩)]) (Wk.trans (D7 (t:=3) (l:=920003) (z:=1) J J) (WP (λl=>if l=910003 then 920003 else l))) λq18 x17 h hx12=>?_;obtain⟨s15,s16⟩:=q18;refine S4 1 J<|c7 ?_;refine cN h (λhc h=>?_) λhc h=>?_
  .refine b8 ?_;refine jq h (λj22=>St.of [(3,.sl 19),(6,.L c9.Pv a0),(7,.I (a0.length:Int)),(8,.I s15)] [(19,⟨List.map iF j22,(List.map iF j22).length,true,1,true⟩)]) (λj22 h=>?_) λκ21 h=>?_
   .refine S6 2 J ?_;exact eL h (Wk.trans (n0 _ [19]) (WP (λl=>if l=910003 then 19 else l)))
   .refine c8 ?_;refine sR<|iL h J J al bg λv23 _ h=>S2 3 J<|S4 3 J ?_;refine cN h (λhc h=>?_) λhc h=>?_
    .refine S5 3 J ?_;refine y0 J (H5 (f:=iF) (l:=[v23.Key]) J g5 m7 A0 J J nl J J)<|s7 h λv24 hv17 h=>I2 J (F7 (f:=iF) hv17 J J J J J J (.inl ⟨_,J,J⟩) g5 m7 F9 A0 J (λ_=>J)) J J J<|S2 1 J ?_;exact eJ h (Wk.trans (n0 _ [19]) W)
    .refine b8 ?_;exact eJ h (Wk.trans (n0 _ [910003]) (WP (λl=>if l=19 then 910003 else l)))
  .refine n9 ?_;refine b9<|b9<|j5 ?_;have h:=xL hx12 h;exact eJ h (Wk.trans (n0 _ [910003]) W)
theorem vp{a0 a1}:PO prog 385 [p6.Pv a0,.rptr [.I a1]] (fp a0 a1) λr=>.bool r:=by
 refine pO func385 λr h _ _=>?_;unfold fp at h;refine S4 2 J<|S3 3 J<|g8 J (λhg=>oF J BZ J)<|g8 J (λhg=>oS (ct hg) J J x6 J)<|g8 J (λhg=>D6 J x6 J)<|g8 J (λhg=>r9 (ct hg) (ct hg) J)<|y0 J (w8 J J J (λq=>V0 q))<|S2 1 J<|a8 ?_;cases h;exact f1
theorem L5{a0 a1}:PO prog 383 [.fn (.func 388) [.rptr [.L c9.Pv a0]],.fn (.func 385) [.rptr [.I a1]]] (C4 a0 a1) λr=>.L p6.Pv r:=by
 refine pO func383 λr h _ _=>?_;refine S4 2 J<|S4 1 J ?_;refine jq h (λj16=>St.of [(5,.ptr 2001 0 0)] [(2001,vS (.sl 912501) 1),(912501,⟨List.map p6.Pv j16,(List.map p6.Pv j16).length,true,2,true⟩)]) (λj16 h=>?_) λκ15 h=>?_
 .refine S4 2 J ?_;refine a8 ?_;cases h;exact f1
 .refine S4 1 J ?_;refine c8<|fL (yq (λl=>if l=2012 then 5 else if l=2013 then 3 else l) [(3,.ptr 2013 0 0),(5,.ptr 2012 0 0),(7,.fn (.func 388) [.rptr [.L c9.Pv a0]])] [(2012,vR (.nl) 1),(2013,vR (.fn (.func 385) [.rptr [.I a1]]) 1)]) ?_;refine dI (fn:=Tryz.f388) (N1:=27) J func388 J J nl J KS J J (λl20 e21 o22 hR23=>?_);refine S3 1 J<|cF h tt J J λv17 _ h=>nL J g5<|S2 1 J<|c8<|lq h (λq=>St.of [(1000003,.ptr 2013 0 0),(1000005,.ptr 2012 0 0),(1000007,.fn (.func 388) [.rptr [.L c9.Pv a0]]),(0,.fn (.yield l20) []),(1,.rptr [.L c9.Pv a0]),(8,.L iF v17),(9,.I (v17.length:Int)),(10,.I q.1)] [(2012,vS (.sl 912512) 1),(2013,vR (.fn (.func 385) [.rptr [.I a1]]) 1),(912512,⟨List.map p6.Pv q.2,(List.map p6.Pv q.2).length,true,2,true⟩)]) (Wk.trans (uZ (l0:=2012) (j:=0) (l:=922512) (z:=2) J J J J J) (WP (λl=>if l=912512 then 922512 else l))) λq22 x21 h hx27=>?_;obtain⟨s19,s20⟩:=q22;refine S4 1 J<|c7 ?_;refine cN h (λhc h=>?_) λhc h=>?_
  .refine b8 ?_;refine c7<|c8<|sR<|iL h J J g5 m7 λv23 _ h=>S2 2 J<|S3 2 J<|cA h jw J J λv24 _ h=>S2 5 J<|S3 3 J<|y0 J (p9 (cs:=[.I v23,.I v24.1]) J KX pN J J J)<|U9 (yq (λl=>if l=2021 then 912512 else l) [(1000003,.ptr 2013 0 0),(1000005,.ptr 2012 0 0),(1000007,.fn (.func 388) [.rptr [.L c9.Pv a0]]),(0,.fn (.yield l20) []),(1,.rptr [.L c9.Pv a0]),(8,.L iF v17),(9,.I (v17.length:Int)),(10,.I s19),(20,.fn (.yield l20) []),(23,.agg [.I v23,.I v24.1])] [(2012,vS (.sl 2021) 1),(2021,⟨List.map p6.Pv s20,(List.map p6.Pv s20).length,true,2,true⟩),(2013,vR (.fn (.func 385) [.rptr [.I a1]]) 1)]) ?_;refine nD hR23 J J J J J J (λe30 o31 o32=>?_);refine S6 2 J ?_;refine⟨J,?_⟩;refine jqE h (λj28=>St.of [(2000003,.ptr 2013 0 0),(2000005,.ptr 2012 0 0),(2000007,.fn (.func 388) [.rptr [.L c9.Pv a0]]),(1000000,.fn (.yield l20) []),(1000001,.rptr [.L c9.Pv a0]),(1000008,.L iF v17),(1000009,.I (v17.length:Int)),(1000010,.I s19),(1000020,.fn (.yield l20) []),(1000023,.agg [.I v23,.I v24.1])] [(2012,vS (.sl 15) 1),(15,⟨List.map p6.Pv j28,(List.map p6.Pv j28).length,true,2,true⟩),(2013,vR (.fn (.func 385) [.rptr [.I a1]]) 1)]) (λj28 h=>?_) λκ27 h=>?_
   .refine⟨J,?_⟩;refine U9 (yq (λl=>if l=2022 then 15 else l) [(1000003,.ptr 2013 0 0),(1000005,.ptr 2012 0 0),(1000007,.fn (.func 388) [.rptr [.L c9.Pv a0]]),(0,.fn (.yield l20) []),(1,.rptr [.L c9.Pv a0]),(8,.L iF v17),(9,.I (v17.length:Int)),(10,.I s19),(24,.bool true)] [(2012,vS (.sl 2022) 1),(2022,⟨List.map p6.Pv j28,(List.map p6.Pv j28).length,true,2,true⟩),(2013,vR (.fn (.func 385) [.rptr [.I a1]]) 1)])<|S2 1 J ?_;refine K0 false J (λq=>nomatch q) (λ_=>?_);refine b8<|S6 2 J ?_;exact eL h (Wk.trans (n0 _ [2022]) (WP (λl=>if l=912512 then 2022 else l)))
   .refine c8 ?_;refine S3 2 J<|cA h vp J J λv29 _ h=>yN ?_;refine cN h (λhc h=>?_) λhc h=>?_
    .refine S5 2 J ?_;refine y0 J (H5 (f:=p6.Pv) (l:=[(⟨v23,v24.1⟩:p6)]) J md sH pN J J nl J J)<|s7 h λv30 hv37 h=>I2 J (F7 (f:=p6.Pv) hv37 J J J J J J (.inl ⟨_,J,J⟩) md sH KO pN J (λ_=>J)) J J J<|S2 1 J ?_;exact eJ h (Wk.trans (n0 _ [15]) W)
    .refine b8 ?_;exact eJ h (Wk.trans (n0 _ [2021]) (WP (λl=>if l=15 then 2021 else l)))
  .refine n9 ?_;refine b9<|b9<|j5 ?_;refine .inl ⟨J,?_⟩;have h:=xL hx27 h;exact eJ h (Wk.trans (n0 _ [912512]) (WP (λl=>if l=2001 then 2012 else if l=912501 then 912512 else l)))
theorem yB{a0 a1}:PO prog 376 [.L c9.Pv a0,.I a1] (js a0 a1) λr=>.I r:=by
 refine pO func376 λr h _ _=>?_;refine S4 2 J<|S3 1 J<|cF h oD J J λv1 _ h=>S1 1 J<|s7 h λv2 hv2 h=>VS J (x4 J L5 J hv2) J<|nL J md<|S2 1 J<|a8 ?_;cases h;exact f1
theorem AW{a0 a1 a2}:PO prog 358 [a7.Pv a0,.L c9.Pv a1,.I a2] (jS a0 a1 a2) λr=>.I r:=by
 refine pO func358 λr h _ _=>?_;refine S4 2 J<|S3 2 J<|cA h Kc J J λv1 _ h=>S1 2 J<|cA h yB J J λv2 _ h=>S2 2 J<|a8 ?_;cases h;exact f1
theorem BN{a0 a1 a2}:PO prog 329 [a7.Pv a0,.L c9.Pv a1,.I a2] (ny a0 a1 a2) λr=>.I r:=by
 refine pO func329 λr h _ _=>?_;refine S4 2 J<|S3 2 J<|cF h D5 J J λv1 _ h=>S2 6 J<|c7<|S4 2 J ?_;refine cN h (λhc h=>?_) λhc h=>?_
 .refine S4 1 J ?_;refine a8 ?_;cases h;exact f1
 .refine b8 ?_;refine dr [] p8 (by kernel_rfl) (by kernel_rfl)<|S7 5 J<|s7 h λv2 hv2 h=>d2 J (B7 J AW J hv2) J<|S8 2 J<|a8 ?_;cases h;exact f1
theorem yw{a0}:PO prog 330 [.I a0] (oB a0) λr=>.bool r:=by
 refine pO func330 λr h _ _=>?_;refine S4 1 J<|S3 1 J<|cA h aJ J J λv1 _ h=>S2 1 J<|a8 ?_;cases h;exact f1
theorem xn{a0 a1 a2 a3}:PO prog 328 [.I a0,n7.Pv a1,.rptr (a7.Pc a2),.rptr [.L c9.Pv a3]] (nx a0 a1 a2 a3) λr=>.bool r:=by
 refine pO func328 λr h _ _=>?_;refine S4 2 J<|S3 3 J<|cA h BN J J λv1 _ h=>S1 2 J<|g8 J (λhg=>oF J MN J)<|g8 J (λhg=>oS (ct hg) J J x6 J)<|s7 h λv2 hv2 h=>g8 J (λhg=>B7 J yw (A3 (ct hg) J) (C8 hv2 hg))<|y0 J (y5 J J J (λq=>P1 q))<|S2 1 J<|a8 ?_;cases h;exact f1
theorem BM{a0 a1}:PO prog 261 [a7.Pv a0,.L c9.Pv a1] (nw a0 a1) λr=>.L iF r:=by
 refine pO func261 λr h _ _=>?_;refine S4 3 J<|S3 1 J<|y0 J (p9 (cs:=[.fn (.func 328) [.ptr 2 0 0,.ptr 3 0 0]]) J SF SX J J J)<|U9 (nV 7 (d':=.agg [.fn (.func 328) [.ptr 2 0 0,.ptr 3 0 0]]) J)<|S2 2 J<|S3 2 J<|U9 (yq (λl=>if l=2001 then 3 else if l=2002 then 2 else l) [(8,.agg [.fn (.func 328) [.ptr 2002 0 0,.ptr 2001 0 0]]),(9,a7.Pv a0)] [(2001,vR (.L c9.Pv a1) 1),(2002,vR (a7.Pv a0) 3)]) ?_;refine CU (fn:=Tryz.f331) (N1:=34) J J func331 J Sl J J nl (λe1 o2=>?_);refine jqR h (λj36=>St.of [(1000008,.agg [.fn (.func 328) [.ptr 2002 0 0,.ptr 2001 0 0]]),(1000009,a7.Pv a0),(4,.sl 910005)] [(910005,⟨List.map iF j36,(List.map iF j36).length,true,1,true⟩),(2001,vR (.L c9.Pv a1) 1),(2002,vR (a7.Pv a0) 3)]) (λj36 h=>dup ?_) λκ35 h=>?_
 .refine⟨J,[.sl 910005],⟨J,tr⟩,?_⟩;refine U9 (yq (λl=>if l=2003 then 910005 else l) [(10,.sl 2003)] [(2003,⟨List.map iF j36,(List.map iF j36).length,true,1,true⟩)])<|S2 1 J<|a8 ?_;cases h;exact f1
 .refine S4 3 J ?_;refine S4 1 J ?_;refine jq h (λj54=>St.of [(1000008,.agg [.fn (.func 328) [.ptr 2002 0 0,.ptr 2001 0 0]]),(1000009,a7.Pv a0),(5,.sl 910005)] [(910005,⟨List.map iF j54,(List.map iF j54).length,true,1,true⟩),(2001,vR (.L c9.Pv a1) 1),(2002,vR (a7.Pv a0) 3)]) (λj54 h=>?_) λκ53 h=>?_
  .refine S4 2 J ?_;refine a8 ?_;exact eJ h (Wk.trans (n0 _ [910005]) W)
  .refine S3 1 J ?_;refine cF h N2 J J λv55 _ h=>nL J g5<|S2 1 J<|c8<|lq h (λq=>St.of [(1000008,.agg [.fn (.func 328) [.ptr 2002 0 0,.ptr 2001 0 0]]),(1000009,a7.Pv a0),(2,.ptr 2 0 0),(3,.ptr 3 0 0),(5,.sl 910005),(11,.L iF v55),(12,.I (v55.length:Int)),(13,.I q.1)] [(3,vR (a7.Pv a0) 3),(2,vS (.agg [.fn (.func 328) [.ptr 2002 0 0,.ptr 2001 0 0]]) 1),(2001,vR (.L c9.Pv a1) 1),(2002,vR (a7.Pv a0) 3),(910005,⟨List.map iF q.2,(List.map iF q.2).length,true,1,true⟩)]) (Wk.trans (D7 (t:=5) (l:=920005) (z:=1) J J) (WP (λl=>if l=910005 then 920005 else l))) λq60 x59 h hx48=>?_;obtain⟨s57,s58⟩:=q60;refine S4 1 J<|c7 ?_;refine cN h (λhc h=>?_) λhc h=>?_
   .refine b8 ?_;refine jq h (λj66=>St.of [(1000008,.agg [.fn (.func 328) [.ptr 2002 0 0,.ptr 2001 0 0]]),(1000009,a7.Pv a0),(2,.ptr 2 0 0),(3,.ptr 3 0 0),(5,.sl 31),(11,.L iF v55),(12,.I (v55.length:Int)),(13,.I s57)] [(31,⟨List.map iF j66,(List.map iF j66).length,true,1,true⟩),(3,vR (a7.Pv a0) 3),(2,vS (.agg [.fn (.func 328) [.ptr 2002 0 0,.ptr 2001 0 0]]) 1),(2001,vR (.L c9.Pv a1) 1),(2002,vR (a7.Pv a0) 3)]) (λj66 h=>?_) λκ65 h=>?_
    .refine S6 2 J ?_;exact eL h (Wk.trans (n0 _ [31]) (WP (λl=>if l=910005 then 31 else l)))
    .refine c8 ?_;refine sR<|iL h J J g5 m7 λv67 _ h=>S2 2 J<|S3 2 J<|cF h D5 J J λv68 _ h=>S2 6 J<|S3 4 J<|cA h xn J J λv69 _ h=>yN ?_;refine cN h (λhc h=>?_) λhc h=>?_
     .refine S5 2 J ?_;refine y0 J (H5 (f:=iF) (l:=[v67]) J g5 m7 A0 J J nl J J)<|s7 h λv70 hv57 h=>I2 J (F7 (f:=iF) hv57 J J J J J J (.inl ⟨_,J,J⟩) g5 m7 F9 A0 J (λ_=>J)) J J J<|S2 1 J ?_;exact eJ h (Wk.trans (n0 _ [31]) W)
     .refine b8 ?_;exact eJ h (Wk.trans (n0 _ [910005]) (WP (λl=>if l=31 then 910005 else l)))
   .refine n9 ?_;refine b9<|b9<|j5 ?_;have h:=xL hx48 h;exact eJ h (Wk.trans (n0 _ [910005]) W)
theorem vM{a0}:PO prog 366 [.I a0] (fy a0) λr=>l7.Pv r:=by
 refine pO func366 λr h _ _=>?_;unfold fy at h;refine S4 1 J<|S3 1 J<|y0 J (p9 (cs:=[.nl,.I a0]) J SH SZ J J J)<|ja (x':=.agg [.nl,.I a0]) (cl':=true) J J (.inl J) jj<|yN<|a8 ?_;cases h;exact⟨J,[_],⟨oL J J J pG jj nl J,tr⟩,J,io⟩
theorem nQ{a0 a1}:PO prog 368 [a7.Pv a0,.I a1] (bw a0 a1) λr=>.bool r:=by
 refine pO func368 λr h _ _=>?_;refine S4 2 J<|S3 2 J<|cF h D5 J J λv1 _ h=>S2 6 J<|S4 3 J<|a8 ?_;cases h;exact f1
theorem W5{a0}:PO prog 370 [l7.Pv a0] (M9 a0) λr=>.I r:=by
 refine pO func370 λr h _ _=>?_;unfold M9 at h;refine S4 2 J<|S3 2 J<|nL J g5<|S2 1 J<|a8 ?_;cases h;exact f1
end Go.Proofs.YtjlokngooekbcaaGreat.Ok
