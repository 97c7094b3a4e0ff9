/- A part. -/
import Derived.Test.YtjlokngooekbcaaGreatEOk3
set_option linter.unusedVariables false
set_option linter.unusedSimpArgs false
set_option linter.unusedSectionVars false
namespace Go.Proofs.YtjlokngooekbcaaGreat.Ok
open Go Go.Pw Go.Sh Go.Proofs Tryz
set_option maxRecDepth 100000
set_option maxHeartbeats 4000000
theorem JX{a0 a1 a2 a3}:PO prog 273 [.L m9.Pv a0,.I a1,.I a2,.I a3] (xR a0 a1 a2 a3) λr=>.tup [.L m9.Pv r.1,.I r.2.1,.I r.2.2]:=by
 refine pO func273 λr h _ _=>?_;refine S4 3 J<|c7<|S3 3 J<|g8 J (λhg=>mI J)<|g8 J (λhg=>om (d:=.L m9.Pv a0) J)<|g8 J (λhg=>N8 (f:=m9.Pv) (ct hg) K9)<|g8 J (λhg=>r9 (ct hg) (ct hg) J)<|y0 J (y5 J J J (λq=>P1 q))<|yN ?_;refine cN h (λhc h=>?_) λhc h=>?_
 .refine S4 4 J ?_;refine a8 ?_;cases h;exact f3
 .refine b8 ?_;refine sR<|y0 J (A9 J K9 O3)<|S1 1 J<|s7 h λv1 hv1 h=>y1 J (iE (f:=m9.Pv) hv1 J J (.inl ⟨_,J,J⟩) K9 O3 Dd pL J (λ_=>J)) J<|S2 1 J<|S3 6 J<|y0 J (p9 (cs:=[.I a2,.bool (a2 != 0),.I a3]) J Sy pL J J J)<|s7 h λv2 hv2 h=>y0 J (aN (f:=m9.Pv) hv2 J J J J K9 O3 J)<|iZ (f:=m9.Pv) (v:=(⟨a2,(a2 != 0),a3⟩:m9)) hv2 J J (.inl J) O3<|yN<|dr [] p8 (by kernel_rfl) (by kernel_rfl)<|S7 3 J<|s7 h λv3 hv3 h=>d0 J (u7 (f:=m9.Pv) (cs:=m9.Pc v3) hv3 J J K9 O3 J J) J<|S8 5 J<|a8 ?_;cases h;exact f3
theorem pe{a0 a1}:PO prog 274 [c5.Pv a0,.I a1] (aS a0 a1) λr=>c5.Pv r:=by
 refine pO func274 λr h _ _=>?_;refine S4 2 J<|S3 2 J<|cF h K1 J J λv1 _ h=>S1 1 J<|cA h X8 J J λv2 _ h=>S2 5 J<|c7<|S4 2 J ?_;refine cN h (λhc h=>?_) λhc h=>?_
 .refine S4 2 J ?_;refine a8 ?_;cases h;exact⟨J,[_],⟨oL J J J A6 w9 nl J,tr⟩,J,io⟩
 .refine b8 ?_;refine S3 4 J<|iL h J J G3 G5 λv3 _ h=>S2 4 J<|S4 5 J<|S3 4 J<|cF h eR J J λv4 _ h=>S2 5 J<|c7<|S3 4 J<|iL h J J G3 G5 λv5 _ h=>S1 4 J<|g8 J (λhg=>oF J kL J)<|g8 J (λhg=>oS (ct hg) J J x6 J)<|g8 J (λhg=>r9 (ct hg) J J)<|y0 J (w8 J J J (λq=>V0 q))<|yN ?_;refine cN h (λhc h=>?_) λhc h=>?_
  .refine S5 3 J ?_;refine cF h wF J J λv6 _ h=>S2 2 J<|S4 2 J<|a8 ?_;cases h;exact⟨J,[_],⟨oL J J J A6 w9 nl J,tr⟩,J,io⟩
  .refine b8 ?_;refine S4 2 J<|a8 ?_;cases h;exact⟨J,[_],⟨oL J J J A6 w9 nl J,tr⟩,J,io⟩
theorem wK{a0 a1 a2 a3}:PO prog 195 [c5.Pv a0,.I a1,.I a2,.I a3] (dM a0 a1 a2 a3) λr=>.tup [c5.Pv r.1,.I r.2]:=by
 refine pO func195 λr h _ _=>?_;unfold dM at h;refine S4 3 J<|c7<|S3 3 J<|g8 J (λhg=>mI J)<|g8 J (λhg=>r9 (ct hg) J J)<|y0 J (y5 J J J (λq=>P1 q))<|S1 1 J<|g8 J (λhg=>oF J kK J)<|g8 J (λhg=>oL (ct hg) J J mb fT nl J)<|g8 J (λhg=>mI J)<|s7 h λv1 hv1 h=>g8 J (λhg=>B7 J uu (A3 (ct hg) (A3 (ct hg) J)) (C8 hv1 hg))<|y0 J (y5 J J J (λq=>P1 q))<|yN ?_;refine cN h (λhc h=>?_) λhc h=>?_
 .refine S4 3 J ?_;refine a8 ?_;cases h;exact⟨J,[_,_],⟨oL J J J A6 w9 nl J,⟨J,tr⟩⟩,J,io⟩
 .refine b8 ?_;refine c7<|S3 2 J<|cA h br J J λv2 _ h=>S2 1 J ?_;refine cN h (λhc h=>?_) λhc h=>?_
  .refine S4 3 J ?_;refine a8 ?_;cases h;exact⟨J,[_,_],⟨oL J J J A6 w9 nl J,⟨J,tr⟩⟩,J,io⟩
  .refine b8 ?_;refine S3 5 J<|cF h JX J J λv3 _ h=>S2 7 J<|S4 3 J<|c7<|S4 2 J ?_;refine cN h (λhc h=>?_) λhc h=>?_
   .refine S3 3 J ?_;refine cF h E8 J J λv4 _ h=>S2 6 J<|S4 5 J<|S5 4 J<|cF h eR J J λv5 _ h=>S2 5 J<|S3 2 J<|cF h pe J J λv6 _ h=>S2 2 J<|a8 ?_;cases h;exact⟨J,[_,_],⟨oL J J J A6 w9 nl J,⟨J,tr⟩⟩,J,io⟩
   .refine b8 ?_;refine S3 2 J<|cF h pe J J λv7 _ h=>S2 2 J<|a8 ?_;cases h;exact⟨J,[_,_],⟨oL J J J A6 w9 nl J,⟨J,tr⟩⟩,J,io⟩
theorem nf{a0 a1}:PO prog 196 [c5.Pv a0,.I a1] (W8 a0 a1) λr=>.tup [.I r.1,.I r.2]:=by
 refine pO func196 λr h _ _=>?_;refine S4 3 J<|c7<|S3 3 J<|iL h J J g5 m7 λv1 hv1 h=>S2 2 J ?_;refine cN h (λhc h=>?_) λhc h=>?_
 .refine S4 2 J ?_;refine a8 ?_;cases h;exact f2
 .refine b8 ?_;refine S3 3 J<|y0 J (u7 (f:=iF) (cs:=[.I v1]) hv1 J J g5 m7 J J)<|S2 3 J<|a8 ?_;cases h;exact f2
theorem jO{a0 a1}:PO prog 198 [c5.Pv a0,.I a1] (iJ a0 a1) λr=>.I r:=by
 refine pO func198 λr h _ _=>?_;refine S4 2 J<|c7<|S4 2 J ?_;refine cN h (λhc h=>?_) λhc h=>?_
 .refine S4 1 J ?_;refine a8 ?_;cases h;exact f1
 .refine b8 ?_;refine S3 3 J<|iL h J J g5 m7 λv1 _ h=>S2 2 J<|a8 ?_;cases h;exact f1
theorem NH{a0 a1}:PO prog 279 [.L iF a0,.I a1] (vO a0 a1) λr=>.tup [.I r.1,.I r.2]:=by
 refine pO func279 λr h _ _=>?_;refine S4 2 J<|c7<|S3 3 J<|g8 J (λhg=>mI J)<|g8 J (λhg=>om (d:=.L iF a0) J)<|g8 J (λhg=>N8 (f:=iF) (ct hg) g5)<|g8 J (λhg=>r9 (ct hg) (ct hg) J)<|y0 J (y5 J J J (λq=>P1 q))<|yN ?_;refine cN h (λhc h=>?_) λhc h=>?_
 .refine S4 2 J ?_;refine a8 ?_;cases h;exact f2
 .refine b8 ?_;refine S3 2 J<|iL h J J g5 m7 λv1 _ h=>S2 3 J<|a8 ?_;cases h;exact f2
theorem tV{a0 a1 a2}:PO prog 205 [l4.Pv a0,.I a1,.I a2] (eQ a0 a1 a2) λr=>.tup [.I r.1,.I r.2]:=by
 refine pO func205 λr h _ _=>?_;refine S4 3 J<|S3 2 J<|cF h E8 J J λv1 _ h=>S2 6 J<|c7<|S4 2 J ?_;refine cN h (λhc h=>?_) λhc h=>?_
 .refine S4 3 J ?_;refine a8 ?_;cases h;exact f2
 .refine b8 ?_;refine S3 3 J<|cA h NH J J λv2 _ h=>S2 4 J<|a8 ?_;cases h;exact f2
theorem Hx{a0 a1 a2}:PO prog 336 [.L iF a0,.I a1,.I a2] (As a0 a1 a2) λr=>.tup [.L iF r.1,.I r.2]:=by
 refine pO func336 λr h _ _=>?_;refine S4 2 J<|c7<|S3 3 J<|g8 J (λhg=>mI J)<|g8 J (λhg=>om (d:=.L iF a0) J)<|g8 J (λhg=>N8 (f:=iF) (ct hg) g5)<|g8 J (λhg=>r9 (ct hg) (ct hg) J)<|y0 J (y5 J J J (λq=>P1 q))<|yN ?_;refine cN h (λhc h=>?_) λhc h=>?_
 .refine S4 3 J ?_;refine a8 ?_;cases h;exact f2
 .refine b8 ?_;refine sR<|y0 J (A9 J g5 m7)<|S1 1 J<|s7 h λv1 hv1 h=>y1 J (iE (f:=iF) hv1 J J (.inl ⟨_,J,J⟩) g5 m7 F9 A0 J (λ_=>J)) J<|S2 1 J<|S3 3 J<|s7 h λv2 hv2 h=>y0 J (aN (f:=iF) hv2 J J J J g5 m7 J)<|iZ (f:=iF) (v:=a2) hv2 J J (.inl J) m7<|yN<|S4 3 J<|a8 ?_;cases h;exact f2
theorem JW{a0 a1 a2 a3}:PO prog 275 [l4.Pv a0,.I a1,.I a2,.I a3] (xQ a0 a1 a2 a3) λr=>.tup [l4.Pv r.1,.I r.2]:=by
 refine pO func275 λr h _ _=>?_;refine S4 3 J<|S3 2 J<|cF h E8 J J λv1 _ h=>S2 6 J<|c7<|S4 2 J ?_;refine cN h (λhc h=>?_) λhc h=>?_
 .refine S4 4 J ?_;refine a8 ?_;cases h;exact⟨J,[_,_],⟨oL J J J X9 V6 nl J,⟨J,tr⟩⟩,J,io⟩
 .refine b8 ?_;refine S3 4 J<|cF h Hx J J λv2 _ h=>S2 5 J<|c7<|S4 2 J ?_;refine cN h (λhc h=>?_) λhc h=>?_
  .refine S4 4 J ?_;refine a8 ?_;cases h;exact⟨J,[_,_],⟨oL J J J X9 V6 nl J,⟨J,tr⟩⟩,J,io⟩
  .refine b8 ?_;refine S4 3 J<|S3 3 J<|cF h eR J J λv3 _ h=>S2 4 J<|a8 ?_;cases h;exact⟨J,[_,_],⟨oL J J J X9 V6 nl J,⟨J,tr⟩⟩,J,io⟩
theorem EI{a0 a1 a2 a3}:PO prog 197 [c5.Pv a0,.I a1,.I a2,.I a3] (gR a0 a1 a2 a3) λr=>.tup [c5.Pv r.1,.I r.2]:=by
 refine pO func197 λr h _ _=>?_;refine S4 3 J<|S3 4 J<|cA h tV J J λv1 _ h=>S2 5 J<|c7<|S4 2 J ?_;refine cN h (λhc h=>?_) λhc h=>?_
 .refine S4 4 J ?_;refine a8 ?_;cases h;exact⟨J,[_,_],⟨oL J J J A6 w9 nl J,⟨J,tr⟩⟩,J,io⟩
 .refine b8 ?_;refine c7<|S3 2 J<|cA h br J J λv2 _ h=>S2 1 J ?_;refine cN h (λhc h=>?_) λhc h=>?_
  .refine S4 3 J ?_;refine a8 ?_;cases h;exact⟨J,[_,_],⟨oL J J J A6 w9 nl J,⟨J,tr⟩⟩,J,io⟩
  .refine b8 ?_;refine S3 2 J<|cF h fz J J λv3 _ h=>S2 2 J<|S3 5 J<|cF h JW J J λv4 _ h=>S2 5 J<|S3 2 J<|cF h aQ J J λv5 _ h=>S2 2 J<|a8 ?_;cases h;exact⟨J,[_,_],⟨oL J J J A6 w9 nl J,⟨J,tr⟩⟩,J,io⟩
theorem JY{a0 a1 a2}:PO prog 337 [.L k7.Pv a0,.I a1,.I a2] (xS a0 a1 a2) λr=>.tup [.L k7.Pv r.1,.I r.2]:=by
 refine pO func337 λr h _ _=>?_;refine S4 2 J<|S3 2 J<|cA h jK J J λv1 _ h=>S2 1 J<|c7<|S4 2 J ?_;refine cN h (λhc h=>?_) λhc h=>?_
 .refine S3 4 J ?_;refine y0 J (p9 (cs:=[.I 1,.I a1,.I a2]) J Dg pM J J J)<|cF h pa J J λv2 _ h=>S2 2 J<|a8 ?_;cases h;exact f2
 .refine b8 ?_;refine S3 1 J<|nL J P9<|S2 1 J<|S3 2 J<|cA h wI J J λv3 _ h=>S2 1 J ?_;refine jq h (λ_=>St.of [(0,.L k7.Pv a0)] []) (λq13 h=>?_) λκ12 h=>?_
  .refine S4 3 J ?_;refine a8 ?_;cases h;exact f2
  .refine S4 1 J ?_;refine c8<|lq h (λq=>St.of [(0,.L k7.Pv a0),(1,.I a1),(2,.I a2),(9,.I (a0.length:Int)),(10,.I q.1),(11,.I q.2)] []) W λq18 x17 h hx13=>?_;obtain⟨s15,s16⟩:=q18;refine c7<|S4 3 J ?_;refine cN h (λhc h=>?_) λhc h=>?_
   .refine b8 ?_;refine c7<|c8<|c7<|S3 2 J<|iL h J J P9 R8 λv19 _ h=>S2 3 J ?_;refine cN h (λhc h=>?_) λhc h=>?_
    .refine S3 4 J ?_;refine y0 J (p9 (cs:=[.I 1,.I a1,.I a2]) J Dg pM J J J)<|cF h pa J J λv20 _ h=>S2 2 J<|a8 ?_;have h:=xL hx13 h;cases h;exact f2
    .refine b8 ?_;refine S5 3 J<|s7 h λv21 hv16 h=>y0 J (kZ J J hv16)<|S2 1 J<|S6 3 J ?_;exact eL h W
   .refine n9 ?_;refine b9<|b9<|j5 ?_;have h:=xL hx13 h;exact eJ h W
theorem Ka{a0 a1 a2}:PO prog 276 [.L k7.Pv a0,.I a1,.I a2] (xU a0 a1 a2) λr=>.tup [.L k7.Pv r.1,.I r.2.1,.I r.2.2]:=by
 refine pO func276 λr h _ _=>?_;refine S4 3 J<|c7<|S4 2 J ?_;refine cN h (λhc h=>?_) λhc h=>?_
 .refine S4 4 J ?_;refine a8 ?_;cases h;exact f3
 .refine b8 ?_;refine S3 2 J<|cA h sj J J λv1 _ h=>S2 5 J<|c7<|S4 2 J ?_;refine cN h (λhc h=>?_) λhc h=>?_
  .refine S3 2 J ?_;refine cF h wH J J λv2 _ h=>S2 7 J<|S4 5 J<|a8 ?_;cases h;exact f3
  .refine b8 ?_;refine S3 3 J<|cF h JY J J λv3 _ h=>S2 5 J<|c7<|S4 2 J ?_;refine cN h (λhc h=>?_) λhc h=>?_
   .refine S4 5 J ?_;refine a8 ?_;cases h;exact f3
   .refine b8 ?_;refine S4 5 J<|a8 ?_;cases h;exact f3
theorem HO{a0 a1 a2}:PO prog 199 [c5.Pv a0,.I a1,.I a2] (lA a0 a1 a2) λr=>.tup [c5.Pv r.1,.I r.2]:=by
 refine pO func199 λr h _ _=>?_;refine S4 3 J<|c7<|S4 2 J ?_;refine cN h (λhc h=>?_) λhc h=>?_
 .refine S4 3 J ?_;refine a8 ?_;cases h;exact⟨J,[_,_],⟨oL J J J A6 w9 nl J,⟨J,tr⟩⟩,J,io⟩
 .refine b8 ?_;refine c7<|S3 2 J<|cA h Y6 J J λv1 _ h=>S1 2 J<|g8 J (λhg=>oL J J J A6 w9 nl J)<|g8 J (λhg=>mI J)<|s7 h λv2 hv2 h=>g8 J (λhg=>B7 J br (A3 (ct hg) (A3 (ct hg) J)) (C8 hv2 hg))<|g8 J (λhg=>Z4 (ct hg) J)<|y0 J (y5 J J J (λq=>P1 q))<|yN ?_;refine cN h (λhc h=>?_) λhc h=>?_
  .refine S4 3 J ?_;refine a8 ?_;cases h;exact⟨J,[_,_],⟨oL J J J A6 w9 nl J,⟨J,tr⟩⟩,J,io⟩
  .refine b8 ?_;refine S3 4 J<|cF h Ka J J λv3 _ h=>S2 7 J<|c7<|S4 2 J ?_;refine cN h (λhc h=>?_) λhc h=>?_
   .refine S4 4 J ?_;refine a8 ?_;cases h;exact⟨J,[_,_],⟨oL J J J A6 w9 nl J,⟨J,tr⟩⟩,J,io⟩
   .refine b8 ?_;refine S3 2 J<|cF h fz J J λv4 _ h=>S2 2 J<|S4 3 J<|S3 2 J<|cF h aQ J J λv5 _ h=>S2 2 J<|a8 ?_;cases h;exact⟨J,[_,_],⟨oL J J J A6 w9 nl J,⟨J,tr⟩⟩,J,io⟩
theorem ET{a0 a1}:PO prog 117 [c5.Pv a0,s6.Pv a1] (bu a0 a1) λr=>.tup [c5.Pv r.1,.I r.2.1,.I r.2.2]:=by
 refine pO func117 λr h _ _=>?_;refine S4 5 J<|c7<|S3 4 J<|g8 J (λhg=>oF J ML J)<|g8 J (λhg=>oS (ct hg) J J x6 J)<|g8 J (λhg=>r9 (ct hg) J J)<|y0 J (w8 J J J (λq=>V0 q))<|yN ?_;refine cN h (λhc h=>?_) λhc h=>?_
 .refine S3 5 J ?_;refine cF h wK J J λv1 _ h=>S2 6 J<|S4 5 J<|a8 ?_;cases h;exact⟨J,[_,_,_],⟨oL J J J A6 w9 nl J,⟨J,⟨J,tr⟩⟩⟩,J,io⟩
 .refine b8 ?_;refine S4 3 J ?_;refine jq h (λj3=>St.of [(2,.ptr 2 0 0),(3,.ptr 3 0 0),(4,.ptr 4 0 0),(9,.I j3)] [(4,vR (.agg [.nl,.I 0,.I 0,.nl,.nl,.nl,.nl,.I 0]) 8),(3,vR (s6.Pv a1) 4),(2,vR (c5.Pv a0) 8)]) (λj3 h=>?_) λκ2 h=>?_
  .refine S3 2 J ?_;refine cA h nf J J λv4 _ h=>S2 5 J<|c7<|S4 2 J ?_;refine cN h (λhc h=>?_) λhc h=>?_
   .refine S4 5 J ?_;refine a8 ?_;cases h;exact⟨J,[_,_,_],⟨oL J J J A6 w9 nl J,⟨J,⟨J,tr⟩⟩⟩,J,io⟩
   .refine b8 ?_;refine c7<|S4 2 J<|c8<|S4 2 J ?_;refine cN h (λhc h=>?_) λhc h=>?_
    .refine dr [] p8 (by kernel_rfl) (by kernel_rfl) ?_;refine S7 7 J<|s7 h λv5 hv4 h=>d2 J (B7 J jO J hv4) J<|s7 h λv6 hv5 h=>ax J (x4 J EI J hv5) J<|S7 4 J<|B6 (x':=c5.Pv v6.1) (cl':=true) J J (.inr J) w9<|S8 1 J<|dr [] p8 (by kernel_rfl) (by kernel_rfl)<|S7 4 J<|d2 J (B7 J jO J hv4) J<|S7 1 J<|B6 (x':=c5.Pv v6.1) (cl':=true) J J (.inr J) w9<|S8 2 J<|a8 ?_;cases h;exact⟨J,[_,_,_],⟨oL J J J A6 w9 nl J,⟨J,⟨J,tr⟩⟩⟩,J,io⟩
    .refine S4 2 J ?_;refine cN h (λhc h=>?_) λhc h=>?_
     .refine S3 6 J ?_;refine cF h wK J J λv7 _ h=>S2 6 J<|S4 6 J<|a8 ?_;cases h;exact⟨J,[_,_,_],⟨oL J J J A6 w9 nl J,⟨J,⟨J,tr⟩⟩⟩,J,io⟩
     .refine b8 ?_;refine dr [] p8 (by kernel_rfl) (by kernel_rfl)<|S7 5 J<|s7 h λv8 hv7 h=>d2 J (B7 J jO J hv7) J<|s7 h λv9 hv8 h=>ax J (x4 J HO J hv8) J<|S7 4 J<|B6 (x':=c5.Pv v9.1) (cl':=true) J J (.inr J) w9<|S8 1 J<|dr [] p8 (by kernel_rfl) (by kernel_rfl)<|S7 4 J<|d2 J (B7 J jO J hv7) J<|S7 1 J<|B6 (x':=c5.Pv v9.1) (cl':=true) J J (.inr J) w9<|S8 2 J<|a8 ?_;cases h;exact⟨J,[_,_,_],⟨oL J J J A6 w9 nl J,⟨J,⟨J,tr⟩⟩⟩,J,io⟩
  .refine S4 3 J ?_;refine cN h (λhc h=>?_) λhc h=>?_
   .refine S6 3 J ?_;exact eJ h W
   .refine b8 ?_;exact eJ h W
theorem kz{a0 a1}:PO prog 71 [c5.Pv a0,.I a1] (cE a0 a1) λr=>.I r:=by
 refine pO func71 λr h _ _=>?_;refine S4 2 J<|S3 3 J<|cF h E8 J J λv1 _ h=>S2 6 J<|S4 3 J<|a8 ?_;cases h;exact f1
theorem JV{a0}:PO prog 200 [.I a0] (tU a0) λr=>.tup [.L iF r.1,.I r.2]:=by
 refine pO func200 λr h _ _=>?_;refine S4 2 J<|c7<|S3 3 J<|g8 J (λhg=>mI J)<|g8 J (λhg=>r9 (ct hg) J J)<|y0 J (y5 J J J (λq=>P1 q))<|yN ?_;refine cN h (λhc h=>?_) λhc h=>?_
 .refine S4 2 J ?_;refine a8 ?_;cases h;exact f2
 .refine b8 ?_;refine S3 1 J<|s7 h λv1 hv1 h=>y1 J (Hh (f:=iF) hv1 J J J g5 m7 A0 F9 J J J) J<|S2 2 J<|a8 ?_;cases h;exact f2
theorem Hw{a0 a1}:PO prog 201 [y9.Pv a0,.I a1] (ll a0 a1) λr=>.tup [y9.Pv r.1,.I r.2.1,.I r.2.2]:=by
 refine pO func201 λr h _ _=>?_;refine S4 4 J ?_;refine jq h (λ_=>St.of [(2,.ptr 2 0 0),(4,.ptr 4 0 0)] [(4,vR (.agg [.nl,.I 0]) 2),(2,vR (y9.Pv a0) 2)]) (λq8 h=>?_) λκ7 h=>?_
 .refine S4 4 J ?_;refine a8 ?_;cases h;exact⟨J,[_,_,_],⟨oL J J J gr df nl J,⟨J,⟨J,tr⟩⟩⟩,J,io⟩
 .refine S4 1 J ?_;refine c8<|lq h (λs10=>St.of [(1,.I a1),(2,.ptr 2 0 0),(4,.ptr 4 0 0),(7,.I s10)] [(4,vR (.agg [.nl,.I 0]) 2),(2,vR (y9.Pv a0) 2)]) W λs10 x11 h hx10=>c7<|S3 3 J<|nL J L2<|S2 1 J ?_;refine cN h (λhc h=>?_) λhc h=>?_
  .refine b8 ?_;refine c7<|c8<|S3 3 J<|iL h J J L2 R9 λv12 hv11 h=>S2 3 J ?_;refine cN h (λhc h=>?_) λhc h=>?_
   .refine S3 3 J ?_;refine y0 J (u7 (f:=z6.Pv) (cs:=z6.Pc v12) hv11 J J L2 R9 J J)<|S2 3 J<|S3 4 J<|y0 J (p9 (cs:=[.I 1,.I v12.Gen,.I a1]) J sG jk J J J)<|cF h jJ J J λv13 _ h=>S1 2 J<|cA h jH J J λv14 _ h=>S2 3 J<|a8 ?_;have h:=xL hx10 h;cases h;exact⟨J,[_,_,_],⟨oL J J J gr df nl J,⟨J,⟨J,tr⟩⟩⟩,J,io⟩
   .refine b8 ?_;refine S6 3 J ?_;exact eL h W
  .refine n9 ?_;refine b9<|b9<|j5 ?_;have h:=xL hx10 h;exact eJ h W
theorem Hz{a0 a1 a2}:PO prog 118 [l4.Pv a0,.I a1,.I a2] (dL a0 a1 a2) λr=>.tup [l4.Pv r.1,.I r.2.1,.I r.2.2]:=by
 refine pO func118 λr h _ _=>?_;refine S4 4 J<|S3 1 J<|cF h JV J J λv1 _ h=>S2 5 J<|c7<|S4 2 J ?_;refine cN h (λhc h=>?_) λhc h=>?_
 .refine S4 5 J ?_;refine a8 ?_;cases h;exact⟨J,[_,_,_],⟨oL J J J X9 V6 nl J,⟨J,⟨J,tr⟩⟩⟩,J,io⟩
 .refine b8 ?_;refine c7<|S3 3 J<|g8 J (λhg=>mI J)<|g8 J (λhg=>r9 (ct hg) J J)<|y0 J (y5 J J J (λq=>P1 q))<|yN ?_;refine cN h (λhc h=>?_) λhc h=>?_
  .refine S4 4 J ?_;refine a8 ?_;cases h;exact⟨J,[_,_,_],⟨oL J J J X9 V6 nl J,⟨J,⟨J,tr⟩⟩⟩,J,io⟩
  .refine b8 ?_;refine S3 1 J<|cF h K1 J J λv2 _ h=>cF h Hw J J λv3 _ h=>S2 8 J<|c7<|S4 2 J ?_;refine cN h (λhc h=>?_) λhc h=>?_
   .refine S4 5 J ?_;refine a8 ?_;cases h;exact⟨J,[_,_,_],⟨oL J J J X9 V6 nl J,⟨J,⟨J,tr⟩⟩⟩,J,io⟩
   .refine b8 ?_;refine dr [] p8 (by kernel_rfl) (by kernel_rfl)<|S7 2 J<|s7 h λv4 hv4 h=>ax J (x4 J ky J hv4) J<|S7 1 J<|s7 h λv5 hv5 h=>d2 J (B7 J oW J hv5) J<|S7 5 J<|d7 J (λ_ hN=>p9 (cs:=[.I (A1 (a0.Serial+1)),.I 0,.I 0,.I a2,.bool false,.L iF v1.1]) J Dl Dw J J J) J<|s7 h λv6 hv6 h=>ax J (x4 J oY J hv6) J<|S7 1 J<|B6 (x':=l4.Pv v6) (cl':=true) J J (.inr J) V6<|G6<|S4 5 J<|S4 5 J<|a8 ?_;cases h;exact⟨J,[_,_,_],⟨oL J J J X9 V6 nl J,⟨J,⟨J,tr⟩⟩⟩,J,io⟩
theorem CH{a0 a1}:PO prog 120 [c5.Pv a0,.I a1] (sp a0 a1) λr=>.I r:=by
 refine pO func120 λr h _ _=>?_;refine S4 2 J<|c7<|S3 3 J<|g8 J (λhg=>mI J)<|g8 J (λhg=>r9 (ct hg) J J)<|y0 J (y5 J J J (λq=>P1 q))<|yN ?_;refine cN h (λhc h=>?_) λhc h=>?_
 .refine S4 1 J ?_;refine a8 ?_;cases h;exact f1
 .refine b8 ?_;refine dr [] p8 (by kernel_rfl) (by kernel_rfl)<|S7 4 J<|s7 h λv1 hv1 h=>d0 J (u7 (f:=iF) (cs:=[.I v1]) hv1 J J g5 m7 J J) J<|S7 1 J<|s7 h λv2 hv2 h=>d2 J (B7 J kz J hv2) J<|S8 1 J<|a8 ?_;cases h;exact f1
theorem HC{a0 a1}:PO prog 206 [.L m9.Pv a0,.I a1] (oZ a0 a1) λr=>.tup [.I r.1,.I r.2]:=by
 refine pO func206 λr h _ _=>?_;refine S4 2 J<|c7<|S3 3 J<|g8 J (λhg=>mI J)<|g8 J (λhg=>om (d:=.L m9.Pv a0) J)<|g8 J (λhg=>N8 (f:=m9.Pv) (ct hg) K9)<|g8 J (λhg=>r9 (ct hg) (ct hg) J)<|y0 J (y5 J J J (λq=>P1 q))<|yN ?_;refine cN h (λhc h=>?_) λhc h=>?_
 .refine S4 2 J ?_;refine a8 ?_;cases h;exact f2
 .refine b8 ?_;refine c7<|S3 2 J<|iL h J J K9 O3 λv1 hv1 h=>S1 4 J<|g8 J (λhg=>om (d:=.L m9.Pv a0) J)<|g8 J (λhg=>mI J)<|g8 J (λhg=>u7 (f:=m9.Pv) (cs:=m9.Pc v1) hv1 (ct hg) (ct hg) K9 O3 J J)<|g8 J (λhg=>A2 (ct hg) ve J)<|g8 J (λhg=>D6 (ct hg) kI J)<|g8 J (λhg=>Z4 (ct hg) J)<|y0 J (y5 J J J (λq=>P1 q))<|yN ?_;refine cN h (λhc h=>?_) λhc h=>?_
  .refine S4 2 J ?_;refine a8 ?_;cases h;exact f2
  .refine b8 ?_;refine S3 2 J<|y0 J (u7 (f:=m9.Pv) (cs:=m9.Pc v1) hv1 J J K9 O3 J J)<|S2 4 J<|a8 ?_;cases h;exact f2
theorem JZ{a0 a1}:PO prog 207 [.L k7.Pv a0,.I a1] (uf a0 a1) λr=>.tup [.I r.1,.I r.2]:=by
 refine pO func207 λr h _ _=>?_;refine S4 2 J<|S3 2 J<|cA h sj J J λv1 _ h=>S2 4 J<|a8 ?_;cases h;exact f2
theorem ES{a0 a1}:PO prog 121 [c5.Pv a0,s6.Pv a1] (cU a0 a1) λr=>.tup [.I r.1,.I r.2]:=by
 refine pO func121 λr h _ _=>?_;refine S4 4 J<|c7<|S4 2 J<|c8<|S4 2 J ?_;refine cN h (λhc h=>?_) λhc h=>?_
 .refine S3 4 J ?_;refine iL h J J g5 m7 λv1 _ h=>S2 3 J<|a8 ?_;cases h;exact f2
 .refine S4 2 J ?_;refine cN h (λhc h=>?_) λhc h=>?_
  .refine S3 3 J ?_;refine cA h nf J J λv2 _ h=>S2 5 J<|c7<|S4 2 J ?_;refine cN h (λhc h=>?_) λhc h=>?_
   .refine S4 3 J ?_;refine a8 ?_;cases h;exact f2
   .refine b8 ?_;refine S3 5 J<|cA h tV J J λv3 _ h=>S2 4 J<|a8 ?_;cases h;exact f2
  .refine S4 2 J ?_;refine cN h (λhc h=>?_) λhc h=>?_
   .refine S3 4 J ?_;refine cA h HC J J λv4 _ h=>S2 4 J<|a8 ?_;cases h;exact f2
   .refine S4 2 J ?_;refine cN h (λhc h=>?_) λhc h=>?_
    .refine S3 3 J ?_;refine cA h nf J J λv5 _ h=>S2 5 J<|c7<|S4 2 J ?_;refine cN h (λhc h=>?_) λhc h=>?_
     .refine S4 3 J ?_;refine a8 ?_;cases h;exact f2
     .refine b8 ?_;refine S3 3 J<|cA h JZ J J λv6 _ h=>S2 4 J<|a8 ?_;cases h;exact f2
    .refine b8 ?_;refine S4 2 J<|a8 ?_;cases h;exact f2
theorem CI{a0 a1}:PO prog 64 [c5.Pv a0,s6.Pv a1] (E1 a0 a1) λr=>.tup [c5.Pv r.1,.I r.2.1,.I r.2.2]:=by
 refine pO func64 λr h _ _=>?_;refine S4 5 J<|S3 1 J<|cA h nc J J λv1 _ h=>S2 1 J<|c7<|S4 2 J ?_;refine cN h (λhc h=>?_) λhc h=>?_
 .refine S4 5 J ?_;refine a8 ?_;cases h;exact⟨J,[_,_,_],⟨oL J J J A6 w9 nl J,⟨J,⟨J,tr⟩⟩⟩,J,io⟩
 .refine b8 ?_;refine c7<|S3 1 J<|cA h uw J J λv2 _ h=>S2 1 J ?_;refine cN h (λhc h=>?_) λhc h=>?_
  .refine S4 4 J ?_;refine a8 ?_;cases h;exact⟨J,[_,_,_],⟨oL J J J A6 w9 nl J,⟨J,⟨J,tr⟩⟩⟩,J,io⟩
  .refine b8 ?_;refine c7<|S4 2 J<|c8<|S4 2 J ?_;refine cN h (λhc h=>?_) λhc h=>?_
   .refine c7 ?_;refine dr [] p8 (by kernel_rfl) (by kernel_rfl)<|S7 4 J<|s7 h λv3 hv3 h=>d0 J (u7 (f:=iF) (cs:=[.I v3]) hv3 J J g5 m7 J J) J<|S7 5 J<|s7 h λv4 hv4 h=>d0 J (u7 (f:=iF) (cs:=[.I v4]) hv4 J J g5 m7 J J) J<|S8 2 J ?_;refine cN h (λhc h=>?_) λhc h=>?_
    .refine S4 4 J ?_;refine a8 ?_;cases h;exact⟨J,[_,_,_],⟨oL J J J A6 w9 nl J,⟨J,⟨J,tr⟩⟩⟩,J,io⟩
    .refine b8 ?_;refine S4 4 J<|a8 ?_;cases h;exact⟨J,[_,_,_],⟨oL J J J A6 w9 nl J,⟨J,⟨J,tr⟩⟩⟩,J,io⟩
   .refine jq h (λj6=>St.of [(2,.ptr 2 0 0),(3,.ptr 3 0 0),(4,.ptr 4 0 0),(30,.I a1.Kind),(48,.bool j6)] [(4,vR (.agg [.nl,.I 0,.I 0,.nl,.nl,.nl,.nl,.I 0]) 8),(3,vR (s6.Pv a1) 4),(2,vR (c5.Pv a0) 8)]) (λj6 h=>?_) λκ5 h=>?_
    .refine cN h (λhc h=>?_) λhc h=>?_
     .refine S3 2 J ?_;refine cF h ET J J λv7 _ h=>S2 8 J<|c7<|S4 2 J ?_;refine cN h (λhc h=>?_) λhc h=>?_
      .refine S4 5 J ?_;refine a8 ?_;cases h;exact⟨J,[_,_,_],⟨oL J J J A6 w9 nl J,⟨J,⟨J,tr⟩⟩⟩,J,io⟩
      .refine b8 ?_;refine dr [] p8 (by kernel_rfl) (by kernel_rfl)<|S7 1 J<|s7 h λv8 hv7 h=>ax J (x4 J af J hv7) J<|S7 2 J<|s7 h λv9 hv8 h=>d2 J (B7 J kz J hv8) J<|B6 (x':=c5.Pv v8) (cl':=true) J J (.inr J) w9<|S8 2 J<|a8 ?_;cases h;exact⟨J,[_,_,_],⟨oL J J J A6 w9 nl J,⟨J,⟨J,tr⟩⟩⟩,J,io⟩
     .refine S4 2 J ?_;refine cN h (λhc h=>?_) λhc h=>?_
      .refine S3 6 J ?_;refine cF h Hz J J λv10 _ h=>S2 8 J<|c7<|S4 2 J ?_;refine cN h (λhc h=>?_) λhc h=>?_
       .refine S4 5 J ?_;refine a8 ?_;cases h;exact⟨J,[_,_,_],⟨oL J J J A6 w9 nl J,⟨J,⟨J,tr⟩⟩⟩,J,io⟩
       .refine b8 ?_;refine S4 3 J<|S4 3 J<|S3 4 J<|cF h jM J J λv11 _ h=>S2 4 J<|S3 1 J<|cF h af J J λv12 _ h=>S2 1 J<|dr [] p8 (by kernel_rfl) (by kernel_rfl)<|S7 4 J<|s7 h λv13 hv12 h=>d2 J (B7 J CH J hv12) J<|B6 (x':=c5.Pv v12) (cl':=true) J J (.inr J) w9<|S8 2 J<|a8 ?_;cases h;exact⟨J,[_,_,_],⟨oL J J J A6 w9 nl J,⟨J,⟨J,tr⟩⟩⟩,J,io⟩
      .refine b8 ?_;refine S3 2 J<|cA h ES J J λv14 _ h=>S2 5 J<|c7<|S4 2 J ?_;refine cN h (λhc h=>?_) λhc h=>?_
       .refine S4 5 J ?_;refine a8 ?_;cases h;exact⟨J,[_,_,_],⟨oL J J J A6 w9 nl J,⟨J,⟨J,tr⟩⟩⟩,J,io⟩
       .refine b8 ?_;refine S3 4 J<|cF h jM J J λv15 _ h=>S2 6 J<|S3 1 J<|cF h af J J λv16 _ h=>S2 1 J<|dr [] p8 (by kernel_rfl) (by kernel_rfl)<|S7 4 J<|s7 h λv17 hv16 h=>d2 J (B7 J CH J hv16) J<|B6 (x':=c5.Pv v16) (cl':=true) J J (.inr J) w9<|S8 2 J<|a8 ?_;cases h;exact⟨J,[_,_,_],⟨oL J J J A6 w9 nl J,⟨J,⟨J,tr⟩⟩⟩,J,io⟩
    .refine S4 2 J ?_;refine cN h (λhc h=>?_) λhc h=>?_
     .refine b8 ?_;exact eJ h W
     .refine S4 2 J ?_;refine cN h (λhc h=>?_) λhc h=>?_
      .refine b8 ?_;exact eJ h W
      .refine S6 2 J ?_;exact eJ h W
theorem Kb{a0 a1}:PO prog 194 [c5.Pv a0,.L s6.Pv a1] (ux a0 a1) λr=>.tup [c5.Pv r.1,.L iF r.2]:=by
 refine pO func194 λr h _ _=>?_;refine S4 3 J<|sR<|y0 J (A9 J g5 m7)<|S2 1 J ?_;refine jq h (λq=>St.of [(2,.ptr 2 0 0),(4,.ptr 4 0 0),(6,.sl 910006)] [(910006,⟨List.map iF q.2,(List.map iF q.2).length,true,1,true⟩),(4,vR (.agg [.nl,.I 0,.I 0,.nl,.nl,.nl,.nl,.I 0]) 8),(2,vR (c5.Pv q.1) 8)]) (λq13 h=>?_) λκ10 h=>?_
 .obtain⟨j11,j12⟩:=q13;refine S4 4 J<|a8 ?_;cases h;exact⟨J,[_,_],⟨oL J J J A6 w9 nl J,⟨J,tr⟩⟩,J,io⟩
 .refine S4 1 J ?_;refine c8<|lq h (λq=>St.of [(1,.L s6.Pv a1),(2,.ptr 2 0 0),(4,.ptr 4 0 0),(6,.sl 910006),(7,.I q.1)] [(4,vR (.agg [.nl,.I 0,.I 0,.nl,.nl,.nl,.nl,.I 0]) 8),(2,vR (c5.Pv q.2.1) 8),(910006,⟨List.map iF q.2.2,(List.map iF q.2.2).length,true,1,true⟩)]) (Wk.trans (D7 (t:=6) (l:=920006) (z:=1) J J) (WP (λl=>if l=910006 then 920006 else l))) λq19 x18 h hx10=>?_;obtain⟨s15,s16,s17⟩:=q19;refine c7<|S3 2 J<|nL J ff<|S2 1 J ?_;refine cN h (λhc h=>?_) λhc h=>?_
  .refine b8 ?_;refine c7<|c8<|dr [] p8 (by kernel_rfl) (by kernel_rfl)<|S7 3 J<|s7 h λv20 hv11 h=>d0 J (u7 (f:=s6.Pv) (cs:=s6.Pc v20) hv11 J J ff de J J) J<|S7 1 J<|s7 h λv21 hv12 h=>ax J (x4 J CI J hv12) J<|S7 5 J<|B6 (x':=c5.Pv v21.1) (cl':=true) J J (.inr J) w9<|S8 2 J<|S4 2 J<|S5 2 J<|y0 J (H5 (f:=iF) (l:=[v21.2.1]) J g5 m7 A0 J J nl J J)<|s7 h λv22 hv13 h=>I2 J (F7 (f:=iF) hv13 J J J J J J (.inl ⟨_,J,J⟩) g5 m7 F9 A0 J (λ_=>J)) J J J<|S2 1 J<|S6 3 J ?_;exact eL h (Wk.trans (n0 _ [32]) (WP (λl=>if l=910006 then 32 else l)))
  .refine n9 ?_;refine b9<|b9<|j5 ?_;have h:=xL hx10 h;exact eJ h (Wk.trans (n0 _ [910006]) W)
theorem HU{a0 a1}:PO prog 116 [c5.Pv a0,.L (Ls s6.Pv) a1] (uz a0 a1) λr=>.tup [c5.Pv r.1,o8.Pv r.2.1,.I r.2.2]:=by
 refine pO func116 λr h _ _=>?_;refine S4 4 J<|S3 2 J<|cF h HM J J λv1 _ h=>S2 9 J<|c7<|S4 2 J ?_;refine cN h (λhc h=>?_) λhc h=>?_
 .refine S3 1 J ?_;refine y0 J (p9 (cs:=[.I 0,.I 0,.I 0]) J xv gw J J J)<|S2 4 J<|a8 ?_;cases h;exact⟨J,[_,_,_],⟨oL J J J A6 w9 nl J,⟨oL J J J jg F8 nl J,⟨J,tr⟩⟩⟩,J,io⟩
 .refine b8 ?_;refine S4 3 J<|S4 3 J ?_;refine jq h (λj6=>St.of [(1,.L (Ls s6.Pv) a1),(4,.ptr 4 0 0),(5,.ptr 5 0 0),(8,.ptr 8 0 0),(10,.ptr 10 0 0)] [(10,vR (c5.Pv j6) 8),(8,vR (o8.Pv v1.2.1) 3),(5,vR (.agg [.I 0,.I 0,.I 0]) 3),(4,vR (.agg [.nl,.I 0,.I 0,.nl,.nl,.nl,.nl,.I 0]) 8)]) (λj6 h=>?_) λκ5 h=>?_
  .refine dr [] p8 (by kernel_rfl) (by kernel_rfl) ?_;refine S7 4 J<|s7 h λv7 hv6 h=>ax J (x4 J wN J hv6) J<|s7 h λv8 hv7 h=>ax J (x4 J Kb J hv7) J<|S7 3 J<|B6 (x':=c5.Pv v8.1) (cl':=true) J J (.inr J) w9<|G6<|c7<|S4 3 J ?_;refine cN h (λhc h=>?_) λhc h=>?_
   .refine S3 1 J ?_;refine cF h jM J J λv9 _ h=>S2 4 J<|S5 1 J<|cF h af J J λv10 _ h=>S2 1 J<|dr [1,1008] p8 (by kernel_rfl) (by kernel_rfl)<|S7 1 J<|d7 J (λ_ hN=>gB (cs:=o8.Pc v1.2.1) hN J J J J jg F8 nl J) J<|B6 (x':=c5.Pv v10) (cl':=true) J J (.inr J) w9<|B6 (x':=o8.Pv v1.2.1) (cl':=true) J J (.inl J) F8<|S8 1 J<|a8 ?_;cases h;exact⟨J,[_,_,_],⟨oL J J J A6 w9 nl J,⟨oL J J J jg F8 nl J,⟨J,tr⟩⟩⟩,J,io⟩
   .refine b8 ?_;refine dr [1,1008] p8 (by kernel_rfl) (by kernel_rfl)<|S7 1 J<|d7 J (λ_ hN=>gB (cs:=o8.Pc v1.2.1) hN J J J J jg F8 nl J) J<|B6 (x':=c5.Pv v8.1) (cl':=true) J J (.inr J) w9<|B6 (x':=o8.Pv v1.2.1) (cl':=true) J J (.inl J) F8<|S8 1 J<|a8 ?_;cases h;exact⟨J,[_,_,_],⟨oL J J J A6 w9 nl J,⟨oL J J J jg F8 nl J,⟨J,tr⟩⟩⟩,J,io⟩
  .refine S4 3 J ?_;refine cN h (λhc h=>?_) λhc h=>?_
   .refine S3 3 J ?_;refine cF h jM J J λv11 _ h=>S2 4 J<|S5 3 J<|cF h aQ J J λv12 _ h=>cF h af J J λv13 _ h=>S2 1 J ?_;exact eJ h W
   .refine b8 ?_;exact eJ h W
theorem EW{a0 a1 a2}:PO prog 63 [c5.Pv a0,.L (Ls s6.Pv) a1,.I a2] (lF a0 a1 a2) λr=>.tup [c5.Pv r.1,.I r.2.1,.I r.2.2.1,.I r.2.2.2]:=by
 refine pO func63 λr h _ _=>?_;refine S4 5 J<|S4 1 J ?_;refine jq h (λq=>St.of [(2,.I q.1),(3,.ptr 3 0 0),(6,.ptr 6 0 0),(10,.I q.2.1)] [(6,vR (.agg [.nl,.I 0,.I 0,.nl,.nl,.nl,.nl,.I 0]) 8),(3,vR (c5.Pv q.2.2) 8)]) (λq15 h=>?_) λκ11 h=>?_
 .obtain⟨j12,j13,j14⟩:=q15;refine S4 7 J<|a8 ?_;cases h;exact⟨J,[_,_,_,_],⟨oL J J J A6 w9 nl J,⟨J,⟨J,⟨J,tr⟩⟩⟩⟩,J,io⟩
 .refine c8 ?_;refine lq h (λq=>St.of [(1,.L (Ls s6.Pv) a1),(2,.I q.1),(3,.ptr 3 0 0),(6,.ptr 6 0 0),(10,.I q.2.1)] [(6,vR (.agg [.nl,.I 0,.I 0,.nl,.nl,.nl,.nl,.I 0]) 8),(3,vR (c5.Pv q.2.2) 8)]) W λq21 x20 h hx11=>?_;obtain⟨s17,s18,s19⟩:=q21;refine c7<|S3 1 J<|cA h uy J J λv22 _ h=>S2 1 J ?_;refine cN h (λhc h=>?_) λhc h=>?_
  .refine b8 ?_;refine c8<|S3 4 J<|iL h J J J2 F8 λv23 _ h=>S1 1 J<|cA h HT J J λv24 _ h=>S2 1 J<|c7<|S4 3 J ?_;refine cN h (λhc h=>?_) λhc h=>?_
   .refine S4 7 J ?_;refine a8 ?_;have h:=xL hx11 h;cases h;exact⟨J,[_,_,_,_],⟨oL J J J A6 w9 nl J,⟨J,⟨J,⟨J,tr⟩⟩⟩⟩,J,io⟩
   .refine b8 ?_;refine S3 2 J<|cF h HU J J λv25 _ h=>S2 9 J<|S4 2 J<|S4 4 J<|S6 3 J ?_;exact eL h W
  .refine n9 ?_;refine b9<|b9<|j5 ?_;have h:=xL hx11 h;exact eJ h W
theorem NJ{a0 a1}:PO prog 22 [z8.Pv a0,.L iF a1] (AA a0 a1) λr=>.tup [z8.Pv r.1,E9.Pv r.2]:=by
 refine pO func22 λr h _ _=>?_;refine S4 3 J<|S3 1 J<|cA h BG J J λv1 _ h=>S2 6 J<|c7<|S4 2 J ?_;refine cN h (λhc h=>?_) λhc h=>?_
 .refine S3 2 J ?_;refine y0 J (p9 (cs:=[.I 0,.I v1.2]) J Dk Dv J J J)<|S2 2 J<|a8 ?_;cases h;exact⟨J,[_,_],⟨oL J J J yi vh nl J,⟨oL J J J yj yp nl J,tr⟩⟩,J,io⟩
 .refine b8 ?_;refine c7<|S4 2 J<|c8<|S4 2 J ?_;refine cN h (λhc h=>?_) λhc h=>?_
  .refine S3 2 J ?_;refine cF h Az J J λv2 _ h=>S2 8 J<|S3 3 J<|y0 J (p9 (cs:=[.L n8.Pv v2.1.S.Cells,.I v2.1.S.Last,.I v2.1.S.Serial,.L iF v2.1.Roots,.L m9.Pv v2.1.Cells,.L k7.Pv v2.1.T,.L o8.Pv v2.1.Q.L,.I v2.1.Q.Cap,.L (Ls s6.Pv) a0.Progs]) J Dj Dt J J J)<|S1 3 J<|y0 J (p9 (cs:=[.I (A1 (v2.2.2-v2.2.1)),.I 0]) J Dk Dv J J J)<|S2 2 J<|a8 ?_;cases h;exact⟨J,[_,_],⟨oL J J J yi vh nl J,⟨oL J J J yj yp nl J,tr⟩⟩,J,io⟩
  .refine S4 2 J ?_;refine cN h (λhc h=>?_) λhc h=>?_
   .refine S3 6 J ?_;refine cF h EW J J λv3 _ h=>S2 10 J<|S3 3 J<|y0 J (p9 (cs:=[.L n8.Pv v3.1.S.Cells,.I v3.1.S.Last,.I v3.1.S.Serial,.L iF v3.1.Roots,.L m9.Pv v3.1.Cells,.L k7.Pv v3.1.T,.L o8.Pv v3.1.Q.L,.I v3.1.Q.Cap,.L (Ls s6.Pv) a0.Progs]) J Dj Dt J J J)<|S1 2 J<|y0 J (p9 (cs:=[.I v3.2.1,.I v3.2.2.2]) J Dk Dv J J J)<|S2 2 J<|a8 ?_;cases h;exact⟨J,[_,_],⟨oL J J J yi vh nl J,⟨oL J J J yj yp nl J,tr⟩⟩,J,io⟩
   .refine b8 ?_;refine S3 3 J<|cF h CI J J λv4 _ h=>S2 8 J<|S3 3 J<|y0 J (p9 (cs:=[.L n8.Pv v4.1.S.Cells,.I v4.1.S.Last,.I v4.1.S.Serial,.L iF v4.1.Roots,.L m9.Pv v4.1.Cells,.L k7.Pv v4.1.T,.L o8.Pv v4.1.Q.L,.I v4.1.Q.Cap,.L (Ls s6.Pv) a0.Progs]) J Dj Dt J J J)<|S1 2 J<|y0 J (p9 (cs:=[.I v4.2.1,.I v4.2.2]) J Dk Dv J J J)<|S2 2 J<|a8 ?_;cases h;exact⟨J,[_,_],⟨oL J J J yi vh nl J,⟨oL J J J yj yp nl J,tr⟩⟩,J,io⟩
theorem EB{a0 a1}:PO prog 98 [D2.Pv a0,D2.Pv a1] (ln a0 a1) λr=>.bool r:=by
 refine pO func98 λr h _ _=>?_;unfold ln at h;refine S4 3 J<|S3 6 J<|g8 J (λhg=>oF J ov J)<|g8 J (λhg=>oS (ct hg) J J x6 J)<|g8 J (λhg=>oF J ov J)<|g8 J (λhg=>oS (ct hg) J J x6 J)<|g8 J (λhg=>r9 (ct hg) (ct hg) J)<|y0 J (w8 J J J (λq=>V0 q))<|S1 1 J<|g8 J (λhg=>oF J kL J)<|g8 J (λhg=>oS (ct hg) J J x6 J)<|g8 J (λhg=>oF J kL J)<|g8 J (λhg=>oS (ct hg) J J x6 J)<|g8 J (λhg=>r9 (ct hg) (ct hg) J)<|y0 J (w8 J J J (λq=>V0 q))<|S1 1 J<|g8 J (λhg=>oF J kM J)<|g8 J (λhg=>oS (ct hg) J J x6 J)<|g8 J (λhg=>oF J kM J)<|g8 J (λhg=>oS (ct hg) J J x6 J)<|g8 J (λhg=>r9 (ct hg) (ct hg) J)<|y0 J (w8 J J J (λq=>V0 q))<|S1 1 J<|g8 J (λhg=>oF J ow J)<|g8 J (λhg=>oS (ct hg) J J kI J)<|g8 J (λhg=>oF J ow J)<|g8 J (λhg=>oS (ct hg) J J kI J)<|g8 J (λhg=>Qs (ct hg) (ct hg) OB J)<|y0 J (w8 J J J (λq=>V0 q))<|S1 1 J ?_;refine g8 J (λhg=>oF J oy J)<|g8 J (λhg=>oS (ct hg) J J fR J)<|g8 J (λhg=>oF J oy J)<|g8 J (λhg=>oS (ct hg) J J fR J)<|s7 h λv1 hv1 h=>g8 J (λhg=>B7 J jI (A3 (ct hg) (A3 (ct hg) J)) (C8 hv1 hg))<|y0 J (w8 J J J (λq=>V0 q))<|S2 1 J<|a8 ?_;cases h;exact f1
theorem HA{a0 a1}:PO prog 46 [l4.Pv a0,l4.Pv a1] (tX a0 a1) λr=>.bool r:=by
 refine pO func46 λr h _ _=>?_;refine S4 3 J<|c7<|S3 6 J<|g8 J (λhg=>oF J sD J)<|g8 J (λhg=>oS (ct hg) J J x6 J)<|g8 J (λhg=>oF J sD J)<|g8 J (λhg=>oS (ct hg) J J x6 J)<|g8 J (λhg=>r9 (ct hg) (ct hg) J)<|y0 J (y5 J J J (λq=>P1 q))<|S1 1 J<|g8 J (λhg=>oF J dc J)<|g8 J (λhg=>oS (ct hg) J J ma J)<|g8 J (λhg=>N8 (f:=n8.Pv) (ct hg) G3)<|g8 J (λhg=>oF J dc J)<|g8 J (λhg=>oS (ct hg) J J ma J)<|g8 J (λhg=>N8 (f:=n8.Pv) (ct hg) G3)<|g8 J (λhg=>r9 (ct hg) (ct hg) J)<|y0 J (y5 J J J (λq=>P1 q))<|yN ?_;refine cN h (λhc h=>?_) λhc h=>?_
 .refine S4 1 J ?_;refine a8 ?_;cases h;exact f1
 .refine b8 ?_;refine jq h (λ_=>St.of [] []) (λq8 h=>?_) λκ7 h=>?_
  .refine S4 1 J ?_;refine a8 ?_;cases h;exact f1
  .refine S4 1 J ?_;refine c8<|lq h (λs10=>St.of [(2,.ptr 2 0 0),(3,.ptr 3 0 0),(5,.I s10)] [(3,vR (l4.Pv a1) 3),(2,vR (l4.Pv a0) 3)]) W λs10 x11 h hx10=>c7<|S3 3 J<|nL J G3<|S2 1 J ?_;refine cN h (λhc h=>?_) λhc h=>?_
   .refine b8 ?_;refine c7<|c8<|dr [] p8 (by kernel_rfl) (by kernel_rfl)<|S7 3 J<|s7 h λv12 hv11 h=>d0 J (u7 (f:=n8.Pv) (cs:=n8.Pc v12) hv11 J J G3 G5 J J) J<|S7 5 J<|s7 h λv13 hv12 h=>d0 J (u7 (f:=n8.Pv) (cs:=n8.Pc v13) hv12 J J G3 G5 J J) J<|S7 4 J<|y7 J (λhg _ hN=>oF J dc J) J<|C0 J (λhg=>oS (ct hg) J J ma J) J<|y7 J (λhg _ hN=>mI J) J<|C0 J (λhg=>u7 (f:=n8.Pv) (cs:=n8.Pc v12) hv11 (ct hg) (ct hg) G3 G5 J J) J<|y7 J (λhg _ hN=>A2 (ct hg) BP J) J<|C0 J (λhg=>D6 (ct hg) x6 J) J<|y7 J (λhg _ hN=>oF J dc J) J<|C0 J (λhg=>oS (ct hg) J J ma J) J<|y7 J (λhg _ hN=>mI J) J<|C0 J (λhg=>u7 (f:=n8.Pv) (cs:=n8.Pc v13) hv12 (ct hg) (ct hg) G3 G5 J J) J<|y7 J (λhg _ hN=>A2 (ct hg) BP J) J<|C0 J (λhg=>D6 (ct hg) x6 J) J<|y7 J (λhg _ hN=>r9 (ct hg) (ct hg) J) J<|d7 J (λ_ hN=>y5 J J J (λq=>P1 q)) J<|S7 1 J<|y7 J (λhg _ hN=>oF J dc J) J<|C0 J (λhg=>oS (ct hg) J J ma J) J<|y7 J (λhg _ hN=>mI J) J<|C0 J (λhg=>u7 (f:=n8.Pv) (cs:=n8.Pc v12) hv11 (ct hg) (ct hg) G3 G5 J J) J<|y7 J (λhg _ hN=>A2 (ct hg) cK J) J<|C0 J (λhg=>la (ct hg) yk kc nl J) J<|y7 J (λhg _ hN=>oF J dc J) J<|C0 J (λhg=>oS (ct hg) J J ma J) J<|y7 J (λhg _ hN=>mI J) J<|C0 J (λhg=>u7 (f:=n8.Pv) (cs:=n8.Pc v13) hv12 (ct hg) (ct hg) G3 G5 J J) J<|y7 J (λhg _ hN=>A2 (ct hg) cK J) J<|C0 J (λhg=>la (ct hg) yk kc nl J) J<|s7 h λv14 hv13 h=>ef J (λhg=>B7 J EB (A3 (ct hg) (A3 (ct hg) J)) (C8 hv13 hg)) J<|y7 J (λhg _ hN=>Z4 (ct hg) J) J<|d7 J (λ_ hN=>y5 J J J (λq=>P1 q)) J<|G6 ?_;refine cN h (λhc h=>?_) λhc h=>?_
    .refine S4 1 J ?_;refine a8 ?_;have h:=xL hx10 h;cases h;exact f1
    .refine b8 ?_;refine S6 3 J ?_;exact eL h W
   .refine n9 ?_;refine b9<|b9<|j5 ?_;have h:=xL hx10 h;exact eJ h W
theorem HD{a0 a1}:PO prog 47 [.L m9.Pv a0,.L m9.Pv a1] (ub a0 a1) λr=>.bool r:=by
 refine pO func47 λr h _ _=>?_;refine S4 1 J<|c7<|S3 1 J<|nL J K9<|S1 1 J<|nL J K9<|S2 1 J ?_;refine cN h (λhc h=>?_) λhc h=>?_
 .refine S4 1 J ?_;refine a8 ?_;cases h;exact f1
 .refine b8 ?_;refine jq h (λ_=>St.of [] []) (λq7 h=>?_) λκ6 h=>?_
  .refine S4 1 J ?_;refine a8 ?_;cases h;exact f1
  .refine S4 1 J ?_;refine c8<|lq h (λs9=>St.of [(0,.L m9.Pv a0),(1,.L m9.Pv a1),(5,.I s9)] []) W λs9 x10 h hx9=>c7<|S3 2 J<|nL J K9<|S2 1 J ?_;refine cN h (λhc h=>?_) λhc h=>?_
   .refine b8 ?_;refine c7<|c8<|dr [] p8 (by kernel_rfl) (by kernel_rfl)<|S7 2 J<|s7 h λv11 hv10 h=>d0 J (u7 (f:=m9.Pv) (cs:=m9.Pc v11) hv10 J J K9 O3 J J) J<|S7 3 J<|s7 h λv12 hv11 h=>d0 J (u7 (f:=m9.Pv) (cs:=m9.Pc v12) hv11 J J K9 O3 J J) J<|S7 1 J<|d7 J (λ_ hN=>Qv (xs:=m9.Pc v11) (ys:=m9.Pc v12) SI J J J J) J<|G6 ?_;refine cN h (λhc h=>?_) λhc h=>?_
    .refine S4 1 J ?_;refine a8 ?_;have h:=xL hx9 h;cases h;exact f1
    .refine b8 ?_;refine S6 3 J ?_;exact eL h W
   .refine n9 ?_;refine b9<|b9<|j5 ?_;have h:=xL hx9 h;exact eJ h W
theorem HF{a0 a1}:PO prog 48 [.L k7.Pv a0,.L k7.Pv a1] (ue a0 a1) λr=>.bool r:=by
 refine pO func48 λr h _ _=>?_;refine S4 1 J<|c7<|S3 1 J<|nL J P9<|S1 1 J<|nL J P9<|S2 1 J ?_;refine cN h (λhc h=>?_) λhc h=>?_
 .refine S4 1 J ?_;refine a8 ?_;cases h;exact f1
 .refine b8 ?_;refine jq h (λ_=>St.of [] []) (λq7 h=>?_) λκ6 h=>?_
  .refine S4 1 J ?_;refine a8 ?_;cases h;exact f1
  .refine S4 1 J ?_;refine c8<|lq h (λs9=>St.of [(0,.L k7.Pv a0),(1,.L k7.Pv a1),(5,.I s9)] []) W λs9 x10 h hx9=>c7<|S3 2 J<|nL J P9<|S2 1 J ?_;refine cN h (λhc h=>?_) λhc h=>?_
   .refine b8 ?_;refine c7<|c8<|dr [] p8 (by kernel_rfl) (by kernel_rfl)<|S7 2 J<|s7 h λv11 hv10 h=>d0 J (u7 (f:=k7.Pv) (cs:=k7.Pc v11) hv10 J J P9 R8 J J) J<|S7 3 J<|s7 h λv12 hv11 h=>d0 J (u7 (f:=k7.Pv) (cs:=k7.Pc v12) hv11 J J P9 R8 J J) J<|S7 1 J<|d7 J (λ_ hN=>Qv (xs:=k7.Pc v11) (ys:=k7.Pc v12) SJ J J J J) J<|G6 ?_;refine cN h (λhc h=>?_) λhc h=>?_
    .refine S4 1 J ?_;refine a8 ?_;have h:=xL hx9 h;cases h;exact f1
    .refine b8 ?_;refine S6 3 J ?_;exact eL h W
   .refine n9 ?_;refine b9<|b9<|j5 ?_;have h:=xL hx9 h;exact eJ h W
theorem HN{a0 a1}:PO prog 49 [y4.Pv a0,y4.Pv a1] (ur a0 a1) λr=>.bool r:=by
 refine pO func49 λr h _ _=>?_;refine S4 3 J<|c7<|S3 6 J<|g8 J (λhg=>oF J oi J)<|g8 J (λhg=>oS (ct hg) J J vb J)<|g8 J (λhg=>N8 (f:=o8.Pv) (ct hg) J2)<|g8 J (λhg=>oF J oi J)<|g8 J (λhg=>oS (ct hg) J J vb J)<|g8 J (λhg=>N8 (f:=o8.Pv) (ct hg) J2)<|g8 J (λhg=>r9 (ct hg) (ct hg) J)<|y0 J (y5 J J J (λq=>P1 q))<|yN ?_;refine cN h (λhc h=>?_) λhc h=>?_
 .refine S4 1 J ?_;refine a8 ?_;cases h;exact f1
 .refine b8 ?_;refine jq h (λ_=>St.of [] []) (λq7 h=>?_) λκ6 h=>?_
  .refine S4 1 J ?_;refine a8 ?_;cases h;exact f1
  .refine S4 1 J ?_;refine c8<|lq h (λs9=>St.of [(2,.ptr 2 0 0),(3,.ptr 3 0 0),(5,.I s9)] [(3,vR (y4.Pv a1) 2),(2,vR (y4.Pv a0) 2)]) W λs9 x10 h hx9=>c7<|S3 3 J<|nL J J2<|S2 1 J ?_;refine cN h (λhc h=>?_) λhc h=>?_
   .refine b8 ?_;refine c7<|c8<|dr [] p8 (by kernel_rfl) (by kernel_rfl)<|S7 3 J<|s7 h λv11 hv10 h=>d0 J (u7 (f:=o8.Pv) (cs:=o8.Pc v11) hv10 J J J2 F8 J J) J<|S7 4 J<|s7 h λv12 hv11 h=>d0 J (u7 (f:=o8.Pv) (cs:=o8.Pc v12) hv11 J J J2 F8 J J) J<|S7 1 J<|d7 J (λ_ hN=>Qv (xs:=o8.Pc v11) (ys:=o8.Pc v12) SK J J J J) J<|G6 ?_;refine cN h (λhc h=>?_) λhc h=>?_
    .refine S4 1 J ?_;refine a8 ?_;have h:=xL hx9 h;cases h;exact f1
    .refine b8 ?_;refine S6 3 J ?_;exact eL h W
   .refine n9 ?_;refine b9<|b9<|j5 ?_;have h:=xL hx9 h;exact eJ h W
theorem HP{a0 a1}:PO prog 16 [c5.Pv a0,c5.Pv a1] (uv a0 a1) λr=>.bool r:=by
 refine pO func16 λr h _ _=>?_;refine S4 3 J<|S3 4 J<|cA h HA J J λv1 _ h=>S1 1 J<|g8 J (λhg=>oF J ym J)<|g8 J (λhg=>oS (ct hg) J J fR J)<|g8 J (λhg=>oF J ym J)<|g8 J (λhg=>oS (ct hg) J J fR J)<|s7 h λv2 hv2 h=>g8 J (λhg=>B7 J jI (A3 (ct hg) (A3 (ct hg) J)) (C8 hv2 hg))<|y0 J (w8 J J J (λq=>V0 q))<|S1 1 J<|g8 J (λhg=>oF J yn J)<|g8 J (λhg=>oS (ct hg) J J IN J)<|g8 J (λhg=>oF J yn J)<|g8 J (λhg=>oS (ct hg) J J IN J)<|s7 h λv3 hv3 h=>g8 J (λhg=>B7 J HD (A3 (ct hg) (A3 (ct hg) J)) (C8 hv3 hg))<|y0 J (w8 J J J (λq=>V0 q))<|S1 1 J<|g8 J (λhg=>oF J sF J)<|g8 J (λhg=>oS (ct hg) J J Da J)<|g8 J (λhg=>oF J sF J)<|g8 J (λhg=>oS (ct hg) J J Da J)<|s7 h λv4 hv4 h=>g8 J (λhg=>B7 J HF (A3 (ct hg) (A3 (ct hg) J)) (C8 hv4 hg))<|y0 J (w8 J J J (λq=>V0 q))<|S1 1 J<|g8 J (λhg=>oF J kK J)<|g8 J (λhg=>oL (ct hg) J J mb fT nl J)<|g8 J (λhg=>oF J kK J)<|g8 J (λhg=>oL (ct hg) J J mb fT nl J)<|s7 h λv5 hv5 h=>g8 J (λhg=>B7 J HN (A3 (ct hg) (A3 (ct hg) J)) (C8 hv5 hg))<|y0 J (w8 J J J (λq=>V0 q))<|S2 1 J<|a8 ?_;cases h;exact f1
theorem EA{a0}:PO prog 66 [y9.Pv a0] (qd a0) λr=>A4.Pv r:=by
 refine pO func66 λr h _ _=>?_;refine S4 2 J<|sR<|y0 J (p9 (cs:=[.I 0,.I 0,.I 0,.I 0]) J Oy OF J J J)<|S2 2 J ?_;refine jq h (λj9=>St.of [(2,.ptr 2 0 0),(3,.ptr 3 0 0)] [(3,vR (A4.Pv j9) 4),(2,vR (.agg [.I 0,.I 0,.I 0,.I 0]) 4)]) (λj9 h=>?_) λκ8 h=>?_
 .refine S4 2 J ?_;refine a8 ?_;cases h;exact⟨J,[_],⟨oL J J J Db Dp nl J,tr⟩,J,io⟩
 .refine S4 1 J ?_;refine c8<|lq h (λq=>St.of [(1,.ptr 1 0 0),(2,.ptr 2 0 0),(3,.ptr 3 0 0),(4,.I q.1)] [(3,vR (A4.Pv q.2) 4),(2,vR (.agg [.I 0,.I 0,.I 0,.I 0]) 4),(1,vR (y9.Pv a0) 2)]) W λq14 x13 h hx9=>?_;obtain⟨s11,s12⟩:=q14;refine c7<|S3 3 J<|nL J L2<|S2 1 J ?_;refine cN h (λhc h=>?_) λhc h=>?_
  .refine b8 ?_;refine c7<|c8<|S5 3 J<|iL h J J L2 R9 λv15 _ h=>S1 2 J<|y0 J (Qq J J)<|s7 h λv16 hv11 h=>y0 J (LN hv11 J J Dm m7)<|y0 J (oS J J J x6 (A4.get hv11))<|S1 1 J<|y0 J (LN hv11 J J Dm m7)<|VR hv11 J J (.inl J) J m7<|yN<|S6 3 J ?_;exact eL h W
  .refine n9 ?_;refine b9<|b9<|j5 ?_;have h:=xL hx9 h;exact eJ h W
theorem EZ{a0}:PO prog 25 [z8.Pv a0] (qv a0) λr=>A4.Pv r:=by
 refine pO func25 λr h _ _=>?_;refine S4 2 J<|S3 3 J<|cF h K1 J J λv1 _ h=>cA h EA J J λv2 _ h=>S2 1 J<|a8 ?_;cases h;exact⟨J,[_],⟨oL J J J Db Dp nl J,tr⟩,J,io⟩
theorem EX{a0}:PO prog 28 [z8.Pv a0] (qt a0) λr=>.L iF r:=by
 refine pO func28 λr h _ _=>?_;refine S4 2 J<|sR<|y0 J (A9 J g5 m7)<|S2 1 J<|S3 3 J<|cF h Q6 J J λv1 _ h=>S2 1 J ?_;refine jq h (λj11=>St.of [(3,.sl 910003)] [(910003,⟨List.map iF j11,(List.map iF j11).length,true,1,true⟩)]) (λj11 h=>?_) λκ10 h=>?_
 .refine S4 2 J ?_;refine a8 ?_;cases h;exact f1
 .refine S4 1 J ?_;refine c8<|lq h (λq=>St.of [(1,.ptr 1 0 0),(3,.sl 910003),(4,.L iF v1),(5,.I q.1)] [(1,vR (z8.Pv a0) 9),(910003,⟨List.map iF q.2,(List.map iF q.2).length,true,1,true⟩)]) (Wk.trans (D7 (t:=3) (l:=920003) (z:=1) J J) (WP (λl=>if l=910003 then 920003 else l))) λq16 x15 h hx11=>?_;obtain⟨s13,s14⟩:=q16;refine c7<|S3 2 J<|nL J g5<|S2 1 J ?_;refine cN h (λhc h=>?_) λhc h=>?_
  .refine b8 ?_;refine c7<|c8<|bJ [] p8 (by kernel_rfl) (by kernel_rfl)<|S7 5 J<|s7 h λv17 hv12 h=>d0 J (u7 (f:=iF) (cs:=[.I v17]) hv12 J J g5 m7 J J) J<|S7 1 J<|s7 h λv18 hv13 h=>d2 J (B7 J kz J hv13) J<|Tk J (H5 (f:=iF) (l:=[v18]) J g5 m7 A0 J J nl J J) J<|s7 h λv19 hv14 h=>Vm J (F7 (f:=iF) hv14 J J J J J J (.inl ⟨_,J,J⟩) g5 m7 F9 A0 J (λ_=>J)) J J J J J<|S8 1 J<|S6 3 J ?_;exact eL h (Wk.trans (n0 _ [26]) (WP (λl=>if l=910003 then 26 else l)))
  .refine n9 ?_;refine b9<|b9<|j5 ?_;have h:=xL hx11 h;exact eJ h (Wk.trans (n0 _ [910003]) W)
theorem EV{a0}:PO prog 75 [c5.Pv a0] (qs a0) λr=>.bool r:=by
 refine pO func75 λr h _ _=>?_;refine S4 2 J<|S3 1 J<|cF h iK J J λv1 _ h=>nL J g5<|S2 2 J<|a8 ?_;cases h;exact f1
theorem EY{a0}:PO prog 30 [z8.Pv a0] (qu a0) λr=>.bool r:=by
 refine pO func30 λr h _ _=>?_;refine S4 2 J<|S3 2 J<|cA h uy J J λv1 _ h=>S1 1 J<|g8 J (λhg=>oF J Gp J)<|g8 J (λhg=>oL (ct hg) J J A6 w9 nl J)<|s7 h λv2 hv2 h=>g8 J (λhg=>B7 J EV (A3 (ct hg) J) (C8 hv2 hg))<|y0 J (w8 J J J (λq=>V0 q))<|S2 1 J<|a8 ?_;cases h;exact f1
theorem w21_EngineDoes_ok{a0 a1 a2}:PO prog 4 [b7.Pv a0,.L (Ls k8.Pv) a1,.L iF a2] (iW a0 a1 a2) λr=>.bool r:=by
 refine pO func4 λr h _ _=>?_;refine S4 2 J<|c7<|S3 1 J<|cA h FQ J J λv1 _ h=>S1 2 J<|g8 J (λhg=>oL J J J y6 u4 nl J)<|s7 h λv2 hv2 h=>MI J (λhg=>x4 J jT (A3 (ct hg) J) (C8 hv2 hg))<|s7 h λv3 hv3 h=>g8 J (λhg=>B7 J Ay (A3 (ct hg) J) (C8 hv3 hg))<|g8 J (λhg=>Z4 (ct hg) J)<|y0 J (y5 J J J (λq=>P1 q))<|S1 1 J<|g8 J (λhg=>om (d:=.L (Ls k8.Pv) a1) J)<|s7 h λv4 hv4 h=>g8 J (λhg=>B7 J Iy (A3 (ct hg) J) (C8 hv4 hg))<|g8 J (λhg=>Z4 (ct hg) J)<|y0 J (y5 J J J (λq=>P1 q))<|S1 1 J<|g8 J (λhg=>om (d:=.L (Ls k8.Pv) a1) J)<|s7 h λv5 hv5 h=>MI J (λhg=>x4 J uV (A3 (ct hg) J) (C8 hv5 hg))<|s7 h λv6 hv6 h=>g8 J (λhg=>B7 J ER (A3 (ct hg) J) (C8 hv6 hg))<|g8 J (λhg=>Z4 (ct hg) J)<|y0 J (y5 J J J (λq=>P1 q))<|S1 1 J<|g8 J (λhg=>om (d:=.L iF a2) J)<|g8 J (λhg=>N8 (f:=iF) (ct hg) g5)<|g8 J (λhg=>r9 (ct hg) J J)<|y0 J (y5 J J J (λq=>P1 q))<|S1 1 J<|s7 h λv7 hv7 h=>g8 J (λhg=>B7 J uW J (C8 hv7 hg))<|g8 J (λhg=>Z4 (ct hg) J)<|y0 J (y5 J J J (λq=>P1 q))<|yN ?_;refine cN h (λhc h=>?_) λhc h=>?_
 .refine sR ?_;refine cA h uW J J λv8 _ h=>S2 1 J<|a8 ?_;cases h;exact f1
 .refine b8 ?_;refine S3 2 J<|y0 J (p9 (cs:=[.L c4.Pv a0.S.S.Cells,.I a0.S.S.Last,.I a0.S.Serial,.L iF a0.Roots,.L g9.Pv a0.Cells,.L c9.Pv a0.T,.L l5.Pv a0.Q.L,.I a0.Q.Cap,.L (Ls k8.Pv) a1]) J Di Ds J J J)<|S2 2 J<|S3 2 J<|cF h sX J J λv9 _ h=>S2 7 J<|S3 1 J<|cF h jU J J λv10 hv10 h=>S1 1 J<|cF h NJ J J λv11 _ h=>S2 7 J<|dr [] p8 (by kernel_rfl) (by kernel_rfl)<|S7 2 J<|s7 h λv12 hv12 h=>d2 J (B7 J Bb J hv12) J<|S7 1 J<|y7 J (λhg _ hN=>oF J Gm J) J<|C0 J (λhg=>oL (ct hg) J J y6 u4 nl J) J<|s7 h λv13 hv13 h=>rP J (λhg=>x4 J jT (A3 (ct hg) J) (C8 hv13 hg)) J<|y7 J (λhg _ hN=>oF J Gp J) J<|C0 J (λhg=>oL (ct hg) J J A6 w9 nl J) J<|s7 h λv14 hv14 h=>ef J (λhg=>B7 J HP (A3 (ct hg) (A3 (ct hg) J)) (C8 hv14 hg)) J<|d7 J (λ_ hN=>w8 J J J (λq=>V0 q)) J<|S7 1 J<|C0 J (λhg=>oL J J J gX O9 nl J) J<|C0 J (λhg=>oL J J J yj yp nl J) J<|y7 J (λhg _ hN=>LM (xs:=m8.Pc v9.2) (ys:=E9.Pc v11.2) Wd (ct hg) (ct hg) J) J<|d7 J (λ_ hN=>w8 J J J (λq=>V0 q)) J<|S7 1 J<|C0 J (λhg=>oL J J J ak Q0 nl J) J<|s7 h λv15 hv15 h=>ef J (λhg=>B7 J nH (A3 (ct hg) J) (C8 hv15 hg)) J<|C0 J (λhg=>oL J J J ak Q0 nl J) J<|rP J (λhg=>x4 J jU (A3 (ct hg) J) hv10) J<|s7 h λv16 hv16 h=>ef J (λhg=>B7 J EZ (A3 (ct hg) J) (C8 hv16 hg)) J<|y7 J (λhg _ hN=>LM (xs:=A4.Pc v15) (ys:=A4.Pc v16) Oz (ct hg) (ct hg) J) J<|d7 J (λ_ hN=>w8 J J J (λq=>V0 q)) J<|S7 1 J<|C0 J (λhg=>oL J J J ak Q0 nl J) J<|s7 h λv17 hv17 h=>rP J (λhg=>x4 J nF (A3 (ct hg) J) (C8 hv17 hg)) J<|C0 J (λhg=>oL J J J ak Q0 nl J) J<|rP J (λhg=>x4 J jU (A3 (ct hg) J) hv10) J<|s7 h λv18 hv18 h=>rP J (λhg=>x4 J EX (A3 (ct hg) J) (C8 hv18 hg)) J<|s7 h λv19 hv19 h=>ef J (λhg=>B7 J jI (A3 (ct hg) (A3 (ct hg) J)) (C8 hv19 hg)) J<|d7 J (λ_ hN=>w8 J J J (λq=>V0 q)) J<|S7 1 J<|C0 J (λhg=>oL J J J ak Q0 nl J) J<|s7 h λv20 hv20 h=>ef J (λhg=>B7 J nG (A3 (ct hg) J) (C8 hv20 hg)) J<|C0 J (λhg=>oL J J J ak Q0 nl J) J<|rP J (λhg=>x4 J jU (A3 (ct hg) J) hv10) J<|s7 h λv21 hv21 h=>ef J (λhg=>B7 J EY (A3 (ct hg) J) (C8 hv21 hg)) J<|y7 J (λhg _ hN=>Qs (ct hg) (ct hg) OB J) J<|d7 J (λ_ hN=>w8 J J J (λq=>V0 q)) J<|S8 1 J<|a8 ?_;cases h;exact f1
end Go.Proofs.YtjlokngooekbcaaGreat.Ok
