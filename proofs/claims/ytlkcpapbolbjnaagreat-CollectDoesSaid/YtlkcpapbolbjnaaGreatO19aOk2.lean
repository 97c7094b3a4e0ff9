/-
 The functions of the program do as the plain functions do.
-/
import Derived.Test.YtlkcpapbolbjnaaGreatO19aOk1
set_option linter.unusedVariables false
set_option linter.unusedSimpArgs false
set_option linter.unusedSectionVars false
namespace Go.Proofs.YtlkcpapbolbjnaaGreat.Ok
open Go Go.Pw Go.Sh Go.Proofs
set_option maxRecDepth 100000
set_option maxHeartbeats 4000000
theorem a9j{a0}:PO Tryz.prog 288 [.I a0] (a20 a0) λr=>.tup [.I r.1,.I r.2]:=by
 refine pO Tryz.func288 λr h _ _=>?_
 refine S4 2 J<|b9<|S3 1 J<|cA h U1 J J λv1 _ h=>yN ?_
 refine cN h (λhc h=>?_) λhc h=>?_
 ·refine S4 2 J ?_
  refine a6 ?_
  cases h
  exact f2
 ·refine a8 ?_
  refine S3 1 J<|y0 J (c5Z J J J)<|S2 3 J<|a6 ?_
  cases h
  exact f2

theorem b5t{a0}:PO Tryz.prog 218 [.I a0] (a7y a0) λr=>.I r:=by
 refine pO Tryz.func218 λr h _ _=>?_
 refine S4 1 J<|S3 1 J<|cA h a9j J J λv1 _ h=>S2 5 J<|S4 2 J<|a6 ?_
 cases h
 exact f1

theorem a6n{a0 a1 a2}:PO Tryz.prog 216 [slab_Slab_store_Obj.Pv a0,.I a1,store_Obj.Pv a2] (H7 a0 a1 a2) λr=>.tup [slab_Slab_store_Obj.Pv r.1,.I r.2]:=by
 refine pO Tryz.func216 λr h _ _=>?_
 refine S4 4 J<|S3 2 J<|cA h E1 J J λv1 _ h=>S2 5 J<|b9<|S4 2 J ?_
 refine cN h (λhc h=>?_) λhc h=>?_
 ·refine S4 4 J ?_
  refine a6 ?_
  cases h
  exact⟨J,[_,_],⟨oL J J J Ty.a24 Ty.Y4 nl J,⟨J,tr⟩⟩,J,io⟩
 ·refine a8 ?_
  refine S3 3 J<|iL h J J Ty.e22 Ty.a4Y λv2 _ h=>S2 3 J<|S4 3 J<|S3 3 J<|cF h G1 J J λv3 _ h=>S2 2 J<|a6 ?_
  cases h
  exact⟨J,[_,_],⟨oL J J J Ty.a24 Ty.Y4 nl J,⟨J,tr⟩⟩,J,io⟩

theorem X5{a0 a1 a2}:PO Tryz.prog 130 [store_Store.Pv a0,.I a1,store_Obj.Pv a2] (J3 a0 a1 a2) λr=>.tup [store_Store.Pv r.1,.I r.2]:=by
 refine pO Tryz.func130 λr h _ _=>?_
 refine S4 4 J<|S4 1 J<|S3 4 J<|cF h a6n J J λv1 _ h=>S2 6 J<|S4 4 J<|a6 ?_
 cases h
 exact⟨J,[_,_],⟨oL J J J Ty.a26 Ty.s26 nl J,⟨J,tr⟩⟩,J,io⟩

theorem a3d{a0 a1}:PO Tryz.prog 186 [hold_Heap.Pv a0,.I a1,.fn (.func 218) []] (P2 a0 a1) λr=>hold_Heap.Pv r:=by
 refine pO Tryz.func186 λr h _ _=>?_
 refine S4 2 J<|S3 3 J<|cF h y4 J J λv1 _ h=>S2 6 J<|b9<|S4 2 J ?_
 refine cN h (λhc h=>?_) λhc h=>?_
 ·refine S3 3 J ?_
  refine cA h b5t J J λv2 _ h=>S2 2 J<|S5 4 J<|cF h X5 J J λv3 _ h=>S2 5 J<|S4 2 J<|a6 ?_
  cases h
  exact⟨J,[_],⟨oL J J J Ty.O2 Ty.I6 nl J,tr⟩,J,io⟩
 ·refine a8 ?_
  refine S4 2 J<|a6 ?_
  cases h
  exact⟨J,[_],⟨oL J J J Ty.O2 Ty.I6 nl J,tr⟩,J,io⟩

theorem a0L{a0 a1}:PO Tryz.prog 132 [hold_Heap.Pv a0,.I a1] (U6 a0 a1) λr=>hold_Heap.Pv r:=by
 refine pO Tryz.func132 λr h _ _=>?_
 refine S4 2 J<|S3 2 J<|cF h a3d J J λv1 _ h=>S2 1 J<|a6 ?_
 cases h
 exact⟨J,[_],⟨oL J J J Ty.O2 Ty.I6 nl J,tr⟩,J,io⟩

theorem Z5{a0}:PON Tryz.prog 196 [.L iF a0] (I8 a0) λr=>⟨List.map iF r,0,true,1,true⟩:=by
 refine pON Tryz.func196 λr h _ _=>?_
 unfold I8 at h
 refine S4 1 J<|b9<|S3 1 J<|b6C J Ty.p8 λb hb=>yN ?_
 refine E5 b J (λhc=>?_) (λhc=>?_)
 ·obtain rfl:a0 = []:=by simpa using hb hc
  refine S4 1 J<|a1h (B2 (t:=2) (l:=920000) (z:=1) J J)<|a6 ?_
  cases h
  exact⟨J,_,_,J,J,J,J⟩
 ·refine a8 ?_
  refine sR<|y0 J (A0 J Ty.p8 Ty.s3)<|S1 1 J<|y1 J (a4C (f:=iF) h J J (.inl ⟨_,J,J⟩) Ty.p8 Ty.s3 Ty.b3 Ty.z3 J (λ_=>J)) J<|S2 1 J<|a6 ?_
  exact⟨J,_,_,J,J,J,J⟩

theorem a6k{a0 a1}:PO Tryz.prog 185 [F8.Pv a0,hold_Heap.Pv a1] (a0i a0 a1) λr=>hold_Heap.Pv r:=by
 refine pO Tryz.func185 λr h _ _=>?_
 unfold a0i at h
 refine S4 3 J<|S3 2 J<|l7 h λv1 hv1 h=>ycN J (b21 J Z5 J hv1) J J<|S2 2 J<|S3 6 J<|l7 h λv2 hv2 h=>y0 J (a0w (f:=iF) hv2 J J J J Ty.p8 Ty.s3 J)<|a6e (f:=iF) (v:=a0.h) hv2 J J (.inl J) Ty.s3<|yN<|S4 2 J<|a6 ?_
 cases h
 exact⟨J,[_],⟨oL J J J Ty.O2 Ty.I6 nl J,tr⟩,J,io⟩

theorem a8c{a0}:PO Tryz.prog 265 [.I a0] (a1m a0) λr=>.tup [.I r.1,.I r.2]:=by
 refine pO Tryz.func265 λr h _ _=>?_
 refine S4 2 J<|b9<|S3 1 J<|cA h U1 J J λv1 _ h=>yN ?_
 refine cN h (λhc h=>?_) λhc h=>?_
 ·refine S4 2 J ?_
  refine a6 ?_
  cases h
  exact f2
 ·refine a8 ?_
  refine b9<|S4 2 J ?_
  refine cN h (λhc h=>?_) λhc h=>?_
  ·refine S4 2 J ?_
   refine a6 ?_
   cases h
   exact f2
  ·refine a8 ?_
   refine S4 4 J<|a6 ?_
   cases h
   exact f2

theorem b5s{a0}:PO Tryz.prog 188 [.I a0] (b0F a0) λr=>.tup [.I r.1,.I r.2]:=by
 refine pO Tryz.func188 λr h _ _=>?_
 refine S4 2 J<|S3 1 J<|cA h a8c J J λv1 _ h=>S2 5 J<|S4 4 J<|a6 ?_
 cases h
 exact f2

theorem a9C{a0}:PO Tryz.prog 187 [.I a0] (a0K a0) λr=>.I r:=by
 refine pO Tryz.func187 λr h _ _=>?_
 refine S4 1 J<|S3 1 J<|cA h b5s J J λv1 _ h=>S2 5 J<|b9<|S4 2 J ?_
 refine cN h (λhc h=>?_) λhc h=>?_
 ·refine S4 2 J ?_
  refine a6 ?_
  cases h
  exact f1
 ·refine a8 ?_
  refine S4 2 J<|a6 ?_
  cases h
  exact f1

theorem a1a{a0 a1}:PO Tryz.prog 186 [hold_Heap.Pv a0,.I a1,.fn (.func 187) []] (J5 a0 a1) λr=>hold_Heap.Pv r:=by
 refine pO Tryz.func186 λr h _ _=>?_
 refine S4 2 J<|S3 3 J<|cF h y4 J J λv1 _ h=>S2 6 J<|b9<|S4 2 J ?_
 refine cN h (λhc h=>?_) λhc h=>?_
 ·refine S3 3 J ?_
  refine cA h a9C J J λv2 _ h=>S2 2 J<|S5 4 J<|cF h X5 J J λv3 _ h=>S2 5 J<|S4 2 J<|a6 ?_
  cases h
  exact⟨J,[_],⟨oL J J J Ty.O2 Ty.I6 nl J,tr⟩,J,io⟩
 ·refine a8 ?_
  refine S4 2 J<|a6 ?_
  cases h
  exact⟨J,[_],⟨oL J J J Ty.O2 Ty.I6 nl J,tr⟩,J,io⟩

theorem a0a{a0 a1}:PO Tryz.prog 110 [hold_Heap.Pv a0,.I a1] (H9 a0 a1) λr=>hold_Heap.Pv r:=by
 refine pO Tryz.func110 λr h _ _=>?_
 refine S4 2 J<|S3 2 J<|cF h a1a J J λv1 _ h=>S2 1 J<|a6 ?_
 cases h
 exact⟨J,[_],⟨oL J J J Ty.O2 Ty.I6 nl J,tr⟩,J,io⟩

theorem a0k{a0 a1 a2 a3}:PO Tryz.prog 184 [hold_Heap.Pv a0,.I a1,.I a2,.abs (BFn 185 [F8.Pv a3])] (O4 a0 a1 a2 a3) λr=>hold_Heap.Pv r:=by
 refine pO Tryz.func184 λr h _ _=>?_
 refine S4 2 J<|S3 3 J<|cF h a0L J J λv1 _ h=>l7 h λv2 hv2 h=>b6B (xs:=[hold_Heap.Pv v1]) J J Ty.c9A J (a6k.2 _ hv2)<|S1 1 J<|cF h a0a J J λv3 _ h=>S2 1 J<|a6 ?_
 cases h
 exact⟨J,[_],⟨oL J J J Ty.O2 Ty.I6 nl J,tr⟩,J,io⟩

theorem b5L{a0 a1 a2}:PO Tryz.prog 109 [hold_Heap.Pv a0,.I a1,.I a2] (b4P a0 a1 a2) λr=>.tup [hold_Heap.Pv r.1,.I r.2]:=by
 refine pO Tryz.func109 λr h _ _=>?_
 refine S4 3 J<|b9<|S3 3 J<|b8 J (λhg=>mI J)<|b8 J (λhg=>oF J Ty.b9B J)<|b8 J (λhg=>oS (ct hg) J J Ty.a27 J)<|b8 J (λhg=>D6 (f:=iF) (ct hg) Ty.p8)<|b8 J (λhg=>j8 (ct hg) (ct hg) J)<|y0 J (n8 J J J (λq=>H5 q))<|yN ?_
 refine cN h (λhc h=>?_) λhc h=>?_
 ·refine S4 3 J ?_
  refine a6 ?_
  cases h
  exact⟨J,[_,_],⟨oL J J J Ty.O2 Ty.I6 nl J,⟨J,tr⟩⟩,J,io⟩
 ·refine a8 ?_
  refine b9<|S3 2 J<|cA h K5 J J λv1 _ h=>S2 1 J ?_
  refine cN h (λhc h=>?_) λhc h=>?_
  ·refine S4 3 J ?_
   refine a6 ?_
   cases h
   exact⟨J,[_,_],⟨oL J J J Ty.O2 Ty.I6 nl J,⟨J,tr⟩⟩,J,io⟩
  ·refine a8 ?_
   refine dr [] Ty.K8 (by kernel_rfl) (by kernel_rfl)<|S7 4 J<|l7 h λv2 hv2 h=>d0 J (p9 (f:=iF) (cs:=[.I v2]) hv2 J J Ty.p8 Ty.s3 J J) J<|S7 4 J<|d7 J (λ_ hN=>l6 (cs:=[.I a1,.I a2]) J Ty.c9O Ty.d0h J J J) J<|d7 J (λ_ hN=>b00 (d:=.agg [.I a1,.I a2]) J) J<|l7 h λv3 hv3 h=>Q7 J (n0 J a0k J hv3) J<|F0 (x':=hold_Heap.Pv v3) (cl':=true) J J (.inr J) Ty.I6<|S8 1 J<|a6 ?_
   cases h
   exact⟨J,[_,_],⟨oL J J J Ty.O2 Ty.I6 nl J,⟨J,tr⟩⟩,J,io⟩

theorem E6{a0 a1 a2}:PO Tryz.prog 315 [o9.Pv a0,.I a1,.I a2] (F9 a0 a1 a2) λr=>.tup [hold_Heap.Pv r.1,.I r.2]:=by
 refine pO Tryz.func315 λr h _ _=>?_
 refine S4 3 J<|b9<|S4 2 J ?_
 refine cN h (λhc h=>?_) λhc h=>?_
 ·refine S4 5 J ?_
  refine a6 ?_
  cases h
  exact⟨J,[_,_],⟨oL J J J Ty.O2 Ty.I6 nl J,⟨J,tr⟩⟩,J,io⟩
 ·refine a8 ?_
  refine S3 6 J<|cF h b5L J J λv1 _ h=>S2 4 J<|a6 ?_
  cases h
  exact⟨J,[_,_],⟨oL J J J Ty.O2 Ty.I6 nl J,⟨J,tr⟩⟩,J,io⟩

theorem a0S{a0}:PO Tryz.prog 242 [o9.Pv a0] (a2y a0) λr=>.tup [hold_Heap.Pv r.1,.I r.2]:=by
 refine pO Tryz.func242 λr h _ _=>?_
 refine S4 3 J<|S3 9 J<|cF h b4k J J λv1 _ h=>S2 8 J<|b9<|S4 2 J ?_
 refine cN h (λhc h=>?_) λhc h=>?_
 ·refine S4 5 J ?_
  refine a6 ?_
  cases h
  exact⟨J,[_,_],⟨oL J J J Ty.O2 Ty.I6 nl J,⟨J,tr⟩⟩,J,io⟩
 ·refine a8 ?_
  refine S4 4 J<|S3 2 J<|cF h E6 J J λv2 _ h=>S2 4 J<|a6 ?_
  cases h
  exact⟨J,[_,_],⟨oL J J J Ty.O2 Ty.I6 nl J,⟨J,tr⟩⟩,J,io⟩

theorem J6{a0 a1}:PO Tryz.prog 181 [hold_Heap.Pv a0,.I a1] (M3 a0 a1) λr=>.I r:=by
 refine pO Tryz.func181 λr h _ _=>?_
 refine S4 2 J<|b9<|S3 3 J<|b8 J (λhg=>mI J)<|b8 J (λhg=>oF J Ty.b9B J)<|b8 J (λhg=>oS (ct hg) J J Ty.a27 J)<|b8 J (λhg=>D6 (f:=iF) (ct hg) Ty.p8)<|b8 J (λhg=>j8 (ct hg) (ct hg) J)<|y0 J (n8 J J J (λq=>H5 q))<|yN ?_
 refine cN h (λhc h=>?_) λhc h=>?_
 ·refine S4 1 J ?_
  refine a6 ?_
  cases h
  exact f1
 ·refine a8 ?_
  refine S3 3 J<|iL h J J Ty.p8 Ty.s3 λv1 _ h=>S2 2 J<|a6 ?_
  cases h
  exact f1

theorem X8{a0}:PO Tryz.prog 243 [o9.Pv a0] (Q9 a0) λr=>.tup [hold_Heap.Pv r.1,.I r.2]:=by
 refine pO Tryz.func243 λr h _ _=>?_
 unfold Q9 at h
 refine S4 3 J<|dr [] Ty.K8 (by kernel_rfl) (by kernel_rfl)<|S7 6 J<|l7 h λv1 hv1 h=>d2 J (y5 J J6 J hv1) J<|l7 h λv2 hv2 h=>Q7 J (n0 J E6 J hv2) J<|S7 2 J<|F0 (x':=hold_Heap.Pv v2.1) (cl':=true) J J (.inr J) Ty.I6<|S8 1 J<|a6 ?_
 cases h
 exact⟨J,[_,_],⟨oL J J J Ty.O2 Ty.I6 nl J,⟨J,tr⟩⟩,J,io⟩

theorem a14{a0}:PO Tryz.prog 244 [o9.Pv a0] (a3L a0) λr=>.tup [hold_Heap.Pv r.1,.I r.2]:=by
 refine pO Tryz.func244 λr h _ _=>?_
 refine S4 3 J<|S3 1 J<|cF h E6 J J λv1 _ h=>S2 4 J<|a6 ?_
 cases h
 exact⟨J,[_,_],⟨oL J J J Ty.O2 Ty.I6 nl J,⟨J,tr⟩⟩,J,io⟩

theorem M2{a0 a1}:PO Tryz.prog 316 [hold_Heap.Pv a0,.I a1] (P3 a0 a1) λr=>.tup [.I r.1,.I r.2]:=by
 refine pO Tryz.func316 λr h _ _=>?_
 refine S4 3 J<|S3 2 J<|cA h J6 J J λv1 _ h=>S2 1 J<|b9<|S4 2 J ?_
 refine cN h (λhc h=>?_) λhc h=>?_
 ·refine S4 2 J ?_
  refine a6 ?_
  cases h
  exact f2
 ·refine a8 ?_
  refine S4 3 J<|a6 ?_
  cases h
  exact f2

theorem b3H{a0 a1}:PO Tryz.prog 391 [.L iF a0,.I a1] (b2n a0 a1) λr=>.bool r:=by
 refine pO Tryz.func391 λr h _ _=>?_
 unfold b2n at h
 refine S4 1 J<|S3 3 J<|b8 J (λhg=>mI J)<|b8 J (λhg=>om (d:=.L iF a0) J)<|b8 J (λhg=>D6 (f:=iF) (ct hg) Ty.p8)<|b8 J (λhg=>j8 (ct hg) (ct hg) J)<|y0 J (k7 J J J (λq=>H0 q))<|S2 1 J<|a6 ?_
 cases h
 exact f1

theorem c1w{a0 a1}:PO Tryz.prog 367 [.L iF a0,.I a1] (c3G a0 a1) λr=>.tup [.I r.1,.I r.2]:=by
 refine pO Tryz.func367 λr h _ _=>?_
 refine S4 2 J<|b9<|S3 2 J<|cA h b3H J J λv1 _ h=>S2 1 J ?_
 refine cN h (λhc h=>?_) λhc h=>?_
 ·refine S4 2 J ?_
  refine a6 ?_
  cases h
  exact f2
 ·refine a8 ?_
  refine S3 2 J<|iL h J J Ty.p8 Ty.s3 λv2 _ h=>S2 3 J<|a6 ?_
  cases h
  exact f2

theorem a7r{a0 a1 a2}:PO Tryz.prog 317 [store_Store.Pv a0,.I a1,.I a2] (a7q a0 a1 a2) λr=>.tup [.I r.1,.I r.2]:=by
 refine pO Tryz.func317 λr h _ _=>?_
 refine S4 3 J<|S3 2 J<|cF h y4 J J λv1 _ h=>S2 6 J<|b9<|S4 2 J ?_
 refine cN h (λhc h=>?_) λhc h=>?_
 ·refine S4 3 J ?_
  refine a6 ?_
  cases h
  exact f2
 ·refine a8 ?_
  refine S3 3 J<|cA h c1w J J λv2 _ h=>S2 4 J<|a6 ?_
  cases h
  exact f2

theorem a15{a0}:PO Tryz.prog 245 [o9.Pv a0] (a3M a0) λr=>.tup [hold_Heap.Pv r.1,.I r.2]:=by
 refine pO Tryz.func245 λr h _ _=>?_
 refine S4 3 J<|S3 5 J<|cA h M2 J J λv1 _ h=>S2 5 J<|b9<|S4 2 J ?_
 refine cN h (λhc h=>?_) λhc h=>?_
 ·refine S4 5 J ?_
  refine a6 ?_
  cases h
  exact⟨J,[_,_],⟨oL J J J Ty.O2 Ty.I6 nl J,⟨J,tr⟩⟩,J,io⟩
 ·refine a8 ?_
  refine dr [] Ty.K8 (by kernel_rfl) (by kernel_rfl)<|S7 8 J<|l7 h λv2 hv2 h=>d2 J (y5 J a7r J hv2) J<|S7 2 J<|l7 h λv3 hv3 h=>Q7 J (n0 J E6 J hv3) J<|S7 2 J<|F0 (x':=hold_Heap.Pv v3.1) (cl':=true) J J (.inr J) Ty.I6<|S8 1 J<|a6 ?_
  cases h
  exact⟨J,[_,_],⟨oL J J J Ty.O2 Ty.I6 nl J,⟨J,tr⟩⟩,J,io⟩

theorem b77{a0 a1 a2}:PO Tryz.prog 398 [.L iF a0,.I a1,.I a2] (b76 a0 a1 a2) λr=>.tup [.L iF r.1,.I r.2]:=by
 refine pO Tryz.func398 λr h _ _=>?_
 refine S4 2 J<|b9<|S3 2 J<|cA h b3H J J λv1 _ h=>S2 1 J ?_
 refine cN h (λhc h=>?_) λhc h=>?_
 ·refine S4 3 J ?_
  refine a6 ?_
  cases h
  exact f2
 ·refine a8 ?_
  refine S3 1 J<|nL J Ty.p8<|l7 h λv2 hv2 h=>y1 J (b8Q (f:=iF) hv2 J J J Ty.p8 Ty.s3 Ty.z3 Ty.b3 J J J) J<|S2 1 J<|S3 2 J<|l7 h λv3 hv3 h=>c83 (f:=iF) hv3 J J J (.inl ⟨_,J,J⟩) Ty.p8 Ty.s3 (λ_=>J) (by decide)<|yN<|S3 3 J<|l7 h λv4 hv4 h=>y0 J (a0w (f:=iF) hv4 J J J J Ty.p8 Ty.s3 J)<|a6e (f:=iF) (v:=a2) hv4 J J (.inl J) Ty.s3<|yN<|S4 3 J<|a6 ?_
  cases h
  exact f2

theorem b6q{a0 a1 a2 a3}:PO Tryz.prog 392 [store_Store.Pv a0,.I a1,.I a2,.I a3] (b5d a0 a1 a2 a3) λr=>.tup [store_Store.Pv r.1,.I r.2]:=by
 refine pO Tryz.func392 λr h _ _=>?_
 refine S4 3 J<|S3 2 J<|cF h y4 J J λv1 _ h=>S2 6 J<|b9<|S4 2 J ?_
 refine cN h (λhc h=>?_) λhc h=>?_
 ·refine S4 4 J ?_
  refine a6 ?_
  cases h
  exact⟨J,[_,_],⟨oL J J J Ty.a26 Ty.s26 nl J,⟨J,tr⟩⟩,J,io⟩
 ·refine a8 ?_
  refine b9<|S3 4 J<|cF h b77 J J λv2 _ h=>S2 6 J<|S4 2 J ?_
  refine cN h (λhc h=>?_) λhc h=>?_
  ·refine S4 4 J ?_
   refine a6 ?_
   cases h
   exact⟨J,[_,_],⟨oL J J J Ty.a26 Ty.s26 nl J,⟨J,tr⟩⟩,J,io⟩
  ·refine a8 ?_
   refine S3 3 J<|cF h X5 J J λv3 _ h=>S2 4 J<|a6 ?_
   cases h
   exact⟨J,[_,_],⟨oL J J J Ty.a26 Ty.s26 nl J,⟨J,tr⟩⟩,J,io⟩

theorem a5r{a0 a1}:PO Tryz.prog 368 [E4.Pv a0,hold_Heap.Pv a1] (a2x a0 a1) λr=>hold_Heap.Pv r:=by
 refine pO Tryz.func368 λr h _ _=>?_
 refine S4 3 J<|S3 8 J<|cF h b6q J J λv1 _ h=>S2 5 J<|S4 2 J<|a6 ?_
 cases h
 exact⟨J,[_],⟨oL J J J Ty.O2 Ty.I6 nl J,tr⟩,J,io⟩

theorem Y9{a0 a1 a2 a3}:PO Tryz.prog 184 [hold_Heap.Pv a0,.I a1,.I a2,.abs (BFn 368 [E4.Pv a3])] (M0 a0 a1 a2 a3) λr=>hold_Heap.Pv r:=by
 refine pO Tryz.func184 λr h _ _=>?_
 refine S4 2 J<|S3 3 J<|cF h a0L J J λv1 _ h=>l7 h λv2 hv2 h=>b6B (xs:=[hold_Heap.Pv v1]) J J Ty.c9D J (a5r.2 _ hv2)<|S1 1 J<|cF h a0a J J λv3 _ h=>S2 1 J<|a6 ?_
 cases h
 exact⟨J,[_],⟨oL J J J Ty.O2 Ty.I6 nl J,tr⟩,J,io⟩

theorem b32{a0 a1 a2 a3}:PO Tryz.prog 318 [hold_Heap.Pv a0,.I a1,.I a2,.I a3] (b2P a0 a1 a2 a3) λr=>.tup [hold_Heap.Pv r.1,.I r.2]:=by
 refine pO Tryz.func318 λr h _ _=>?_
 refine S4 3 J<|S3 4 J<|cA h a7r J J λv1 _ h=>S2 5 J<|b9<|S4 2 J ?_
 refine cN h (λhc h=>?_) λhc h=>?_
 ·refine S4 4 J ?_
  refine a6 ?_
  cases h
  exact⟨J,[_,_],⟨oL J J J Ty.O2 Ty.I6 nl J,⟨J,tr⟩⟩,J,io⟩
 ·refine a8 ?_
  refine b9<|S3 2 J<|cA h K5 J J λv2 _ h=>S2 1 J ?_
  refine cN h (λhc h=>?_) λhc h=>?_
  ·refine S4 3 J ?_
   refine a6 ?_
   cases h
   exact⟨J,[_,_],⟨oL J J J Ty.O2 Ty.I6 nl J,⟨J,tr⟩⟩,J,io⟩
  ·refine a8 ?_
   refine S3 6 J<|y0 J (l6 (cs:=[.I a1,.I a2,.I a3]) J Ty.c9Q Ty.d0k J J J)<|y0 J (b00 (d:=.agg [.I a1,.I a2,.I a3]) J)<|cF h Y9 J J λv3 _ h=>S2 2 J<|a6 ?_
   cases h
   exact⟨J,[_,_],⟨oL J J J Ty.O2 Ty.I6 nl J,⟨J,tr⟩⟩,J,io⟩

theorem a1g{a0}:PO Tryz.prog 246 [o9.Pv a0] (a3i a0) λr=>.tup [hold_Heap.Pv r.1,.I r.2]:=by
 refine pO Tryz.func246 λr h _ _=>?_
 refine S4 3 J<|S3 5 J<|cA h M2 J J λv1 _ h=>S2 5 J<|b9<|S4 2 J ?_
 refine cN h (λhc h=>?_) λhc h=>?_
 ·refine S4 5 J ?_
  refine a6 ?_
  cases h
  exact⟨J,[_,_],⟨oL J J J Ty.O2 Ty.I6 nl J,⟨J,tr⟩⟩,J,io⟩
 ·refine a8 ?_
  refine dr [] Ty.K8 (by kernel_rfl) (by kernel_rfl)<|S7 11 J<|l7 h λv2 hv2 h=>d2 J (y5 J J6 J hv2) J<|l7 h λv3 hv3 h=>Q7 J (n0 J b32 J hv3) J<|S7 2 J<|F0 (x':=hold_Heap.Pv v3.1) (cl':=true) J J (.inr J) Ty.I6<|S8 1 J<|a6 ?_
  cases h
  exact⟨J,[_,_],⟨oL J J J Ty.O2 Ty.I6 nl J,⟨J,tr⟩⟩,J,io⟩

theorem b3D{a0 a1}:PO Tryz.prog 284 [queue_Queue_task_Task.Pv a0,.I a1] (b0q a0 a1) λr=>.fn (.func 350) [.rptr (queue_Queue_task_Task.Pc r.1),.rptr [.I r.2]]:=by
 refine pO Tryz.func284 λr h _ _=>?_
 unfold b0q at h
 refine S4 3 J<|S4 2 J<|a6 ?_
 cases h
 exact f1

theorem b4l{a0 a1}:PO Tryz.prog 369 [queue_Queue_task_Task.Pv a0,.I a1] (b3C a0 a1) λr=>.bool r:=by
 refine pO Tryz.func369 λr h _ _=>?_
 refine S4 3 J ?_
 refine jq h (λ_=>St.of [(4,.ptr 2001 0 0)] [(2001,vR (.bool false) 1)]) (λq7 h=>?_) λκ6 h=>?_
 ·refine S4 1 J ?_
  refine a6 ?_
  cases h
  exact⟨J,[_],⟨oS J J J Ty.a4 J,tr⟩,J,io⟩
 ·refine S3 1 J ?_
  refine cF h b3D J J λv8 _ h=>yN<|b7<|a1h (WPE (λl=>if l=2003 then 4 else if l=2004 then 3 else l) [(3,.ptr 2004 0 0),(4,.ptr 2003 0 0),(7,.fn (.func 350) [.rptr (queue_Queue_task_Task.Pc v8.1),.rptr [.I v8.2]])] [(2003,vR (.bool false) 1),(2004,vR (.I a1) 1)]) ?_
  refine Z1 (fn:=Tryz.f350) (N1:=24) J Tryz.func350 J J nl J Ty.c8q J J (λl16 e17 o18 hR19=>?_)
  refine S3 2 J<|nL J Ty.e30<|S2 1 J<|b7<|lq h (λs10=>St.of [(1000003,.ptr 2004 0 0),(1000004,.ptr 2003 0 0),(1000007,.fn (.func 350) [.rptr (queue_Queue_task_Task.Pc v8.1),.rptr [.I v8.2]]),(0,.fn (.yield l16) []),(2,.rptr [.I v8.2]),(7,.L task_Task.Pv v8.1.L),(8,.I (v8.1.L.length:Int)),(9,.I s10)] [(2003,vR (.bool false) 1),(2004,vR (.I a1) 1)]) W λs10 x11 h hx22=>S4 1 J<|b9 ?_
  refine cN h (λhc h=>?_) λhc h=>?_
  ·refine a8 ?_
   refine b9<|b7<|sR<|iL h J J Ty.e30 Ty.s79 λv12 _ h=>S2 3 J<|S3 5 J<|b8 J (λhg=>om (d:=.fn (.yield l16) []) J)<|b8 J (λhg=>oL J J J Ty.a79 Ty.s79 nl J) ?_
   rcases Bool.eq_false_or_eq_true ((v12.Kind==v8.2)==true) with hg24 | hg24
   ·have h:=ifT h hg24
    refine H2 (WE [(1000003,.ptr 2004 0 0),(1000004,.ptr 2003 0 0),(1000007,.fn (.func 350) [.rptr (queue_Queue_task_Task.Pc v8.1),.rptr [.I v8.2]]),(0,.fn (.yield l16) []),(2,.rptr [.I v8.2]),(7,.L task_Task.Pv v8.1.L),(8,.I (v8.1.L.length:Int)),(9,.I s10),(17,.bool (v12.Kind==v8.2)),(18,.fn (.yield l16) []),(19,task_Task.Pv v12)] [(2003,vR (.bool false) 1),(2004,vR (.I a1) 1)]) ?_
    refine a33 hR19 (congrArg some hg24) J J J J J (λe25 o26 o27=>?_)
    refine S6 2 J ?_
    refine⟨J,?_⟩
    refine b7<|S4 4 J ?_
    refine cN h (λhc h=>?_) λhc h=>?_
    ·refine S4 1 J ?_
     refine a6 ?_
     refine⟨J,?_⟩
     refine H2 (WE [(1000003,.ptr 2004 0 0),(1000004,.ptr 2003 0 0),(1000007,.fn (.func 350) [.rptr (queue_Queue_task_Task.Pc v8.1),.rptr [.I v8.2]]),(0,.fn (.yield l16) []),(2,.rptr [.I v8.2]),(7,.L task_Task.Pv v8.1.L),(8,.I (v8.1.L.length:Int)),(9,.I s10),(17,.bool (v12.Kind==v8.2)),(20,.bool false)] [(2003,vR (.bool true) 1),(2004,vR (.I a1) 1)])<|y0 (congrArg some hg24) (J7 J J)<|y0 J (a3R J J hg24)<|yN ?_
     refine E5 true J (λ_=>?_) (λq=>nomatch q)
     refine a6 ?_
     refine .inr ⟨.ret,J,c4w ?_⟩
     have h:=xL hx22 h
     cases h
     exact⟨J,[_],⟨oS J J J Ty.a4 J,tr⟩,J,io⟩
    ·refine a8 ?_
     refine⟨J,?_⟩
     refine H2 (WE [(1000003,.ptr 2004 0 0),(1000004,.ptr 2003 0 0),(1000007,.fn (.func 350) [.rptr (queue_Queue_task_Task.Pc v8.1),.rptr [.I v8.2]]),(0,.fn (.yield l16) []),(2,.rptr [.I v8.2]),(7,.L task_Task.Pv v8.1.L),(8,.I (v8.1.L.length:Int)),(9,.I s10),(17,.bool (v12.Kind==v8.2)),(20,.bool true)] [(2003,vR (.bool false) 1),(2004,vR (.I a1) 1)])<|y0 (congrArg some hg24) (J7 J J)<|y0 J (a3R J J hg24)<|yN ?_
     refine E5 false J (λq=>nomatch q) (λ_=>?_)
     refine a8<|S6 2 J ?_
     exact eL h W
   ·have h:=ifF h hg24
    refine T4 (congrArg some hg24)<|T4 (congrArg some hg24)<|y0 J (a3Q J J hg24)<|yN ?_
    refine E5 false J (λq=>nomatch q) (λ_=>?_)
    refine a8<|S6 2 J ?_
    exact eL h W
  ·refine g8 ?_
   refine a7<|a7<|c4 ?_
   refine .inl ⟨J,?_⟩
   have h:=xL hx22 h
   exact eJ h (WP (λl=>if l=2001 then 2003 else l))

theorem b1H{a0 a1}:PO Tryz.prog 373 [.L weak_Cell.Pv a0,.I a1] (b0x a0 a1) λr=>.bool r:=by
 refine pO Tryz.func373 λr h _ _=>?_
 unfold b0x at h
 refine S4 1 J<|S3 3 J<|b8 J (λhg=>mI J)<|b8 J (λhg=>om (d:=.L weak_Cell.Pv a0) J)<|b8 J (λhg=>D6 (f:=weak_Cell.Pv) (ct hg) Ty.e28)<|b8 J (λhg=>j8 (ct hg) (ct hg) J)<|y0 J (k7 J J J (λq=>H0 q))<|S2 1 J<|a6 ?_
 cases h
 exact f1

theorem a6d{a0}:PON Tryz.prog 291 [.L weak_Cell.Pv a0] (a0B a0) λr=>⟨List.map weak_Cell.Pv r,0,true,3,true⟩:=by
 refine pON Tryz.func291 λr h _ _=>?_
 unfold a0B at h
 refine S4 1 J<|S3 1 J<|nL J Ty.e28<|l7 h λv1 hv1 h=>y1 J (b8Q (f:=weak_Cell.Pv) hv1 J J J Ty.e28 Ty.s68 Ty.z68 Ty.b68 J J J) J<|S2 1 J<|S3 2 J<|l7 h λv2 hv2 h=>c83 (f:=weak_Cell.Pv) hv2 J J J (.inl ⟨_,J,J⟩) Ty.e28 Ty.s68 (λ_=>J) (by decide)<|yN<|S4 2 J<|a6 ?_
 cases h
 exact⟨J,_,_,J,J,J,J⟩

theorem b8c{a0 a1 a2 a3}:PO Tryz.prog 370 [.L weak_Cell.Pv a0,.I a1,.I a2,.I a3] (b8b a0 a1 a2 a3) λr=>.tup [.L weak_Cell.Pv r.1,.I r.2.1,.I r.2.2]:=by
 refine pO Tryz.func370 λr h _ _=>?_
 refine S4 3 J<|b9<|S3 2 J<|cA h b1H J J λv1 _ h=>S2 1 J ?_
 refine cN h (λhc h=>?_) λhc h=>?_
 ·refine S4 4 J ?_
  refine a6 ?_
  cases h
  exact f3
 ·refine a8 ?_
  refine S3 1 J<|l7 h λv2 hv2 h=>ycN J (b21 J a6d J hv2) J J<|S2 1 J<|S3 6 J<|y0 J (l6 (cs:=[.I a2,.bool (a2 != 0),.I a3]) J Ty.p68 Ty.z68 J J J)<|l7 h λv3 hv3 h=>y0 J (a0w (f:=weak_Cell.Pv) hv3 J J J J Ty.e28 Ty.s68 J)<|a6e (f:=weak_Cell.Pv) (v:=(⟨a2,(a2 != 0),a3⟩:weak_Cell)) hv3 J J (.inl J) Ty.s68<|yN<|dr [] Ty.K8 (by kernel_rfl) (by kernel_rfl)<|S7 3 J<|l7 h λv4 hv4 h=>d0 J (p9 (f:=weak_Cell.Pv) (cs:=weak_Cell.Pc v4) hv4 J J Ty.e28 Ty.s68 J J) J<|S8 5 J<|a6 ?_
  cases h
  exact f3

theorem a6P{a0 a1 a2}:PO Tryz.prog 372 [hold_Heap.Pv a0,.I a1,.I a2] (a6O a0 a1 a2) λr=>hold_Heap.Pv r:=by
 refine pO Tryz.func372 λr h _ _=>?_
 refine S4 2 J<|S3 4 J<|cA h E1 J J λv1 _ h=>S2 5 J<|b9<|S4 2 J ?_
 refine cN h (λhc h=>?_) λhc h=>?_
 ·refine S3 5 J ?_
  refine iL h J J Ty.e22 Ty.a4Y λv2 _ h=>S2 4 J<|S4 6 J<|S5 4 J<|cF h X5 J J λv3 _ h=>S2 5 J<|S4 2 J<|a6 ?_
  cases h
  exact⟨J,[_],⟨oL J J J Ty.O2 Ty.I6 nl J,tr⟩,J,io⟩
 ·refine a8 ?_
  refine S4 2 J<|a6 ?_
  cases h
  exact⟨J,[_],⟨oL J J J Ty.O2 Ty.I6 nl J,tr⟩,J,io⟩

theorem a05{a0 a1}:PO Tryz.prog 223 [slab_Slab_store_Obj.Pv a0,.I a1] (J8 a0 a1) λr=>.tup [slab_Slab_store_Obj.Pv r.1,.I r.2]:=by
 refine pO Tryz.func223 λr h _ _=>?_
 refine S4 3 J<|S3 2 J<|cA h E1 J J λv1 _ h=>S2 5 J<|b9<|S4 2 J ?_
 refine cN h (λhc h=>?_) λhc h=>?_
 ·refine S4 4 J ?_
  refine a6 ?_
  cases h
  exact⟨J,[_,_],⟨oL J J J Ty.a24 Ty.Y4 nl J,⟨J,tr⟩⟩,J,io⟩
 ·refine a8 ?_
  refine S3 3 J<|iL h J J Ty.e22 Ty.a4Y λv2 _ h=>S2 3 J<|b9<|S4 4 J ?_
  refine cN h (λhc h=>?_) λhc h=>?_
  ·refine S3 3 J ?_
   refine y0 J (l6 (cs:=[.I 3,.I v2.Gen,.I 0,.I 0,.I 0,.I 0,.bool false,.nl]) J Ty.c44 Ty.c1z J J J)<|cF h G1 J J λv3 _ h=>S2 2 J<|a6 ?_
   cases h
   exact⟨J,[_,_],⟨oL J J J Ty.a24 Ty.Y4 nl J,⟨J,tr⟩⟩,J,io⟩
  ·refine a8 ?_
   refine S3 4 J<|y0 J (l6 (cs:=[.I 0,.I (s7 (v2.Gen+1)),.I 0,.I 0,.I 0,.I 0,.bool false,.nl]) J Ty.c44 Ty.c1z J J J)<|cF h G1 J J λv4 _ h=>S2 2 J<|a6 ?_
   cases h
   exact⟨J,[_,_],⟨oL J J J Ty.a24 Ty.Y4 nl J,⟨J,tr⟩⟩,J,io⟩

theorem b0Q{a0 a1}:PO Tryz.prog 371 [hold_Heap.Pv a0,.I a1] (a8t a0 a1) λr=>hold_Heap.Pv r:=by
 refine pO Tryz.func371 λr h _ _=>?_
 refine S4 2 J<|S3 2 J<|cF h a6P J J λv1 _ h=>S2 1 J<|S3 4 J<|cA h E1 J J λv2 _ h=>S2 5 J<|b9<|S4 2 J ?_
 refine cN h (λhc h=>?_) λhc h=>?_
 ·refine S4 2 J ?_
  refine a6 ?_
  cases h
  exact⟨J,[_],⟨oL J J J Ty.O2 Ty.I6 nl J,tr⟩,J,io⟩
 ·refine a8 ?_
  refine b9<|S3 5 J<|iL h J J Ty.e22 Ty.a4Y λv3 _ h=>S2 3 J<|S3 4 J<|b8 J (λhg=>oF J Ty.b5B J)<|b8 J (λhg=>oF (ct hg) Ty.b8u J)<|b8 J (λhg=>oS (ct hg) J J Ty.a3 J)<|b8 J (λhg=>j8 (ct hg) J J)<|y0 J (k7 J J J (λq=>H0 q))<|yN ?_
  refine cN h (λhc h=>?_) λhc h=>?_
  ·refine S5 4 J ?_
   refine cF h a05 J J λv4 _ h=>S2 6 J<|S4 2 J<|a6 ?_
   cases h
   exact⟨J,[_],⟨oL J J J Ty.O2 Ty.I6 nl J,tr⟩,J,io⟩
  ·refine a8 ?_
   refine S4 2 J<|a6 ?_
   cases h
   exact⟨J,[_],⟨oL J J J Ty.O2 Ty.I6 nl J,tr⟩,J,io⟩

theorem a9D{a0 a1 a2 a3}:PO Tryz.prog 319 [hold_Heap.Pv a0,.I a1,.I a2,.I a3] (a7E a0 a1 a2 a3) λr=>.tup [hold_Heap.Pv r.1,.I r.2]:=by
 refine pO Tryz.func319 λr h _ _=>?_
 unfold a7E at h
 refine S4 3 J<|b9<|S3 3 J<|b8 J (λhg=>mI J)<|b8 J (λhg=>oF J Ty.b1m J)<|b8 J (λhg=>oS (ct hg) J J Ty.a28 J)<|b8 J (λhg=>D6 (f:=weak_Cell.Pv) (ct hg) Ty.e28)<|b8 J (λhg=>j8 (ct hg) (ct hg) J)<|y0 J (n8 J J J (λq=>H5 q))<|S1 1 J<|b8 J (λhg=>oF J Ty.b4B J)<|b8 J (λhg=>oL (ct hg) J J Ty.a32 Ty.s32 nl J)<|b8 J (λhg=>mI J)<|l7 h λv1 hv1 h=>b8 J (λhg=>y5 J b4l (o8 (ct hg) (o8 (ct hg) J)) (u9 hv1 hg))<|y0 J (n8 J J J (λq=>H5 q))<|yN ?_
 refine cN h (λhc h=>?_) λhc h=>?_
 ·refine S4 3 J ?_
  refine a6 ?_
  cases h
  exact⟨J,[_,_],⟨oL J J J Ty.O2 Ty.I6 nl J,⟨J,tr⟩⟩,J,io⟩
 ·refine a8 ?_
  refine b9<|S3 2 J<|cA h K5 J J λv2 _ h=>S2 1 J ?_
  refine cN h (λhc h=>?_) λhc h=>?_
  ·refine S4 3 J ?_
   refine a6 ?_
   cases h
   exact⟨J,[_,_],⟨oL J J J Ty.O2 Ty.I6 nl J,⟨J,tr⟩⟩,J,io⟩
  ·refine a8 ?_
   refine S3 5 J<|cF h b8c J J λv3 _ h=>S2 7 J<|S4 3 J<|S3 2 J<|cF h a6P J J λv4 _ h=>S1 1 J<|cF h b0Q J J λv5 _ h=>S2 2 J<|a6 ?_
   cases h
   exact⟨J,[_,_],⟨oL J J J Ty.O2 Ty.I6 nl J,⟨J,tr⟩⟩,J,io⟩

theorem a0T{a0}:PO Tryz.prog 247 [o9.Pv a0] (a2A a0) λr=>.tup [hold_Heap.Pv r.1,.I r.2]:=by
 refine pO Tryz.func247 λr h _ _=>?_
 refine S4 3 J<|b9<|S4 4 J ?_
 refine cN h (λhc h=>?_) λhc h=>?_
 ·refine S3 8 J ?_
  refine cF h a9D J J λv1 _ h=>S2 4 J<|a6 ?_
  cases h
  exact⟨J,[_,_],⟨oL J J J Ty.O2 Ty.I6 nl J,⟨J,tr⟩⟩,J,io⟩
 ·refine a8 ?_
  refine S3 5 J<|cA h M2 J J λv2 _ h=>S2 5 J<|b9<|S4 2 J ?_
  refine cN h (λhc h=>?_) λhc h=>?_
  ·refine S4 5 J ?_
   refine a6 ?_
   cases h
   exact⟨J,[_,_],⟨oL J J J Ty.O2 Ty.I6 nl J,⟨J,tr⟩⟩,J,io⟩
  ·refine a8 ?_
   refine S3 9 J<|cF h a9D J J λv3 _ h=>S2 4 J<|a6 ?_
   cases h
   exact⟨J,[_,_],⟨oL J J J Ty.O2 Ty.I6 nl J,⟨J,tr⟩⟩,J,io⟩

theorem b6z{a0 a1}:PO Tryz.prog 320 [.L weak_Cell.Pv a0,.I a1] (b5f a0 a1) λr=>.tup [.I r.1,.I r.2]:=by
 refine pO Tryz.func320 λr h _ _=>?_
 refine S4 2 J<|b9<|S3 2 J<|cA h b1H J J λv1 _ h=>S2 1 J ?_
 refine cN h (λhc h=>?_) λhc h=>?_
 ·refine S4 2 J ?_
  refine a6 ?_
  cases h
  exact f2
 ·refine a8 ?_
  refine b9<|S3 2 J<|iL h J J Ty.e28 Ty.s68 λv2 hv2 h=>S1 4 J<|b8 J (λhg=>om (d:=.L weak_Cell.Pv a0) J)<|b8 J (λhg=>mI J)<|b8 J (λhg=>p9 (f:=weak_Cell.Pv) (cs:=weak_Cell.Pc v2) hv2 (ct hg) (ct hg) Ty.e28 Ty.s68 J J)<|b8 J (λhg=>z6 (ct hg) Ty.b9F J)<|b8 J (λhg=>B1 (ct hg) Ty.a4 J)<|b8 J (λhg=>J7 (ct hg) J)<|y0 J (n8 J J J (λq=>H5 q))<|yN ?_
  refine cN h (λhc h=>?_) λhc h=>?_
  ·refine S4 2 J ?_
   refine a6 ?_
   cases h
   exact f2
  ·refine a8 ?_
   refine S3 2 J<|y0 J (p9 (f:=weak_Cell.Pv) (cs:=weak_Cell.Pc v2) hv2 J J Ty.e28 Ty.s68 J J)<|S2 4 J<|a6 ?_
   cases h
   exact f2

theorem a3j{a0}:PO Tryz.prog 248 [o9.Pv a0] (a2n a0) λr=>.tup [hold_Heap.Pv r.1,.I r.2]:=by
 refine pO Tryz.func248 λr h _ _=>?_
 unfold a2n at h
 refine S4 3 J<|dr [] Ty.K8 (by kernel_rfl) (by kernel_rfl)<|S7 7 J<|l7 h λv1 hv1 h=>d2 J (y5 J b6z J hv1) J<|S7 2 J<|l7 h λv2 hv2 h=>Q7 J (n0 J E6 J hv2) J<|S7 2 J<|F0 (x':=hold_Heap.Pv v2.1) (cl':=true) J J (.inr J) Ty.I6<|S8 1 J<|a6 ?_
 cases h
 exact⟨J,[_,_],⟨oL J J J Ty.O2 Ty.I6 nl J,⟨J,tr⟩⟩,J,io⟩

theorem a9A{a0 a1}:PO Tryz.prog 343 [.I a0,.I a1] (a2R a0 a1) λr=>.fn (.func 382) [.rptr [.I r.1],.rptr [.I r.2]]:=by
 refine pO Tryz.func343 λr h _ _=>?_
 unfold a2R at h
 refine S4 3 J<|S4 2 J<|a6 ?_
 cases h
 exact f1

theorem a9y{a0 a1}:PO Tryz.prog 383 [.I a0,.I a1] (W6 a0 a1) λr=>.I r:=by
 refine pO Tryz.func383 λr h _ _=>?_
 refine S4 1 J<|b9<|S4 2 J ?_
 refine cN h (λhc h=>?_) λhc h=>?_
 ·refine S4 1 J ?_
  refine a6 ?_
  cases h
  exact f1
 ·refine a8 ?_
  refine S3 4 J<|l7 h λv1 hv1 h=>y0 J (a4D J J hv1)<|S2 1 J<|b9<|S4 2 J ?_
  refine cN h (λhc h=>?_) λhc h=>?_
  ·refine S6 4 J ?_
   refine S4 2 J<|a6 ?_
   cases h
   exact f1
  ·refine a8 ?_
   refine S4 2 J<|a6 ?_
   cases h
   exact f1

theorem a2F{a0 a1}:PO Tryz.prog 273 [.L hash_Place.Pv a0,.I a1] (J2 a0 a1) λr=>.I r:=by
 refine pO Tryz.func273 λr h _ _=>?_
 refine S4 3 J ?_
 refine jq h (λ_=>St.of [(4,.ptr 2001 0 0)] [(2001,vR (.I 0) 1)]) (λq9 h=>?_) λκ8 h=>?_
 ·refine S4 1 J ?_
  refine a6 ?_
  cases h
  exact⟨J,[_],⟨oS J J J Ty.a3 J,tr⟩,J,io⟩
 ·refine S3 1 J ?_
  refine nL J Ty.e29<|S1 1 J<|cF h a9A J J λv10 _ h=>yN<|b7<|a1h (WPE (λl=>if l=2004 then 4 else if l=2005 then 3 else if l=2006 then 2 else l) [(2,.ptr 2006 0 0),(3,.ptr 2005 0 0),(4,.ptr 2004 0 0),(9,.fn (.func 382) [.rptr [.I v10.1],.rptr [.I v10.2]])] [(2004,vR (.I 0) 1),(2005,vR (.I a1) 1),(2006,vR (.L hash_Place.Pv a0) 1)]) ?_
  refine Z1 (fn:=Tryz.f382) (N1:=20) J Tryz.func382 J J nl J Ty.c8s J J (λl17 e18 o19 hR20=>?_)
  refine S4 2 J<|b7<|lq h (λs12=>St.of [(1000002,.ptr 2006 0 0),(1000003,.ptr 2005 0 0),(1000004,.ptr 2004 0 0),(1000009,.fn (.func 382) [.rptr [.I v10.1],.rptr [.I v10.2]]),(0,.fn (.yield l17) []),(1,.rptr [.I v10.1]),(2,.rptr [.I v10.2]),(5,.I v10.1),(6,.I s12)] [(2004,vR (.I 0) 1),(2005,vR (.I a1) 1),(2006,vR (.L hash_Place.Pv a0) 1)]) W λs12 x13 h hx23=>S4 1 J<|b9 ?_
  refine cN h (λhc h=>?_) λhc h=>?_
  ·refine a8 ?_
   refine b9<|b7<|S4 2 J<|drY [] 8 Ty.K8 (by kernel_rfl) (by kernel_rfl) (by kernel_rfl) (by kernel_rfl) nl<|S7 3 J<|l7 h λv14 hv24 h=>d2 J (y5 J a9y J hv24) J<|S7 3 J<|l7 h λv15 hv25 h=>d7 J (λ_ hN=>a4D J J hv25) J<|F6<|c23 (WE [(1000002,.ptr 2006 0 0),(1000003,.ptr 2005 0 0),(1000004,.ptr 2004 0 0),(1000009,.fn (.func 382) [.rptr [.I v10.1],.rptr [.I v10.2]]),(0,.fn (.yield l17) []),(1,.rptr [.I v10.1]),(2,.rptr [.I v10.2]),(5,.I v10.1),(6,.I s12),(9,.fn (.yield l17) []),(16,.I v15)] [(2004,vR (.I 0) 1),(2005,vR (.I a1) 1),(2006,vR (.L hash_Place.Pv a0) 1)]) ?_
   refine b3P J hR20 J J J J J J (λe26 o27 o28=>?_)
   refine S6 1 J ?_
   refine⟨J,?_⟩
   refine b7<|b9<|S3 2 J<|iL h J J Ty.e29 Ty.a83 λv16 hv29 h=>S2 3 J ?_
   refine cN h (λhc h=>?_) λhc h=>?_
   ·refine g8 ?_
    refine a7<|a2E (by decide) ?_
    refine⟨J,?_⟩
    refine⟨_,b3M [(1000002,.ptr 2006 0 0),(1000003,.ptr 2005 0 0),(1000004,.ptr 2004 0 0),(1000009,.fn (.func 382) [.rptr [.I v10.1],.rptr [.I v10.2]]),(0,.fn (.yield l17) []),(1,.rptr [.I v10.1]),(2,.rptr [.I v10.2]),(5,.I v10.1),(6,.I s12),(17,.bool false)] [(2004,vR (.I 0) 1),(2005,vR (.I a1) 1),(2006,vR (.L hash_Place.Pv a0) 1)] ⟨J,J,J,J,J,J,J,J,J,J,J,J,J,J,J,J,J,J,J,J,J,J,J,J,J,J,J,J,J,J,tr⟩ ⟨rS,rS,rS,tr⟩,?_⟩
    refine S8 1 J ?_
    refine E5 true J (λ_=>?_) (λq=>nomatch q)
    refine a6 ?_
    refine .inr ⟨.exit 0,J,c9x ?_⟩
    refine c4 ?_
    have h:=xL hx23 h
    exact eJ h (WP (λl=>if l=2001 then 2004 else l))
   ·refine a8 ?_
    refine dr [] Ty.K8 (by kernel_rfl) (by kernel_rfl)<|S7 2 J<|d0 J (p9 (f:=hash_Place.Pv) (cs:=hash_Place.Pc v16) hv29 J J Ty.e29 Ty.a83 J J) J<|S7 4 J<|s6 J (λhg=>oS J J J Ty.a29 J) J<|m7 J (λhg _ hN=>mI J) J<|s6 J (λhg=>p9 (f:=hash_Place.Pv) (cs:=hash_Place.Pc v16) hv29 (ct hg) (ct hg) Ty.e29 Ty.a83 J J) J<|m7 J (λhg _ hN=>z6 (ct hg) Ty.c18 J) J<|s6 J (λhg=>B1 (ct hg) Ty.a3 J) J<|s6 J (λhg=>oS J J J Ty.a3 J) J<|m7 J (λhg _ hN=>j8 (ct hg) (ct hg) J) J<|d7 J (λ_ hN=>k7 J J J (λq=>H0 q)) J<|F6 ?_
    refine cN h (λhc h=>?_) λhc h=>?_
    ·refine S4 2 J ?_
     refine a6 ?_
     refine⟨J,?_⟩
     refine⟨_,b3M [(1000002,.ptr 2006 0 0),(1000003,.ptr 2005 0 0),(1000004,.ptr 2004 0 0),(1000009,.fn (.func 382) [.rptr [.I v10.1],.rptr [.I v10.2]]),(0,.fn (.yield l17) []),(1,.rptr [.I v10.1]),(2,.rptr [.I v10.2]),(5,.I v10.1),(6,.I s12),(17,.bool false)] [(2004,vR (.I v15) 1),(2005,vR (.I a1) 1),(2006,vR (.L hash_Place.Pv a0) 1)] ⟨J,J,J,J,J,J,J,J,J,J,J,J,J,J,J,J,J,J,J,J,J,J,J,J,J,J,J,J,J,J,tr⟩ ⟨rS,rS,rS,tr⟩,?_⟩
     refine S8 1 J ?_
     refine E5 true J (λ_=>?_) (λq=>nomatch q)
     refine a6 ?_
     refine .inr ⟨.ret,J,c4w ?_⟩
     have h:=xL hx23 h
     cases h
     exact⟨J,[_],⟨oS J J J Ty.a3 J,tr⟩,J,io⟩
    ·refine a8 ?_
     refine⟨J,?_⟩
     refine⟨_,b3M [(1000002,.ptr 2006 0 0),(1000003,.ptr 2005 0 0),(1000004,.ptr 2004 0 0),(1000009,.fn (.func 382) [.rptr [.I v10.1],.rptr [.I v10.2]]),(0,.fn (.yield l17) []),(1,.rptr [.I v10.1]),(2,.rptr [.I v10.2]),(5,.I v10.1),(6,.I s12),(17,.bool true)] [(2004,vR (.I 0) 1),(2005,vR (.I a1) 1),(2006,vR (.L hash_Place.Pv a0) 1)] ⟨J,J,J,J,J,J,J,J,J,J,J,J,J,J,J,J,J,J,J,J,J,J,J,J,J,J,J,J,J,J,tr⟩ ⟨rS,rS,rS,tr⟩,?_⟩
     refine S8 1 J ?_
     refine E5 false J (λq=>nomatch q) (λ_=>?_)
     refine a8<|S6 2 J ?_
     exact eL h W
  ·refine g8 ?_
   refine a7<|a7<|c4 ?_
   refine .inl ⟨J,?_⟩
   have h:=xL hx23 h
   exact eJ h (WP (λl=>if l=2001 then 2004 else l))

theorem a3F{a0 a1}:PO Tryz.prog 346 [.L hash_Place.Pv a0,.I a1] (U5 a0 a1) λr=>.tup [.I r.1,.I r.2]:=by
 refine pO Tryz.func346 λr h _ _=>?_
 refine S4 2 J<|S3 2 J<|cA h a2F J J λv1 _ h=>S2 1 J<|b9<|S4 2 J ?_
 refine cN h (λhc h=>?_) λhc h=>?_
 ·refine S4 2 J ?_
  refine a6 ?_
  cases h
  exact f2
 ·refine a8 ?_
  refine S3 2 J<|iL h J J Ty.e29 Ty.a83 λv2 _ h=>S2 4 J<|a6 ?_
  cases h
  exact f2

theorem V7{a0}:PON Tryz.prog 353 [.L hash_Place.Pv a0] (C1 a0) λr=>⟨List.map hash_Place.Pv r,0,true,3,true⟩:=by
 refine pON Tryz.func353 λr h _ _=>?_
 unfold C1 at h
 refine S4 1 J<|b9<|S3 1 J<|b6C J Ty.e29 λb hb=>yN ?_
 refine E5 b J (λhc=>?_) (λhc=>?_)
 ·obtain rfl:a0 = []:=by simpa using hb hc
  refine S4 1 J<|a1h (B2 (t:=2) (l:=920000) (z:=3) J J)<|a6 ?_
  cases h
  exact⟨J,_,_,J,J,J,J⟩
 ·refine a8 ?_
  refine sR<|y0 J (A0 J Ty.e29 Ty.a83)<|S1 1 J<|y1 J (a4C (f:=hash_Place.Pv) h J J (.inl ⟨_,J,J⟩) Ty.e29 Ty.a83 Ty.c76 Ty.c1A J (λ_=>J)) J<|S2 1 J<|a6 ?_
  exact⟨J,_,_,J,J,J,J⟩

theorem a5m{a0 a1 a2}:PO Tryz.prog 293 [.L hash_Place.Pv a0,.I a1,hash_Place.Pv a2] (a0v a0 a1 a2) λr=>.L hash_Place.Pv r:=by
 refine pO Tryz.func293 λr h _ _=>?_
 unfold a0v at h
 refine S4 2 J<|S3 1 J<|l7 h λv1 hv1 h=>ycN J (b21 J V7 J hv1) J J<|S2 1 J<|S3 3 J<|l7 h λv2 hv2 h=>y0 J (a0w (f:=hash_Place.Pv) hv2 J J J J Ty.e29 Ty.a83 J)<|a6e (f:=hash_Place.Pv) (v:=a2) hv2 J J (.inl J) Ty.a83<|yN<|S4 2 J<|a6 ?_
 cases h
 exact f1

theorem a9x{a0 a1}:PO Tryz.prog 221 [.L hash_Place.Pv a0,.I a1] (R6 a0 a1) λr=>.tup [.L hash_Place.Pv r.1,.I r.2.1,.I r.2.2]:=by
 refine pO Tryz.func221 λr h _ _=>?_
 refine S4 3 J<|S3 2 J<|cA h a2F J J λv1 _ h=>S2 1 J<|b9<|S4 2 J ?_
 refine cN h (λhc h=>?_) λhc h=>?_
 ·refine S4 4 J ?_
  refine a6 ?_
  cases h
  exact f3
 ·refine a8 ?_
  refine dr [] Ty.K8 (by kernel_rfl) (by kernel_rfl)<|S7 2 J<|d7 J (λ_ hN=>l6 (cs:=[.I 2,.I 0,.I 0]) J Ty.c45 Ty.c1A J J J) J<|l7 h λv2 hv2 h=>Q7 J (n0 J a5m J hv2) J<|S7 2 J<|l7 h λv3 hv3 h=>d0 J (p9 (f:=hash_Place.Pv) (cs:=hash_Place.Pc v3) hv3 J J Ty.e29 Ty.a83 J J) J<|S8 5 J<|a6 ?_
  cases h
  exact f3

theorem b65{a0 a1 a2}:PO Tryz.prog 393 [.L hash_Place.Pv a0,.I a1,.I a2] (a6K a0 a1 a2) λr=>.tup [.L hash_Place.Pv r.1,.I r.2]:=by
 refine pO Tryz.func393 λr h _ _=>?_
 refine S4 3 J<|S3 2 J<|y0 J (l6 (cs:=[.I 1,.I a1,.I a2]) J Ty.c45 Ty.c1A J J J)<|S2 2 J<|b9<|S3 2 J<|cA h a2F J J λv1 _ h=>S2 1 J<|S4 2 J ?_
 refine cN h (λhc h=>?_) λhc h=>?_
 ·refine S3 3 J ?_
  refine cF h a5m J J λv2 _ h=>S2 2 J<|a6 ?_
  cases h
  exact⟨J,[_,_],⟨oS J J J Ty.a29 J,⟨oS J J J Ty.a63 J,tr⟩⟩,J,io⟩
 ·refine a8 ?_
  refine jq h (λ_=>St.of [(3,.ptr 2004 0 0),(6,.ptr 2003 0 0),(7,.ptr 2002 0 0)] [(2002,vR (.I 0) 1),(2003,vR (.nl) 1),(2004,vR (.L hash_Place.Pv a0) 1)]) (λq12 h=>?_) λκ11 h=>?_
  ·refine S4 3 J ?_
   refine a6 ?_
   cases h
   exact⟨J,[_,_],⟨oS J J J Ty.a29 J,⟨oS J J J Ty.a63 J,tr⟩⟩,J,io⟩
  ·refine S3 1 J ?_
   refine nL J Ty.e29<|S1 1 J<|cF h a9A J J λv13 _ h=>yN<|b7<|a1h (WPE (λl=>if l=2005 then 8 else if l=2006 then 7 else if l=2007 then 6 else if l=2008 then 3 else l) [(3,.ptr 2008 0 0),(6,.ptr 2007 0 0),(7,.ptr 2006 0 0),(8,.ptr 2005 0 0),(26,.fn (.func 382) [.rptr [.I v13.1],.rptr [.I v13.2]])] [(2005,vR (.agg [.I 1,.I a1,.I a2]) 3),(2006,vR (.I 0) 1),(2007,vR (.nl) 1),(2008,vR (.L hash_Place.Pv a0) 1)]) ?_
   refine Z1 (fn:=Tryz.f382) (N1:=20) J Tryz.func382 J J nl J Ty.c8s J J (λl20 e21 o22 hR23=>?_)
   refine S4 2 J<|b7<|lq h (λs15=>St.of [(1000003,.ptr 2008 0 0),(1000006,.ptr 2007 0 0),(1000007,.ptr 2006 0 0),(1000008,.ptr 2005 0 0),(1000026,.fn (.func 382) [.rptr [.I v13.1],.rptr [.I v13.2]]),(0,.fn (.yield l20) []),(1,.rptr [.I v13.1]),(2,.rptr [.I v13.2]),(5,.I v13.1),(6,.I s15)] [(2005,vR (.agg [.I 1,.I a1,.I a2]) 3),(2006,vR (.I 0) 1),(2007,vR (.nl) 1),(2008,vR (.L hash_Place.Pv a0) 1)]) W λs15 x16 h hx26=>S4 1 J<|b9 ?_
   refine cN h (λhc h=>?_) λhc h=>?_
   ·refine a8 ?_
    refine b9<|b7<|S4 2 J<|drY [] 8 Ty.K8 (by kernel_rfl) (by kernel_rfl) (by kernel_rfl) (by kernel_rfl) nl<|S7 3 J<|l7 h λv17 hv27 h=>d2 J (y5 J a9y J hv27) J<|S7 3 J<|l7 h λv18 hv28 h=>d7 J (λ_ hN=>a4D J J hv28) J<|F6<|c23 (WE [(1000003,.ptr 2008 0 0),(1000006,.ptr 2007 0 0),(1000007,.ptr 2006 0 0),(1000008,.ptr 2005 0 0),(1000026,.fn (.func 382) [.rptr [.I v13.1],.rptr [.I v13.2]]),(0,.fn (.yield l20) []),(1,.rptr [.I v13.1]),(2,.rptr [.I v13.2]),(5,.I v13.1),(6,.I s15),(9,.fn (.yield l20) []),(16,.I v18)] [(2005,vR (.agg [.I 1,.I a1,.I a2]) 3),(2006,vR (.I 0) 1),(2007,vR (.nl) 1),(2008,vR (.L hash_Place.Pv a0) 1)]) ?_
    refine b3P J hR23 J J J J J J (λe29 o30 o31=>?_)
    refine S6 1 J ?_
    refine⟨J,?_⟩
    refine b7<|S3 2 J<|iL h J J Ty.e29 Ty.a83 λv19 _ h=>S2 3 J ?_
    refine cN h (λhc h=>?_) λhc h=>?_
    ·refine S3 3 J ?_
     refine cF h a5m J J λv20 _ h=>S2 2 J<|a6 ?_
     refine⟨J,?_⟩
     refine⟨_,b3M [(1000003,.ptr 2008 0 0),(1000006,.ptr 2007 0 0),(1000007,.ptr 2006 0 0),(1000008,.ptr 2005 0 0),(1000026,.fn (.func 382) [.rptr [.I v13.1],.rptr [.I v13.2]]),(0,.fn (.yield l20) []),(1,.rptr [.I v13.1]),(2,.rptr [.I v13.2]),(5,.I v13.1),(6,.I s15),(17,.bool false)] [(2005,vR (.agg [.I 1,.I a1,.I a2]) 3),(2006,vR (.I 0) 1),(2007,vR (.L hash_Place.Pv v20) 1),(2008,vR (.L hash_Place.Pv a0) 1)] ⟨J,J,J,J,J,J,J,J,J,J,J,J,J,J,J,J,J,J,J,J,J,J,J,J,J,J,J,J,J,J,J,J,J,tr⟩ ⟨rS,rS,rS,rS,tr⟩,?_⟩
     refine S8 1 J ?_
     refine E5 true J (λ_=>?_) (λq=>nomatch q)
     refine a6 ?_
     refine .inr ⟨.ret,J,c4w ?_⟩
     have h:=xL hx26 h
     cases h
     exact⟨J,[_,_],⟨oS J J J Ty.a29 J,⟨oS J J J Ty.a63 J,tr⟩⟩,J,io⟩
    ·refine a8 ?_
     refine⟨J,?_⟩
     refine⟨_,b3M [(1000003,.ptr 2008 0 0),(1000006,.ptr 2007 0 0),(1000007,.ptr 2006 0 0),(1000008,.ptr 2005 0 0),(1000026,.fn (.func 382) [.rptr [.I v13.1],.rptr [.I v13.2]]),(0,.fn (.yield l20) []),(1,.rptr [.I v13.1]),(2,.rptr [.I v13.2]),(5,.I v13.1),(6,.I s15),(17,.bool true)] [(2005,vR (.agg [.I 1,.I a1,.I a2]) 3),(2006,vR (.I 0) 1),(2007,vR (.nl) 1),(2008,vR (.L hash_Place.Pv a0) 1)] ⟨J,J,J,J,J,J,J,J,J,J,J,J,J,J,J,J,J,J,J,J,J,J,J,J,J,J,J,J,J,J,J,J,J,tr⟩ ⟨rS,rS,rS,rS,tr⟩,?_⟩
     refine S8 1 J ?_
     refine E5 false J (λq=>nomatch q) (λ_=>?_)
     refine a8<|S6 2 J ?_
     exact eL h W
   ·refine g8 ?_
    refine a7<|a7<|c4 ?_
    refine .inl ⟨J,?_⟩
    have h:=xL hx26 h
    exact eJ h (WP (λl=>if l=2004 then 2008 else if l=2003 then 2007 else if l=2002 then 2006 else l))

theorem b5z{a0 a1 a2}:PO Tryz.prog 374 [.L hash_Place.Pv a0,.I a1,.I a2] (b4A a0 a1 a2) λr=>.tup [.L hash_Place.Pv r.1,.I r.2.1,.I r.2.2]:=by
 refine pO Tryz.func374 λr h _ _=>?_
 refine S4 3 J<|b9<|S4 2 J ?_
 refine cN h (λhc h=>?_) λhc h=>?_
 ·refine S4 4 J ?_
  refine a6 ?_
  cases h
  exact f3
 ·refine a8 ?_
  refine S3 2 J<|cA h a3F J J λv1 _ h=>S2 5 J<|b9<|S4 2 J ?_
  refine cN h (λhc h=>?_) λhc h=>?_
  ·refine S3 2 J ?_
   refine cF h a9x J J λv2 _ h=>S2 7 J<|S4 5 J<|a6 ?_
   cases h
   exact f3
  ·refine a8 ?_
   refine S3 3 J<|cF h b65 J J λv3 _ h=>S2 5 J<|b9<|S4 2 J ?_
   refine cN h (λhc h=>?_) λhc h=>?_
   ·refine S4 5 J ?_
    refine a6 ?_
    cases h
    exact f3
   ·refine a8 ?_
    refine S4 5 J<|a6 ?_
    cases h
    exact f3

theorem a6j{a0 a1}:PO Tryz.prog 375 [F7.Pv a0,hold_Heap.Pv a1] (a0h a0 a1) λr=>hold_Heap.Pv r:=by
 refine pO Tryz.func375 λr h _ _=>?_
 unfold a0h at h
 refine S4 3 J<|S4 4 J<|S4 2 J<|a6 ?_
 cases h
 exact⟨J,[_],⟨oL J J J Ty.O2 Ty.I6 nl J,tr⟩,J,io⟩

theorem a0j{a0 a1 a2 a3}:PO Tryz.prog 184 [hold_Heap.Pv a0,.I a1,.I a2,.abs (BFn 375 [F7.Pv a3])] (O3 a0 a1 a2 a3) λr=>hold_Heap.Pv r:=by
 refine pO Tryz.func184 λr h _ _=>?_
 refine S4 2 J<|S3 3 J<|cF h a0L J J λv1 _ h=>l7 h λv2 hv2 h=>b6B (xs:=[hold_Heap.Pv v1]) J J Ty.c9E J (a6j.2 _ hv2)<|S1 1 J<|cF h a0a J J λv3 _ h=>S2 1 J<|a6 ?_
 cases h
 exact⟨J,[_],⟨oL J J J Ty.O2 Ty.I6 nl J,tr⟩,J,io⟩

theorem b5K{a0 a1 a2}:PO Tryz.prog 321 [hold_Heap.Pv a0,.I a1,.I a2] (b4O a0 a1 a2) λr=>.tup [hold_Heap.Pv r.1,.I r.2]:=by
 refine pO Tryz.func321 λr h _ _=>?_
 refine S4 3 J<|b9<|S4 2 J ?_
 refine cN h (λhc h=>?_) λhc h=>?_
 ·refine S4 3 J ?_
  refine a6 ?_
  cases h
  exact⟨J,[_,_],⟨oL J J J Ty.O2 Ty.I6 nl J,⟨J,tr⟩⟩,J,io⟩
 ·refine a8 ?_
  refine b9<|S3 2 J<|cA h K5 J J λv1 _ h=>S1 2 J<|b8 J (λhg=>oL J J J Ty.O2 Ty.I6 nl J)<|b8 J (λhg=>mI J)<|l7 h λv2 hv2 h=>b8 J (λhg=>y5 J K5 (o8 (ct hg) (o8 (ct hg) J)) (u9 hv2 hg))<|b8 J (λhg=>J7 (ct hg) J)<|y0 J (n8 J J J (λq=>H5 q))<|yN ?_
  refine cN h (λhc h=>?_) λhc h=>?_
  ·refine S4 3 J ?_
   refine a6 ?_
   cases h
   exact⟨J,[_,_],⟨oL J J J Ty.O2 Ty.I6 nl J,⟨J,tr⟩⟩,J,io⟩
  ·refine a8 ?_
   refine S3 4 J<|cF h b5z J J λv3 _ h=>S2 7 J<|b9<|S4 2 J ?_
   refine cN h (λhc h=>?_) λhc h=>?_
   ·refine S4 4 J ?_
    refine a6 ?_
    cases h
    exact⟨J,[_,_],⟨oL J J J Ty.O2 Ty.I6 nl J,⟨J,tr⟩⟩,J,io⟩
   ·refine a8 ?_
    refine S3 4 J<|y0 J (l6 (cs:=[.L hash_Place.Pv v3.1]) J Ty.c9R Ty.d0l J J J)<|y0 J (b00 (d:=.agg [.L hash_Place.Pv v3.1]) J)<|cF h a0j J J λv4 _ h=>S2 2 J<|a6 ?_
    cases h
    exact⟨J,[_,_],⟨oL J J J Ty.O2 Ty.I6 nl J,⟨J,tr⟩⟩,J,io⟩

theorem a16{a0}:PO Tryz.prog 249 [o9.Pv a0] (a3N a0) λr=>.tup [hold_Heap.Pv r.1,.I r.2]:=by
 refine pO Tryz.func249 λr h _ _=>?_
 refine S4 3 J<|S3 5 J<|cA h M2 J J λv1 _ h=>S2 5 J<|b9<|S4 2 J ?_
 refine cN h (λhc h=>?_) λhc h=>?_
 ·refine S4 5 J ?_
  refine a6 ?_
  cases h
  exact⟨J,[_,_],⟨oL J J J Ty.O2 Ty.I6 nl J,⟨J,tr⟩⟩,J,io⟩
 ·refine a8 ?_
  refine dr [] Ty.K8 (by kernel_rfl) (by kernel_rfl)<|S7 8 J<|l7 h λv2 hv2 h=>d2 J (y5 J J6 J hv2) J<|l7 h λv3 hv3 h=>Q7 J (n0 J b5K J hv3) J<|S7 2 J<|F0 (x':=hold_Heap.Pv v3.1) (cl':=true) J J (.inr J) Ty.I6<|S8 1 J<|a6 ?_
  cases h
  exact⟨J,[_,_],⟨oL J J J Ty.O2 Ty.I6 nl J,⟨J,tr⟩⟩,J,io⟩

theorem b5y{a0 a1}:PO Tryz.prog 322 [.L hash_Place.Pv a0,.I a1] (b4z a0 a1) λr=>.tup [.I r.1,.I r.2]:=by
 refine pO Tryz.func322 λr h _ _=>?_
 refine S4 2 J<|S3 2 J<|cA h a3F J J λv1 _ h=>S2 4 J<|a6 ?_
 cases h
 exact f2

theorem a2z{a0}:PO Tryz.prog 250 [o9.Pv a0] (a4z a0) λr=>.tup [hold_Heap.Pv r.1,.I r.2]:=by
 refine pO Tryz.func250 λr h _ _=>?_
 refine S4 3 J<|S3 5 J<|cA h M2 J J λv1 _ h=>S2 5 J<|b9<|S4 2 J ?_
 refine cN h (λhc h=>?_) λhc h=>?_
 ·refine S4 5 J ?_
  refine a6 ?_
  cases h
  exact⟨J,[_,_],⟨oL J J J Ty.O2 Ty.I6 nl J,⟨J,tr⟩⟩,J,io⟩
 ·refine a8 ?_
  refine dr [] Ty.K8 (by kernel_rfl) (by kernel_rfl)<|S7 5 J<|l7 h λv2 hv2 h=>d2 J (y5 J b5y J hv2) J<|S7 2 J<|l7 h λv3 hv3 h=>Q7 J (n0 J E6 J hv3) J<|S7 2 J<|F0 (x':=hold_Heap.Pv v3.1) (cl':=true) J J (.inr J) Ty.I6<|S8 1 J<|a6 ?_
  cases h
  exact⟨J,[_,_],⟨oL J J J Ty.O2 Ty.I6 nl J,⟨J,tr⟩⟩,J,io⟩

theorem a1f{a0}:PO Tryz.prog 251 [o9.Pv a0] (a0n a0) λr=>.tup [hold_Heap.Pv r.1,.I r.2]:=by
 refine pO Tryz.func251 λr h _ _=>?_
 unfold a0n at h
 refine S4 3 J<|S4 4 J<|a6 ?_
 cases h
 exact⟨J,[_,_],⟨oL J J J Ty.O2 Ty.I6 nl J,⟨J,tr⟩⟩,J,io⟩

theorem b8E{f:Fv}{a0:o9}{r:hold_Heap × Int}(h:a9s f a0=some r):∃n,f=some n∧A2 Tryz.prog n∧O9 Tryz.prog n [o9.Pv a0] (.tup [hold_Heap.Pv r.1,.I r.2]):=by
 unfold a9s at h
 by_cases e242:f=some 242
 ·rw[if_pos e242] at h;exact⟨242,e242,(@a0S a0).1,(@a0S a0).2 _ h⟩
 rw[if_neg e242] at h
 by_cases e243:f=some 243
 ·rw[if_pos e243] at h;exact⟨243,e243,(@X8 a0).1,(@X8 a0).2 _ h⟩
 rw[if_neg e243] at h
 by_cases e244:f=some 244
 ·rw[if_pos e244] at h;exact⟨244,e244,(@a14 a0).1,(@a14 a0).2 _ h⟩
 rw[if_neg e244] at h
 by_cases e245:f=some 245
 ·rw[if_pos e245] at h;exact⟨245,e245,(@a15 a0).1,(@a15 a0).2 _ h⟩
 rw[if_neg e245] at h
 by_cases e246:f=some 246
 ·rw[if_pos e246] at h;exact⟨246,e246,(@a1g a0).1,(@a1g a0).2 _ h⟩
 rw[if_neg e246] at h
 by_cases e247:f=some 247
 ·rw[if_pos e247] at h;exact⟨247,e247,(@a0T a0).1,(@a0T a0).2 _ h⟩
 rw[if_neg e247] at h
 by_cases e248:f=some 248
 ·rw[if_pos e248] at h;exact⟨248,e248,(@a3j a0).1,(@a3j a0).2 _ h⟩
 rw[if_neg e248] at h
 by_cases e249:f=some 249
 ·rw[if_pos e249] at h;exact⟨249,e249,(@a16 a0).1,(@a16 a0).2 _ h⟩
 rw[if_neg e249] at h
 by_cases e250:f=some 250
 ·rw[if_pos e250] at h;exact⟨250,e250,(@a2z a0).1,(@a2z a0).2 _ h⟩
 rw[if_neg e250] at h
 by_cases e251:f=some 251
 ·rw[if_pos e251] at h;exact⟨251,e251,(@a1f a0).1,(@a1f a0).2 _ h⟩
 rw[if_neg e251] at h
 cases h

theorem a4p{a0}:PO Tryz.prog 177 [.I a0] (Y7 a0) λr=>.bool r:=by
 refine pO Tryz.func177 λr h _ _=>?_
 unfold Y7 at h
 refine S4 1 J<|S4 4 J<|a6 ?_
 cases h
 exact f1

theorem a8K{a0 a1}:PO Tryz.prog 104 [.I a0,.I a1] (a2i a0 a1) λr=>.I r:=by
 refine pO Tryz.func104 λr h _ _=>?_
 refine S4 1 J<|S3 1 J<|cA h a4p J J λv1 _ h=>S2 1 J<|S3 1 J<|cA h a4p J J λv2 _ h=>S2 1 J<|b9<|S4 1 J ?_
 refine cN h (λhc h=>?_) λhc h=>?_
 ·refine b9 ?_
  refine S4 1 J ?_
  refine cN h (λhc h=>?_) λhc h=>?_
  ·refine S4 1 J ?_
   refine a6 ?_
   cases h
   exact f1
  ·refine a8 ?_
   refine S4 1 J<|a6 ?_
   cases h
   exact f1
 ·refine a8 ?_
  refine b9<|S4 1 J ?_
  refine cN h (λhc h=>?_) λhc h=>?_
  ·refine S4 1 J ?_
   refine a6 ?_
   cases h
   exact f1
  ·refine a8 ?_
   refine b9<|S4 3 J ?_
   refine cN h (λhc h=>?_) λhc h=>?_
   ·refine S4 1 J ?_
    refine a6 ?_
    cases h
    exact f1
   ·refine a8 ?_
    refine b9<|S4 3 J ?_
    refine cN h (λhc h=>?_) λhc h=>?_
    ·refine S4 1 J ?_
     refine a6 ?_
     cases h
     exact f1
    ·refine a8 ?_
     refine S4 1 J<|a6 ?_
     cases h
     exact f1

theorem b1X{a0 a1 a2}:PO Tryz.prog 103 [.I a0,.I a1,.rptr [.abs (R3 (List.map (ent iF iF) a2))]] (a2M a0 a1 a2) λr=>.I r:=by
 refine pO Tryz.func103 λr h _ _=>?_
 refine S4 1 J<|S3 2 J<|y0 J (b7o (es:=a2) (k:=a0) (E:=iF) (EK:=iF) (d:=.I ((w9 a2 a0).getD (0:Int))) J J Ty.c2J (w8 Ty.u3) Ty.z3 J (lk1 _ _ _))<|S1 2 J<|y0 J (b7o (es:=a2) (k:=a1) (E:=iF) (EK:=iF) (d:=.I ((w9 a2 a1).getD (0:Int))) J J Ty.c2J (w8 Ty.u3) Ty.z3 J (lk1 _ _ _))<|cA h a8K J J λv1 _ h=>S2 1 J<|a6 ?_
 cases h
 exact f1

theorem F3{a0}:PO Tryz.prog 41 [store_Store.Pv a0] (C8 a0) λr=>.L iF r:=by
 refine pO Tryz.func41 λr h _ _=>?_
 refine S4 2 J<|S4 1 J<|sR<|b3O (KT:=Int) (VT:=Int) (EK:=iF) (E:=iF) 5000008 J J<|S2 2 J ?_
 refine jq h (λq=>St.of [(3,.sl 910003),(4,.ptr 4 0 0)] [(4,vS (.mp 5000008) 1),(5000008,⟨[.mapc (List.map (ent iF iF) q.1)],0,false,0,false⟩),(910003,⟨List.map iF q.2,0,true,1,true⟩)]) (λq20 h=>?_) λκ17 h=>?_
 ·obtain⟨j18,j19⟩:=q20
  refine S3 2 J<|H2 (Wk.trans (c5u 5000008 nl J) (c7M 4 0 5000008 J J J J))<|l7 h λv21 hv12 h=>c7P hv12 J J Ty.c9y c7G J J J Ty.c9z J J J J J (λp q r h=>b1X.2 r h)<|yN<|S4 2 J<|a6 ?_
  cases h
  exact f1
 ·refine S3 3 J ?_
  refine nL J Ty.e22<|S2 1 J<|b7<|lq h (λq=>St.of [(3,.sl 910003),(4,.ptr 4 0 0),(11,.L slab_Cell_store_Obj.Pv a0.S.Cells),(12,.I (a0.S.Cells.length:Int)),(13,.I q.1)] [(4,vS (.mp 5000008) 1),(5000008,⟨[.mapc (List.map (ent iF iF) q.2.1)],0,false,0,false⟩),(910003,⟨List.map iF q.2.2,0,true,1,true⟩)]) (Wk.trans (B2 (t:=3) (l:=920003) (z:=1) J J) (WP (λl=>if l=910003 then 920003 else l))) λq27 x26 h hx15=>?_
  obtain⟨s23,Y4,s25⟩:=q27
  refine S4 1 J<|b9 ?_
  refine cN h (λhc h=>?_) λhc h=>?_
  ·refine a8 ?_
   refine jq h (λq=>St.of [(3,.sl 33),(4,.ptr 4 0 0),(11,.L slab_Cell_store_Obj.Pv a0.S.Cells),(12,.I (a0.S.Cells.length:Int)),(13,.I s23)] [(4,vS (.mp 5000008) 1),(5000008,⟨[.mapc (List.map (ent iF iF) q.1)],0,false,0,false⟩),(33,⟨List.map iF q.2,0,true,1,true⟩)]) (λq34 h=>?_) λκ31 h=>?_
   ·obtain⟨j32,j33⟩:=q34
    refine S6 2 J ?_
    exact eL h (WP (λl=>if l=910003 then 33 else l))
   ·refine b7 ?_
    refine S3 1 J<|iL h J J Ty.e22 Ty.a4Y λv35 _ h=>S2 4 J<|S4 3 J ?_
    refine cN h (λhc h=>?_) λhc h=>?_
    ·refine S3 3 J ?_
     refine cA h a3b J J λv36 _ h=>S2 1 J<|S3 5 J<|T3 (es:=Y4) (k:=v36) (v:=v35.Val.Serial) (E:=iF) (EK:=iF) (.inl J) J J J J J J Ty.c2J (w8 Ty.u3)<|yN<|S5 2 J<|y0 J (F1 (f:=iF) (l:=[v36]) J Ty.p8 Ty.s3 Ty.z3 J J nl J J)<|l7 h λv37 hv22 h=>c82 (f:=iF) (b:=8) [(4,.ptr 4 0 0),(11,.L slab_Cell_store_Obj.Pv a0.S.Cells),(12,.I (a0.S.Cells.length:Int)),(13,.I s23),(14,.bool (decide (s23<(a0.S.Cells.length:Int)))),(15,.I s23),(16,.rptr (slab_Cell_store_Obj.Pc v35)),(17,slab_Cell_store_Obj.Pv v35),(6,.ptr 6 0 0),(5,.I s23),(18,.ptr 6 0 0),(19,.I v35.State),(20,.bool (v35.State==1)),(21,.I s23),(22,.ptr 6 0 1),(23,.I v35.Gen),(24,.I v36),(7,.I v36),(25,.mp 5000008),(26,.I v36),(27,.ptr 6 0 2),(28,.ptr 6 0 2),(29,.I v35.Val.Serial),(31,.I v36),(32,.I4 true (List.map iF [v36]))] [(6,vR (slab_Cell_store_Obj.Pv v35) 8),(5000008,⟨[.mapc (List.map (ent iF iF) (m8 Y4 v36 v35.Val.Serial))],0,false,0,false⟩),(4,vS (.mp 5000008) 1)] J hv22 ⟨J,J,J,J,J,J,J,J,J,J,J,J,J,J,J,J,J,J,J,J,J,J,J,J,J,J,J,J,J,J,J,J,J,J,J,J,J,J,J,J,J,J,J,J,J,J,J,J,J,J,J,J,J,J,J,J,J,J,J,J,J,J,J,J,J,J,J,J,J,J,J,J,J,J,J,tr⟩ ⟨rS,a1B J J J (λq=>nomatch q) J J J J,a1B J J J (λq=>nomatch q) J J J J,tr⟩ J J J J (.inl ⟨_,J,J⟩) Ty.p8 Ty.s3 Ty.b3 Ty.z3 J (λ_=>J)<|S2 1 J ?_
     exact eJ h W
    ·refine a8 ?_
     exact eJ h (WP (λl=>if l=33 then 910003 else l))
  ·refine g8 ?_
   refine a7<|a7<|c4 ?_
   have h:=xL hx15 h
   exact eJ h W

theorem b3u{a0}:PO Tryz.prog 133 [hold_Heap.Pv a0] (a0z a0) λr=>.L iF r:=by
 refine pO Tryz.func133 λr h _ _=>?_
 refine S4 2 J<|S4 1 J ?_
 refine jq h (λj16=>St.of [(3,.sl 910003)] [(910003,⟨List.map iF j16,(List.map iF j16).length,true,1,true⟩)]) (λj16 h=>?_) λκ15 h=>?_
 ·refine S4 2 J ?_
  refine a6 ?_
  cases h
  exact f1
 ·refine S3 2 J ?_
  refine cF h F3 J J λv17 _ h=>nL J Ty.p8<|S2 1 J<|b7<|lq h (λq=>St.of [(1,.ptr 1 0 0),(3,.sl 910003),(10,.L iF v17),(11,.I (v17.length:Int)),(12,.I q.1)] [(1,vR (hold_Heap.Pv a0) 8),(910003,⟨List.map iF q.2,(List.map iF q.2).length,true,1,true⟩)]) (Wk.trans (B2 (t:=3) (l:=920003) (z:=1) J J) (WP (λl=>if l=910003 then 920003 else l))) λq22 x21 h hx16=>?_
  obtain⟨s19,s20⟩:=q22
  refine S4 1 J<|b9 ?_
  refine cN h (λhc h=>?_) λhc h=>?_
  ·refine a8 ?_
   refine jq h (λj27=>St.of [(1,.ptr 1 0 0),(3,.sl 29),(10,.L iF v17),(11,.I (v17.length:Int)),(12,.I s19)] [(29,⟨List.map iF j27,(List.map iF j27).length,true,1,true⟩),(1,vR (hold_Heap.Pv a0) 8)]) (λj27 h=>?_) λκ26 h=>?_
   ·refine S6 2 J ?_
    exact eL h (Wk.trans (g7 _ [29]) (WP (λl=>if l=910003 then 29 else l)))
   ·refine b7 ?_
    refine sR<|iL h J J Ty.p8 Ty.s3 λv28 _ h=>S2 2 J<|S3 3 J<|cF h y4 J J λv29 _ h=>S2 6 J<|S4 3 J ?_
    refine cN h (λhc h=>?_) λhc h=>?_
    ·refine S5 2 J ?_
     refine y0 J (F1 (f:=iF) (l:=[v28]) J Ty.p8 Ty.s3 Ty.z3 J J nl J J)<|l7 h λv30 hv23 h=>D7 J (B6 (f:=iF) hv23 J J J J J J (.inl ⟨_,J,J⟩) Ty.p8 Ty.s3 Ty.b3 Ty.z3 J (λ_=>J)) J J J<|S2 1 J ?_
     exact eJ h (Wk.trans (g7 _ [29]) W)
    ·refine a8 ?_
     exact eJ h (Wk.trans (g7 _ [910003]) (WP (λl=>if l=29 then 910003 else l)))
  ·refine g8 ?_
   refine a7<|a7<|c4 ?_
   have h:=xL hx16 h
   exact eJ h (Wk.trans (g7 _ [910003]) W)

theorem a3V{a0}:PO Tryz.prog 129 [store_Obj.Pv a0] (I7 a0) λr=>.bool r:=by
 refine pO Tryz.func129 λr h _ _=>?_
 unfold I7 at h
 refine S4 2 J<|S3 4 J<|b8 J (λhg=>oF J Ty.b5A J)<|b8 J (λhg=>oS (ct hg) J J Ty.a4 J)<|b8 J (λhg=>J7 (ct hg) J)<|y0 J (k7 J J J (λq=>H0 q))<|S2 1 J<|a6 ?_
 cases h
 exact f1

theorem a0W{a0}:PO Tryz.prog 286 [queue_Queue_task_Task.Pv a0] (O5 a0) λr=>.I r:=by
 refine pO Tryz.func286 λr h _ _=>?_
 unfold O5 at h
 refine S4 2 J<|S3 2 J<|nL J Ty.e30<|S2 1 J<|a6 ?_
 cases h
 exact f1

theorem a4G{a0 a1 a2}:PO Tryz.prog 287 [.L task_Task.Pv a0,.I a1,.I a2] (M5 a0 a1 a2) λr=>.I4 true (List.map task_Task.Pv r):=by
 refine pO Tryz.func287 λr h _ _=>?_
 unfold M5 at h
 refine S4 1 J<|S3 4 J<|l7 h λv1 hv1 h=>y0 J (c2P (f:=task_Task.Pv) hv1 J ⟨_,J⟩ ⟨_,J⟩ ⟨_,J⟩ J J Ty.e30 Ty.s79 (λ_=>J))<|S2 1 J<|a6 ?_
 cases h
 exact f1

theorem a4F{a0 a1}:PO Tryz.prog 217 [queue_Queue_task_Task.Pv a0,task_Task.Pv a1] (M4 a0 a1) λr=>.tup [queue_Queue_task_Task.Pv r.1,.I r.2]:=by
 refine pO Tryz.func217 λr h _ _=>?_
 unfold M4 at h
 refine S4 4 J<|b9<|dr [] Ty.K8 (by kernel_rfl) (by kernel_rfl)<|S7 1 J<|l7 h λv1 hv1 h=>d2 J (y5 J a0W J hv1) J<|S8 3 J ?_
 refine cN h (λhc h=>?_) λhc h=>?_
 ·refine S4 3 J ?_
  refine a6 ?_
  cases h
  exact⟨J,[_,_],⟨oL J J J Ty.a32 Ty.s32 nl J,⟨J,tr⟩⟩,J,io⟩
 ·refine a8 ?_
  refine dr [] Ty.K8 (by kernel_rfl) (by kernel_rfl)<|S7 3 J<|d2 J (y5 J a0W J hv1) J<|l7 h λv2 hv2 h=>Q7 J (n0 J a4G J hv2) J<|S7 1 J<|d1n J (F1 (f:=task_Task.Pv) (l:=[a1]) J Ty.e30 Ty.s79 Ty.z79 J J nl J J) J<|l7 h λv3 hv3 h=>d3 J (a4C (f:=task_Task.Pv) hv3 J J (.inl ⟨_,J,J⟩) Ty.e30 Ty.s79 Ty.b79 Ty.z79 J (λ_=>J)) J J J<|S7 1 J<|F0 (x':=.agg [.sl 19,.I a0.Cap]) (cl':=false) J J (.inl J) Ty.s30<|F6<|S4 3 J<|a6 ?_
  cases h
  exact⟨J,[_,_],⟨oL J J J Ty.a32 Ty.s32 nl J,⟨J,tr⟩⟩,J,io⟩

theorem b1D{a0 a1}:PO Tryz.prog 131 [queue_Queue_task_Task.Pv a0,task_Task.Pv a1] (a7t a0 a1) λr=>.tup [queue_Queue_task_Task.Pv r.1,.I r.2]:=by
 refine pO Tryz.func131 λr h _ _=>?_
 refine S4 4 J<|S3 2 J<|cF h a4F J J λv1 _ h=>S2 4 J<|a6 ?_
 cases h
 exact⟨J,[_,_],⟨oL J J J Ty.a32 Ty.s32 nl J,⟨J,tr⟩⟩,J,io⟩

theorem a4Z{a0 a1}:PO Tryz.prog 63 [hold_Heap.Pv a0,.I a1] (O1 a0 a1) λr=>hold_Heap.Pv r:=by
 refine pO Tryz.func63 λr h _ _=>?_
 refine S4 2 J<|S3 3 J<|cF h y4 J J λv1 _ h=>S2 6 J<|b9<|S3 3 J<|b8 J (λhg=>oL J J J Ty.c1F Ty.a4X nl J)<|l7 h λv2 hv2 h=>b8 J (λhg=>y5 J a3V (o8 (ct hg) J) (u9 hv2 hg))<|b8 J (λhg=>J7 (ct hg) J)<|y0 J (n8 J J J (λq=>H5 q))<|yN ?_
 refine cN h (λhc h=>?_) λhc h=>?_
 ·refine S4 2 J ?_
  refine a6 ?_
  cases h
  exact⟨J,[_],⟨oL J J J Ty.O2 Ty.I6 nl J,tr⟩,J,io⟩
 ·refine a8 ?_
  refine S4 2 J<|S3 4 J<|cF h X5 J J λv3 _ h=>S2 5 J<|S3 5 J<|y0 J (l6 (cs:=[.I 1,.I a1,.I v1.1.Prog]) J Ty.p79 Ty.z79 J J J)<|cF h b1D J J λv4 _ h=>S2 5 J<|S3 2 J<|cF h a0L J J λv5 _ h=>S2 1 J<|a6 ?_
  cases h
  exact⟨J,[_],⟨oL J J J Ty.O2 Ty.I6 nl J,tr⟩,J,io⟩

theorem a8g{a0 a1}:PO Tryz.prog 134 [hold_Heap.Pv a0,.L iF a1] (P7 a0 a1) λr=>.L iF r:=by
 refine pO Tryz.func134 λr h _ _=>?_
 refine S4 2 J<|sR<|b3O (KT:=Int) (VT:=Bool) (EK:=iF) (E:=PV.bool) 5000011 J J<|S2 1 J<|S4 1 J ?_
 refine jq h (λj18=>St.of [(6,.sl 910006)] [(910006,⟨List.map iF j18,(List.map iF j18).length,true,1,true⟩)]) (λj18 h=>?_) λκ17 h=>?_
 ·refine S4 2 J ?_
  refine a6 ?_
  cases h
  exact f1
 ·refine S3 1 J ?_
  refine nL J Ty.p8<|S2 1 J<|b7<|lq h (λq=>St.of [(2,.ptr 2 0 0),(5,.mp 5000011),(6,.sl 910006),(12,.L iF a1),(13,.I (a1.length:Int)),(14,.I q.1)] [(5000011,⟨[.mapc (List.map (ent iF PV.bool) q.2.1)],0,false,0,false⟩),(2,vR (hold_Heap.Pv a0) 8),(910006,⟨List.map iF q.2.2,(List.map iF q.2.2).length,true,1,true⟩)]) (Wk.trans (B2 (t:=6) (l:=920006) (z:=1) J J) (WP (λl=>if l=910006 then 920006 else l))) λq24 x23 h hx16=>?_
  obtain⟨s20,s21,s22⟩:=q24
  refine S4 1 J<|b9 ?_
  refine cN h (λhc h=>?_) λhc h=>?_
  ·refine a8 ?_
   refine jq h (λq=>St.of [(2,.ptr 2 0 0),(5,.mp 5000011),(6,.sl 38),(12,.L iF a1),(13,.I (a1.length:Int)),(14,.I s20)] [(38,⟨List.map iF q.1,(List.map iF q.1).length,true,1,true⟩),(5000011,⟨[.mapc (List.map (ent iF PV.bool) q.2)],0,false,0,false⟩),(2,vR (hold_Heap.Pv a0) 8)]) (λq31 h=>?_) λκ28 h=>?_
   ·obtain⟨j29,j30⟩:=q31
    refine S6 2 J ?_
    exact eL h (Wk.trans (g7 _ [38]) (WP (λl=>if l=910006 then 38 else l)))
   ·refine b7 ?_
    refine sR<|iL h J J Ty.p8 Ty.s3 λv32 _ h=>S2 2 J<|S3 3 J<|cF h y4 J J λv33 _ h=>S2 6 J<|S3 3 J<|b8 J (λhg=>om (d:=.mp 5000011) J)<|b8 J (λhg=>mI J) ?_
    rcases Bool.eq_false_or_eq_true ((v33.2==0)==true) with hg24 | hg24
    ·have h:=ifT h hg24
     refine b8f (es:=s21) (k:=v32) (E:=PV.bool) (EK:=iF) (d:=.bool ((w9 s21 v32).getD (false:Bool))) (congrArg some hg24) (ct hg24) J (ct hg24) Ty.a8v (w8 Ty.u3) Ty.z4 J (lk1 _ _ _)<|y0 (congrArg some hg24) (J7 J J)<|y0 J (a3R J J hg24)<|yN ?_
     refine cN h (λhc h=>?_) λhc h=>?_
     ·refine S3 2 J ?_
      refine T3 (es:=s21) (k:=v32) (v:=true) (E:=PV.bool) (EK:=iF) (.inl J) J J J J J J Ty.a8v (w8 Ty.u3)<|yN<|S5 2 J<|y0 J (F1 (f:=iF) (l:=[v32]) J Ty.p8 Ty.s3 Ty.z3 J J nl J J)<|l7 h λv34 hv25 h=>D7 J (B6 (f:=iF) hv25 J J J J J J (.inl ⟨_,J,J⟩) Ty.p8 Ty.s3 Ty.b3 Ty.z3 J (λ_=>J)) J J J<|S2 1 J ?_
      exact eJ h (Wk.trans (g7 _ [38]) W)
     ·refine a8 ?_
      exact eJ h (Wk.trans (g7 _ [910006]) (WP (λl=>if l=38 then 910006 else l)))
    ·have h:=ifF h hg24
     refine T4 (congrArg some hg24)<|T4 (congrArg some hg24)<|y0 J (a3Q J J hg24)<|yN ?_
     refine E5 false J (λq=>nomatch q) (λ_=>?_)
     refine a8 ?_
     exact eJ h (Wk.trans (g7 _ [910006]) (WP (λl=>if l=38 then 910006 else l)))
  ·refine g8 ?_
   refine a7<|a7<|c4 ?_
   have h:=xL hx16 h
   exact eJ h (Wk.trans (g7 _ [910006]) W)

theorem a47{a0 a1}:PO Tryz.prog 352 [.L iF a0,.I a1] (M9 a0 a1) λr=>.I r:=by
 refine pO Tryz.func352 λr h _ _=>?_
 refine S4 1 J ?_
 refine jq h (λ_=>St.of [] []) (λq6 h=>?_) λκ5 h=>?_
 ·refine S4 1 J ?_
  refine a6 ?_
  cases h
  exact f1
 ·refine S3 1 J ?_
  refine nL J Ty.p8<|S2 1 J<|b7<|lq h (λs8=>St.of [(0,.L iF a0),(1,.I a1),(7,.I (a0.length:Int)),(8,.I s8)] []) W λs8 x9 h hx8=>S4 1 J<|b9 ?_
  refine cN h (λhc h=>?_) λhc h=>?_
  ·refine a8 ?_
   refine b9<|b7<|S4 2 J<|S3 3 J<|iL h J J Ty.p8 Ty.s3 λv10 _ h=>S2 2 J ?_
   refine cN h (λhc h=>?_) λhc h=>?_
   ·refine S4 2 J ?_
    refine a6 ?_
    have h:=xL hx8 h
    cases h
    exact f1
   ·refine a8 ?_
    refine S6 2 J ?_
    exact eL h W
  ·refine g8 ?_
   refine a7<|a7<|c4 ?_
   have h:=xL hx8 h
   exact eJ h W

theorem L2{a0 a1}:PO Tryz.prog 290 [.L iF a0,.I a1] (D3 a0 a1) λr=>.bool r:=by
 refine pO Tryz.func290 λr h _ _=>?_
 refine S4 1 J<|S3 2 J<|cA h a47 J J λv1 _ h=>S2 2 J<|a6 ?_
 cases h
 exact f1

theorem b10{a0 a1}:PO Tryz.prog 289 [weak_Cell.Pv a0,.rptr [.L iF a1]] (X6 a0 a1) λr=>.bool r:=by
 refine pO Tryz.func289 λr h _ _=>?_
 unfold X6 at h
 refine S4 2 J<|S3 3 J<|b8 J (λhg=>oF J Ty.b9E J)<|b8 J (λhg=>oS (ct hg) J J Ty.a3 J)<|b8 J (λhg=>j8 (ct hg) J J)<|y0 J (k7 J J J (λq=>H0 q))<|S1 1 J<|b8 J (λhg=>B1 J Ty.a27 J)<|b8 J (λhg=>oF J Ty.b9E J)<|b8 J (λhg=>oS (ct hg) J J Ty.a3 J)<|l7 h λv1 hv1 h=>b8 J (λhg=>y5 J L2 (o8 (ct hg) (o8 (ct hg) J)) (u9 hv1 hg))<|y0 J (k7 J J J (λq=>H0 q))<|S2 1 J<|a6 ?_
 cases h
 exact f1

theorem a2v{a0 a1}:PO Tryz.prog 279 [.L weak_Cell.Pv a0,.fn (.func 289) [.rptr [.L iF a1]]] (G8 a0 a1) λr=>.L iF r:=by
 refine pO Tryz.func279 λr h _ _=>?_
 refine S4 1 J<|S4 1 J ?_
 refine jq h (λj15=>St.of [(5,.sl 910005)] [(910005,⟨List.map iF j15,(List.map iF j15).length,true,1,true⟩)]) (λj15 h=>?_) λκ14 h=>?_
 ·refine S4 2 J ?_
  refine a6 ?_
  cases h
  exact f1
 ·refine S3 1 J ?_
  refine nL J Ty.e28<|S2 1 J<|b7<|lq h (λq=>St.of [(1,.fn (.func 289) [.rptr [.L iF a1]]),(5,.sl 910005),(8,.L weak_Cell.Pv a0),(9,.I (a0.length:Int)),(10,.I q.1)] [(910005,⟨List.map iF q.2,(List.map iF q.2).length,true,1,true⟩)]) (Wk.trans (B2 (t:=5) (l:=920005) (z:=1) J J) (WP (λl=>if l=910005 then 920005 else l))) λq20 x19 h hx14=>?_
  obtain⟨s17,s18⟩:=q20
  refine S4 1 J<|b9 ?_
  refine cN h (λhc h=>?_) λhc h=>?_
  ·refine a8 ?_
   refine jq h (λj25=>St.of [(1,.fn (.func 289) [.rptr [.L iF a1]]),(5,.sl 21),(8,.L weak_Cell.Pv a0),(9,.I (a0.length:Int)),(10,.I s17)] [(21,⟨List.map iF j25,(List.map iF j25).length,true,1,true⟩)]) (λj25 h=>?_) λκ24 h=>?_
   ·refine S6 2 J ?_
    exact eL h (Wk.trans (g7 _ [21]) (WP (λl=>if l=910005 then 21 else l)))
   ·refine b7 ?_
    refine S3 1 J<|iL h J J Ty.e28 Ty.s68 λv26 _ h=>S2 4 J<|S3 2 J<|cA h b10 J J λv27 _ h=>yN ?_
    refine cN h (λhc h=>?_) λhc h=>?_
    ·refine S5 2 J ?_
     refine y0 J (F1 (f:=iF) (l:=[s17]) J Ty.p8 Ty.s3 Ty.z3 J J nl J J)<|l7 h λv28 hv21 h=>D7 J (B6 (f:=iF) hv21 J J J J J J (.inl ⟨_,J,J⟩) Ty.p8 Ty.s3 Ty.b3 Ty.z3 J (λ_=>J)) J J J<|S2 1 J ?_
     exact eJ h (Wk.trans (g7 _ [21]) W)
    ·refine a8 ?_
     exact eJ h (Wk.trans (g7 _ [910005]) (WP (λl=>if l=21 then 910005 else l)))
  ·refine g8 ?_
   refine a7<|a7<|c4 ?_
   have h:=xL hx14 h
   exact eJ h (Wk.trans (g7 _ [910005]) W)

theorem b4p{a0 a1}:PO Tryz.prog 219 [.L weak_Cell.Pv a0,.L iF a1] (a3x a0 a1) λr=>.tup [.L weak_Cell.Pv r.1,.L iF r.2]:=by
 refine pO Tryz.func219 λr h _ _=>?_
 unfold a3x at h
 refine S4 3 J<|S3 2 J<|l7 h λv1 hv1 h=>ycL J (n0 J a2v J hv1) J<|S2 1 J<|S3 1 J<|l7 h λv2 hv2 h=>ycN J (b21 J a6d J hv2) J J<|S2 1 J<|S4 1 J ?_
 refine jq h (λq=>St.of [(7,.sl 15),(8,.sl 910008)] [(910008,⟨List.map iF q.1,(List.map iF q.1).length,true,1,true⟩),(15,⟨List.map weak_Cell.Pv q.2,0,true,3,true⟩)]) (λq24 h=>?_) λκ21 h=>?_
 ·obtain⟨j22,j23⟩:=q24
  refine S4 4 J<|a6 ?_
  cases h
  exact f2
 ·refine S3 1 J ?_
  refine nL J Ty.p8<|S2 1 J<|b7<|lq h (λq=>St.of [(7,.sl 15),(8,.sl 910008),(16,.L iF v1),(17,.I (v1.length:Int)),(18,.I q.1)] [(15,⟨List.map weak_Cell.Pv q.2.1,0,true,3,true⟩),(910008,⟨List.map iF q.2.2,(List.map iF q.2.2).length,true,1,true⟩)]) (Wk.trans (B2 (t:=8) (l:=920008) (z:=1) J J) (WP (λl=>if l=910008 then 920008 else l))) λq30 x29 h hx18=>?_
  obtain⟨s26,s27,s28⟩:=q30
  refine S4 1 J<|b9 ?_
  refine cN h (λhc h=>?_) λhc h=>?_
  ·refine a8 ?_
   refine jq h (λq=>St.of [(7,.sl 15),(8,.sl 35),(16,.L iF v1),(17,.I (v1.length:Int)),(18,.I s26)] [(35,⟨List.map iF q.1,(List.map iF q.1).length,true,1,true⟩),(15,⟨List.map weak_Cell.Pv q.2,0,true,3,true⟩)]) (λq38 h=>?_) λκ35 h=>?_
   ·obtain⟨j36,j37⟩:=q38
    refine S6 2 J ?_
    exact eL h (Wk.trans (g7 _ [35]) (WP (λl=>if l=910008 then 35 else l)))
   ·refine b7 ?_
    refine sR<|iL h J J Ty.p8 Ty.s3 λv39 _ h=>S2 2 J<|S3 2 J<|l7 h λv40 hv25 h=>y0 J (a0w (f:=weak_Cell.Pv) hv25 J J J J Ty.e28 Ty.s68 J)<|S1 1 J<|a6e (f:=weak_Cell.Pv) (v:=(⟨v40.Target,false,v40.Call⟩:weak_Cell)) hv25 J J (.inl J) Ty.s4<|yN<|S3 2 J<|l7 h λv41 hv26 h=>y0 J (a0w (f:=weak_Cell.Pv) hv26 J J J J Ty.e28 Ty.s68 J)<|S1 1 J<|y0 J (b1q (f:=weak_Cell.Pv) hv26 J J J Ty.a3 J)<|S2 1 J ?_
    refine cN h (λhc h=>?_) λhc h=>?_
    ·refine S5 2 J ?_
     refine y0 J (F1 (f:=iF) (l:=[v39]) J Ty.p8 Ty.s3 Ty.z3 J J nl J J)<|l7 h λv42 hv27 h=>D7 J (B6 (f:=iF) hv27 J J J J J J (.inl ⟨_,J,J⟩) Ty.p8 Ty.s3 Ty.b3 Ty.z3 J (λ_=>J)) J J J<|S2 1 J ?_
     exact eJ h (Wk.trans (g7 _ [35]) W)
    ·refine a8 ?_
     exact eJ h (Wk.trans (g7 _ [910008]) (WP (λl=>if l=35 then 910008 else l)))
  ·refine g8 ?_
   refine a7<|a7<|c4 ?_
   have h:=xL hx18 h
   exact eJ h (Wk.trans (g7 _ [910008]) W)

theorem b0o{a0 a1}:PO Tryz.prog 135 [hold_Heap.Pv a0,.L iF a1] (a03 a0 a1) λr=>hold_Heap.Pv r:=by
 refine pO Tryz.func135 λr h _ _=>?_
 refine S4 2 J<|S3 3 J<|cF h b4p J J λv1 _ h=>S2 5 J<|S4 3 J ?_
 refine jq h (λj11=>St.of [(2,.ptr 2 0 0),(4,.ptr 4 0 0)] [(4,vR (.agg [.nl,.I 0,.I 0,.nl,.nl,.nl,.nl,.I 0]) 8),(2,vR (.agg [.L slab_Cell_store_Obj.Pv a0.S.S.Cells,.I a0.S.S.Last,.I a0.S.Serial,.L iF a0.Roots,.L weak_Cell.Pv v1.1,.L hash_Place.Pv a0.T,.L task_Task.Pv j11.L,.I j11.Cap]) 8)]) (λj11 h=>?_) λκ10 h=>?_
 ·refine S4 2 J ?_
  refine a6 ?_
  cases h
  exact⟨J,[_],⟨oL J J J Ty.O2 Ty.I6 nl J,tr⟩,J,io⟩
 ·refine S3 1 J ?_
  refine nL J Ty.p8<|S2 1 J<|b7<|lq h (λq=>St.of [(2,.ptr 2 0 0),(4,.ptr 4 0 0),(5,.L weak_Cell.Pv v1.1),(18,.L iF v1.2),(19,.I (v1.2.length:Int)),(20,.I q.1)] [(4,vR (.agg [.nl,.I 0,.I 0,.nl,.nl,.nl,.nl,.I 0]) 8),(2,vR (.agg [.L slab_Cell_store_Obj.Pv a0.S.S.Cells,.I a0.S.S.Last,.I a0.S.Serial,.L iF a0.Roots,.L weak_Cell.Pv v1.1,.L hash_Place.Pv a0.T,.L task_Task.Pv q.2.L,.I q.2.Cap]) 8)]) W λq16 x15 h hx11=>?_
  obtain⟨s13,s14⟩:=q16
  refine S4 1 J<|b9 ?_
  refine cN h (λhc h=>?_) λhc h=>?_
  ·refine a8 ?_
   refine b9<|b7<|sR<|iL h J J Ty.p8 Ty.s3 λv17 _ h=>S2 2 J<|a0p [] Ty.K8 (by kernel_rfl) (by kernel_rfl)<|S7 5 J<|l7 h λv18 hv13 h=>d0 J (p9 (f:=weak_Cell.Pv) (cs:=weak_Cell.Pc v18) hv13 J J Ty.e28 Ty.s68 J J) J<|S7 2 J<|d7 J (λ_ hN=>l6 (cs:=[.I 2,.I v17,.I v18.Call]) J Ty.p79 Ty.z79 J J J) J<|l7 h λv19 hv14 h=>Q7 J (n0 J b1D J hv14) J<|S7 4 J<|F0 (x':=.agg [.L slab_Cell_store_Obj.Pv a0.S.S.Cells,.I a0.S.S.Last,.I a0.S.Serial,.L iF a0.Roots,.L weak_Cell.Pv v1.1,.L hash_Place.Pv a0.T,.L task_Task.Pv v19.1.L,.I v19.1.Cap]) (cl':=true) J J (.inr J) Ty.s32<|F6<|S6 2 J ?_
   exact eL h W
  ·refine g8 ?_
   refine a7<|a7<|c4 ?_
   have h:=xL hx11 h
   exact eJ h W

theorem b0w{a0}:PO Tryz.prog 220 [.L iF a0] (a2Z a0) λr=>.fn (.func 292) [.rptr [.L iF r]]:=by
 refine pO Tryz.func220 λr h _ _=>?_
 unfold a2Z at h
 refine S4 2 J<|S4 2 J<|a6 ?_
 cases h
 exact f1

theorem b0v{a0}:PO Tryz.prog 137 [.L iF a0] (a2Y a0) λr=>.L iF r:=by
 refine pO Tryz.func137 λr h _ _=>?_
 refine S4 1 J<|S4 1 J ?_
 refine jq h (λj10=>St.of [(3,.ptr 2001 0 0)] [(2001,vS (.sl 912501) 1),(912501,⟨List.map iF j10,(List.map iF j10).length,true,1,true⟩)]) (λj10 h=>?_) λκ9 h=>?_
 ·refine S4 2 J ?_
  refine a6 ?_
  cases h
  exact f1
 ·refine S3 1 J ?_
  refine cF h b0w J J λv11 _ h=>yN<|b7<|a1h (WPE (λl=>if l=2011 then 3 else l) [(3,.ptr 2011 0 0),(6,.fn (.func 292) [.rptr [.L iF v11]])] [(2011,vR (.nl) 1)]) ?_
  refine Z1 (fn:=Tryz.f292) (N1:=20) J Tryz.func292 J J nl J Ty.c8o J J (λl17 e18 o19 hR20=>?_)
  refine S3 1 J<|nL J Ty.p8<|S2 1 J<|b7<|lq h (λq=>St.of [(1000003,.ptr 2011 0 0),(1000006,.fn (.func 292) [.rptr [.L iF v11]]),(0,.fn (.yield l17) []),(5,.L iF v11),(6,.I (v11.length:Int)),(7,.I q.1)] [(2011,vS (.sl 912511) 1),(912511,⟨List.map iF q.2,(List.map iF q.2).length,true,1,true⟩)]) (Wk.trans (a78 (l0:=2011) (j:=0) (l:=922511) (z:=1) J J J J J) (WP (λl=>if l=912511 then 922511 else l))) λq16 x15 h hx23=>?_
  obtain⟨s13,s14⟩:=q16
  refine S4 1 J<|b9 ?_
  refine cN h (λhc h=>?_) λhc h=>?_
  ·refine a8 ?_
   refine b9<|b7<|sR<|iL h J J Ty.p8 Ty.s3 λv17 _ h=>S2 2 J<|S3 3 J<|b8 J (λhg=>om (d:=.fn (.yield l17) []) J)<|b8 J (λhg=>mI J) ?_
   rcases Bool.eq_false_or_eq_true ((v17 != 0)==true) with hg25 | hg25
   ·have h:=ifT h hg25
    refine H2 (WPE (λl=>if l=2019 then 912511 else l) [(1000003,.ptr 2011 0 0),(1000006,.fn (.func 292) [.rptr [.L iF v11]]),(0,.fn (.yield l17) []),(5,.L iF v11),(6,.I (v11.length:Int)),(7,.I s13),(13,.bool (v17 != 0)),(14,.fn (.yield l17) []),(15,.I v17)] [(2011,vS (.sl 2019) 1),(2019,⟨List.map iF s14,(List.map iF s14).length,true,1,true⟩)]) ?_
    refine a33 hR20 (congrArg some hg25) J J J J J (λe26 o27 o28=>?_)
    refine S6 1 J ?_
    refine⟨J,?_⟩
    refine b7<|S5 2 J<|y0 J (F1 (f:=iF) (l:=[v17]) J Ty.p8 Ty.s3 Ty.z3 J J nl J J)<|l7 h λv18 hv29 h=>D7 J (B6 (f:=iF) hv29 J J J J J J (.inl ⟨_,J,J⟩) Ty.p8 Ty.s3 Ty.b3 Ty.z3 J (λ_=>J)) J J J<|S2 1 J ?_
    refine⟨J,?_⟩
    refine H2 (WPE (λl=>if l=2020 then 11 else l) [(1000003,.ptr 2011 0 0),(1000006,.fn (.func 292) [.rptr [.L iF v11]]),(0,.fn (.yield l17) []),(5,.L iF v11),(6,.I (v11.length:Int)),(7,.I s13),(13,.bool (v17 != 0)),(16,.bool true)] [(2011,vS (.sl 2020) 1),(2020,⟨List.map iF v18,s14.length,true,1,true⟩)])<|y0 (congrArg some hg25) (J7 J J)<|y0 J (a3R J J hg25)<|yN ?_
    refine E5 false J (λq=>nomatch q) (λ_=>?_)
    refine a8<|S6 2 J ?_
    exact eL h (Wk.trans (g7 _ [2020]) (WP (λl=>if l=912511 then 2020 else l)))
   ·have h:=ifF h hg25
    refine T4 (congrArg some hg25)<|T4 (congrArg some hg25)<|y0 J (a3Q J J hg25)<|yN ?_
    refine E5 false J (λq=>nomatch q) (λ_=>?_)
    refine a8<|S6 2 J ?_
    exact eL h (Wk.trans (g7 _ [912511]) W)
  ·refine g8 ?_
   refine a7<|a7<|c4 ?_
   refine .inl ⟨J,?_⟩
   have h:=xL hx23 h
   exact eJ h (Wk.trans (g7 _ [912511]) (WP (λl=>if l=2001 then 2011 else if l=912501 then 912511 else l)))

theorem b0K{a0 a1}:PO Tryz.prog 138 [.L hash_Place.Pv a0,.L iF a1] (K4 a0 a1) λr=>.tup [.L hash_Place.Pv r.1,.L iF r.2]:=by
 refine pO Tryz.func138 λr h _ _=>?_
 refine S4 2 J<|S4 1 J ?_
 refine jq h (λq=>St.of [(0,.L hash_Place.Pv q.1),(6,.sl 910006)] [(910006,⟨List.map iF q.2,(List.map iF q.2).length,true,1,true⟩)]) (λq20 h=>?_) λκ17 h=>?_
 ·obtain⟨j18,j19⟩:=q20
  refine S4 4 J<|a6 ?_
  cases h
  exact f2
 ·refine S3 1 J ?_
  refine nL J Ty.p8<|S2 1 J<|b7<|lq h (λq=>St.of [(0,.L hash_Place.Pv q.1),(6,.sl 910006),(12,.L iF a1),(13,.I (a1.length:Int)),(14,.I q.2.1)] [(910006,⟨List.map iF q.2.2,(List.map iF q.2.2).length,true,1,true⟩)]) (Wk.trans (B2 (t:=6) (l:=920006) (z:=1) J J) (WP (λl=>if l=910006 then 920006 else l))) λq26 x25 h hx14=>?_
  obtain⟨s22,s23,Y4⟩:=q26
  refine S4 1 J<|b9 ?_
  refine cN h (λhc h=>?_) λhc h=>?_
  ·refine a8 ?_
   refine jq h (λq=>St.of [(0,.L hash_Place.Pv q.1),(6,.sl 31),(12,.L iF a1),(13,.I (a1.length:Int)),(14,.I s23)] [(31,⟨List.map iF q.2,(List.map iF q.2).length,true,1,true⟩)]) (λq33 h=>?_) λκ30 h=>?_
   ·obtain⟨j31,j32⟩:=q33
    refine S6 2 J ?_
    exact eL h (Wk.trans (g7 _ [31]) (WP (λl=>if l=910006 then 31 else l)))
   ·refine b7 ?_
    refine sR<|iL h J J Ty.p8 Ty.s3 λv34 _ h=>S2 2 J<|S3 2 J<|cF h a9x J J λv35 _ h=>S2 7 J<|S4 2 J ?_
    refine cN h (λhc h=>?_) λhc h=>?_
    ·refine S5 3 J ?_
     refine y0 J (F1 (f:=iF) (l:=[v35.2.1]) J Ty.p8 Ty.s3 Ty.z3 J J nl J J)<|l7 h λv36 hv21 h=>D7 J (B6 (f:=iF) hv21 J J J J J J (.inl ⟨_,J,J⟩) Ty.p8 Ty.s3 Ty.b3 Ty.z3 J (λ_=>J)) J J J<|S2 2 J ?_
     exact eJ h (Wk.trans (g7 _ [31]) W)
    ·refine a8 ?_
     exact eJ h (Wk.trans (g7 _ [910006]) (WP (λl=>if l=31 then 910006 else l)))
  ·refine g8 ?_
   refine a7<|a7<|c4 ?_
   have h:=xL hx14 h
   exact eJ h (Wk.trans (g7 _ [910006]) W)

theorem a5P{a0 a1}:PO Tryz.prog 222 [slab_Slab_store_Obj.Pv a0,.I a1] (O6 a0 a1) λr=>.tup [slab_Slab_store_Obj.Pv r.1,.I r.2]:=by
 refine pO Tryz.func222 λr h _ _=>?_
 refine S4 3 J<|S3 2 J<|cF h a1i J J λv1 _ h=>S2 6 J<|b9<|S4 2 J ?_
 refine cN h (λhc h=>?_) λhc h=>?_
 ·refine S4 4 J ?_
  refine a6 ?_
  cases h
  exact⟨J,[_,_],⟨oL J J J Ty.a24 Ty.Y4 nl J,⟨J,tr⟩⟩,J,io⟩
 ·refine a8 ?_
  refine dr [] Ty.K8 (by kernel_rfl) (by kernel_rfl)<|S7 2 J<|l7 h λv2 hv2 h=>d2 J (y5 J a6J J hv2) J<|S7 1 J<|l7 h λv3 hv3 h=>d2 J (y5 J a8s J hv3) J<|S7 1 J<|d7 J (λ_ hN=>l6 (cs:=[.I 2,.I v3,.I v1.1.Serial,.I v1.1.Strong,.I v1.1.Weak,.I v1.1.Prog,.bool v1.1.Started,.L iF v1.1.Fields]) J Ty.c44 Ty.c1z J J J) J<|l7 h λv4 hv4 h=>Q7 J (n0 J G1 J hv4) J<|F0 (x':=slab_Slab_store_Obj.Pv v4) (cl':=true) J J (.inr J) Ty.Y4<|S8 1 J<|a6 ?_
  cases h
  exact⟨J,[_,_],⟨oL J J J Ty.a24 Ty.Y4 nl J,⟨J,tr⟩⟩,J,io⟩

theorem b1d{a0 a1}:PO Tryz.prog 139 [hold_Heap.Pv a0,.I a1] (R8 a0 a1) λr=>hold_Heap.Pv r:=by
 refine pO Tryz.func139 λr h _ _=>?_
 refine S4 2 J<|S3 3 J<|cF h y4 J J λv1 _ h=>S2 6 J<|S3 1 J<|a6f (x':=.agg [.I v1.1.Serial,.I v1.1.Strong,.I v1.1.Weak,.I v1.1.Prog,.bool v1.1.Started,.nl]) (cl':=true) J J (.inl J) Ty.s27<|S1 1 J<|a6f (x':=.agg [.I v1.1.Serial,.I 0,.I v1.1.Weak,.I v1.1.Prog,.bool v1.1.Started,.nl]) (cl':=true) J J (.inl J) Ty.s3<|yN<|S3 4 J<|cF h X5 J J λv2 _ h=>S2 5 J<|S3 4 J<|cF h a5P J J λv3 _ h=>S2 6 J<|b9<|S4 3 J ?_
 refine cN h (λhc h=>?_) λhc h=>?_
 ·refine S5 4 J ?_
  refine cF h a05 J J λv4 _ h=>S2 6 J<|S4 2 J<|a6 ?_
  cases h
  exact⟨J,[_],⟨oL J J J Ty.O2 Ty.I6 nl J,tr⟩,J,io⟩
 ·refine a8 ?_
  refine S4 2 J<|a6 ?_
  cases h
  exact⟨J,[_],⟨oL J J J Ty.O2 Ty.I6 nl J,tr⟩,J,io⟩

theorem a7o{a0 a1}:PO Tryz.prog 65 [hold_Heap.Pv a0,.L iF a1] (V6 a0 a1) λr=>hold_Heap.Pv r:=by
 refine pO Tryz.func65 λr h _ _=>?_
 refine S4 2 J<|S3 2 J<|cF h a8g J J λv1 _ h=>S2 1 J<|S3 2 J<|cF h b0o J J λv2 _ h=>S2 1 J<|S4 1 J<|S4 2 J ?_
 refine jq h (λj13=>St.of [(2,.ptr 2 0 0),(4,.ptr 4 0 0),(5,.L iF v1),(6,.ptr 6 0 0),(7,.fn (.func 136) [.ptr 6 0 0])] [(6,vS (.sl 910506) 1),(910506,⟨List.map iF j13,(List.map iF j13).length,true,1,true⟩),(4,vR (.agg [.nl,.I 0,.I 0,.nl,.nl,.nl,.nl,.I 0]) 8),(2,vR (hold_Heap.Pv v2) 8)]) (λj13 h=>?_) λκ12 h=>?_
 ·refine S3 3 J ?_
  refine cF h b0K J J λv14 _ h=>S2 5 J<|S3 2 J<|H2 (WPE (λl=>if l=2025 then 6 else if l=2026 then 4 else if l=2027 then 2 else if l=2028 then 910506 else l) [(2,.ptr 2027 0 0),(4,.ptr 2026 0 0),(5,.L iF v1),(6,.ptr 2025 0 0),(12,.L hash_Place.Pv v14.1),(51,.fn (.func 136) [.ptr 2025 0 0]),(52,.L iF v14.2)] [(2025,vS (.sl 2028) 1),(2028,⟨List.map iF j13,(List.map iF j13).length,true,1,true⟩),(2026,vR (.agg [.nl,.I 0,.I 0,.nl,.nl,.nl,.nl,.I 0]) 8),(2027,vR (hold_Heap.Pv v2) 8)]) ?_
  refine b1I (fn:=Tryz.f136) (N1:=6) J J Tryz.func136 J Ty.c8m J J nl (λe14 o15=>?_)
  refine S5 2 J<|l7 h λv15 hv16 h=>D7 J (B6 (f:=iF) hv16 J J J J J J (.inl ⟨_,J,J⟩) Ty.p8 Ty.s3 Ty.b3 Ty.z3 J (λ_=>J)) J J J<|S2 1 J ?_
  refine⟨J,[],tr,?_⟩
  refine H2 (WPE (λl=>if l=2029 then 5 else l) [(2,.ptr 2027 0 0),(4,.ptr 2026 0 0),(5,.L iF v1),(6,.ptr 2025 0 0),(12,.L hash_Place.Pv v14.1)] [(2025,vS (.sl 2029) 1),(2029,⟨List.map iF v15,j13.length,true,1,true⟩),(2026,vR (.agg [.nl,.I 0,.I 0,.nl,.nl,.nl,.nl,.I 0]) 8),(2027,vR (hold_Heap.Pv v2) 8)])<|yN<|S4 3 J ?_
  refine jq h (λj24=>St.of [(2,.ptr 2027 0 0),(4,.ptr 2026 0 0),(6,.ptr 2025 0 0)] [(2025,vS (.sl 2029) 1),(2029,⟨List.map iF v15,j13.length,true,1,true⟩),(2026,vR (.agg [.nl,.I 0,.I 0,.nl,.nl,.nl,.nl,.I 0]) 8),(2027,vR (hold_Heap.Pv j24) 8)]) (λj24 h=>?_) λκ23 h=>?_
  ·refine jq h (λj33=>St.of [(2,.ptr 2027 0 0),(4,.ptr 2026 0 0)] [(2026,vR (.agg [.nl,.I 0,.I 0,.nl,.nl,.nl,.nl,.I 0]) 8),(2027,vR (hold_Heap.Pv j33) 8)]) (λj33 h=>?_) λκ32 h=>?_
   ·refine S4 2 J ?_
    refine a6 ?_
    cases h
    exact⟨J,[_],⟨oL J J J Ty.O2 Ty.I6 nl J,tr⟩,J,io⟩
   ·refine S3 1 J ?_
    refine y0 J (b4W (f:=iF) J J J Ty.p8)<|S2 1 J<|b7<|lq h (λq=>St.of [(2,.ptr 2027 0 0),(4,.ptr 2026 0 0),(66,.sl 2029),(67,.I (v15.length:Int)),(68,.I q.1)] [(2029,⟨List.map iF v15,j13.length,true,1,true⟩),(2026,vR (.agg [.nl,.I 0,.I 0,.nl,.nl,.nl,.nl,.I 0]) 8),(2027,vR (hold_Heap.Pv q.2) 8)]) W λq38 x37 h hx31=>?_
    obtain⟨s35,s36⟩:=q38
    refine S4 1 J<|b9 ?_
    refine cN h (λhc h=>?_) λhc h=>?_
    ·refine a8 ?_
     refine b9<|b7<|sR<|l7 h λv39 hv32 h=>y0 J (a0w (f:=iF) hv32 J J J J Ty.p8 Ty.s3 J)<|y0 J (b1q (f:=iF) hv32 J J J Ty.a3 J)<|S2 1 J<|S5 2 J<|cF h a0a J J λv40 _ h=>S2 1 J<|S6 2 J ?_
     exact eL h W
    ·refine g8 ?_
     refine a7<|a7<|c4 ?_
     have h:=xL hx31 h
     exact eJ h W
  ·refine S3 1 J ?_
   refine nL J Ty.p8<|S2 1 J<|b7<|lq h (λq=>St.of [(2,.ptr 2027 0 0),(4,.ptr 2026 0 0),(6,.ptr 2025 0 0),(56,.L iF v1),(57,.I (v1.length:Int)),(58,.I q.1)] [(2025,vS (.sl 2029) 1),(2029,⟨List.map iF v15,j13.length,true,1,true⟩),(2026,vR (.agg [.nl,.I 0,.I 0,.nl,.nl,.nl,.nl,.I 0]) 8),(2027,vR (hold_Heap.Pv q.2) 8)]) W λq45 x44 h hx36=>?_
   obtain⟨s42,s43⟩:=q45
   refine S4 1 J<|b9 ?_
   refine cN h (λhc h=>?_) λhc h=>?_
   ·refine a8 ?_
    refine b9<|b7<|sR<|iL h J J Ty.p8 Ty.s3 λv46 _ h=>S2 2 J<|S5 2 J<|cF h b1d J J λv47 _ h=>S2 1 J<|S6 2 J ?_
    exact eL h W
   ·refine g8 ?_
    refine a7<|a7<|c4 ?_
    have h:=xL hx36 h
    exact eJ h W
 ·refine S3 1 J ?_
  refine nL J Ty.p8<|S2 1 J<|b7<|lq h (λq=>St.of [(2,.ptr 2 0 0),(4,.ptr 4 0 0),(5,.L iF v1),(6,.ptr 6 0 0),(7,.fn (.func 136) [.ptr 6 0 0]),(25,.L iF v1),(26,.I (v1.length:Int)),(27,.I q.1)] [(6,vS (.sl 910506) 1),(4,vR (.agg [.nl,.I 0,.I 0,.nl,.nl,.nl,.nl,.I 0]) 8),(2,vR (hold_Heap.Pv v2) 8),(910506,⟨List.map iF q.2,(List.map iF q.2).length,true,1,true⟩)]) (Wk.trans (a78 (l0:=6) (j:=0) (l:=920506) (z:=1) J J J J J) (WP (λl=>if l=910506 then 920506 else l))) λq52 x51 h hx41=>?_
  obtain⟨s49,s50⟩:=q52
  refine S4 1 J<|b9 ?_
  refine cN h (λhc h=>?_) λhc h=>?_
  ·refine a8 ?_
   refine b9<|b7<|sR<|iL h J J Ty.p8 Ty.s3 λv53 _ h=>S2 2 J<|S3 3 J<|cF h y4 J J λv54 _ h=>S2 6 J<|S5 3 J<|cF h b0v J J λv55 _ h=>H2 (WPE (λl=>if l=2049 then 6 else if l=2050 then 4 else if l=2051 then 2 else if l=2052 then 910506 else l) [(2,.ptr 2051 0 0),(4,.ptr 2050 0 0),(5,.L iF v1),(6,.ptr 2049 0 0),(7,.fn (.func 136) [.ptr 2049 0 0]),(25,.L iF v1),(26,.I (v1.length:Int)),(27,.I s49),(38,.fn (.func 136) [.ptr 2049 0 0]),(41,.L iF v55)] [(2049,vS (.sl 2052) 1),(2052,⟨List.map iF s50,(List.map iF s50).length,true,1,true⟩),(2050,vR (.agg [.nl,.I 0,.I 0,.nl,.nl,.nl,.nl,.I 0]) 8),(2051,vR (hold_Heap.Pv v2) 8)]) ?_
   refine b1I (fn:=Tryz.f136) (N1:=6) J J Tryz.func136 J Ty.c8m J J nl (λe45 o46=>?_)
   refine S5 2 J<|l7 h λv56 hv47 h=>D7 J (B6 (f:=iF) hv47 J J J J J J (.inl ⟨_,J,J⟩) Ty.p8 Ty.s3 Ty.b3 Ty.z3 J (λ_=>J)) J J J<|S2 1 J ?_
   refine⟨J,[],tr,?_⟩
   refine H2 (WPE (λl=>if l=2053 then 5 else l) [(2,.ptr 2051 0 0),(4,.ptr 2050 0 0),(5,.L iF v1),(6,.ptr 2049 0 0),(7,.fn (.func 136) [.ptr 2049 0 0]),(25,.L iF v1),(26,.I (v1.length:Int)),(27,.I s49)] [(2049,vS (.sl 2053) 1),(2053,⟨List.map iF v56,s50.length,true,1,true⟩),(2050,vR (.agg [.nl,.I 0,.I 0,.nl,.nl,.nl,.nl,.I 0]) 8),(2051,vR (hold_Heap.Pv v2) 8)])<|yN<|S6 2 J ?_
   exact eL h (Wk.trans (g7 _ [2053]) (WP (λl=>if l=2 then 2051 else if l=4 then 2050 else if l=6 then 2049 else if l=910506 then 2053 else l)))
  ·refine g8 ?_
   refine a7<|a7<|c4 ?_
   have h:=xL hx41 h
   exact eJ h (Wk.trans (g7 _ [910506]) W)

theorem a43{a0}:PO Tryz.prog 64 [hold_Heap.Pv a0] (Z4 a0) λr=>hold_Heap.Pv r:=by
 refine pO Tryz.func64 λr h _ _=>?_
 refine S4 2 J<|lqS h (λs2=>St.of [(1,.ptr 1 0 0),(2,.ptr 2 0 0)] [(2,vR (.agg [.nl,.I 0,.I 0,.nl,.nl,.nl,.nl,.I 0]) 8),(1,vR (hold_Heap.Pv s2) 8)]) W λs2 x3 h hx3=>S3 1 J<|cF h b3u J J λv4 _ h=>S2 1 J<|b9<|S3 1 J<|nL J Ty.p8<|S2 1 J ?_
 refine cN h (λhc h=>?_) λhc h=>?_
 ·refine S4 2 J ?_
  refine a6 ?_
  have h:=xL hx3 h
  cases h
  exact⟨J,[_],⟨oL J J J Ty.O2 Ty.I6 nl J,tr⟩,J,io⟩
 ·refine a8 ?_
  refine b9<|dr [] Ty.K8 (by kernel_rfl) (by kernel_rfl)<|S7 3 J<|l7 h λv5 hv5 h=>d0 J (p9 (f:=iF) (cs:=[.I v5]) hv5 J J Ty.p8 Ty.s3 J J) J<|S7 1 J<|l7 h λv6 hv6 h=>Q7 J (n0 J y4 J hv6) J<|S7 4 J<|F0 (x':=store_Obj.Pv v6.1) (cl':=true) J J (.inr J) Ty.a4X<|S8 1 J<|S3 1 J<|cA h a3V J J λv7 _ h=>yN ?_
  refine cN h (λhc h=>?_) λhc h=>?_
  ·refine a0p [] Ty.K8 (by kernel_rfl) (by kernel_rfl) ?_
   refine S7 2 J<|d0 J (p9 (f:=iF) (cs:=[.I v5]) hv5 J J Ty.p8 Ty.s3 J J) J<|S7 1 J<|l7 h λv8 hv8 h=>Q7 J (n0 J a4Z J hv8) J<|F0 (x':=hold_Heap.Pv v8) (cl':=true) J J (.inr J) Ty.I6<|F6<|b93 ?_
   exact eS h W
  ·refine a0p [] Ty.K8 (by kernel_rfl) (by kernel_rfl) ?_
   refine S7 2 J<|l7 h λv9 hv9 h=>d0 J (c2O (f:=iF) hv9 J J ⟨_,J⟩ Ty.p8 Ty.s3 (λ_=>J)) J<|l7 h λv10 hv10 h=>Q7 J (n0 J a7o J hv10) J<|F0 (x':=hold_Heap.Pv v10) (cl':=true) J J (.inr J) Ty.I6<|F6<|b93 ?_
   exact eS h W

theorem a9M{a0 a1}:PO Tryz.prog 180 [hold_Heap.Pv a0,.I a1] (a6T a0 a1) λr=>.I r:=by
 refine pO Tryz.func180 λr h _ _=>?_
 refine S4 2 J<|S3 3 J<|cF h y4 J J λv1 _ h=>S2 6 J<|S4 3 J<|a6 ?_
 cases h
 exact f1

theorem a4f{a0 a1}:PO Tryz.prog 107 [hold_Heap.Pv a0,.I a1] (a3h a0 a1) λr=>.I r:=by
 refine pO Tryz.func107 λr h _ _=>?_
 unfold a3h at h
 refine S4 2 J<|dr [] Ty.K8 (by kernel_rfl) (by kernel_rfl)<|S7 3 J<|l7 h λv1 hv1 h=>d2 J (y5 J J6 J hv1) J<|l7 h λv2 hv2 h=>d2 J (y5 J a9M J hv2) J<|S8 1 J<|a6 ?_
 cases h
 exact f1

theorem a9N{a0 a1 a2}:PO Tryz.prog 172 [hold_Heap.Pv a0,hold_Heap.Pv a1,o0.Pv a2] (a0R a0 a1 a2) λr=>.I r:=by
 refine pO Tryz.func172 λr h _ _=>?_
 refine S4 4 J<|b9<|S4 2 J<|b7<|S4 2 J ?_
 refine cN h (λhc h=>?_) λhc h=>?_
 ·refine S3 3 J ?_
  refine cA h a4f J J λv1 _ h=>S2 1 J<|a6 ?_
  cases h
  exact f1
 ·refine jq h (λj3=>St.of [(3,.ptr 3 0 0),(4,.ptr 4 0 0),(5,.ptr 5 0 0),(8,.I a2.Kind),(15,.bool j3)] [(5,vR (o0.Pv a2) 4),(4,vR (hold_Heap.Pv a1) 8),(3,vR (hold_Heap.Pv a0) 8)]) (λj3 h=>?_) λκ2 h=>?_
  ·refine cN h (λhc h=>?_) λhc h=>?_
   ·refine S3 3 J ?_
    refine cA h a4f J J λv4 _ h=>S2 1 J<|a6 ?_
    cases h
    exact f1
   ·refine S4 2 J ?_
    refine cN h (λhc h=>?_) λhc h=>?_
    ·refine b9 ?_
     refine dr [] Ty.K8 (by kernel_rfl) (by kernel_rfl)<|S7 3 J<|l7 h λv5 hv4 h=>d2 J (y5 J J6 J hv4) J<|S7 3 J<|l7 h λv6 hv5 h=>d2 J (y5 J J6 J hv5) J<|S8 1 J ?_
     refine cN h (λhc h=>?_) λhc h=>?_
     ·refine S4 1 J ?_
      refine a6 ?_
      cases h
      exact f1
     ·refine a8 ?_
      refine S4 1 J<|a6 ?_
      cases h
      exact f1
    ·refine a8 ?_
     refine S3 3 J<|cA h a4f J J λv7 _ h=>S2 1 J<|a6 ?_
     cases h
     exact f1
  ·refine S4 2 J ?_
   refine cN h (λhc h=>?_) λhc h=>?_
   ·refine a8 ?_
    exact eJ h W
   ·refine S6 2 J ?_
    exact eJ h W

theorem b35{a0 a1}:PO Tryz.prog 96 [hold_Heap.Pv a0,o0.Pv a1] (a1u a0 a1) λr=>.tup [hold_Heap.Pv r.1,.I r.2.1,.I r.2.2]:=by
 refine pO Tryz.func96 λr h _ _=>?_
 refine S4 5 J<|b9<|S3 1 J<|cA h b3Z J J λv1 _ h=>S2 1 J<|S4 2 J ?_
 refine cN h (λhc h=>?_) λhc h=>?_
 ·refine S4 5 J ?_
  refine a6 ?_
  cases h
  exact⟨J,[_,_,_],⟨oL J J J Ty.O2 Ty.I6 nl J,⟨J,⟨J,tr⟩⟩⟩,J,io⟩
 ·refine a8 ?_
  refine dr [] Ty.K8 (by kernel_rfl) (by kernel_rfl)<|l7 h λv2 hv2 h=>Q7 J (n0 J b0V J hv2) J<|S7 2 J<|d4 J (c8A (es:=v2) (k:=a1.Kind) (E:=fvE) (EK:=iF) (d:=.tup [fvE ((w9 v2 a1.Kind).getD (none:Fv)),.bool ((w9 v2 a1.Kind).isSome)]) J J Ty.a6U (w8 Ty.u3) Ty.d0f J (lk2 _ _ _)) J<|S8 5 J<|b9<|S4 2 J ?_
  refine cN h (λhc h=>?_) λhc h=>?_
  ·refine S4 4 J ?_
   refine a6 ?_
   cases h
   exact⟨J,[_,_,_],⟨oL J J J Ty.O2 Ty.I6 nl J,⟨J,⟨J,tr⟩⟩⟩,J,io⟩
  ·refine a8 ?_
   refine S3 3 J<|y0 J (l6 (cs:=[.L slab_Cell_store_Obj.Pv a0.S.S.Cells,.I a0.S.S.Last,.I a0.S.Serial,.L iF a0.Roots,.L weak_Cell.Pv a0.Cells,.L hash_Place.Pv a0.T,.L task_Task.Pv a0.Q.L,.I a0.Q.Cap,.I a1.Kind,.I a1.A,.I a1.B,.I a1.C]) J Ty.c9N Ty.d0g J J J) ?_
   obtain⟨v3,hv3,h⟩:=a5Y h
   obtain⟨n4,he4,hk5,hp6⟩:=b8E hv3
   refine H2 (c0t 30 J he4)<|yc J (b5R J hk5 J hp6)<|S2 6 J<|b9<|S4 2 J ?_
   refine cN h (λhc h=>?_) λhc h=>?_
   ·refine S4 5 J ?_
    refine a6 ?_
    cases h
    exact⟨J,[_,_,_],⟨oL J J J Ty.O2 Ty.I6 nl J,⟨J,⟨J,tr⟩⟩⟩,J,io⟩
   ·refine a8 ?_
    refine S3 1 J<|cF h a43 J J λv5 _ h=>S2 2 J<|dr [] Ty.K8 (by kernel_rfl) (by kernel_rfl)<|S7 4 J<|l7 h λv6 hv8 h=>d2 J (y5 J a9N J hv8) J<|F0 (x':=hold_Heap.Pv v5) (cl':=true) J J (.inr J) Ty.I6<|S8 2 J<|a6 ?_
    cases h
    exact⟨J,[_,_,_],⟨oL J J J Ty.O2 Ty.I6 nl J,⟨J,⟨J,tr⟩⟩⟩,J,io⟩

theorem b2W{a0 a1}:PO Tryz.prog 39 [hold_Heap.Pv a0,.L o0.Pv a1] (a3K a0 a1) λr=>.tup [hold_Heap.Pv r.1,.L iF r.2]:=by
 refine pO Tryz.func39 λr h _ _=>?_
 refine S4 3 J<|S4 1 J ?_
 refine jq h (λq=>St.of [(2,.ptr 2 0 0),(4,.ptr 4 0 0),(6,.sl 910006)] [(910006,⟨List.map iF q.2,(List.map iF q.2).length,true,1,true⟩),(4,vR (.agg [.nl,.I 0,.I 0,.nl,.nl,.nl,.nl,.I 0]) 8),(2,vR (hold_Heap.Pv q.1) 8)]) (λq13 h=>?_) λκ10 h=>?_
 ·obtain⟨j11,j12⟩:=q13
  refine S4 4 J<|a6 ?_
  cases h
  exact⟨J,[_,_],⟨oL J J J Ty.O2 Ty.I6 nl J,⟨J,tr⟩⟩,J,io⟩
 ·refine S3 1 J ?_
  refine nL J Ty.e74<|S2 1 J<|b7<|lq h (λq=>St.of [(2,.ptr 2 0 0),(4,.ptr 4 0 0),(6,.sl 910006),(10,.L o0.Pv a1),(11,.I (a1.length:Int)),(12,.I q.1)] [(4,vR (.agg [.nl,.I 0,.I 0,.nl,.nl,.nl,.nl,.I 0]) 8),(2,vR (hold_Heap.Pv q.2.1) 8),(910006,⟨List.map iF q.2.2,(List.map iF q.2.2).length,true,1,true⟩)]) (Wk.trans (B2 (t:=6) (l:=920006) (z:=1) J J) (WP (λl=>if l=910006 then 920006 else l))) λq19 x18 h hx10=>?_
  obtain⟨s15,s16,s17⟩:=q19
  refine S4 1 J<|b9 ?_
  refine cN h (λhc h=>?_) λhc h=>?_
  ·refine a8 ?_
   refine b9<|b7<|sR<|iL h J J Ty.e74 Ty.s73 λv20 _ h=>S2 3 J<|S4 1 J<|S3 2 J<|cF h b35 J J λv21 _ h=>S2 6 J<|S5 2 J<|y0 J (F1 (f:=iF) (l:=[v21.2.1]) J Ty.p8 Ty.s3 Ty.z3 J J nl J J)<|l7 h λv22 hv13 h=>D7 J (B6 (f:=iF) hv13 J J J J J J (.inl ⟨_,J,J⟩) Ty.p8 Ty.s3 Ty.b3 Ty.z3 J (λ_=>J)) J J J<|S2 1 J<|S6 2 J ?_
   exact eL h (Wk.trans (g7 _ [26]) (WP (λl=>if l=910006 then 26 else l)))
  ·refine g8 ?_
   refine a7<|a7<|c4 ?_
   have h:=xL hx10 h
   exact eJ h (Wk.trans (g7 _ [910006]) W)

theorem b1F{a0}:PO Tryz.prog 59 [.I a0] (a7v a0) λr=>hold_Heap.Pv r:=by
 refine pO Tryz.func59 λr h _ _=>?_
 refine S4 1 J<|sR<|cF h b69 J J λv1 _ h=>S1 1 J<|y0 J (l6 (cs:=[.I 1,.I 0,.I 1,.I a0]) J Ty.p73 Ty.z73 J J J)<|y0 J (l6 (cs:=[.I 1,.I 1,.I 1,.I (-1)]) J Ty.p73 Ty.z73 J J J)<|y0 J (l6 (cs:=[.I 5,.I 0,.I 0,.I 1]) J Ty.p73 Ty.z73 J J J)<|y0 J (l6 (cs:=[.I 5,.I 1,.I 0,.I 0]) J Ty.p73 Ty.z73 J J J)<|y0 J (l6 (cs:=[.I 6,.I 0,.I 0,.I 1]) J Ty.p73 Ty.z73 J J J)<|y0 J (l6 (cs:=[.I 3,.I 0,.I 0,.I 0]) J Ty.p73 Ty.z73 J J J)<|y0 J (l6 (cs:=[.I 3,.I 1,.I 0,.I 0]) J Ty.p73 Ty.z73 J J J)<|y0 J (F1 (f:=o0.Pv) (l:=[(⟨1,0,1,a0⟩:o0),(⟨1,1,1,(-1)⟩:o0),(⟨5,0,0,1⟩:o0),(⟨5,1,0,0⟩:o0),(⟨6,0,0,1⟩:o0),(⟨3,0,0,0⟩:o0),(⟨3,1,0,0⟩:o0)]) J Ty.e74 Ty.s73 Ty.z73 J J nl J J)<|cF h b2W J J λv2 _ h=>S2 6 J<|S4 2 J<|a6 ?_
 cases h
 exact⟨J,[_],⟨oL J J J Ty.O2 Ty.I6 nl J,tr⟩,J,io⟩

theorem b4g{a0}:PO Tryz.prog 384 [store_Store.Pv a0] (a5L a0) λr=>.fn (.func 396) [.rptr (store_Store.Pc r)]:=by
 refine pO Tryz.func384 λr h _ _=>?_
 unfold a5L at h
 refine S4 2 J<|S4 2 J<|a6 ?_
 cases h
 exact f1

theorem b1B{a0 a1}:PO Tryz.prog 361 [store_Store.Pv a0,.I a1] (a4T a0 a1) λr=>.L iF r:=by
 refine pO Tryz.func361 λr h _ _=>?_
 refine S4 2 J<|S3 2 J<|cF h y4 J J λv1 _ h=>S2 6 J<|S3 2 J<|cF h b0v J J λv2 _ h=>S2 1 J<|a6 ?_
 cases h
 exact f1

theorem b86{a0 a1}:PO Tryz.prog 348 [store_Store.Pv a0,.I a1] (b2g a0 a1) λr=>.I r:=by
 refine pO Tryz.func348 λr h _ _=>?_
 refine S4 3 J<|S4 2 J ?_
 refine jq h (λj31=>St.of [(5,.ptr 2001 0 0)] [(2001,vR (.I j31) 1)]) (λj31 h=>?_) λκ30 h=>?_
 ·refine S4 2 J ?_
  refine a6 ?_
  cases h
  exact f1
 ·refine S3 1 J ?_
  refine cF h b4g J J λv32 _ h=>yN<|b7<|a1h (WPE (λl=>if l=2003 then 5 else if l=2004 then 3 else l) [(3,.ptr 2004 0 0),(5,.ptr 2003 0 0),(9,.fn (.func 396) [.rptr (store_Store.Pc v32)])] [(2003,vR (.I 0) 1),(2004,vR (.I a1) 1)]) ?_
  refine Z1 (fn:=Tryz.f396) (N1:=29) J Tryz.func396 J J nl J Ty.c9F J J (λl33 e34 o35 hR36=>?_)
  refine b7v<|b9<|b7u<|S3 1 J<|cF h F3 J J λv33 _ h=>nL J Ty.p8<|S2 1 J<|b7<|lq h (λq=>St.of [(1000003,.ptr 2004 0 0),(1000005,.ptr 2003 0 0),(1000009,.fn (.func 396) [.rptr (store_Store.Pc v32)]),(0,.fn (.yield l33) []),(1,.rptr (store_Store.Pc v32)),(8,.L iF v33),(9,.I (v33.length:Int)),(10,.I q.1)] [(2003,vR (.I q.2) 1),(2004,vR (.I a1) 1)]) W λq38 x37 h hx40=>?_
  obtain⟨s35,s36⟩:=q38
  refine S4 1 J<|b9 ?_
  refine cN h (λhc h=>?_) λhc h=>?_
  ·refine a8 ?_
   refine jq h (λj50=>St.of [(1000003,.ptr 2004 0 0),(1000005,.ptr 2003 0 0),(1000009,.fn (.func 396) [.rptr (store_Store.Pc v32)]),(0,.fn (.yield l33) []),(1,.rptr (store_Store.Pc v32)),(8,.L iF v33),(9,.I (v33.length:Int)),(10,.I s35)] [(2003,vR (.I j50) 1),(2004,vR (.I a1) 1)]) (λj50 h=>?_) λκ49 h=>?_
   ·refine S6 2 J ?_
    exact eL h W
   ·refine b7 ?_
    refine sR<|iL h J J Ty.p8 Ty.s3 λv51 _ h=>S2 2 J<|S3 2 J<|cF h b1B J J λv52 _ h=>nL J Ty.p8<|S2 1 J<|b7<|lq h (λq=>St.of [(1000003,.ptr 2004 0 0),(1000005,.ptr 2003 0 0),(1000009,.fn (.func 396) [.rptr (store_Store.Pc v32)]),(0,.fn (.yield l33) []),(1,.rptr (store_Store.Pc v32)),(4,.I v51),(8,.L iF v33),(9,.I (v33.length:Int)),(10,.I s35),(16,.L iF v52),(17,.I (v52.length:Int)),(18,.I q.1)] [(2003,vR (.I q.2) 1),(2004,vR (.I a1) 1)]) W λq57 x56 h hx56=>?_
    obtain⟨s54,s55⟩:=q57
    refine S4 1 J<|b9 ?_
    refine cN h (λhc h=>?_) λhc h=>?_
    ·refine a8 ?_
     refine b9<|b7<|sR<|iL h J J Ty.p8 Ty.s3 λv58 _ h=>S2 2 J<|S3 3 J<|H2 (WE [(1000003,.ptr 2004 0 0),(1000005,.ptr 2003 0 0),(1000009,.fn (.func 396) [.rptr (store_Store.Pc v32)]),(0,.fn (.yield l33) []),(1,.rptr (store_Store.Pc v32)),(4,.I v51),(8,.L iF v33),(9,.I (v33.length:Int)),(10,.I s35),(16,.L iF v52),(17,.I (v52.length:Int)),(18,.I s54),(22,.fn (.yield l33) []),(23,.I v51),(24,.I v58)] [(2003,vR (.I s55) 1),(2004,vR (.I a1) 1)]) ?_
     refine a33 hR36 J J J J J J (λe58 o59 o60=>?_)
     refine S6 1 J ?_
     refine⟨J,?_⟩
     refine jqE h (λj60=>St.of [(2000003,.ptr 2004 0 0),(2000005,.ptr 2003 0 0),(2000009,.fn (.func 396) [.rptr (store_Store.Pc v32)]),(1000000,.fn (.yield l33) []),(1000001,.rptr (store_Store.Pc v32)),(1000004,.I v51),(1000008,.L iF v33),(1000009,.I (v33.length:Int)),(1000010,.I s35),(1000016,.L iF v52),(1000017,.I (v52.length:Int)),(1000018,.I s54),(1000022,.fn (.yield l33) []),(1000023,.I v51),(1000024,.I v58)] [(2003,vR (.I j60) 1),(2004,vR (.I a1) 1)]) (λj60 h=>?_) λκ59 h=>?_
     ·refine⟨J,?_⟩
      refine H2 (WE [(1000003,.ptr 2004 0 0),(1000005,.ptr 2003 0 0),(1000009,.fn (.func 396) [.rptr (store_Store.Pc v32)]),(0,.fn (.yield l33) []),(1,.rptr (store_Store.Pc v32)),(4,.I v51),(8,.L iF v33),(9,.I (v33.length:Int)),(10,.I s35),(16,.L iF v52),(17,.I (v52.length:Int)),(18,.I s54),(25,.bool true)] [(2003,vR (.I j60) 1),(2004,vR (.I a1) 1)])<|S2 1 J ?_
      refine E5 false J (λq=>nomatch q) (λ_=>?_)
      refine a8<|S6 2 J ?_
      exact eL h W
     ·refine b7 ?_
      refine S4 3 J ?_
      refine cN h (λhc h=>?_) λhc h=>?_
      ·refine S6 3 J ?_
       exact eJ h W
      ·refine a8 ?_
       exact eJ h W
    ·refine g8 ?_
     refine a7<|a7<|c4 ?_
     have h:=xL hx56 h
     exact eJ h W
  ·refine g8 ?_
   refine a7<|a7<|c4<|b4j ?_
   refine .inl ⟨J,?_⟩
   have h:=xL hx40 h
   exact eJ h (WP (λl=>if l=2001 then 2003 else l))

theorem a6B{a0}:PO Tryz.prog 275 [.L hash_Place.Pv a0] (a0t a0) λr=>.fn (.func 344) [.rptr [.L hash_Place.Pv r]]:=by
 refine pO Tryz.func275 λr h _ _=>?_
 unfold a0t at h
 refine S4 2 J<|S4 2 J<|a6 ?_
 cases h
 exact f1

theorem a9z{a0}:PO Tryz.prog 345 [.L hash_Place.Pv a0] (a4s a0) λr=>.L iF r:=by
 refine pO Tryz.func345 λr h _ _=>?_
 refine S4 1 J<|S4 1 J ?_
 refine jq h (λj13=>St.of [(3,.sl 910003)] [(910003,⟨List.map iF j13,(List.map iF j13).length,true,1,true⟩)]) (λj13 h=>?_) λκ12 h=>?_
 ·refine S4 2 J ?_
  refine a6 ?_
  cases h
  exact f1
 ·refine S3 1 J ?_
  refine nL J Ty.e29<|S2 1 J<|b7<|lq h (λq=>St.of [(3,.sl 910003),(6,.L hash_Place.Pv a0),(7,.I (a0.length:Int)),(8,.I q.1)] [(910003,⟨List.map iF q.2,(List.map iF q.2).length,true,1,true⟩)]) (Wk.trans (B2 (t:=3) (l:=920003) (z:=1) J J) (WP (λl=>if l=910003 then 920003 else l))) λq18 x17 h hx12=>?_
  obtain⟨s15,s16⟩:=q18
  refine S4 1 J<|b9 ?_
  refine cN h (λhc h=>?_) λhc h=>?_
  ·refine a8 ?_
   refine jq h (λj22=>St.of [(3,.sl 19),(6,.L hash_Place.Pv a0),(7,.I (a0.length:Int)),(8,.I s15)] [(19,⟨List.map iF j22,(List.map iF j22).length,true,1,true⟩)]) (λj22 h=>?_) λκ21 h=>?_
   ·refine S6 2 J ?_
    exact eL h (Wk.trans (g7 _ [19]) (WP (λl=>if l=910003 then 19 else l)))
   ·refine b7 ?_
    refine sR<|iL h J J Ty.e29 Ty.a83 λv23 _ h=>S2 3 J<|S4 3 J ?_
    refine cN h (λhc h=>?_) λhc h=>?_
    ·refine S5 3 J ?_
     refine y0 J (F1 (f:=iF) (l:=[v23.Key]) J Ty.p8 Ty.s3 Ty.z3 J J nl J J)<|l7 h λv24 hv17 h=>D7 J (B6 (f:=iF) hv17 J J J J J J (.inl ⟨_,J,J⟩) Ty.p8 Ty.s3 Ty.b3 Ty.z3 J (λ_=>J)) J J J<|S2 1 J ?_
     exact eJ h (Wk.trans (g7 _ [19]) W)
    ·refine a8 ?_
     exact eJ h (Wk.trans (g7 _ [910003]) (WP (λl=>if l=19 then 910003 else l)))
  ·refine g8 ?_
   refine a7<|a7<|c4 ?_
   have h:=xL hx12 h
   exact eJ h (Wk.trans (g7 _ [910003]) W)

theorem b0I{a0 a1}:PO Tryz.prog 385 [j5.Pv a0,.rptr [.I a1]] (a1M a0 a1) λr=>.bool r:=by
 refine pO Tryz.func385 λr h _ _=>?_
 unfold a1M at h
 refine S4 2 J<|S3 3 J<|b8 J (λhg=>oF J Ty.b8z J)<|b8 J (λhg=>oS (ct hg) J J Ty.a3 J)<|b8 J (λhg=>B1 J Ty.a3 J)<|b8 J (λhg=>j8 (ct hg) (ct hg) J)<|y0 J (k7 J J J (λq=>H0 q))<|S2 1 J<|a6 ?_
 cases h
 exact f1

theorem H3{a0 a1}:PO Tryz.prog 274 [.fn (.func 344) [.rptr [.L hash_Place.Pv a0]],.fn (.func 385) [.rptr [.I a1]]] (y7 a0 a1) λr=>.L j5.Pv r:=by
 refine pO Tryz.func274 λr h _ _=>?_
 refine S4 2 J<|S4 1 J ?_
 refine jq h (λj16=>St.of [(5,.ptr 2001 0 0)] [(2001,vS (.sl 912501) 1),(912501,⟨List.map j5.Pv j16,(List.map j5.Pv j16).length,true,2,true⟩)]) (λj16 h=>?_) λκ15 h=>?_
 ·refine S4 2 J ?_
  refine a6 ?_
  cases h
  exact f1
 ·refine S4 1 J ?_
  refine b7<|a1h (WPE (λl=>if l=2012 then 5 else if l=2013 then 3 else l) [(3,.ptr 2013 0 0),(5,.ptr 2012 0 0),(7,.fn (.func 344) [.rptr [.L hash_Place.Pv a0]])] [(2012,vR (.nl) 1),(2013,vR (.fn (.func 385) [.rptr [.I a1]]) 1)]) ?_
  refine Z1 (fn:=Tryz.f344) (N1:=27) J Tryz.func344 J J nl J Ty.c8p J J (λl20 e21 o22 hR23=>?_)
  refine S3 1 J<|cF h a9z J J λv17 _ h=>nL J Ty.p8<|S2 1 J<|b7<|lq h (λq=>St.of [(1000003,.ptr 2013 0 0),(1000005,.ptr 2012 0 0),(1000007,.fn (.func 344) [.rptr [.L hash_Place.Pv a0]]),(0,.fn (.yield l20) []),(1,.rptr [.L hash_Place.Pv a0]),(8,.L iF v17),(9,.I (v17.length:Int)),(10,.I q.1)] [(2012,vS (.sl 912512) 1),(2013,vR (.fn (.func 385) [.rptr [.I a1]]) 1),(912512,⟨List.map j5.Pv q.2,(List.map j5.Pv q.2).length,true,2,true⟩)]) (Wk.trans (a78 (l0:=2012) (j:=0) (l:=922512) (z:=2) J J J J J) (WP (λl=>if l=912512 then 922512 else l))) λq22 x21 h hx27=>?_
  obtain⟨s19,s20⟩:=q22
  refine S4 1 J<|b9 ?_
  refine cN h (λhc h=>?_) λhc h=>?_
  ·refine a8 ?_
   refine b9<|b7<|sR<|iL h J J Ty.p8 Ty.s3 λv23 _ h=>S2 2 J<|S3 2 J<|cA h a3F J J λv24 _ h=>S2 5 J<|S3 3 J<|y0 J (l6 (cs:=[.I v23,.I v24.1]) J Ty.c8F Ty.c1B J J J)<|H2 (WPE (λl=>if l=2021 then 912512 else l) [(1000003,.ptr 2013 0 0),(1000005,.ptr 2012 0 0),(1000007,.fn (.func 344) [.rptr [.L hash_Place.Pv a0]]),(0,.fn (.yield l20) []),(1,.rptr [.L hash_Place.Pv a0]),(8,.L iF v17),(9,.I (v17.length:Int)),(10,.I s19),(20,.fn (.yield l20) []),(23,.agg [.I v23,.I v24.1])] [(2012,vS (.sl 2021) 1),(2021,⟨List.map j5.Pv s20,(List.map j5.Pv s20).length,true,2,true⟩),(2013,vR (.fn (.func 385) [.rptr [.I a1]]) 1)]) ?_
   refine a33 hR23 J J J J J J (λe30 o31 o32=>?_)
   refine S6 2 J ?_
   refine⟨J,?_⟩
   refine jqE h (λj28=>St.of [(2000003,.ptr 2013 0 0),(2000005,.ptr 2012 0 0),(2000007,.fn (.func 344) [.rptr [.L hash_Place.Pv a0]]),(1000000,.fn (.yield l20) []),(1000001,.rptr [.L hash_Place.Pv a0]),(1000008,.L iF v17),(1000009,.I (v17.length:Int)),(1000010,.I s19),(1000020,.fn (.yield l20) []),(1000023,.agg [.I v23,.I v24.1])] [(2012,vS (.sl 15) 1),(15,⟨List.map j5.Pv j28,(List.map j5.Pv j28).length,true,2,true⟩),(2013,vR (.fn (.func 385) [.rptr [.I a1]]) 1)]) (λj28 h=>?_) λκ27 h=>?_
   ·refine⟨J,?_⟩
    refine H2 (WPE (λl=>if l=2022 then 15 else l) [(1000003,.ptr 2013 0 0),(1000005,.ptr 2012 0 0),(1000007,.fn (.func 344) [.rptr [.L hash_Place.Pv a0]]),(0,.fn (.yield l20) []),(1,.rptr [.L hash_Place.Pv a0]),(8,.L iF v17),(9,.I (v17.length:Int)),(10,.I s19),(24,.bool true)] [(2012,vS (.sl 2022) 1),(2022,⟨List.map j5.Pv j28,(List.map j5.Pv j28).length,true,2,true⟩),(2013,vR (.fn (.func 385) [.rptr [.I a1]]) 1)])<|S2 1 J ?_
    refine E5 false J (λq=>nomatch q) (λ_=>?_)
    refine a8<|S6 2 J ?_
    exact eL h (Wk.trans (g7 _ [2022]) (WP (λl=>if l=912512 then 2022 else l)))
   ·refine b7 ?_
    refine S3 2 J<|cA h b0I J J λv29 _ h=>yN ?_
    refine cN h (λhc h=>?_) λhc h=>?_
    ·refine S5 2 J ?_
     refine y0 J (F1 (f:=j5.Pv) (l:=[(⟨v23,v24.1⟩:j5)]) J Ty.b5x Ty.c1n Ty.c1B J J nl J J)<|l7 h λv30 hv37 h=>D7 J (B6 (f:=j5.Pv) hv37 J J J J J J (.inl ⟨_,J,J⟩) Ty.b5x Ty.c1n Ty.c79 Ty.c1B J (λ_=>J)) J J J<|S2 1 J ?_
     exact eJ h (Wk.trans (g7 _ [15]) W)
    ·refine a8 ?_
     exact eJ h (Wk.trans (g7 _ [2021]) (WP (λl=>if l=15 then 2021 else l)))
  ·refine g8 ?_
   refine a7<|a7<|c4 ?_
   refine .inl ⟨J,?_⟩
   have h:=xL hx27 h
   exact eJ h (Wk.trans (g7 _ [912512]) (WP (λl=>if l=2001 then 2012 else if l=912501 then 912512 else l)))

theorem b2y{a0 a1}:PO Tryz.prog 349 [.L hash_Place.Pv a0,.I a1] (a3E a0 a1) λr=>.I r:=by
 refine pO Tryz.func349 λr h _ _=>?_
 refine S4 2 J<|S3 1 J<|cF h a6B J J λv1 _ h=>S1 1 J<|l7 h λv2 hv2 h=>ycL J (n0 J H3 J hv2) J<|nL J Ty.b5x<|S2 1 J<|a6 ?_
 cases h
 exact f1

theorem b3G{a0 a1 a2}:PO Tryz.prog 282 [store_Store.Pv a0,.L hash_Place.Pv a1,.I a2] (a3Z a0 a1 a2) λr=>.I r:=by
 refine pO Tryz.func282 λr h _ _=>?_
 refine S4 2 J<|S3 2 J<|cA h b86 J J λv1 _ h=>S1 2 J<|cA h b2y J J λv2 _ h=>S2 2 J<|a6 ?_
 cases h
 exact f1

theorem a8E{a0 a1 a2}:PO Tryz.prog 212 [store_Store.Pv a0,.L hash_Place.Pv a1,.I a2] (a3w a0 a1 a2) λr=>.I r:=by
 refine pO Tryz.func212 λr h _ _=>?_
 refine S4 2 J<|S3 2 J<|cF h y4 J J λv1 _ h=>S2 6 J<|b9<|S4 2 J ?_
 refine cN h (λhc h=>?_) λhc h=>?_
 ·refine S4 1 J ?_
  refine a6 ?_
  cases h
  exact f1
 ·refine a8 ?_
  refine dr [] Ty.K8 (by kernel_rfl) (by kernel_rfl)<|S7 5 J<|l7 h λv2 hv2 h=>d2 J (y5 J b3G J hv2) J<|S8 2 J<|a6 ?_
  cases h
  exact f1

theorem a6u{a0}:PO Tryz.prog 211 [.I a0] (a1X a0) λr=>.bool r:=by
 refine pO Tryz.func211 λr h _ _=>?_
 refine S4 1 J<|S3 1 J<|cA h U1 J J λv1 _ h=>S2 1 J<|a6 ?_
 cases h
 exact f1

theorem b1Z{a0 a1 a2 a3}:PO Tryz.prog 232 [.I a0,store_Obj.Pv a1,.rptr (store_Store.Pc a2),.rptr [.L hash_Place.Pv a3]] (a5W a0 a1 a2 a3) λr=>.bool r:=by
 refine pO Tryz.func232 λr h _ _=>?_
 refine S4 2 J<|S3 3 J<|cA h a8E J J λv1 _ h=>S1 2 J<|b8 J (λhg=>oF J Ty.b8t J)<|b8 J (λhg=>oS (ct hg) J J Ty.a3 J)<|l7 h λv2 hv2 h=>b8 J (λhg=>y5 J a6u (o8 (ct hg) J) (u9 hv2 hg))<|y0 J (n8 J J J (λq=>H5 q))<|S2 1 J<|a6 ?_
 cases h
 exact f1

theorem b4o{a0 a1}:PO Tryz.prog 149 [store_Store.Pv a0,.L hash_Place.Pv a1] (a5V a0 a1) λr=>.L iF r:=by
 refine pO Tryz.func149 λr h _ _=>?_
 refine S4 3 J<|S3 1 J<|y0 J (l6 (cs:=[.fn (.func 232) [.ptr 2 0 0,.ptr 3 0 0]]) J Ty.c8G Ty.c87 J J J)<|H2 (a2h 7 (d':=.agg [.fn (.func 232) [.ptr 2 0 0,.ptr 3 0 0]]) J)<|S2 2 J<|S3 2 J<|H2 (WPE (λl=>if l=2001 then 3 else if l=2002 then 2 else l) [(8,.agg [.fn (.func 232) [.ptr 2002 0 0,.ptr 2001 0 0]]),(9,store_Store.Pv a0)] [(2001,vR (.L hash_Place.Pv a1) 1),(2002,vR (store_Store.Pv a0) 3)]) ?_
 refine b1I (fn:=Tryz.f214) (N1:=34) J J Tryz.func214 J Ty.c8n J J nl (λe1 o2=>?_)
 refine jqR h (λj36=>St.of [(1000008,.agg [.fn (.func 232) [.ptr 2002 0 0,.ptr 2001 0 0]]),(1000009,store_Store.Pv a0),(4,.sl 910005)] [(910005,⟨List.map iF j36,(List.map iF j36).length,true,1,true⟩),(2001,vR (.L hash_Place.Pv a1) 1),(2002,vR (store_Store.Pv a0) 3)]) (λj36 h=>dup ?_) λκ35 h=>?_
 ·refine⟨J,[.sl 910005],⟨J,tr⟩,?_⟩
  refine H2 (WPE (λl=>if l=2003 then 910005 else l) [(10,.sl 2003)] [(2003,⟨List.map iF j36,(List.map iF j36).length,true,1,true⟩)])<|S2 1 J<|a6 ?_
  cases h
  exact f1
 ·refine S4 3 J ?_
  refine S4 1 J ?_
  refine jq h (λj54=>St.of [(1000008,.agg [.fn (.func 232) [.ptr 2002 0 0,.ptr 2001 0 0]]),(1000009,store_Store.Pv a0),(5,.sl 910005)] [(910005,⟨List.map iF j54,(List.map iF j54).length,true,1,true⟩),(2001,vR (.L hash_Place.Pv a1) 1),(2002,vR (store_Store.Pv a0) 3)]) (λj54 h=>?_) λκ53 h=>?_
  ·refine S4 2 J ?_
   refine a6 ?_
   exact eJ h (Wk.trans (g7 _ [910005]) W)
  ·refine S3 1 J ?_
   refine cF h F3 J J λv55 _ h=>nL J Ty.p8<|S2 1 J<|b7<|lq h (λq=>St.of [(1000008,.agg [.fn (.func 232) [.ptr 2002 0 0,.ptr 2001 0 0]]),(1000009,store_Store.Pv a0),(2,.ptr 2 0 0),(3,.ptr 3 0 0),(5,.sl 910005),(11,.L iF v55),(12,.I (v55.length:Int)),(13,.I q.1)] [(3,vR (store_Store.Pv a0) 3),(2,vS (.agg [.fn (.func 232) [.ptr 2002 0 0,.ptr 2001 0 0]]) 1),(2001,vR (.L hash_Place.Pv a1) 1),(2002,vR (store_Store.Pv a0) 3),(910005,⟨List.map iF q.2,(List.map iF q.2).length,true,1,true⟩)]) (Wk.trans (B2 (t:=5) (l:=920005) (z:=1) J J) (WP (λl=>if l=910005 then 920005 else l))) λq60 x59 h hx48=>?_
   obtain⟨s57,s58⟩:=q60
   refine S4 1 J<|b9 ?_
   refine cN h (λhc h=>?_) λhc h=>?_
   ·refine a8 ?_
    refine jq h (λj66=>St.of [(1000008,.agg [.fn (.func 232) [.ptr 2002 0 0,.ptr 2001 0 0]]),(1000009,store_Store.Pv a0),(2,.ptr 2 0 0),(3,.ptr 3 0 0),(5,.sl 31),(11,.L iF v55),(12,.I (v55.length:Int)),(13,.I s57)] [(31,⟨List.map iF j66,(List.map iF j66).length,true,1,true⟩),(3,vR (store_Store.Pv a0) 3),(2,vS (.agg [.fn (.func 232) [.ptr 2002 0 0,.ptr 2001 0 0]]) 1),(2001,vR (.L hash_Place.Pv a1) 1),(2002,vR (store_Store.Pv a0) 3)]) (λj66 h=>?_) λκ65 h=>?_
    ·refine S6 2 J ?_
     exact eL h (Wk.trans (g7 _ [31]) (WP (λl=>if l=910005 then 31 else l)))
    ·refine b7 ?_
     refine sR<|iL h J J Ty.p8 Ty.s3 λv67 _ h=>S2 2 J<|S3 2 J<|cF h y4 J J λv68 _ h=>S2 6 J<|S3 4 J<|cA h b1Z J J λv69 _ h=>yN ?_
     refine cN h (λhc h=>?_) λhc h=>?_
     ·refine S5 2 J ?_
      refine y0 J (F1 (f:=iF) (l:=[v67]) J Ty.p8 Ty.s3 Ty.z3 J J nl J J)<|l7 h λv70 hv57 h=>D7 J (B6 (f:=iF) hv57 J J J J J J (.inl ⟨_,J,J⟩) Ty.p8 Ty.s3 Ty.b3 Ty.z3 J (λ_=>J)) J J J<|S2 1 J ?_
      exact eJ h (Wk.trans (g7 _ [31]) W)
     ·refine a8 ?_
      exact eJ h (Wk.trans (g7 _ [910005]) (WP (λl=>if l=31 then 910005 else l)))
   ·refine g8 ?_
    refine a7<|a7<|c4 ?_
    have h:=xL hx48 h
    exact eJ h (Wk.trans (g7 _ [910005]) W)

theorem b03{a0}:PO Tryz.prog 355 [.I a0] (a1T a0) λr=>g5.Pv r:=by
 refine pO Tryz.func355 λr h _ _=>?_
 unfold a1T at h
 refine S4 1 J<|S3 1 J<|y0 J (l6 (cs:=[.nl,.I a0]) J Ty.c9P Ty.d0j J J J)<|a6f (x':=.agg [.nl,.I a0]) (cl':=true) J J (.inl J) Ty.b7W<|yN<|a6 ?_
 cases h
 exact⟨J,[_],⟨oL J J J Ty.c0y Ty.b7W nl J,tr⟩,J,io⟩

theorem a59{a0 a1}:PO Tryz.prog 357 [store_Store.Pv a0,.I a1] (X0 a0 a1) λr=>.bool r:=by
 refine pO Tryz.func357 λr h _ _=>?_
 refine S4 2 J<|S3 2 J<|cF h y4 J J λv1 _ h=>S2 6 J<|S4 3 J<|a6 ?_
 cases h
 exact f1

theorem P5{a0}:PO Tryz.prog 359 [g5.Pv a0] (I1 a0) λr=>.I r:=by
 refine pO Tryz.func359 λr h _ _=>?_
 unfold I1 at h
 refine S4 2 J<|S3 2 J<|nL J Ty.p8<|S2 1 J<|a6 ?_
 cases h
 exact f1

theorem a0X{a0 a1 a2}:PO Tryz.prog 386 [.L iF a0,.I a1,.I a2] (L0 a0 a1 a2) λr=>.I4 true (List.map iF r):=by
 refine pO Tryz.func386 λr h _ _=>?_
 unfold L0 at h
 refine S4 1 J<|S3 4 J<|l7 h λv1 hv1 h=>y0 J (c2P (f:=iF) hv1 J ⟨_,J⟩ ⟨_,J⟩ ⟨_,J⟩ J J Ty.p8 Ty.s3 (λ_=>J))<|S2 1 J<|a6 ?_
 cases h
 exact f1

theorem a3S{a0 a1}:PO Tryz.prog 358 [g5.Pv a0,.I a1] (K9 a0 a1) λr=>.tup [g5.Pv r.1,.I r.2]:=by
 refine pO Tryz.func358 λr h _ _=>?_
 unfold K9 at h
 refine S4 3 J<|b9<|dr [] Ty.K8 (by kernel_rfl) (by kernel_rfl)<|S7 1 J<|l7 h λv1 hv1 h=>d2 J (y5 J P5 J hv1) J<|S8 3 J ?_
 refine cN h (λhc h=>?_) λhc h=>?_
 ·refine S4 3 J ?_
  refine a6 ?_
  cases h
  exact⟨J,[_,_],⟨oL J J J Ty.c0y Ty.b7W nl J,⟨J,tr⟩⟩,J,io⟩
 ·refine a8 ?_
  refine dr [] Ty.K8 (by kernel_rfl) (by kernel_rfl)<|S7 3 J<|d2 J (y5 J P5 J hv1) J<|l7 h λv2 hv2 h=>Q7 J (n0 J a0X J hv2) J<|S7 1 J<|d1n J (F1 (f:=iF) (l:=[a1]) J Ty.p8 Ty.s3 Ty.z3 J J nl J J) J<|l7 h λv3 hv3 h=>d3 J (a4C (f:=iF) hv3 J J (.inl ⟨_,J,J⟩) Ty.p8 Ty.s3 Ty.b3 Ty.z3 J (λ_=>J)) J J J<|S7 1 J<|F0 (x':=.agg [.sl 19,.I a0.Cap]) (cl':=false) J J (.inl J) Ty.s27<|F6<|S4 3 J<|a6 ?_
  cases h
  exact⟨J,[_,_],⟨oL J J J Ty.c0y Ty.b7W nl J,⟨J,tr⟩⟩,J,io⟩

theorem a8X{a0 a1}:PO Tryz.prog 387 [g5.Pv a0,.I a1] (a2q a0 a1) λr=>.tup [g5.Pv r.1,.L iF r.2]:=by
 refine pO Tryz.func387 λr h _ _=>?_
 refine S4 3 J<|S3 2 J<|cA h P5 J J λv1 hv1 h=>y0 J (c8B J J J)<|y0 J (c5Z J J J)<|S2 1 J<|S3 3 J<|cF h a0X J J λv2 _ h=>S2 1 J<|dr [] Ty.K8 (by kernel_rfl) (by kernel_rfl)<|S7 4 J<|d2 J (y5 J P5 J hv1) J<|l7 h λv3 hv3 h=>Q7 J (n0 J a0X J hv3) J<|S7 1 J<|F0 (x':=.agg [.L iF v3,.I a0.Cap]) (cl':=true) J J (.inr J) Ty.s27<|F6<|S4 4 J<|a6 ?_
 cases h
 exact⟨J,[_,_],⟨oL J J J Ty.c0y Ty.b7W nl J,⟨J,tr⟩⟩,J,io⟩

theorem b04{a0}:PO Tryz.prog 360 [g5.Pv a0] (Z2 a0) λr=>.tup [g5.Pv r.1,.I r.2.1,.I r.2.2]:=by
 refine pO Tryz.func360 λr h _ _=>?_
 refine S4 4 J<|S3 1 J<|cF h a8X J J λv1 _ h=>S2 6 J<|b9<|S3 1 J<|nL J Ty.p8<|S2 1 J ?_
 refine cN h (λhc h=>?_) λhc h=>?_
 ·refine S4 1 J ?_
  refine S4 5 J<|a6 ?_
  cases h
  exact⟨J,[_,_,_],⟨oL J J J Ty.c0y Ty.b7W nl J,⟨J,⟨J,tr⟩⟩⟩,J,io⟩
 ·refine a8 ?_
  refine dr [2,3] Ty.K8 (by kernel_rfl) (by kernel_rfl)<|S7 2 J<|l7 h λv2 hv2 h=>d7 J (λ_ hN=>p9 (f:=iF) (cs:=[.I v2]) hv2 J J Ty.p8 Ty.s3 J J) J<|d7 J (λ_ hN=>B1 J Ty.a3 J) J<|F0 (x':=g5.Pv v1.1) (cl':=true) J J (.inr J) Ty.b7W<|S8 2 J<|a6 ?_
  cases h
  exact⟨J,[_,_,_],⟨oL J J J Ty.c0y Ty.b7W nl J,⟨J,⟨J,tr⟩⟩⟩,J,io⟩

theorem a6a{a0 a1}:PO Tryz.prog 298 [store_Store.Pv a0,.L iF a1] (a00 a0 a1) λr=>.abs (R3 (List.map (ent iF PV.bool) r)):=by
 refine pO Tryz.func298 λr h _ _=>?_
 refine S4 2 J<|sR<|b3O (KT:=Int) (VT:=Bool) (EK:=iF) (E:=PV.bool) 5000009 J J<|S2 2 J<|S3 1 J<|cF h F3 J J λv1 _ h=>nL J Ty.p8<|cF h b03 J J λv2 _ h=>S2 2 J<|S4 2 J<|S3 2 J<|H2 (WPE (λl=>if l=2001 then 6 else if l=2002 then 5 else if l=2003 then 2 else if l=5002004 then 5000009 else l) [(2,.ptr 2003 0 0),(5,.ptr 2002 0 0),(6,.ptr 2001 0 0),(7,.fn (.func 356) [.ptr 2003 0 0,.ptr 2002 0 0,.ptr 2001 0 0]),(15,.fn (.func 356) [.ptr 2003 0 0,.ptr 2002 0 0,.ptr 2001 0 0]),(16,.L iF a1)] [(2001,vR (g5.Pv v2) 2),(2002,vS (.mp 5002004) 1),(5002004,⟨[.mapc (List.map (ent iF PV.bool) [])],0,false,0,false⟩),(2003,vR (store_Store.Pv a0) 3)]) ?_
 refine b1I (fn:=Tryz.f356) (N1:=31) J J Tryz.func356 J Ty.c8r J J nl (λe3 o4=>?_)
 refine jqR h (λq=>St.of [(1000002,.ptr 2003 0 0),(1000005,.ptr 2002 0 0),(1000006,.ptr 2001 0 0),(1000007,.fn (.func 356) [.ptr 2003 0 0,.ptr 2002 0 0,.ptr 2001 0 0]),(1000015,.fn (.func 356) [.ptr 2003 0 0,.ptr 2002 0 0,.ptr 2001 0 0]),(1000016,.L iF a1)] [(2001,vR (g5.Pv q.1) 2),(2002,vS (.mp 5002004) 1),(5002004,⟨[.mapc (List.map (ent iF PV.bool) q.2)],0,false,0,false⟩),(2003,vR (store_Store.Pv a0) 3)]) (λq22 h=>dup ?_) λκ19 h=>?_
 ·obtain⟨j20,j21⟩:=q22
  refine⟨J,[],tr,?_⟩
  refine H2 (WE [(2,.ptr 2003 0 0),(5,.ptr 2002 0 0),(6,.ptr 2001 0 0),(7,.fn (.func 356) [.ptr 2003 0 0,.ptr 2002 0 0,.ptr 2001 0 0])] [(2001,vR (g5.Pv j20) 2),(2002,vS (.mp 5002004) 1),(5002004,⟨[.mapc (List.map (ent iF PV.bool) j21)],0,false,0,false⟩),(2003,vR (store_Store.Pv a0) 3)])<|yN ?_
  refine jq h (λj68=>St.of [(5,.ptr 2002 0 0)] [(2002,vS (.mp 5002004) 1),(5002004,⟨[.mapc (List.map (ent iF PV.bool) j68)],0,false,0,false⟩)]) (λj68 h=>?_) λκ67 h=>?_
  ·refine S4 2 J ?_
   refine a1h (b9o 4 5002004 J J)<|a6 ?_
   cases h
   exact f1
  ·refine b7 ?_
   refine lq h (λq=>St.of [(2,.ptr 2003 0 0),(5,.ptr 2002 0 0),(6,.ptr 2001 0 0),(7,.fn (.func 356) [.ptr 2003 0 0,.ptr 2002 0 0,.ptr 2001 0 0])] [(2001,vR (g5.Pv q.1) 2),(2002,vS (.mp 5002004) 1),(5002004,⟨[.mapc (List.map (ent iF PV.bool) q.2)],0,false,0,false⟩),(2003,vR (store_Store.Pv a0) 3)]) W λq73 x72 h hx54=>?_
   obtain⟨s70,s71⟩:=q73
   refine b9<|S3 1 J<|cA h P5 J J λv74 _ h=>S2 1 J ?_
   refine cN h (λhc h=>?_) λhc h=>?_
   ·refine a8 ?_
    refine b7<|S4 1 J<|S3 1 J<|cF h b04 J J λv75 _ h=>S2 6 J<|S5 3 J<|cF h b1B J J λv76 _ h=>H2 (WE [(2,.ptr 2003 0 0),(5,.ptr 2002 0 0),(6,.ptr 2001 0 0),(7,.fn (.func 356) [.ptr 2003 0 0,.ptr 2002 0 0,.ptr 2001 0 0]),(27,.fn (.func 356) [.ptr 2003 0 0,.ptr 2002 0 0,.ptr 2001 0 0]),(30,.L iF v76)] [(2001,vR (g5.Pv v75.1) 2),(2002,vS (.mp 5002004) 1),(5002004,⟨[.mapc (List.map (ent iF PV.bool) s71)],0,false,0,false⟩),(2003,vR (store_Store.Pv a0) 3)]) ?_
    refine b1I (fn:=Tryz.f356) (N1:=31) J J Tryz.func356 J Ty.c8r J J nl (λe58 o59=>?_)
    refine jqR h (λq=>St.of [(1000002,.ptr 2003 0 0),(1000005,.ptr 2002 0 0),(1000006,.ptr 2001 0 0),(1000007,.fn (.func 356) [.ptr 2003 0 0,.ptr 2002 0 0,.ptr 2001 0 0]),(1000027,.fn (.func 356) [.ptr 2003 0 0,.ptr 2002 0 0,.ptr 2001 0 0]),(1000030,.L iF v76)] [(2001,vR (g5.Pv q.1) 2),(2002,vS (.mp 5002004) 1),(5002004,⟨[.mapc (List.map (ent iF PV.bool) q.2)],0,false,0,false⟩),(2003,vR (store_Store.Pv a0) 3)]) (λq96 h=>dup ?_) λκ93 h=>?_
    ·obtain⟨j94,j95⟩:=q96
     refine⟨J,[],tr,?_⟩
     refine H2 (WE [(2,.ptr 2003 0 0),(5,.ptr 2002 0 0),(6,.ptr 2001 0 0),(7,.fn (.func 356) [.ptr 2003 0 0,.ptr 2002 0 0,.ptr 2001 0 0])] [(2001,vR (g5.Pv j94) 2),(2002,vS (.mp 5002004) 1),(5002004,⟨[.mapc (List.map (ent iF PV.bool) j95)],0,false,0,false⟩),(2003,vR (store_Store.Pv a0) 3)])<|yN ?_
     exact eL h W
    ·refine S3 1 J ?_
     refine nL J Ty.p8<|S2 1 J<|b7<|lq h (λq=>St.of [(1000002,.ptr 2003 0 0),(1000005,.ptr 2002 0 0),(1000006,.ptr 2001 0 0),(1000007,.fn (.func 356) [.ptr 2003 0 0,.ptr 2002 0 0,.ptr 2001 0 0]),(1000027,.fn (.func 356) [.ptr 2003 0 0,.ptr 2002 0 0,.ptr 2001 0 0]),(1000030,.L iF v76),(1,.ptr 2003 0 0),(2,.ptr 2002 0 0),(3,.ptr 2001 0 0),(7,.L iF v76),(8,.I (v76.length:Int)),(9,.I q.1)] [(2001,vR (g5.Pv q.2.1) 2),(2002,vS (.mp 5002004) 1),(5002004,⟨[.mapc (List.map (ent iF PV.bool) q.2.2)],0,false,0,false⟩),(2003,vR (store_Store.Pv a0) 3)]) W λq102 x101 h hx75=>?_
     obtain⟨s98,s99,s100⟩:=q102
     refine S4 1 J<|b9 ?_
     refine cN h (λhc h=>?_) λhc h=>?_
     ·refine a8 ?_
      refine jq h (λq=>St.of [(1000002,.ptr 2003 0 0),(1000005,.ptr 2002 0 0),(1000006,.ptr 2001 0 0),(1000007,.fn (.func 356) [.ptr 2003 0 0,.ptr 2002 0 0,.ptr 2001 0 0]),(1000027,.fn (.func 356) [.ptr 2003 0 0,.ptr 2002 0 0,.ptr 2001 0 0]),(1000030,.L iF v76),(1,.ptr 2003 0 0),(2,.ptr 2002 0 0),(3,.ptr 2001 0 0),(7,.L iF v76),(8,.I (v76.length:Int)),(9,.I s98)] [(2001,vR (g5.Pv q.1) 2),(2002,vS (.mp 5002004) 1),(5002004,⟨[.mapc (List.map (ent iF PV.bool) q.2)],0,false,0,false⟩),(2003,vR (store_Store.Pv a0) 3)]) (λq109 h=>?_) λκ106 h=>?_
      ·obtain⟨j107,j108⟩:=q109
       refine S6 2 J ?_
       exact eL h W
      ·refine b7 ?_
       refine sR<|iL h J J Ty.p8 Ty.s3 λv110 _ h=>S2 2 J<|S3 2 J<|cA h a59 J J λv111 _ h=>S1 1 J<|b8 J (λhg=>oS J J J Ty.c70 J)<|b8 J (λhg=>mI J) ?_
       rcases Bool.eq_false_or_eq_true (v111==true) with hg83 | hg83
       ·have h:=ifT h hg83
        refine b8f (es:=s100) (k:=v110) (E:=PV.bool) (EK:=iF) (d:=.bool ((w9 s100 v110).getD (false:Bool))) (congrArg some hg83) (ct hg83) J (ct hg83) Ty.a8v (w8 Ty.u3) Ty.z4 J (lk1 _ _ _)<|y0 (congrArg some hg83) (J7 J J)<|y0 J (a3R J J hg83)<|yN ?_
        refine cN h (λhc h=>?_) λhc h=>?_
        ·refine S3 2 J ?_
         refine T3 (es:=s100) (k:=v110) (v:=true) (E:=PV.bool) (EK:=iF) (.inl J) J J J J J J Ty.a8v (w8 Ty.u3)<|yN<|S5 2 J<|cF h a3S J J λv112 _ h=>S2 4 J ?_
         exact eJ h W
        ·refine a8 ?_
         exact eJ h W
       ·have h:=ifF h hg83
        refine T4 (congrArg some hg83)<|T4 (congrArg some hg83)<|y0 J (a3Q J J hg83)<|yN ?_
        refine E5 false J (λq=>nomatch q) (λ_=>?_)
        refine a8 ?_
        exact eJ h W
     ·refine g8 ?_
      refine a7<|a7<|c4 ?_
      have h:=xL hx75 h
      exact eJ h W
   ·refine g8 ?_
    refine a7<|a7<|c4 ?_
    have h:=xL hx54 h
    exact eJ h W
 ·refine S3 1 J ?_
  refine nL J Ty.p8<|S2 1 J<|b7<|lq h (λq=>St.of [(1000002,.ptr 2003 0 0),(1000005,.ptr 2002 0 0),(1000006,.ptr 2001 0 0),(1000007,.fn (.func 356) [.ptr 2003 0 0,.ptr 2002 0 0,.ptr 2001 0 0]),(1000015,.fn (.func 356) [.ptr 2003 0 0,.ptr 2002 0 0,.ptr 2001 0 0]),(1000016,.L iF a1),(1,.ptr 2003 0 0),(2,.ptr 2002 0 0),(3,.ptr 2001 0 0),(7,.L iF a1),(8,.I (a1.length:Int)),(9,.I q.1)] [(2001,vR (g5.Pv q.2.1) 2),(2002,vS (.mp 5002004) 1),(5002004,⟨[.mapc (List.map (ent iF PV.bool) q.2.2)],0,false,0,false⟩),(2003,vR (store_Store.Pv a0) 3)]) W λq118 x117 h hx87=>?_
  obtain⟨a4X,s115,s116⟩:=q118
  refine S4 1 J<|b9 ?_
  refine cN h (λhc h=>?_) λhc h=>?_
  ·refine a8 ?_
   refine jq h (λq=>St.of [(1000002,.ptr 2003 0 0),(1000005,.ptr 2002 0 0),(1000006,.ptr 2001 0 0),(1000007,.fn (.func 356) [.ptr 2003 0 0,.ptr 2002 0 0,.ptr 2001 0 0]),(1000015,.fn (.func 356) [.ptr 2003 0 0,.ptr 2002 0 0,.ptr 2001 0 0]),(1000016,.L iF a1),(1,.ptr 2003 0 0),(2,.ptr 2002 0 0),(3,.ptr 2001 0 0),(7,.L iF a1),(8,.I (a1.length:Int)),(9,.I a4X)] [(2001,vR (g5.Pv q.1) 2),(2002,vS (.mp 5002004) 1),(5002004,⟨[.mapc (List.map (ent iF PV.bool) q.2)],0,false,0,false⟩),(2003,vR (store_Store.Pv a0) 3)]) (λq125 h=>?_) λκ122 h=>?_
   ·obtain⟨j123,j124⟩:=q125
    refine S6 2 J ?_
    exact eL h W
   ·refine b7 ?_
    refine sR<|iL h J J Ty.p8 Ty.s3 λv126 _ h=>S2 2 J<|S3 2 J<|cA h a59 J J λv127 _ h=>S1 1 J<|b8 J (λhg=>oS J J J Ty.c70 J)<|b8 J (λhg=>mI J) ?_
    rcases Bool.eq_false_or_eq_true (v127==true) with hg95 | hg95
    ·have h:=ifT h hg95
     refine b8f (es:=s116) (k:=v126) (E:=PV.bool) (EK:=iF) (d:=.bool ((w9 s116 v126).getD (false:Bool))) (congrArg some hg95) (ct hg95) J (ct hg95) Ty.a8v (w8 Ty.u3) Ty.z4 J (lk1 _ _ _)<|y0 (congrArg some hg95) (J7 J J)<|y0 J (a3R J J hg95)<|yN ?_
     refine cN h (λhc h=>?_) λhc h=>?_
     ·refine S3 2 J ?_
      refine T3 (es:=s116) (k:=v126) (v:=true) (E:=PV.bool) (EK:=iF) (.inl J) J J J J J J Ty.a8v (w8 Ty.u3)<|yN<|S5 2 J<|cF h a3S J J λv128 _ h=>S2 4 J ?_
      exact eJ h W
     ·refine a8 ?_
      exact eJ h W
    ·have h:=ifF h hg95
     refine T4 (congrArg some hg95)<|T4 (congrArg some hg95)<|y0 J (a3Q J J hg95)<|yN ?_
     refine E5 false J (λq=>nomatch q) (λ_=>?_)
     refine a8 ?_
     exact eJ h W
  ·refine g8 ?_
   refine a7<|a7<|c4 ?_
   have h:=xL hx87 h
   exact eJ h W

theorem b1S{a0 a1}:PO Tryz.prog 388 [.I a0,.rptr [.abs (R3 (List.map (ent iF PV.bool) a1))]] (a2I a0 a1) λr=>.bool r:=by
 refine pO Tryz.func388 λr h _ _=>?_
 unfold a2I at h
 refine S4 1 J<|S3 2 J<|y0 J (b7o (es:=a1) (k:=a0) (E:=PV.bool) (EK:=iF) (d:=.bool ((w9 a1 a0).getD (false:Bool))) J J Ty.a8v (w8 Ty.u3) Ty.z4 J (lk1 _ _ _))<|S2 1 J<|a6 ?_
 cases h
 exact f1

theorem a2K{a0 a1}:PO Tryz.prog 299 [store_Store.Pv a0,.fn (.func 388) [.rptr [.abs (R3 (List.map (ent iF PV.bool) a1))]]] (N9 a0 a1) λr=>.L iF r:=by
 refine pO Tryz.func299 λr h _ _=>?_
 refine S4 2 J<|S4 1 J ?_
 refine jq h (λj16=>St.of [(5,.sl 910005)] [(910005,⟨List.map iF j16,(List.map iF j16).length,true,1,true⟩)]) (λj16 h=>?_) λκ15 h=>?_
 ·refine S4 2 J ?_
  refine a6 ?_
  cases h
  exact f1
 ·refine S3 1 J ?_
  refine cF h F3 J J λv17 _ h=>nL J Ty.p8<|S2 1 J<|b7<|lq h (λq=>St.of [(1,.fn (.func 388) [.rptr [.abs (R3 (List.map (ent iF PV.bool) a1))]]),(5,.sl 910005),(9,.L iF v17),(10,.I (v17.length:Int)),(11,.I q.1)] [(910005,⟨List.map iF q.2,(List.map iF q.2).length,true,1,true⟩)]) (Wk.trans (B2 (t:=5) (l:=920005) (z:=1) J J) (WP (λl=>if l=910005 then 920005 else l))) λq22 x21 h hx16=>?_
  obtain⟨s19,s20⟩:=q22
  refine S4 1 J<|b9 ?_
  refine cN h (λhc h=>?_) λhc h=>?_
  ·refine a8 ?_
   refine jq h (λj27=>St.of [(1,.fn (.func 388) [.rptr [.abs (R3 (List.map (ent iF PV.bool) a1))]]),(5,.sl 21),(9,.L iF v17),(10,.I (v17.length:Int)),(11,.I s19)] [(21,⟨List.map iF j27,(List.map iF j27).length,true,1,true⟩)]) (λj27 h=>?_) λκ26 h=>?_
   ·refine S6 2 J ?_
    exact eL h (Wk.trans (g7 _ [21]) (WP (λl=>if l=910005 then 21 else l)))
   ·refine b7 ?_
    refine sR<|iL h J J Ty.p8 Ty.s3 λv28 _ h=>S2 2 J<|S3 2 J<|cA h b1S J J λv29 _ h=>yN ?_
    refine cN h (λhc h=>?_) λhc h=>?_
    ·refine S5 2 J ?_
     refine y0 J (F1 (f:=iF) (l:=[v28]) J Ty.p8 Ty.s3 Ty.z3 J J nl J J)<|l7 h λv30 hv23 h=>D7 J (B6 (f:=iF) hv23 J J J J J J (.inl ⟨_,J,J⟩) Ty.p8 Ty.s3 Ty.b3 Ty.z3 J (λ_=>J)) J J J<|S2 1 J ?_
     exact eJ h (Wk.trans (g7 _ [21]) W)
    ·refine a8 ?_
     exact eJ h (Wk.trans (g7 _ [910005]) (WP (λl=>if l=21 then 910005 else l)))
  ·refine g8 ?_
   refine a7<|a7<|c4 ?_
   have h:=xL hx16 h
   exact eJ h (Wk.trans (g7 _ [910005]) W)

theorem a8A{a0 a1}:PO Tryz.prog 362 [store_Store.Pv a0,.L iF a1] (a3q a0 a1) λr=>.L iF r:=by
 refine pO Tryz.func362 λr h _ _=>?_
 refine S4 2 J<|S3 2 J<|cF h a6a J J λv1 _ h=>S2 2 J<|S3 2 J<|l7 h λv2 hv2 h=>ycL J (n0 J a2K J hv2) J<|S2 1 J<|a6 ?_
 cases h
 exact f1

theorem b0J{a0}:PO Tryz.prog 276 [j5.Pv a0] (a1N a0) λr=>.bool r:=by
 refine pO Tryz.func276 λr h _ _=>?_
 unfold a1N at h
 refine S4 2 J<|S4 1 J<|a6 ?_
 cases h
 exact f1

end Go.Proofs.YtlkcpapbolbjnaaGreat.Ok
