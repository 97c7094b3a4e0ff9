/-
 The functions of the program do as the plain functions do.
-/
import Derived.Test.YtfihndcobnkiaaaGreatM18bOk1
set_option linter.unusedVariables false
set_option linter.unusedSimpArgs false
set_option linter.unusedSectionVars false
namespace Go.Proofs.YtfihndcobnkiaaaGreat.Ok
open Go Go.Pw Go.Sh Go.Proofs
set_option maxRecDepth 100000
set_option maxHeartbeats 4000000
theorem a80{a0}:PO Tryz.prog 313 [.I a0] (a2M a0) λr=>.tup [.I r.1,.I r.2]:=by
 refine pO Tryz.func313 λr h _ _=>?_
 refine S4 2 J<|g5<|S3 1 J<|cA h V3 J J λv1 _ h=>yN ?_
 refine cN h (λhc h=>?_) λhc h=>?_
 ·refine S4 2 J ?_
  refine a7 ?_
  cases h
  exact f2
 ·refine a8 ?_
  refine S3 1 J<|y0 J (c8j J J J)<|S2 3 J<|a7 ?_
  cases h
  exact f2

theorem b4F{a0}:PO Tryz.prog 272 [.I a0] (a64 a0) λr=>.I r:=by
 refine pO Tryz.func272 λr h _ _=>?_
 refine S4 1 J<|S3 1 J<|cA h a80 J J λv1 _ h=>S2 5 J<|S4 2 J<|a7 ?_
 cases h
 exact f1

theorem a6b{a0 a1 a2}:PO Tryz.prog 269 [slab_Slab_store_Obj.Pv a0,.I a1,store_Obj.Pv a2] (H8 a0 a1 a2) λr=>.tup [slab_Slab_store_Obj.Pv r.1,.I r.2]:=by
 refine pO Tryz.func269 λr h _ _=>?_
 refine S4 4 J<|S3 2 J<|cA h D9 J J λv1 _ h=>S2 5 J<|g5<|S4 2 J ?_
 refine cN h (λhc h=>?_) λhc h=>?_
 ·refine S4 4 J ?_
  refine a7 ?_
  cases h
  exact⟨J,[_,_],⟨oL J J J Ty.a24 Ty.s24 nl J,⟨J,tr⟩⟩,J,io⟩
 ·refine a8 ?_
  refine S3 3 J<|iL h J J Ty.e22 Ty.a4I λv2 _ h=>S2 3 J<|S4 3 J<|S3 3 J<|cF h F9 J J λv3 _ h=>S2 2 J<|a7 ?_
  cases h
  exact⟨J,[_,_],⟨oL J J J Ty.a24 Ty.s24 nl J,⟨J,tr⟩⟩,J,io⟩

theorem Y5{a0 a1 a2}:PO Tryz.prog 194 [store_Store.Pv a0,.I a1,store_Obj.Pv a2] (H9 a0 a1 a2) λr=>.tup [store_Store.Pv r.1,.I r.2]:=by
 refine pO Tryz.func194 λr h _ _=>?_
 refine S4 4 J<|S4 1 J<|S3 4 J<|cF h a6b J J λv1 _ h=>S2 6 J<|S4 4 J<|a7 ?_
 cases h
 exact⟨J,[_,_],⟨oL J J J Ty.a26 Ty.s26 nl J,⟨J,tr⟩⟩,J,io⟩

theorem a2V{a0 a1}:PO Tryz.prog 271 [hold_Heap.Pv a0,.I a1,.fn (.func 272) []] (P4 a0 a1) λr=>hold_Heap.Pv r:=by
 refine pO Tryz.func271 λr h _ _=>?_
 refine S4 2 J<|S3 3 J<|cF h A6 J J λv1 _ h=>S2 6 J<|g5<|S4 2 J ?_
 refine cN h (λhc h=>?_) λhc h=>?_
 ·refine S3 3 J ?_
  refine cA h b4F J J λv2 _ h=>S2 2 J<|S5 4 J<|cF h Y5 J J λv3 _ h=>S2 5 J<|S4 2 J<|a7 ?_
  cases h
  exact⟨J,[_],⟨oL J J J Ty.U6 Ty.O0 nl J,tr⟩,J,io⟩
 ·refine a8 ?_
  refine S4 2 J<|a7 ?_
  cases h
  exact⟨J,[_],⟨oL J J J Ty.U6 Ty.O0 nl J,tr⟩,J,io⟩

theorem a0S{a0 a1}:PO Tryz.prog 196 [hold_Heap.Pv a0,.I a1] (V7 a0 a1) λr=>hold_Heap.Pv r:=by
 refine pO Tryz.func196 λr h _ _=>?_
 refine S4 2 J<|S3 2 J<|cF h a2V J J λv1 _ h=>S2 1 J<|a7 ?_
 cases h
 exact⟨J,[_],⟨oL J J J Ty.U6 Ty.O0 nl J,tr⟩,J,io⟩

theorem a0h{a0}:PON Tryz.prog 155 [.L iF a0] (E8 a0) λr=>⟨List.map iF r,0,true,1,true⟩:=by
 refine pON Tryz.func155 λr h _ _=>?_
 unfold E8 at h
 refine S4 1 J<|g5<|S3 1 J<|b6a J Ty.z6 λb hb=>yN ?_
 refine F8 b J (λhc=>?_) (λhc=>?_)
 ·obtain rfl:a0 = []:=by simpa using hb hc
  refine S4 1 J<|a2m (I0 (t:=2) (l:=920000) (z:=1) J J)<|a7 ?_
  cases h
  exact⟨J,_,_,J,J,J,J⟩
 ·refine a8 ?_
  refine sR<|y0 J (F7 J Ty.z6 Ty.s3)<|S1 1 J<|y1 J (b2A (f:=iF) h J J (.inl ⟨_,J,J⟩) Ty.z6 Ty.s3 Ty.b3 Ty.z3 J (λ_=>J)) J<|S2 1 J<|a7 ?_
  exact⟨J,_,_,J,J,J,J⟩

theorem a58{a0 a1}:PO Tryz.prog 306 [F4.Pv a0,hold_Heap.Pv a1] (R2 a0 a1) λr=>hold_Heap.Pv r:=by
 refine pO Tryz.func306 λr h _ _=>?_
 unfold R2 at h
 refine S4 3 J<|S3 2 J<|s6 h λv1 hv1 h=>ycN J (b4l J a0h J hv1) J J<|S2 2 J<|S3 6 J<|s6 h λv2 hv2 h=>y0 J (a2Y (f:=iF) hv2 J J J J Ty.z6 Ty.s3 J)<|b0i (f:=iF) (v:=a0.h) hv2 J J (.inl J) Ty.s3<|yN<|S4 2 J<|a7 ?_
 cases h
 exact⟨J,[_],⟨oL J J J Ty.U6 Ty.O0 nl J,tr⟩,J,io⟩

theorem a7O{a0}:PO Tryz.prog 318 [.I a0] (a1q a0) λr=>.tup [.I r.1,.I r.2]:=by
 refine pO Tryz.func318 λr h _ _=>?_
 refine S4 2 J<|g5<|S3 1 J<|cA h V3 J J λv1 _ h=>yN ?_
 refine cN h (λhc h=>?_) λhc h=>?_
 ·refine S4 2 J ?_
  refine a7 ?_
  cases h
  exact f2
 ·refine a8 ?_
  refine g5<|S4 2 J ?_
  refine cN h (λhc h=>?_) λhc h=>?_
  ·refine S4 2 J ?_
   refine a7 ?_
   cases h
   exact f2
  ·refine a8 ?_
   refine S4 4 J<|a7 ?_
   cases h
   exact f2

theorem b4E{a0}:PO Tryz.prog 279 [.I a0] (b0p a0) λr=>.tup [.I r.1,.I r.2]:=by
 refine pO Tryz.func279 λr h _ _=>?_
 refine S4 2 J<|S3 1 J<|cA h a7O J J λv1 _ h=>S2 5 J<|S4 4 J<|a7 ?_
 cases h
 exact f2

theorem a9d{a0}:PO Tryz.prog 278 [.I a0] (a0R a0) λr=>.I r:=by
 refine pO Tryz.func278 λr h _ _=>?_
 refine S4 1 J<|S3 1 J<|cA h b4E J J λv1 _ h=>S2 5 J<|g5<|S4 2 J ?_
 refine cN h (λhc h=>?_) λhc h=>?_
 ·refine S4 2 J ?_
  refine a7 ?_
  cases h
  exact f1
 ·refine a8 ?_
  refine S4 2 J<|a7 ?_
  cases h
  exact f1

theorem a1h{a0 a1}:PO Tryz.prog 271 [hold_Heap.Pv a0,.I a1,.fn (.func 278) []] (J8 a0 a1) λr=>hold_Heap.Pv r:=by
 refine pO Tryz.func271 λr h _ _=>?_
 refine S4 2 J<|S3 3 J<|cF h A6 J J λv1 _ h=>S2 6 J<|g5<|S4 2 J ?_
 refine cN h (λhc h=>?_) λhc h=>?_
 ·refine S3 3 J ?_
  refine cA h a9d J J λv2 _ h=>S2 2 J<|S5 4 J<|cF h Y5 J J λv3 _ h=>S2 5 J<|S4 2 J<|a7 ?_
  cases h
  exact⟨J,[_],⟨oL J J J Ty.U6 Ty.O0 nl J,tr⟩,J,io⟩
 ·refine a8 ?_
  refine S4 2 J<|a7 ?_
  cases h
  exact⟨J,[_],⟨oL J J J Ty.U6 Ty.O0 nl J,tr⟩,J,io⟩

theorem a0l{a0 a1}:PO Tryz.prog 203 [hold_Heap.Pv a0,.I a1] (D7 a0 a1) λr=>hold_Heap.Pv r:=by
 refine pO Tryz.func203 λr h _ _=>?_
 refine S4 2 J<|S3 2 J<|cF h a1h J J λv1 _ h=>S2 1 J<|a7 ?_
 cases h
 exact⟨J,[_],⟨oL J J J Ty.U6 Ty.O0 nl J,tr⟩,J,io⟩

theorem a0q{a0 a1 a2 a3}:PO Tryz.prog 259 [hold_Heap.Pv a0,.I a1,.I a2,.abs (BFn 306 [F4.Pv a3])] (G7 a0 a1 a2 a3) λr=>hold_Heap.Pv r:=by
 refine pO Tryz.func259 λr h _ _=>?_
 refine S4 2 J<|S3 3 J<|cF h a0S J J λv1 _ h=>s6 h λv2 hv2 h=>b59 (xs:=[hold_Heap.Pv v1]) J J Ty.c9V J (a58.2 _ hv2)<|S1 1 J<|cF h a0l J J λv3 _ h=>S2 1 J<|a7 ?_
 cases h
 exact⟨J,[_],⟨oL J J J Ty.U6 Ty.O0 nl J,tr⟩,J,io⟩

theorem b4W{a0 a1 a2}:PO Tryz.prog 257 [hold_Heap.Pv a0,.I a1,.I a2] (a7e a0 a1 a2) λr=>.tup [hold_Heap.Pv r.1,.I r.2]:=by
 refine pO Tryz.func257 λr h _ _=>?_
 refine S4 3 J<|g5<|S3 3 J<|b8 J (λhg=>mI J)<|b8 J (λhg=>oF J Ty.b8T J)<|b8 J (λhg=>oS (ct hg) J J Ty.a27 J)<|b8 J (λhg=>M0 (f:=iF) (ct hg) Ty.z6)<|b8 J (λhg=>j8 (ct hg) (ct hg) J)<|y0 J (o0 J J J (λq=>H3 q))<|yN ?_
 refine cN h (λhc h=>?_) λhc h=>?_
 ·refine S4 3 J ?_
  refine a7 ?_
  cases h
  exact⟨J,[_,_],⟨oL J J J Ty.U6 Ty.O0 nl J,⟨J,tr⟩⟩,J,io⟩
 ·refine a8 ?_
  refine g5<|S3 2 J<|cA h L2 J J λv1 _ h=>S2 1 J ?_
  refine cN h (λhc h=>?_) λhc h=>?_
  ·refine S4 3 J ?_
   refine a7 ?_
   cases h
   exact⟨J,[_,_],⟨oL J J J Ty.U6 Ty.O0 nl J,⟨J,tr⟩⟩,J,io⟩
  ·refine a8 ?_
   refine dr [] Ty.mix (by kernel_rfl) (by kernel_rfl)<|S7 4 J<|s6 h λv2 hv2 h=>d0 J (A3 (f:=iF) (cs:=[.I v2]) hv2 J J Ty.z6 Ty.s3 J J) J<|S7 4 J<|d7 J (λ_ hN=>m7 (cs:=[.I a1,.I a2]) J Ty.c98 Ty.d0r J J J) J<|d7 J (λ_ hN=>b0I (d:=.agg [.I a1,.I a2]) J) J<|s6 h λv3 hv3 h=>d2f J (y8 J a0q J hv3) J<|Z7 (x':=hold_Heap.Pv v3) (cl':=true) J J (.inr J) Ty.O0<|S8 1 J<|a7 ?_
   cases h
   exact⟨J,[_,_],⟨oL J J J Ty.U6 Ty.O0 nl J,⟨J,tr⟩⟩,J,io⟩

theorem E6{a0 a1 a2}:PO Tryz.prog 186 [n8.Pv a0,.I a1,.I a2] (y7 a0 a1 a2) λr=>.tup [hold_Heap.Pv r.1,.I r.2]:=by
 refine pO Tryz.func186 λr h _ _=>?_
 refine S4 3 J<|g5<|S4 2 J ?_
 refine cN h (λhc h=>?_) λhc h=>?_
 ·refine S4 5 J ?_
  refine a7 ?_
  cases h
  exact⟨J,[_,_],⟨oL J J J Ty.U6 Ty.O0 nl J,⟨J,tr⟩⟩,J,io⟩
 ·refine a8 ?_
  refine S3 6 J<|cF h b4W J J λv1 _ h=>S2 4 J<|a7 ?_
  cases h
  exact⟨J,[_,_],⟨oL J J J Ty.U6 Ty.O0 nl J,⟨J,tr⟩⟩,J,io⟩

theorem a00{a0}:PO Tryz.prog 96 [n8.Pv a0] (O2 a0) λr=>.tup [hold_Heap.Pv r.1,.I r.2]:=by
 refine pO Tryz.func96 λr h _ _=>?_
 refine S4 3 J<|S3 9 J<|cF h b3V J J λv1 _ h=>S2 8 J<|g5<|S4 2 J ?_
 refine cN h (λhc h=>?_) λhc h=>?_
 ·refine S4 5 J ?_
  refine a7 ?_
  cases h
  exact⟨J,[_,_],⟨oL J J J Ty.U6 Ty.O0 nl J,⟨J,tr⟩⟩,J,io⟩
 ·refine a8 ?_
  refine S4 4 J<|S3 2 J<|cF h E6 J J λv2 _ h=>S2 4 J<|a7 ?_
  cases h
  exact⟨J,[_,_],⟨oL J J J Ty.U6 Ty.O0 nl J,⟨J,tr⟩⟩,J,io⟩

theorem K0{a0 a1}:PO Tryz.prog 59 [hold_Heap.Pv a0,.I a1] (I4 a0 a1) λr=>.I r:=by
 refine pO Tryz.func59 λr h _ _=>?_
 refine S4 2 J<|g5<|S3 3 J<|b8 J (λhg=>mI J)<|b8 J (λhg=>oF J Ty.b8T J)<|b8 J (λhg=>oS (ct hg) J J Ty.a27 J)<|b8 J (λhg=>M0 (f:=iF) (ct hg) Ty.z6)<|b8 J (λhg=>j8 (ct hg) (ct hg) J)<|y0 J (o0 J J J (λq=>H3 q))<|yN ?_
 refine cN h (λhc h=>?_) λhc h=>?_
 ·refine S4 1 J ?_
  refine a7 ?_
  cases h
  exact f1
 ·refine a8 ?_
  refine S3 3 J<|iL h J J Ty.z6 Ty.s3 λv1 _ h=>S2 2 J<|a7 ?_
  cases h
  exact f1

theorem Y8{a0}:PO Tryz.prog 97 [n8.Pv a0] (F6 a0) λr=>.tup [hold_Heap.Pv r.1,.I r.2]:=by
 refine pO Tryz.func97 λr h _ _=>?_
 unfold F6 at h
 refine S4 3 J<|dr [] Ty.mix (by kernel_rfl) (by kernel_rfl)<|S7 6 J<|s6 h λv1 hv1 h=>d2 J (D3 J K0 J hv1) J<|s6 h λv2 hv2 h=>d2f J (y8 J E6 J hv2) J<|S7 2 J<|Z7 (x':=hold_Heap.Pv v2.1) (cl':=true) J J (.inr J) Ty.O0<|S8 1 J<|a7 ?_
 cases h
 exact⟨J,[_,_],⟨oL J J J Ty.U6 Ty.O0 nl J,⟨J,tr⟩⟩,J,io⟩

theorem a1V{a0}:PO Tryz.prog 98 [n8.Pv a0] (U8 a0) λr=>.tup [hold_Heap.Pv r.1,.I r.2]:=by
 refine pO Tryz.func98 λr h _ _=>?_
 refine S4 3 J<|S3 1 J<|cF h E6 J J λv1 _ h=>S2 4 J<|a7 ?_
 cases h
 exact⟨J,[_,_],⟨oL J J J Ty.U6 Ty.O0 nl J,⟨J,tr⟩⟩,J,io⟩

theorem M2{a0 a1}:PO Tryz.prog 187 [hold_Heap.Pv a0,.I a1] (I7 a0 a1) λr=>.tup [.I r.1,.I r.2]:=by
 refine pO Tryz.func187 λr h _ _=>?_
 refine S4 3 J<|S3 2 J<|cA h K0 J J λv1 _ h=>S2 1 J<|g5<|S4 2 J ?_
 refine cN h (λhc h=>?_) λhc h=>?_
 ·refine S4 2 J ?_
  refine a7 ?_
  cases h
  exact f2
 ·refine a8 ?_
  refine S4 3 J<|a7 ?_
  cases h
  exact f2

theorem b3h{a0 a1}:PO Tryz.prog 307 [.L iF a0,.I a1] (a3S a0 a1) λr=>.bool r:=by
 refine pO Tryz.func307 λr h _ _=>?_
 unfold a3S at h
 refine S4 1 J<|S3 3 J<|b8 J (λhg=>mI J)<|b8 J (λhg=>om (d:=.L iF a0) J)<|b8 J (λhg=>M0 (f:=iF) (ct hg) Ty.z6)<|b8 J (λhg=>j8 (ct hg) (ct hg) J)<|y0 J (l7 J J J (λq=>L5 q))<|S2 1 J<|a7 ?_
 cases h
 exact f1

theorem c0I{a0 a1}:PO Tryz.prog 258 [.L iF a0,.I a1] (a6Z a0 a1) λr=>.tup [.I r.1,.I r.2]:=by
 refine pO Tryz.func258 λr h _ _=>?_
 refine S4 2 J<|g5<|S3 2 J<|cA h b3h J J λv1 _ h=>S2 1 J ?_
 refine cN h (λhc h=>?_) λhc h=>?_
 ·refine S4 2 J ?_
  refine a7 ?_
  cases h
  exact f2
 ·refine a8 ?_
  refine S3 2 J<|iL h J J Ty.z6 Ty.s3 λv2 _ h=>S2 3 J<|a7 ?_
  cases h
  exact f2

theorem a6W{a0 a1 a2}:PO Tryz.prog 188 [store_Store.Pv a0,.I a1,.I a2] (M8 a0 a1 a2) λr=>.tup [.I r.1,.I r.2]:=by
 refine pO Tryz.func188 λr h _ _=>?_
 refine S4 3 J<|S3 2 J<|cF h A6 J J λv1 _ h=>S2 6 J<|g5<|S4 2 J ?_
 refine cN h (λhc h=>?_) λhc h=>?_
 ·refine S4 3 J ?_
  refine a7 ?_
  cases h
  exact f2
 ·refine a8 ?_
  refine S3 3 J<|cA h c0I J J λv2 _ h=>S2 4 J<|a7 ?_
  cases h
  exact f2

theorem a1W{a0}:PO Tryz.prog 99 [n8.Pv a0] (U9 a0) λr=>.tup [hold_Heap.Pv r.1,.I r.2]:=by
 refine pO Tryz.func99 λr h _ _=>?_
 refine S4 3 J<|S3 5 J<|cA h M2 J J λv1 _ h=>S2 5 J<|g5<|S4 2 J ?_
 refine cN h (λhc h=>?_) λhc h=>?_
 ·refine S4 5 J ?_
  refine a7 ?_
  cases h
  exact⟨J,[_,_],⟨oL J J J Ty.U6 Ty.O0 nl J,⟨J,tr⟩⟩,J,io⟩
 ·refine a8 ?_
  refine dr [] Ty.mix (by kernel_rfl) (by kernel_rfl)<|S7 8 J<|s6 h λv2 hv2 h=>d2 J (D3 J a6W J hv2) J<|S7 2 J<|s6 h λv3 hv3 h=>d2f J (y8 J E6 J hv3) J<|S7 2 J<|Z7 (x':=hold_Heap.Pv v3.1) (cl':=true) J J (.inr J) Ty.O0<|S8 1 J<|a7 ?_
  cases h
  exact⟨J,[_,_],⟨oL J J J Ty.U6 Ty.O0 nl J,⟨J,tr⟩⟩,J,io⟩

theorem b7s{a0 a1 a2}:PO Tryz.prog 329 [.L iF a0,.I a1,.I a2] (b3g a0 a1 a2) λr=>.tup [.L iF r.1,.I r.2]:=by
 refine pO Tryz.func329 λr h _ _=>?_
 refine S4 2 J<|g5<|S3 2 J<|cA h b3h J J λv1 _ h=>S2 1 J ?_
 refine cN h (λhc h=>?_) λhc h=>?_
 ·refine S4 3 J ?_
  refine a7 ?_
  cases h
  exact f2
 ·refine a8 ?_
  refine S3 1 J<|nL J Ty.z6<|s6 h λv2 hv2 h=>y1 J (b8c (f:=iF) hv2 J J J Ty.z6 Ty.s3 Ty.z3 Ty.b3 J J J) J<|S2 1 J<|S3 2 J<|s6 h λv3 hv3 h=>c8M (f:=iF) hv3 J J J (.inl ⟨_,J,J⟩) Ty.z6 Ty.s3 (λ_=>J) (by decide)<|yN<|S3 3 J<|s6 h λv4 hv4 h=>y0 J (a2Y (f:=iF) hv4 J J J J Ty.z6 Ty.s3 J)<|b0i (f:=iF) (v:=a2) hv4 J J (.inl J) Ty.s3<|yN<|S4 3 J<|a7 ?_
  cases h
  exact f2

theorem b5R{a0 a1 a2 a3}:PO Tryz.prog 308 [store_Store.Pv a0,.I a1,.I a2,.I a3] (a7A a0 a1 a2 a3) λr=>.tup [store_Store.Pv r.1,.I r.2]:=by
 refine pO Tryz.func308 λr h _ _=>?_
 refine S4 3 J<|S3 2 J<|cF h A6 J J λv1 _ h=>S2 6 J<|g5<|S4 2 J ?_
 refine cN h (λhc h=>?_) λhc h=>?_
 ·refine S4 4 J ?_
  refine a7 ?_
  cases h
  exact⟨J,[_,_],⟨oL J J J Ty.a26 Ty.s26 nl J,⟨J,tr⟩⟩,J,io⟩
 ·refine a8 ?_
  refine g5<|S3 4 J<|cF h b7s J J λv2 _ h=>S2 6 J<|S4 2 J ?_
  refine cN h (λhc h=>?_) λhc h=>?_
  ·refine S4 4 J ?_
   refine a7 ?_
   cases h
   exact⟨J,[_,_],⟨oL J J J Ty.a26 Ty.s26 nl J,⟨J,tr⟩⟩,J,io⟩
  ·refine a8 ?_
   refine S3 3 J<|cF h Y5 J J λv3 _ h=>S2 4 J<|a7 ?_
   cases h
   exact⟨J,[_,_],⟨oL J J J Ty.a26 Ty.s26 nl J,⟨J,tr⟩⟩,J,io⟩

theorem a5a{a0 a1}:PO Tryz.prog 260 [E4.Pv a0,hold_Heap.Pv a1] (Z1 a0 a1) λr=>hold_Heap.Pv r:=by
 refine pO Tryz.func260 λr h _ _=>?_
 refine S4 3 J<|S3 8 J<|cF h b5R J J λv1 _ h=>S2 5 J<|S4 2 J<|a7 ?_
 cases h
 exact⟨J,[_],⟨oL J J J Ty.U6 Ty.O0 nl J,tr⟩,J,io⟩

theorem Z9{a0 a1 a2 a3}:PO Tryz.prog 259 [hold_Heap.Pv a0,.I a1,.I a2,.abs (BFn 260 [E4.Pv a3])] (F5 a0 a1 a2 a3) λr=>hold_Heap.Pv r:=by
 refine pO Tryz.func259 λr h _ _=>?_
 refine S4 2 J<|S3 3 J<|cF h a0S J J λv1 _ h=>s6 h λv2 hv2 h=>b59 (xs:=[hold_Heap.Pv v1]) J J Ty.c9T J (a5a.2 _ hv2)<|S1 1 J<|cF h a0l J J λv3 _ h=>S2 1 J<|a7 ?_
 cases h
 exact⟨J,[_],⟨oL J J J Ty.U6 Ty.O0 nl J,tr⟩,J,io⟩

theorem b3E{a0 a1 a2 a3}:PO Tryz.prog 189 [hold_Heap.Pv a0,.I a1,.I a2,.I a3] (a1r a0 a1 a2 a3) λr=>.tup [hold_Heap.Pv r.1,.I r.2]:=by
 refine pO Tryz.func189 λr h _ _=>?_
 refine S4 3 J<|S3 4 J<|cA h a6W J J λv1 _ h=>S2 5 J<|g5<|S4 2 J ?_
 refine cN h (λhc h=>?_) λhc h=>?_
 ·refine S4 4 J ?_
  refine a7 ?_
  cases h
  exact⟨J,[_,_],⟨oL J J J Ty.U6 Ty.O0 nl J,⟨J,tr⟩⟩,J,io⟩
 ·refine a8 ?_
  refine g5<|S3 2 J<|cA h L2 J J λv2 _ h=>S2 1 J ?_
  refine cN h (λhc h=>?_) λhc h=>?_
  ·refine S4 3 J ?_
   refine a7 ?_
   cases h
   exact⟨J,[_,_],⟨oL J J J Ty.U6 Ty.O0 nl J,⟨J,tr⟩⟩,J,io⟩
  ·refine a8 ?_
   refine S3 6 J<|y0 J (m7 (cs:=[.I a1,.I a2,.I a3]) J Ty.c96 Ty.d0p J J J)<|y0 J (b0I (d:=.agg [.I a1,.I a2,.I a3]) J)<|cF h Z9 J J λv3 _ h=>S2 2 J<|a7 ?_
   cases h
   exact⟨J,[_,_],⟨oL J J J Ty.U6 Ty.O0 nl J,⟨J,tr⟩⟩,J,io⟩

theorem a1n{a0}:PO Tryz.prog 100 [n8.Pv a0] (R3 a0) λr=>.tup [hold_Heap.Pv r.1,.I r.2]:=by
 refine pO Tryz.func100 λr h _ _=>?_
 refine S4 3 J<|S3 5 J<|cA h M2 J J λv1 _ h=>S2 5 J<|g5<|S4 2 J ?_
 refine cN h (λhc h=>?_) λhc h=>?_
 ·refine S4 5 J ?_
  refine a7 ?_
  cases h
  exact⟨J,[_,_],⟨oL J J J Ty.U6 Ty.O0 nl J,⟨J,tr⟩⟩,J,io⟩
 ·refine a8 ?_
  refine dr [] Ty.mix (by kernel_rfl) (by kernel_rfl)<|S7 11 J<|s6 h λv2 hv2 h=>d2 J (D3 J K0 J hv2) J<|s6 h λv3 hv3 h=>d2f J (y8 J b3E J hv3) J<|S7 2 J<|Z7 (x':=hold_Heap.Pv v3.1) (cl':=true) J J (.inr J) Ty.O0<|S8 1 J<|a7 ?_
  cases h
  exact⟨J,[_,_],⟨oL J J J Ty.U6 Ty.O0 nl J,⟨J,tr⟩⟩,J,io⟩

theorem b3c{a0 a1}:PO Tryz.prog 253 [queue_Queue_task_Task.Pv a0,.I a1] (a7C a0 a1) λr=>.fn (.func 303) [.rptr (queue_Queue_task_Task.Pc r.1),.rptr [.I r.2]]:=by
 refine pO Tryz.func253 λr h _ _=>?_
 unfold a7C at h
 refine S4 3 J<|S4 2 J<|a7 ?_
 cases h
 exact f1

theorem b3W{a0 a1}:PO Tryz.prog 261 [queue_Queue_task_Task.Pv a0,.I a1] (a1C a0 a1) λr=>.bool r:=by
 refine pO Tryz.func261 λr h _ _=>?_
 refine S4 3 J ?_
 refine jq h (λ_=>St.of [(4,.ptr 2001 0 0)] [(2001,vR (.bool false) 1)]) (λq7 h=>?_) λκ6 h=>?_
 ·refine S4 1 J ?_
  refine a7 ?_
  cases h
  exact⟨J,[_],⟨oS J J J Ty.a4 J,tr⟩,J,io⟩
 ·refine S3 1 J ?_
  refine cF h b3c J J λv8 _ h=>yN<|b9<|a2m (WPE (λl=>if l=2003 then 4 else if l=2004 then 3 else l) [(3,.ptr 2004 0 0),(4,.ptr 2003 0 0),(7,.fn (.func 303) [.rptr (queue_Queue_task_Task.Pc v8.1),.rptr [.I v8.2]])] [(2003,vR (.bool false) 1),(2004,vR (.I a1) 1)]) ?_
  refine a0b (fn:=Tryz.f303) (N1:=24) J Tryz.func303 J J nl J Ty.c73 J J (λl16 e17 o18 hR19=>?_)
  refine S3 2 J<|nL J Ty.e30<|S2 1 J<|b9<|lq h (λs10=>St.of [(1000003,.ptr 2004 0 0),(1000004,.ptr 2003 0 0),(1000007,.fn (.func 303) [.rptr (queue_Queue_task_Task.Pc v8.1),.rptr [.I v8.2]]),(0,.fn (.yield l16) []),(2,.rptr [.I v8.2]),(7,.L task_Task.Pv v8.1.L),(8,.I (v8.1.L.length:Int)),(9,.I s10)] [(2003,vR (.bool false) 1),(2004,vR (.I a1) 1)]) W λs10 x11 h hx22=>S4 1 J<|g5 ?_
  refine cN h (λhc h=>?_) λhc h=>?_
  ·refine a8 ?_
   refine g5<|b9<|sR<|iL h J J Ty.e30 Ty.b3R λv12 _ h=>S2 3 J<|S3 5 J<|b8 J (λhg=>om (d:=.fn (.yield l16) []) J)<|b8 J (λhg=>oL J J J Ty.c5L Ty.b3R nl J) ?_
   rcases Bool.eq_false_or_eq_true ((v12.Kind==v8.2)==true) with hg24 | hg24
   ·have h:=ifT h hg24
    refine L1 (WE [(1000003,.ptr 2004 0 0),(1000004,.ptr 2003 0 0),(1000007,.fn (.func 303) [.rptr (queue_Queue_task_Task.Pc v8.1),.rptr [.I v8.2]]),(0,.fn (.yield l16) []),(2,.rptr [.I v8.2]),(7,.L task_Task.Pv v8.1.L),(8,.I (v8.1.L.length:Int)),(9,.I s10),(17,.bool (v12.Kind==v8.2)),(18,.fn (.yield l16) []),(19,task_Task.Pv v12)] [(2003,vR (.bool false) 1),(2004,vR (.I a1) 1)]) ?_
    refine a3T hR19 (congrArg some hg24) J J J J J (λe25 o26 o27=>?_)
    refine S6 2 J ?_
    refine⟨J,?_⟩
    refine b9<|S4 4 J ?_
    refine cN h (λhc h=>?_) λhc h=>?_
    ·refine S4 1 J ?_
     refine a7 ?_
     refine⟨J,?_⟩
     refine L1 (WE [(1000003,.ptr 2004 0 0),(1000004,.ptr 2003 0 0),(1000007,.fn (.func 303) [.rptr (queue_Queue_task_Task.Pc v8.1),.rptr [.I v8.2]]),(0,.fn (.yield l16) []),(2,.rptr [.I v8.2]),(7,.L task_Task.Pv v8.1.L),(8,.I (v8.1.L.length:Int)),(9,.I s10),(17,.bool (v12.Kind==v8.2)),(20,.bool false)] [(2003,vR (.bool true) 1),(2004,vR (.I a1) 1)])<|y0 (congrArg some hg24) (a0C J J)<|y0 J (a7j J J hg24)<|yN ?_
     refine F8 true J (λ_=>?_) (λq=>nomatch q)
     refine a7 ?_
     refine .inr ⟨.ret,J,c3W ?_⟩
     have h:=xL hx22 h
     cases h
     exact⟨J,[_],⟨oS J J J Ty.a4 J,tr⟩,J,io⟩
    ·refine a8 ?_
     refine⟨J,?_⟩
     refine L1 (WE [(1000003,.ptr 2004 0 0),(1000004,.ptr 2003 0 0),(1000007,.fn (.func 303) [.rptr (queue_Queue_task_Task.Pc v8.1),.rptr [.I v8.2]]),(0,.fn (.yield l16) []),(2,.rptr [.I v8.2]),(7,.L task_Task.Pv v8.1.L),(8,.I (v8.1.L.length:Int)),(9,.I s10),(17,.bool (v12.Kind==v8.2)),(20,.bool true)] [(2003,vR (.bool false) 1),(2004,vR (.I a1) 1)])<|y0 (congrArg some hg24) (a0C J J)<|y0 J (a7j J J hg24)<|yN ?_
     refine F8 false J (λq=>nomatch q) (λ_=>?_)
     refine a8<|S6 2 J ?_
     exact eL h W
   ·have h:=ifF h hg24
    refine a1f (congrArg some hg24)<|a1f (congrArg some hg24)<|y0 J (a7i J J hg24)<|yN ?_
    refine F8 false J (λq=>nomatch q) (λ_=>?_)
    refine a8<|S6 2 J ?_
    exact eL h W
  ·refine k8 ?_
   refine b7<|b7<|g8 ?_
   refine .inl ⟨J,?_⟩
   have h:=xL hx22 h
   exact eJ h (WP (λl=>if l=2001 then 2003 else l))

theorem b1o{a0 a1}:PO Tryz.prog 265 [.L weak_Cell.Pv a0,.I a1] (a4O a0 a1) λr=>.bool r:=by
 refine pO Tryz.func265 λr h _ _=>?_
 unfold a4O at h
 refine S4 1 J<|S3 3 J<|b8 J (λhg=>mI J)<|b8 J (λhg=>om (d:=.L weak_Cell.Pv a0) J)<|b8 J (λhg=>M0 (f:=weak_Cell.Pv) (ct hg) Ty.e28)<|b8 J (λhg=>j8 (ct hg) (ct hg) J)<|y0 J (l7 J J J (λq=>L5 q))<|S2 1 J<|a7 ?_
 cases h
 exact f1

theorem a5Z{a0}:PON Tryz.prog 309 [.L weak_Cell.Pv a0] (W9 a0) λr=>⟨List.map weak_Cell.Pv r,0,true,3,true⟩:=by
 refine pON Tryz.func309 λr h _ _=>?_
 unfold W9 at h
 refine S4 1 J<|S3 1 J<|nL J Ty.e28<|s6 h λv1 hv1 h=>y1 J (b8c (f:=weak_Cell.Pv) hv1 J J J Ty.e28 Ty.s84 Ty.z84 Ty.b84 J J J) J<|S2 1 J<|S3 2 J<|s6 h λv2 hv2 h=>c8M (f:=weak_Cell.Pv) hv2 J J J (.inl ⟨_,J,J⟩) Ty.e28 Ty.s84 (λ_=>J) (by decide)<|yN<|S4 2 J<|a7 ?_
 cases h
 exact⟨J,_,_,J,J,J,J⟩

theorem b7w{a0 a1 a2 a3}:PO Tryz.prog 262 [.L weak_Cell.Pv a0,.I a1,.I a2,.I a3] (a62 a0 a1 a2 a3) λr=>.tup [.L weak_Cell.Pv r.1,.I r.2.1,.I r.2.2]:=by
 refine pO Tryz.func262 λr h _ _=>?_
 refine S4 3 J<|g5<|S3 2 J<|cA h b1o J J λv1 _ h=>S2 1 J ?_
 refine cN h (λhc h=>?_) λhc h=>?_
 ·refine S4 4 J ?_
  refine a7 ?_
  cases h
  exact f3
 ·refine a8 ?_
  refine S3 1 J<|s6 h λv2 hv2 h=>ycN J (b4l J a5Z J hv2) J J<|S2 1 J<|S3 6 J<|y0 J (m7 (cs:=[.I a2,.bool (a2 != 0),.I a3]) J Ty.p84 Ty.z84 J J J)<|s6 h λv3 hv3 h=>y0 J (a2Y (f:=weak_Cell.Pv) hv3 J J J J Ty.e28 Ty.s84 J)<|b0i (f:=weak_Cell.Pv) (v:=(⟨a2,(a2 != 0),a3⟩:weak_Cell)) hv3 J J (.inl J) Ty.s84<|yN<|dr [] Ty.mix (by kernel_rfl) (by kernel_rfl)<|S7 3 J<|s6 h λv4 hv4 h=>d0 J (A3 (f:=weak_Cell.Pv) (cs:=weak_Cell.Pc v4) hv4 J J Ty.e28 Ty.s84 J J) J<|S8 5 J<|a7 ?_
  cases h
  exact f3

theorem a6s{a0 a1 a2}:PO Tryz.prog 264 [hold_Heap.Pv a0,.I a1,.I a2] (W0 a0 a1 a2) λr=>hold_Heap.Pv r:=by
 refine pO Tryz.func264 λr h _ _=>?_
 refine S4 2 J<|S3 4 J<|cA h D9 J J λv1 _ h=>S2 5 J<|g5<|S4 2 J ?_
 refine cN h (λhc h=>?_) λhc h=>?_
 ·refine S3 5 J ?_
  refine iL h J J Ty.e22 Ty.a4I λv2 _ h=>S2 4 J<|S4 6 J<|S5 4 J<|cF h Y5 J J λv3 _ h=>S2 5 J<|S4 2 J<|a7 ?_
  cases h
  exact⟨J,[_],⟨oL J J J Ty.U6 Ty.O0 nl J,tr⟩,J,io⟩
 ·refine a8 ?_
  refine S4 2 J<|a7 ?_
  cases h
  exact⟨J,[_],⟨oL J J J Ty.U6 Ty.O0 nl J,tr⟩,J,io⟩

theorem a1a{a0 a1}:PO Tryz.prog 277 [slab_Slab_store_Obj.Pv a0,.I a1] (K2 a0 a1) λr=>.tup [slab_Slab_store_Obj.Pv r.1,.I r.2]:=by
 refine pO Tryz.func277 λr h _ _=>?_
 refine S4 3 J<|S3 2 J<|cA h D9 J J λv1 _ h=>S2 5 J<|g5<|S4 2 J ?_
 refine cN h (λhc h=>?_) λhc h=>?_
 ·refine S4 4 J ?_
  refine a7 ?_
  cases h
  exact⟨J,[_,_],⟨oL J J J Ty.a24 Ty.s24 nl J,⟨J,tr⟩⟩,J,io⟩
 ·refine a8 ?_
  refine S3 3 J<|iL h J J Ty.e22 Ty.a4I λv2 _ h=>S2 3 J<|g5<|S4 4 J ?_
  refine cN h (λhc h=>?_) λhc h=>?_
  ·refine S3 3 J ?_
   refine y0 J (m7 (cs:=[.I 3,.I v2.Gen,.I 0,.I 0,.I 0,.I 0,.bool false,.nl]) J Ty.c4t Ty.c0K J J J)<|cF h F9 J J λv3 _ h=>S2 2 J<|a7 ?_
   cases h
   exact⟨J,[_,_],⟨oL J J J Ty.a24 Ty.s24 nl J,⟨J,tr⟩⟩,J,io⟩
  ·refine a8 ?_
   refine S3 4 J<|y0 J (m7 (cs:=[.I 0,.I (s7 (v2.Gen+1)),.I 0,.I 0,.I 0,.I 0,.bool false,.nl]) J Ty.c4t Ty.c0K J J J)<|cF h F9 J J λv4 _ h=>S2 2 J<|a7 ?_
   cases h
   exact⟨J,[_,_],⟨oL J J J Ty.a24 Ty.s24 nl J,⟨J,tr⟩⟩,J,io⟩

theorem b0A{a0 a1}:PO Tryz.prog 263 [hold_Heap.Pv a0,.I a1] (a0a a0 a1) λr=>hold_Heap.Pv r:=by
 refine pO Tryz.func263 λr h _ _=>?_
 refine S4 2 J<|S3 2 J<|cF h a6s J J λv1 _ h=>S2 1 J<|S3 4 J<|cA h D9 J J λv2 _ h=>S2 5 J<|g5<|S4 2 J ?_
 refine cN h (λhc h=>?_) λhc h=>?_
 ·refine S4 2 J ?_
  refine a7 ?_
  cases h
  exact⟨J,[_],⟨oL J J J Ty.U6 Ty.O0 nl J,tr⟩,J,io⟩
 ·refine a8 ?_
  refine g5<|S3 5 J<|iL h J J Ty.e22 Ty.a4I λv3 _ h=>S2 3 J<|S3 4 J<|b8 J (λhg=>oF J Ty.b4M J)<|b8 J (λhg=>oF (ct hg) Ty.b7L J)<|b8 J (λhg=>oS (ct hg) J J Ty.a3 J)<|b8 J (λhg=>j8 (ct hg) J J)<|y0 J (l7 J J J (λq=>L5 q))<|yN ?_
  refine cN h (λhc h=>?_) λhc h=>?_
  ·refine S5 4 J ?_
   refine cF h a1a J J λv4 _ h=>S2 6 J<|S4 2 J<|a7 ?_
   cases h
   exact⟨J,[_],⟨oL J J J Ty.U6 Ty.O0 nl J,tr⟩,J,io⟩
  ·refine a8 ?_
   refine S4 2 J<|a7 ?_
   cases h
   exact⟨J,[_],⟨oL J J J Ty.U6 Ty.O0 nl J,tr⟩,J,io⟩

theorem a9e{a0 a1 a2 a3}:PO Tryz.prog 190 [hold_Heap.Pv a0,.I a1,.I a2,.I a3] (P3 a0 a1 a2 a3) λr=>.tup [hold_Heap.Pv r.1,.I r.2]:=by
 refine pO Tryz.func190 λr h _ _=>?_
 unfold P3 at h
 refine S4 3 J<|g5<|S3 3 J<|b8 J (λhg=>mI J)<|b8 J (λhg=>oF J Ty.b35 J)<|b8 J (λhg=>oS (ct hg) J J Ty.a28 J)<|b8 J (λhg=>M0 (f:=weak_Cell.Pv) (ct hg) Ty.e28)<|b8 J (λhg=>j8 (ct hg) (ct hg) J)<|y0 J (o0 J J J (λq=>H3 q))<|S1 1 J<|b8 J (λhg=>oF J Ty.b6q J)<|b8 J (λhg=>oL (ct hg) J J Ty.a32 Ty.s32 nl J)<|b8 J (λhg=>mI J)<|s6 h λv1 hv1 h=>b8 J (λhg=>D3 J b3W (A1 (ct hg) (A1 (ct hg) J)) (D2 hv1 hg))<|y0 J (o0 J J J (λq=>H3 q))<|yN ?_
 refine cN h (λhc h=>?_) λhc h=>?_
 ·refine S4 3 J ?_
  refine a7 ?_
  cases h
  exact⟨J,[_,_],⟨oL J J J Ty.U6 Ty.O0 nl J,⟨J,tr⟩⟩,J,io⟩
 ·refine a8 ?_
  refine g5<|S3 2 J<|cA h L2 J J λv2 _ h=>S2 1 J ?_
  refine cN h (λhc h=>?_) λhc h=>?_
  ·refine S4 3 J ?_
   refine a7 ?_
   cases h
   exact⟨J,[_,_],⟨oL J J J Ty.U6 Ty.O0 nl J,⟨J,tr⟩⟩,J,io⟩
  ·refine a8 ?_
   refine S3 5 J<|cF h b7w J J λv3 _ h=>S2 7 J<|S4 3 J<|S3 2 J<|cF h a6s J J λv4 _ h=>S1 1 J<|cF h b0A J J λv5 _ h=>S2 2 J<|a7 ?_
   cases h
   exact⟨J,[_,_],⟨oL J J J Ty.U6 Ty.O0 nl J,⟨J,tr⟩⟩,J,io⟩

theorem a01{a0}:PO Tryz.prog 101 [n8.Pv a0] (O3 a0) λr=>.tup [hold_Heap.Pv r.1,.I r.2]:=by
 refine pO Tryz.func101 λr h _ _=>?_
 refine S4 3 J<|g5<|S4 4 J ?_
 refine cN h (λhc h=>?_) λhc h=>?_
 ·refine S3 8 J ?_
  refine cF h a9e J J λv1 _ h=>S2 4 J<|a7 ?_
  cases h
  exact⟨J,[_,_],⟨oL J J J Ty.U6 Ty.O0 nl J,⟨J,tr⟩⟩,J,io⟩
 ·refine a8 ?_
  refine S3 5 J<|cA h M2 J J λv2 _ h=>S2 5 J<|g5<|S4 2 J ?_
  refine cN h (λhc h=>?_) λhc h=>?_
  ·refine S4 5 J ?_
   refine a7 ?_
   cases h
   exact⟨J,[_,_],⟨oL J J J Ty.U6 Ty.O0 nl J,⟨J,tr⟩⟩,J,io⟩
  ·refine a8 ?_
   refine S3 9 J<|cF h a9e J J λv3 _ h=>S2 4 J<|a7 ?_
   cases h
   exact⟨J,[_,_],⟨oL J J J Ty.U6 Ty.O0 nl J,⟨J,tr⟩⟩,J,io⟩

theorem b56{a0 a1}:PO Tryz.prog 191 [.L weak_Cell.Pv a0,.I a1] (a4N a0 a1) λr=>.tup [.I r.1,.I r.2]:=by
 refine pO Tryz.func191 λr h _ _=>?_
 refine S4 2 J<|g5<|S3 2 J<|cA h b1o J J λv1 _ h=>S2 1 J ?_
 refine cN h (λhc h=>?_) λhc h=>?_
 ·refine S4 2 J ?_
  refine a7 ?_
  cases h
  exact f2
 ·refine a8 ?_
  refine g5<|S3 2 J<|iL h J J Ty.e28 Ty.s84 λv2 hv2 h=>S1 4 J<|b8 J (λhg=>om (d:=.L weak_Cell.Pv a0) J)<|b8 J (λhg=>mI J)<|b8 J (λhg=>A3 (f:=weak_Cell.Pv) (cs:=weak_Cell.Pc v2) hv2 (ct hg) (ct hg) Ty.e28 Ty.s84 J J)<|b8 J (λhg=>B2 (ct hg) Ty.c5i J)<|b8 J (λhg=>B4 (ct hg) Ty.a4 J)<|b8 J (λhg=>a0C (ct hg) J)<|y0 J (o0 J J J (λq=>H3 q))<|yN ?_
  refine cN h (λhc h=>?_) λhc h=>?_
  ·refine S4 2 J ?_
   refine a7 ?_
   cases h
   exact f2
  ·refine a8 ?_
   refine S3 2 J<|y0 J (A3 (f:=weak_Cell.Pv) (cs:=weak_Cell.Pc v2) hv2 J J Ty.e28 Ty.s84 J J)<|S2 4 J<|a7 ?_
   cases h
   exact f2

theorem a2W{a0}:PO Tryz.prog 102 [n8.Pv a0] (R9 a0) λr=>.tup [hold_Heap.Pv r.1,.I r.2]:=by
 refine pO Tryz.func102 λr h _ _=>?_
 unfold R9 at h
 refine S4 3 J<|dr [] Ty.mix (by kernel_rfl) (by kernel_rfl)<|S7 7 J<|s6 h λv1 hv1 h=>d2 J (D3 J b56 J hv1) J<|S7 2 J<|s6 h λv2 hv2 h=>d2f J (y8 J E6 J hv2) J<|S7 2 J<|Z7 (x':=hold_Heap.Pv v2.1) (cl':=true) J J (.inr J) Ty.O0<|S8 1 J<|a7 ?_
 cases h
 exact⟨J,[_,_],⟨oL J J J Ty.U6 Ty.O0 nl J,⟨J,tr⟩⟩,J,io⟩

theorem a9b{a0 a1}:PO Tryz.prog 297 [.I a0,.I a1] (a2z a0 a1) λr=>.fn (.func 323) [.rptr [.I r.1],.rptr [.I r.2]]:=by
 refine pO Tryz.func297 λr h _ _=>?_
 unfold a2z at h
 refine S4 3 J<|S4 2 J<|a7 ?_
 cases h
 exact f1

theorem a89{a0 a1}:PO Tryz.prog 324 [.I a0,.I a1] (X6 a0 a1) λr=>.I r:=by
 refine pO Tryz.func324 λr h _ _=>?_
 refine S4 1 J<|g5<|S4 2 J ?_
 refine cN h (λhc h=>?_) λhc h=>?_
 ·refine S4 1 J ?_
  refine a7 ?_
  cases h
  exact f1
 ·refine a8 ?_
  refine S3 4 J<|s6 h λv1 hv1 h=>y0 J (a4t J J hv1)<|S2 1 J<|g5<|S4 2 J ?_
  refine cN h (λhc h=>?_) λhc h=>?_
  ·refine S6 4 J ?_
   refine S4 2 J<|a7 ?_
   cases h
   exact f1
  ·refine a8 ?_
   refine S4 2 J<|a7 ?_
   cases h
   exact f1

theorem a2r{a0 a1}:PO Tryz.prog 242 [.L hash_Place.Pv a0,.I a1] (J4 a0 a1) λr=>.I r:=by
 refine pO Tryz.func242 λr h _ _=>?_
 refine S4 3 J ?_
 refine jq h (λ_=>St.of [(4,.ptr 2001 0 0)] [(2001,vR (.I 0) 1)]) (λq9 h=>?_) λκ8 h=>?_
 ·refine S4 1 J ?_
  refine a7 ?_
  cases h
  exact⟨J,[_],⟨oS J J J Ty.a3 J,tr⟩,J,io⟩
 ·refine S3 1 J ?_
  refine nL J Ty.e29<|S1 1 J<|cF h a9b J J λv10 _ h=>yN<|b9<|a2m (WPE (λl=>if l=2004 then 4 else if l=2005 then 3 else if l=2006 then 2 else l) [(2,.ptr 2006 0 0),(3,.ptr 2005 0 0),(4,.ptr 2004 0 0),(9,.fn (.func 323) [.rptr [.I v10.1],.rptr [.I v10.2]])] [(2004,vR (.I 0) 1),(2005,vR (.I a1) 1),(2006,vR (.L hash_Place.Pv a0) 1)]) ?_
  refine a0b (fn:=Tryz.f323) (N1:=20) J Tryz.func323 J J nl J Ty.c75 J J (λl17 e18 o19 hR20=>?_)
  refine S4 2 J<|b9<|lq h (λs12=>St.of [(1000002,.ptr 2006 0 0),(1000003,.ptr 2005 0 0),(1000004,.ptr 2004 0 0),(1000009,.fn (.func 323) [.rptr [.I v10.1],.rptr [.I v10.2]]),(0,.fn (.yield l17) []),(1,.rptr [.I v10.1]),(2,.rptr [.I v10.2]),(5,.I v10.1),(6,.I s12)] [(2004,vR (.I 0) 1),(2005,vR (.I a1) 1),(2006,vR (.L hash_Place.Pv a0) 1)]) W λs12 x13 h hx23=>S4 1 J<|g5 ?_
  refine cN h (λhc h=>?_) λhc h=>?_
  ·refine a8 ?_
   refine g5<|b9<|S4 2 J<|drY [] 8 Ty.mix (by kernel_rfl) (by kernel_rfl) (by kernel_rfl) (by kernel_rfl) nl<|S7 3 J<|s6 h λv14 hv24 h=>d2 J (D3 J a89 J hv24) J<|S7 3 J<|s6 h λv15 hv25 h=>d7 J (λ_ hN=>a4t J J hv25) J<|a0M<|c2u (WE [(1000002,.ptr 2006 0 0),(1000003,.ptr 2005 0 0),(1000004,.ptr 2004 0 0),(1000009,.fn (.func 323) [.rptr [.I v10.1],.rptr [.I v10.2]]),(0,.fn (.yield l17) []),(1,.rptr [.I v10.1]),(2,.rptr [.I v10.2]),(5,.I v10.1),(6,.I s12),(9,.fn (.yield l17) []),(16,.I v15)] [(2004,vR (.I 0) 1),(2005,vR (.I a1) 1),(2006,vR (.L hash_Place.Pv a0) 1)]) ?_
   refine b3p J hR20 J J J J J J (λe26 o27 o28=>?_)
   refine S6 1 J ?_
   refine⟨J,?_⟩
   refine b9<|g5<|S3 2 J<|iL h J J Ty.e29 Ty.a8G λv16 hv29 h=>S2 3 J ?_
   refine cN h (λhc h=>?_) λhc h=>?_
   ·refine k8 ?_
    refine b7<|a8V (by decide) ?_
    refine⟨J,?_⟩
    refine⟨_,b3n [(1000002,.ptr 2006 0 0),(1000003,.ptr 2005 0 0),(1000004,.ptr 2004 0 0),(1000009,.fn (.func 323) [.rptr [.I v10.1],.rptr [.I v10.2]]),(0,.fn (.yield l17) []),(1,.rptr [.I v10.1]),(2,.rptr [.I v10.2]),(5,.I v10.1),(6,.I s12),(17,.bool false)] [(2004,vR (.I 0) 1),(2005,vR (.I a1) 1),(2006,vR (.L hash_Place.Pv a0) 1)] ⟨J,J,J,J,J,J,J,J,J,J,J,J,J,J,J,J,J,J,J,J,J,J,J,J,J,J,J,J,J,J,tr⟩ ⟨rS,rS,rS,tr⟩,?_⟩
    refine S8 1 J ?_
    refine F8 true J (λ_=>?_) (λq=>nomatch q)
    refine a7 ?_
    refine .inr ⟨.exit 0,J,c9P ?_⟩
    refine g8 ?_
    have h:=xL hx23 h
    exact eJ h (WP (λl=>if l=2001 then 2004 else l))
   ·refine a8 ?_
    refine dr [] Ty.mix (by kernel_rfl) (by kernel_rfl)<|S7 2 J<|d0 J (A3 (f:=hash_Place.Pv) (cs:=hash_Place.Pc v16) hv29 J J Ty.e29 Ty.a8G J J) J<|S7 4 J<|D0 J (λhg=>oS J J J Ty.a29 J) J<|r9 J (λhg _ hN=>mI J) J<|D0 J (λhg=>A3 (f:=hash_Place.Pv) (cs:=hash_Place.Pc v16) hv29 (ct hg) (ct hg) Ty.e29 Ty.a8G J J) J<|r9 J (λhg _ hN=>B2 (ct hg) Ty.c1h J) J<|D0 J (λhg=>B4 (ct hg) Ty.a3 J) J<|D0 J (λhg=>oS J J J Ty.a3 J) J<|r9 J (λhg _ hN=>j8 (ct hg) (ct hg) J) J<|d7 J (λ_ hN=>l7 J J J (λq=>L5 q)) J<|a0M ?_
    refine cN h (λhc h=>?_) λhc h=>?_
    ·refine S4 2 J ?_
     refine a7 ?_
     refine⟨J,?_⟩
     refine⟨_,b3n [(1000002,.ptr 2006 0 0),(1000003,.ptr 2005 0 0),(1000004,.ptr 2004 0 0),(1000009,.fn (.func 323) [.rptr [.I v10.1],.rptr [.I v10.2]]),(0,.fn (.yield l17) []),(1,.rptr [.I v10.1]),(2,.rptr [.I v10.2]),(5,.I v10.1),(6,.I s12),(17,.bool false)] [(2004,vR (.I v15) 1),(2005,vR (.I a1) 1),(2006,vR (.L hash_Place.Pv a0) 1)] ⟨J,J,J,J,J,J,J,J,J,J,J,J,J,J,J,J,J,J,J,J,J,J,J,J,J,J,J,J,J,J,tr⟩ ⟨rS,rS,rS,tr⟩,?_⟩
     refine S8 1 J ?_
     refine F8 true J (λ_=>?_) (λq=>nomatch q)
     refine a7 ?_
     refine .inr ⟨.ret,J,c3W ?_⟩
     have h:=xL hx23 h
     cases h
     exact⟨J,[_],⟨oS J J J Ty.a3 J,tr⟩,J,io⟩
    ·refine a8 ?_
     refine⟨J,?_⟩
     refine⟨_,b3n [(1000002,.ptr 2006 0 0),(1000003,.ptr 2005 0 0),(1000004,.ptr 2004 0 0),(1000009,.fn (.func 323) [.rptr [.I v10.1],.rptr [.I v10.2]]),(0,.fn (.yield l17) []),(1,.rptr [.I v10.1]),(2,.rptr [.I v10.2]),(5,.I v10.1),(6,.I s12),(17,.bool true)] [(2004,vR (.I 0) 1),(2005,vR (.I a1) 1),(2006,vR (.L hash_Place.Pv a0) 1)] ⟨J,J,J,J,J,J,J,J,J,J,J,J,J,J,J,J,J,J,J,J,J,J,J,J,J,J,J,J,J,J,tr⟩ ⟨rS,rS,rS,tr⟩,?_⟩
     refine S8 1 J ?_
     refine F8 false J (λq=>nomatch q) (λ_=>?_)
     refine a8<|S6 2 J ?_
     exact eL h W
  ·refine k8 ?_
   refine b7<|b7<|g8 ?_
   refine .inl ⟨J,?_⟩
   have h:=xL hx23 h
   exact eJ h (WP (λl=>if l=2001 then 2004 else l))

theorem a3A{a0 a1}:PO Tryz.prog 268 [.L hash_Place.Pv a0,.I a1] (I6 a0 a1) λr=>.tup [.I r.1,.I r.2]:=by
 refine pO Tryz.func268 λr h _ _=>?_
 refine S4 2 J<|S3 2 J<|cA h a2r J J λv1 _ h=>S2 1 J<|g5<|S4 2 J ?_
 refine cN h (λhc h=>?_) λhc h=>?_
 ·refine S4 2 J ?_
  refine a7 ?_
  cases h
  exact f2
 ·refine a8 ?_
  refine S3 2 J<|iL h J J Ty.e29 Ty.a8G λv2 _ h=>S2 4 J<|a7 ?_
  cases h
  exact f2

theorem W5{a0}:PON Tryz.prog 331 [.L hash_Place.Pv a0] (C3 a0) λr=>⟨List.map hash_Place.Pv r,0,true,3,true⟩:=by
 refine pON Tryz.func331 λr h _ _=>?_
 unfold C3 at h
 refine S4 1 J<|g5<|S3 1 J<|b6a J Ty.e29 λb hb=>yN ?_
 refine F8 b J (λhc=>?_) (λhc=>?_)
 ·obtain rfl:a0 = []:=by simpa using hb hc
  refine S4 1 J<|a2m (I0 (t:=2) (l:=920000) (z:=3) J J)<|a7 ?_
  cases h
  exact⟨J,_,_,J,J,J,J⟩
 ·refine a8 ?_
  refine sR<|y0 J (F7 J Ty.e29 Ty.a8G)<|S1 1 J<|y1 J (b2A (f:=hash_Place.Pv) h J J (.inl ⟨_,J,J⟩) Ty.e29 Ty.a8G Ty.c7L Ty.c0L J (λ_=>J)) J<|S2 1 J<|a7 ?_
  exact⟨J,_,_,J,J,J,J⟩

theorem a40{a0 a1 a2}:PO Tryz.prog 317 [.L hash_Place.Pv a0,.I a1,hash_Place.Pv a2] (a0z a0 a1 a2) λr=>.L hash_Place.Pv r:=by
 refine pO Tryz.func317 λr h _ _=>?_
 unfold a0z at h
 refine S4 2 J<|S3 1 J<|s6 h λv1 hv1 h=>ycN J (b4l J W5 J hv1) J J<|S2 1 J<|S3 3 J<|s6 h λv2 hv2 h=>y0 J (a2Y (f:=hash_Place.Pv) hv2 J J J J Ty.e29 Ty.a8G J)<|b0i (f:=hash_Place.Pv) (v:=a2) hv2 J J (.inl J) Ty.a8G<|yN<|S4 2 J<|a7 ?_
 cases h
 exact f1

theorem a88{a0 a1}:PO Tryz.prog 275 [.L hash_Place.Pv a0,.I a1] (T1 a0 a1) λr=>.tup [.L hash_Place.Pv r.1,.I r.2.1,.I r.2.2]:=by
 refine pO Tryz.func275 λr h _ _=>?_
 refine S4 3 J<|S3 2 J<|cA h a2r J J λv1 _ h=>S2 1 J<|g5<|S4 2 J ?_
 refine cN h (λhc h=>?_) λhc h=>?_
 ·refine S4 4 J ?_
  refine a7 ?_
  cases h
  exact f3
 ·refine a8 ?_
  refine dr [] Ty.mix (by kernel_rfl) (by kernel_rfl)<|S7 2 J<|d7 J (λ_ hN=>m7 (cs:=[.I 2,.I 0,.I 0]) J Ty.c4u Ty.c0L J J J) J<|s6 h λv2 hv2 h=>d2f J (y8 J a40 J hv2) J<|S7 2 J<|s6 h λv3 hv3 h=>d0 J (A3 (f:=hash_Place.Pv) (cs:=hash_Place.Pc v3) hv3 J J Ty.e29 Ty.a8G J J) J<|S8 5 J<|a7 ?_
  cases h
  exact f3

theorem b6A{a0 a1 a2}:PO Tryz.prog 310 [.L hash_Place.Pv a0,.I a1,.I a2] (a6q a0 a1 a2) λr=>.tup [.L hash_Place.Pv r.1,.I r.2]:=by
 refine pO Tryz.func310 λr h _ _=>?_
 refine S4 3 J<|S3 2 J<|y0 J (m7 (cs:=[.I 1,.I a1,.I a2]) J Ty.c4u Ty.c0L J J J)<|S2 2 J<|g5<|S3 2 J<|cA h a2r J J λv1 _ h=>S2 1 J<|S4 2 J ?_
 refine cN h (λhc h=>?_) λhc h=>?_
 ·refine S3 3 J ?_
  refine cF h a40 J J λv2 _ h=>S2 2 J<|a7 ?_
  cases h
  exact⟨J,[_,_],⟨oS J J J Ty.a29 J,⟨oS J J J Ty.a39 J,tr⟩⟩,J,io⟩
 ·refine a8 ?_
  refine jq h (λ_=>St.of [(3,.ptr 2004 0 0),(6,.ptr 2003 0 0),(7,.ptr 2002 0 0)] [(2002,vR (.I 0) 1),(2003,vR (.nl) 1),(2004,vR (.L hash_Place.Pv a0) 1)]) (λq12 h=>?_) λκ11 h=>?_
  ·refine S4 3 J ?_
   refine a7 ?_
   cases h
   exact⟨J,[_,_],⟨oS J J J Ty.a29 J,⟨oS J J J Ty.a39 J,tr⟩⟩,J,io⟩
  ·refine S3 1 J ?_
   refine nL J Ty.e29<|S1 1 J<|cF h a9b J J λv13 _ h=>yN<|b9<|a2m (WPE (λl=>if l=2005 then 8 else if l=2006 then 7 else if l=2007 then 6 else if l=2008 then 3 else l) [(3,.ptr 2008 0 0),(6,.ptr 2007 0 0),(7,.ptr 2006 0 0),(8,.ptr 2005 0 0),(26,.fn (.func 323) [.rptr [.I v13.1],.rptr [.I v13.2]])] [(2005,vR (.agg [.I 1,.I a1,.I a2]) 3),(2006,vR (.I 0) 1),(2007,vR (.nl) 1),(2008,vR (.L hash_Place.Pv a0) 1)]) ?_
   refine a0b (fn:=Tryz.f323) (N1:=20) J Tryz.func323 J J nl J Ty.c75 J J (λl20 e21 o22 hR23=>?_)
   refine S4 2 J<|b9<|lq h (λs15=>St.of [(1000003,.ptr 2008 0 0),(1000006,.ptr 2007 0 0),(1000007,.ptr 2006 0 0),(1000008,.ptr 2005 0 0),(1000026,.fn (.func 323) [.rptr [.I v13.1],.rptr [.I v13.2]]),(0,.fn (.yield l20) []),(1,.rptr [.I v13.1]),(2,.rptr [.I v13.2]),(5,.I v13.1),(6,.I s15)] [(2005,vR (.agg [.I 1,.I a1,.I a2]) 3),(2006,vR (.I 0) 1),(2007,vR (.nl) 1),(2008,vR (.L hash_Place.Pv a0) 1)]) W λs15 x16 h hx26=>S4 1 J<|g5 ?_
   refine cN h (λhc h=>?_) λhc h=>?_
   ·refine a8 ?_
    refine g5<|b9<|S4 2 J<|drY [] 8 Ty.mix (by kernel_rfl) (by kernel_rfl) (by kernel_rfl) (by kernel_rfl) nl<|S7 3 J<|s6 h λv17 hv27 h=>d2 J (D3 J a89 J hv27) J<|S7 3 J<|s6 h λv18 hv28 h=>d7 J (λ_ hN=>a4t J J hv28) J<|a0M<|c2u (WE [(1000003,.ptr 2008 0 0),(1000006,.ptr 2007 0 0),(1000007,.ptr 2006 0 0),(1000008,.ptr 2005 0 0),(1000026,.fn (.func 323) [.rptr [.I v13.1],.rptr [.I v13.2]]),(0,.fn (.yield l20) []),(1,.rptr [.I v13.1]),(2,.rptr [.I v13.2]),(5,.I v13.1),(6,.I s15),(9,.fn (.yield l20) []),(16,.I v18)] [(2005,vR (.agg [.I 1,.I a1,.I a2]) 3),(2006,vR (.I 0) 1),(2007,vR (.nl) 1),(2008,vR (.L hash_Place.Pv a0) 1)]) ?_
    refine b3p J hR23 J J J J J J (λe29 o30 o31=>?_)
    refine S6 1 J ?_
    refine⟨J,?_⟩
    refine b9<|S3 2 J<|iL h J J Ty.e29 Ty.a8G λv19 _ h=>S2 3 J ?_
    refine cN h (λhc h=>?_) λhc h=>?_
    ·refine S3 3 J ?_
     refine cF h a40 J J λv20 _ h=>S2 2 J<|a7 ?_
     refine⟨J,?_⟩
     refine⟨_,b3n [(1000003,.ptr 2008 0 0),(1000006,.ptr 2007 0 0),(1000007,.ptr 2006 0 0),(1000008,.ptr 2005 0 0),(1000026,.fn (.func 323) [.rptr [.I v13.1],.rptr [.I v13.2]]),(0,.fn (.yield l20) []),(1,.rptr [.I v13.1]),(2,.rptr [.I v13.2]),(5,.I v13.1),(6,.I s15),(17,.bool false)] [(2005,vR (.agg [.I 1,.I a1,.I a2]) 3),(2006,vR (.I 0) 1),(2007,vR (.L hash_Place.Pv v20) 1),(2008,vR (.L hash_Place.Pv a0) 1)] ⟨J,J,J,J,J,J,J,J,J,J,J,J,J,J,J,J,J,J,J,J,J,J,J,J,J,J,J,J,J,J,J,J,J,tr⟩ ⟨rS,rS,rS,rS,tr⟩,?_⟩
     refine S8 1 J ?_
     refine F8 true J (λ_=>?_) (λq=>nomatch q)
     refine a7 ?_
     refine .inr ⟨.ret,J,c3W ?_⟩
     have h:=xL hx26 h
     cases h
     exact⟨J,[_,_],⟨oS J J J Ty.a29 J,⟨oS J J J Ty.a39 J,tr⟩⟩,J,io⟩
    ·refine a8 ?_
     refine⟨J,?_⟩
     refine⟨_,b3n [(1000003,.ptr 2008 0 0),(1000006,.ptr 2007 0 0),(1000007,.ptr 2006 0 0),(1000008,.ptr 2005 0 0),(1000026,.fn (.func 323) [.rptr [.I v13.1],.rptr [.I v13.2]]),(0,.fn (.yield l20) []),(1,.rptr [.I v13.1]),(2,.rptr [.I v13.2]),(5,.I v13.1),(6,.I s15),(17,.bool true)] [(2005,vR (.agg [.I 1,.I a1,.I a2]) 3),(2006,vR (.I 0) 1),(2007,vR (.nl) 1),(2008,vR (.L hash_Place.Pv a0) 1)] ⟨J,J,J,J,J,J,J,J,J,J,J,J,J,J,J,J,J,J,J,J,J,J,J,J,J,J,J,J,J,J,J,J,J,tr⟩ ⟨rS,rS,rS,rS,tr⟩,?_⟩
     refine S8 1 J ?_
     refine F8 false J (λq=>nomatch q) (λ_=>?_)
     refine a8<|S6 2 J ?_
     exact eL h W
   ·refine k8 ?_
    refine b7<|b7<|g8 ?_
    refine .inl ⟨J,?_⟩
    have h:=xL hx26 h
    exact eJ h (WP (λl=>if l=2004 then 2008 else if l=2003 then 2007 else if l=2002 then 2006 else l))

theorem b4L{a0 a1 a2}:PO Tryz.prog 266 [.L hash_Place.Pv a0,.I a1,.I a2] (P1 a0 a1 a2) λr=>.tup [.L hash_Place.Pv r.1,.I r.2.1,.I r.2.2]:=by
 refine pO Tryz.func266 λr h _ _=>?_
 refine S4 3 J<|g5<|S4 2 J ?_
 refine cN h (λhc h=>?_) λhc h=>?_
 ·refine S4 4 J ?_
  refine a7 ?_
  cases h
  exact f3
 ·refine a8 ?_
  refine S3 2 J<|cA h a3A J J λv1 _ h=>S2 5 J<|g5<|S4 2 J ?_
  refine cN h (λhc h=>?_) λhc h=>?_
  ·refine S3 2 J ?_
   refine cF h a88 J J λv2 _ h=>S2 7 J<|S4 5 J<|a7 ?_
   cases h
   exact f3
  ·refine a8 ?_
   refine S3 3 J<|cF h b6A J J λv3 _ h=>S2 5 J<|g5<|S4 2 J ?_
   refine cN h (λhc h=>?_) λhc h=>?_
   ·refine S4 5 J ?_
    refine a7 ?_
    cases h
    exact f3
   ·refine a8 ?_
    refine S4 5 J<|a7 ?_
    cases h
    exact f3

theorem a57{a0 a1}:PO Tryz.prog 267 [F3.Pv a0,hold_Heap.Pv a1] (R1 a0 a1) λr=>hold_Heap.Pv r:=by
 refine pO Tryz.func267 λr h _ _=>?_
 unfold R1 at h
 refine S4 3 J<|S4 4 J<|S4 2 J<|a7 ?_
 cases h
 exact⟨J,[_],⟨oL J J J Ty.U6 Ty.O0 nl J,tr⟩,J,io⟩

theorem a0p{a0 a1 a2 a3}:PO Tryz.prog 259 [hold_Heap.Pv a0,.I a1,.I a2,.abs (BFn 267 [F3.Pv a3])] (D4 a0 a1 a2 a3) λr=>hold_Heap.Pv r:=by
 refine pO Tryz.func259 λr h _ _=>?_
 refine S4 2 J<|S3 3 J<|cF h a0S J J λv1 _ h=>s6 h λv2 hv2 h=>b59 (xs:=[hold_Heap.Pv v1]) J J Ty.c9U J (a57.2 _ hv2)<|S1 1 J<|cF h a0l J J λv3 _ h=>S2 1 J<|a7 ?_
 cases h
 exact⟨J,[_],⟨oL J J J Ty.U6 Ty.O0 nl J,tr⟩,J,io⟩

theorem b4V{a0 a1 a2}:PO Tryz.prog 192 [hold_Heap.Pv a0,.I a1,.I a2] (a0A a0 a1 a2) λr=>.tup [hold_Heap.Pv r.1,.I r.2]:=by
 refine pO Tryz.func192 λr h _ _=>?_
 refine S4 3 J<|g5<|S4 2 J ?_
 refine cN h (λhc h=>?_) λhc h=>?_
 ·refine S4 3 J ?_
  refine a7 ?_
  cases h
  exact⟨J,[_,_],⟨oL J J J Ty.U6 Ty.O0 nl J,⟨J,tr⟩⟩,J,io⟩
 ·refine a8 ?_
  refine g5<|S3 2 J<|cA h L2 J J λv1 _ h=>S1 2 J<|b8 J (λhg=>oL J J J Ty.U6 Ty.O0 nl J)<|b8 J (λhg=>mI J)<|s6 h λv2 hv2 h=>b8 J (λhg=>D3 J L2 (A1 (ct hg) (A1 (ct hg) J)) (D2 hv2 hg))<|b8 J (λhg=>a0C (ct hg) J)<|y0 J (o0 J J J (λq=>H3 q))<|yN ?_
  refine cN h (λhc h=>?_) λhc h=>?_
  ·refine S4 3 J ?_
   refine a7 ?_
   cases h
   exact⟨J,[_,_],⟨oL J J J Ty.U6 Ty.O0 nl J,⟨J,tr⟩⟩,J,io⟩
  ·refine a8 ?_
   refine S3 4 J<|cF h b4L J J λv3 _ h=>S2 7 J<|g5<|S4 2 J ?_
   refine cN h (λhc h=>?_) λhc h=>?_
   ·refine S4 4 J ?_
    refine a7 ?_
    cases h
    exact⟨J,[_,_],⟨oL J J J Ty.U6 Ty.O0 nl J,⟨J,tr⟩⟩,J,io⟩
   ·refine a8 ?_
    refine S3 4 J<|y0 J (m7 (cs:=[.L hash_Place.Pv v3.1]) J Ty.c97 Ty.d0q J J J)<|y0 J (b0I (d:=.agg [.L hash_Place.Pv v3.1]) J)<|cF h a0p J J λv4 _ h=>S2 2 J<|a7 ?_
    cases h
    exact⟨J,[_,_],⟨oL J J J Ty.U6 Ty.O0 nl J,⟨J,tr⟩⟩,J,io⟩

theorem a1X{a0}:PO Tryz.prog 103 [n8.Pv a0] (V0 a0) λr=>.tup [hold_Heap.Pv r.1,.I r.2]:=by
 refine pO Tryz.func103 λr h _ _=>?_
 refine S4 3 J<|S3 5 J<|cA h M2 J J λv1 _ h=>S2 5 J<|g5<|S4 2 J ?_
 refine cN h (λhc h=>?_) λhc h=>?_
 ·refine S4 5 J ?_
  refine a7 ?_
  cases h
  exact⟨J,[_,_],⟨oL J J J Ty.U6 Ty.O0 nl J,⟨J,tr⟩⟩,J,io⟩
 ·refine a8 ?_
  refine dr [] Ty.mix (by kernel_rfl) (by kernel_rfl)<|S7 8 J<|s6 h λv2 hv2 h=>d2 J (D3 J K0 J hv2) J<|s6 h λv3 hv3 h=>d2f J (y8 J b4V J hv3) J<|S7 2 J<|Z7 (x':=hold_Heap.Pv v3.1) (cl':=true) J J (.inr J) Ty.O0<|S8 1 J<|a7 ?_
  cases h
  exact⟨J,[_,_],⟨oL J J J Ty.U6 Ty.O0 nl J,⟨J,tr⟩⟩,J,io⟩

theorem b4K{a0 a1}:PO Tryz.prog 193 [.L hash_Place.Pv a0,.I a1] (b0s a0 a1) λr=>.tup [.I r.1,.I r.2]:=by
 refine pO Tryz.func193 λr h _ _=>?_
 refine S4 2 J<|S3 2 J<|cA h a3A J J λv1 _ h=>S2 4 J<|a7 ?_
 cases h
 exact f2

theorem a2k{a0}:PO Tryz.prog 104 [n8.Pv a0] (X8 a0) λr=>.tup [hold_Heap.Pv r.1,.I r.2]:=by
 refine pO Tryz.func104 λr h _ _=>?_
 refine S4 3 J<|S3 5 J<|cA h M2 J J λv1 _ h=>S2 5 J<|g5<|S4 2 J ?_
 refine cN h (λhc h=>?_) λhc h=>?_
 ·refine S4 5 J ?_
  refine a7 ?_
  cases h
  exact⟨J,[_,_],⟨oL J J J Ty.U6 Ty.O0 nl J,⟨J,tr⟩⟩,J,io⟩
 ·refine a8 ?_
  refine dr [] Ty.mix (by kernel_rfl) (by kernel_rfl)<|S7 5 J<|s6 h λv2 hv2 h=>d2 J (D3 J b4K J hv2) J<|S7 2 J<|s6 h λv3 hv3 h=>d2f J (y8 J E6 J hv3) J<|S7 2 J<|Z7 (x':=hold_Heap.Pv v3.1) (cl':=true) J J (.inr J) Ty.O0<|S8 1 J<|a7 ?_
  cases h
  exact⟨J,[_,_],⟨oL J J J Ty.U6 Ty.O0 nl J,⟨J,tr⟩⟩,J,io⟩

theorem a1m{a0}:PO Tryz.prog 105 [n8.Pv a0] (L6 a0) λr=>.tup [hold_Heap.Pv r.1,.I r.2]:=by
 refine pO Tryz.func105 λr h _ _=>?_
 unfold L6 at h
 refine S4 3 J<|S4 4 J<|a7 ?_
 cases h
 exact⟨J,[_,_],⟨oL J J J Ty.U6 Ty.O0 nl J,⟨J,tr⟩⟩,J,io⟩

theorem b7Y{f:Fv}{a0:n8}{r:hold_Heap × Int}(h:b1G f a0=some r):∃n,f=some n∧y9 Tryz.prog n∧O8 Tryz.prog n [n8.Pv a0] (.tup [hold_Heap.Pv r.1,.I r.2]):=by
 unfold b1G at h
 by_cases e96:f=some 96
 ·rw[if_pos e96] at h;exact⟨96,e96,(@a00 a0).1,(@a00 a0).2 _ h⟩
 rw[if_neg e96] at h
 by_cases e97:f=some 97
 ·rw[if_pos e97] at h;exact⟨97,e97,(@Y8 a0).1,(@Y8 a0).2 _ h⟩
 rw[if_neg e97] at h
 by_cases e98:f=some 98
 ·rw[if_pos e98] at h;exact⟨98,e98,(@a1V a0).1,(@a1V a0).2 _ h⟩
 rw[if_neg e98] at h
 by_cases e99:f=some 99
 ·rw[if_pos e99] at h;exact⟨99,e99,(@a1W a0).1,(@a1W a0).2 _ h⟩
 rw[if_neg e99] at h
 by_cases e100:f=some 100
 ·rw[if_pos e100] at h;exact⟨100,e100,(@a1n a0).1,(@a1n a0).2 _ h⟩
 rw[if_neg e100] at h
 by_cases e101:f=some 101
 ·rw[if_pos e101] at h;exact⟨101,e101,(@a01 a0).1,(@a01 a0).2 _ h⟩
 rw[if_neg e101] at h
 by_cases e102:f=some 102
 ·rw[if_pos e102] at h;exact⟨102,e102,(@a2W a0).1,(@a2W a0).2 _ h⟩
 rw[if_neg e102] at h
 by_cases e103:f=some 103
 ·rw[if_pos e103] at h;exact⟨103,e103,(@a1X a0).1,(@a1X a0).2 _ h⟩
 rw[if_neg e103] at h
 by_cases e104:f=some 104
 ·rw[if_pos e104] at h;exact⟨104,e104,(@a2k a0).1,(@a2k a0).2 _ h⟩
 rw[if_neg e104] at h
 by_cases e105:f=some 105
 ·rw[if_pos e105] at h;exact⟨105,e105,(@a1m a0).1,(@a1m a0).2 _ h⟩
 rw[if_neg e105] at h
 cases h

theorem a4e{a0}:PO Tryz.prog 152 [.I a0] (Z6 a0) λr=>.bool r:=by
 refine pO Tryz.func152 λr h _ _=>?_
 unfold Z6 at h
 refine S4 1 J<|S4 4 J<|a7 ?_
 cases h
 exact f1

theorem a8m{a0 a1}:PO Tryz.prog 86 [.I a0,.I a1] (a19 a0 a1) λr=>.I r:=by
 refine pO Tryz.func86 λr h _ _=>?_
 refine S4 1 J<|S3 1 J<|cA h a4e J J λv1 _ h=>S2 1 J<|S3 1 J<|cA h a4e J J λv2 _ h=>S2 1 J<|g5<|S4 1 J ?_
 refine cN h (λhc h=>?_) λhc h=>?_
 ·refine g5 ?_
  refine S4 1 J ?_
  refine cN h (λhc h=>?_) λhc h=>?_
  ·refine S4 1 J ?_
   refine a7 ?_
   cases h
   exact f1
  ·refine a8 ?_
   refine S4 1 J<|a7 ?_
   cases h
   exact f1
 ·refine a8 ?_
  refine g5<|S4 1 J ?_
  refine cN h (λhc h=>?_) λhc h=>?_
  ·refine S4 1 J ?_
   refine a7 ?_
   cases h
   exact f1
  ·refine a8 ?_
   refine g5<|S4 3 J ?_
   refine cN h (λhc h=>?_) λhc h=>?_
   ·refine S4 1 J ?_
    refine a7 ?_
    cases h
    exact f1
   ·refine a8 ?_
    refine g5<|S4 3 J ?_
    refine cN h (λhc h=>?_) λhc h=>?_
    ·refine S4 1 J ?_
     refine a7 ?_
     cases h
     exact f1
    ·refine a8 ?_
     refine S4 1 J<|a7 ?_
     cases h
     exact f1

theorem b1z{a0 a1 a2}:PO Tryz.prog 85 [.I a0,.I a1,.rptr [.abs (a2i (List.map (ent iF iF) a2))]] (a2w a0 a1 a2) λr=>.I r:=by
 refine pO Tryz.func85 λr h _ _=>?_
 refine S4 1 J<|S3 2 J<|y0 J (c2j (es:=a2) (k:=a0) (E:=iF) (EK:=iF) (d:=.I ((y4 a2 a0).getD (0:Int))) J J Ty.c2c (z7 Ty.u3) Ty.z3 J (lk1 _ _ _))<|S1 2 J<|y0 J (c2j (es:=a2) (k:=a1) (E:=iF) (EK:=iF) (d:=.I ((y4 a2 a1).getD (0:Int))) J J Ty.c2c (z7 Ty.u3) Ty.z3 J (lk1 _ _ _))<|cA h a8m J J λv1 _ h=>S2 1 J<|a7 ?_
 cases h
 exact f1

theorem a0i{a0}:PO Tryz.prog 37 [store_Store.Pv a0] (E0 a0) λr=>.L iF r:=by
 refine pO Tryz.func37 λr h _ _=>?_
 refine S4 2 J<|S4 1 J<|sR<|b4y (KT:=Int) (VT:=Int) (EK:=iF) (E:=iF) 5000008 J J<|S2 2 J ?_
 refine jq h (λq=>St.of [(3,.sl 910003),(4,.ptr 4 0 0)] [(4,vS (.mp 5000008) 1),(5000008,⟨[.mapc (List.map (ent iF iF) q.1)],0,false,0,false⟩),(910003,⟨List.map iF q.2,0,true,1,true⟩)]) (λq20 h=>?_) λκ17 h=>?_
 ·obtain⟨j18,j19⟩:=q20
  refine S3 2 J<|L1 (Wk.trans (c44 5000008 nl J) (c7r 4 0 5000008 J J J J))<|s6 h λv21 hv12 h=>c7u hv12 J J Ty.k84 c7i J J J Ty.k85 J J J J J (λp q r h=>b1z.2 r h)<|yN<|S4 2 J<|a7 ?_
  cases h
  exact f1
 ·refine S3 3 J ?_
  refine nL J Ty.e22<|S2 1 J<|b9<|lq h (λq=>St.of [(3,.sl 910003),(4,.ptr 4 0 0),(11,.L slab_Cell_store_Obj.Pv a0.S.Cells),(12,.I (a0.S.Cells.length:Int)),(13,.I q.1)] [(4,vS (.mp 5000008) 1),(5000008,⟨[.mapc (List.map (ent iF iF) q.2.1)],0,false,0,false⟩),(910003,⟨List.map iF q.2.2,0,true,1,true⟩)]) (Wk.trans (I0 (t:=3) (l:=920003) (z:=1) J J) (WP (λl=>if l=910003 then 920003 else l))) λq27 x26 h hx15=>?_
  obtain⟨s23,s24,s25⟩:=q27
  refine S4 1 J<|g5 ?_
  refine cN h (λhc h=>?_) λhc h=>?_
  ·refine a8 ?_
   refine jq h (λq=>St.of [(3,.sl 33),(4,.ptr 4 0 0),(11,.L slab_Cell_store_Obj.Pv a0.S.Cells),(12,.I (a0.S.Cells.length:Int)),(13,.I s23)] [(4,vS (.mp 5000008) 1),(5000008,⟨[.mapc (List.map (ent iF iF) q.1)],0,false,0,false⟩),(33,⟨List.map iF q.2,0,true,1,true⟩)]) (λq34 h=>?_) λκ31 h=>?_
   ·obtain⟨j32,j33⟩:=q34
    refine S6 2 J ?_
    exact eL h (WP (λl=>if l=910003 then 33 else l))
   ·refine b9 ?_
    refine S3 1 J<|iL h J J Ty.e22 Ty.a4I λv35 _ h=>S2 4 J<|S4 3 J ?_
    refine cN h (λhc h=>?_) λhc h=>?_
    ·refine S3 3 J ?_
     refine cA h a2S J J λv36 _ h=>S2 1 J<|S3 5 J<|Z4 (es:=s24) (k:=v36) (v:=v35.Val.Serial) (E:=iF) (EK:=iF) (.inl J) J J J J J J Ty.c2c (z7 Ty.u3)<|yN<|S5 2 J<|y0 J (M3 (f:=iF) (l:=[v36]) J Ty.z6 Ty.s3 Ty.z3 J J nl J J)<|s6 h λv37 hv22 h=>c8L (f:=iF) (b:=8) [(4,.ptr 4 0 0),(11,.L slab_Cell_store_Obj.Pv a0.S.Cells),(12,.I (a0.S.Cells.length:Int)),(13,.I s23),(14,.bool (decide (s23<(a0.S.Cells.length:Int)))),(15,.I s23),(16,.rptr (slab_Cell_store_Obj.Pc v35)),(17,slab_Cell_store_Obj.Pv v35),(6,.ptr 6 0 0),(5,.I s23),(18,.ptr 6 0 0),(19,.I v35.State),(20,.bool (v35.State==1)),(21,.I s23),(22,.ptr 6 0 1),(23,.I v35.Gen),(24,.I v36),(7,.I v36),(25,.mp 5000008),(26,.I v36),(27,.ptr 6 0 2),(28,.ptr 6 0 2),(29,.I v35.Val.Serial),(31,.I v36),(32,.lst true (List.map iF [v36]))] [(6,vR (slab_Cell_store_Obj.Pv v35) 8),(5000008,⟨[.mapc (List.map (ent iF iF) (m9 s24 v36 v35.Val.Serial))],0,false,0,false⟩),(4,vS (.mp 5000008) 1)] J hv22 ⟨J,J,J,J,J,J,J,J,J,J,J,J,J,J,J,J,J,J,J,J,J,J,J,J,J,J,J,J,J,J,J,J,J,J,J,J,J,J,J,J,J,J,J,J,J,J,J,J,J,J,J,J,J,J,J,J,J,J,J,J,J,J,J,J,J,J,J,J,J,J,J,J,J,J,J,tr⟩ ⟨rS,a1A J J J (λq=>nomatch q) J J J J,a1A J J J (λq=>nomatch q) J J J J,tr⟩ J J J J (.inl ⟨_,J,J⟩) Ty.z6 Ty.s3 Ty.b3 Ty.z3 J (λ_=>J)<|S2 1 J ?_
     exact eJ h W
    ·refine a8 ?_
     exact eJ h (WP (λl=>if l=33 then 910003 else l))
  ·refine k8 ?_
   refine b7<|b7<|g8 ?_
   have h:=xL hx15 h
   exact eJ h W

theorem b27{a0}:PO Tryz.prog 106 [hold_Heap.Pv a0] (a0H a0) λr=>.L iF r:=by
 refine pO Tryz.func106 λr h _ _=>?_
 refine S4 2 J<|S4 1 J ?_
 refine jq h (λj16=>St.of [(3,.sl 910003)] [(910003,⟨List.map iF j16,(List.map iF j16).length,true,1,true⟩)]) (λj16 h=>?_) λκ15 h=>?_
 ·refine S4 2 J ?_
  refine a7 ?_
  cases h
  exact f1
 ·refine S3 2 J ?_
  refine cF h a0i J J λv17 _ h=>nL J Ty.z6<|S2 1 J<|b9<|lq h (λq=>St.of [(1,.ptr 1 0 0),(3,.sl 910003),(10,.L iF v17),(11,.I (v17.length:Int)),(12,.I q.1)] [(1,vR (hold_Heap.Pv a0) 8),(910003,⟨List.map iF q.2,(List.map iF q.2).length,true,1,true⟩)]) (Wk.trans (I0 (t:=3) (l:=920003) (z:=1) J J) (WP (λl=>if l=910003 then 920003 else l))) λq22 x21 h hx16=>?_
  obtain⟨s19,s20⟩:=q22
  refine S4 1 J<|g5 ?_
  refine cN h (λhc h=>?_) λhc h=>?_
  ·refine a8 ?_
   refine jq h (λj27=>St.of [(1,.ptr 1 0 0),(3,.sl 29),(10,.L iF v17),(11,.I (v17.length:Int)),(12,.I s19)] [(29,⟨List.map iF j27,(List.map iF j27).length,true,1,true⟩),(1,vR (hold_Heap.Pv a0) 8)]) (λj27 h=>?_) λκ26 h=>?_
   ·refine S6 2 J ?_
    exact eL h (Wk.trans (l4 _ [29]) (WP (λl=>if l=910003 then 29 else l)))
   ·refine b9 ?_
    refine sR<|iL h J J Ty.z6 Ty.s3 λv28 _ h=>S2 2 J<|S3 3 J<|cF h A6 J J λv29 _ h=>S2 6 J<|S4 3 J ?_
    refine cN h (λhc h=>?_) λhc h=>?_
    ·refine S5 2 J ?_
     refine y0 J (M3 (f:=iF) (l:=[v28]) J Ty.z6 Ty.s3 Ty.z3 J J nl J J)<|s6 h λv30 hv23 h=>L9 J (I8 (f:=iF) hv23 J J J J J J (.inl ⟨_,J,J⟩) Ty.z6 Ty.s3 Ty.b3 Ty.z3 J (λ_=>J)) J J J<|S2 1 J ?_
     exact eJ h (Wk.trans (l4 _ [29]) W)
    ·refine a8 ?_
     exact eJ h (Wk.trans (l4 _ [910003]) (WP (λl=>if l=29 then 910003 else l)))
  ·refine k8 ?_
   refine b7<|b7<|g8 ?_
   have h:=xL hx16 h
   exact eJ h (Wk.trans (l4 _ [910003]) W)

theorem a3O{a0}:PO Tryz.prog 107 [store_Obj.Pv a0] (I9 a0) λr=>.bool r:=by
 refine pO Tryz.func107 λr h _ _=>?_
 unfold I9 at h
 refine S4 2 J<|S3 4 J<|b8 J (λhg=>oF J Ty.b7M J)<|b8 J (λhg=>oS (ct hg) J J Ty.a4 J)<|b8 J (λhg=>a0C (ct hg) J)<|y0 J (l7 J J J (λq=>L5 q))<|S2 1 J<|a7 ?_
 cases h
 exact f1

theorem a03{a0}:PO Tryz.prog 311 [queue_Queue_task_Task.Pv a0] (O4 a0) λr=>.I r:=by
 refine pO Tryz.func311 λr h _ _=>?_
 unfold O4 at h
 refine S4 2 J<|S3 2 J<|nL J Ty.e30<|S2 1 J<|a7 ?_
 cases h
 exact f1

theorem a4w{a0 a1 a2}:PO Tryz.prog 312 [.L task_Task.Pv a0,.I a1,.I a2] (M5 a0 a1 a2) λr=>.lst true (List.map task_Task.Pv r):=by
 refine pO Tryz.func312 λr h _ _=>?_
 unfold M5 at h
 refine S4 1 J<|S3 4 J<|s6 h λv1 hv1 h=>y0 J (c6K (f:=task_Task.Pv) hv1 J ⟨_,J⟩ ⟨_,J⟩ ⟨_,J⟩ J J Ty.e30 Ty.b3R (λ_=>J))<|S2 1 J<|a7 ?_
 cases h
 exact f1

theorem a4v{a0 a1}:PO Tryz.prog 270 [queue_Queue_task_Task.Pv a0,task_Task.Pv a1] (M4 a0 a1) λr=>.tup [queue_Queue_task_Task.Pv r.1,.I r.2]:=by
 refine pO Tryz.func270 λr h _ _=>?_
 unfold M4 at h
 refine S4 4 J<|g5<|dr [] Ty.mix (by kernel_rfl) (by kernel_rfl)<|S7 1 J<|s6 h λv1 hv1 h=>d2 J (D3 J a03 J hv1) J<|S8 3 J ?_
 refine cN h (λhc h=>?_) λhc h=>?_
 ·refine S4 3 J ?_
  refine a7 ?_
  cases h
  exact⟨J,[_,_],⟨oL J J J Ty.a32 Ty.s32 nl J,⟨J,tr⟩⟩,J,io⟩
 ·refine a8 ?_
  refine dr [] Ty.mix (by kernel_rfl) (by kernel_rfl)<|S7 3 J<|d2 J (D3 J a03 J hv1) J<|s6 h λv2 hv2 h=>d2f J (y8 J a4w J hv2) J<|S7 1 J<|d1n J (M3 (f:=task_Task.Pv) (l:=[a1]) J Ty.e30 Ty.b3R Ty.c3r J J nl J J) J<|s6 h λv3 hv3 h=>d3 J (b2A (f:=task_Task.Pv) hv3 J J (.inl ⟨_,J,J⟩) Ty.e30 Ty.b3R Ty.c9q Ty.c3r J (λ_=>J)) J J J<|S7 1 J<|Z7 (x':=.agg [.sl 19,.I a0.Cap]) (cl':=false) J J (.inl J) Ty.s30<|a0M<|S4 3 J<|a7 ?_
  cases h
  exact⟨J,[_,_],⟨oL J J J Ty.a32 Ty.s32 nl J,⟨J,tr⟩⟩,J,io⟩

theorem b1l{a0 a1}:PO Tryz.prog 195 [queue_Queue_task_Task.Pv a0,task_Task.Pv a1] (a6X a0 a1) λr=>.tup [queue_Queue_task_Task.Pv r.1,.I r.2]:=by
 refine pO Tryz.func195 λr h _ _=>?_
 refine S4 4 J<|S3 2 J<|cF h a4v J J λv1 _ h=>S2 4 J<|a7 ?_
 cases h
 exact⟨J,[_,_],⟨oL J J J Ty.a32 Ty.s32 nl J,⟨J,tr⟩⟩,J,io⟩

theorem b0V{a0 a1}:PO Tryz.prog 108 [hold_Heap.Pv a0,.I a1] (T5 a0 a1) λr=>hold_Heap.Pv r:=by
 refine pO Tryz.func108 λr h _ _=>?_
 refine S4 2 J<|S3 3 J<|cF h A6 J J λv1 _ h=>S2 6 J<|g5<|S3 3 J<|b8 J (λhg=>oL J J J Ty.c0Q Ty.b7g nl J)<|s6 h λv2 hv2 h=>b8 J (λhg=>D3 J a3O (A1 (ct hg) J) (D2 hv2 hg))<|b8 J (λhg=>a0C (ct hg) J)<|y0 J (o0 J J J (λq=>H3 q))<|yN ?_
 refine cN h (λhc h=>?_) λhc h=>?_
 ·refine S4 2 J ?_
  refine a7 ?_
  cases h
  exact⟨J,[_],⟨oL J J J Ty.U6 Ty.O0 nl J,tr⟩,J,io⟩
 ·refine a8 ?_
  refine S4 2 J<|S3 4 J<|cF h Y5 J J λv3 _ h=>S2 5 J<|S3 5 J<|y0 J (m7 (cs:=[.I 1,.I a1,.I v1.1.Prog]) J Ty.c6V Ty.c3r J J J)<|cF h b1l J J λv4 _ h=>S2 5 J<|S3 2 J<|cF h a0S J J λv5 _ h=>S2 1 J<|a7 ?_
  cases h
  exact⟨J,[_],⟨oL J J J Ty.U6 Ty.O0 nl J,tr⟩,J,io⟩

theorem a7U{a0 a1}:PO Tryz.prog 197 [hold_Heap.Pv a0,.L iF a1] (P7 a0 a1) λr=>.L iF r:=by
 refine pO Tryz.func197 λr h _ _=>?_
 refine S4 2 J<|sR<|b4y (KT:=Int) (VT:=Bool) (EK:=iF) (E:=PV.bool) 5000011 J J<|S2 1 J<|S4 1 J ?_
 refine jq h (λj18=>St.of [(6,.sl 910006)] [(910006,⟨List.map iF j18,(List.map iF j18).length,true,1,true⟩)]) (λj18 h=>?_) λκ17 h=>?_
 ·refine S4 2 J ?_
  refine a7 ?_
  cases h
  exact f1
 ·refine S3 1 J ?_
  refine nL J Ty.z6<|S2 1 J<|b9<|lq h (λq=>St.of [(2,.ptr 2 0 0),(5,.mp 5000011),(6,.sl 910006),(12,.L iF a1),(13,.I (a1.length:Int)),(14,.I q.1)] [(5000011,⟨[.mapc (List.map (ent iF PV.bool) q.2.1)],0,false,0,false⟩),(2,vR (hold_Heap.Pv a0) 8),(910006,⟨List.map iF q.2.2,(List.map iF q.2.2).length,true,1,true⟩)]) (Wk.trans (I0 (t:=6) (l:=920006) (z:=1) J J) (WP (λl=>if l=910006 then 920006 else l))) λq24 x23 h hx16=>?_
  obtain⟨s20,s21,s22⟩:=q24
  refine S4 1 J<|g5 ?_
  refine cN h (λhc h=>?_) λhc h=>?_
  ·refine a8 ?_
   refine jq h (λq=>St.of [(2,.ptr 2 0 0),(5,.mp 5000011),(6,.sl 38),(12,.L iF a1),(13,.I (a1.length:Int)),(14,.I s20)] [(38,⟨List.map iF q.1,(List.map iF q.1).length,true,1,true⟩),(5000011,⟨[.mapc (List.map (ent iF PV.bool) q.2)],0,false,0,false⟩),(2,vR (hold_Heap.Pv a0) 8)]) (λq31 h=>?_) λκ28 h=>?_
   ·obtain⟨j29,j30⟩:=q31
    refine S6 2 J ?_
    exact eL h (Wk.trans (l4 _ [38]) (WP (λl=>if l=910006 then 38 else l)))
   ·refine b9 ?_
    refine sR<|iL h J J Ty.z6 Ty.s3 λv32 _ h=>S2 2 J<|S3 3 J<|cF h A6 J J λv33 _ h=>S2 6 J<|S3 3 J<|b8 J (λhg=>om (d:=.mp 5000011) J)<|b8 J (λhg=>mI J) ?_
    rcases Bool.eq_false_or_eq_true ((v33.2==0)==true) with hg24 | hg24
    ·have h:=ifT h hg24
     refine c3p (es:=s21) (k:=v32) (E:=PV.bool) (EK:=iF) (d:=.bool ((y4 s21 v32).getD (false:Bool))) (congrArg some hg24) (ct hg24) J (ct hg24) Ty.b89 (z7 Ty.u3) Ty.z4 J (lk1 _ _ _)<|y0 (congrArg some hg24) (a0C J J)<|y0 J (a7j J J hg24)<|yN ?_
     refine cN h (λhc h=>?_) λhc h=>?_
     ·refine S3 2 J ?_
      refine Z4 (es:=s21) (k:=v32) (v:=true) (E:=PV.bool) (EK:=iF) (.inl J) J J J J J J Ty.b89 (z7 Ty.u3)<|yN<|S5 2 J<|y0 J (M3 (f:=iF) (l:=[v32]) J Ty.z6 Ty.s3 Ty.z3 J J nl J J)<|s6 h λv34 hv25 h=>L9 J (I8 (f:=iF) hv25 J J J J J J (.inl ⟨_,J,J⟩) Ty.z6 Ty.s3 Ty.b3 Ty.z3 J (λ_=>J)) J J J<|S2 1 J ?_
      exact eJ h (Wk.trans (l4 _ [38]) W)
     ·refine a8 ?_
      exact eJ h (Wk.trans (l4 _ [910006]) (WP (λl=>if l=38 then 910006 else l)))
    ·have h:=ifF h hg24
     refine a1f (congrArg some hg24)<|a1f (congrArg some hg24)<|y0 J (a7i J J hg24)<|yN ?_
     refine F8 false J (λq=>nomatch q) (λ_=>?_)
     refine a8 ?_
     exact eJ h (Wk.trans (l4 _ [910006]) (WP (λl=>if l=38 then 910006 else l)))
  ·refine k8 ?_
   refine b7<|b7<|g8 ?_
   have h:=xL hx16 h
   exact eJ h (Wk.trans (l4 _ [910006]) W)

theorem a4J{a0 a1}:PO Tryz.prog 330 [.L iF a0,.I a1] (M7 a0 a1) λr=>.I r:=by
 refine pO Tryz.func330 λr h _ _=>?_
 refine S4 1 J ?_
 refine jq h (λ_=>St.of [] []) (λq6 h=>?_) λκ5 h=>?_
 ·refine S4 1 J ?_
  refine a7 ?_
  cases h
  exact f1
 ·refine S3 1 J ?_
  refine nL J Ty.z6<|S2 1 J<|b9<|lq h (λs8=>St.of [(0,.L iF a0),(1,.I a1),(7,.I (a0.length:Int)),(8,.I s8)] []) W λs8 x9 h hx8=>S4 1 J<|g5 ?_
  refine cN h (λhc h=>?_) λhc h=>?_
  ·refine a8 ?_
   refine g5<|b9<|S4 2 J<|S3 3 J<|iL h J J Ty.z6 Ty.s3 λv10 _ h=>S2 2 J ?_
   refine cN h (λhc h=>?_) λhc h=>?_
   ·refine S4 2 J ?_
    refine a7 ?_
    have h:=xL hx8 h
    cases h
    exact f1
   ·refine a8 ?_
    refine S6 2 J ?_
    exact eL h W
  ·refine k8 ?_
   refine b7<|b7<|g8 ?_
   have h:=xL hx8 h
   exact eJ h W

theorem a3g{a0 a1}:PO Tryz.prog 315 [.L iF a0,.I a1] (J6 a0 a1) λr=>.bool r:=by
 refine pO Tryz.func315 λr h _ _=>?_
 refine S4 1 J<|S3 2 J<|cA h a4J J J λv1 _ h=>S2 2 J<|a7 ?_
 cases h
 exact f1

theorem b1B{a0 a1}:PO Tryz.prog 314 [weak_Cell.Pv a0,.rptr [.L iF a1]] (Y7 a0 a1) λr=>.bool r:=by
 refine pO Tryz.func314 λr h _ _=>?_
 unfold Y7 at h
 refine S4 2 J<|S3 3 J<|b8 J (λhg=>oF J Ty.c1A J)<|b8 J (λhg=>oS (ct hg) J J Ty.a3 J)<|b8 J (λhg=>j8 (ct hg) J J)<|y0 J (l7 J J J (λq=>L5 q))<|S1 1 J<|b8 J (λhg=>B4 J Ty.a27 J)<|b8 J (λhg=>oF J Ty.c1A J)<|b8 J (λhg=>oS (ct hg) J J Ty.a3 J)<|s6 h λv1 hv1 h=>b8 J (λhg=>D3 J a3g (A1 (ct hg) (A1 (ct hg) J)) (D2 hv1 hg))<|y0 J (l7 J J J (λq=>L5 q))<|S2 1 J<|a7 ?_
 cases h
 exact f1

theorem a2h{a0 a1}:PO Tryz.prog 248 [.L weak_Cell.Pv a0,.fn (.func 314) [.rptr [.L iF a1]]] (H0 a0 a1) λr=>.L iF r:=by
 refine pO Tryz.func248 λr h _ _=>?_
 refine S4 1 J<|S4 1 J ?_
 refine jq h (λj15=>St.of [(5,.sl 910005)] [(910005,⟨List.map iF j15,(List.map iF j15).length,true,1,true⟩)]) (λj15 h=>?_) λκ14 h=>?_
 ·refine S4 2 J ?_
  refine a7 ?_
  cases h
  exact f1
 ·refine S3 1 J ?_
  refine nL J Ty.e28<|S2 1 J<|b9<|lq h (λq=>St.of [(1,.fn (.func 314) [.rptr [.L iF a1]]),(5,.sl 910005),(8,.L weak_Cell.Pv a0),(9,.I (a0.length:Int)),(10,.I q.1)] [(910005,⟨List.map iF q.2,(List.map iF q.2).length,true,1,true⟩)]) (Wk.trans (I0 (t:=5) (l:=920005) (z:=1) J J) (WP (λl=>if l=910005 then 920005 else l))) λq20 x19 h hx14=>?_
  obtain⟨s17,s18⟩:=q20
  refine S4 1 J<|g5 ?_
  refine cN h (λhc h=>?_) λhc h=>?_
  ·refine a8 ?_
   refine jq h (λj25=>St.of [(1,.fn (.func 314) [.rptr [.L iF a1]]),(5,.sl 21),(8,.L weak_Cell.Pv a0),(9,.I (a0.length:Int)),(10,.I s17)] [(21,⟨List.map iF j25,(List.map iF j25).length,true,1,true⟩)]) (λj25 h=>?_) λκ24 h=>?_
   ·refine S6 2 J ?_
    exact eL h (Wk.trans (l4 _ [21]) (WP (λl=>if l=910005 then 21 else l)))
   ·refine b9 ?_
    refine S3 1 J<|iL h J J Ty.e28 Ty.s84 λv26 _ h=>S2 4 J<|S3 2 J<|cA h b1B J J λv27 _ h=>yN ?_
    refine cN h (λhc h=>?_) λhc h=>?_
    ·refine S5 2 J ?_
     refine y0 J (M3 (f:=iF) (l:=[s17]) J Ty.z6 Ty.s3 Ty.z3 J J nl J J)<|s6 h λv28 hv21 h=>L9 J (I8 (f:=iF) hv21 J J J J J J (.inl ⟨_,J,J⟩) Ty.z6 Ty.s3 Ty.b3 Ty.z3 J (λ_=>J)) J J J<|S2 1 J ?_
     exact eJ h (Wk.trans (l4 _ [21]) W)
    ·refine a8 ?_
     exact eJ h (Wk.trans (l4 _ [910005]) (WP (λl=>if l=21 then 910005 else l)))
  ·refine k8 ?_
   refine b7<|b7<|g8 ?_
   have h:=xL hx14 h
   exact eJ h (Wk.trans (l4 _ [910005]) W)

theorem b30{a0 a1}:PO Tryz.prog 273 [.L weak_Cell.Pv a0,.L iF a1] (a3l a0 a1) λr=>.tup [.L weak_Cell.Pv r.1,.L iF r.2]:=by
 refine pO Tryz.func273 λr h _ _=>?_
 unfold a3l at h
 refine S4 3 J<|S3 2 J<|s6 h λv1 hv1 h=>ycL J (y8 J a2h J hv1) J<|S2 1 J<|S3 1 J<|s6 h λv2 hv2 h=>ycN J (b4l J a5Z J hv2) J J<|S2 1 J<|S4 1 J ?_
 refine jq h (λq=>St.of [(7,.sl 15),(8,.sl 910008)] [(910008,⟨List.map iF q.1,(List.map iF q.1).length,true,1,true⟩),(15,⟨List.map weak_Cell.Pv q.2,0,true,3,true⟩)]) (λq24 h=>?_) λκ21 h=>?_
 ·obtain⟨j22,j23⟩:=q24
  refine S4 4 J<|a7 ?_
  cases h
  exact f2
 ·refine S3 1 J ?_
  refine nL J Ty.z6<|S2 1 J<|b9<|lq h (λq=>St.of [(7,.sl 15),(8,.sl 910008),(16,.L iF v1),(17,.I (v1.length:Int)),(18,.I q.1)] [(15,⟨List.map weak_Cell.Pv q.2.1,0,true,3,true⟩),(910008,⟨List.map iF q.2.2,(List.map iF q.2.2).length,true,1,true⟩)]) (Wk.trans (I0 (t:=8) (l:=920008) (z:=1) J J) (WP (λl=>if l=910008 then 920008 else l))) λq30 x29 h hx18=>?_
  obtain⟨s26,s27,s28⟩:=q30
  refine S4 1 J<|g5 ?_
  refine cN h (λhc h=>?_) λhc h=>?_
  ·refine a8 ?_
   refine jq h (λq=>St.of [(7,.sl 15),(8,.sl 35),(16,.L iF v1),(17,.I (v1.length:Int)),(18,.I s26)] [(35,⟨List.map iF q.1,(List.map iF q.1).length,true,1,true⟩),(15,⟨List.map weak_Cell.Pv q.2,0,true,3,true⟩)]) (λq38 h=>?_) λκ35 h=>?_
   ·obtain⟨j36,j37⟩:=q38
    refine S6 2 J ?_
    exact eL h (Wk.trans (l4 _ [35]) (WP (λl=>if l=910008 then 35 else l)))
   ·refine b9 ?_
    refine sR<|iL h J J Ty.z6 Ty.s3 λv39 _ h=>S2 2 J<|S3 2 J<|s6 h λv40 hv25 h=>y0 J (a2Y (f:=weak_Cell.Pv) hv25 J J J J Ty.e28 Ty.s84 J)<|S1 1 J<|b0i (f:=weak_Cell.Pv) (v:=(⟨v40.Target,false,v40.Call⟩:weak_Cell)) hv25 J J (.inl J) Ty.s4<|yN<|S3 2 J<|s6 h λv41 hv26 h=>y0 J (a2Y (f:=weak_Cell.Pv) hv26 J J J J Ty.e28 Ty.s84 J)<|S1 1 J<|y0 J (b4m (f:=weak_Cell.Pv) hv26 J J J Ty.a3 J)<|S2 1 J ?_
    refine cN h (λhc h=>?_) λhc h=>?_
    ·refine S5 2 J ?_
     refine y0 J (M3 (f:=iF) (l:=[v39]) J Ty.z6 Ty.s3 Ty.z3 J J nl J J)<|s6 h λv42 hv27 h=>L9 J (I8 (f:=iF) hv27 J J J J J J (.inl ⟨_,J,J⟩) Ty.z6 Ty.s3 Ty.b3 Ty.z3 J (λ_=>J)) J J J<|S2 1 J ?_
     exact eJ h (Wk.trans (l4 _ [35]) W)
    ·refine a8 ?_
     exact eJ h (Wk.trans (l4 _ [910008]) (WP (λl=>if l=35 then 910008 else l)))
  ·refine k8 ?_
   refine b7<|b7<|g8 ?_
   have h:=xL hx18 h
   exact eJ h (Wk.trans (l4 _ [910008]) W)

theorem a95{a0 a1}:PO Tryz.prog 198 [hold_Heap.Pv a0,.L iF a1] (a08 a0 a1) λr=>hold_Heap.Pv r:=by
 refine pO Tryz.func198 λr h _ _=>?_
 refine S4 2 J<|S3 3 J<|cF h b30 J J λv1 _ h=>S2 5 J<|S4 3 J ?_
 refine jq h (λj11=>St.of [(2,.ptr 2 0 0),(4,.ptr 4 0 0)] [(4,vR (.agg [.nl,.I 0,.I 0,.nl,.nl,.nl,.nl,.I 0]) 8),(2,vR (.agg [.L slab_Cell_store_Obj.Pv a0.S.S.Cells,.I a0.S.S.Last,.I a0.S.Serial,.L iF a0.Roots,.L weak_Cell.Pv v1.1,.L hash_Place.Pv a0.T,.L task_Task.Pv j11.L,.I j11.Cap]) 8)]) (λj11 h=>?_) λκ10 h=>?_
 ·refine S4 2 J ?_
  refine a7 ?_
  cases h
  exact⟨J,[_],⟨oL J J J Ty.U6 Ty.O0 nl J,tr⟩,J,io⟩
 ·refine S3 1 J ?_
  refine nL J Ty.z6<|S2 1 J<|b9<|lq h (λq=>St.of [(2,.ptr 2 0 0),(4,.ptr 4 0 0),(5,.L weak_Cell.Pv v1.1),(18,.L iF v1.2),(19,.I (v1.2.length:Int)),(20,.I q.1)] [(4,vR (.agg [.nl,.I 0,.I 0,.nl,.nl,.nl,.nl,.I 0]) 8),(2,vR (.agg [.L slab_Cell_store_Obj.Pv a0.S.S.Cells,.I a0.S.S.Last,.I a0.S.Serial,.L iF a0.Roots,.L weak_Cell.Pv v1.1,.L hash_Place.Pv a0.T,.L task_Task.Pv q.2.L,.I q.2.Cap]) 8)]) W λq16 x15 h hx11=>?_
  obtain⟨s13,s14⟩:=q16
  refine S4 1 J<|g5 ?_
  refine cN h (λhc h=>?_) λhc h=>?_
  ·refine a8 ?_
   refine g5<|b9<|sR<|iL h J J Ty.z6 Ty.s3 λv17 _ h=>S2 2 J<|a6A [] Ty.mix (by kernel_rfl) (by kernel_rfl)<|S7 5 J<|s6 h λv18 hv13 h=>d0 J (A3 (f:=weak_Cell.Pv) (cs:=weak_Cell.Pc v18) hv13 J J Ty.e28 Ty.s84 J J) J<|S7 2 J<|d7 J (λ_ hN=>m7 (cs:=[.I 2,.I v17,.I v18.Call]) J Ty.c6V Ty.c3r J J J) J<|s6 h λv19 hv14 h=>d2f J (y8 J b1l J hv14) J<|S7 4 J<|Z7 (x':=.agg [.L slab_Cell_store_Obj.Pv a0.S.S.Cells,.I a0.S.S.Last,.I a0.S.Serial,.L iF a0.Roots,.L weak_Cell.Pv v1.1,.L hash_Place.Pv a0.T,.L task_Task.Pv v19.1.L,.I v19.1.Cap]) (cl':=true) J J (.inr J) Ty.s32<|a0M<|S6 2 J ?_
   exact eL h W
  ·refine k8 ?_
   refine b7<|b7<|g8 ?_
   have h:=xL hx11 h
   exact eJ h W

theorem b0f{a0}:PO Tryz.prog 274 [.L iF a0] (a2I a0) λr=>.fn (.func 316) [.rptr [.L iF r]]:=by
 refine pO Tryz.func274 λr h _ _=>?_
 unfold a2I at h
 refine S4 2 J<|S4 2 J<|a7 ?_
 cases h
 exact f1

theorem b0e{a0}:PO Tryz.prog 200 [.L iF a0] (a2H a0) λr=>.L iF r:=by
 refine pO Tryz.func200 λr h _ _=>?_
 refine S4 1 J<|S4 1 J ?_
 refine jq h (λj10=>St.of [(3,.ptr 2001 0 0)] [(2001,vS (.sl 912501) 1),(912501,⟨List.map iF j10,(List.map iF j10).length,true,1,true⟩)]) (λj10 h=>?_) λκ9 h=>?_
 ·refine S4 2 J ?_
  refine a7 ?_
  cases h
  exact f1
 ·refine S3 1 J ?_
  refine cF h b0f J J λv11 _ h=>yN<|b9<|a2m (WPE (λl=>if l=2011 then 3 else l) [(3,.ptr 2011 0 0),(6,.fn (.func 316) [.rptr [.L iF v11]])] [(2011,vR (.nl) 1)]) ?_
  refine a0b (fn:=Tryz.f316) (N1:=20) J Tryz.func316 J J nl J Ty.c74 J J (λl17 e18 o19 hR20=>?_)
  refine S3 1 J<|nL J Ty.z6<|S2 1 J<|b9<|lq h (λq=>St.of [(1000003,.ptr 2011 0 0),(1000006,.fn (.func 316) [.rptr [.L iF v11]]),(0,.fn (.yield l17) []),(5,.L iF v11),(6,.I (v11.length:Int)),(7,.I q.1)] [(2011,vS (.sl 912511) 1),(912511,⟨List.map iF q.2,(List.map iF q.2).length,true,1,true⟩)]) (Wk.trans (a7M (l0:=2011) (j:=0) (l:=922511) (z:=1) J J J J J) (WP (λl=>if l=912511 then 922511 else l))) λq16 x15 h hx23=>?_
  obtain⟨s13,s14⟩:=q16
  refine S4 1 J<|g5 ?_
  refine cN h (λhc h=>?_) λhc h=>?_
  ·refine a8 ?_
   refine g5<|b9<|sR<|iL h J J Ty.z6 Ty.s3 λv17 _ h=>S2 2 J<|S3 3 J<|b8 J (λhg=>om (d:=.fn (.yield l17) []) J)<|b8 J (λhg=>mI J) ?_
   rcases Bool.eq_false_or_eq_true ((v17 != 0)==true) with hg25 | hg25
   ·have h:=ifT h hg25
    refine L1 (WPE (λl=>if l=2019 then 912511 else l) [(1000003,.ptr 2011 0 0),(1000006,.fn (.func 316) [.rptr [.L iF v11]]),(0,.fn (.yield l17) []),(5,.L iF v11),(6,.I (v11.length:Int)),(7,.I s13),(13,.bool (v17 != 0)),(14,.fn (.yield l17) []),(15,.I v17)] [(2011,vS (.sl 2019) 1),(2019,⟨List.map iF s14,(List.map iF s14).length,true,1,true⟩)]) ?_
    refine a3T hR20 (congrArg some hg25) J J J J J (λe26 o27 o28=>?_)
    refine S6 1 J ?_
    refine⟨J,?_⟩
    refine b9<|S5 2 J<|y0 J (M3 (f:=iF) (l:=[v17]) J Ty.z6 Ty.s3 Ty.z3 J J nl J J)<|s6 h λv18 hv29 h=>L9 J (I8 (f:=iF) hv29 J J J J J J (.inl ⟨_,J,J⟩) Ty.z6 Ty.s3 Ty.b3 Ty.z3 J (λ_=>J)) J J J<|S2 1 J ?_
    refine⟨J,?_⟩
    refine L1 (WPE (λl=>if l=2020 then 11 else l) [(1000003,.ptr 2011 0 0),(1000006,.fn (.func 316) [.rptr [.L iF v11]]),(0,.fn (.yield l17) []),(5,.L iF v11),(6,.I (v11.length:Int)),(7,.I s13),(13,.bool (v17 != 0)),(16,.bool true)] [(2011,vS (.sl 2020) 1),(2020,⟨List.map iF v18,s14.length,true,1,true⟩)])<|y0 (congrArg some hg25) (a0C J J)<|y0 J (a7j J J hg25)<|yN ?_
    refine F8 false J (λq=>nomatch q) (λ_=>?_)
    refine a8<|S6 2 J ?_
    exact eL h (Wk.trans (l4 _ [2020]) (WP (λl=>if l=912511 then 2020 else l)))
   ·have h:=ifF h hg25
    refine a1f (congrArg some hg25)<|a1f (congrArg some hg25)<|y0 J (a7i J J hg25)<|yN ?_
    refine F8 false J (λq=>nomatch q) (λ_=>?_)
    refine a8<|S6 2 J ?_
    exact eL h (Wk.trans (l4 _ [912511]) W)
  ·refine k8 ?_
   refine b7<|b7<|g8 ?_
   refine .inl ⟨J,?_⟩
   have h:=xL hx23 h
   exact eJ h (Wk.trans (l4 _ [912511]) (WP (λl=>if l=2001 then 2011 else if l=912501 then 912511 else l)))

theorem b0v{a0 a1}:PO Tryz.prog 201 [.L hash_Place.Pv a0,.L iF a1] (T0 a0 a1) λr=>.tup [.L hash_Place.Pv r.1,.L iF r.2]:=by
 refine pO Tryz.func201 λr h _ _=>?_
 refine S4 2 J<|S4 1 J ?_
 refine jq h (λq=>St.of [(0,.L hash_Place.Pv q.1),(6,.sl 910006)] [(910006,⟨List.map iF q.2,(List.map iF q.2).length,true,1,true⟩)]) (λq20 h=>?_) λκ17 h=>?_
 ·obtain⟨j18,j19⟩:=q20
  refine S4 4 J<|a7 ?_
  cases h
  exact f2
 ·refine S3 1 J ?_
  refine nL J Ty.z6<|S2 1 J<|b9<|lq h (λq=>St.of [(0,.L hash_Place.Pv q.1),(6,.sl 910006),(12,.L iF a1),(13,.I (a1.length:Int)),(14,.I q.2.1)] [(910006,⟨List.map iF q.2.2,(List.map iF q.2.2).length,true,1,true⟩)]) (Wk.trans (I0 (t:=6) (l:=920006) (z:=1) J J) (WP (λl=>if l=910006 then 920006 else l))) λq26 x25 h hx14=>?_
  obtain⟨s22,s23,s24⟩:=q26
  refine S4 1 J<|g5 ?_
  refine cN h (λhc h=>?_) λhc h=>?_
  ·refine a8 ?_
   refine jq h (λq=>St.of [(0,.L hash_Place.Pv q.1),(6,.sl 31),(12,.L iF a1),(13,.I (a1.length:Int)),(14,.I s23)] [(31,⟨List.map iF q.2,(List.map iF q.2).length,true,1,true⟩)]) (λq33 h=>?_) λκ30 h=>?_
   ·obtain⟨j31,j32⟩:=q33
    refine S6 2 J ?_
    exact eL h (Wk.trans (l4 _ [31]) (WP (λl=>if l=910006 then 31 else l)))
   ·refine b9 ?_
    refine sR<|iL h J J Ty.z6 Ty.s3 λv34 _ h=>S2 2 J<|S3 2 J<|cF h a88 J J λv35 _ h=>S2 7 J<|S4 2 J ?_
    refine cN h (λhc h=>?_) λhc h=>?_
    ·refine S5 3 J ?_
     refine y0 J (M3 (f:=iF) (l:=[v35.2.1]) J Ty.z6 Ty.s3 Ty.z3 J J nl J J)<|s6 h λv36 hv21 h=>L9 J (I8 (f:=iF) hv21 J J J J J J (.inl ⟨_,J,J⟩) Ty.z6 Ty.s3 Ty.b3 Ty.z3 J (λ_=>J)) J J J<|S2 2 J ?_
     exact eJ h (Wk.trans (l4 _ [31]) W)
    ·refine a8 ?_
     exact eJ h (Wk.trans (l4 _ [910006]) (WP (λl=>if l=31 then 910006 else l)))
  ·refine k8 ?_
   refine b7<|b7<|g8 ?_
   have h:=xL hx14 h
   exact eJ h (Wk.trans (l4 _ [910006]) W)

theorem a5C{a0 a1}:PO Tryz.prog 276 [slab_Slab_store_Obj.Pv a0,.I a1] (O5 a0 a1) λr=>.tup [slab_Slab_store_Obj.Pv r.1,.I r.2]:=by
 refine pO Tryz.func276 λr h _ _=>?_
 refine S4 3 J<|S3 2 J<|cF h a1o J J λv1 _ h=>S2 6 J<|g5<|S4 2 J ?_
 refine cN h (λhc h=>?_) λhc h=>?_
 ·refine S4 4 J ?_
  refine a7 ?_
  cases h
  exact⟨J,[_,_],⟨oL J J J Ty.a24 Ty.s24 nl J,⟨J,tr⟩⟩,J,io⟩
 ·refine a8 ?_
  refine dr [] Ty.mix (by kernel_rfl) (by kernel_rfl)<|S7 2 J<|s6 h λv2 hv2 h=>d2 J (D3 J a6p J hv2) J<|S7 1 J<|s6 h λv3 hv3 h=>d2 J (D3 J a8a J hv3) J<|S7 1 J<|d7 J (λ_ hN=>m7 (cs:=[.I 2,.I v3,.I v1.1.Serial,.I v1.1.Strong,.I v1.1.Weak,.I v1.1.Prog,.bool v1.1.Started,.L iF v1.1.Fields]) J Ty.c4t Ty.c0K J J J) J<|s6 h λv4 hv4 h=>d2f J (y8 J F9 J hv4) J<|Z7 (x':=slab_Slab_store_Obj.Pv v4) (cl':=true) J J (.inr J) Ty.s24<|S8 1 J<|a7 ?_
  cases h
  exact⟨J,[_,_],⟨oL J J J Ty.a24 Ty.s24 nl J,⟨J,tr⟩⟩,J,io⟩

theorem b0Y{a0 a1}:PO Tryz.prog 202 [hold_Heap.Pv a0,.I a1] (T6 a0 a1) λr=>hold_Heap.Pv r:=by
 refine pO Tryz.func202 λr h _ _=>?_
 refine S4 2 J<|S3 3 J<|cF h A6 J J λv1 _ h=>S2 6 J<|S3 1 J<|b0j (x':=.agg [.I v1.1.Serial,.I v1.1.Strong,.I v1.1.Weak,.I v1.1.Prog,.bool v1.1.Started,.nl]) (cl':=true) J J (.inl J) Ty.s27<|S1 1 J<|b0j (x':=.agg [.I v1.1.Serial,.I 0,.I v1.1.Weak,.I v1.1.Prog,.bool v1.1.Started,.nl]) (cl':=true) J J (.inl J) Ty.s3<|yN<|S3 4 J<|cF h Y5 J J λv2 _ h=>S2 5 J<|S3 4 J<|cF h a5C J J λv3 _ h=>S2 6 J<|g5<|S4 3 J ?_
 refine cN h (λhc h=>?_) λhc h=>?_
 ·refine S5 4 J ?_
  refine cF h a1a J J λv4 _ h=>S2 6 J<|S4 2 J<|a7 ?_
  cases h
  exact⟨J,[_],⟨oL J J J Ty.U6 Ty.O0 nl J,tr⟩,J,io⟩
 ·refine a8 ?_
  refine S4 2 J<|a7 ?_
  cases h
  exact⟨J,[_],⟨oL J J J Ty.U6 Ty.O0 nl J,tr⟩,J,io⟩

theorem b26{a0 a1}:PO Tryz.prog 109 [hold_Heap.Pv a0,.L iF a1] (a0G a0 a1) λr=>hold_Heap.Pv r:=by
 refine pO Tryz.func109 λr h _ _=>?_
 refine S4 2 J<|S3 2 J<|cF h a7U J J λv1 _ h=>S2 1 J<|S3 2 J<|cF h a95 J J λv2 _ h=>S2 1 J<|S4 1 J<|S4 2 J ?_
 refine jq h (λj13=>St.of [(2,.ptr 2 0 0),(4,.ptr 4 0 0),(5,.L iF v1),(6,.ptr 6 0 0),(7,.fn (.func 199) [.ptr 6 0 0])] [(6,vS (.sl 910506) 1),(910506,⟨List.map iF j13,(List.map iF j13).length,true,1,true⟩),(4,vR (.agg [.nl,.I 0,.I 0,.nl,.nl,.nl,.nl,.I 0]) 8),(2,vR (hold_Heap.Pv v2) 8)]) (λj13 h=>?_) λκ12 h=>?_
 ·refine S3 3 J ?_
  refine cF h b0v J J λv14 _ h=>S2 5 J<|S3 2 J<|L1 (WPE (λl=>if l=2025 then 6 else if l=2026 then 4 else if l=2027 then 2 else if l=2028 then 910506 else l) [(2,.ptr 2027 0 0),(4,.ptr 2026 0 0),(5,.L iF v1),(6,.ptr 2025 0 0),(12,.L hash_Place.Pv v14.1),(51,.fn (.func 199) [.ptr 2025 0 0]),(52,.L iF v14.2)] [(2025,vS (.sl 2028) 1),(2028,⟨List.map iF j13,(List.map iF j13).length,true,1,true⟩),(2026,vR (.agg [.nl,.I 0,.I 0,.nl,.nl,.nl,.nl,.I 0]) 8),(2027,vR (hold_Heap.Pv v2) 8)]) ?_
  refine b7y (fn:=Tryz.f199) (N1:=6) J J Tryz.func199 J Ty.c71 J J nl (λe14 o15=>?_)
  refine S5 2 J<|s6 h λv15 hv16 h=>L9 J (I8 (f:=iF) hv16 J J J J J J (.inl ⟨_,J,J⟩) Ty.z6 Ty.s3 Ty.b3 Ty.z3 J (λ_=>J)) J J J<|S2 1 J ?_
  refine⟨J,[],tr,?_⟩
  refine L1 (WPE (λl=>if l=2029 then 5 else l) [(2,.ptr 2027 0 0),(4,.ptr 2026 0 0),(5,.L iF v1),(6,.ptr 2025 0 0),(12,.L hash_Place.Pv v14.1)] [(2025,vS (.sl 2029) 1),(2029,⟨List.map iF v15,j13.length,true,1,true⟩),(2026,vR (.agg [.nl,.I 0,.I 0,.nl,.nl,.nl,.nl,.I 0]) 8),(2027,vR (hold_Heap.Pv v2) 8)])<|yN<|S4 3 J ?_
  refine jq h (λj24=>St.of [(2,.ptr 2027 0 0),(4,.ptr 2026 0 0),(6,.ptr 2025 0 0)] [(2025,vS (.sl 2029) 1),(2029,⟨List.map iF v15,j13.length,true,1,true⟩),(2026,vR (.agg [.nl,.I 0,.I 0,.nl,.nl,.nl,.nl,.I 0]) 8),(2027,vR (hold_Heap.Pv j24) 8)]) (λj24 h=>?_) λκ23 h=>?_
  ·refine jq h (λj33=>St.of [(2,.ptr 2027 0 0),(4,.ptr 2026 0 0)] [(2026,vR (.agg [.nl,.I 0,.I 0,.nl,.nl,.nl,.nl,.I 0]) 8),(2027,vR (hold_Heap.Pv j33) 8)]) (λj33 h=>?_) λκ32 h=>?_
   ·refine S4 2 J ?_
    refine a7 ?_
    cases h
    exact⟨J,[_],⟨oL J J J Ty.U6 Ty.O0 nl J,tr⟩,J,io⟩
   ·refine S3 1 J ?_
    refine y0 J (b9a (f:=iF) J J J Ty.z6)<|S2 1 J<|b9<|lq h (λq=>St.of [(2,.ptr 2027 0 0),(4,.ptr 2026 0 0),(66,.sl 2029),(67,.I (v15.length:Int)),(68,.I q.1)] [(2029,⟨List.map iF v15,j13.length,true,1,true⟩),(2026,vR (.agg [.nl,.I 0,.I 0,.nl,.nl,.nl,.nl,.I 0]) 8),(2027,vR (hold_Heap.Pv q.2) 8)]) W λq38 x37 h hx31=>?_
    obtain⟨s35,s36⟩:=q38
    refine S4 1 J<|g5 ?_
    refine cN h (λhc h=>?_) λhc h=>?_
    ·refine a8 ?_
     refine g5<|b9<|sR<|s6 h λv39 hv32 h=>y0 J (a2Y (f:=iF) hv32 J J J J Ty.z6 Ty.s3 J)<|y0 J (b4m (f:=iF) hv32 J J J Ty.a3 J)<|S2 1 J<|S5 2 J<|cF h a0l J J λv40 _ h=>S2 1 J<|S6 2 J ?_
     exact eL h W
    ·refine k8 ?_
     refine b7<|b7<|g8 ?_
     have h:=xL hx31 h
     exact eJ h W
  ·refine S3 1 J ?_
   refine nL J Ty.z6<|S2 1 J<|b9<|lq h (λq=>St.of [(2,.ptr 2027 0 0),(4,.ptr 2026 0 0),(6,.ptr 2025 0 0),(56,.L iF v1),(57,.I (v1.length:Int)),(58,.I q.1)] [(2025,vS (.sl 2029) 1),(2029,⟨List.map iF v15,j13.length,true,1,true⟩),(2026,vR (.agg [.nl,.I 0,.I 0,.nl,.nl,.nl,.nl,.I 0]) 8),(2027,vR (hold_Heap.Pv q.2) 8)]) W λq45 x44 h hx36=>?_
   obtain⟨s42,s43⟩:=q45
   refine S4 1 J<|g5 ?_
   refine cN h (λhc h=>?_) λhc h=>?_
   ·refine a8 ?_
    refine g5<|b9<|sR<|iL h J J Ty.z6 Ty.s3 λv46 _ h=>S2 2 J<|S5 2 J<|cF h b0Y J J λv47 _ h=>S2 1 J<|S6 2 J ?_
    exact eL h W
   ·refine k8 ?_
    refine b7<|b7<|g8 ?_
    have h:=xL hx36 h
    exact eJ h W
 ·refine S3 1 J ?_
  refine nL J Ty.z6<|S2 1 J<|b9<|lq h (λq=>St.of [(2,.ptr 2 0 0),(4,.ptr 4 0 0),(5,.L iF v1),(6,.ptr 6 0 0),(7,.fn (.func 199) [.ptr 6 0 0]),(25,.L iF v1),(26,.I (v1.length:Int)),(27,.I q.1)] [(6,vS (.sl 910506) 1),(4,vR (.agg [.nl,.I 0,.I 0,.nl,.nl,.nl,.nl,.I 0]) 8),(2,vR (hold_Heap.Pv v2) 8),(910506,⟨List.map iF q.2,(List.map iF q.2).length,true,1,true⟩)]) (Wk.trans (a7M (l0:=6) (j:=0) (l:=920506) (z:=1) J J J J J) (WP (λl=>if l=910506 then 920506 else l))) λq52 x51 h hx41=>?_
  obtain⟨s49,s50⟩:=q52
  refine S4 1 J<|g5 ?_
  refine cN h (λhc h=>?_) λhc h=>?_
  ·refine a8 ?_
   refine g5<|b9<|sR<|iL h J J Ty.z6 Ty.s3 λv53 _ h=>S2 2 J<|S3 3 J<|cF h A6 J J λv54 _ h=>S2 6 J<|S5 3 J<|cF h b0e J J λv55 _ h=>L1 (WPE (λl=>if l=2049 then 6 else if l=2050 then 4 else if l=2051 then 2 else if l=2052 then 910506 else l) [(2,.ptr 2051 0 0),(4,.ptr 2050 0 0),(5,.L iF v1),(6,.ptr 2049 0 0),(7,.fn (.func 199) [.ptr 2049 0 0]),(25,.L iF v1),(26,.I (v1.length:Int)),(27,.I s49),(38,.fn (.func 199) [.ptr 2049 0 0]),(41,.L iF v55)] [(2049,vS (.sl 2052) 1),(2052,⟨List.map iF s50,(List.map iF s50).length,true,1,true⟩),(2050,vR (.agg [.nl,.I 0,.I 0,.nl,.nl,.nl,.nl,.I 0]) 8),(2051,vR (hold_Heap.Pv v2) 8)]) ?_
   refine b7y (fn:=Tryz.f199) (N1:=6) J J Tryz.func199 J Ty.c71 J J nl (λe45 o46=>?_)
   refine S5 2 J<|s6 h λv56 hv47 h=>L9 J (I8 (f:=iF) hv47 J J J J J J (.inl ⟨_,J,J⟩) Ty.z6 Ty.s3 Ty.b3 Ty.z3 J (λ_=>J)) J J J<|S2 1 J ?_
   refine⟨J,[],tr,?_⟩
   refine L1 (WPE (λl=>if l=2053 then 5 else l) [(2,.ptr 2051 0 0),(4,.ptr 2050 0 0),(5,.L iF v1),(6,.ptr 2049 0 0),(7,.fn (.func 199) [.ptr 2049 0 0]),(25,.L iF v1),(26,.I (v1.length:Int)),(27,.I s49)] [(2049,vS (.sl 2053) 1),(2053,⟨List.map iF v56,s50.length,true,1,true⟩),(2050,vR (.agg [.nl,.I 0,.I 0,.nl,.nl,.nl,.nl,.I 0]) 8),(2051,vR (hold_Heap.Pv v2) 8)])<|yN<|S6 2 J ?_
   exact eL h (Wk.trans (l4 _ [2053]) (WP (λl=>if l=2 then 2051 else if l=4 then 2050 else if l=6 then 2049 else if l=910506 then 2053 else l)))
  ·refine k8 ?_
   refine b7<|b7<|g8 ?_
   have h:=xL hx41 h
   exact eJ h (Wk.trans (l4 _ [910506]) W)

theorem b0W{a0}:PO Tryz.prog 41 [hold_Heap.Pv a0] (a0g a0) λr=>hold_Heap.Pv r:=by
 refine pO Tryz.func41 λr h _ _=>?_
 refine S4 2 J<|lqS h (λs2=>St.of [(1,.ptr 1 0 0),(2,.ptr 2 0 0)] [(2,vR (.agg [.nl,.I 0,.I 0,.nl,.nl,.nl,.nl,.I 0]) 8),(1,vR (hold_Heap.Pv s2) 8)]) W λs2 x3 h hx3=>S3 1 J<|cF h b27 J J λv4 _ h=>S2 1 J<|g5<|S3 1 J<|nL J Ty.z6<|S2 1 J ?_
 refine cN h (λhc h=>?_) λhc h=>?_
 ·refine S4 2 J ?_
  refine a7 ?_
  have h:=xL hx3 h
  cases h
  exact⟨J,[_],⟨oL J J J Ty.U6 Ty.O0 nl J,tr⟩,J,io⟩
 ·refine a8 ?_
  refine g5<|dr [] Ty.mix (by kernel_rfl) (by kernel_rfl)<|S7 3 J<|s6 h λv5 hv5 h=>d0 J (A3 (f:=iF) (cs:=[.I v5]) hv5 J J Ty.z6 Ty.s3 J J) J<|S7 1 J<|s6 h λv6 hv6 h=>d2f J (y8 J A6 J hv6) J<|S7 4 J<|Z7 (x':=store_Obj.Pv v6.1) (cl':=true) J J (.inr J) Ty.b7g<|S8 1 J<|S3 1 J<|cA h a3O J J λv7 _ h=>yN ?_
  refine cN h (λhc h=>?_) λhc h=>?_
  ·refine a6A [] Ty.mix (by kernel_rfl) (by kernel_rfl) ?_
   refine S7 2 J<|d0 J (A3 (f:=iF) (cs:=[.I v5]) hv5 J J Ty.z6 Ty.s3 J J) J<|S7 1 J<|s6 h λv8 hv8 h=>d2f J (y8 J b0V J hv8) J<|Z7 (x':=hold_Heap.Pv v8) (cl':=true) J J (.inr J) Ty.O0<|a0M<|b9j ?_
   exact eS h W
  ·refine a6A [] Ty.mix (by kernel_rfl) (by kernel_rfl) ?_
   refine S7 2 J<|s6 h λv9 hv9 h=>d0 J (c6J (f:=iF) hv9 J J ⟨_,J⟩ Ty.z6 Ty.s3 (λ_=>J)) J<|s6 h λv10 hv10 h=>d2f J (y8 J b26 J hv10) J<|Z7 (x':=hold_Heap.Pv v10) (cl':=true) J J (.inr J) Ty.O0<|a0M<|b9j ?_
   exact eS h W

theorem a9n{a0 a1}:PO Tryz.prog 18 [hold_Heap.Pv a0,.I a1] (a0Z a0 a1) λr=>.I r:=by
 refine pO Tryz.func18 λr h _ _=>?_
 refine S4 2 J<|S3 3 J<|cF h A6 J J λv1 _ h=>S2 6 J<|S4 3 J<|a7 ?_
 cases h
 exact f1

theorem N4{a0 a1}:PO Tryz.prog 20 [hold_Heap.Pv a0,.I a1] (J9 a0 a1) λr=>.I r:=by
 refine pO Tryz.func20 λr h _ _=>?_
 unfold J9 at h
 refine S4 2 J<|dr [] Ty.mix (by kernel_rfl) (by kernel_rfl)<|S7 3 J<|s6 h λv1 hv1 h=>d2 J (D3 J K0 J hv1) J<|s6 h λv2 hv2 h=>d2 J (D3 J a9n J hv2) J<|S8 1 J<|a7 ?_
 cases h
 exact f1

theorem a9o{a0 a1 a2}:PO Tryz.prog 42 [hold_Heap.Pv a0,hold_Heap.Pv a1,code_Op.Pv a2] (P5 a0 a1 a2) λr=>.I r:=by
 refine pO Tryz.func42 λr h _ _=>?_
 refine S4 4 J<|g5<|S4 2 J<|b9<|S4 2 J ?_
 refine cN h (λhc h=>?_) λhc h=>?_
 ·refine S3 3 J ?_
  refine cA h N4 J J λv1 _ h=>S2 1 J<|a7 ?_
  cases h
  exact f1
 ·refine jq h (λj3=>St.of [(3,.ptr 3 0 0),(4,.ptr 4 0 0),(5,.ptr 5 0 0),(8,.I a2.Kind),(15,.bool j3)] [(5,vR (code_Op.Pv a2) 4),(4,vR (hold_Heap.Pv a1) 8),(3,vR (hold_Heap.Pv a0) 8)]) (λj3 h=>?_) λκ2 h=>?_
  ·refine cN h (λhc h=>?_) λhc h=>?_
   ·refine S3 3 J ?_
    refine cA h N4 J J λv4 _ h=>S2 1 J<|a7 ?_
    cases h
    exact f1
   ·refine S4 2 J ?_
    refine cN h (λhc h=>?_) λhc h=>?_
    ·refine g5 ?_
     refine dr [] Ty.mix (by kernel_rfl) (by kernel_rfl)<|S7 3 J<|s6 h λv5 hv4 h=>d2 J (D3 J K0 J hv4) J<|S7 3 J<|s6 h λv6 hv5 h=>d2 J (D3 J K0 J hv5) J<|S8 1 J ?_
     refine cN h (λhc h=>?_) λhc h=>?_
     ·refine S4 1 J ?_
      refine a7 ?_
      cases h
      exact f1
     ·refine a8 ?_
      refine S4 1 J<|a7 ?_
      cases h
      exact f1
    ·refine a8 ?_
     refine S3 3 J<|cA h N4 J J λv7 _ h=>S2 1 J<|a7 ?_
     cases h
     exact f1
  ·refine S4 2 J ?_
   refine cN h (λhc h=>?_) λhc h=>?_
   ·refine a8 ?_
    exact eJ h W
   ·refine S6 2 J ?_
    exact eJ h W

theorem E3{a0 a1}:PO Tryz.prog 12 [hold_Heap.Pv a0,code_Op.Pv a1] (l5 a0 a1) λr=>.tup [hold_Heap.Pv r.1,.I r.2.1,.I r.2.2]:=by
 refine pO Tryz.func12 λr h _ _=>?_
 refine S4 5 J<|g5<|S3 1 J<|cA h b3A J J λv1 _ h=>S2 1 J<|S4 2 J ?_
 refine cN h (λhc h=>?_) λhc h=>?_
 ·refine S4 5 J ?_
  refine a7 ?_
  cases h
  exact⟨J,[_,_,_],⟨oL J J J Ty.U6 Ty.O0 nl J,⟨J,⟨J,tr⟩⟩⟩,J,io⟩
 ·refine a8 ?_
  refine dr [] Ty.mix (by kernel_rfl) (by kernel_rfl)<|s6 h λv2 hv2 h=>d2f J (y8 J b0E J hv2) J<|S7 2 J<|d4 J (c8i (es:=v2) (k:=a1.Kind) (E:=fvE) (EK:=iF) (d:=.tup [fvE ((y4 v2 a1.Kind).getD (none:Fv)),.bool ((y4 v2 a1.Kind).isSome)]) J J Ty.b2w (z7 Ty.u3) Ty.z90 J (lk2 _ _ _)) J<|S8 5 J<|g5<|S4 2 J ?_
  refine cN h (λhc h=>?_) λhc h=>?_
  ·refine S4 4 J ?_
   refine a7 ?_
   cases h
   exact⟨J,[_,_,_],⟨oL J J J Ty.U6 Ty.O0 nl J,⟨J,⟨J,tr⟩⟩⟩,J,io⟩
  ·refine a8 ?_
   refine S3 3 J<|y0 J (m7 (cs:=[.L slab_Cell_store_Obj.Pv a0.S.S.Cells,.I a0.S.S.Last,.I a0.S.Serial,.L iF a0.Roots,.L weak_Cell.Pv a0.Cells,.L hash_Place.Pv a0.T,.L task_Task.Pv a0.Q.L,.I a0.Q.Cap,.I a1.Kind,.I a1.A,.I a1.B,.I a1.C]) J Ty.p96 Ty.z96 J J J) ?_
   obtain⟨v3,hv3,h⟩:=a5N h
   obtain⟨n4,he4,hk5,hp6⟩:=b7Y hv3
   refine L1 (b9D 30 J he4)<|yc J (b46 J hk5 J hp6)<|S2 6 J<|g5<|S4 2 J ?_
   refine cN h (λhc h=>?_) λhc h=>?_
   ·refine S4 5 J ?_
    refine a7 ?_
    cases h
    exact⟨J,[_,_,_],⟨oL J J J Ty.U6 Ty.O0 nl J,⟨J,⟨J,tr⟩⟩⟩,J,io⟩
   ·refine a8 ?_
    refine S3 1 J<|cF h b0W J J λv5 _ h=>S2 2 J<|dr [] Ty.mix (by kernel_rfl) (by kernel_rfl)<|S7 4 J<|s6 h λv6 hv8 h=>d2 J (D3 J a9o J hv8) J<|Z7 (x':=hold_Heap.Pv v5) (cl':=true) J J (.inr J) Ty.O0<|S8 2 J<|a7 ?_
    cases h
    exact⟨J,[_,_,_],⟨oL J J J Ty.U6 Ty.O0 nl J,⟨J,⟨J,tr⟩⟩⟩,J,io⟩

theorem a6x{a0 a1}:PO Tryz.prog 23 [hold_Heap.Pv a0,.L code_Op.Pv a1] (a0B a0 a1) λr=>.tup [hold_Heap.Pv r.1,.L iF r.2]:=by
 refine pO Tryz.func23 λr h _ _=>?_
 refine S4 3 J<|S4 1 J ?_
 refine jq h (λq=>St.of [(2,.ptr 2 0 0),(4,.ptr 4 0 0),(6,.sl 910006)] [(910006,⟨List.map iF q.2,(List.map iF q.2).length,true,1,true⟩),(4,vR (.agg [.nl,.I 0,.I 0,.nl,.nl,.nl,.nl,.I 0]) 8),(2,vR (hold_Heap.Pv q.1) 8)]) (λq13 h=>?_) λκ10 h=>?_
 ·obtain⟨j11,j12⟩:=q13
  refine S4 4 J<|a7 ?_
  cases h
  exact⟨J,[_,_],⟨oL J J J Ty.U6 Ty.O0 nl J,⟨J,tr⟩⟩,J,io⟩
 ·refine S3 1 J ?_
  refine nL J Ty.e61<|S2 1 J<|b9<|lq h (λq=>St.of [(2,.ptr 2 0 0),(4,.ptr 4 0 0),(6,.sl 910006),(10,.L code_Op.Pv a1),(11,.I (a1.length:Int)),(12,.I q.1)] [(4,vR (.agg [.nl,.I 0,.I 0,.nl,.nl,.nl,.nl,.I 0]) 8),(2,vR (hold_Heap.Pv q.2.1) 8),(910006,⟨List.map iF q.2.2,(List.map iF q.2.2).length,true,1,true⟩)]) (Wk.trans (I0 (t:=6) (l:=920006) (z:=1) J J) (WP (λl=>if l=910006 then 920006 else l))) λq19 x18 h hx10=>?_
  obtain⟨s15,s16,s17⟩:=q19
  refine S4 1 J<|g5 ?_
  refine cN h (λhc h=>?_) λhc h=>?_
  ·refine a8 ?_
   refine g5<|b9<|sR<|iL h J J Ty.e61 Ty.s36 λv20 _ h=>S2 3 J<|S4 1 J<|S3 2 J<|cF h E3 J J λv21 _ h=>S2 6 J<|S5 2 J<|y0 J (M3 (f:=iF) (l:=[v21.2.1]) J Ty.z6 Ty.s3 Ty.z3 J J nl J J)<|s6 h λv22 hv13 h=>L9 J (I8 (f:=iF) hv13 J J J J J J (.inl ⟨_,J,J⟩) Ty.z6 Ty.s3 Ty.b3 Ty.z3 J (λ_=>J)) J J J<|S2 1 J<|S6 2 J ?_
   exact eL h (Wk.trans (l4 _ [26]) (WP (λl=>if l=910006 then 26 else l)))
  ·refine k8 ?_
   refine b7<|b7<|g8 ?_
   have h:=xL hx10 h
   exact eJ h (Wk.trans (l4 _ [910006]) W)

theorem b3b:PO Tryz.prog 240 [] (a3P) λr=>.lst true (List.map A9.Pv r):=by
 refine pO Tryz.func240 λr h _ _=>?_
 unfold a3P at h
 refine S4 1 J<|sR<|y0 J (m7 (cs:=[.fn (.func 292) []]) J Ty.c4v Ty.c3s J J J)<|L1 (a2p 1 (d':=.agg [fvE (some 292)]) J)<|y0 J (m7 (cs:=[.fn (.func 293) []]) J Ty.c4v Ty.c3s J J J)<|L1 (a2p 2 (d':=.agg [fvE (some 293)]) J)<|y0 J (m7 (cs:=[.fn (.func 294) []]) J Ty.c4v Ty.c3s J J J)<|L1 (a2p 3 (d':=.agg [fvE (some 294)]) J)<|y0 J (m7 (cs:=[.fn (.func 295) []]) J Ty.c4v Ty.c3s J J J)<|L1 (a2p 4 (d':=.agg [fvE (some 295)]) J)<|y0 J (M3 (f:=A9.Pv) (l:=[(⟨(some 292)⟩:A9),(⟨(some 293)⟩:A9),(⟨(some 294)⟩:A9),(⟨(some 295)⟩:A9)]) J Ty.c54 Ty.c8C Ty.c3s J J nl J J)<|S2 1 J<|a7 ?_
 cases h
 exact f1

theorem a3h{a0 a1}:PO Tryz.prog 292 [store_Store.Pv a0,slab_Cell_store_Obj.Pv a1] (S0 a0 a1) λr=>.bool r:=by
 refine pO Tryz.func292 λr h _ _=>?_
 unfold S0 at h
 refine S4 3 J<|S3 4 J<|b8 J (λhg=>oF J Ty.b2d J)<|b8 J (λhg=>oS (ct hg) J J Ty.a3 J)<|b8 J (λhg=>j8 (ct hg) J J)<|y0 J (l7 J J J (λq=>L5 q))<|S2 1 J<|a7 ?_
 cases h
 exact f1

theorem a0I{a0 a1}:PO Tryz.prog 293 [store_Store.Pv a0,slab_Cell_store_Obj.Pv a1] (J1 a0 a1) λr=>.bool r:=by
 refine pO Tryz.func293 λr h _ _=>?_
 unfold J1 at h
 refine S4 3 J<|S3 4 J<|b8 J (λhg=>oF J Ty.c6a J)<|b8 J (λhg=>oS (ct hg) J J Ty.a3 J)<|b8 J (λhg=>oF J Ty.c1q J)<|b8 J (λhg=>oF (ct hg) Ty.c1p J)<|b8 J (λhg=>oS (ct hg) J J Ty.a3 J)<|b8 J (λhg=>j8 (ct hg) (ct hg) J)<|y0 J (l7 J J J (λq=>L5 q))<|S2 1 J<|a7 ?_
 cases h
 exact f1

theorem W8{a0}:PO Tryz.prog 296 [slab_Cell_store_Obj.Pv a0] (G1 a0) λr=>.bool r:=by
 refine pO Tryz.func296 λr h _ _=>?_
 unfold G1 at h
 refine S4 2 J<|S3 4 J<|b8 J (λhg=>oF J Ty.b2d J)<|b8 J (λhg=>oS (ct hg) J J Ty.a3 J)<|b8 J (λhg=>j8 (ct hg) J J)<|y0 J (o0 J J J (λq=>H3 q))<|S2 1 J<|a7 ?_
 cases h
 exact f1

theorem a2n{a0 a1}:PO Tryz.prog 294 [store_Store.Pv a0,slab_Cell_store_Obj.Pv a1] (P8 a0 a1) λr=>.bool r:=by
 refine pO Tryz.func294 λr h _ _=>?_
 refine S4 3 J<|S4 4 J<|S3 1 J<|cA h W8 J J λv1 _ h=>S1 2 J<|b8 J (λhg=>oF J Ty.c1c J)<|b8 J (λhg=>oS (ct hg) J J Ty.a3 J)<|b8 J (λhg=>j8 (ct hg) J J)<|b8 J (λhg=>om (d:=.bool (decide (a1.Val.Serial≥1))) (ct hg))<|b8 (m8 J J J) (λhg=>oF J Ty.c1c J)<|b8 (m8 J J J) (λhg=>oS (ct hg) J J Ty.a3 J)<|b8 (m8 J J J) (λhg=>oF J Ty.b8S J)<|b8 (m8 J J J) (λhg=>oS (ct hg) J J Ty.a3 J)<|b8 (m8 J J J) (λhg=>j8 (ct hg) (ct hg) J)<|b8 J (λhg=>l7 (ct hg) J J (λq=>a1g hg (L5 q)))<|b8 J (λhg=>om (d:=.bool ((decide (a1.Val.Serial≥1))&&(decide (a1.Val.Serial≤a0.Serial)))) (ct hg))<|b8 (m8 J J J) (λhg=>oF J Ty.c1d J)<|b8 (m8 J J J) (λhg=>oS (ct hg) J J Ty.a3 J)<|b8 (m8 J J J) (λhg=>j8 (ct hg) J J)<|b8 J (λhg=>l7 (ct hg) J J (λq=>a1g hg (L5 q)))<|b8 J (λhg=>om (d:=.bool (((decide (a1.Val.Serial≥1))&&(decide (a1.Val.Serial≤a0.Serial)))&&(decide (a1.Val.Strong≥0)))) (ct hg))<|b8 (m8 J J J) (λhg=>oF J Ty.b7L J)<|b8 (m8 J J J) (λhg=>oS (ct hg) J J Ty.a3 J)<|b8 (m8 J J J) (λhg=>j8 (ct hg) J J)<|b8 J (λhg=>l7 (ct hg) J J (λq=>a1g hg (L5 q)))<|b8 J (λhg=>om (d:=.bool ((((decide (a1.Val.Serial≥1))&&(decide (a1.Val.Serial≤a0.Serial)))&&(decide (a1.Val.Strong≥0)))&&(decide (a1.Val.Weak≥0)))) (ct hg))<|b8 (m8 J J J) (λhg=>oF J Ty.c58 J)<|b8 (m8 J J J) (λhg=>oS (ct hg) J J Ty.a3 J)<|s6 h λv2 hv2 h=>b8 (m8 J J J) (λhg=>D3 J a15 (A1 (ct hg) J) (D2 hv2 hg))<|b8 J (λhg=>l7 (ct hg) J J (λq=>a1g hg (L5 q)))<|b8 J (λhg=>om (d:=.bool (((((decide (a1.Val.Serial≥1))&&(decide (a1.Val.Serial≤a0.Serial)))&&(decide (a1.Val.Strong≥0)))&&(decide (a1.Val.Weak≥0)))&&v2)) (ct hg))<|b8 (m8 J J J) (λhg=>oF J Ty.b7N J)<|b8 (m8 J J J) (λhg=>oS (ct hg) J J Ty.a27 J)<|b8 (m8 J J J) (λhg=>M0 (f:=iF) (ct hg) Ty.z6)<|b8 (m8 J J J) (λhg=>j8 (ct hg) J J)<|b8 J (λhg=>l7 (ct hg) J J (λq=>a1g hg (L5 q)))<|y0 J (o0 J J J (λq=>H3 q))<|S2 1 J<|a7 ?_
 cases h
 exact f1

theorem a1c{a0 a1}:PO Tryz.prog 295 [store_Store.Pv a0,slab_Cell_store_Obj.Pv a1] (K4 a0 a1) λr=>.bool r:=by
 refine pO Tryz.func295 λr h _ _=>?_
 refine S4 3 J<|S4 4 J<|S3 8 J<|y0 J (m7 (cs:=[.I a1.Val.Serial,.I a1.Val.Strong,.I a1.Val.Weak,.I a1.Val.Prog]) J Ty.c8l Ty.c8T J J J)<|S2 2 J<|S3 1 J<|cA h W8 J J λv1 _ h=>S1 1 J<|b8 J (λhg=>oL J J J Ty.c9h Ty.d0k nl J)<|b8 J (λhg=>m7 (cs:=[.I 0,.I 0,.I 0,.I 0]) J Ty.c8l Ty.c8T J J J)<|b8 J (λhg=>c2i (xs:=[.I a1.Val.Serial,.I a1.Val.Strong,.I a1.Val.Weak,.I a1.Val.Prog]) (ys:=[.I 0,.I 0,.I 0,.I 0]) Ty.d0a (ct hg) (ct hg) J)<|b8 J (λhg=>om (d:=.bool ((a1.Val.Serial==0)&&((a1.Val.Strong==0)&&((a1.Val.Weak==0)&&((a1.Val.Prog==0)&&true))))) (ct hg))<|b8 (m8 J J J) (λhg=>oF J Ty.b7M J)<|b8 (m8 J J J) (λhg=>oS (ct hg) J J Ty.a4 J)<|b8 (m8 J J J) (λhg=>a0C (ct hg) J)<|b8 J (λhg=>l7 (ct hg) J J (λq=>a1g hg (L5 q)))<|b8 J (λhg=>om (d:=.bool (((a1.Val.Serial==0)&&((a1.Val.Strong==0)&&((a1.Val.Weak==0)&&((a1.Val.Prog==0)&&true))))&&(!a1.Val.Started))) (ct hg))<|b8 (m8 J J J) (λhg=>oF J Ty.b7N J)<|b8 (m8 J J J) (λhg=>oS (ct hg) J J Ty.a27 J)<|b8 (m8 J J J) (λhg=>M0 (f:=iF) (ct hg) Ty.z6)<|b8 (m8 J J J) (λhg=>j8 (ct hg) J J)<|b8 J (λhg=>l7 (ct hg) J J (λq=>a1g hg (L5 q)))<|y0 J (o0 J J J (λq=>H3 q))<|S2 1 J<|a7 ?_
 cases h
 exact f1

theorem b7Z{f:Fv}{a0:store_Store}{a1:slab_Cell_store_Obj}{r:Bool}(h:b1H f a0 a1=some r):∃n,f=some n∧y9 Tryz.prog n∧O8 Tryz.prog n [store_Store.Pv a0,slab_Cell_store_Obj.Pv a1] (.bool r):=by
 unfold b1H at h
 by_cases e292:f=some 292
 ·rw[if_pos e292] at h;exact⟨292,e292,(@a3h a0 a1).1,(@a3h a0 a1).2 _ h⟩
 rw[if_neg e292] at h
 by_cases e293:f=some 293
 ·rw[if_pos e293] at h;exact⟨293,e293,(@a0I a0 a1).1,(@a0I a0 a1).2 _ h⟩
 rw[if_neg e293] at h
 by_cases e294:f=some 294
 ·rw[if_pos e294] at h;exact⟨294,e294,(@a2n a0 a1).1,(@a2n a0 a1).2 _ h⟩
 rw[if_neg e294] at h
 by_cases e295:f=some 295
 ·rw[if_pos e295] at h;exact⟨295,e295,(@a1c a0 a1).1,(@a1c a0 a1).2 _ h⟩
 rw[if_neg e295] at h
 cases h

theorem a5G{a0}:PO Tryz.prog 241 [store_Store.Pv a0] (O6 a0) λr=>.bool r:=by
 refine pO Tryz.func241 λr h _ _=>?_
 refine S4 2 J<|sR<|b4y (KT:=Int) (VT:=Bool) (EK:=iF) (E:=PV.bool) 5000006 J J<|S2 1 J ?_
 refine jq h (λ_=>St.of [] []) (λq13 h=>?_) λκ12 h=>?_
 ·refine S4 1 J ?_
  refine a7 ?_
  cases h
  exact f1
 ·refine S3 3 J ?_
  refine nL J Ty.e22<|S2 1 J<|b9<|lq h (λq=>St.of [(3,.mp 5000006),(9,.L slab_Cell_store_Obj.Pv a0.S.Cells),(10,.I (a0.S.Cells.length:Int)),(11,.I q.1)] [(5000006,⟨[.mapc (List.map (ent iF PV.bool) q.2)],0,false,0,false⟩)]) W λq18 x17 h hx12=>?_
  obtain⟨s15,s16⟩:=q18
  refine S4 1 J<|g5 ?_
  refine cN h (λhc h=>?_) λhc h=>?_
  ·refine a8 ?_
   refine jq h (λj22=>St.of [(3,.mp 5000006),(9,.L slab_Cell_store_Obj.Pv a0.S.Cells),(10,.I (a0.S.Cells.length:Int)),(11,.I s15)] [(5000006,⟨[.mapc (List.map (ent iF PV.bool) j22)],0,false,0,false⟩)]) (λj22 h=>?_) λκ21 h=>?_
   ·refine S6 2 J ?_
    exact eL h W
   ·refine b9 ?_
    refine sR<|iL h J J Ty.e22 Ty.a4I λv23 _ h=>S2 3 J<|g5<|S3 1 J<|cA h W8 J J λv24 _ h=>S2 1 J ?_
    refine cN h (λhc h=>?_) λhc h=>?_
    ·refine k8 ?_
     refine b7<|g8 ?_
     exact eJ h W
    ·refine a8 ?_
     refine g5<|S3 4 J<|c3p (es:=s16) (k:=v23.Val.Serial) (E:=PV.bool) (EK:=iF) (d:=.bool ((y4 s16 v23.Val.Serial).getD (false:Bool))) J J J J Ty.b89 (z7 Ty.u3) Ty.z4 J (lk1 _ _ _)<|yN ?_
     refine cN h (λhc h=>?_) λhc h=>?_
     ·refine S4 1 J ?_
      refine a7 ?_
      have h:=xL hx12 h
      cases h
      exact f1
     ·refine a8 ?_
      refine S5 4 J<|Z4 (es:=s16) (k:=v23.Val.Serial) (v:=true) (E:=PV.bool) (EK:=iF) (.inl J) J J J J J J Ty.b89 (z7 Ty.u3)<|yN ?_
      exact eJ h W
  ·refine k8 ?_
   refine b7<|b7<|g8 ?_
   have h:=xL hx12 h
   exact eJ h W

theorem b3a{a0}:PO Tryz.prog 153 [store_Store.Pv a0] (a14 a0) λr=>.bool r:=by
 refine pO Tryz.func153 λr h _ _=>?_
 refine S4 2 J<|g5<|S3 3 J<|nL J Ty.e22<|S1 2 J<|b8 J (λhg=>oF J Ty.c1q J)<|b8 J (λhg=>oF (ct hg) Ty.c1p J)<|b8 J (λhg=>oS (ct hg) J J Ty.a3 J)<|b8 J (λhg=>j8 (ct hg) J J)<|y0 J (o0 J J J (λq=>H3 q))<|S1 1 J<|b8 J (λhg=>oF J Ty.c1q J)<|b8 J (λhg=>oF (ct hg) Ty.c1p J)<|b8 J (λhg=>oS (ct hg) J J Ty.a3 J)<|b8 J (λhg=>j8 (ct hg) J J)<|y0 J (o0 J J J (λq=>H3 q))<|S1 1 J<|b8 J (λhg=>oF J Ty.b8S J)<|b8 J (λhg=>oS (ct hg) J J Ty.a3 J)<|b8 J (λhg=>j8 (ct hg) J J)<|y0 J (o0 J J J (λq=>H3 q))<|yN ?_
 refine cN h (λhc h=>?_) λhc h=>?_
 ·refine S4 1 J ?_
  refine a7 ?_
  cases h
  exact f1
 ·refine a8 ?_
  refine jq h (λ_=>St.of [(1,.ptr 1 0 0)] [(1,vR (store_Store.Pv a0) 3)]) (λq23 h=>?_) λκ22 h=>?_
  ·refine S3 1 J ?_
   refine cA h a5G J J λv24 _ h=>S2 1 J<|a7 ?_
   cases h
   exact f1
  ·refine S3 3 J ?_
   refine nL J Ty.e22<|S2 1 J<|b9<|lq h (λs26=>St.of [(1,.ptr 1 0 0),(31,.L slab_Cell_store_Obj.Pv a0.S.Cells),(32,.I (a0.S.Cells.length:Int)),(33,.I s26)] [(1,vR (store_Store.Pv a0) 3)]) W λs26 x27 h hx29=>S4 1 J<|g5 ?_
   refine cN h (λhc h=>?_) λhc h=>?_
   ·refine a8 ?_
    refine jq h (λ_=>St.of [(1,.ptr 1 0 0),(31,.L slab_Cell_store_Obj.Pv a0.S.Cells),(32,.I (a0.S.Cells.length:Int)),(33,.I s26)] [(1,vR (store_Store.Pv a0) 3)]) (λq37 h=>?_) λκ36 h=>?_
    ·refine S6 2 J ?_
     exact eL h W
    ·refine b9 ?_
     refine sR<|iL h J J Ty.e22 Ty.a4I λv38 _ h=>S2 3 J<|sR<|cF h b3b J J λv39 _ h=>nL J Ty.c54<|S2 1 J<|b9<|lq h (λs41=>St.of [(1,.ptr 1 0 0),(4,.ptr 4 0 0),(31,.L slab_Cell_store_Obj.Pv a0.S.Cells),(32,.I (a0.S.Cells.length:Int)),(33,.I s26),(37,.lst true (List.map A9.Pv v39)),(38,.I (v39.length:Int)),(39,.I s41)] [(4,vR (slab_Cell_store_Obj.Pv v38) 8),(1,vR (store_Store.Pv a0) 3)]) W λs41 x42 h hx45=>S4 1 J<|g5 ?_
     refine cN h (λhc h=>?_) λhc h=>?_
     ·refine a8 ?_
      refine g5<|b9<|sR<|iL h J J Ty.c54 Ty.c8C λv43 _ h=>S2 3 J<|S3 4 J ?_
      obtain⟨v44,hv47,h⟩:=a5N h
      obtain⟨n45,he48,hk49,hp50⟩:=b7Z hv47
      refine L1 (b9D 44 J he48)<|y0 J (b2B J hk49 J hp50)<|S2 1 J ?_
      refine cN h (λhc h=>?_) λhc h=>?_
      ·refine S4 1 J ?_
       refine a7 ?_
       have h:=xL hx45 h
       have h:=xL hx29 h
       cases h
       exact f1
      ·refine a8 ?_
       refine S6 2 J ?_
       exact eL h W
     ·refine k8 ?_
      refine b7<|b7<|g8 ?_
      have h:=xL hx45 h
      exact eJ h W
   ·refine k8 ?_
    refine b7<|b7<|g8 ?_
    have h:=xL hx29 h
    exact eJ h W

theorem b3D{a0}:PO Tryz.prog 154 [.L hash_Place.Pv a0] (a4Z a0) λr=>.bool r:=by
 refine pO Tryz.func154 λr h _ _=>?_
 refine S4 1 J<|g5<|S3 1 J<|nL J Ty.e29<|S1 2 J<|b8 J (λhg=>om (d:=.L hash_Place.Pv a0) J)<|b8 J (λhg=>M0 (f:=hash_Place.Pv) (ct hg) Ty.e29)<|b8 J (λhg=>j8 (ct hg) J J)<|y0 J (o0 J J J (λq=>H3 q))<|yN ?_
 refine cN h (λhc h=>?_) λhc h=>?_
 ·refine S4 1 J ?_
  refine a7 ?_
  cases h
  exact f1
 ·refine a8 ?_
  refine jq h (λ_=>St.of [] []) (λq7 h=>?_) λκ6 h=>?_
  ·refine S4 1 J ?_
   refine a7 ?_
   cases h
   exact f1
  ·refine S3 1 J ?_
   refine nL J Ty.e29<|S2 1 J<|b9<|lq h (λs9=>St.of [(0,.L hash_Place.Pv a0),(14,.L hash_Place.Pv a0),(15,.I (a0.length:Int)),(16,.I s9)] []) W λs9 x10 h hx9=>S4 1 J<|g5 ?_
   refine cN h (λhc h=>?_) λhc h=>?_
   ·refine a8 ?_
    refine g5<|b9<|S3 1 J<|iL h J J Ty.e29 Ty.a8G λv11 _ h=>S2 4 J<|S3 1 J<|y0 J (m7 (cs:=[.I 0,.I 0,.I 0]) J Ty.c4u Ty.c0L J J J)<|y0 J (c2i (xs:=hash_Place.Pc v11) (ys:=[.I 0,.I 0,.I 0]) Ty.c8p J J J)<|S1 1 J<|b8 J (λhg=>oL J J J Ty.c9f Ty.a8G nl J)<|b8 J (λhg=>m7 (cs:=[.I 2,.I 0,.I 0]) J Ty.c4u Ty.c0L J J J)<|b8 J (λhg=>c2i (xs:=hash_Place.Pc v11) (ys:=[.I 2,.I 0,.I 0]) Ty.c8p (ct hg) (ct hg) J)<|y0 J (o0 J J J (λq=>H3 q))<|S2 1 J<|S3 3 J<|b8 J (λhg=>oF J Ty.c6e J)<|b8 J (λhg=>oS (ct hg) J J Ty.a3 J)<|b8 J (λhg=>j8 (ct hg) J J)<|b8 J (λhg=>om (d:=.bool (v11.State != 1)) (ct hg))<|b8 (m8 J J J) (λhg=>om (d:=.L hash_Place.Pv a0) J)<|b8 (m8 J J J) (λhg=>oF J Ty.c1h J)<|b8 (m8 J J J) (λhg=>oS (ct hg) J J Ty.a3 J)<|s6 h λv12 hv11 h=>b8 (m8 J J J) (λhg=>D3 J a2r (A1 (ct hg) (A1 (ct hg) J)) (D2 hv11 hg))<|b8 (m8 J J J) (λhg=>mI J)<|b8 (m8 J J J) (λhg=>j8 (ct hg) (ct hg) J)<|b8 J (λhg=>o0 (ct hg) J J (λq=>a1g hg (H3 q)))<|y0 J (l7 J J J (λq=>L5 q))<|yN ?_
    refine cN h (λhc h=>?_) λhc h=>?_
    ·refine S4 1 J ?_
     refine a7 ?_
     have h:=xL hx9 h
     cases h
     exact f1
    ·refine a8 ?_
     refine S6 2 J ?_
     exact eL h W
   ·refine k8 ?_
    refine b7<|b7<|g8 ?_
    have h:=xL hx9 h
    exact eJ h W

theorem a9f{a0}:PO Tryz.prog 87 [hold_Heap.Pv a0] (a0V a0) λr=>.bool r:=by
 refine pO Tryz.func87 λr h _ _=>?_
 refine S4 2 J<|sR<|cF h b1m J J λv1 _ h=>S2 2 J<|S3 2 J<|cA h b3a J J λv2 _ h=>S1 1 J<|b8 J (λhg=>oF J Ty.c5e J)<|b8 J (λhg=>oS (ct hg) J J Ty.a29 J)<|s6 h λv3 hv3 h=>b8 J (λhg=>D3 J b3D (A1 (ct hg) J) (D2 hv3 hg))<|y0 J (l7 J J J (λq=>L5 q))<|S1 1 J<|b8 J (λhg=>oF J Ty.b8T J)<|b8 J (λhg=>oS (ct hg) J J Ty.a27 J)<|b8 J (λhg=>M0 (f:=iF) (ct hg) Ty.z6)<|b8 J (λhg=>j8 (ct hg) J J)<|y0 J (l7 J J J (λq=>L5 q))<|S1 1 J<|b8 J (λhg=>oF J Ty.b35 J)<|b8 J (λhg=>oS (ct hg) J J Ty.a28 J)<|b8 J (λhg=>M0 (f:=weak_Cell.Pv) (ct hg) Ty.e28)<|b8 J (λhg=>j8 (ct hg) J J)<|y0 J (l7 J J J (λq=>L5 q))<|S1 1 J<|b8 J (λhg=>oF J Ty.b6q J)<|b8 J (λhg=>oF (ct hg) Ty.c7T J)<|b8 J (λhg=>oS (ct hg) J J Ty.a3 J)<|b8 J (λhg=>mI J)<|b8 J (λhg=>j8 (ct hg) (ct hg) J)<|y0 J (l7 J J J (λq=>L5 q))<|S1 1 J<|b8 J (λhg=>oF J Ty.b6q J)<|b8 J (λhg=>oF (ct hg) Ty.c1r J)<|b8 J (λhg=>oS (ct hg) J J Ty.a30 J)<|b8 J (λhg=>M0 (f:=task_Task.Pv) (ct hg) Ty.e30)<|b8 J (λhg=>mI J)<|b8 J (λhg=>j8 (ct hg) (ct hg) J)<|y0 J (l7 J J J (λq=>L5 q))<|S2 1 J ?_
 refine a7 ?_
 cases h
 exact f1

theorem a7Q{a0 a1}:PO Tryz.prog 157 [.I a0,.rptr (hold_Heap.Pc a1)] (a1s a0 a1) λr=>.bool r:=by
 refine pO Tryz.func157 λr h _ _=>?_
 refine S4 1 J<|S3 2 J<|cA h L2 J J λv1 _ h=>S2 1 J<|a7 ?_
 cases h
 exact f1

theorem a0K{a0 a1}:PO Tryz.prog 156 [.L iF a0,.fn (.func 157) [.rptr (hold_Heap.Pc a1)]] (D8 a0 a1) λr=>.bool r:=by
 refine pO Tryz.func156 λr h _ _=>?_
 refine S4 1 J ?_
 refine jq h (λ_=>St.of [] []) (λq7 h=>?_) λκ6 h=>?_
 ·refine S4 1 J ?_
  refine a7 ?_
  cases h
  exact f1
 ·refine S3 1 J ?_
  refine nL J Ty.z6<|S2 1 J<|b9<|lq h (λs9=>St.of [(1,.fn (.func 157) [.rptr (hold_Heap.Pc a1)]),(7,.L iF a0),(8,.I (a0.length:Int)),(9,.I s9)] []) W λs9 x10 h hx9=>S4 1 J<|g5 ?_
  refine cN h (λhc h=>?_) λhc h=>?_
  ·refine a8 ?_
   refine g5<|b9<|sR<|iL h J J Ty.z6 Ty.s3 λv11 _ h=>S2 2 J<|S3 2 J<|cA h a7Q J J λv12 _ h=>S2 1 J ?_
   refine cN h (λhc h=>?_) λhc h=>?_
   ·refine S4 1 J ?_
    refine a7 ?_
    have h:=xL hx9 h
    cases h
    exact f1
   ·refine a8 ?_
    refine S6 2 J ?_
    exact eL h W
  ·refine k8 ?_
   refine b7<|b7<|g8 ?_
   have h:=xL hx9 h
   exact eJ h W

theorem a3B{a0}:PO Tryz.prog 88 [hold_Heap.Pv a0] (W1 a0) λr=>.bool r:=by
 refine pO Tryz.func88 λr h _ _=>?_
 unfold W1 at h
 refine S4 2 J<|S3 2 J<|s6 h λv1 hv1 h=>ycN J (b4l J a0h J hv1) J J<|S2 1 J ?_
 refine jq h (λj12=>St.of [(1,.ptr 1 0 0),(3,.sl 10)] [(10,⟨List.map iF j12,(List.map iF j12).length,true,1,true⟩),(1,vR (hold_Heap.Pv a0) 8)]) (λj12 h=>?_) λκ11 h=>?_
 ·refine S3 2 J ?_
  refine cA h a0K J J λv13 _ h=>S2 1 J<|a7 ?_
  cases h
  exact f1
 ·refine S3 2 J ?_
  refine cF h a0i J J λv14 _ h=>nL J Ty.z6<|S2 1 J<|b9<|lq h (λq=>St.of [(1,.ptr 1 0 0),(3,.sl 10),(13,.L iF v14),(14,.I (v14.length:Int)),(15,.I q.1)] [(10,⟨List.map iF q.2,(List.map iF q.2).length,true,1,true⟩),(1,vR (hold_Heap.Pv a0) 8)]) (Wk.trans (l4 _ [10]) W) λq19 x18 h hx14=>?_
  obtain⟨s16,s17⟩:=q19
  refine S4 1 J<|g5 ?_
  refine cN h (λhc h=>?_) λhc h=>?_
  ·refine a8 ?_
   refine g5<|b9<|sR<|iL h J J Ty.z6 Ty.s3 λv20 _ h=>S2 2 J<|S3 3 J<|cF h A6 J J λv21 _ h=>S2 6 J<|S5 3 J<|s6 h λv22 hv17 h=>L9 J (I8 (f:=iF) hv17 J J J J J J (.inl ⟨_,J,J⟩) Ty.z6 Ty.s3 Ty.b3 Ty.z3 J (λ_=>J)) J J J<|S2 1 J<|S6 2 J ?_
   exact eL h (Wk.trans (l4 _ [29]) (WP (λl=>if l=10 then 29 else l)))
  ·refine k8 ?_
   refine b7<|b7<|g8 ?_
   have h:=xL hx14 h
   exact eJ h (Wk.trans (l4 _ [10]) W)

theorem a6k{a0}:PO Tryz.prog 244 [.L hash_Place.Pv a0] (a0x a0) λr=>.fn (.func 298) [.rptr [.L hash_Place.Pv r]]:=by
 refine pO Tryz.func244 λr h _ _=>?_
 unfold a0x at h
 refine S4 2 J<|S4 2 J<|a7 ?_
 cases h
 exact f1

theorem a9a{a0}:PO Tryz.prog 299 [.L hash_Place.Pv a0] (a4h a0) λr=>.L iF r:=by
 refine pO Tryz.func299 λr h _ _=>?_
 refine S4 1 J<|S4 1 J ?_
 refine jq h (λj13=>St.of [(3,.sl 910003)] [(910003,⟨List.map iF j13,(List.map iF j13).length,true,1,true⟩)]) (λj13 h=>?_) λκ12 h=>?_
 ·refine S4 2 J ?_
  refine a7 ?_
  cases h
  exact f1
 ·refine S3 1 J ?_
  refine nL J Ty.e29<|S2 1 J<|b9<|lq h (λq=>St.of [(3,.sl 910003),(6,.L hash_Place.Pv a0),(7,.I (a0.length:Int)),(8,.I q.1)] [(910003,⟨List.map iF q.2,(List.map iF q.2).length,true,1,true⟩)]) (Wk.trans (I0 (t:=3) (l:=920003) (z:=1) J J) (WP (λl=>if l=910003 then 920003 else l))) λq18 x17 h hx12=>?_
  obtain⟨s15,s16⟩:=q18
  refine S4 1 J<|g5 ?_
  refine cN h (λhc h=>?_) λhc h=>?_
  ·refine a8 ?_
   refine jq h (λj22=>St.of [(3,.sl 19),(6,.L hash_Place.Pv a0),(7,.I (a0.length:Int)),(8,.I s15)] [(19,⟨List.map iF j22,(List.map iF j22).length,true,1,true⟩)]) (λj22 h=>?_) λκ21 h=>?_
   ·refine S6 2 J ?_
    exact eL h (Wk.trans (l4 _ [19]) (WP (λl=>if l=910003 then 19 else l)))
   ·refine b9 ?_
    refine sR<|iL h J J Ty.e29 Ty.a8G λv23 _ h=>S2 3 J<|S4 3 J ?_
    refine cN h (λhc h=>?_) λhc h=>?_
    ·refine S5 3 J ?_
     refine y0 J (M3 (f:=iF) (l:=[v23.Key]) J Ty.z6 Ty.s3 Ty.z3 J J nl J J)<|s6 h λv24 hv17 h=>L9 J (I8 (f:=iF) hv17 J J J J J J (.inl ⟨_,J,J⟩) Ty.z6 Ty.s3 Ty.b3 Ty.z3 J (λ_=>J)) J J J<|S2 1 J ?_
     exact eJ h (Wk.trans (l4 _ [19]) W)
    ·refine a8 ?_
     exact eJ h (Wk.trans (l4 _ [910003]) (WP (λl=>if l=19 then 910003 else l)))
  ·refine k8 ?_
   refine b7<|b7<|g8 ?_
   have h:=xL hx12 h
   exact eJ h (Wk.trans (l4 _ [910003]) W)

theorem b0u{a0}:PO Tryz.prog 245 [j5.Pv a0] (a1K a0) λr=>.bool r:=by
 refine pO Tryz.func245 λr h _ _=>?_
 unfold a1K at h
 refine S4 2 J<|S4 1 J<|a7 ?_
 cases h
 exact f1

theorem H5{a0}:PO Tryz.prog 243 [.fn (.func 298) [.rptr [.L hash_Place.Pv a0]],.fn (.func 245) []] (x4 a0) λr=>.L j5.Pv r:=by
 refine pO Tryz.func243 λr h _ _=>?_
 refine S4 2 J<|S4 1 J ?_
 refine jq h (λj16=>St.of [(5,.ptr 2001 0 0)] [(2001,vS (.sl 912501) 1),(912501,⟨List.map j5.Pv j16,(List.map j5.Pv j16).length,true,2,true⟩)]) (λj16 h=>?_) λκ15 h=>?_
 ·refine S4 2 J ?_
  refine a7 ?_
  cases h
  exact f1
 ·refine S4 1 J ?_
  refine b9<|a2m (WPE (λl=>if l=2012 then 5 else if l=2013 then 3 else l) [(3,.ptr 2013 0 0),(5,.ptr 2012 0 0),(7,.fn (.func 298) [.rptr [.L hash_Place.Pv a0]])] [(2012,vR (.nl) 1),(2013,vR (.fn (.func 245) []) 1)]) ?_
  refine a0b (fn:=Tryz.f298) (N1:=27) J Tryz.func298 J J nl J Ty.c72 J J (λl20 e21 o22 hR23=>?_)
  refine S3 1 J<|cF h a9a J J λv17 _ h=>nL J Ty.z6<|S2 1 J<|b9<|lq h (λq=>St.of [(1000003,.ptr 2013 0 0),(1000005,.ptr 2012 0 0),(1000007,.fn (.func 298) [.rptr [.L hash_Place.Pv a0]]),(0,.fn (.yield l20) []),(1,.rptr [.L hash_Place.Pv a0]),(8,.L iF v17),(9,.I (v17.length:Int)),(10,.I q.1)] [(2012,vS (.sl 912512) 1),(2013,vR (.fn (.func 245) []) 1),(912512,⟨List.map j5.Pv q.2,(List.map j5.Pv q.2).length,true,2,true⟩)]) (Wk.trans (a7M (l0:=2012) (j:=0) (l:=922512) (z:=2) J J J J J) (WP (λl=>if l=912512 then 922512 else l))) λq22 x21 h hx27=>?_
  obtain⟨s19,s20⟩:=q22
  refine S4 1 J<|g5 ?_
  refine cN h (λhc h=>?_) λhc h=>?_
  ·refine a8 ?_
   refine g5<|b9<|sR<|iL h J J Ty.z6 Ty.s3 λv23 _ h=>S2 2 J<|S3 2 J<|cA h a3A J J λv24 _ h=>S2 5 J<|S3 3 J<|y0 J (m7 (cs:=[.I v23,.I v24.1]) J Ty.c8k Ty.c0M J J J)<|L1 (WPE (λl=>if l=2021 then 912512 else l) [(1000003,.ptr 2013 0 0),(1000005,.ptr 2012 0 0),(1000007,.fn (.func 298) [.rptr [.L hash_Place.Pv a0]]),(0,.fn (.yield l20) []),(1,.rptr [.L hash_Place.Pv a0]),(8,.L iF v17),(9,.I (v17.length:Int)),(10,.I s19),(20,.fn (.yield l20) []),(23,.agg [.I v23,.I v24.1])] [(2012,vS (.sl 2021) 1),(2021,⟨List.map j5.Pv s20,(List.map j5.Pv s20).length,true,2,true⟩),(2013,vR (.fn (.func 245) []) 1)]) ?_
   refine a3T hR23 J J J J J J (λe30 o31 o32=>?_)
   refine S6 2 J ?_
   refine⟨J,?_⟩
   refine jqE h (λj28=>St.of [(2000003,.ptr 2013 0 0),(2000005,.ptr 2012 0 0),(2000007,.fn (.func 298) [.rptr [.L hash_Place.Pv a0]]),(1000000,.fn (.yield l20) []),(1000001,.rptr [.L hash_Place.Pv a0]),(1000008,.L iF v17),(1000009,.I (v17.length:Int)),(1000010,.I s19),(1000020,.fn (.yield l20) []),(1000023,.agg [.I v23,.I v24.1])] [(2012,vS (.sl 15) 1),(15,⟨List.map j5.Pv j28,(List.map j5.Pv j28).length,true,2,true⟩),(2013,vR (.fn (.func 245) []) 1)]) (λj28 h=>?_) λκ27 h=>?_
   ·refine⟨J,?_⟩
    refine L1 (WPE (λl=>if l=2022 then 15 else l) [(1000003,.ptr 2013 0 0),(1000005,.ptr 2012 0 0),(1000007,.fn (.func 298) [.rptr [.L hash_Place.Pv a0]]),(0,.fn (.yield l20) []),(1,.rptr [.L hash_Place.Pv a0]),(8,.L iF v17),(9,.I (v17.length:Int)),(10,.I s19),(24,.bool true)] [(2012,vS (.sl 2022) 1),(2022,⟨List.map j5.Pv j28,(List.map j5.Pv j28).length,true,2,true⟩),(2013,vR (.fn (.func 245) []) 1)])<|S2 1 J ?_
    refine F8 false J (λq=>nomatch q) (λ_=>?_)
    refine a8<|S6 2 J ?_
    exact eL h (Wk.trans (l4 _ [2022]) (WP (λl=>if l=912512 then 2022 else l)))
   ·refine b9 ?_
    refine S3 2 J<|cA h b0u J J λv29 _ h=>yN ?_
    refine cN h (λhc h=>?_) λhc h=>?_
    ·refine S5 2 J ?_
     refine y0 J (M3 (f:=j5.Pv) (l:=[(⟨v23,v24.1⟩:j5)]) J Ty.b7G Ty.c22 Ty.c0M J J nl J J)<|s6 h λv30 hv37 h=>L9 J (I8 (f:=j5.Pv) hv37 J J J J J J (.inl ⟨_,J,J⟩) Ty.b7G Ty.c22 Ty.c7M Ty.c0M J (λ_=>J)) J J J<|S2 1 J ?_
     exact eJ h (Wk.trans (l4 _ [15]) W)
    ·refine a8 ?_
     exact eJ h (Wk.trans (l4 _ [2021]) (WP (λl=>if l=15 then 2021 else l)))
  ·refine k8 ?_
   refine b7<|b7<|g8 ?_
   refine .inl ⟨J,?_⟩
   have h:=xL hx27 h
   exact eJ h (Wk.trans (l4 _ [912512]) (WP (λl=>if l=2001 then 2012 else if l=912501 then 912512 else l)))

theorem b2b{a0}:PO Tryz.prog 160 [.L hash_Place.Pv a0] (a3x a0) λr=>.L j5.Pv r:=by
 refine pO Tryz.func160 λr h _ _=>?_
 refine S4 1 J<|S3 1 J<|cF h a6k J J λv1 _ h=>cF h H5 J J λv2 _ h=>S2 1 J<|a7 ?_
 cases h
 exact f1

theorem a7R{a0 a1}:PO Tryz.prog 161 [j5.Pv a0,.rptr (hold_Heap.Pc a1)] (a1t a0 a1) λr=>.bool r:=by
 refine pO Tryz.func161 λr h _ _=>?_
 refine S4 2 J<|S3 3 J<|cA h a0T J J λv1 _ h=>S1 1 J<|b8 J (λhg=>b6P J Ty.U6 Ty.O0 nl J)<|b8 J (λhg=>oF J Ty.c1o J)<|b8 J (λhg=>oS (ct hg) J J Ty.a3 J)<|s6 h λv2 hv2 h=>b8 J (λhg=>D3 J a0T (A1 (ct hg) (A1 (ct hg) J)) (D2 hv2 hg))<|y0 J (l7 J J J (λq=>L5 q))<|S2 1 J<|a7 ?_
 cases h
 exact f1

theorem U4{a0 a1}:PO Tryz.prog 159 [.L j5.Pv a0,.fn (.func 161) [.rptr (hold_Heap.Pc a1)]] (B0 a0 a1) λr=>.bool r:=by
 refine pO Tryz.func159 λr h _ _=>?_
 refine S4 1 J ?_
 refine jq h (λ_=>St.of [] []) (λq7 h=>?_) λκ6 h=>?_
 ·refine S4 1 J ?_
  refine a7 ?_
  cases h
  exact f1
 ·refine S3 1 J ?_
  refine nL J Ty.b7G<|S2 1 J<|b9<|lq h (λs9=>St.of [(1,.fn (.func 161) [.rptr (hold_Heap.Pc a1)]),(7,.L j5.Pv a0),(8,.I (a0.length:Int)),(9,.I s9)] []) W λs9 x10 h hx9=>S4 1 J<|g5 ?_
  refine cN h (λhc h=>?_) λhc h=>?_
  ·refine a8 ?_
   refine g5<|b9<|sR<|iL h J J Ty.b7G Ty.c22 λv11 _ h=>S2 3 J<|S3 2 J<|cA h a7R J J λv12 _ h=>S2 1 J ?_
   refine cN h (λhc h=>?_) λhc h=>?_
   ·refine S4 1 J ?_
    refine a7 ?_
    have h:=xL hx9 h
    cases h
    exact f1
   ·refine a8 ?_
    refine S6 2 J ?_
    exact eL h W
  ·refine k8 ?_
   refine b7<|b7<|g8 ?_
   have h:=xL hx9 h
   exact eJ h W

theorem a3C{a0}:PO Tryz.prog 89 [hold_Heap.Pv a0] (a0U a0) λr=>.bool r:=by
 refine pO Tryz.func89 λr h _ _=>?_
 refine S4 2 J<|S3 2 J<|cF h b2b J J λv1 _ h=>S1 1 J<|cA h U4 J J λv2 _ h=>S2 1 J<|a7 ?_
 cases h
 exact f1

theorem a9g{a0 a1}:PO Tryz.prog 165 [hold_Heap.Pv a0,task_Task.Pv a1] (a0W a0 a1) λr=>.bool r:=by
 refine pO Tryz.func165 λr h _ _=>?_
 refine S4 3 J<|g5<|S4 2 J<|b9<|S4 2 J ?_
 refine cN h (λhc h=>?_) λhc h=>?_
 ·refine S3 4 J ?_
  refine cF h A6 J J λv1 _ h=>S2 6 J<|S3 3 J<|b8 J (λhg=>oF J Ty.b7M J)<|b8 J (λhg=>oS (ct hg) J J Ty.a4 J)<|y0 J (l7 J J J (λq=>L5 q))<|S2 1 J<|a7 ?_
  cases h
  exact f1
 ·refine S4 2 J ?_
  refine cN h (λhc h=>?_) λhc h=>?_
  ·refine S3 4 J ?_
   refine b8 J (λhg=>oF J Ty.c1k J)<|b8 J (λhg=>oS (ct hg) J J Ty.a3 J)<|b8 J (λhg=>oF J Ty.b35 J)<|b8 J (λhg=>oS (ct hg) J J Ty.a28 J)<|b8 J (λhg=>M0 (f:=weak_Cell.Pv) (ct hg) Ty.e28)<|b8 J (λhg=>j8 (ct hg) (ct hg) J)<|y0 J (l7 J J J (λq=>L5 q))<|S1 1 J<|b8 J (λhg=>oF J Ty.b35 J)<|b8 J (λhg=>oS (ct hg) J J Ty.a28 J)<|b8 J (λhg=>oF J Ty.c1k J)<|b8 J (λhg=>oS (ct hg) J J Ty.a3 J)<|s6 h λv2 hv2 h=>b8 J (λhg=>A3 (f:=weak_Cell.Pv) (cs:=weak_Cell.Pc v2) (D2 hv2 hg) (ct hg) (ct hg) Ty.e28 Ty.s84 J J)<|b8 J (λhg=>B2 (ct hg) Ty.c5i J)<|b8 J (λhg=>B4 (ct hg) Ty.a4 J)<|b8 J (λhg=>a0C (ct hg) J)<|y0 J (l7 J J J (λq=>L5 q))<|S2 1 J<|a7 ?_
   cases h
   exact f1
  ·refine a8 ?_
   refine S4 1 J<|a7 ?_
   cases h
   exact f1

end Go.Proofs.YtfihndcobnkiaaaGreat.Ok
