/-
 The functions of the program do as the plain functions do.
-/
import Derived.Test.YtfihndcobnkiaaaGreatM18cOk2
set_option linter.unusedVariables false
set_option linter.unusedSimpArgs false
set_option linter.unusedSectionVars false
namespace Go.Proofs.YtfihndcobnkiaaaGreat.Ok
open Go Go.Pw Go.Sh Go.Proofs
set_option maxRecDepth 100000
set_option maxHeartbeats 4000000
theorem a6F{a0 a1}:PO Tryz.prog 138 [.L j4.Pv a0,.I a1] (a0d a0 a1) λr=>.I r:=by
 refine pO Tryz.func138 λr h _ _=>?_
 refine S4 1 J ?_
 refine jq h (λ_=>St.of [] []) (λq6 h=>?_) λκ5 h=>?_
 ·refine S4 1 J ?_
  refine b7 ?_
  cases h
  exact f1
 ·refine S4 1 J ?_
  refine g8<|lq h (λs8=>St.of [(0,.L j4.Pv a0),(1,.I a1),(5,.I s8)] []) W λs8 x9 h hx8=>c7<|S3 2 J<|nL J Ty.e46<|S2 1 J ?_
  refine cN h (λhc h=>?_) λhc h=>?_
  ·refine c4 ?_
   refine c7<|g8<|S3 2 J<|iL h J J Ty.e46 Ty.a8v λv10 hv9 h=>S1 4 J<|g7 J (λhg=>om (d:=.L j4.Pv a0) J)<|g7 J (λhg=>mI J)<|g7 J (λhg=>y5 (f:=j4.Pv) (cs:=j4.Pc v10) hv9 (ct hg) (ct hg) Ty.e46 Ty.a8v J J)<|g7 J (λhg=>D2 (ct hg) Ty.c6j J)<|g7 J (λhg=>D4 (ct hg) Ty.a3 J)<|g7 J (λhg=>mI J)<|g7 J (λhg=>n9 (ct hg) (ct hg) J)<|y0 J (p5 J J J (λq=>Q1 q))<|yN ?_
   refine cN h (λhc h=>?_) λhc h=>?_
   ·refine S4 2 J ?_
    refine b7 ?_
    have h:=xL hx8 h
    cases h
    exact f1
   ·refine c4 ?_
    refine S6 3 J ?_
    exact eL h W
  ·refine n7 ?_
   refine c8<|c8<|j5 ?_
   have h:=xL hx8 h
   exact eJ h W

theorem b21{a0 a1}:PO Tryz.prog 221 [.L j4.Pv a0,.I a1] (a7j a0 a1) λr=>.tup [.I r.1,.I r.2]:=by
 refine pO Tryz.func221 λr h _ _=>?_
 refine S4 2 J<|S3 2 J<|cA h a6F J J λv1 _ h=>S2 1 J<|c7<|S4 2 J ?_
 refine cN h (λhc h=>?_) λhc h=>?_
 ·refine S4 2 J ?_
  refine b7 ?_
  cases h
  exact f2
 ·refine c4 ?_
  refine S3 2 J<|iL h J J Ty.e46 Ty.a8v λv2 _ h=>S2 4 J<|b7 ?_
  cases h
  exact f2

theorem a6G{a0 a1 a2}:PO Tryz.prog 320 [.L j4.Pv a0,.I a1,j4.Pv a2] (a0e a0 a1 a2) λr=>.L j4.Pv r:=by
 refine pO Tryz.func320 λr h _ _=>?_
 unfold a0e at h
 refine S4 2 J<|sR<|y0 J (B3 J Ty.e46 Ty.a8v)<|S1 1 J<|r8 h λv1 hv1 h=>y1 J (a5T (f:=j4.Pv) hv1 J J (.inl ⟨_,J,J⟩) Ty.e46 Ty.a8v Ty.c5X Ty.b88 J (λ_=>J)) J<|S2 1 J<|S3 3 J<|r8 h λv2 hv2 h=>y0 J (Z0 (f:=j4.Pv) hv2 J J J J Ty.e46 Ty.a8v J)<|a3s (f:=j4.Pv) (v:=a2) hv2 J J (.inl J) Ty.a8v<|yN<|S4 2 J<|b7 ?_
 cases h
 exact f1

theorem b1a{a0 a1}:PO Tryz.prog 282 [.L j4.Pv a0,.I a1] (a4F a0 a1) λr=>.tup [.L j4.Pv r.1,.I r.2.1,.I r.2.2]:=by
 refine pO Tryz.func282 λr h _ _=>?_
 refine S4 3 J<|S3 2 J<|cA h a6F J J λv1 _ h=>S2 1 J<|c7<|S4 2 J ?_
 refine cN h (λhc h=>?_) λhc h=>?_
 ·refine S4 4 J ?_
  refine b7 ?_
  cases h
  exact f3
 ·refine c4 ?_
  refine dr [] Ty.U9 (by kernel_rfl) (by kernel_rfl)<|S7 2 J<|d7 J (λ_ hN=>m9 (cs:=[.I 2,.I 0,.I 0]) J Ty.c63 Ty.b88 J J J) J<|r8 h λv2 hv2 h=>d2f J (y4 J a6G J hv2) J<|S7 2 J<|r8 h λv3 hv3 h=>d0 J (y5 (f:=j4.Pv) (cs:=j4.Pc v3) hv3 J J Ty.e46 Ty.a8v J J) J<|S8 5 J<|b7 ?_
  cases h
  exact f3

theorem b66{a0 a1}:PO Tryz.prog 139 [.I a0,.I a1] (a9v a0 a1) λr=>.I r:=by
 refine pO Tryz.func139 λr h _ _=>?_
 refine S4 1 J<|c7<|S4 2 J ?_
 refine cN h (λhc h=>?_) λhc h=>?_
 ·refine S4 1 J ?_
  refine b7 ?_
  cases h
  exact f1
 ·refine c4 ?_
  refine S3 4 J<|r8 h λv1 hv1 h=>y0 J (a5U J J hv1)<|S2 1 J<|c7<|S4 2 J ?_
  refine cN h (λhc h=>?_) λhc h=>?_
  ·refine S6 4 J ?_
   refine S4 2 J<|b7 ?_
   cases h
   exact f1
  ·refine c4 ?_
   refine S4 2 J<|b7 ?_
   cases h
   exact f1

theorem b8B{a0 a1 a2}:PO Tryz.prog 283 [.L j4.Pv a0,.I a1,.I a2] (b1V a0 a1 a2) λr=>.tup [.L j4.Pv r.1,.I r.2]:=by
 refine pO Tryz.func283 λr h _ _=>?_
 refine S4 2 J<|S3 2 J<|cA h a6F J J λv1 _ h=>S2 1 J<|c7<|S4 2 J ?_
 refine cN h (λhc h=>?_) λhc h=>?_
 ·refine S3 4 J ?_
  refine y0 J (m9 (cs:=[.I 1,.I a1,.I a2]) J Ty.c63 Ty.b88 J J J)<|cF h a6G J J λv2 _ h=>S2 2 J<|b7 ?_
  cases h
  exact f2
 ·refine c4 ?_
  refine S3 1 J<|nL J Ty.e46<|S2 1 J<|S3 2 J<|cA h b66 J J λv3 _ h=>S2 1 J ?_
  refine jq h (λ_=>St.of [(0,.L j4.Pv a0)] []) (λq13 h=>?_) λκ12 h=>?_
  ·refine S4 3 J ?_
   refine b7 ?_
   cases h
   exact f2
  ·refine S4 1 J ?_
   refine g8<|lq h (λq=>St.of [(0,.L j4.Pv a0),(1,.I a1),(2,.I a2),(9,.I (a0.length:Int)),(10,.I q.1),(11,.I q.2)] []) W λq18 x17 h hx13=>?_
   obtain⟨s15,s16⟩:=q18
   refine c7<|S4 3 J ?_
   refine cN h (λhc h=>?_) λhc h=>?_
   ·refine c4 ?_
    refine c7<|g8<|c7<|S3 2 J<|iL h J J Ty.e46 Ty.a8v λv19 _ h=>S2 3 J ?_
    refine cN h (λhc h=>?_) λhc h=>?_
    ·refine S3 4 J ?_
     refine y0 J (m9 (cs:=[.I 1,.I a1,.I a2]) J Ty.c63 Ty.b88 J J J)<|cF h a6G J J λv20 _ h=>S2 2 J<|b7 ?_
     have h:=xL hx13 h
     cases h
     exact f2
    ·refine c4 ?_
     refine S5 3 J<|r8 h λv21 hv16 h=>y0 J (a5U J J hv16)<|S2 1 J<|S6 3 J ?_
     exact eL h W
   ·refine n7 ?_
    refine c8<|c8<|j5 ?_
    have h:=xL hx13 h
    exact eJ h W

theorem b8D{a0 a1 a2}:PO Tryz.prog 208 [.L j4.Pv a0,.I a1,.I a2] (b1W a0 a1 a2) λr=>.tup [.L j4.Pv r.1,.I r.2.1,.I r.2.2]:=by
 refine pO Tryz.func208 λr h _ _=>?_
 refine S4 3 J<|c7<|S4 2 J ?_
 refine cN h (λhc h=>?_) λhc h=>?_
 ·refine S4 4 J ?_
  refine b7 ?_
  cases h
  exact f3
 ·refine c4 ?_
  refine S3 2 J<|cA h b21 J J λv1 _ h=>S2 5 J<|c7<|S4 2 J ?_
  refine cN h (λhc h=>?_) λhc h=>?_
  ·refine S3 2 J ?_
   refine cF h b1a J J λv2 _ h=>S2 7 J<|S4 5 J<|b7 ?_
   cases h
   exact f3
  ·refine c4 ?_
   refine S3 3 J<|cF h b8B J J λv3 _ h=>S2 5 J<|c7<|S4 2 J ?_
   refine cN h (λhc h=>?_) λhc h=>?_
   ·refine S4 5 J ?_
    refine b7 ?_
    cases h
    exact f3
   ·refine c4 ?_
    refine S4 5 J<|b7 ?_
    cases h
    exact f3

theorem b69{a0 a1 a2}:PO Tryz.prog 116 [g5.Pv a0,.I a1,.I a2] (a4G a0 a1 a2) λr=>.tup [g5.Pv r.1,.I r.2]:=by
 refine pO Tryz.func116 λr h _ _=>?_
 refine S4 3 J<|c7<|S4 2 J ?_
 refine cN h (λhc h=>?_) λhc h=>?_
 ·refine S4 3 J ?_
  refine b7 ?_
  cases h
  exact⟨J,[_,_],⟨oL J J J Ty.a51 Ty.Z6 nl J,⟨J,tr⟩⟩,J,io⟩
 ·refine c4 ?_
  refine c7<|S3 2 J<|cA h a2C J J λv1 _ h=>S1 2 J<|g7 J (λhg=>oL J J J Ty.a51 Ty.Z6 nl J)<|g7 J (λhg=>mI J)<|r8 h λv2 hv2 h=>g7 J (λhg=>C6 J a2D (B8 (ct hg) (B8 (ct hg) J)) (F3 hv2 hg))<|g7 J (λhg=>a01 (ct hg) J)<|y0 J (u9 J J J (λq=>R8 q))<|yN ?_
  refine cN h (λhc h=>?_) λhc h=>?_
  ·refine S4 3 J ?_
   refine b7 ?_
   cases h
   exact⟨J,[_,_],⟨oL J J J Ty.a51 Ty.Z6 nl J,⟨J,tr⟩⟩,J,io⟩
  ·refine c4 ?_
   refine S3 4 J<|cF h b8D J J λv3 _ h=>S2 7 J<|c7<|S4 2 J ?_
   refine cN h (λhc h=>?_) λhc h=>?_
   ·refine S4 4 J ?_
    refine b7 ?_
    cases h
    exact⟨J,[_,_],⟨oL J J J Ty.a51 Ty.Z6 nl J,⟨J,tr⟩⟩,J,io⟩
   ·refine c4 ?_
    refine S3 2 J<|cF h a1T J J λv4 _ h=>S2 2 J<|S4 3 J<|S3 2 J<|cF h a05 J J λv5 _ h=>S2 2 J<|b7 ?_
    cases h
    exact⟨J,[_,_],⟨oL J J J Ty.a51 Ty.Z6 nl J,⟨J,tr⟩⟩,J,io⟩

theorem b5C{a0 a1}:PO Tryz.prog 45 [g5.Pv a0,C0.Pv a1] (Y5 a0 a1) λr=>.tup [g5.Pv r.1,.I r.2.1,.I r.2.2]:=by
 refine pO Tryz.func45 λr h _ _=>?_
 refine S4 5 J<|c7<|S3 4 J<|g7 J (λhg=>oF J Ty.c78 J)<|g7 J (λhg=>oS (ct hg) J J Ty.a3 J)<|g7 J (λhg=>n9 (ct hg) J J)<|y0 J (p5 J J J (λq=>Q1 q))<|yN ?_
 refine cN h (λhc h=>?_) λhc h=>?_
 ·refine S3 5 J ?_
  refine cF h b1c J J λv1 _ h=>S2 6 J<|S4 5 J<|b7 ?_
  cases h
  exact⟨J,[_,_,_],⟨oL J J J Ty.a51 Ty.Z6 nl J,⟨J,⟨J,tr⟩⟩⟩,J,io⟩
 ·refine c4 ?_
  refine S4 3 J ?_
  refine jq h (λj3=>St.of [(2,.ptr 2 0 0),(3,.ptr 3 0 0),(4,.ptr 4 0 0),(9,.I j3)] [(4,vR (.agg [.nl,.I 0,.I 0,.nl,.nl,.nl,.nl,.I 0]) 8),(3,vR (C0.Pv a1) 4),(2,vR (g5.Pv a0) 8)]) (λj3 h=>?_) λκ2 h=>?_
  ·refine S3 2 J ?_
   refine cA h a5s J J λv4 _ h=>S2 5 J<|c7<|S4 2 J ?_
   refine cN h (λhc h=>?_) λhc h=>?_
   ·refine S4 5 J ?_
    refine b7 ?_
    cases h
    exact⟨J,[_,_,_],⟨oL J J J Ty.a51 Ty.Z6 nl J,⟨J,⟨J,tr⟩⟩⟩,J,io⟩
   ·refine c4 ?_
    refine c7<|S4 2 J<|g8<|S4 2 J ?_
    refine cN h (λhc h=>?_) λhc h=>?_
    ·refine dr [] Ty.U9 (by kernel_rfl) (by kernel_rfl) ?_
     refine S7 7 J<|r8 h λv5 hv4 h=>d2 J (C6 J a3S J hv4) J<|r8 h λv6 hv5 h=>d2f J (y4 J b5y J hv5) J<|S7 4 J<|G9 (x':=g5.Pv v6.1) (cl':=true) J J (.inr J) Ty.Z6<|S8 1 J<|dr [] Ty.U9 (by kernel_rfl) (by kernel_rfl)<|S7 4 J<|d2 J (C6 J a3S J hv4) J<|S7 1 J<|G9 (x':=g5.Pv v6.1) (cl':=true) J J (.inr J) Ty.Z6<|S8 2 J<|b7 ?_
     cases h
     exact⟨J,[_,_,_],⟨oL J J J Ty.a51 Ty.Z6 nl J,⟨J,⟨J,tr⟩⟩⟩,J,io⟩
    ·refine S4 2 J ?_
     refine cN h (λhc h=>?_) λhc h=>?_
     ·refine S3 6 J ?_
      refine cF h b1c J J λv7 _ h=>S2 6 J<|S4 6 J<|b7 ?_
      cases h
      exact⟨J,[_,_,_],⟨oL J J J Ty.a51 Ty.Z6 nl J,⟨J,⟨J,tr⟩⟩⟩,J,io⟩
     ·refine c4 ?_
      refine dr [] Ty.U9 (by kernel_rfl) (by kernel_rfl)<|S7 5 J<|r8 h λv8 hv7 h=>d2 J (C6 J a3S J hv7) J<|r8 h λv9 hv8 h=>d2f J (y4 J b69 J hv8) J<|S7 4 J<|G9 (x':=g5.Pv v9.1) (cl':=true) J J (.inr J) Ty.Z6<|S8 1 J<|dr [] Ty.U9 (by kernel_rfl) (by kernel_rfl)<|S7 4 J<|d2 J (C6 J a3S J hv7) J<|S7 1 J<|G9 (x':=g5.Pv v9.1) (cl':=true) J J (.inr J) Ty.Z6<|S8 2 J<|b7 ?_
      cases h
      exact⟨J,[_,_,_],⟨oL J J J Ty.a51 Ty.Z6 nl J,⟨J,⟨J,tr⟩⟩⟩,J,io⟩
  ·refine S4 3 J ?_
   refine cN h (λhc h=>?_) λhc h=>?_
   ·refine S6 3 J ?_
    exact eJ h W
   ·refine c4 ?_
    exact eJ h W

theorem b3X{a0 a1}:PO Tryz.prog 79 [k9.Pv a0,.L iF a1] (a3e a0 a1) λr=>.L iF r:=by
 refine pO Tryz.func79 λr h _ _=>?_
 unfold a3e at h
 refine S4 2 J<|sR<|y0 J (B3 J Ty.A5 Ty.s3)<|S1 1 J<|r8 h λv1 hv1 h=>y1 J (a5T (f:=iF) hv1 J J (.inl ⟨_,J,J⟩) Ty.A5 Ty.s3 Ty.b3 Ty.z3 J (λ_=>J)) J<|S2 1 J ?_
 refine jq h (λj36=>St.of [(5,.sl 15)] [(15,⟨List.map iF j36,0,true,1,true⟩)]) (λj36 h=>?_) λκ35 h=>?_
 ·refine S4 2 J ?_
  refine b7 ?_
  cases h
  exact f1
 ·refine S4 1 J ?_
  refine g8<|lq h (λq=>St.of [(2,.ptr 2 0 0),(5,.sl 15),(6,.I q.1)] [(15,⟨List.map iF q.2,0,true,1,true⟩),(2,vR (k9.Pv a0) 3)]) W λq41 x40 h hx31=>?_
  obtain⟨s38,s39⟩:=q41
  refine c7<|S3 2 J<|y0 J (b6S (f:=iF) J J J Ty.A5)<|S2 1 J ?_
  refine cN h (λhc h=>?_) λhc h=>?_
  ·refine c4 ?_
   refine jq h (λj56=>St.of [(2,.ptr 2 0 0),(5,.sl 15),(6,.I s38)] [(15,⟨List.map iF j56,0,true,1,true⟩),(2,vR (k9.Pv a0) 3)]) (λj56 h=>?_) λκ55 h=>?_
   ·refine S6 3 J ?_
    exact eL h W
   ·refine g8 ?_
    refine S4 2 J<|g8<|lq h (λq=>St.of [(2,.ptr 2 0 0),(5,.sl 15),(6,.I s38),(7,.I q.1)] [(15,⟨List.map iF q.2,0,true,1,true⟩),(2,vR (k9.Pv a0) 3)]) W λq61 x60 h hx46=>?_
    obtain⟨s58,s59⟩:=q61
    refine c7<|S4 2 J ?_
    refine cN h (λhc h=>?_) λhc h=>?_
    ·refine c4 ?_
     refine c7<|g8<|dr [] Ty.U9 (by kernel_rfl) (by kernel_rfl)<|S7 1 J<|r8 h λv62 hv47 h=>d2f J (y4 J M7 J hv47) J<|S7 3 J<|r8 h λv63 hv48 h=>d0 J (Z0 (f:=iF) hv48 J J J J Ty.A5 Ty.s3 J) J<|d0 J (b2J (f:=iF) hv48 J J J Ty.a3 J) J<|r8 h λv64 hv49 h=>d2 J (C6 J W0 J hv49) J<|S8 5 J<|dr [] Ty.U9 (by kernel_rfl) (by kernel_rfl)<|S7 1 J<|d2f J (y4 J M7 J hv47) J<|S7 2 J<|r8 h λv65 hv50 h=>d0 J (Z0 (f:=iF) hv50 J J J J Ty.A5 Ty.s3 J) J<|d0 J (b2J (f:=iF) hv50 J J J Ty.a3 J) J<|r8 h λv66 hv51 h=>d2 J (C6 J W0 J hv51) J<|S8 5 J<|c7<|dr [] Ty.U9 (by kernel_rfl) (by kernel_rfl)<|S7 3 J<|D0 J (λhg _ hN=>mI J) J<|D0 J (λhg _ hN=>n9 (ct hg) J J) J<|d7 J (λ_ hN=>u9 J J J (λq=>R8 q)) J<|S7 1 J<|D0 J (λhg _ hN=>oF J Ty.b01 J) J<|K3 J (λhg=>oS (ct hg) J J Ty.a42 J) J<|D0 J (λhg _ hN=>mI J) J<|r8 h λv67 hv52 h=>K3 J (λhg=>y5 (f:=l6.Pv) (cs:=l6.Pc v67) (F3 hv52 hg) (ct hg) (ct hg) Ty.e42 Ty.a19 J J) J<|D0 J (λhg _ hN=>D2 (ct hg) Ty.b4W J) J<|D0 J (λhg _ hN=>D2 (ct hg) Ty.c5l J) J<|K3 J (λhg=>D4 (ct hg) Ty.a3 J) J<|D0 J (λhg _ hN=>oF J Ty.b01 J) J<|K3 J (λhg=>oS (ct hg) J J Ty.a42 J) J<|D0 J (λhg _ hN=>mI J) J<|r8 h λv68 hv53 h=>K3 J (λhg=>y5 (f:=l6.Pv) (cs:=l6.Pc v68) (F3 hv53 hg) (ct hg) (ct hg) Ty.e42 Ty.a19 J J) J<|D0 J (λhg _ hN=>D2 (ct hg) Ty.b4W J) J<|D0 J (λhg _ hN=>D2 (ct hg) Ty.c5l J) J<|K3 J (λhg=>D4 (ct hg) Ty.a3 J) J<|D0 J (λhg _ hN=>n9 (ct hg) (ct hg) J) J<|d7 J (λ_ hN=>u9 J J J (λq=>R8 q)) J<|N6 ?_
     refine cN h (λhc h=>?_) λhc h=>?_
     ·refine n7 ?_
      refine c8<|a8J (by decide)<|c8<|c8<|j5 ?_
      have h:=xL hx46 h
      exact eJ h W
     ·refine c4 ?_
      refine S3 2 J<|y0 J (Z0 (f:=iF) hv50 J J J J Ty.A5 Ty.s3 J)<|y0 J (b2J (f:=iF) hv50 J J J Ty.a3 J)<|S2 1 J<|S3 5 J<|y0 J (Z0 (f:=iF) hv48 J J J J Ty.A5 Ty.s3 J)<|y0 J (b2J (f:=iF) hv48 J J J Ty.a3 J)<|y0 J (Z0 (f:=iF) hv50 J J J J Ty.A5 Ty.s3 J)<|a3s (f:=iF) (v:=v63) hv50 J J (.inl J) Ty.s3<|yN<|S5 4 J<|r8 h λv69 hv54 h=>y0 J (Z0 (f:=iF) hv54 J J J J Ty.A5 Ty.s3 J)<|a3s (f:=iF) (v:=v65) hv54 J J (.inl J) Ty.s3<|yN<|S6 3 J ?_
      exact eL h W
    ·refine n7 ?_
     refine c8<|c8<|j5 ?_
     have h:=xL hx46 h
     exact eJ h W
  ·refine n7 ?_
   refine c8<|c8<|j5 ?_
   have h:=xL hx31 h
   exact eJ h W

theorem b61{a0}:PO Tryz.prog 32 [k9.Pv a0] (a15 a0) λr=>.L iF r:=by
 refine pO Tryz.func32 λr h _ _=>?_
 refine S4 2 J<|sR<|y0 J (B3 J Ty.A5 Ty.s3)<|S2 1 J ?_
 refine jq h (λj15=>St.of [(1,.ptr 1 0 0),(3,.sl 910003)] [(910003,⟨List.map iF j15,(List.map iF j15).length,true,1,true⟩),(1,vR (k9.Pv a0) 3)]) (λj15 h=>?_) λκ14 h=>?_
 ·refine S3 2 J ?_
  obtain⟨v16,hv12,h⟩:=a6f h
  refine ycL J (y4 J b3X J hv12) J<|S2 1 J<|b7 ?_
  cases h
  exact f1
 ·refine S4 1 J ?_
  refine g8<|lq h (λq=>St.of [(1,.ptr 1 0 0),(3,.sl 910003),(4,.I q.1)] [(1,vR (k9.Pv a0) 3),(910003,⟨List.map iF q.2,(List.map iF q.2).length,true,1,true⟩)]) (Wk.trans (F2 (t:=3) (l:=920003) (z:=1) J J) (WP (λl=>if l=910003 then 920003 else l))) λq21 x20 h hx15=>?_
  obtain⟨s18,s19⟩:=q21
  refine c7<|S3 3 J<|nL J Ty.e42<|S2 1 J ?_
  refine cN h (λhc h=>?_) λhc h=>?_
  ·refine c4 ?_
   refine jq h (λj26=>St.of [(1,.ptr 1 0 0),(3,.sl 30),(4,.I s18)] [(30,⟨List.map iF j26,(List.map iF j26).length,true,1,true⟩),(1,vR (k9.Pv a0) 3)]) (λj26 h=>?_) λκ25 h=>?_
   ·refine S6 3 J ?_
    exact eL h (Wk.trans (n0 _ [30]) (WP (λl=>if l=910003 then 30 else l)))
   ·refine g8 ?_
    refine S3 3 J<|iL h J J Ty.e42 Ty.a19 λv27 hv20 h=>S2 3 J ?_
    refine cN h (λhc h=>?_) λhc h=>?_
    ·refine S5 5 J ?_
     refine y0 J (y5 (f:=l6.Pv) (cs:=l6.Pc v27) hv20 J J Ty.e42 Ty.a19 J J)<|S1 2 J<|cA h a6y J J λv28 _ h=>y0 J (M2 (f:=iF) (l:=[v28]) J Ty.A5 Ty.s3 Ty.z3 J J nl J J)<|r8 h λv29 hv22 h=>L0 J (H5 (f:=iF) hv22 J J J J J J (.inl ⟨_,J,J⟩) Ty.A5 Ty.s3 Ty.b3 Ty.z3 J (λ_=>J)) J J J<|S2 1 J ?_
     exact eJ h (Wk.trans (n0 _ [30]) W)
    ·refine c4 ?_
     exact eJ h (Wk.trans (n0 _ [910003]) (WP (λl=>if l=30 then 910003 else l)))
  ·refine n7 ?_
   refine c8<|c8<|j5 ?_
   have h:=xL hx15 h
   exact eJ h (Wk.trans (n0 _ [910003]) W)

theorem b7c{a0}:PO Tryz.prog 75 [g5.Pv a0] (a3h a0) λr=>.L iF r:=by
 refine pO Tryz.func75 λr h _ _=>?_
 refine S4 2 J<|sR<|y0 J (B3 J Ty.A5 Ty.s3)<|S2 1 J<|S3 2 J<|cF h b61 J J λv1 _ h=>S2 1 J ?_
 refine jq h (λj16=>St.of [(3,.sl 910003)] [(910003,⟨List.map iF j16,(List.map iF j16).length,true,1,true⟩)]) (λj16 h=>?_) λκ15 h=>?_
 ·refine S4 2 J ?_
  refine b7 ?_
  cases h
  exact f1
 ·refine S4 1 J ?_
  refine g8<|lq h (λq=>St.of [(1,.ptr 1 0 0),(3,.sl 910003),(4,.L iF v1),(5,.I q.1)] [(1,vR (g5.Pv a0) 8),(910003,⟨List.map iF q.2,(List.map iF q.2).length,true,1,true⟩)]) (Wk.trans (F2 (t:=3) (l:=920003) (z:=1) J J) (WP (λl=>if l=910003 then 920003 else l))) λq21 x20 h hx15=>?_
  obtain⟨s18,s19⟩:=q21
  refine c7<|S3 2 J<|nL J Ty.A5<|S2 1 J ?_
  refine cN h (λhc h=>?_) λhc h=>?_
  ·refine c4 ?_
   refine jq h (λj26=>St.of [(1,.ptr 1 0 0),(3,.sl 37),(4,.L iF v1),(5,.I s18)] [(37,⟨List.map iF j26,(List.map iF j26).length,true,1,true⟩),(1,vR (g5.Pv a0) 8)]) (λj26 h=>?_) λκ25 h=>?_
   ·refine S6 3 J ?_
    exact eL h (Wk.trans (n0 _ [37]) (WP (λl=>if l=910003 then 37 else l)))
   ·refine g8 ?_
    refine dr [] Ty.U9 (by kernel_rfl) (by kernel_rfl)<|S7 4 J<|r8 h λv27 hv20 h=>d0 J (y5 (f:=iF) (cs:=[.I v27]) hv20 J J Ty.A5 Ty.s3 J J) J<|S7 1 J<|r8 h λv28 hv21 h=>d2f J (y4 J H8 J hv21) J<|S7 4 J<|G9 (x':=A0.Pv v28.1) (cl':=true) J J (.inr J) Ty.s78<|S8 1 J<|S4 3 J ?_
    refine cN h (λhc h=>?_) λhc h=>?_
    ·refine S5 3 J ?_
     refine y0 J (y5 (f:=iF) (cs:=[.I v27]) hv20 J J Ty.A5 Ty.s3 J J)<|S1 1 J<|y0 J (M2 (f:=iF) (l:=[v27]) J Ty.A5 Ty.s3 Ty.z3 J J nl J J)<|r8 h λv29 hv22 h=>L0 J (H5 (f:=iF) hv22 J J J J J J (.inl ⟨_,J,J⟩) Ty.A5 Ty.s3 Ty.b3 Ty.z3 J (λ_=>J)) J J J<|S2 1 J ?_
     exact eJ h (Wk.trans (n0 _ [37]) W)
    ·refine c4 ?_
     exact eJ h (Wk.trans (n0 _ [910003]) (WP (λl=>if l=37 then 910003 else l)))
  ·refine n7 ?_
   refine c8<|c8<|j5 ?_
   have h:=xL hx15 h
   exact eJ h (Wk.trans (n0 _ [910003]) W)

theorem b27{a0 a1}:PO Tryz.prog 117 [g5.Pv a0,.I a1] (a7l a0 a1) λr=>.bool r:=by
 refine pO Tryz.func117 λr h _ _=>?_
 refine S4 2 J<|S3 3 J<|cF h H8 J J λv1 _ h=>S2 6 J<|S3 2 J<|cA h a2C J J λv2 _ h=>S1 1 J<|g7 J (λhg=>oF J Ty.c1G J)<|g7 J (λhg=>oS (ct hg) J J Ty.a3 J)<|g7 J (λhg=>n9 (ct hg) J J)<|y0 J (p5 J J J (λq=>Q1 q))<|S1 1 J<|g7 J (λhg=>oF J Ty.c1H J)<|g7 J (λhg=>oS (ct hg) J J Ty.a4 J)<|g7 J (λhg=>a01 (ct hg) J)<|y0 J (p5 J J J (λq=>Q1 q))<|S2 1 J<|b7 ?_
 cases h
 exact f1

theorem b26{a0 a1}:PO Tryz.prog 209 [r9.Pv a0,p6.Pv a1] (a3R a0 a1) λr=>.tup [r9.Pv r.1,.I r.2]:=by
 refine pO Tryz.func209 λr h _ _=>?_
 refine S4 4 J<|c7<|S3 2 J<|nL J Ty.e47<|S2 3 J ?_
 refine cN h (λhc h=>?_) λhc h=>?_
 ·refine S4 3 J ?_
  refine b7 ?_
  cases h
  exact⟨J,[_,_],⟨oL J J J Ty.a49 Ty.s49 nl J,⟨J,tr⟩⟩,J,io⟩
 ·refine c4 ?_
  refine dr [] Ty.U9 (by kernel_rfl) (by kernel_rfl)<|d1n J (B3 J Ty.e47 Ty.b3k) J<|S7 2 J<|r8 h λv1 hv1 h=>d3 J (a5T (f:=p6.Pv) hv1 J J (.inl ⟨_,J,J⟩) Ty.e47 Ty.b3k Ty.c5Y Ty.b89 J (λ_=>J)) J J J<|S7 1 J<|d1n J (M2 (f:=p6.Pv) (l:=[a1]) J Ty.e47 Ty.b3k Ty.b89 J J nl J J) J<|r8 h λv2 hv2 h=>d3a J (H5 (f:=p6.Pv) hv2 J J J J J J (.inl ⟨_,J,J⟩) Ty.e47 Ty.b3k Ty.c5Y Ty.b89 J (λ_=>J)) J J J J J<|S7 2 J<|d7 J (λ_ hN=>m9 (cs:=[.sl 19,.I a0.Cap]) J Ty.p49 Ty.z49 J J J) J<|G9 (x':=.agg [.sl 19,.I a0.Cap]) (cl':=false) J J (.inl J) Ty.s49<|S8 1 J<|b7 ?_
  cases h
  exact⟨J,[_,_],⟨oL J J J Ty.a49 Ty.s49 nl J,⟨J,tr⟩⟩,J,io⟩

theorem b3Y{a0 a1}:PO Tryz.prog 118 [g5.Pv a0,.I a1] (a3g a0 a1) λr=>g5.Pv r:=by
 refine pO Tryz.func118 λr h _ _=>?_
 refine S4 2 J<|c7<|S3 2 J<|cA h b27 J J λv1 _ h=>S2 1 J ?_
 refine cN h (λhc h=>?_) λhc h=>?_
 ·refine S4 2 J ?_
  refine b7 ?_
  cases h
  exact⟨J,[_],⟨oL J J J Ty.a51 Ty.Z6 nl J,tr⟩,J,io⟩
 ·refine c4 ?_
  refine S3 3 J<|cF h H8 J J λv2 _ h=>S2 6 J<|S4 2 J<|S3 4 J<|cF h a1x J J λv3 _ h=>S2 5 J<|S3 5 J<|y0 J (m9 (cs:=[.I 1,.I a1,.I v2.1.Prog]) J Ty.c8B Ty.b89 J J J)<|cF h b26 J J λv4 _ h=>S2 5 J<|S3 2 J<|cF h a1T J J λv5 _ h=>S2 1 J<|b7 ?_
  cases h
  exact⟨J,[_],⟨oL J J J Ty.a51 Ty.Z6 nl J,tr⟩,J,io⟩

theorem a9t{a0 a1}:PO Tryz.prog 35 [.L iF a0,.I a1] (a0B a0 a1) λr=>.I r:=by
 refine pO Tryz.func35 λr h _ _=>?_
 refine S4 1 J<|S4 1 J ?_
 refine jq h (λj11=>St.of [(5,.I j11)] []) (λj11 h=>?_) λκ10 h=>?_
 ·refine S4 2 J ?_
  refine b7 ?_
  cases h
  exact f1
 ·refine S4 1 J ?_
  refine g8<|lq h (λq=>St.of [(0,.L iF a0),(1,.I a1),(5,.I q.1),(6,.I q.2)] []) W λq16 x15 h hx10=>?_
  obtain⟨s13,s14⟩:=q16
  refine c7<|S3 2 J<|nL J Ty.A5<|S2 1 J ?_
  refine cN h (λhc h=>?_) λhc h=>?_
  ·refine c4 ?_
   refine jq h (λj19=>St.of [(0,.L iF a0),(1,.I a1),(5,.I j19),(6,.I s14)] []) (λj19 h=>?_) λκ18 h=>?_
   ·refine S6 3 J ?_
    exact eL h W
   ·refine g8 ?_
    refine S3 2 J<|iL h J J Ty.A5 Ty.s3 λv20 _ h=>S1 4 J<|g7 J (λhg=>mI J)<|g7 J (λhg=>n9 (ct hg) J J)<|y0 J (p5 J J J (λq=>Q1 q))<|yN ?_
    refine cN h (λhc h=>?_) λhc h=>?_
    ·refine S6 3 J ?_
     exact eJ h W
    ·refine c4 ?_
     exact eJ h W
  ·refine n7 ?_
   refine c8<|c8<|j5 ?_
   have h:=xL hx10 h
   exact eJ h W

theorem b8x{a0 a1}:PO Tryz.prog 229 [.L iF a0,.I a1] (b1T a0 a1) λr=>.bool r:=by
 refine pO Tryz.func229 λr h _ _=>?_
 refine S4 1 J<|S3 2 J<|cA h a9t J J λv1 _ h=>S2 2 J<|b7 ?_
 cases h
 exact f1

theorem b7d{a0 a1}:PO Tryz.prog 210 [g5.Pv a0,.L iF a1] (a6J a0 a1) λr=>.L iF r:=by
 refine pO Tryz.func210 λr h _ _=>?_
 refine S4 2 J<|sR<|y0 J (B3 J Ty.A5 Ty.s3)<|S2 1 J ?_
 refine jq h (λj17=>St.of [(5,.sl 910005)] [(910005,⟨List.map iF j17,(List.map iF j17).length,true,1,true⟩)]) (λj17 h=>?_) λκ16 h=>?_
 ·refine S4 2 J ?_
  refine b7 ?_
  cases h
  exact f1
 ·refine S4 1 J ?_
  refine g8<|lq h (λq=>St.of [(1,.L iF a1),(2,.ptr 2 0 0),(5,.sl 910005),(6,.I q.1)] [(2,vR (g5.Pv a0) 8),(910005,⟨List.map iF q.2,(List.map iF q.2).length,true,1,true⟩)]) (Wk.trans (F2 (t:=5) (l:=920005) (z:=1) J J) (WP (λl=>if l=910005 then 920005 else l))) λq22 x21 h hx16=>?_
  obtain⟨s19,s20⟩:=q22
  refine c7<|S3 2 J<|nL J Ty.A5<|S2 1 J ?_
  refine cN h (λhc h=>?_) λhc h=>?_
  ·refine c4 ?_
   refine jq h (λj28=>St.of [(1,.L iF a1),(2,.ptr 2 0 0),(5,.sl 35),(6,.I s19)] [(35,⟨List.map iF j28,(List.map iF j28).length,true,1,true⟩),(2,vR (g5.Pv a0) 8)]) (λj28 h=>?_) λκ27 h=>?_
   ·refine S6 3 J ?_
    exact eL h (Wk.trans (n0 _ [35]) (WP (λl=>if l=910005 then 35 else l)))
   ·refine g8 ?_
    refine dr [] Ty.U9 (by kernel_rfl) (by kernel_rfl)<|S7 3 J<|r8 h λv29 hv22 h=>d0 J (y5 (f:=iF) (cs:=[.I v29]) hv22 J J Ty.A5 Ty.s3 J J) J<|S7 1 J<|r8 h λv30 hv23 h=>d2 J (C6 J a2C J hv23) J<|S7 1 J<|D0 J (λhg _ hN=>om (d:=.sl 910005) J) J<|D0 J (λhg _ hN=>om (d:=.L iF a1) J) J<|D0 J (λhg _ hN=>mI J) J<|K3 J (λhg=>y5 (f:=iF) (cs:=[.I v29]) hv22 (ct hg) (ct hg) Ty.A5 Ty.s3 J J) J<|K3 J (λhg=>D4 (ct hg) Ty.a3 J) J<|r8 h λv31 hv24 h=>b4f J (λhg=>C6 J b8x (B8 (ct hg) (B8 (ct hg) J)) (F3 hv24 hg)) J<|D0 J (λhg _ hN=>a01 (ct hg) J) J<|d7 J (λ_ hN=>p5 J J J (λq=>Q1 q)) J<|N6 ?_
    refine cN h (λhc h=>?_) λhc h=>?_
    ·refine S5 3 J ?_
     refine y0 J (y5 (f:=iF) (cs:=[.I v29]) hv22 J J Ty.A5 Ty.s3 J J)<|S1 1 J<|y0 J (M2 (f:=iF) (l:=[v29]) J Ty.A5 Ty.s3 Ty.z3 J J nl J J)<|r8 h λv32 hv25 h=>L0 J (H5 (f:=iF) hv25 J J J J J J (.inl ⟨_,J,J⟩) Ty.A5 Ty.s3 Ty.b3 Ty.z3 J (λ_=>J)) J J J<|S2 1 J ?_
     exact eJ h (Wk.trans (n0 _ [35]) W)
    ·refine c4 ?_
     exact eJ h (Wk.trans (n0 _ [910005]) (WP (λl=>if l=35 then 910005 else l)))
  ·refine n7 ?_
   refine c8<|c8<|j5 ?_
   have h:=xL hx16 h
   exact eJ h (Wk.trans (n0 _ [910005]) W)

theorem b5u{a0 a1}:PO Tryz.prog 211 [.L k8.Pv a0,.L iF a1] (a7i a0 a1) λr=>.tup [.L k8.Pv r.1,.L iF r.2]:=by
 refine pO Tryz.func211 λr h _ _=>?_
 refine S4 2 J<|sR<|y0 J (B3 J Ty.e45 Ty.a4c)<|S2 1 J<|sR<|y0 J (B3 J Ty.A5 Ty.s3)<|S2 1 J ?_
 refine jq h (λq=>St.of [(6,.sl 910006),(7,.sl 910007)] [(910007,⟨List.map iF q.1,(List.map iF q.1).length,true,1,true⟩),(910006,⟨List.map k8.Pv q.2,(List.map k8.Pv q.2).length,true,3,true⟩)]) (λq20 h=>?_) λκ17 h=>?_
 ·obtain⟨j18,j19⟩:=q20
  refine S4 4 J<|b7 ?_
  cases h
  exact f2
 ·refine S4 1 J ?_
  refine g8<|lq h (λq=>St.of [(0,.L k8.Pv a0),(1,.L iF a1),(6,.sl 910006),(7,.sl 910007),(8,.I q.1)] [(910006,⟨List.map k8.Pv q.2.1,(List.map k8.Pv q.2.1).length,true,3,true⟩),(910007,⟨List.map iF q.2.2,(List.map iF q.2.2).length,true,1,true⟩)]) (Wk.trans (F2 (t:=6) (l:=920006) (z:=3) J J) (Wk.trans (F2 (t:=7) (l:=920007) (z:=1) J J) (WP (λl=>if l=910006 then 920006 else if l=910007 then 920007 else l)))) λq26 x25 h hx14=>?_
  obtain⟨s22,s23,s24⟩:=q26
  refine c7<|S3 2 J<|nL J Ty.e45<|S2 1 J ?_
  refine cN h (λhc h=>?_) λhc h=>?_
  ·refine c4 ?_
   refine c7<|g8<|S3 2 J<|iL h J J Ty.e45 Ty.a4c λv27 _ h=>S2 3 J ?_
   refine jq h (λq=>St.of [(0,.L k8.Pv a0),(1,.L iF a1),(6,.sl 910006),(7,.sl 38),(8,.I s22),(9,.ptr 9 0 0)] [(9,vR (.agg [.I v27.Target,.bool q.1,.I v27.Call]) 3),(38,⟨List.map iF q.2,(List.map iF q.2).length,true,1,true⟩),(910006,⟨List.map k8.Pv s23,(List.map k8.Pv s23).length,true,3,true⟩)]) (λq33 h=>?_) λκ30 h=>?_
   ·obtain⟨j31,j32⟩:=q33
    refine S5 2 J<|y0 J (M2 (f:=k8.Pv) (l:=[(⟨v27.Target,j31,v27.Call⟩:k8)]) J Ty.e45 Ty.a4c Ty.b6c J J nl J J)<|r8 h λv34 hv19 h=>L0 J (H5 (f:=k8.Pv) hv19 J J J J J J (.inl ⟨_,J,J⟩) Ty.e45 Ty.a4c Ty.c3J Ty.b6c J (λ_=>J)) J J J<|S2 1 J<|S6 3 J ?_
    exact eL h (Wk.trans (n0 _ [42,38]) (WP (λl=>if l=910006 then 42 else if l=910007 then 38 else l)))
   ·refine S3 3 J ?_
    refine g7 J (λhg=>om (d:=.L iF a1) J)<|g7 J (λhg=>oF J Ty.c6h J)<|g7 J (λhg=>oS (ct hg) J J Ty.a3 J)<|r8 h λv35 hv20 h=>g7 J (λhg=>C6 J a9t (B8 (ct hg) (B8 (ct hg) J)) (F3 hv20 hg))<|g7 J (λhg=>n9 (ct hg) J J)<|y0 J (p5 J J J (λq=>Q1 q))<|yN ?_
    refine cN h (λhc h=>?_) λhc h=>?_
    ·refine S4 2 J ?_
     refine S4 3 J ?_
     refine cN h (λhc h=>?_) λhc h=>?_
     ·refine S5 2 J ?_
      refine y0 J (M2 (f:=iF) (l:=[s22]) J Ty.A5 Ty.s3 Ty.z3 J J nl J J)<|r8 h λv36 hv21 h=>L0 J (H5 (f:=iF) hv21 J J J J J J (.inl ⟨_,J,J⟩) Ty.A5 Ty.s3 Ty.b3 Ty.z3 J (λ_=>J)) J J J<|S2 1 J ?_
      exact eJ h (Wk.trans (n0 _ [910006,38]) W)
     ·refine c4 ?_
      exact eJ h (Wk.trans (n0 _ [910006,910007]) (WP (λl=>if l=38 then 910007 else l)))
    ·refine c4 ?_
     exact eJ h (Wk.trans (n0 _ [910006,910007]) (WP (λl=>if l=38 then 910007 else l)))
  ·refine n7 ?_
   refine c8<|c8<|j5 ?_
   have h:=xL hx14 h
   exact eJ h (Wk.trans (n0 _ [910006,910007]) W)

theorem b5r{a0}:PO Tryz.prog 212 [.L iF a0] (a1v a0) λr=>.L iF r:=by
 refine pO Tryz.func212 λr h _ _=>?_
 refine S4 1 J<|sR<|y0 J (B3 J Ty.A5 Ty.s3)<|S2 1 J ?_
 refine jq h (λj13=>St.of [(3,.sl 910003)] [(910003,⟨List.map iF j13,(List.map iF j13).length,true,1,true⟩)]) (λj13 h=>?_) λκ12 h=>?_
 ·refine S4 2 J ?_
  refine b7 ?_
  cases h
  exact f1
 ·refine S4 1 J ?_
  refine g8<|lq h (λq=>St.of [(0,.L iF a0),(3,.sl 910003),(4,.I q.1)] [(910003,⟨List.map iF q.2,(List.map iF q.2).length,true,1,true⟩)]) (Wk.trans (F2 (t:=3) (l:=920003) (z:=1) J J) (WP (λl=>if l=910003 then 920003 else l))) λq18 x17 h hx12=>?_
  obtain⟨s15,s16⟩:=q18
  refine c7<|S3 2 J<|nL J Ty.A5<|S2 1 J ?_
  refine cN h (λhc h=>?_) λhc h=>?_
  ·refine c4 ?_
   refine jq h (λj22=>St.of [(0,.L iF a0),(3,.sl 23),(4,.I s15)] [(23,⟨List.map iF j22,(List.map iF j22).length,true,1,true⟩)]) (λj22 h=>?_) λκ21 h=>?_
   ·refine S6 3 J ?_
    exact eL h (Wk.trans (n0 _ [23]) (WP (λl=>if l=910003 then 23 else l)))
   ·refine g8 ?_
    refine S3 2 J<|iL h J J Ty.A5 Ty.s3 λv23 hv16 h=>S2 2 J ?_
    refine cN h (λhc h=>?_) λhc h=>?_
    ·refine S5 3 J ?_
     refine y0 J (y5 (f:=iF) (cs:=[.I v23]) hv16 J J Ty.A5 Ty.s3 J J)<|S1 1 J<|y0 J (M2 (f:=iF) (l:=[v23]) J Ty.A5 Ty.s3 Ty.z3 J J nl J J)<|r8 h λv24 hv17 h=>L0 J (H5 (f:=iF) hv17 J J J J J J (.inl ⟨_,J,J⟩) Ty.A5 Ty.s3 Ty.b3 Ty.z3 J (λ_=>J)) J J J<|S2 1 J ?_
     exact eJ h (Wk.trans (n0 _ [23]) W)
    ·refine c4 ?_
     exact eJ h (Wk.trans (n0 _ [910003]) (WP (λl=>if l=23 then 910003 else l)))
  ·refine n7 ?_
   refine c8<|c8<|j5 ?_
   have h:=xL hx12 h
   exact eJ h (Wk.trans (n0 _ [910003]) W)

theorem b23{a0 a1}:PO Tryz.prog 213 [.L j4.Pv a0,.L iF a1] (a16 a0 a1) λr=>.tup [.L j4.Pv r.1,.L iF r.2]:=by
 refine pO Tryz.func213 λr h _ _=>?_
 refine S4 2 J<|sR<|y0 J (B3 J Ty.A5 Ty.s3)<|S2 1 J ?_
 refine jq h (λq=>St.of [(0,.L j4.Pv q.1),(6,.sl 910006)] [(910006,⟨List.map iF q.2,(List.map iF q.2).length,true,1,true⟩)]) (λq20 h=>?_) λκ17 h=>?_
 ·obtain⟨j18,j19⟩:=q20
  refine S4 4 J<|b7 ?_
  cases h
  exact f2
 ·refine S4 1 J ?_
  refine g8<|lq h (λq=>St.of [(0,.L j4.Pv q.1),(1,.L iF a1),(6,.sl 910006),(7,.I q.2.1)] [(910006,⟨List.map iF q.2.2,(List.map iF q.2.2).length,true,1,true⟩)]) (Wk.trans (F2 (t:=6) (l:=920006) (z:=1) J J) (WP (λl=>if l=910006 then 920006 else l))) λq26 x25 h hx14=>?_
  obtain⟨s22,s23,s24⟩:=q26
  refine c7<|S3 2 J<|nL J Ty.A5<|S2 1 J ?_
  refine cN h (λhc h=>?_) λhc h=>?_
  ·refine c4 ?_
   refine jq h (λq=>St.of [(0,.L j4.Pv q.1),(1,.L iF a1),(6,.sl 34),(7,.I s23)] [(34,⟨List.map iF q.2,(List.map iF q.2).length,true,1,true⟩)]) (λq33 h=>?_) λκ30 h=>?_
   ·obtain⟨j31,j32⟩:=q33
    refine S6 3 J ?_
    exact eL h (Wk.trans (n0 _ [34]) (WP (λl=>if l=910006 then 34 else l)))
   ·refine g8 ?_
    refine S3 3 J<|iL h J J Ty.A5 Ty.s3 λv34 _ h=>S1 1 J<|cF h b1a J J λv35 _ h=>S2 7 J<|S4 2 J ?_
    refine cN h (λhc h=>?_) λhc h=>?_
    ·refine S4 2 J ?_
     refine S5 2 J<|y0 J (M2 (f:=iF) (l:=[v35.2.1]) J Ty.A5 Ty.s3 Ty.z3 J J nl J J)<|r8 h λv36 hv21 h=>L0 J (H5 (f:=iF) hv21 J J J J J J (.inl ⟨_,J,J⟩) Ty.A5 Ty.s3 Ty.b3 Ty.z3 J (λ_=>J)) J J J<|S2 1 J ?_
     exact eJ h (Wk.trans (n0 _ [34]) W)
    ·refine c4 ?_
     exact eJ h (Wk.trans (n0 _ [910006]) (WP (λl=>if l=34 then 910006 else l)))
  ·refine n7 ?_
   refine c8<|c8<|j5 ?_
   have h:=xL hx14 h
   exact eJ h (Wk.trans (n0 _ [910006]) W)

theorem b6X{a0 a1}:PO Tryz.prog 321 [s6.Pv a0,.I a1] (b2Z a0 a1) λr=>.tup [s6.Pv r.1,.I r.2]:=by
 refine pO Tryz.func321 λr h _ _=>?_
 refine S4 3 J<|S3 2 J<|cA h b2W J J λv1 _ h=>S2 5 J<|c7<|S4 2 J ?_
 refine cN h (λhc h=>?_) λhc h=>?_
 ·refine S4 4 J ?_
  refine b7 ?_
  cases h
  exact⟨J,[_,_],⟨oL J J J Ty.b2a Ty.a9M nl J,⟨J,tr⟩⟩,J,io⟩
 ·refine c4 ?_
  refine S3 2 J<|cA h W0 J J λv2 _ h=>S2 5 J<|dr [] Ty.U9 (by kernel_rfl) (by kernel_rfl)<|S7 5 J<|r8 h λv3 hv3 h=>d0 J (y5 (f:=r7.Pv) (cs:=r7.Pc v3) hv3 J J Ty.a43 Ty.a6U J J) J<|S7 5 J<|d0 J (y5 (f:=r7.Pv) (cs:=r7.Pc v3) hv3 J J Ty.a43 Ty.a6U J J) J<|S7 2 J<|d7 J (λ_ hN=>m9 (cs:=[.I 2,.I v3.Gen,.I v3.Val]) J Ty.c2F Ty.b6d J J J) J<|r8 h λv4 hv4 h=>d2f J (y4 J a3Q J hv4) J<|G9 (x':=s6.Pv v4) (cl':=true) J J (.inr J) Ty.a9M<|S8 1 J<|b7 ?_
  cases h
  exact⟨J,[_,_],⟨oL J J J Ty.b2a Ty.a9M nl J,⟨J,tr⟩⟩,J,io⟩

theorem b60{a0 a1}:PO Tryz.prog 284 [k9.Pv a0,.I a1] (a9r a0 a1) λr=>k9.Pv r:=by
 refine pO Tryz.func284 λr h _ _=>?_
 refine S4 2 J<|S3 1 J<|cF h M7 J J λv1 _ h=>S1 1 J<|cF h b6X J J λv2 _ h=>S2 6 J<|S3 2 J<|cF h a38 J J λv3 _ h=>S2 1 J<|b7 ?_
 cases h
 exact⟨J,[_],⟨oL J J J Ty.a44 Ty.s44 nl J,tr⟩,J,io⟩

theorem b7e{a0 a1}:PO Tryz.prog 214 [g5.Pv a0,.I a1] (a4H a0 a1) λr=>g5.Pv r:=by
 refine pO Tryz.func214 λr h _ _=>?_
 refine S4 2 J<|S3 3 J<|cF h H8 J J λv1 _ h=>S2 6 J<|S3 1 J<|a3Y (x':=.agg [.I v1.1.Serial,.I v1.1.Strong,.I v1.1.Weak,.I v1.1.Prog,.bool v1.1.Started,.nl]) (cl':=true) J J (.inl J) Ty.s27<|yN<|S3 1 J<|a3Y (x':=.agg [.I v1.1.Serial,.I 0,.I v1.1.Weak,.I v1.1.Prog,.bool v1.1.Started,.nl]) (cl':=true) J J (.inl J) Ty.s3<|yN<|S3 4 J<|cF h a1x J J λv2 _ h=>S2 5 J<|S3 3 J<|cF h b60 J J λv3 _ h=>S2 2 J<|c7<|S4 3 J ?_
 refine cN h (λhc h=>?_) λhc h=>?_
 ·refine S5 3 J ?_
  refine cF h b09 J J λv4 _ h=>S2 2 J<|S4 2 J<|b7 ?_
  cases h
  exact⟨J,[_],⟨oL J J J Ty.a51 Ty.Z6 nl J,tr⟩,J,io⟩
 ·refine c4 ?_
  refine S4 2 J<|b7 ?_
  cases h
  exact⟨J,[_],⟨oL J J J Ty.a51 Ty.Z6 nl J,tr⟩,J,io⟩

theorem b7b{a0 a1}:PO Tryz.prog 119 [g5.Pv a0,.L iF a1] (a6I a0 a1) λr=>g5.Pv r:=by
 refine pO Tryz.func119 λr h _ _=>?_
 refine S4 2 J<|S3 2 J<|cF h b7d J J λv1 _ h=>S2 1 J<|S3 3 J<|cF h b5u J J λv2 _ h=>S2 5 J<|S4 3 J ?_
 refine jq h (λj12=>St.of [(2,.ptr 2 0 0),(4,.ptr 4 0 0),(5,.L iF v1)] [(4,vR (.agg [.nl,.I 0,.I 0,.nl,.nl,.nl,.nl,.I 0]) 8),(2,vR (.agg [.L l6.Pv a0.S.a7,.I a0.S.Last,.I a0.S.Serial,.L iF a0.Roots,.L k8.Pv v2.1,.L j4.Pv a0.T,.L p6.Pv j12.L,.I j12.Cap]) 8)]) (λj12 h=>?_) λκ11 h=>?_
 ·refine sR ?_
  refine y0 J (B3 J Ty.A5 Ty.s3)<|S2 1 J ?_
  refine jq h (λj23=>St.of [(2,.ptr 2 0 0),(4,.ptr 4 0 0),(5,.L iF v1),(9,.sl 910009)] [(910009,⟨List.map iF j23,(List.map iF j23).length,true,1,true⟩),(4,vR (.agg [.nl,.I 0,.I 0,.nl,.nl,.nl,.nl,.I 0]) 8),(2,vR (.agg [.L l6.Pv a0.S.a7,.I a0.S.Last,.I a0.S.Serial,.L iF a0.Roots,.L k8.Pv v2.1,.L j4.Pv a0.T,.L p6.Pv j12.L,.I j12.Cap]) 8)]) (λj23 h=>?_) λκ22 h=>?_
  ·refine S3 3 J ?_
   refine cF h b23 J J λv24 _ h=>S2 5 J<|S4 3 J<|S3 2 J<|r8 h λv25 hv19 h=>L0 J (H5 (f:=iF) hv19 J J J J J J (.inl ⟨_,J,J⟩) Ty.A5 Ty.s3 Ty.b3 Ty.z3 J (λ_=>J)) J J J<|S2 1 J ?_
   refine jq h (λj34=>St.of [(2,.ptr 2 0 0),(4,.ptr 4 0 0),(9,.sl 88)] [(88,⟨List.map iF v25,j23.length,true,1,true⟩),(4,vR (.agg [.nl,.I 0,.I 0,.nl,.nl,.nl,.nl,.I 0]) 8),(2,vR (g5.Pv j34) 8)]) (λj34 h=>?_) λκ33 h=>?_
   ·refine jq h (λj43=>St.of [(2,.ptr 2 0 0),(4,.ptr 4 0 0)] [(4,vR (.agg [.nl,.I 0,.I 0,.nl,.nl,.nl,.nl,.I 0]) 8),(2,vR (g5.Pv j43) 8)]) (λj43 h=>?_) λκ42 h=>?_
    ·refine S4 2 J ?_
     refine b7 ?_
     cases h
     exact⟨J,[_],⟨oL J J J Ty.a51 Ty.Z6 nl J,tr⟩,J,io⟩
    ·refine S4 1 J ?_
     refine g8<|lq h (λq=>St.of [(2,.ptr 2 0 0),(4,.ptr 4 0 0),(9,.sl 88),(16,.I q.1)] [(88,⟨List.map iF v25,j23.length,true,1,true⟩),(4,vR (.agg [.nl,.I 0,.I 0,.nl,.nl,.nl,.nl,.I 0]) 8),(2,vR (g5.Pv q.2) 8)]) W λq48 x47 h hx34=>?_
     obtain⟨s45,s46⟩:=q48
     refine c7<|S3 2 J<|y0 J (b6S (f:=iF) J J J Ty.A5)<|S2 1 J ?_
     refine cN h (λhc h=>?_) λhc h=>?_
     ·refine c4 ?_
      refine c7<|g8<|a2m [] Ty.U9 (by kernel_rfl) (by kernel_rfl)<|S7 3 J<|r8 h λv49 hv35 h=>d0 J (Z0 (f:=iF) hv35 J J J J Ty.A5 Ty.s3 J) J<|d0 J (b2J (f:=iF) hv35 J J J Ty.a3 J) J<|r8 h λv50 hv36 h=>d2f J (y4 J a05 J hv36) J<|G9 (x':=g5.Pv v50) (cl':=true) J J (.inr J) Ty.Z6<|N6<|S6 3 J ?_
      exact eL h W
     ·refine n7 ?_
      refine c8<|c8<|j5 ?_
      have h:=xL hx34 h
      exact eJ h W
   ·refine S4 1 J ?_
    refine g8<|lq h (λq=>St.of [(2,.ptr 2 0 0),(4,.ptr 4 0 0),(5,.L iF v1),(9,.sl 88),(15,.I q.1)] [(88,⟨List.map iF v25,j23.length,true,1,true⟩),(4,vR (.agg [.nl,.I 0,.I 0,.nl,.nl,.nl,.nl,.I 0]) 8),(2,vR (g5.Pv q.2) 8)]) W λq55 x54 h hx39=>?_
    obtain⟨s52,s53⟩:=q55
    refine c7<|S3 2 J<|nL J Ty.A5<|S2 1 J ?_
    refine cN h (λhc h=>?_) λhc h=>?_
    ·refine c4 ?_
     refine c7<|g8<|a2m [] Ty.U9 (by kernel_rfl) (by kernel_rfl)<|S7 3 J<|r8 h λv56 hv40 h=>d0 J (y5 (f:=iF) (cs:=[.I v56]) hv40 J J Ty.A5 Ty.s3 J J) J<|S7 1 J<|r8 h λv57 hv41 h=>d2f J (y4 J b7e J hv41) J<|G9 (x':=g5.Pv v57) (cl':=true) J J (.inr J) Ty.Z6<|N6<|S6 3 J ?_
     exact eL h W
    ·refine n7 ?_
     refine c8<|c8<|j5 ?_
     have h:=xL hx39 h
     exact eJ h W
  ·refine S4 1 J ?_
   refine g8<|lq h (λq=>St.of [(2,.ptr 2 0 0),(4,.ptr 4 0 0),(5,.L iF v1),(9,.sl 910009),(10,.I q.1)] [(4,vR (.agg [.nl,.I 0,.I 0,.nl,.nl,.nl,.nl,.I 0]) 8),(2,vR (.agg [.L l6.Pv a0.S.a7,.I a0.S.Last,.I a0.S.Serial,.L iF a0.Roots,.L k8.Pv v2.1,.L j4.Pv a0.T,.L p6.Pv j12.L,.I j12.Cap]) 8),(910009,⟨List.map iF q.2,(List.map iF q.2).length,true,1,true⟩)]) (Wk.trans (F2 (t:=9) (l:=920009) (z:=1) J J) (WP (λl=>if l=910009 then 920009 else l))) λq62 x61 h hx44=>?_
   obtain⟨s59,s60⟩:=q62
   refine c7<|S3 2 J<|nL J Ty.A5<|S2 1 J ?_
   refine cN h (λhc h=>?_) λhc h=>?_
   ·refine c4 ?_
    refine c7<|g8<|dr [] Ty.U9 (by kernel_rfl) (by kernel_rfl)<|S7 4 J<|r8 h λv63 hv45 h=>d0 J (y5 (f:=iF) (cs:=[.I v63]) hv45 J J Ty.A5 Ty.s3 J J) J<|S7 1 J<|r8 h λv64 hv46 h=>d2f J (y4 J H8 J hv46) J<|S7 4 J<|G9 (x':=A0.Pv v64.1) (cl':=true) J J (.inr J) Ty.s78<|S8 1 J<|S5 3 J<|cF h b5r J J λv65 _ h=>r8 h λv66 hv48 h=>L0 J (H5 (f:=iF) hv48 J J J J J J (.inl ⟨_,J,J⟩) Ty.A5 Ty.s3 Ty.b3 Ty.z3 J (λ_=>J)) J J J<|S2 1 J<|S6 3 J ?_
    exact eL h (Wk.trans (n0 _ [76]) (WP (λl=>if l=910009 then 76 else l)))
   ·refine n7 ?_
    refine c8<|c8<|j5 ?_
    have h:=xL hx44 h
    exact eJ h (Wk.trans (n0 _ [910009]) W)
 ·refine S4 1 J ?_
  refine g8<|lq h (λq=>St.of [(2,.ptr 2 0 0),(4,.ptr 4 0 0),(5,.L iF v1),(6,.L k8.Pv v2.1),(7,.L iF v2.2),(8,.I q.1)] [(4,vR (.agg [.nl,.I 0,.I 0,.nl,.nl,.nl,.nl,.I 0]) 8),(2,vR (.agg [.L l6.Pv a0.S.a7,.I a0.S.Last,.I a0.S.Serial,.L iF a0.Roots,.L k8.Pv v2.1,.L j4.Pv a0.T,.L p6.Pv q.2.L,.I q.2.Cap]) 8)]) W λq71 x70 h hx51=>?_
  obtain⟨s68,s69⟩:=q71
  refine c7<|S3 2 J<|nL J Ty.A5<|S2 1 J ?_
  refine cN h (λhc h=>?_) λhc h=>?_
  ·refine c4 ?_
   refine c7<|g8<|a2m [] Ty.U9 (by kernel_rfl) (by kernel_rfl)<|S7 4 J<|r8 h λv72 hv52 h=>d0 J (y5 (f:=iF) (cs:=[.I v72]) hv52 J J Ty.A5 Ty.s3 J J) J<|S7 4 J<|d0 J (y5 (f:=iF) (cs:=[.I v72]) hv52 J J Ty.A5 Ty.s3 J J) J<|S7 1 J<|r8 h λv73 hv53 h=>d0 J (y5 (f:=k8.Pv) (cs:=k8.Pc v73) hv53 J J Ty.e45 Ty.a4c J J) J<|S7 2 J<|d7 J (λ_ hN=>m9 (cs:=[.I 2,.I v72,.I v73.Call]) J Ty.c8B Ty.b89 J J J) J<|r8 h λv74 hv54 h=>d2f J (y4 J b26 J hv54) J<|S7 4 J<|G9 (x':=.agg [.L l6.Pv a0.S.a7,.I a0.S.Last,.I a0.S.Serial,.L iF a0.Roots,.L k8.Pv v2.1,.L j4.Pv a0.T,.L p6.Pv v74.1.L,.I v74.1.Cap]) (cl':=true) J J (.inr J) Ty.s49<|N6<|S6 3 J ?_
   exact eL h W
  ·refine n7 ?_
   refine c8<|c8<|j5 ?_
   have h:=xL hx51 h
   exact eJ h W

theorem a4a{a0}:PO Tryz.prog 46 [g5.Pv a0] (R1 a0) λr=>g5.Pv r:=by
 refine pO Tryz.func46 λr h _ _=>?_
 refine S4 2 J ?_
 refine jq h (λj21=>St.of [(1,.ptr 1 0 0),(2,.ptr 2 0 0)] [(2,vR (.agg [.nl,.I 0,.I 0,.nl,.nl,.nl,.nl,.I 0]) 8),(1,vR (g5.Pv j21) 8)]) (λj21 h=>?_) λκ20 h=>?_
 ·refine S4 2 J ?_
  refine b7 ?_
  cases h
  exact⟨J,[_],⟨oL J J J Ty.a51 Ty.Z6 nl J,tr⟩,J,io⟩
 ·refine S4 1 J ?_
  refine g8<|lq h (λq=>St.of [(1,.ptr 1 0 0),(2,.ptr 2 0 0),(3,.I q.1)] [(2,vR (.agg [.nl,.I 0,.I 0,.nl,.nl,.nl,.nl,.I 0]) 8),(1,vR (g5.Pv q.2) 8)]) W λq26 x25 h hx20=>?_
  obtain⟨s23,s24⟩:=q26
  refine c7<|S4 2 J ?_
  refine cN h (λhc h=>?_) λhc h=>?_
  ·refine c4 ?_
   refine jq h (λj34=>St.of [(1,.ptr 1 0 0),(2,.ptr 2 0 0),(3,.I s23)] [(2,vR (.agg [.nl,.I 0,.I 0,.nl,.nl,.nl,.nl,.I 0]) 8),(1,vR (g5.Pv j34) 8)]) (λj34 h=>?_) λκ33 h=>?_
   ·refine S6 3 J ?_
    exact eL h W
   ·refine g8 ?_
    refine S3 1 J<|cF h b7c J J λv35 _ h=>S2 1 J<|c7<|S3 1 J<|nL J Ty.A5<|S2 1 J ?_
    refine cN h (λhc h=>?_) λhc h=>?_
    ·refine S4 2 J ?_
     refine b7 ?_
     have h:=xL hx20 h
     cases h
     exact⟨J,[_],⟨oL J J J Ty.a51 Ty.Z6 nl J,tr⟩,J,io⟩
    ·refine c4 ?_
     refine dr [] Ty.U9 (by kernel_rfl) (by kernel_rfl)<|S7 2 J<|r8 h λv36 hv29 h=>d0 J (y5 (f:=iF) (cs:=[.I v36]) hv29 J J Ty.A5 Ty.s3 J J) J<|S7 1 J<|r8 h λv37 hv30 h=>d2 J (C6 J b27 J hv30) J<|N6 ?_
     refine cN h (λhc h=>?_) λhc h=>?_
     ·refine a2m [] Ty.U9 (by kernel_rfl) (by kernel_rfl) ?_
      refine S7 2 J<|d0 J (y5 (f:=iF) (cs:=[.I v36]) hv29 J J Ty.A5 Ty.s3 J J) J<|S7 1 J<|r8 h λv38 hv31 h=>d2f J (y4 J b3Y J hv31) J<|G9 (x':=g5.Pv v38) (cl':=true) J J (.inr J) Ty.Z6<|N6 ?_
      exact eJ h W
     ·refine a2m [] Ty.U9 (by kernel_rfl) (by kernel_rfl) ?_
      refine S7 2 J<|r8 h λv39 hv32 h=>d0 J (c2n (f:=iF) hv32 J J ⟨_,J⟩ Ty.A5 Ty.s3 (λ_=>J)) J<|r8 h λv40 hv33 h=>d2f J (y4 J b7b J hv33) J<|G9 (x':=g5.Pv v40) (cl':=true) J J (.inr J) Ty.Z6<|N6 ?_
      exact eJ h W
  ·refine n7 ?_
   refine c8<|c8<|j5 ?_
   have h:=xL hx20 h
   exact eJ h W

theorem a73{a0 a1}:PO Tryz.prog 19 [g5.Pv a0,.I a1] (a1z a0 a1) λr=>.I r:=by
 refine pO Tryz.func19 λr h _ _=>?_
 refine S4 2 J<|S3 3 J<|cF h H8 J J λv1 _ h=>S2 6 J<|S4 3 J<|b7 ?_
 cases h
 exact f1

theorem b8t{a0}:PO Tryz.prog 120 [.I a0] (a9p a0) λr=>.tup [.L iF r.1,.I r.2]:=by
 refine pO Tryz.func120 λr h _ _=>?_
 refine S4 2 J<|c7<|S3 3 J<|g7 J (λhg=>mI J)<|g7 J (λhg=>n9 (ct hg) J J)<|y0 J (u9 J J J (λq=>R8 q))<|yN ?_
 refine cN h (λhc h=>?_) λhc h=>?_
 ·refine S4 2 J ?_
  refine b7 ?_
  cases h
  exact f2
 ·refine c4 ?_
  refine S3 1 J<|r8 h λv1 hv1 h=>y1 J (b1x (f:=iF) hv1 J J J Ty.A5 Ty.s3 Ty.z3 Ty.b3 J J J) J<|S2 2 J<|b7 ?_
  cases h
  exact f2

theorem b6Y{a0 a1}:PO Tryz.prog 121 [s6.Pv a0,.I a1] (a4D a0 a1) λr=>.tup [s6.Pv r.1,.I r.2.1,.I r.2.2]:=by
 refine pO Tryz.func121 λr h _ _=>?_
 refine S4 4 J ?_
 refine jq h (λ_=>St.of [(2,.ptr 2 0 0),(4,.ptr 4 0 0)] [(4,vR (.agg [.nl,.I 0]) 2),(2,vR (s6.Pv a0) 2)]) (λq8 h=>?_) λκ7 h=>?_
 ·refine S4 4 J ?_
  refine b7 ?_
  cases h
  exact⟨J,[_,_,_],⟨oL J J J Ty.b2a Ty.a9M nl J,⟨J,⟨J,tr⟩⟩⟩,J,io⟩
 ·refine S4 1 J ?_
  refine g8<|lq h (λs10=>St.of [(1,.I a1),(2,.ptr 2 0 0),(4,.ptr 4 0 0),(7,.I s10)] [(4,vR (.agg [.nl,.I 0]) 2),(2,vR (s6.Pv a0) 2)]) W λs10 x11 h hx10=>c7<|S3 3 J<|nL J Ty.a43<|S2 1 J ?_
  refine cN h (λhc h=>?_) λhc h=>?_
  ·refine c4 ?_
   refine c7<|g8<|S3 3 J<|iL h J J Ty.a43 Ty.a6U λv12 hv11 h=>S2 3 J ?_
   refine cN h (λhc h=>?_) λhc h=>?_
   ·refine S3 3 J ?_
    refine y0 J (y5 (f:=r7.Pv) (cs:=r7.Pc v12) hv11 J J Ty.a43 Ty.a6U J J)<|S2 3 J<|S3 4 J<|y0 J (m9 (cs:=[.I 1,.I v12.Gen,.I a1]) J Ty.c2F Ty.b6d J J J)<|cF h a3Q J J λv13 _ h=>S1 2 J<|cA h a6y J J λv14 _ h=>S2 3 J<|b7 ?_
    have h:=xL hx10 h
    cases h
    exact⟨J,[_,_,_],⟨oL J J J Ty.b2a Ty.a9M nl J,⟨J,⟨J,tr⟩⟩⟩,J,io⟩
   ·refine c4 ?_
    refine S6 3 J ?_
    exact eL h W
  ·refine n7 ?_
   refine c8<|c8<|j5 ?_
   have h:=xL hx10 h
   exact eJ h W

theorem b62{a0 a1 a2}:PO Tryz.prog 47 [k9.Pv a0,.I a1,.I a2] (a04 a0 a1 a2) λr=>.tup [k9.Pv r.1,.I r.2.1,.I r.2.2]:=by
 refine pO Tryz.func47 λr h _ _=>?_
 refine S4 4 J<|S3 1 J<|cF h b8t J J λv1 _ h=>S2 5 J<|c7<|S4 2 J ?_
 refine cN h (λhc h=>?_) λhc h=>?_
 ·refine S4 5 J ?_
  refine b7 ?_
  cases h
  exact⟨J,[_,_,_],⟨oL J J J Ty.a44 Ty.s44 nl J,⟨J,⟨J,tr⟩⟩⟩,J,io⟩
 ·refine c4 ?_
  refine c7<|S3 3 J<|g7 J (λhg=>mI J)<|g7 J (λhg=>n9 (ct hg) J J)<|y0 J (u9 J J J (λq=>R8 q))<|yN ?_
  refine cN h (λhc h=>?_) λhc h=>?_
  ·refine S4 4 J ?_
   refine b7 ?_
   cases h
   exact⟨J,[_,_,_],⟨oL J J J Ty.a44 Ty.s44 nl J,⟨J,⟨J,tr⟩⟩⟩,J,io⟩
  ·refine c4 ?_
   refine S3 1 J<|cF h M7 J J λv2 _ h=>cF h b6Y J J λv3 _ h=>S2 8 J<|c7<|S4 2 J ?_
   refine cN h (λhc h=>?_) λhc h=>?_
   ·refine S4 5 J ?_
    refine b7 ?_
    cases h
    exact⟨J,[_,_,_],⟨oL J J J Ty.a44 Ty.s44 nl J,⟨J,⟨J,tr⟩⟩⟩,J,io⟩
   ·refine c4 ?_
    refine dr [] Ty.U9 (by kernel_rfl) (by kernel_rfl)<|S7 2 J<|r8 h λv4 hv4 h=>d2f J (y4 J a38 J hv4) J<|S7 1 J<|r8 h λv5 hv5 h=>d2 J (C6 J a6A J hv5) J<|S7 5 J<|d7 J (λ_ hN=>m9 (cs:=[.I (w7 (a0.Serial+1)),.I 0,.I 0,.I a2,.bool false,.L iF v1.1]) J Ty.p78 Ty.z78 J J J) J<|r8 h λv6 hv6 h=>d2f J (y4 J a6D J hv6) J<|S7 1 J<|G9 (x':=k9.Pv v6) (cl':=true) J J (.inr J) Ty.s44<|N6<|S4 5 J<|S4 5 J<|b7 ?_
    cases h
    exact⟨J,[_,_,_],⟨oL J J J Ty.a44 Ty.s44 nl J,⟨J,⟨J,tr⟩⟩⟩,J,io⟩

theorem b1b{a0 a1 a2}:PO Tryz.prog 48 [g5.Pv a0,.I a1,.I a2] (a17 a0 a1 a2) λr=>.tup [g5.Pv r.1,.I r.2]:=by
 refine pO Tryz.func48 λr h _ _=>?_
 refine S4 3 J<|c7<|S3 3 J<|g7 J (λhg=>mI J)<|g7 J (λhg=>n9 (ct hg) J J)<|y0 J (u9 J J J (λq=>R8 q))<|yN ?_
 refine cN h (λhc h=>?_) λhc h=>?_
 ·refine S4 3 J ?_
  refine b7 ?_
  cases h
  exact⟨J,[_,_],⟨oL J J J Ty.a51 Ty.Z6 nl J,⟨J,tr⟩⟩,J,io⟩
 ·refine c4 ?_
  refine c7<|S3 2 J<|cA h a2D J J λv1 _ h=>S2 1 J ?_
  refine cN h (λhc h=>?_) λhc h=>?_
  ·refine S4 3 J ?_
   refine b7 ?_
   cases h
   exact⟨J,[_,_],⟨oL J J J Ty.a51 Ty.Z6 nl J,⟨J,tr⟩⟩,J,io⟩
  ·refine c4 ?_
   refine S3 3 J<|iL h J J Ty.A5 Ty.s3 λv2 _ h=>S2 2 J<|S3 2 J<|cF h a1T J J λv3 _ h=>S2 2 J<|sR<|y0 J (B3 J Ty.A5 Ty.s3)<|S1 2 J<|r8 h λv4 hv4 h=>y1 J (a5T (f:=iF) hv4 J J (.inl ⟨_,J,J⟩) Ty.A5 Ty.s3 Ty.b3 Ty.z3 J (λ_=>J)) J<|S2 2 J<|S3 4 J<|r8 h λv5 hv5 h=>y0 J (Z0 (f:=iF) hv5 J J J J Ty.A5 Ty.s3 J)<|a3s (f:=iF) (v:=a2) hv5 J J (.inl J) Ty.s3<|yN<|S3 2 J<|r8 h λv6 hv6 h=>ycL J (y4 J a05 J hv6) J<|S2 2 J<|b7 ?_
   cases h
   exact⟨J,[_,_],⟨oL J J J Ty.a51 Ty.Z6 nl J,⟨J,tr⟩⟩,J,io⟩

theorem b4A{a0 a1}:PO Tryz.prog 21 [g5.Pv a0,.I a1] (a8r a0 a1) λr=>.I r:=by
 refine pO Tryz.func21 λr h _ _=>?_
 refine S4 2 J<|c7<|S3 3 J<|g7 J (λhg=>mI J)<|g7 J (λhg=>n9 (ct hg) J J)<|y0 J (u9 J J J (λq=>R8 q))<|yN ?_
 refine cN h (λhc h=>?_) λhc h=>?_
 ·refine S4 1 J ?_
  refine b7 ?_
  cases h
  exact f1
 ·refine c4 ?_
  refine dr [] Ty.U9 (by kernel_rfl) (by kernel_rfl)<|S7 4 J<|r8 h λv1 hv1 h=>d0 J (y5 (f:=iF) (cs:=[.I v1]) hv1 J J Ty.A5 Ty.s3 J J) J<|S7 1 J<|r8 h λv2 hv2 h=>d2 J (C6 J a73 J hv2) J<|S8 1 J<|b7 ?_
  cases h
  exact f1

theorem b64{a0 a1}:PO Tryz.prog 129 [.L k8.Pv a0,.I a1] (a6E a0 a1) λr=>.tup [.I r.1,.I r.2]:=by
 refine pO Tryz.func129 λr h _ _=>?_
 refine S4 2 J<|c7<|S3 3 J<|g7 J (λhg=>mI J)<|g7 J (λhg=>om (d:=.L k8.Pv a0) J)<|g7 J (λhg=>L5 (f:=k8.Pv) (ct hg) Ty.e45)<|g7 J (λhg=>n9 (ct hg) (ct hg) J)<|y0 J (u9 J J J (λq=>R8 q))<|yN ?_
 refine cN h (λhc h=>?_) λhc h=>?_
 ·refine S4 2 J ?_
  refine b7 ?_
  cases h
  exact f2
 ·refine c4 ?_
  refine c7<|S3 2 J<|iL h J J Ty.e45 Ty.a4c λv1 hv1 h=>S1 4 J<|g7 J (λhg=>om (d:=.L k8.Pv a0) J)<|g7 J (λhg=>mI J)<|g7 J (λhg=>y5 (f:=k8.Pv) (cs:=k8.Pc v1) hv1 (ct hg) (ct hg) Ty.e45 Ty.a4c J J)<|g7 J (λhg=>D2 (ct hg) Ty.c6i J)<|g7 J (λhg=>D4 (ct hg) Ty.a4 J)<|g7 J (λhg=>a01 (ct hg) J)<|y0 J (u9 J J J (λq=>R8 q))<|yN ?_
  refine cN h (λhc h=>?_) λhc h=>?_
  ·refine S4 2 J ?_
   refine b7 ?_
   cases h
   exact f2
  ·refine c4 ?_
   refine S3 2 J<|y0 J (y5 (f:=k8.Pv) (cs:=k8.Pc v1) hv1 J J Ty.e45 Ty.a4c J J)<|S2 4 J<|b7 ?_
   cases h
   exact f2

theorem b8C{a0 a1}:PO Tryz.prog 130 [.L j4.Pv a0,.I a1] (a9x a0 a1) λr=>.tup [.I r.1,.I r.2]:=by
 refine pO Tryz.func130 λr h _ _=>?_
 refine S4 2 J<|S3 2 J<|cA h b21 J J λv1 _ h=>S2 4 J<|b7 ?_
 cases h
 exact f2

theorem b5B{a0 a1}:PO Tryz.prog 49 [g5.Pv a0,C0.Pv a1] (a0D a0 a1) λr=>.tup [.I r.1,.I r.2]:=by
 refine pO Tryz.func49 λr h _ _=>?_
 refine S4 4 J<|c7<|S4 2 J<|g8<|S4 2 J ?_
 refine cN h (λhc h=>?_) λhc h=>?_
 ·refine S3 4 J ?_
  refine iL h J J Ty.A5 Ty.s3 λv1 _ h=>S2 3 J<|b7 ?_
  cases h
  exact f2
 ·refine S4 2 J ?_
  refine cN h (λhc h=>?_) λhc h=>?_
  ·refine S3 3 J ?_
   refine cA h a5s J J λv2 _ h=>S2 5 J<|c7<|S4 2 J ?_
   refine cN h (λhc h=>?_) λhc h=>?_
   ·refine S4 3 J ?_
    refine b7 ?_
    cases h
    exact f2
   ·refine c4 ?_
    refine S3 5 J<|cA h a9q J J λv3 _ h=>S2 4 J<|b7 ?_
    cases h
    exact f2
  ·refine S4 2 J ?_
   refine cN h (λhc h=>?_) λhc h=>?_
   ·refine S3 4 J ?_
    refine cA h b64 J J λv4 _ h=>S2 4 J<|b7 ?_
    cases h
    exact f2
   ·refine S4 2 J ?_
    refine cN h (λhc h=>?_) λhc h=>?_
    ·refine S3 3 J ?_
     refine cA h a5s J J λv5 _ h=>S2 5 J<|c7<|S4 2 J ?_
     refine cN h (λhc h=>?_) λhc h=>?_
     ·refine S4 3 J ?_
      refine b7 ?_
      cases h
      exact f2
     ·refine c4 ?_
      refine S3 3 J<|cA h b8C J J λv6 _ h=>S2 4 J<|b7 ?_
      cases h
      exact f2
    ·refine c4 ?_
     refine S4 2 J<|b7 ?_
     cases h
     exact f2

theorem c0B{a0 a1}:PO Tryz.prog 13 [g5.Pv a0,C0.Pv a1] (A6 a0 a1) λr=>.tup [g5.Pv r.1,.I r.2.1,.I r.2.2]:=by
 refine pO Tryz.func13 λr h _ _=>?_
 refine S4 5 J<|S3 1 J<|cA h b5z J J λv1 _ h=>S2 1 J<|c7<|S4 2 J ?_
 refine cN h (λhc h=>?_) λhc h=>?_
 ·refine S4 5 J ?_
  refine b7 ?_
  cases h
  exact⟨J,[_,_,_],⟨oL J J J Ty.a51 Ty.Z6 nl J,⟨J,⟨J,tr⟩⟩⟩,J,io⟩
 ·refine c4 ?_
  refine c7<|S3 1 J<|cA h b5A J J λv2 _ h=>S2 1 J ?_
  refine cN h (λhc h=>?_) λhc h=>?_
  ·refine S4 4 J ?_
   refine b7 ?_
   cases h
   exact⟨J,[_,_,_],⟨oL J J J Ty.a51 Ty.Z6 nl J,⟨J,⟨J,tr⟩⟩⟩,J,io⟩
  ·refine c4 ?_
   refine c7<|S4 2 J<|g8<|S4 2 J ?_
   refine cN h (λhc h=>?_) λhc h=>?_
   ·refine c7 ?_
    refine dr [] Ty.U9 (by kernel_rfl) (by kernel_rfl)<|S7 4 J<|r8 h λv3 hv3 h=>d0 J (y5 (f:=iF) (cs:=[.I v3]) hv3 J J Ty.A5 Ty.s3 J J) J<|S7 5 J<|r8 h λv4 hv4 h=>d0 J (y5 (f:=iF) (cs:=[.I v4]) hv4 J J Ty.A5 Ty.s3 J J) J<|S8 2 J ?_
    refine cN h (λhc h=>?_) λhc h=>?_
    ·refine S4 4 J ?_
     refine b7 ?_
     cases h
     exact⟨J,[_,_,_],⟨oL J J J Ty.a51 Ty.Z6 nl J,⟨J,⟨J,tr⟩⟩⟩,J,io⟩
    ·refine c4 ?_
     refine S4 4 J<|b7 ?_
     cases h
     exact⟨J,[_,_,_],⟨oL J J J Ty.a51 Ty.Z6 nl J,⟨J,⟨J,tr⟩⟩⟩,J,io⟩
   ·refine jq h (λj6=>St.of [(2,.ptr 2 0 0),(3,.ptr 3 0 0),(4,.ptr 4 0 0),(30,.I a1.Kind),(48,.bool j6)] [(4,vR (.agg [.nl,.I 0,.I 0,.nl,.nl,.nl,.nl,.I 0]) 8),(3,vR (C0.Pv a1) 4),(2,vR (g5.Pv a0) 8)]) (λj6 h=>?_) λκ5 h=>?_
    ·refine cN h (λhc h=>?_) λhc h=>?_
     ·refine S3 2 J ?_
      refine cF h b5C J J λv7 _ h=>S2 8 J<|c7<|S4 2 J ?_
      refine cN h (λhc h=>?_) λhc h=>?_
      ·refine S4 5 J ?_
       refine b7 ?_
       cases h
       exact⟨J,[_,_,_],⟨oL J J J Ty.a51 Ty.Z6 nl J,⟨J,⟨J,tr⟩⟩⟩,J,io⟩
      ·refine c4 ?_
       refine dr [] Ty.U9 (by kernel_rfl) (by kernel_rfl)<|S7 1 J<|r8 h λv8 hv7 h=>d2f J (y4 J a4a J hv7) J<|S7 2 J<|r8 h λv9 hv8 h=>d2 J (C6 J a73 J hv8) J<|G9 (x':=g5.Pv v8) (cl':=true) J J (.inr J) Ty.Z6<|S8 2 J<|b7 ?_
       cases h
       exact⟨J,[_,_,_],⟨oL J J J Ty.a51 Ty.Z6 nl J,⟨J,⟨J,tr⟩⟩⟩,J,io⟩
     ·refine S4 2 J ?_
      refine cN h (λhc h=>?_) λhc h=>?_
      ·refine S3 6 J ?_
       refine cF h b62 J J λv10 _ h=>S2 8 J<|c7<|S4 2 J ?_
       refine cN h (λhc h=>?_) λhc h=>?_
       ·refine S4 5 J ?_
        refine b7 ?_
        cases h
        exact⟨J,[_,_,_],⟨oL J J J Ty.a51 Ty.Z6 nl J,⟨J,⟨J,tr⟩⟩⟩,J,io⟩
       ·refine c4 ?_
        refine S4 3 J<|S4 3 J<|S3 4 J<|cF h b1b J J λv11 _ h=>S2 4 J<|S3 1 J<|cF h a4a J J λv12 _ h=>S2 1 J<|dr [] Ty.U9 (by kernel_rfl) (by kernel_rfl)<|S7 4 J<|r8 h λv13 hv12 h=>d2 J (C6 J b4A J hv12) J<|G9 (x':=g5.Pv v12) (cl':=true) J J (.inr J) Ty.Z6<|S8 2 J<|b7 ?_
        cases h
        exact⟨J,[_,_,_],⟨oL J J J Ty.a51 Ty.Z6 nl J,⟨J,⟨J,tr⟩⟩⟩,J,io⟩
      ·refine c4 ?_
       refine S3 2 J<|cA h b5B J J λv14 _ h=>S2 5 J<|c7<|S4 2 J ?_
       refine cN h (λhc h=>?_) λhc h=>?_
       ·refine S4 5 J ?_
        refine b7 ?_
        cases h
        exact⟨J,[_,_,_],⟨oL J J J Ty.a51 Ty.Z6 nl J,⟨J,⟨J,tr⟩⟩⟩,J,io⟩
       ·refine c4 ?_
        refine S3 4 J<|cF h b1b J J λv15 _ h=>S2 6 J<|S3 1 J<|cF h a4a J J λv16 _ h=>S2 1 J<|dr [] Ty.U9 (by kernel_rfl) (by kernel_rfl)<|S7 4 J<|r8 h λv17 hv16 h=>d2 J (C6 J b4A J hv16) J<|G9 (x':=g5.Pv v16) (cl':=true) J J (.inr J) Ty.Z6<|S8 2 J<|b7 ?_
        cases h
        exact⟨J,[_,_,_],⟨oL J J J Ty.a51 Ty.Z6 nl J,⟨J,⟨J,tr⟩⟩⟩,J,io⟩
    ·refine S4 2 J ?_
     refine cN h (λhc h=>?_) λhc h=>?_
     ·refine c4 ?_
      exact eJ h W
     ·refine S4 2 J ?_
      refine cN h (λhc h=>?_) λhc h=>?_
      ·refine c4 ?_
       exact eJ h W
      ·refine S6 2 J ?_
       exact eJ h W

theorem b8G{a0 a1}:PO Tryz.prog 24 [g5.Pv a0,.L C0.Pv a1] (a9B a0 a1) λr=>.tup [g5.Pv r.1,.L iF r.2]:=by
 refine pO Tryz.func24 λr h _ _=>?_
 refine S4 3 J<|sR<|y0 J (B3 J Ty.A5 Ty.s3)<|S2 1 J ?_
 refine jq h (λq=>St.of [(2,.ptr 2 0 0),(4,.ptr 4 0 0),(6,.sl 910006)] [(910006,⟨List.map iF q.2,(List.map iF q.2).length,true,1,true⟩),(4,vR (.agg [.nl,.I 0,.I 0,.nl,.nl,.nl,.nl,.I 0]) 8),(2,vR (g5.Pv q.1) 8)]) (λq13 h=>?_) λκ10 h=>?_
 ·obtain⟨j11,j12⟩:=q13
  refine S4 4 J<|b7 ?_
  cases h
  exact⟨J,[_,_],⟨oL J J J Ty.a51 Ty.Z6 nl J,⟨J,tr⟩⟩,J,io⟩
 ·refine S4 1 J ?_
  refine g8<|lq h (λq=>St.of [(1,.L C0.Pv a1),(2,.ptr 2 0 0),(4,.ptr 4 0 0),(6,.sl 910006),(7,.I q.1)] [(4,vR (.agg [.nl,.I 0,.I 0,.nl,.nl,.nl,.nl,.I 0]) 8),(2,vR (g5.Pv q.2.1) 8),(910006,⟨List.map iF q.2.2,(List.map iF q.2.2).length,true,1,true⟩)]) (Wk.trans (F2 (t:=6) (l:=920006) (z:=1) J J) (WP (λl=>if l=910006 then 920006 else l))) λq19 x18 h hx10=>?_
  obtain⟨s15,s16,s17⟩:=q19
  refine c7<|S3 2 J<|nL J Ty.e68<|S2 1 J ?_
  refine cN h (λhc h=>?_) λhc h=>?_
  ·refine c4 ?_
   refine c7<|g8<|dr [] Ty.U9 (by kernel_rfl) (by kernel_rfl)<|S7 3 J<|r8 h λv20 hv11 h=>d0 J (y5 (f:=C0.Pv) (cs:=C0.Pc v20) hv11 J J Ty.e68 Ty.s55 J J) J<|S7 1 J<|r8 h λv21 hv12 h=>d2f J (y4 J c0B J hv12) J<|S7 5 J<|G9 (x':=g5.Pv v21.1) (cl':=true) J J (.inr J) Ty.Z6<|S8 2 J<|S4 2 J<|S5 2 J<|y0 J (M2 (f:=iF) (l:=[v21.2.1]) J Ty.A5 Ty.s3 Ty.z3 J J nl J J)<|r8 h λv22 hv13 h=>L0 J (H5 (f:=iF) hv13 J J J J J J (.inl ⟨_,J,J⟩) Ty.A5 Ty.s3 Ty.b3 Ty.z3 J (λ_=>J)) J J J<|S2 1 J<|S6 3 J ?_
   exact eL h (Wk.trans (n0 _ [32]) (WP (λl=>if l=910006 then 32 else l)))
  ·refine n7 ?_
   refine c8<|c8<|j5 ?_
   have h:=xL hx10 h
   exact eJ h (Wk.trans (n0 _ [910006]) W)

theorem b56{a0}:PO Tryz.prog 53 [a8.Pv a0] (a7z a0) λr=>.bool r:=by
 refine pO Tryz.func53 λr h _ _=>?_
 refine S4 2 J ?_
 refine jq h (λ_=>St.of [(1,.ptr 1 0 0)] [(1,vR (a8.Pv a0) 3)]) (λq6 h=>?_) λκ5 h=>?_
 ·refine S3 3 J ?_
  refine nL J Ty.e22<|S2 2 J<|b7 ?_
  cases h
  exact f1
 ·refine S4 1 J ?_
  refine g8<|lq h (λs8=>St.of [(1,.ptr 1 0 0),(3,.I s8)] [(1,vR (a8.Pv a0) 3)]) W λs8 x9 h hx8=>c7<|S3 4 J<|nL J Ty.e22<|S1 2 J<|g7 J (λhg=>mI J)<|g7 J (λhg=>n9 (ct hg) J J)<|y0 J (p5 J J J (λq=>Q1 q))<|yN ?_
  refine cN h (λhc h=>?_) λhc h=>?_
  ·refine c4 ?_
   refine c7<|g8<|S3 4 J<|iL h J J Ty.e22 Ty.a4K λv10 _ h=>S1 3 J<|nL J Ty.A5<|S2 1 J ?_
   refine cN h (λhc h=>?_) λhc h=>?_
   ·refine S4 1 J ?_
    refine b7 ?_
    have h:=xL hx8 h
    cases h
    exact f1
   ·refine c4 ?_
    refine S6 3 J ?_
    exact eL h W
  ·refine n7 ?_
   refine c8<|c8<|j5 ?_
   have h:=xL hx8 h
   exact eJ h W

theorem b8Y{a0}:PO Tryz.prog 16 [b9.Pv a0] (a90 a0) λr=>.bool r:=by
 refine pO Tryz.func16 λr h _ _=>?_
 refine S4 2 J<|S3 2 J<|cA h b56 J J λv1 _ h=>S1 1 J<|g7 J (λhg=>oF J Ty.b6u J)<|g7 J (λhg=>oS (ct hg) J J Ty.a27 J)<|g7 J (λhg=>L5 (f:=iF) (ct hg) Ty.A5)<|g7 J (λhg=>n9 (ct hg) J J)<|y0 J (p5 J J J (λq=>Q1 q))<|S1 1 J<|g7 J (λhg=>oF J Ty.b6v J)<|g7 J (λhg=>oS (ct hg) J J Ty.a28 J)<|g7 J (λhg=>L5 (f:=c9.Pv) (ct hg) Ty.e28)<|g7 J (λhg=>n9 (ct hg) J J)<|y0 J (p5 J J J (λq=>Q1 q))<|S1 1 J<|g7 J (λhg=>oF J Ty.c5g J)<|g7 J (λhg=>oS (ct hg) J J Ty.a29 J)<|g7 J (λhg=>L5 (f:=c5.Pv) (ct hg) Ty.e29)<|g7 J (λhg=>n9 (ct hg) J J)<|y0 J (p5 J J J (λq=>Q1 q))<|S1 1 J<|g7 J (λhg=>oF J Ty.b6w J)<|g7 J (λhg=>oF (ct hg) Ty.c1C J)<|g7 J (λhg=>oS (ct hg) J J Ty.a30 J)<|g7 J (λhg=>L5 (f:=j2.Pv) (ct hg) Ty.e30)<|g7 J (λhg=>n9 (ct hg) J J)<|y0 J (p5 J J J (λq=>Q1 q))<|S2 1 J<|b7 ?_
 cases h
 exact f1

theorem b80{a0}:PO Tryz.prog 82 [l4.Pv a0] (b15 a0) λr=>A0.Pv r:=by
 refine pO Tryz.func82 λr h _ _=>?_
 unfold b15 at h
 refine S4 2 J<|S3 12 J<|y0 J (m9 (cs:=[.I a0.Serial,.I a0.Strong,.I a0.Weak,.I a0.Prog,.bool a0.Started,.L iF a0.Fields]) J Ty.p78 Ty.z78 J J J)<|S2 1 J<|b7 ?_
 cases h
 exact⟨J,[_],⟨oL J J J Ty.a78 Ty.s78 nl J,tr⟩,J,io⟩

theorem b8Z{a0}:PO Tryz.prog 34 [a8.Pv a0] (b14 a0) λr=>k9.Pv r:=by
 refine pO Tryz.func34 λr h _ _=>?_
 refine S4 2 J<|sR<|y0 J (B3 J Ty.e42 Ty.a19)<|S2 1 J ?_
 refine jq h (λj10=>St.of [(1,.ptr 1 0 0),(2,.ptr 2 0 0),(3,.sl 910003)] [(910003,⟨List.map l6.Pv j10,(List.map l6.Pv j10).length,true,8,true⟩),(2,vR (.agg [.nl,.I 0,.I 0]) 3),(1,vR (a8.Pv a0) 3)]) (λj10 h=>?_) λκ9 h=>?_
 ·refine S3 6 J ?_
  refine y0 J (m9 (cs:=[.sl 910003,.I a0.S.Last,.I a0.Serial]) J Ty.p44 Ty.z44 J J J)<|S2 1 J<|b7 ?_
  cases h
  exact⟨J,[_],⟨oL J J J Ty.a44 Ty.s44 nl J,tr⟩,J,io⟩
 ·refine S4 1 J ?_
  refine g8<|lq h (λq=>St.of [(1,.ptr 1 0 0),(2,.ptr 2 0 0),(3,.sl 910003),(4,.I q.1)] [(2,vR (.agg [.nl,.I 0,.I 0]) 3),(1,vR (a8.Pv a0) 3),(910003,⟨List.map l6.Pv q.2,(List.map l6.Pv q.2).length,true,8,true⟩)]) (Wk.trans (F2 (t:=3) (l:=920003) (z:=8) J J) (WP (λl=>if l=910003 then 920003 else l))) λq15 x14 h hx10=>?_
  obtain⟨s12,s13⟩:=q15
  refine c7<|S3 4 J<|nL J Ty.e22<|S2 1 J ?_
  refine cN h (λhc h=>?_) λhc h=>?_
  ·refine c4 ?_
   refine c7<|g8<|S3 4 J<|iL h J J Ty.e22 Ty.a4K λv16 _ h=>S2 3 J<|a2m [] Ty.U9 (by kernel_rfl) (by kernel_rfl)<|S7 7 J<|r8 h λv17 hv12 h=>d2f J (y4 J b80 J hv12) J<|d7 J (λ_ hN=>m9 (cs:=[.I v16.State,.I v16.Gen,.I v17.Serial,.I v17.Strong,.I v17.Weak,.I v17.Prog,.bool v17.Started,.L iF v17.Fields]) J Ty.c8z Ty.b7G J J J) J<|d1n J (M2 (f:=l6.Pv) (l:=[(⟨v16.State,v16.Gen,v17⟩:l6)]) J Ty.e42 Ty.a19 Ty.b7G J J nl J J) J<|r8 h λv18 hv13 h=>d3a J (H5 (f:=l6.Pv) hv13 J J J J J J (.inl ⟨_,J,J⟩) Ty.e42 Ty.a19 Ty.c3I Ty.b7G J (λ_=>J)) J J J J J<|S8 1 J<|S6 3 J ?_
   exact eL h (Wk.trans (n0 _ [31]) (WP (λl=>if l=910003 then 31 else l)))
  ·refine n7 ?_
   refine c8<|c8<|j5 ?_
   have h:=xL hx10 h
   exact eJ h (Wk.trans (n0 _ [910003]) W)

theorem b53{a0}:PO Tryz.prog 50 [.L c9.Pv a0] (a7y a0) λr=>.L k8.Pv r:=by
 refine pO Tryz.func50 λr h _ _=>?_
 refine S4 1 J<|sR<|y0 J (B3 J Ty.e45 Ty.a4c)<|S2 1 J ?_
 refine jq h (λj9=>St.of [(3,.sl 910003)] [(910003,⟨List.map k8.Pv j9,(List.map k8.Pv j9).length,true,3,true⟩)]) (λj9 h=>?_) λκ8 h=>?_
 ·refine S4 2 J ?_
  refine b7 ?_
  cases h
  exact f1
 ·refine S4 1 J ?_
  refine g8<|lq h (λq=>St.of [(0,.L c9.Pv a0),(3,.sl 910003),(4,.I q.1)] [(910003,⟨List.map k8.Pv q.2,(List.map k8.Pv q.2).length,true,3,true⟩)]) (Wk.trans (F2 (t:=3) (l:=920003) (z:=3) J J) (WP (λl=>if l=910003 then 920003 else l))) λq14 x13 h hx9=>?_
  obtain⟨s11,s12⟩:=q14
  refine c7<|S3 2 J<|nL J Ty.e28<|S2 1 J ?_
  refine cN h (λhc h=>?_) λhc h=>?_
  ·refine c4 ?_
   refine c7<|g8<|S5 3 J<|iL h J J Ty.e28 Ty.s84 λv15 _ h=>S1 1 J<|y0 J (M2 (f:=k8.Pv) (l:=[(⟨v15.Target,v15.Intact,v15.Call⟩:k8)]) J Ty.e45 Ty.a4c Ty.b6c J J nl J J)<|r8 h λv16 hv11 h=>L0 J (H5 (f:=k8.Pv) hv11 J J J J J J (.inl ⟨_,J,J⟩) Ty.e45 Ty.a4c Ty.c3J Ty.b6c J (λ_=>J)) J J J<|S2 1 J<|S6 3 J ?_
   exact eL h (Wk.trans (n0 _ [18]) (WP (λl=>if l=910003 then 18 else l)))
  ·refine n7 ?_
   refine c8<|c8<|j5 ?_
   have h:=xL hx9 h
   exact eJ h (Wk.trans (n0 _ [910003]) W)

theorem b82{a0}:PO Tryz.prog 51 [.L c5.Pv a0] (b17 a0) λr=>.L j4.Pv r:=by
 refine pO Tryz.func51 λr h _ _=>?_
 refine S4 1 J<|sR<|y0 J (B3 J Ty.e46 Ty.a8v)<|S2 1 J ?_
 refine jq h (λj9=>St.of [(3,.sl 910003)] [(910003,⟨List.map j4.Pv j9,(List.map j4.Pv j9).length,true,3,true⟩)]) (λj9 h=>?_) λκ8 h=>?_
 ·refine S4 2 J ?_
  refine b7 ?_
  cases h
  exact f1
 ·refine S4 1 J ?_
  refine g8<|lq h (λq=>St.of [(0,.L c5.Pv a0),(3,.sl 910003),(4,.I q.1)] [(910003,⟨List.map j4.Pv q.2,(List.map j4.Pv q.2).length,true,3,true⟩)]) (Wk.trans (F2 (t:=3) (l:=920003) (z:=3) J J) (WP (λl=>if l=910003 then 920003 else l))) λq14 x13 h hx9=>?_
  obtain⟨s11,s12⟩:=q14
  refine c7<|S3 2 J<|nL J Ty.e29<|S2 1 J ?_
  refine cN h (λhc h=>?_) λhc h=>?_
  ·refine c4 ?_
   refine c7<|g8<|S5 3 J<|iL h J J Ty.e29 Ty.a8w λv15 _ h=>S1 1 J<|y0 J (M2 (f:=j4.Pv) (l:=[(⟨v15.State,v15.Key,v15.Val⟩:j4)]) J Ty.e46 Ty.a8v Ty.b88 J J nl J J)<|r8 h λv16 hv11 h=>L0 J (H5 (f:=j4.Pv) hv11 J J J J J J (.inl ⟨_,J,J⟩) Ty.e46 Ty.a8v Ty.c5X Ty.b88 J (λ_=>J)) J J J<|S2 1 J<|S6 3 J ?_
   exact eL h (Wk.trans (n0 _ [18]) (WP (λl=>if l=910003 then 18 else l)))
  ·refine n7 ?_
   refine c8<|c8<|j5 ?_
   have h:=xL hx9 h
   exact eJ h (Wk.trans (n0 _ [910003]) W)

theorem b57{a0}:PO Tryz.prog 52 [g9.Pv a0] (a7A a0) λr=>r9.Pv r:=by
 refine pO Tryz.func52 λr h _ _=>?_
 refine S4 2 J<|sR<|y0 J (B3 J Ty.e47 Ty.b3k)<|S2 1 J ?_
 refine jq h (λj9=>St.of [(1,.ptr 1 0 0),(2,.ptr 2 0 0),(3,.sl 910003)] [(910003,⟨List.map p6.Pv j9,(List.map p6.Pv j9).length,true,3,true⟩),(2,vR (.agg [.nl,.I 0]) 2),(1,vR (g9.Pv a0) 2)]) (λj9 h=>?_) λκ8 h=>?_
 ·refine S3 3 J ?_
  refine y0 J (m9 (cs:=[.sl 910003,.I a0.Cap]) J Ty.p49 Ty.z49 J J J)<|S2 1 J<|b7 ?_
  cases h
  exact⟨J,[_],⟨oL J J J Ty.a49 Ty.s49 nl J,tr⟩,J,io⟩
 ·refine S4 1 J ?_
  refine g8<|lq h (λq=>St.of [(1,.ptr 1 0 0),(2,.ptr 2 0 0),(3,.sl 910003),(4,.I q.1)] [(2,vR (.agg [.nl,.I 0]) 2),(1,vR (g9.Pv a0) 2),(910003,⟨List.map p6.Pv q.2,(List.map p6.Pv q.2).length,true,3,true⟩)]) (Wk.trans (F2 (t:=3) (l:=920003) (z:=3) J J) (WP (λl=>if l=910003 then 920003 else l))) λq14 x13 h hx9=>?_
  obtain⟨s11,s12⟩:=q14
  refine c7<|S3 3 J<|nL J Ty.e30<|S2 1 J ?_
  refine cN h (λhc h=>?_) λhc h=>?_
  ·refine c4 ?_
   refine c7<|g8<|S5 4 J<|iL h J J Ty.e30 Ty.b32 λv15 _ h=>S1 1 J<|y0 J (M2 (f:=p6.Pv) (l:=[(⟨v15.Kind,v15.At,v15.Prog⟩:p6)]) J Ty.e47 Ty.b3k Ty.b89 J J nl J J)<|r8 h λv16 hv11 h=>L0 J (H5 (f:=p6.Pv) hv11 J J J J J J (.inl ⟨_,J,J⟩) Ty.e47 Ty.b3k Ty.c5Y Ty.b89 J (λ_=>J)) J J J<|S2 1 J<|S6 3 J ?_
   exact eL h (Wk.trans (n0 _ [20]) (WP (λl=>if l=910003 then 20 else l)))
  ·refine n7 ?_
   refine c8<|c8<|j5 ?_
   have h:=xL hx9 h
   exact eJ h (Wk.trans (n0 _ [910003]) W)

theorem b7y{a0}:PO Tryz.prog 14 [b9.Pv a0] (a4Q a0) λr=>g5.Pv r:=by
 refine pO Tryz.func14 λr h _ _=>?_
 unfold a4Q at h
 refine S4 2 J<|dr [] Ty.U9 (by kernel_rfl) (by kernel_rfl)<|S7 2 J<|r8 h λv1 hv1 h=>d2f J (y4 J b8Z J hv1) J<|S7 4 J<|r8 h λv2 hv2 h=>d2f J (y4 J b53 J hv2) J<|S7 2 J<|r8 h λv3 hv3 h=>d2f J (y4 J b82 J hv3) J<|S7 2 J<|r8 h λv4 hv4 h=>d2f J (y4 J b57 J hv4) J<|d7 J (λ_ hN=>m9 (cs:=[.L l6.Pv v1.a7,.I v1.Last,.I v1.Serial,.L iF a0.Roots,.L k8.Pv v2,.L j4.Pv v3,.L p6.Pv v4.L,.I v4.Cap]) J Ty.p51 Ty.z51 J J J) J<|G9 (x':=.agg [.L l6.Pv v1.a7,.I v1.Last,.I v1.Serial,.L iF a0.Roots,.L k8.Pv v2,.L j4.Pv v3,.L p6.Pv v4.L,.I v4.Cap]) (cl':=true) J J (.inr J) Ty.Z6<|N6<|b7 ?_
 cases h
 exact⟨J,[_],⟨oL J J J Ty.a51 Ty.Z6 nl J,tr⟩,J,io⟩

theorem a6B{a0 a1}:PO Tryz.prog 27 [.L iF a0,.L iF a1] (a14 a0 a1) λr=>.bool r:=by
 refine pO Tryz.func27 λr h _ _=>?_
 refine S4 1 J<|c7<|S3 1 J<|nL J Ty.A5<|S1 1 J<|nL J Ty.A5<|S2 1 J ?_
 refine cN h (λhc h=>?_) λhc h=>?_
 ·refine S4 1 J ?_
  refine b7 ?_
  cases h
  exact f1
 ·refine c4 ?_
  refine jq h (λ_=>St.of [] []) (λq7 h=>?_) λκ6 h=>?_
  ·refine S4 1 J ?_
   refine b7 ?_
   cases h
   exact f1
  ·refine S4 1 J ?_
   refine g8<|lq h (λs9=>St.of [(0,.L iF a0),(1,.L iF a1),(5,.I s9)] []) W λs9 x10 h hx9=>c7<|S3 2 J<|nL J Ty.A5<|S2 1 J ?_
   refine cN h (λhc h=>?_) λhc h=>?_
   ·refine c4 ?_
    refine c7<|g8<|dr [] Ty.U9 (by kernel_rfl) (by kernel_rfl)<|S7 2 J<|r8 h λv11 hv10 h=>d0 J (y5 (f:=iF) (cs:=[.I v11]) hv10 J J Ty.A5 Ty.s3 J J) J<|S7 3 J<|r8 h λv12 hv11 h=>d0 J (y5 (f:=iF) (cs:=[.I v12]) hv11 J J Ty.A5 Ty.s3 J J) J<|S8 2 J ?_
    refine cN h (λhc h=>?_) λhc h=>?_
    ·refine S4 1 J ?_
     refine b7 ?_
     have h:=xL hx9 h
     cases h
     exact f1
    ·refine c4 ?_
     refine S6 3 J ?_
     exact eL h W
   ·refine n7 ?_
    refine c8<|c8<|j5 ?_
    have h:=xL hx9 h
    exact eJ h W

theorem b5s{a0 a1}:PO Tryz.prog 131 [A0.Pv a0,A0.Pv a1] (a4E a0 a1) λr=>.bool r:=by
 refine pO Tryz.func131 λr h _ _=>?_
 unfold a4E at h
 refine S4 3 J<|S3 6 J<|g7 J (λhg=>oF J Ty.c5m J)<|g7 J (λhg=>oS (ct hg) J J Ty.a3 J)<|g7 J (λhg=>oF J Ty.c5m J)<|g7 J (λhg=>oS (ct hg) J J Ty.a3 J)<|g7 J (λhg=>n9 (ct hg) (ct hg) J)<|y0 J (p5 J J J (λq=>Q1 q))<|S1 1 J<|g7 J (λhg=>oF J Ty.c1F J)<|g7 J (λhg=>oS (ct hg) J J Ty.a3 J)<|g7 J (λhg=>oF J Ty.c1F J)<|g7 J (λhg=>oS (ct hg) J J Ty.a3 J)<|g7 J (λhg=>n9 (ct hg) (ct hg) J)<|y0 J (p5 J J J (λq=>Q1 q))<|S1 1 J<|g7 J (λhg=>oF J Ty.c1G J)<|g7 J (λhg=>oS (ct hg) J J Ty.a3 J)<|g7 J (λhg=>oF J Ty.c1G J)<|g7 J (λhg=>oS (ct hg) J J Ty.a3 J)<|g7 J (λhg=>n9 (ct hg) (ct hg) J)<|y0 J (p5 J J J (λq=>Q1 q))<|S1 1 J<|g7 J (λhg=>oF J Ty.c1H J)<|g7 J (λhg=>oS (ct hg) J J Ty.a4 J)<|g7 J (λhg=>oF J Ty.c1H J)<|g7 J (λhg=>oS (ct hg) J J Ty.a4 J)<|g7 J (λhg=>c8w (ct hg) (ct hg) Ty.u4 J)<|y0 J (p5 J J J (λq=>Q1 q))<|S1 1 J ?_
 refine g7 J (λhg=>oF J Ty.c5n J)<|g7 J (λhg=>oS (ct hg) J J Ty.a27 J)<|g7 J (λhg=>oF J Ty.c5n J)<|g7 J (λhg=>oS (ct hg) J J Ty.a27 J)<|r8 h λv1 hv1 h=>g7 J (λhg=>C6 J a6B (B8 (ct hg) (B8 (ct hg) J)) (F3 hv1 hg))<|y0 J (p5 J J J (λq=>Q1 q))<|S2 1 J<|b7 ?_
 cases h
 exact f1

theorem b63{a0 a1}:PO Tryz.prog 54 [k9.Pv a0,k9.Pv a1] (a9s a0 a1) λr=>.bool r:=by
 refine pO Tryz.func54 λr h _ _=>?_
 refine S4 3 J<|c7<|S3 6 J<|g7 J (λhg=>oF J Ty.c5h J)<|g7 J (λhg=>oS (ct hg) J J Ty.a3 J)<|g7 J (λhg=>oF J Ty.c5h J)<|g7 J (λhg=>oS (ct hg) J J Ty.a3 J)<|g7 J (λhg=>n9 (ct hg) (ct hg) J)<|y0 J (u9 J J J (λq=>R8 q))<|S1 1 J<|g7 J (λhg=>oF J Ty.b01 J)<|g7 J (λhg=>oS (ct hg) J J Ty.a42 J)<|g7 J (λhg=>L5 (f:=l6.Pv) (ct hg) Ty.e42)<|g7 J (λhg=>oF J Ty.b01 J)<|g7 J (λhg=>oS (ct hg) J J Ty.a42 J)<|g7 J (λhg=>L5 (f:=l6.Pv) (ct hg) Ty.e42)<|g7 J (λhg=>n9 (ct hg) (ct hg) J)<|y0 J (u9 J J J (λq=>R8 q))<|yN ?_
 refine cN h (λhc h=>?_) λhc h=>?_
 ·refine S4 1 J ?_
  refine b7 ?_
  cases h
  exact f1
 ·refine c4 ?_
  refine jq h (λ_=>St.of [] []) (λq8 h=>?_) λκ7 h=>?_
  ·refine S4 1 J ?_
   refine b7 ?_
   cases h
   exact f1
  ·refine S4 1 J ?_
   refine g8<|lq h (λs10=>St.of [(2,.ptr 2 0 0),(3,.ptr 3 0 0),(5,.I s10)] [(3,vR (k9.Pv a1) 3),(2,vR (k9.Pv a0) 3)]) W λs10 x11 h hx10=>c7<|S3 3 J<|nL J Ty.e42<|S2 1 J ?_
   refine cN h (λhc h=>?_) λhc h=>?_
   ·refine c4 ?_
    refine c7<|g8<|dr [] Ty.U9 (by kernel_rfl) (by kernel_rfl)<|S7 3 J<|r8 h λv12 hv11 h=>d0 J (y5 (f:=l6.Pv) (cs:=l6.Pc v12) hv11 J J Ty.e42 Ty.a19 J J) J<|S7 5 J<|r8 h λv13 hv12 h=>d0 J (y5 (f:=l6.Pv) (cs:=l6.Pc v13) hv12 J J Ty.e42 Ty.a19 J J) J<|S7 4 J<|D0 J (λhg _ hN=>oF J Ty.b01 J) J<|K3 J (λhg=>oS (ct hg) J J Ty.a42 J) J<|D0 J (λhg _ hN=>mI J) J<|K3 J (λhg=>y5 (f:=l6.Pv) (cs:=l6.Pc v12) hv11 (ct hg) (ct hg) Ty.e42 Ty.a19 J J) J<|D0 J (λhg _ hN=>D2 (ct hg) Ty.c1u J) J<|K3 J (λhg=>D4 (ct hg) Ty.a3 J) J<|D0 J (λhg _ hN=>oF J Ty.b01 J) J<|K3 J (λhg=>oS (ct hg) J J Ty.a42 J) J<|D0 J (λhg _ hN=>mI J) J<|K3 J (λhg=>y5 (f:=l6.Pv) (cs:=l6.Pc v13) hv12 (ct hg) (ct hg) Ty.e42 Ty.a19 J J) J<|D0 J (λhg _ hN=>D2 (ct hg) Ty.c1u J) J<|K3 J (λhg=>D4 (ct hg) Ty.a3 J) J<|D0 J (λhg _ hN=>n9 (ct hg) (ct hg) J) J<|d7 J (λ_ hN=>u9 J J J (λq=>R8 q)) J<|S7 1 J<|D0 J (λhg _ hN=>oF J Ty.b01 J) J<|K3 J (λhg=>oS (ct hg) J J Ty.a42 J) J<|D0 J (λhg _ hN=>mI J) J<|K3 J (λhg=>y5 (f:=l6.Pv) (cs:=l6.Pc v12) hv11 (ct hg) (ct hg) Ty.e42 Ty.a19 J J) J<|D0 J (λhg _ hN=>D2 (ct hg) Ty.b4W J) J<|K3 J (λhg=>a9j (ct hg) Ty.a78 Ty.s78 nl J) J<|D0 J (λhg _ hN=>oF J Ty.b01 J) J<|K3 J (λhg=>oS (ct hg) J J Ty.a42 J) J<|D0 J (λhg _ hN=>mI J) J<|K3 J (λhg=>y5 (f:=l6.Pv) (cs:=l6.Pc v13) hv12 (ct hg) (ct hg) Ty.e42 Ty.a19 J J) J<|D0 J (λhg _ hN=>D2 (ct hg) Ty.b4W J) J<|K3 J (λhg=>a9j (ct hg) Ty.a78 Ty.s78 nl J) J<|r8 h λv14 hv13 h=>b4f J (λhg=>C6 J b5s (B8 (ct hg) (B8 (ct hg) J)) (F3 hv13 hg)) J<|D0 J (λhg _ hN=>a01 (ct hg) J) J<|d7 J (λ_ hN=>u9 J J J (λq=>R8 q)) J<|N6 ?_
    refine cN h (λhc h=>?_) λhc h=>?_
    ·refine S4 1 J ?_
     refine b7 ?_
     have h:=xL hx10 h
     cases h
     exact f1
    ·refine c4 ?_
     refine S6 3 J ?_
     exact eL h W
   ·refine n7 ?_
    refine c8<|c8<|j5 ?_
    have h:=xL hx10 h
    exact eJ h W

theorem b65{a0 a1}:PO Tryz.prog 55 [.L k8.Pv a0,.L k8.Pv a1] (a9u a0 a1) λr=>.bool r:=by
 refine pO Tryz.func55 λr h _ _=>?_
 refine S4 1 J<|c7<|S3 1 J<|nL J Ty.e45<|S1 1 J<|nL J Ty.e45<|S2 1 J ?_
 refine cN h (λhc h=>?_) λhc h=>?_
 ·refine S4 1 J ?_
  refine b7 ?_
  cases h
  exact f1
 ·refine c4 ?_
  refine jq h (λ_=>St.of [] []) (λq7 h=>?_) λκ6 h=>?_
  ·refine S4 1 J ?_
   refine b7 ?_
   cases h
   exact f1
  ·refine S4 1 J ?_
   refine g8<|lq h (λs9=>St.of [(0,.L k8.Pv a0),(1,.L k8.Pv a1),(5,.I s9)] []) W λs9 x10 h hx9=>c7<|S3 2 J<|nL J Ty.e45<|S2 1 J ?_
   refine cN h (λhc h=>?_) λhc h=>?_
   ·refine c4 ?_
    refine c7<|g8<|dr [] Ty.U9 (by kernel_rfl) (by kernel_rfl)<|S7 2 J<|r8 h λv11 hv10 h=>d0 J (y5 (f:=k8.Pv) (cs:=k8.Pc v11) hv10 J J Ty.e45 Ty.a4c J J) J<|S7 3 J<|r8 h λv12 hv11 h=>d0 J (y5 (f:=k8.Pv) (cs:=k8.Pc v12) hv11 J J Ty.e45 Ty.a4c J J) J<|S7 1 J<|d7 J (λ_ hN=>c2r (xs:=k8.Pc v11) (ys:=k8.Pc v12) Ty.d0f J J J J) J<|N6 ?_
    refine cN h (λhc h=>?_) λhc h=>?_
    ·refine S4 1 J ?_
     refine b7 ?_
     have h:=xL hx9 h
     cases h
     exact f1
    ·refine c4 ?_
     refine S6 3 J ?_
     exact eL h W
   ·refine n7 ?_
    refine c8<|c8<|j5 ?_
    have h:=xL hx9 h
    exact eJ h W

theorem b67{a0 a1}:PO Tryz.prog 56 [.L j4.Pv a0,.L j4.Pv a1] (a9w a0 a1) λr=>.bool r:=by
 refine pO Tryz.func56 λr h _ _=>?_
 refine S4 1 J<|c7<|S3 1 J<|nL J Ty.e46<|S1 1 J<|nL J Ty.e46<|S2 1 J ?_
 refine cN h (λhc h=>?_) λhc h=>?_
 ·refine S4 1 J ?_
  refine b7 ?_
  cases h
  exact f1
 ·refine c4 ?_
  refine jq h (λ_=>St.of [] []) (λq7 h=>?_) λκ6 h=>?_
  ·refine S4 1 J ?_
   refine b7 ?_
   cases h
   exact f1
  ·refine S4 1 J ?_
   refine g8<|lq h (λs9=>St.of [(0,.L j4.Pv a0),(1,.L j4.Pv a1),(5,.I s9)] []) W λs9 x10 h hx9=>c7<|S3 2 J<|nL J Ty.e46<|S2 1 J ?_
   refine cN h (λhc h=>?_) λhc h=>?_
   ·refine c4 ?_
    refine c7<|g8<|dr [] Ty.U9 (by kernel_rfl) (by kernel_rfl)<|S7 2 J<|r8 h λv11 hv10 h=>d0 J (y5 (f:=j4.Pv) (cs:=j4.Pc v11) hv10 J J Ty.e46 Ty.a8v J J) J<|S7 3 J<|r8 h λv12 hv11 h=>d0 J (y5 (f:=j4.Pv) (cs:=j4.Pc v12) hv11 J J Ty.e46 Ty.a8v J J) J<|S7 1 J<|d7 J (λ_ hN=>c2r (xs:=j4.Pc v11) (ys:=j4.Pc v12) Ty.d0g J J J J) J<|N6 ?_
    refine cN h (λhc h=>?_) λhc h=>?_
    ·refine S4 1 J ?_
     refine b7 ?_
     have h:=xL hx9 h
     cases h
     exact f1
    ·refine c4 ?_
     refine S6 3 J ?_
     exact eL h W
   ·refine n7 ?_
    refine c8<|c8<|j5 ?_
    have h:=xL hx9 h
    exact eJ h W

theorem b68{a0 a1}:PO Tryz.prog 57 [r9.Pv a0,r9.Pv a1] (a9z a0 a1) λr=>.bool r:=by
 refine pO Tryz.func57 λr h _ _=>?_
 refine S4 3 J<|c7<|S3 6 J<|g7 J (λhg=>oF J Ty.c1D J)<|g7 J (λhg=>oS (ct hg) J J Ty.a47 J)<|g7 J (λhg=>L5 (f:=p6.Pv) (ct hg) Ty.e47)<|g7 J (λhg=>oF J Ty.c1D J)<|g7 J (λhg=>oS (ct hg) J J Ty.a47 J)<|g7 J (λhg=>L5 (f:=p6.Pv) (ct hg) Ty.e47)<|g7 J (λhg=>n9 (ct hg) (ct hg) J)<|y0 J (u9 J J J (λq=>R8 q))<|yN ?_
 refine cN h (λhc h=>?_) λhc h=>?_
 ·refine S4 1 J ?_
  refine b7 ?_
  cases h
  exact f1
 ·refine c4 ?_
  refine jq h (λ_=>St.of [] []) (λq7 h=>?_) λκ6 h=>?_
  ·refine S4 1 J ?_
   refine b7 ?_
   cases h
   exact f1
  ·refine S4 1 J ?_
   refine g8<|lq h (λs9=>St.of [(2,.ptr 2 0 0),(3,.ptr 3 0 0),(5,.I s9)] [(3,vR (r9.Pv a1) 2),(2,vR (r9.Pv a0) 2)]) W λs9 x10 h hx9=>c7<|S3 3 J<|nL J Ty.e47<|S2 1 J ?_
   refine cN h (λhc h=>?_) λhc h=>?_
   ·refine c4 ?_
    refine c7<|g8<|dr [] Ty.U9 (by kernel_rfl) (by kernel_rfl)<|S7 3 J<|r8 h λv11 hv10 h=>d0 J (y5 (f:=p6.Pv) (cs:=p6.Pc v11) hv10 J J Ty.e47 Ty.b3k J J) J<|S7 4 J<|r8 h λv12 hv11 h=>d0 J (y5 (f:=p6.Pv) (cs:=p6.Pc v12) hv11 J J Ty.e47 Ty.b3k J J) J<|S7 1 J<|d7 J (λ_ hN=>c2r (xs:=p6.Pc v11) (ys:=p6.Pc v12) Ty.d0h J J J J) J<|N6 ?_
    refine cN h (λhc h=>?_) λhc h=>?_
    ·refine S4 1 J ?_
     refine b7 ?_
     have h:=xL hx9 h
     cases h
     exact f1
    ·refine c4 ?_
     refine S6 3 J ?_
     exact eL h W
   ·refine n7 ?_
    refine c8<|c8<|j5 ?_
    have h:=xL hx9 h
    exact eJ h W

theorem b7a{a0 a1}:PO Tryz.prog 17 [g5.Pv a0,g5.Pv a1] (a9A a0 a1) λr=>.bool r:=by
 refine pO Tryz.func17 λr h _ _=>?_
 refine S4 3 J<|S3 4 J<|cA h b63 J J λv1 _ h=>S1 1 J<|g7 J (λhg=>oF J Ty.c5i J)<|g7 J (λhg=>oS (ct hg) J J Ty.a27 J)<|g7 J (λhg=>oF J Ty.c5i J)<|g7 J (λhg=>oS (ct hg) J J Ty.a27 J)<|r8 h λv2 hv2 h=>g7 J (λhg=>C6 J a6B (B8 (ct hg) (B8 (ct hg) J)) (F3 hv2 hg))<|y0 J (p5 J J J (λq=>Q1 q))<|S1 1 J<|g7 J (λhg=>oF J Ty.c5j J)<|g7 J (λhg=>oS (ct hg) J J Ty.a45 J)<|g7 J (λhg=>oF J Ty.c5j J)<|g7 J (λhg=>oS (ct hg) J J Ty.a45 J)<|r8 h λv3 hv3 h=>g7 J (λhg=>C6 J b65 (B8 (ct hg) (B8 (ct hg) J)) (F3 hv3 hg))<|y0 J (p5 J J J (λq=>Q1 q))<|S1 1 J<|g7 J (λhg=>oF J Ty.c5k J)<|g7 J (λhg=>oS (ct hg) J J Ty.a46 J)<|g7 J (λhg=>oF J Ty.c5k J)<|g7 J (λhg=>oS (ct hg) J J Ty.a46 J)<|r8 h λv4 hv4 h=>g7 J (λhg=>C6 J b67 (B8 (ct hg) (B8 (ct hg) J)) (F3 hv4 hg))<|y0 J (p5 J J J (λq=>Q1 q))<|S1 1 J<|g7 J (λhg=>oF J Ty.c1E J)<|g7 J (λhg=>oL (ct hg) J J Ty.a49 Ty.s49 nl J)<|g7 J (λhg=>oF J Ty.c1E J)<|g7 J (λhg=>oL (ct hg) J J Ty.a49 Ty.s49 nl J)<|r8 h λv5 hv5 h=>g7 J (λhg=>C6 J b68 (B8 (ct hg) (B8 (ct hg) J)) (F3 hv5 hg))<|y0 J (p5 J J J (λq=>Q1 q))<|S2 1 J<|b7 ?_
 cases h
 exact f1

theorem w18_MachineRuns_ok{a0 a1 a2 a3}:PO Tryz.prog 4 [.I a0,.I a1,.I a2,.L code_Op.Pv a3] (a2p a0 a1 a2 a3) λr=>.bool r:=by
 refine pO Tryz.func4 λr h _ _=>?_
 refine S4 1 J<|S3 3 J<|cF h b07 J J λv1 _ h=>S2 2 J<|c7<|S3 1 J<|nL J Ty.e61<|S1 2 J<|g7 J (λhg=>oF J Ty.b6u J)<|g7 J (λhg=>oS (ct hg) J J Ty.a27 J)<|g7 J (λhg=>L5 (f:=iF) (ct hg) Ty.A5)<|g7 J (λhg=>n9 (ct hg) J J)<|y0 J (u9 J J J (λq=>R8 q))<|S1 1 J<|r8 h λv2 hv2 h=>g7 J (λhg=>C6 J a91 J (F3 hv2 hg))<|g7 J (λhg=>a01 (ct hg) J)<|y0 J (u9 J J J (λq=>R8 q))<|yN ?_
 refine cN h (λhc h=>?_) λhc h=>?_
 ·refine sR ?_
  refine cA h a91 J J λv3 _ h=>S2 1 J<|b7 ?_
  cases h
  exact f1
 ·refine c4 ?_
  refine S3 2 J<|cF h a6u J J λv4 _ h=>S2 6 J<|S3 3 J<|cF h b8F J J λv5 _ h=>S1 1 J<|cF h b81 J J λv6 _ h=>cF h b8G J J λv7 _ h=>S2 6 J<|dr [] Ty.U9 (by kernel_rfl) (by kernel_rfl)<|S7 1 J<|r8 h λv8 hv8 h=>d2 J (C6 J b8Y J hv8) J<|S7 1 J<|K3 J (λhg=>oL J J J Ty.X6 Ty.P8 nl J) J<|r8 h λv9 hv9 h=>c53 J (λhg=>y4 J b7y (B8 (ct hg) J) (F3 hv9 hg)) J<|K3 J (λhg=>oL J J J Ty.a51 Ty.Z6 nl J) J<|r8 h λv10 hv10 h=>b4f J (λhg=>C6 J b7a (B8 (ct hg) (B8 (ct hg) J)) (F3 hv10 hg)) J<|d7 J (λ_ hN=>p5 J J J (λq=>Q1 q)) J<|S7 1 J<|D0 J (λhg _ hN=>om (d:=.L iF v4.2) J) J<|D0 J (λhg _ hN=>om (d:=.L iF v7.2) J) J<|r8 h λv11 hv11 h=>b4f J (λhg=>C6 J a6B (B8 (ct hg) (B8 (ct hg) J)) (F3 hv11 hg)) J<|d7 J (λ_ hN=>p5 J J J (λq=>Q1 q)) J<|S8 1 J<|b7 ?_
  cases h
  exact f1

end Go.Proofs.YtfihndcobnkiaaaGreat.Ok
