/-
 The functions of the program do as the plain functions do.
-/
import Derived.Test.YtjlokngooekbcaaGreatP21aOk2
set_option linter.unusedVariables false
set_option linter.unusedSimpArgs false
set_option linter.unusedSectionVars false
namespace Go.Proofs.YtjlokngooekbcaaGreat.Ok
open Go Go.Pw Go.Sh Go.Proofs
set_option maxRecDepth 100000
set_option maxHeartbeats 4000000
theorem b1l{a0}:PO Tryz.prog 278 [.I a0] (a5V a0) λr=>.bool r:=by
 refine pO Tryz.func278 λr h _ _=>?_;refine S4 1 J<|g7<|S3 3 J<|k7 J (λhg=>mI J)<|k7 J (λhg=>s6 (ct hg) J J)<|y0 J (x8 J J J (λq=>U0 q))<|yN ?_;refine cN h (λhc h=>?_) λhc h=>?_
 ·refine S4 1 J ?_;refine b9 ?_;cases h;exact f1
 ·refine c5 ?_;refine S3 2 J<|z7 h λv1 hv1 h=>y0 J (a3d J J hv1)<|S1 2 J<|z7 h λv2 hv2 h=>y0 J (a3d J J hv2)<|cA h a8a J J λv3 _ h=>S2 3 J<|b9 ?_;cases h;exact f1

theorem b91{a0}:PO Tryz.prog 204 [.I a0] (a5U a0) λr=>.I r:=by
 refine pO Tryz.func204 λr h _ _=>?_;refine S4 1 J<|g7<|S3 1 J<|cA h b1l J J λv1 _ h=>S2 1 J ?_;refine cN h (λhc h=>?_) λhc h=>?_
 ·refine S4 1 J ?_;refine b9 ?_;cases h;exact f1
 ·refine c5 ?_;refine S3 2 J<|z7 h λv2 hv2 h=>y0 J (a3d J J hv2)<|S2 1 J<|b9 ?_;cases h;exact f1

theorem c1G{a0}:PO Tryz.prog 225 [.I a0] (b3O a0) λr=>.I r:=by
 refine pO Tryz.func225 λr h _ _=>?_;refine S4 1 J<|g7<|S3 1 J<|cA h b1l J J λv1 _ h=>S2 1 J ?_;refine cN h (λhc h=>?_) λhc h=>?_
 ·refine S4 1 J ?_;refine b9 ?_;cases h;exact f1
 ·refine c5 ?_;refine S3 2 J<|z7 h λv2 hv2 h=>y0 J (a3d J J hv2)<|S2 1 J<|b9 ?_;cases h;exact f1

theorem a5a{a0 a1}:PO Tryz.prog 137 [B9.Pv a0,.I a1] (N4 a0 a1) λr=>.tup [.I r.1,.I r.2]:=by
 refine pO Tryz.func137 λr h _ _=>?_;refine S4 3 J<|g7<|S4 2 J ?_;refine cN h (λhc h=>?_) λhc h=>?_
 ·refine S4 2 J ?_;refine b9 ?_;cases h;exact f2
 ·refine c5 ?_;refine S3 1 J<|cA h b91 J J λv1 _ h=>S2 1 J<|g7<|S3 3 J<|k7 J (λhg=>mI J)<|k7 J (λhg=>oF J c3Q J)<|k7 J (λhg=>oS (ct hg) J J c70 J)<|k7 J (λhg=>Z8 (f:=B8.Pv) (ct hg) a3E)<|k7 J (λhg=>s6 (ct hg) (ct hg) J)<|y0 J (x8 J J J (λq=>U0 q))<|yN ?_;refine cN h (λhc h=>?_) λhc h=>?_
  ·refine S4 2 J ?_;refine b9 ?_;cases h;exact f2
  ·refine c5 ?_;refine S3 3 J<|iL h J J a3E a8G λv2 _ h=>S2 3 J<|g7<|dr [] w9 (by kernel_rfl) (by kernel_rfl)<|S7 3 J<|z7 h λv3 hv3 h=>d2 J (G7 J c1G J hv3) J<|S7 2 J<|z6 J (λhg _ hN=>oF J b14 J) J<|D1 J (λhg=>oS (ct hg) J J x6 J) J<|z6 J (λhg _ hN=>s6 (ct hg) J J) J<|z6 J (λhg _ hN=>om (d:=.bool (v2.State != 1)) (ct hg)) J<|z6 (C7 J J J) (λhg _ hN=>oF J b14 J) J<|D1 (C7 J J J) (λhg=>oS (ct hg) J J x6 J) J<|z6 (C7 J J J) (λhg _ hN=>s6 (ct hg) J J) J<|z6 J (λhg _ hN=>y8 (ct hg) J J (λq=>b0D hg (eqT q))) J<|d7 J (λ_ hN=>x8 J J J (λq=>U0 q)) J<|Q0 ?_
   refine cN h (λhc h=>?_) λhc h=>?_
   ·refine S4 2 J ?_;refine b9 ?_;cases h;exact f2
   ·refine c5 ?_;refine S4 3 J<|b9 ?_;cases h;exact f2

theorem c1H{a0 a1}:PO Tryz.prog 86 [B9.Pv a0,.I a1] (b1m a0 a1) λr=>.tup [.I r.1,.I r.2]:=by
 refine pO Tryz.func86 λr h _ _=>?_;refine S4 3 J<|S3 2 J<|cA h a5a J J λv1 _ h=>S2 5 J<|g7<|S4 2 J ?_;refine cN h (λhc h=>?_) λhc h=>?_
 ·refine S4 3 J ?_;refine b9 ?_;cases h;exact f2
 ·refine c5 ?_;refine g7<|S3 3 J<|iL h J J a3E a8G λv2 hv2 h=>S2 3 J ?_;refine cN h (λhc h=>?_) λhc h=>?_
  ·refine S4 2 J ?_;refine b9 ?_;cases h;exact f2
  ·refine c5 ?_;refine S3 3 J<|y0 J (D2 (f:=B8.Pv) (cs:=B8.Pc v2) hv2 J J a3E a8G J J)<|S2 4 J<|b9 ?_;cases h;exact f2

theorem a1f{a0 a1}:PO Tryz.prog 38 [m9.Pv a0,.I a1] (F1 a0 a1) λr=>.tup [D9.Pv r.1,.I r.2]:=by
 refine pO Tryz.func38 λr h _ _=>?_;refine S4 3 J<|S3 1 J<|cF h a13 J J λv1 _ h=>S1 1 J<|cA h c1H J J λv2 _ h=>S2 5 J<|g7<|S4 2 J ?_;refine cN h (λhc h=>?_) λhc h=>?_
 ·refine sR ?_;refine y0 J (u7 (cs:=[.I 0,.I 0,.I 0,.I 0,.bool false,.nl]) J c5b c5i J J J)<|S1 1 J<|a6j (x':=.agg [.I 0,.I 0,.I 0,.I 0,.bool false,.nl]) (cl':=true) J J (.inl J) b15<|S2 1 J<|b9 ?_;cases h;exact⟨J,[_,_],⟨oL J J J c0Q b15 nl J,⟨J,tr⟩⟩,J,io⟩
 ·refine c5 ?_;refine S3 3 J<|iL h J J Y6 Z3 λv3 _ h=>S2 4 J<|b9 ?_;cases h;exact⟨J,[_,_],⟨oL J J J c0Q b15 nl J,⟨J,tr⟩⟩,J,io⟩

theorem b8l{a0}:PO Tryz.prog 78 [g8.Pv a0] (a87 a0) λr=>.bool r:=by
 refine pO Tryz.func78 λr h _ _=>?_;refine S4 2 J ?_;refine jq h (λ_=>St.of [(1,.ptr 1 0 0)] [(1,vR (g8.Pv a0) 8)]) (λq31 h=>?_) λκ30 h=>?_
 ·refine S3 5 J ?_;refine k7 J (λhg=>oF J b39 J)<|k7 J (λhg=>oF (ct hg) b38 J)<|k7 J (λhg=>oS (ct hg) J J c0P J)<|k7 J (λhg=>Z8 (f:=w7.Pv) (ct hg) a1E)<|k7 J (λhg=>s6 (ct hg) J J)<|y0 J (y8 J J J (λq=>eqT q))<|S2 1 J<|b9 ?_;cases h;exact f1
 ·refine S4 1 J ?_;refine g6<|lq h (λs33=>St.of [(1,.ptr 1 0 0),(3,.I s33)] [(1,vR (g8.Pv a0) 8)]) W λs33 x34 h hx30=>g7<|S3 4 J<|nL J a1E<|S2 1 J ?_;refine cN h (λhc h=>?_) λhc h=>?_
  ·refine c5 ?_;refine jq h (λ_=>St.of [(1,.ptr 1 0 0),(3,.I s33)] [(1,vR (g8.Pv a0) 8)]) (λq48 h=>?_) λκ47 h=>?_
   ·refine S6 3 J ?_;exact eL h W
   ·refine g6 ?_;refine S3 4 J<|iL h J J a1E a2N λv49 _ h=>S2 3 J<|g7<|S3 4 J<|k7 J (λhg=>oF J b6f J)<|k7 J (λhg=>oS (ct hg) J J x6 J)<|k7 J (λhg=>s6 (ct hg) J J)<|y0 J (y8 J J J (λq=>eqT q))<|S1 1 J<|k7 J (λhg=>oF J b6g J)<|k7 J (λhg=>oS (ct hg) J J x6 J)<|k7 J (λhg=>s6 (ct hg) J J)<|y0 J (x8 J J J (λq=>U0 q))<|S1 1 J<|k7 J (λhg=>oF J b6g J)<|k7 J (λhg=>oS (ct hg) J J x6 J)<|k7 J (λhg=>s6 (ct hg) J J)<|y0 J (x8 J J J (λq=>U0 q))<|yN ?_;refine cN h (λhc h=>?_) λhc h=>?_
    ·refine S4 1 J ?_;refine b9 ?_;have h:=xL hx30 h;cases h;exact f1
    ·refine c5 ?_;refine jq h (λ_=>St.of [(1,.ptr 1 0 0),(3,.I s33),(4,.ptr 4 0 0)] [(4,vR (w7.Pv v49) 3),(1,vR (g8.Pv a0) 8)]) (λq55 h=>?_) λκ54 h=>?_
     ·refine S3 4 J ?_;refine cF h a1f J J λv56 _ h=>S2 6 J<|S3 4 J<|k7 J (λhg=>mI J)<|k7 J (λhg=>s6 (ct hg) J J)<|k7 J (λhg=>om (d:=.bool (v56.2 != 0)) (ct hg))<|k7 (C7 J J J) (λhg=>oF J b9e J)<|k7 (C7 J J J) (λhg=>oS (ct hg) J J b0y J)<|k7 (C7 J J J) (λhg=>a1s (ct hg) J)<|k7 J (λhg=>x8 (ct hg) J J (λq=>b0D hg (U0 q)))<|y0 J (y8 J J J (λq=>eqT q))<|S1 1 J<|k7 J (λhg=>oF J b6f J)<|k7 J (λhg=>oS (ct hg) J J x6 J)<|k7 J (λhg=>s6 (ct hg) J J)<|k7 J (λhg=>om (d:=.bool (v49.Kind==2)) (ct hg))<|k7 (C7 J J J) (λhg=>oF J a5D J)<|k7 (C7 J J J) (λhg=>oS (ct hg) J J x6 J)<|k7 (C7 J J J) (λhg=>s6 (ct hg) J J)<|k7 (C7 J J J) (λhg=>om (d:=.bool (decide (v49.At<0))) (ct hg))<|k7 (C7 J J J) (λhg=>oF J a5D J)<|k7 (C7 J J J) (λhg=>oS (ct hg) J J x6 J)<|k7 (C7 J J J) (λhg=>s6 (ct hg) J J)<|k7 (C7 J J J) (λhg=>x8 (ct hg) J J (λq=>b0D hg (U0 q)))<|k7 J (λhg=>y8 (ct hg) J J (λq=>b0D hg (eqT q)))<|y0 J (x8 J J J (λq=>U0 q))<|yN ?_;refine cN h (λhc h=>?_) λhc h=>?_
      ·refine S4 1 J ?_;refine b9 ?_;have h:=xL hx30 h;cases h;exact f1
      ·refine c5 ?_;exact eJ h W
     ·refine S4 1 J ?_;refine g6<|lq h (λs58=>St.of [(1,.ptr 1 0 0),(3,.I s33),(4,.ptr 4 0 0),(5,.I s58)] [(4,vR (w7.Pv v49) 3),(1,vR (g8.Pv a0) 8)]) W λs58 x59 h hx52=>g7<|S4 3 J ?_;refine cN h (λhc h=>?_) λhc h=>?_
      ·refine c5 ?_;refine g7<|g6<|dr [] w9 (by kernel_rfl) (by kernel_rfl)<|S7 4 J<|z7 h λv60 hv53 h=>d0 J (D2 (f:=w7.Pv) (cs:=w7.Pc v60) hv53 J J a1E a2N J J) J<|S7 6 J<|z6 J (λhg _ hN=>oF J b39 J) J<|z6 J (λhg _ hN=>oF (ct hg) b38 J) J<|D1 J (λhg=>oS (ct hg) J J c0P J) J<|z6 J (λhg _ hN=>mI J) J<|D1 J (λhg=>D2 (f:=w7.Pv) (cs:=w7.Pc v60) hv53 (ct hg) (ct hg) a1E a2N J J) J<|z6 J (λhg _ hN=>B6 (ct hg) a5D J) J<|D1 J (λhg=>G3 (ct hg) x6 J) J<|z6 J (λhg _ hN=>oF J a5D J) J<|D1 J (λhg=>oS (ct hg) J J x6 J) J<|z6 J (λhg _ hN=>s6 (ct hg) (ct hg) J) J<|d7 J (λ_ hN=>y8 J J J (λq=>eqT q)) J<|Q0 ?_
       refine cN h (λhc h=>?_) λhc h=>?_
       ·refine S4 1 J ?_;refine b9 ?_;have h:=xL hx52 h;have h:=xL hx30 h;cases h;exact f1
       ·refine c5 ?_;refine S6 3 J ?_;exact eL h W
      ·refine p6 ?_;refine c7<|c7<|k9 ?_;have h:=xL hx52 h;exact eJ h W
  ·refine p6 ?_;refine c7<|c7<|k9 ?_;have h:=xL hx30 h;exact eJ h W

theorem a3M{a0 a1}:PO Tryz.prog 136 [g8.Pv a0,.I a1] (X9 a0 a1) λr=>.bool r:=by
 refine pO Tryz.func136 λr h _ _=>?_;refine S4 2 J<|S3 3 J<|cF h a1f J J λv1 _ h=>S2 6 J<|S4 3 J<|b9 ?_;cases h;exact f1

theorem b1y{a0 a1}:PO Tryz.prog 134 [g8.Pv a0,.I a1] (Y0 a0 a1) λr=>.bool r:=by
 refine pO Tryz.func134 λr h _ _=>?_;unfold Y0 at h;refine S4 2 J<|S3 3 J<|k7 J (λhg=>oL J J J a7K a6p nl J)<|k7 J (λhg=>mI J)<|z7 h λv1 hv1 h=>k7 J (λhg=>G7 J a3M (F8 (ct hg) (F8 (ct hg) J)) (G8 hv1 hg))<|y0 J (x8 J J J (λq=>U0 q))<|S2 1 J<|b9 ?_;cases h;exact f1

theorem b50{a0 a1}:PO Tryz.prog 85 [m9.Pv a0,.L iF a1] (a4p a0 a1) λr=>.L iF r:=by
 refine pO Tryz.func85 λr h _ _=>?_;unfold a4p at h;refine S4 2 J<|sR<|y0 J (P1 J l4 o8)<|S1 1 J<|z7 h λv1 hv1 h=>y1 J (b6L (f:=iF) hv1 J J (.inl ⟨_,J,J⟩) l4 o8 O7 C2 J (λ_=>J)) J<|S2 1 J ?_;refine jq h (λj36=>St.of [(5,.sl 15)] [(15,⟨List.map iF j36,0,true,1,true⟩)]) (λj36 h=>?_) λκ35 h=>?_
 ·refine S4 2 J ?_;refine b9 ?_;cases h;exact f1
 ·refine S4 1 J ?_;refine g6<|lq h (λq=>St.of [(2,.ptr 2 0 0),(5,.sl 15),(6,.I q.1)] [(15,⟨List.map iF q.2,0,true,1,true⟩),(2,vR (m9.Pv a0) 3)]) W λq41 x40 h hx31=>?_;obtain⟨s38,s39⟩:=q41;refine g7<|S3 2 J<|y0 J (c26 (f:=iF) J J J l4)<|S2 1 J ?_;refine cN h (λhc h=>?_) λhc h=>?_
  ·refine c5 ?_;refine jq h (λj56=>St.of [(2,.ptr 2 0 0),(5,.sl 15),(6,.I s38)] [(15,⟨List.map iF j56,0,true,1,true⟩),(2,vR (m9.Pv a0) 3)]) (λj56 h=>?_) λκ55 h=>?_
   ·refine S6 3 J ?_;exact eL h W
   ·refine g6 ?_;refine S4 2 J<|g6<|lq h (λq=>St.of [(2,.ptr 2 0 0),(5,.sl 15),(6,.I s38),(7,.I q.1)] [(15,⟨List.map iF q.2,0,true,1,true⟩),(2,vR (m9.Pv a0) 3)]) W λq61 x60 h hx46=>?_;obtain⟨s58,s59⟩:=q61;refine g7<|S4 2 J ?_;refine cN h (λhc h=>?_) λhc h=>?_
    ·refine c5 ?_;refine g7<|g6<|dr [] w9 (by kernel_rfl) (by kernel_rfl)<|S7 1 J<|z7 h λv62 hv47 h=>d2f J (A5 J a13 J hv47) J<|S7 3 J<|z7 h λv63 hv48 h=>d0 J (a3B (f:=iF) hv48 J J J J l4 o8 J) J<|d0 J (b4R (f:=iF) hv48 J J J x6 J) J<|z7 h λv64 hv49 h=>d2 J (G7 J a5a J hv49) J<|S8 5 J<|dr [] w9 (by kernel_rfl) (by kernel_rfl)<|S7 1 J<|d2f J (A5 J a13 J hv47) J<|S7 2 J<|z7 h λv65 hv50 h=>d0 J (a3B (f:=iF) hv50 J J J J l4 o8 J) J<|d0 J (b4R (f:=iF) hv50 J J J x6 J) J<|z7 h λv66 hv51 h=>d2 J (G7 J a5a J hv51) J<|S8 5 J<|g7<|dr [] w9 (by kernel_rfl) (by kernel_rfl)<|S7 3 J<|z6 J (λhg _ hN=>mI J) J<|z6 J (λhg _ hN=>s6 (ct hg) J J) J<|d7 J (λ_ hN=>x8 J J J (λq=>U0 q)) J<|S7 1 J<|z6 J (λhg _ hN=>oF J b37 J) J<|D1 J (λhg=>oS (ct hg) J J c0N J) J<|z6 J (λhg _ hN=>mI J) J<|z7 h λv67 hv52 h=>D1 J (λhg=>D2 (f:=p9.Pv) (cs:=p9.Pc v67) (G8 hv52 hg) (ct hg) (ct hg) Y6 Z3 J J) J<|z6 J (λhg _ hN=>B6 (ct hg) a3U J) J<|z6 J (λhg _ hN=>B6 (ct hg) a7O J) J<|D1 J (λhg=>G3 (ct hg) x6 J) J<|z6 J (λhg _ hN=>oF J b37 J) J<|D1 J (λhg=>oS (ct hg) J J c0N J) J<|z6 J (λhg _ hN=>mI J) J<|z7 h λv68 hv53 h=>D1 J (λhg=>D2 (f:=p9.Pv) (cs:=p9.Pc v68) (G8 hv53 hg) (ct hg) (ct hg) Y6 Z3 J J) J<|z6 J (λhg _ hN=>B6 (ct hg) a3U J) J<|z6 J (λhg _ hN=>B6 (ct hg) a7O J) J<|D1 J (λhg=>G3 (ct hg) x6 J) J<|z6 J (λhg _ hN=>s6 (ct hg) (ct hg) J) J<|d7 J (λ_ hN=>x8 J J J (λq=>U0 q)) J<|Q0 ?_
     refine cN h (λhc h=>?_) λhc h=>?_
     ·refine p6 ?_;refine c7<|a3F (by decide)<|c7<|c7<|k9 ?_
      have h:=xL hx46 h;exact eJ h W
     ·refine c5 ?_;refine S3 2 J<|y0 J (a3B (f:=iF) hv50 J J J J l4 o8 J)<|y0 J (b4R (f:=iF) hv50 J J J x6 J)<|S2 1 J<|S3 5 J<|y0 J (a3B (f:=iF) hv48 J J J J l4 o8 J)<|y0 J (b4R (f:=iF) hv48 J J J x6 J)<|y0 J (a3B (f:=iF) hv50 J J J J l4 o8 J)<|b1Z (f:=iF) (v:=v63) hv50 J J (.inl J) o8<|yN<|S5 4 J<|z7 h λv69 hv54 h=>y0 J (a3B (f:=iF) hv54 J J J J l4 o8 J)<|b1Z (f:=iF) (v:=v65) hv54 J J (.inl J) o8<|yN<|S6 3 J ?_;exact eL h W
    ·refine p6 ?_;refine c7<|c7<|k9 ?_;have h:=xL hx46 h;exact eJ h W
  ·refine p6 ?_;refine c7<|c7<|k9 ?_;have h:=xL hx31 h;exact eJ h W

theorem a5b{a0}:PO Tryz.prog 37 [m9.Pv a0] (Q6 a0) λr=>.L iF r:=by
 refine pO Tryz.func37 λr h _ _=>?_;refine S4 2 J<|sR<|y0 J (P1 J l4 o8)<|S2 1 J ?_;refine jq h (λj15=>St.of [(1,.ptr 1 0 0),(3,.sl 910003)] [(910003,⟨List.map iF j15,(List.map iF j15).length,true,1,true⟩),(1,vR (m9.Pv a0) 3)]) (λj15 h=>?_) λκ14 h=>?_
 ·refine S3 2 J ?_;obtain⟨v16,hv12,h⟩:=a9F h;refine ycL J (A5 J b50 J hv12) J<|S2 1 J<|b9 ?_;cases h;exact f1
 ·refine S4 1 J ?_;refine g6<|lq h (λq=>St.of [(1,.ptr 1 0 0),(3,.sl 910003),(4,.I q.1)] [(1,vR (m9.Pv a0) 3),(910003,⟨List.map iF q.2,(List.map iF q.2).length,true,1,true⟩)]) (Wk.trans (I7 (t:=3) (l:=920003) (z:=1) J J) (WP (λl=>if l=910003 then 920003 else l))) λq21 x20 h hx15=>?_
  obtain⟨s18,s19⟩:=q21;refine g7<|S3 3 J<|nL J Y6<|S2 1 J ?_;refine cN h (λhc h=>?_) λhc h=>?_
  ·refine c5 ?_;refine jq h (λj26=>St.of [(1,.ptr 1 0 0),(3,.sl 30),(4,.I s18)] [(30,⟨List.map iF j26,(List.map iF j26).length,true,1,true⟩),(1,vR (m9.Pv a0) 3)]) (λj26 h=>?_) λκ25 h=>?_
   ·refine S6 3 J ?_;exact eL h (Wk.trans (p7 _ [30]) (WP (λl=>if l=910003 then 30 else l)))
   ·refine g6 ?_;refine S3 3 J<|iL h J J Y6 Z3 λv27 hv20 h=>S2 3 J ?_;refine cN h (λhc h=>?_) λhc h=>?_
    ·refine S5 5 J ?_;refine y0 J (D2 (f:=p9.Pv) (cs:=p9.Pc v27) hv20 J J Y6 Z3 J J)<|S1 2 J<|cA h a8a J J λv28 _ h=>y0 J (L1 (f:=iF) (l:=[v28]) J l4 o8 C2 J J nl J J)<|z7 h λv29 hv22 h=>R2 J (O4 (f:=iF) hv22 J J J J J J (.inl ⟨_,J,J⟩) l4 o8 O7 C2 J (λ_=>J)) J J J<|S2 1 J ?_;exact eJ h (Wk.trans (p7 _ [30]) W)
    ·refine c5 ?_;exact eJ h (Wk.trans (p7 _ [910003]) (WP (λl=>if l=30 then 910003 else l)))
  ·refine p6 ?_;refine c7<|c7<|k9 ?_;have h:=xL hx15 h;exact eJ h (Wk.trans (p7 _ [910003]) W)

theorem b96{a0}:PO Tryz.prog 223 [.L m7.Pv a0] (b1t a0) λr=>.L iF r:=by
 refine pO Tryz.func223 λr h _ _=>?_;refine S4 1 J<|sR<|y0 J (P1 J l4 o8)<|S2 1 J ?_;refine jq h (λj13=>St.of [(3,.sl 910003)] [(910003,⟨List.map iF j13,(List.map iF j13).length,true,1,true⟩)]) (λj13 h=>?_) λκ12 h=>?_
 ·refine S4 2 J ?_;refine b9 ?_;cases h;exact f1
 ·refine S4 1 J ?_;refine g6<|lq h (λq=>St.of [(0,.L m7.Pv a0),(3,.sl 910003),(4,.I q.1)] [(910003,⟨List.map iF q.2,(List.map iF q.2).length,true,1,true⟩)]) (Wk.trans (I7 (t:=3) (l:=920003) (z:=1) J J) (WP (λl=>if l=910003 then 920003 else l))) λq18 x17 h hx12=>?_
  obtain⟨s15,s16⟩:=q18;refine g7<|S3 2 J<|nL J a2o<|S2 1 J ?_;refine cN h (λhc h=>?_) λhc h=>?_
  ·refine c5 ?_;refine jq h (λj22=>St.of [(0,.L m7.Pv a0),(3,.sl 25),(4,.I s15)] [(25,⟨List.map iF j22,(List.map iF j22).length,true,1,true⟩)]) (λj22 h=>?_) λκ21 h=>?_
   ·refine S6 3 J ?_;exact eL h (Wk.trans (p7 _ [25]) (WP (λl=>if l=910003 then 25 else l)))
   ·refine g6 ?_;refine S3 2 J<|iL h J J a2o a2M λv23 hv16 h=>S2 3 J ?_;refine cN h (λhc h=>?_) λhc h=>?_
    ·refine S5 3 J ?_;refine y0 J (D2 (f:=m7.Pv) (cs:=m7.Pc v23) hv16 J J a2o a2M J J)<|S1 2 J<|y0 J (L1 (f:=iF) (l:=[v23.Key]) J l4 o8 C2 J J nl J J)<|z7 h λv24 hv17 h=>R2 J (O4 (f:=iF) hv17 J J J J J J (.inl ⟨_,J,J⟩) l4 o8 O7 C2 J (λ_=>J)) J J J<|S2 1 J ?_;exact eJ h (Wk.trans (p7 _ [25]) W)
    ·refine c5 ?_;exact eJ h (Wk.trans (p7 _ [910003]) (WP (λl=>if l=25 then 910003 else l)))
  ·refine p6 ?_;refine c7<|c7<|k9 ?_;have h:=xL hx12 h;exact eJ h (Wk.trans (p7 _ [910003]) W)

theorem c1J{a0 a1}:PO Tryz.prog 224 [.L m7.Pv a0,.I a1] (a8Z a0 a1) λr=>.tup [.I r.1,.I r.2]:=by
 refine pO Tryz.func224 λr h _ _=>?_;refine S4 2 J<|S3 2 J<|cA h b22 J J λv1 _ h=>S2 1 J<|g7<|S4 2 J ?_;refine cN h (λhc h=>?_) λhc h=>?_
 ·refine S4 2 J ?_;refine b9 ?_;cases h;exact f2
 ·refine c5 ?_;refine S3 2 J<|iL h J J a2o a2M λv2 _ h=>S2 4 J<|b9 ?_;cases h;exact f2

theorem b1u{a0}:PO Tryz.prog 135 [.L m7.Pv a0] (a31 a0) λr=>.L D3.Pv r:=by
 refine pO Tryz.func135 λr h _ _=>?_;refine S4 1 J<|sR<|y0 J (P1 J a4N a8H)<|S2 1 J<|S3 1 J<|cF h b96 J J λv1 _ h=>S2 1 J ?_;refine jq h (λj11=>St.of [(3,.sl 910003)] [(910003,⟨List.map D3.Pv j11,(List.map D3.Pv j11).length,true,2,true⟩)]) (λj11 h=>?_) λκ10 h=>?_
 ·refine S4 2 J ?_;refine b9 ?_;cases h;exact f1
 ·refine S4 1 J ?_;refine g6<|lq h (λq=>St.of [(0,.L m7.Pv a0),(3,.sl 910003),(4,.L iF v1),(5,.I q.1)] [(910003,⟨List.map D3.Pv q.2,(List.map D3.Pv q.2).length,true,2,true⟩)]) (Wk.trans (I7 (t:=3) (l:=920003) (z:=2) J J) (WP (λl=>if l=910003 then 920003 else l))) λq16 x15 h hx11=>?_
  obtain⟨s13,s14⟩:=q16;refine g7<|S3 2 J<|nL J l4<|S2 1 J ?_;refine cN h (λhc h=>?_) λhc h=>?_
  ·refine c5 ?_;refine g7<|g6<|S3 3 J<|iL h J J l4 o8 λv17 hv12 h=>S1 1 J<|cA h c1J J J λv18 _ h=>S2 5 J<|S5 3 J<|y0 J (D2 (f:=iF) (cs:=[.I v17]) hv12 J J l4 o8 J J)<|S1 2 J<|y0 J (u7 (cs:=[.I v17,.I v18.1]) J c8u b7a J J J)<|y0 J (L1 (f:=D3.Pv) (l:=[(⟨v17,v18.1⟩:D3)]) J a4N a8H b7a J J nl J J)<|z7 h λv19 hv14 h=>R2 J (O4 (f:=D3.Pv) hv14 J J J J J J (.inl ⟨_,J,J⟩) a4N a8H c78 b7a J (λ_=>J)) J J J<|S2 1 J<|S6 3 J ?_;exact eL h (Wk.trans (p7 _ [34]) (WP (λl=>if l=910003 then 34 else l)))
  ·refine p6 ?_;refine c7<|c7<|k9 ?_;have h:=xL hx11 h;exact eJ h (Wk.trans (p7 _ [910003]) W)

theorem b8k{a0}:PO Tryz.prog 79 [g8.Pv a0] (a86 a0) λr=>.bool r:=by
 refine pO Tryz.func79 λr h _ _=>?_;refine S4 2 J ?_;refine jq h (λ_=>St.of [(1,.ptr 1 0 0)] [(1,vR (g8.Pv a0) 8)]) (λq7 h=>?_) λκ6 h=>?_
 ·refine S3 2 J ?_;refine cF h a5b J J λv8 _ h=>S2 1 J ?_;refine jq h (λ_=>St.of [(1,.ptr 1 0 0)] [(1,vR (g8.Pv a0) 8)]) (λq29 h=>?_) λκ28 h=>?_
  ·refine S3 2 J ?_;refine cF h b1u J J λv30 _ h=>S2 1 J ?_;refine jq h (λ_=>St.of [] []) (λq38 h=>?_) λκ37 h=>?_
   ·refine S4 1 J ?_;refine b9 ?_;cases h;exact f1
   ·refine S4 1 J ?_;refine g6<|lq h (λs40=>St.of [(1,.ptr 1 0 0),(9,.L D3.Pv v30),(10,.I s40)] [(1,vR (g8.Pv a0) 8)]) W λs40 x41 h hx37=>g7<|S3 2 J<|nL J a4N<|S2 1 J ?_;refine cN h (λhc h=>?_) λhc h=>?_
    ·refine c5 ?_;refine g7<|g6<|dr [] w9 (by kernel_rfl) (by kernel_rfl)<|S7 3 J<|z7 h λv42 hv38 h=>d0 J (D2 (f:=D3.Pv) (cs:=D3.Pc v42) hv38 J J a4N a8H J J) J<|S7 2 J<|z7 h λv43 hv39 h=>d2 J (G7 J a3M J hv39) J<|S7 2 J<|D1 J (λhg=>oL J J J a7K a6p nl J) J<|z6 J (λhg _ hN=>om (d:=.L D3.Pv v30) J) J<|z6 J (λhg _ hN=>mI J) J<|D1 J (λhg=>D2 (f:=D3.Pv) (cs:=D3.Pc v42) hv38 (ct hg) (ct hg) a4N a8H J J) J<|z6 J (λhg _ hN=>B6 (ct hg) c3W J) J<|D1 J (λhg=>G3 (ct hg) x6 J) J<|z7 h λv44 hv40 h=>b0M J (λhg=>G7 J a3M (F8 (ct hg) (F8 (ct hg) J)) (G8 hv40 hg)) J<|z6 J (λhg _ hN=>a1s (ct hg) J) J<|d7 J (λ_ hN=>x8 J J J (λq=>U0 q)) J<|Q0 ?_
     refine cN h (λhc h=>?_) λhc h=>?_
     ·refine S4 1 J ?_;refine b9 ?_;have h:=xL hx37 h;cases h;exact f1
     ·refine c5 ?_;refine S6 3 J ?_;exact eL h W
    ·refine p6 ?_;refine c7<|c7<|k9 ?_;have h:=xL hx37 h;exact eJ h W
  ·refine S4 1 J ?_;refine g6<|lq h (λs46=>St.of [(1,.ptr 1 0 0),(4,.L iF v8),(5,.I s46)] [(1,vR (g8.Pv a0) 8)]) W λs46 x47 h hx43=>g7<|S3 2 J<|nL J l4<|S2 1 J ?_;refine cN h (λhc h=>?_) λhc h=>?_
   ·refine c5 ?_;refine jq h (λ_=>St.of [(1,.ptr 1 0 0),(4,.L iF v8),(5,.I s46)] [(1,vR (g8.Pv a0) 8)]) (λq56 h=>?_) λκ55 h=>?_
    ·refine S6 3 J ?_;exact eL h W
    ·refine g6 ?_;refine dr [] w9 (by kernel_rfl) (by kernel_rfl)<|S7 4 J<|z7 h λv57 hv52 h=>d0 J (D2 (f:=iF) (cs:=[.I v57]) hv52 J J l4 o8 J J) J<|S7 1 J<|z7 h λv58 hv53 h=>d2f J (A5 J a1f J hv53) J<|S7 4 J<|F2 (x':=D9.Pv v58.1) (cl':=true) J J (.inr J) b15<|S8 1 J<|S4 1 J<|g6<|lq h (λs60=>St.of [(1,.ptr 1 0 0),(4,.L iF v8),(5,.I s46),(6,.ptr 6 0 0),(8,.I s60)] [(6,vR (D9.Pv v58.1) 6),(1,vR (g8.Pv a0) 8)]) W λs60 x61 h hx56=>g7<|S3 3 J<|nL J l4<|S2 1 J ?_
     refine cN h (λhc h=>?_) λhc h=>?_
     ·refine c5 ?_;refine g7<|g6<|dr [] w9 (by kernel_rfl) (by kernel_rfl)<|S7 4 J<|z7 h λv62 hv57 h=>d0 J (D2 (f:=iF) (cs:=[.I v62]) hv57 J J l4 o8 J J) J<|S7 1 J<|z7 h λv63 hv58 h=>d2 J (G7 J b1y J hv58) J<|S8 1 J ?_
      refine cN h (λhc h=>?_) λhc h=>?_
      ·refine S4 1 J ?_;refine b9 ?_;have h:=xL hx56 h;have h:=xL hx43 h;cases h;exact f1
      ·refine c5 ?_;refine S6 3 J ?_;exact eL h W
     ·refine p6 ?_;refine c7<|c7<|k9 ?_;have h:=xL hx56 h;exact eJ h W
   ·refine p6 ?_;refine c7<|c7<|k9 ?_;have h:=xL hx43 h;exact eJ h W
 ·refine S4 1 J ?_;refine g6<|lq h (λs65=>St.of [(1,.ptr 1 0 0),(3,.I s65)] [(1,vR (g8.Pv a0) 8)]) W λs65 x66 h hx61=>g7<|S3 3 J<|nL J l4<|S2 1 J ?_;refine cN h (λhc h=>?_) λhc h=>?_
  ·refine c5 ?_;refine g7<|g6<|dr [] w9 (by kernel_rfl) (by kernel_rfl)<|S7 4 J<|z7 h λv67 hv62 h=>d0 J (D2 (f:=iF) (cs:=[.I v67]) hv62 J J l4 o8 J J) J<|S7 1 J<|z7 h λv68 hv63 h=>d2 J (G7 J b1y J hv63) J<|S8 1 J ?_
   refine cN h (λhc h=>?_) λhc h=>?_
   ·refine S4 1 J ?_;refine b9 ?_;have h:=xL hx61 h;cases h;exact f1
   ·refine c5 ?_;refine S6 3 J ?_;exact eL h W
  ·refine p6 ?_;refine c7<|c7<|k9 ?_;have h:=xL hx61 h;exact eJ h W

theorem b8g{a0 a1}:PO Tryz.prog 138 [y7.Pv a0,.I a1] (a2B a0 a1) λr=>.bool r:=by
 refine pO Tryz.func138 λr h _ _=>?_;refine S4 2 J ?_;refine jq h (λ_=>St.of [] []) (λq6 h=>?_) λκ5 h=>?_
 ·refine S4 1 J ?_;refine b9 ?_;cases h;exact f1
 ·refine S4 1 J ?_;refine g6<|lq h (λs8=>St.of [(1,.I a1),(2,.ptr 2 0 0),(5,.I s8)] [(2,vR (y7.Pv a0) 2)]) W λs8 x9 h hx8=>g7<|S3 3 J<|nL J a1E<|S2 1 J ?_;refine cN h (λhc h=>?_) λhc h=>?_
  ·refine c5 ?_;refine g7<|g6<|S3 3 J<|iL h J J a1E a2N λv10 hv9 h=>S1 4 J<|k7 J (λhg=>oF J b38 J)<|k7 J (λhg=>oS (ct hg) J J c0P J)<|k7 J (λhg=>mI J)<|k7 J (λhg=>D2 (f:=w7.Pv) (cs:=w7.Pc v10) hv9 (ct hg) (ct hg) a1E a2N J J)<|k7 J (λhg=>B6 (ct hg) a5D J)<|k7 J (λhg=>G3 (ct hg) x6 J)<|k7 J (λhg=>mI J)<|k7 J (λhg=>s6 (ct hg) (ct hg) J)<|y0 J (y8 J J J (λq=>eqT q))<|yN ?_;refine cN h (λhc h=>?_) λhc h=>?_
   ·refine S4 1 J ?_;refine b9 ?_;have h:=xL hx8 h;cases h;exact f1
   ·refine c5 ?_;refine S6 3 J ?_;exact eL h W
  ·refine p6 ?_;refine c7<|c7<|k9 ?_;have h:=xL hx8 h;exact eJ h W

theorem b8j{a0}:PO Tryz.prog 80 [g8.Pv a0] (a85 a0) λr=>.bool r:=by
 refine pO Tryz.func80 λr h _ _=>?_;refine S4 2 J ?_;refine jq h (λ_=>St.of [] []) (λq10 h=>?_) λκ9 h=>?_
 ·refine S4 1 J ?_;refine b9 ?_;cases h;exact f1
 ·refine S4 1 J ?_;refine g6<|lq h (λs12=>St.of [(1,.ptr 1 0 0),(3,.I s12)] [(1,vR (g8.Pv a0) 8)]) W λs12 x13 h hx12=>g7<|S3 3 J<|nL J a7L<|S2 1 J ?_;refine cN h (λhc h=>?_) λhc h=>?_
  ·refine c5 ?_;refine g7<|g6<|S3 3 J<|iL h J J a7L b0z λv14 _ h=>S2 3 J<|dr [] w9 (by kernel_rfl) (by kernel_rfl)<|S7 2 J<|z7 h λv15 hv14 h=>d2f J (A5 J a13 J hv14) J<|S7 2 J<|z7 h λv16 hv15 h=>d2 J (G7 J a5a J hv15) J<|S8 5 J<|S3 4 J<|k7 J (λhg=>oF J c3S J)<|k7 J (λhg=>oS (ct hg) J J x6 J)<|k7 J (λhg=>s6 (ct hg) J J)<|y0 J (x8 J J J (λq=>U0 q))<|S1 1 J<|k7 J (λhg=>oF J b13 J)<|k7 J (λhg=>oS (ct hg) J J x6 J)<|k7 J (λhg=>s6 (ct hg) J J)<|k7 J (λhg=>om (d:=.bool (v14.Target==0)) (ct hg))<|k7 (C7 J J J) (λhg=>oF J b6c J)<|k7 (C7 J J J) (λhg=>oS (ct hg) J J b0y J)<|k7 J (λhg=>y8 (ct hg) J J (λq=>b0D hg (eqT q)))<|y0 J (x8 J J J (λq=>U0 q))<|S1 1 J<|k7 J (λhg=>oF J b13 J)<|k7 J (λhg=>oS (ct hg) J J x6 J)<|k7 J (λhg=>s6 (ct hg) J J)<|k7 J (λhg=>om (d:=.bool (v14.Target != 0)) (ct hg))<|k7 (C7 J J J) (λhg=>mI J)<|k7 (C7 J J J) (λhg=>s6 (ct hg) J J)<|k7 J (λhg=>y8 (ct hg) J J (λq=>b0D hg (eqT q)))<|y0 J (x8 J J J (λq=>U0 q))<|S1 1 J<|k7 J (λhg=>oF J b6c J)<|k7 J (λhg=>oS (ct hg) J J b0y J)<|k7 J (λhg=>om (d:=.bool v14.Intact) (ct hg))<|k7 (C7 J J J) (λhg=>oL J J J a7K a6p nl J) ?_
   refine k7 (C7 J J J) (λhg=>oF J b13 J)<|k7 (C7 J J J) (λhg=>oS (ct hg) J J x6 J)<|z7 h λv17 hv16 h=>k7 (C7 J J J) (λhg=>G7 J a3M (F8 (ct hg) (F8 (ct hg) J)) (G8 hv16 hg))<|k7 (C7 J J J) (λhg=>a1s (ct hg) J)<|k7 (C7 J J J) (λhg=>om (d:=.bool (!v17)) (ct hg))<|k7 (C7 J J J) (λhg=>oF J b39 J)<|k7 (C7 J J J) (λhg=>oL (ct hg) J J c4Z c5d nl J)<|k7 (C7 J J J) (λhg=>mI J)<|z7 h λv18 hv17 h=>k7 (C7 J J J) (λhg=>G7 J b8g (F8 (ct hg) (F8 (ct hg) J)) (G8 hv17 hg))<|k7 (C7 J J J) (λhg=>x8 (ct hg) J J (λq=>b0D hg (U0 q)))<|k7 J (λhg=>y8 (ct hg) J J (λq=>b0D hg (eqT q)))<|y0 J (x8 J J J (λq=>U0 q))<|yN ?_;refine cN h (λhc h=>?_) λhc h=>?_
   ·refine S4 1 J ?_;refine b9 ?_;have h:=xL hx12 h;cases h;exact f1
   ·refine c5 ?_;refine S6 3 J ?_;exact eL h W
  ·refine p6 ?_;refine c7<|c7<|k9 ?_;have h:=xL hx12 h;exact eJ h W

theorem b5Z{a0 a1}:PO Tryz.prog 139 [.I a0,.I a1] (b0m a0 a1) λr=>.I r:=by
 refine pO Tryz.func139 λr h _ _=>?_;refine S4 1 J<|S3 2 J<|cA h a8a J J λv1 _ h=>S2 1 J<|b9 ?_;cases h;exact f1

theorem b51{a0 a1}:PO Tryz.prog 140 [.L u9.Pv a0,.I a1] (a6W a0 a1) λr=>.I r:=by
 refine pO Tryz.func140 λr h _ _=>?_;refine S4 1 J<|S4 1 J ?_;refine jq h (λj11=>St.of [(5,.I j11)] []) (λj11 h=>?_) λκ10 h=>?_
 ·refine S4 2 J ?_;refine b9 ?_;cases h;exact f1
 ·refine S4 1 J ?_;refine g6<|lq h (λq=>St.of [(0,.L u9.Pv a0),(1,.I a1),(5,.I q.1),(6,.I q.2)] []) W λq16 x15 h hx10=>?_;obtain⟨s13,s14⟩:=q16;refine g7<|S3 2 J<|nL J a7L<|S2 1 J ?_;refine cN h (λhc h=>?_) λhc h=>?_
  ·refine c5 ?_;refine jq h (λj19=>St.of [(0,.L u9.Pv a0),(1,.I a1),(5,.I j19),(6,.I s14)] []) (λj19 h=>?_) λκ18 h=>?_
   ·refine S6 3 J ?_;exact eL h W
   ·refine g6 ?_;refine S3 2 J<|iL h J J a7L b0z λv20 _ h=>S1 5 J<|k7 J (λhg=>mI J)<|k7 J (λhg=>s6 (ct hg) J J)<|y0 J (y8 J J J (λq=>eqT q))<|yN ?_;refine cN h (λhc h=>?_) λhc h=>?_
    ·refine S6 3 J ?_;exact eJ h W
    ·refine c5 ?_;exact eJ h W
  ·refine p6 ?_;refine c7<|c7<|k9 ?_;have h:=xL hx10 h;exact eJ h W

theorem b8m{a0}:PO Tryz.prog 81 [g8.Pv a0] (a88 a0) λr=>.bool r:=by
 refine pO Tryz.func81 λr h _ _=>?_;refine S4 2 J ?_;refine jq h (λ_=>St.of [] []) (λq13 h=>?_) λκ12 h=>?_
 ·refine S4 1 J ?_;refine b9 ?_;cases h;exact f1
 ·refine S4 1 J ?_;refine g6<|lq h (λs15=>St.of [(1,.ptr 1 0 0),(3,.I s15)] [(1,vR (g8.Pv a0) 8)]) W λs15 x16 h hx14=>g7<|S3 4 J<|nL J Y6<|S2 1 J ?_;refine cN h (λhc h=>?_) λhc h=>?_
  ·refine c5 ?_;refine jq h (λ_=>St.of [(1,.ptr 1 0 0),(3,.I s15)] [(1,vR (g8.Pv a0) 8)]) (λq21 h=>?_) λκ20 h=>?_
   ·refine S6 3 J ?_;exact eL h W
   ·refine g6 ?_;refine S3 4 J<|iL h J J Y6 Z3 λv22 _ h=>S2 3 J<|g7<|S3 4 J<|k7 J (λhg=>oF J b11 J)<|k7 J (λhg=>oS (ct hg) J J x6 J)<|k7 J (λhg=>s6 (ct hg) J J)<|y0 J (y8 J J J (λq=>eqT q))<|yN ?_;refine cN h (λhc h=>?_) λhc h=>?_
    ·refine p6 ?_;refine c7<|k9 ?_;exact eJ h W
    ·refine c5 ?_;refine S3 3 J<|cA h b5Z J J λv23 _ h=>S2 1 J<|dr [] w9 (by kernel_rfl) (by kernel_rfl)<|S7 6 J<|z7 h λv24 hv21 h=>d2 J (G7 J b51 J hv21) J<|S7 2 J<|z6 J (λhg _ hN=>oF J b11 J) J<|D1 J (λhg=>oS (ct hg) J J x6 J) J<|z6 J (λhg _ hN=>s6 (ct hg) J J) J<|z6 J (λhg _ hN=>om (d:=.bool (v22.State==2)) (ct hg)) J<|z6 (C7 J J J) (λhg _ hN=>oF J a3U J) J<|z6 (C7 J J J) (λhg _ hN=>oF (ct hg) b4b J) J<|D1 (C7 J J J) (λhg=>oS (ct hg) J J x6 J) J<|z6 (C7 J J J) (λhg _ hN=>s6 (ct hg) J J) J<|z6 (C7 J J J) (λhg _ hN=>om (d:=.bool (decide (v22.Val.Weak<1))) (ct hg)) J<|z6 (C7 J J J) (λhg _ hN=>oF J a3U J) J<|z6 (C7 J J J) (λhg _ hN=>oF (ct hg) b4d J) J<|D1 (C7 J J J) (λhg=>oS (ct hg) J J a7J J) J<|D1 (C7 J J J) (λhg=>Z8 (f:=iF) (ct hg) l4) J<|z6 (C7 J J J) (λhg _ hN=>s6 (ct hg) J J) J<|z6 (C7 J J J) (λhg _ hN=>x8 (ct hg) J J (λq=>b0D hg (U0 q))) J<|z6 (C7 J J J) (λhg _ hN=>om (d:=.bool ((decide (v22.Val.Weak<1))||(decide ((v22.Val.Fields.length:Int) > 0)))) (ct hg)) J<|z6 (C7 J J J) (λhg _ hN=>oF J a3U J) J<|z6 (C7 J J J) (λhg _ hN=>oF (ct hg) b4a J) J<|D1 (C7 J J J) (λhg=>oS (ct hg) J J x6 J) J<|z6 (C7 J J J) (λhg _ hN=>s6 (ct hg) J J) J<|z6 (C7 J J J) (λhg _ hN=>x8 (ct hg) J J (λq=>b0D hg (U0 q))) J<|z6 J (λhg _ hN=>y8 (ct hg) J J (λq=>b0D hg (eqT q))) J<|d7 J (λ_ hN=>x8 J J J (λq=>U0 q)) J<|Q0 ?_
     refine cN h (λhc h=>?_) λhc h=>?_
     ·refine S4 1 J ?_;refine b9 ?_;have h:=xL hx14 h;cases h;exact f1
     ·refine c5 ?_;exact eJ h W
  ·refine p6 ?_;refine c7<|c7<|k9 ?_;have h:=xL hx14 h;exact eJ h W

theorem b99{a0}:PO Tryz.prog 144 [y7.Pv a0] (a8h a0) λr=>.L iF r:=by
 refine pO Tryz.func144 λr h _ _=>?_;refine S4 2 J<|sR<|y0 J (P1 J l4 o8)<|S2 1 J ?_;refine jq h (λj13=>St.of [(3,.sl 910003)] [(910003,⟨List.map iF j13,(List.map iF j13).length,true,1,true⟩)]) (λj13 h=>?_) λκ12 h=>?_
 ·refine S4 2 J ?_;refine b9 ?_;cases h;exact f1
 ·refine S4 1 J ?_;refine g6<|lq h (λq=>St.of [(1,.ptr 1 0 0),(3,.sl 910003),(4,.I q.1)] [(1,vR (y7.Pv a0) 2),(910003,⟨List.map iF q.2,(List.map iF q.2).length,true,1,true⟩)]) (Wk.trans (I7 (t:=3) (l:=920003) (z:=1) J J) (WP (λl=>if l=910003 then 920003 else l))) λq18 x17 h hx12=>?_
  obtain⟨s15,s16⟩:=q18;refine g7<|S3 3 J<|nL J a1E<|S2 1 J ?_;refine cN h (λhc h=>?_) λhc h=>?_
  ·refine c5 ?_;refine jq h (λj22=>St.of [(1,.ptr 1 0 0),(3,.sl 28),(4,.I s15)] [(28,⟨List.map iF j22,(List.map iF j22).length,true,1,true⟩),(1,vR (y7.Pv a0) 2)]) (λj22 h=>?_) λκ21 h=>?_
   ·refine S6 3 J ?_;exact eL h (Wk.trans (p7 _ [28]) (WP (λl=>if l=910003 then 28 else l)))
   ·refine g6 ?_;refine S3 3 J<|iL h J J a1E a2N λv23 hv16 h=>S2 3 J ?_;refine cN h (λhc h=>?_) λhc h=>?_
    ·refine S5 4 J ?_;refine y0 J (D2 (f:=w7.Pv) (cs:=w7.Pc v23) hv16 J J a1E a2N J J)<|S1 2 J<|y0 J (L1 (f:=iF) (l:=[v23.At]) J l4 o8 C2 J J nl J J)<|z7 h λv24 hv17 h=>R2 J (O4 (f:=iF) hv17 J J J J J J (.inl ⟨_,J,J⟩) l4 o8 O7 C2 J (λ_=>J)) J J J<|S2 1 J ?_;exact eJ h (Wk.trans (p7 _ [28]) W)
    ·refine c5 ?_;exact eJ h (Wk.trans (p7 _ [910003]) (WP (λl=>if l=28 then 910003 else l)))
  ·refine p6 ?_;refine c7<|c7<|k9 ?_;have h:=xL hx12 h;exact eJ h (Wk.trans (p7 _ [910003]) W)

theorem b8h{a0}:PO Tryz.prog 83 [g8.Pv a0] (a84 a0) λr=>.L iF r:=by
 refine pO Tryz.func83 λr h _ _=>?_;refine S4 2 J<|sR<|y0 J (P1 J l4 o8)<|S2 1 J ?_;refine jq h (λj13=>St.of [(1,.ptr 1 0 0),(3,.sl 910003)] [(910003,⟨List.map iF j13,(List.map iF j13).length,true,1,true⟩),(1,vR (g8.Pv a0) 8)]) (λj13 h=>?_) λκ12 h=>?_
 ·refine S3 3 J ?_;refine cF h b99 J J λv14 _ h=>z7 h λv15 hv11 h=>R2 J (O4 (f:=iF) hv11 J J J J J J (.inl ⟨_,J,J⟩) l4 o8 O7 C2 J (λ_=>J)) J J J<|S2 1 J<|b9 ?_;cases h;exact f1
 ·refine S4 1 J ?_;refine g6<|lq h (λq=>St.of [(1,.ptr 1 0 0),(3,.sl 910003),(4,.I q.1)] [(1,vR (g8.Pv a0) 8),(910003,⟨List.map iF q.2,(List.map iF q.2).length,true,1,true⟩)]) (Wk.trans (I7 (t:=3) (l:=920003) (z:=1) J J) (WP (λl=>if l=910003 then 920003 else l))) λq20 x19 h hx14=>?_
  obtain⟨s17,s18⟩:=q20;refine g7<|S3 3 J<|nL J l4<|S2 1 J ?_;refine cN h (λhc h=>?_) λhc h=>?_
  ·refine c5 ?_;refine jq h (λj24=>St.of [(1,.ptr 1 0 0),(3,.sl 26),(4,.I s17)] [(26,⟨List.map iF j24,(List.map iF j24).length,true,1,true⟩),(1,vR (g8.Pv a0) 8)]) (λj24 h=>?_) λκ23 h=>?_
   ·refine S6 3 J ?_;exact eL h (Wk.trans (p7 _ [26]) (WP (λl=>if l=910003 then 26 else l)))
   ·refine g6 ?_;refine S3 3 J<|iL h J J l4 o8 λv25 hv18 h=>S2 2 J ?_;refine cN h (λhc h=>?_) λhc h=>?_
    ·refine S5 4 J ?_;refine y0 J (D2 (f:=iF) (cs:=[.I v25]) hv18 J J l4 o8 J J)<|S1 1 J<|y0 J (L1 (f:=iF) (l:=[v25]) J l4 o8 C2 J J nl J J)<|z7 h λv26 hv19 h=>R2 J (O4 (f:=iF) hv19 J J J J J J (.inl ⟨_,J,J⟩) l4 o8 O7 C2 J (λ_=>J)) J J J<|S2 1 J ?_;exact eJ h (Wk.trans (p7 _ [26]) W)
    ·refine c5 ?_;exact eJ h (Wk.trans (p7 _ [910003]) (WP (λl=>if l=26 then 910003 else l)))
  ·refine p6 ?_;refine c7<|c7<|k9 ?_;have h:=xL hx14 h;exact eJ h (Wk.trans (p7 _ [910003]) W)

theorem b73{a0}:PO Tryz.prog 39 [.I a0] (a0B a0) λr=>.bool r:=by
 refine pO Tryz.func39 λr h _ _=>?_;unfold a0B at h;refine S4 1 J<|S4 3 J<|b9 ?_;cases h;exact f1

theorem b8f{a0 a1}:PO Tryz.prog 141 [m9.Pv a0,.I a1] (a5W a0 a1) λr=>.bool r:=by
 refine pO Tryz.func141 λr h _ _=>?_;refine S4 2 J<|S3 2 J<|cF h a1f J J λv1 _ h=>S2 6 J<|S3 2 J<|cA h b73 J J λv2 _ h=>S2 1 J<|b9 ?_;cases h;exact f1

theorem b74{a0}:PO Tryz.prog 187 [.L iF a0] (a2A a0) λr=>.L iF r:=by
 refine pO Tryz.func187 λr h _ _=>?_;refine S4 1 J<|sR<|y0 J (P1 J l4 o8)<|S2 1 J ?_;refine jq h (λj13=>St.of [(3,.sl 910003)] [(910003,⟨List.map iF j13,(List.map iF j13).length,true,1,true⟩)]) (λj13 h=>?_) λκ12 h=>?_
 ·refine S4 2 J ?_;refine b9 ?_;cases h;exact f1
 ·refine S4 1 J ?_;refine g6<|lq h (λq=>St.of [(0,.L iF a0),(3,.sl 910003),(4,.I q.1)] [(910003,⟨List.map iF q.2,(List.map iF q.2).length,true,1,true⟩)]) (Wk.trans (I7 (t:=3) (l:=920003) (z:=1) J J) (WP (λl=>if l=910003 then 920003 else l))) λq18 x17 h hx12=>?_
  obtain⟨s15,s16⟩:=q18;refine g7<|S3 2 J<|nL J l4<|S2 1 J ?_;refine cN h (λhc h=>?_) λhc h=>?_
  ·refine c5 ?_;refine jq h (λj22=>St.of [(0,.L iF a0),(3,.sl 23),(4,.I s15)] [(23,⟨List.map iF j22,(List.map iF j22).length,true,1,true⟩)]) (λj22 h=>?_) λκ21 h=>?_
   ·refine S6 3 J ?_;exact eL h (Wk.trans (p7 _ [23]) (WP (λl=>if l=910003 then 23 else l)))
   ·refine g6 ?_;refine S3 2 J<|iL h J J l4 o8 λv23 hv16 h=>S2 2 J ?_;refine cN h (λhc h=>?_) λhc h=>?_
    ·refine S5 3 J ?_;refine y0 J (D2 (f:=iF) (cs:=[.I v23]) hv16 J J l4 o8 J J)<|S1 1 J<|y0 J (L1 (f:=iF) (l:=[v23]) J l4 o8 C2 J J nl J J)<|z7 h λv24 hv17 h=>R2 J (O4 (f:=iF) hv17 J J J J J J (.inl ⟨_,J,J⟩) l4 o8 O7 C2 J (λ_=>J)) J J J<|S2 1 J ?_;exact eJ h (Wk.trans (p7 _ [23]) W)
    ·refine c5 ?_;exact eJ h (Wk.trans (p7 _ [910003]) (WP (λl=>if l=23 then 910003 else l)))
  ·refine p6 ?_;refine c7<|c7<|k9 ?_;have h:=xL hx12 h;exact eJ h (Wk.trans (p7 _ [910003]) W)

theorem c1I{a0 a1}:PO Tryz.prog 228 [m9.Pv a0,.I a1] (b1p a0 a1) λr=>.L iF r:=by
 refine pO Tryz.func228 λr h _ _=>?_;refine S4 2 J<|S3 2 J<|cF h a1f J J λv1 _ h=>S2 6 J<|g7<|S4 2 J ?_;refine cN h (λhc h=>?_) λhc h=>?_
 ·refine S4 1 J ?_;refine b9 ?_;cases h;exact f1
 ·refine c5 ?_;refine S3 2 J<|cF h b74 J J λv2 _ h=>S2 1 J<|b9 ?_;cases h;exact f1

theorem b1q{a0 a1}:PO Tryz.prog 143 [.L iF a0,.I a1] (a1t a0 a1) λr=>.I r:=by
 refine pO Tryz.func143 λr h _ _=>?_;refine S4 1 J<|S4 1 J ?_;refine jq h (λj11=>St.of [(5,.I j11)] []) (λj11 h=>?_) λκ10 h=>?_
 ·refine S4 2 J ?_;refine b9 ?_;cases h;exact f1
 ·refine S4 1 J ?_;refine g6<|lq h (λq=>St.of [(0,.L iF a0),(1,.I a1),(5,.I q.1),(6,.I q.2)] []) W λq16 x15 h hx10=>?_;obtain⟨s13,s14⟩:=q16;refine g7<|S3 2 J<|nL J l4<|S2 1 J ?_;refine cN h (λhc h=>?_) λhc h=>?_
  ·refine c5 ?_;refine jq h (λj19=>St.of [(0,.L iF a0),(1,.I a1),(5,.I j19),(6,.I s14)] []) (λj19 h=>?_) λκ18 h=>?_
   ·refine S6 3 J ?_;exact eL h W
   ·refine g6 ?_;refine S3 2 J<|iL h J J l4 o8 λv20 _ h=>S1 4 J<|k7 J (λhg=>mI J)<|k7 J (λhg=>s6 (ct hg) J J)<|y0 J (y8 J J J (λq=>eqT q))<|yN ?_;refine cN h (λhc h=>?_) λhc h=>?_
    ·refine S6 3 J ?_;exact eJ h W
    ·refine c5 ?_;exact eJ h W
  ·refine p6 ?_;refine c7<|c7<|k9 ?_;have h:=xL hx10 h;exact eJ h W

theorem c4y{a0 a1}:PO Tryz.prog 295 [m9.Pv a0,.I a1] (b78 a0 a1) λr=>.I r:=by
 refine pO Tryz.func295 λr h _ _=>?_;refine S4 2 J<|S4 1 J<|S3 1 J<|cF h a5b J J λv1 _ h=>S2 1 J ?_;refine jq h (λj11=>St.of [(5,.I j11)] []) (λj11 h=>?_) λκ10 h=>?_
 ·refine S4 2 J ?_;refine b9 ?_;cases h;exact f1
 ·refine S4 1 J ?_;refine g6<|lq h (λq=>St.of [(1,.I a1),(2,.ptr 2 0 0),(5,.I q.1),(6,.L iF v1),(7,.I q.2)] [(2,vR (m9.Pv a0) 3)]) W λq16 x15 h hx11=>?_;obtain⟨s13,s14⟩:=q16;refine g7<|S3 2 J<|nL J l4<|S2 1 J ?_;refine cN h (λhc h=>?_) λhc h=>?_
  ·refine c5 ?_;refine g7<|g6<|b0k [] w9 (by kernel_rfl) (by kernel_rfl)<|S7 4 J<|z7 h λv17 hv12 h=>d0 J (D2 (f:=iF) (cs:=[.I v17]) hv12 J J l4 o8 J J) J<|S7 1 J<|z7 h λv18 hv13 h=>d2f J (A5 J c1I J hv13) J<|S7 1 J<|z7 h λv19 hv14 h=>d2 J (G7 J b1q J hv14) J<|S8 2 J<|S6 3 J ?_
   exact eL h W
  ·refine p6 ?_;refine c7<|c7<|k9 ?_;have h:=xL hx11 h;exact eJ h W

theorem b8c{a0 a1}:PO Tryz.prog 296 [.L m7.Pv a0,.I a1] (a81 a0 a1) λr=>.I r:=by
 refine pO Tryz.func296 λr h _ _=>?_;refine S4 1 J<|S4 1 J<|S3 1 J<|cF h b1u J J λv1 _ h=>S2 1 J ?_;refine jq h (λj12=>St.of [(5,.I j12)] []) (λj12 h=>?_) λκ11 h=>?_
 ·refine S4 2 J ?_;refine b9 ?_;cases h;exact f1
 ·refine S4 1 J ?_;refine g6<|lq h (λq=>St.of [(1,.I a1),(5,.I q.1),(6,.L D3.Pv v1),(7,.I q.2)] []) W λq17 x16 h hx11=>?_;obtain⟨s14,s15⟩:=q17;refine g7<|S3 2 J<|nL J a4N<|S2 1 J ?_;refine cN h (λhc h=>?_) λhc h=>?_
  ·refine c5 ?_;refine jq h (λj20=>St.of [(1,.I a1),(5,.I j20),(6,.L D3.Pv v1),(7,.I s15)] []) (λj20 h=>?_) λκ19 h=>?_
   ·refine S6 3 J ?_;exact eL h W
   ·refine g6 ?_;refine S3 2 J<|iL h J J a4N a8H λv21 _ h=>S1 5 J<|k7 J (λhg=>mI J)<|k7 J (λhg=>s6 (ct hg) J J)<|y0 J (y8 J J J (λq=>eqT q))<|yN ?_;refine cN h (λhc h=>?_) λhc h=>?_
    ·refine S6 3 J ?_;exact eJ h W
    ·refine c5 ?_;exact eJ h W
  ·refine p6 ?_;refine c7<|c7<|k9 ?_;have h:=xL hx11 h;exact eJ h W

theorem b8e{a0 a1 a2}:PO Tryz.prog 226 [m9.Pv a0,.L m7.Pv a1,.I a2] (a83 a0 a1 a2) λr=>.I r:=by
 refine pO Tryz.func226 λr h _ _=>?_;refine S4 2 J<|S3 2 J<|cA h c4y J J λv1 _ h=>S1 2 J<|cA h b8c J J λv2 _ h=>S2 2 J<|b9 ?_;cases h;exact f1

theorem b98{a0 a1 a2}:PO Tryz.prog 142 [m9.Pv a0,.L m7.Pv a1,.I a2] (a8g a0 a1 a2) λr=>.I r:=by
 refine pO Tryz.func142 λr h _ _=>?_;refine S4 2 J<|S3 2 J<|cF h a1f J J λv1 _ h=>S2 6 J<|g7<|S4 2 J ?_;refine cN h (λhc h=>?_) λhc h=>?_
 ·refine S4 1 J ?_;refine b9 ?_;cases h;exact f1
 ·refine c5 ?_;refine dr [] w9 (by kernel_rfl) (by kernel_rfl)<|S7 5 J<|z7 h λv2 hv2 h=>d2 J (G7 J b8e J hv2) J<|S8 2 J<|b9 ?_
  cases h;exact f1

theorem b97{a0 a1 a2}:PO Tryz.prog 82 [m9.Pv a0,.L m7.Pv a1,.L iF a2] (b1w a0 a1 a2) λr=>.bool r:=by
 refine pO Tryz.func82 λr h _ _=>?_;refine S4 2 J<|S3 1 J<|cF h a5b J J λv1 _ h=>S2 1 J ?_;refine jq h (λ_=>St.of [] []) (λq10 h=>?_) λκ9 h=>?_
 ·refine S4 1 J ?_;refine b9 ?_;cases h;exact f1
 ·refine S4 1 J ?_;refine g6<|lq h (λs12=>St.of [(1,.L m7.Pv a1),(2,.L iF a2),(3,.ptr 3 0 0),(7,.L iF v1),(8,.I s12)] [(3,vR (m9.Pv a0) 3)]) W λs12 x13 h hx12=>g7<|S3 2 J<|nL J l4<|S2 1 J ?_;refine cN h (λhc h=>?_) λhc h=>?_
  ·refine c5 ?_;refine g7<|g6<|dr [] w9 (by kernel_rfl) (by kernel_rfl)<|S7 3 J<|z7 h λv14 hv13 h=>d0 J (D2 (f:=iF) (cs:=[.I v14]) hv13 J J l4 o8 J J) J<|S7 1 J<|z7 h λv15 hv14 h=>d2 J (G7 J b8f J hv14) J<|S7 2 J<|D1 J (λhg=>oL J J J c0O c0S nl J) J<|z6 J (λhg _ hN=>om (d:=.L m7.Pv a1) J) J<|z6 J (λhg _ hN=>om (d:=.L iF v1) J) J<|z6 J (λhg _ hN=>mI J) J<|D1 J (λhg=>D2 (f:=iF) (cs:=[.I v14]) hv13 (ct hg) (ct hg) l4 o8 J J) J<|D1 J (λhg=>G3 (ct hg) x6 J) J<|z7 h λv16 hv15 h=>b0M J (λhg=>G7 J b98 (F8 (ct hg) (F8 (ct hg) (F8 (ct hg) J))) (G8 hv15 hg)) J<|z6 J (λhg _ hN=>om (d:=.L iF a2) J) J<|z6 J (λhg _ hN=>om (d:=.L iF v1) J) J<|z6 J (λhg _ hN=>mI J) J<|D1 J (λhg=>D2 (f:=iF) (cs:=[.I v14]) hv13 (ct hg) (ct hg) l4 o8 J J) J<|D1 J (λhg=>G3 (ct hg) x6 J) J<|z7 h λv17 hv16 h=>b0M J (λhg=>G7 J b1q (F8 (ct hg) (F8 (ct hg) J)) (G8 hv16 hg)) J<|z6 J (λhg _ hN=>s6 (ct hg) (ct hg) J) J<|d7 J (λ_ hN=>y8 J J J (λq=>eqT q)) J<|Q0 ?_
   refine cN h (λhc h=>?_) λhc h=>?_
   ·refine S4 1 J ?_;refine b9 ?_;have h:=xL hx12 h;cases h;exact f1
   ·refine c5 ?_;refine S6 3 J ?_;exact eL h W
  ·refine p6 ?_;refine c7<|c7<|k9 ?_;have h:=xL hx12 h;exact eJ h W

theorem b8i{a0}:PO Tryz.prog 36 [g8.Pv a0] (a5Y a0) λr=>.bool r:=by
 refine pO Tryz.func36 λr h _ _=>?_;refine S4 2 J<|g7<|S3 2 J<|cA h b77 J J λv1 _ h=>S1 2 J<|k7 J (λhg=>oF J b9c J)<|k7 J (λhg=>oS (ct hg) J J c4Y J)<|z7 h λv2 hv2 h=>k7 J (λhg=>G7 J b8b (F8 (ct hg) J) (G8 hv2 hg))<|k7 J (λhg=>a1s (ct hg) J)<|y0 J (x8 J J J (λq=>U0 q))<|S1 1 J<|k7 J (λhg=>oF J c45 J)<|k7 J (λhg=>oS (ct hg) J J a7J J)<|k7 J (λhg=>Z8 (f:=iF) (ct hg) l4)<|k7 J (λhg=>s6 (ct hg) J J)<|y0 J (x8 J J J (λq=>U0 q))<|S1 1 J<|k7 J (λhg=>oF J c46 J)<|k7 J (λhg=>oS (ct hg) J J d06 J)<|k7 J (λhg=>Z8 (f:=u9.Pv) (ct hg) a7L)<|k7 J (λhg=>s6 (ct hg) J J)<|y0 J (x8 J J J (λq=>U0 q))<|yN ?_;refine cN h (λhc h=>?_) λhc h=>?_
 ·refine S4 1 J ?_;refine b9 ?_;cases h;exact f1
 ·refine c5 ?_;refine dr [] w9 (by kernel_rfl) (by kernel_rfl)<|S7 1 J<|z7 h λv3 hv3 h=>d2 J (G7 J b8l J hv3) J<|S7 1 J<|D1 J (λhg=>oL J J J a7K a6p nl J) J<|z7 h λv4 hv4 h=>b0M J (λhg=>G7 J b8k (F8 (ct hg) J) (G8 hv4 hg)) J<|d7 J (λ_ hN=>y8 J J J (λq=>eqT q)) J<|S7 1 J<|D1 J (λhg=>oL J J J a7K a6p nl J) J<|z7 h λv5 hv5 h=>b0M J (λhg=>G7 J b8j (F8 (ct hg) J) (G8 hv5 hg)) J<|d7 J (λ_ hN=>y8 J J J (λq=>eqT q)) J<|S7 1 J<|D1 J (λhg=>oL J J J a7K a6p nl J) J<|z7 h λv6 hv6 h=>b0M J (λhg=>G7 J b8m (F8 (ct hg) J) (G8 hv6 hg)) J<|d7 J (λ_ hN=>y8 J J J (λq=>eqT q)) J<|S7 1 J<|z6 J (λhg _ hN=>oF J c44 J) J<|D1 J (λhg=>oL (ct hg) J J c0O c0S nl J) J<|z6 J (λhg _ hN=>oF J b9c J) J<|D1 J (λhg=>oS (ct hg) J J c4Y J) J<|D1 J (λhg=>oL J J J a7K a6p nl J) J<|z7 h λv7 hv7 h=>b7l J (λhg=>A5 J b8h (F8 (ct hg) J) (G8 hv7 hg)) J<|z7 h λv8 hv8 h=>b0M J (λhg=>G7 J b97 (F8 (ct hg) (F8 (ct hg) (F8 (ct hg) J))) (G8 hv8 hg)) J<|d7 J (λ_ hN=>y8 J J J (λq=>eqT q)) J<|S8 1 J<|b9 ?_
  cases h;exact f1

theorem c0a{a0}:PO Tryz.prog 54 [g8.Pv a0] (a5Z a0) λr=>.L iF r:=by
 refine pO Tryz.func54 λr h _ _=>?_;refine S4 2 J<|sR<|y0 J (P1 J l4 o8)<|S2 1 J<|S3 2 J<|cF h a5b J J λv1 _ h=>S2 1 J ?_;refine jq h (λj16=>St.of [(3,.sl 910003)] [(910003,⟨List.map iF j16,(List.map iF j16).length,true,1,true⟩)]) (λj16 h=>?_) λκ15 h=>?_
 ·refine S4 2 J ?_;refine b9 ?_;cases h;exact f1
 ·refine S4 1 J ?_;refine g6<|lq h (λq=>St.of [(1,.ptr 1 0 0),(3,.sl 910003),(4,.L iF v1),(5,.I q.1)] [(1,vR (g8.Pv a0) 8),(910003,⟨List.map iF q.2,(List.map iF q.2).length,true,1,true⟩)]) (Wk.trans (I7 (t:=3) (l:=920003) (z:=1) J J) (WP (λl=>if l=910003 then 920003 else l))) λq21 x20 h hx15=>?_
  obtain⟨s18,s19⟩:=q21;refine g7<|S3 2 J<|nL J l4<|S2 1 J ?_;refine cN h (λhc h=>?_) λhc h=>?_
  ·refine c5 ?_;refine jq h (λj26=>St.of [(1,.ptr 1 0 0),(3,.sl 37),(4,.L iF v1),(5,.I s18)] [(37,⟨List.map iF j26,(List.map iF j26).length,true,1,true⟩),(1,vR (g8.Pv a0) 8)]) (λj26 h=>?_) λκ25 h=>?_
   ·refine S6 3 J ?_;exact eL h (Wk.trans (p7 _ [37]) (WP (λl=>if l=910003 then 37 else l)))
   ·refine g6 ?_;refine dr [] w9 (by kernel_rfl) (by kernel_rfl)<|S7 4 J<|z7 h λv27 hv20 h=>d0 J (D2 (f:=iF) (cs:=[.I v27]) hv20 J J l4 o8 J J) J<|S7 1 J<|z7 h λv28 hv21 h=>d2f J (A5 J a1f J hv21) J<|S7 4 J<|F2 (x':=D9.Pv v28.1) (cl':=true) J J (.inr J) b15<|S8 1 J<|S4 3 J ?_
    refine cN h (λhc h=>?_) λhc h=>?_
    ·refine S5 3 J ?_;refine y0 J (D2 (f:=iF) (cs:=[.I v27]) hv20 J J l4 o8 J J)<|S1 1 J<|y0 J (L1 (f:=iF) (l:=[v27]) J l4 o8 C2 J J nl J J)<|z7 h λv29 hv22 h=>R2 J (O4 (f:=iF) hv22 J J J J J J (.inl ⟨_,J,J⟩) l4 o8 O7 C2 J (λ_=>J)) J J J<|S2 1 J ?_;exact eJ h (Wk.trans (p7 _ [37]) W)
    ·refine c5 ?_;exact eJ h (Wk.trans (p7 _ [910003]) (WP (λl=>if l=37 then 910003 else l)))
  ·refine p6 ?_;refine c7<|c7<|k9 ?_;have h:=xL hx15 h;exact eJ h (Wk.trans (p7 _ [910003]) W)

theorem b47{a0}:PO Tryz.prog 19 [g8.Pv a0] (a5d a0) λr=>.bool r:=by
 refine pO Tryz.func19 λr h _ _=>?_;refine S4 2 J<|S3 1 J<|cF h c0a J J λv1 _ h=>nL J l4<|S2 2 J<|b9 ?_;cases h;exact f1

theorem w21_EngineTallies_ok{a0 a1 a2 a3}:PO Tryz.prog 6 [.int .u8 a0,.int .u8 a1,.L (Ls g9.Pv) a2,.L (Ls iF) a3] (a2c a0 a1 a2 a3) λr=>.bool r:=by
 refine pO Tryz.func6 λr h _ _=>?_;refine S4 1 J<|g7<|S3 1 J<|cA h c0A J J λv1 _ h=>S1 2 J<|k7 J (λhg=>om (d:=.L (Ls iF) a3) J)<|z7 h λv2 hv2 h=>k7 J (λhg=>G7 J b8T (F8 (ct hg) (F8 J J)) (G8 hv2 hg))<|k7 J (λhg=>a1s (ct hg) J)<|y0 J (x8 J J J (λq=>U0 q))<|S1 1 J<|z7 h λv3 hv3 h=>k7 J (λhg=>G7 J b1W J (G8 hv3 hg))<|k7 J (λhg=>a1s (ct hg) J)<|y0 J (x8 J J J (λq=>U0 q))<|yN ?_;refine cN h (λhc h=>?_) λhc h=>?_
 ·refine sR ?_;refine cA h b1W J J λv4 _ h=>S2 1 J<|b9 ?_;cases h;exact f1
 ·refine c5 ?_;refine S3 1 J<|y0 J (c6D J d0t d0s J)<|z7 h λv5 hv5 h=>y0 J (a3d J J hv5)<|S2 2 J<|S3 2 J<|y0 J (c6D J d0t d0s J)<|z7 h λv6 hv6 h=>y0 J (a3d J J hv6)<|S1 1 J<|cF h a2S J J λv7 _ h=>S2 6 J<|g7<|S4 2 J ?_;refine cN h (λhc h=>?_) λhc h=>?_
  ·refine S4 3 J ?_;refine b9 ?_;cases h;exact f1
  ·refine c5 ?_;refine jq h (λ_=>St.of [] []) (λq23 h=>?_) λκ22 h=>?_
   ·refine S4 1 J ?_;refine b9 ?_;cases h;exact f1
   ·refine S4 1 J ?_;refine g6<|lq h (λq=>St.of [(3,.L (Ls iF) a3),(9,.I (u5 (1+v5))),(10,.ptr 10 0 0),(12,.I q.1)] [(10,vR (n9.Pv q.2) 9)]) W λq28 x27 h hx23=>?_;obtain⟨s25,s26⟩:=q28;refine g7<|S3 2 J<|nL J a7M<|S2 1 J ?_;refine cN h (λhc h=>?_) λhc h=>?_
    ·refine c5 ?_;refine g7<|g6<|dr [] w9 (by kernel_rfl) (by kernel_rfl)<|S7 3 J<|z7 h λv29 hv24 h=>d0 J (D2 (f:=(Ls iF)) (cs:=[.L iF v29]) hv24 J J a7M a9Z J J) J<|S7 1 J<|z7 h λv30 hv25 h=>d2f J (A5 J b0N J hv25) J<|S7 5 J<|F2 (x':=n9.Pv v30.1) (cl':=true) J J (.inr J) T7<|F2 (x':=l7.Pv v30.2) (cl':=true) J J (.inl J) M8<|Q0<|S3 1 J<|cA h a7m J J λv31 _ h=>S2 2 J<|g7<|dr [] w9 (by kernel_rfl) (by kernel_rfl)<|S7 2 J<|z7 h λv32 hv27 h=>d2 J (G7 J c13 J hv27) J<|S7 2 J<|D1 J (λhg=>b4Q (m:=0) (k2:=0) J J J nl a9Y o8 J) J<|D1 J (λhg=>oS (ct hg) J J x6 J) J<|D1 J (λhg=>b4Q (m:=1) (k2:=1) J J J nl a9Y o8 J) J<|D1 J (λhg=>oS (ct hg) J J x6 J) J<|z6 J (λhg _ hN=>a3d (ct hg) (ct hg) J) J<|D1 J (λhg=>b4Q (m:=2) (k2:=2) J J J nl a9Y o8 J) J<|D1 J (λhg=>oS (ct hg) J J x6 J) J<|z6 J (λhg _ hN=>a3d (ct hg) (ct hg) J) J<|D1 J (λhg=>b4Q (m:=3) (k2:=3) J J J nl a9Y o8 J) J<|D1 J (λhg=>oS (ct hg) J J x6 J) J<|z6 J (λhg _ hN=>a3d (ct hg) (ct hg) J) J<|z6 J (λhg _ hN=>mI J) J<|z6 J (λhg _ hN=>s6 (ct hg) (ct hg) J) J<|d7 J (λ_ hN=>x8 J J J (λq=>U0 q)) J<|S7 1 J<|D1 J (λhg=>oL J J J a2n T7 nl J) J<|z7 h λv33 hv28 h=>b7l J (λhg=>A5 J a7l (F8 (ct hg) J) (G8 hv28 hg)) J<|D1 J (λhg=>Z8 (f:=iF) (ct hg) l4) J<|D1 J (λhg=>b4Q (m:=1) (k2:=1) J J J nl a9Y o8 J) J<|D1 J (λhg=>oS (ct hg) J J x6 J) J<|z6 J (λhg _ hN=>s6 (ct hg) (ct hg) J) J<|d7 J (λ_ hN=>x8 J J J (λq=>U0 q)) J<|S7 1 J<|z6 J (λhg _ hN=>oF J b36 J) J<|D1 J (λhg=>oL (ct hg) J J u6 p8 nl J) J<|z7 h λv34 hv29 h=>b7l J (λhg=>A5 J b29 (F8 (ct hg) J) (G8 hv29 hg)) J<|z7 h λv35 hv30 h=>b0M J (λhg=>G7 J b8i (F8 (ct hg) J) (G8 hv30 hg)) J<|z6 J (λhg _ hN=>a1s (ct hg) J) J<|d7 J (λ_ hN=>x8 J J J (λq=>U0 q)) J<|S7 1 J<|z6 J (λhg _ hN=>oF J b36 J) J<|D1 J (λhg=>oL (ct hg) J J u6 p8 nl J) J<|z7 h λv36 hv31 h=>b7l J (λhg=>A5 J b29 (F8 (ct hg) J) (G8 hv31 hg)) J<|z7 h λv37 hv32 h=>b0M J (λhg=>G7 J b47 (F8 (ct hg) J) (G8 hv32 hg)) J<|z6 J (λhg _ hN=>a1s (ct hg) J) J<|d7 J (λ_ hN=>x8 J J J (λq=>U0 q)) J<|Q0 ?_
     refine cN h (λhc h=>?_) λhc h=>?_
     ·refine S4 1 J ?_;refine b9 ?_;have h:=xL hx23 h;cases h;exact f1
     ·refine c5 ?_;refine S6 2 J<|S6 3 J ?_;exact eL h W
    ·refine p6 ?_;refine c7<|c7<|k9 ?_;have h:=xL hx23 h;exact eJ h W

end Go.Proofs.YtjlokngooekbcaaGreat.Ok
