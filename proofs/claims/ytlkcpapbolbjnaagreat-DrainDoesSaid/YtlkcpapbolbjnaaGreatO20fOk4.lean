/-
 The functions of the program do as the plain functions do.
-/
import Derived.Test.YtlkcpapbolbjnaaGreatO20fOk3
set_option linter.unusedVariables false
set_option linter.unusedSimpArgs false
set_option linter.unusedSectionVars false
namespace Go.Proofs.YtlkcpapbolbjnaaGreat.Ok
open Go Go.Pw Go.Sh Go.Proofs
set_option maxRecDepth 100000
set_option maxHeartbeats 4000000
theorem b8s{a0 a1}:PO Tryz.prog 266 [c7.Pv a0,p9.Pv a1] (a0P a0 a1) λr=>.tup [c7.Pv r.1,.I r.2.1,.I r.2.2]:=by
 refine pO Tryz.func266 λr h _ _=>?_;refine S4 5 J<|c5<|S3 4 J<|c8 J (λhg=>oF J c3B J)<|c8 J (λhg=>oS (ct hg) J J p8 J)<|c8 J (λhg=>m8 (ct hg) J J)<|y0 J (n9 J J J (λq=>K3 q))<|yN ?_;refine cN h (λhc h=>?_) λhc h=>?_
 ·refine S3 5 J ?_;refine cF h b3w J J λv1 _ h=>S2 6 J<|S4 5 J<|a8 ?_;cases h;exact⟨J,[_,_,_],⟨oL J J J y7 u6 nl J,⟨J,⟨J,tr⟩⟩⟩,J,io⟩
 ·refine b9 ?_;refine S4 3 J ?_;refine jq h (λj3=>St.of [(2,.ptr 2 0 0),(3,.ptr 3 0 0),(4,.ptr 4 0 0),(9,.I j3)] [(4,vR (.agg [.nl,.I 0,.I 0,.nl,.nl,.nl,.nl,.I 0]) 8),(3,vR (p9.Pv a1) 4),(2,vR (c7.Pv a0) 8)]) (λj3 h=>?_) λκ2 h=>?_
  ·refine S3 2 J ?_;refine cA h a68 J J λv4 _ h=>S2 5 J<|c5<|S4 2 J ?_;refine cN h (λhc h=>?_) λhc h=>?_
   ·refine S4 5 J ?_;refine a8 ?_;cases h;exact⟨J,[_,_,_],⟨oL J J J y7 u6 nl J,⟨J,⟨J,tr⟩⟩⟩,J,io⟩
   ·refine b9 ?_;refine c5<|S4 2 J<|g5<|S4 2 J ?_;refine cN h (λhc h=>?_) λhc h=>?_
    ·refine dr [] p6 (by kernel_rfl) (by kernel_rfl) ?_
     refine S7 7 J<|u5 h λv5 hv4 h=>d2 J (A0 J a5j J hv4) J<|u5 h λv6 hv5 h=>d2f J (y8 J b8j J hv5) J<|S7 4 J<|C9 (x':=c7.Pv v6.1) (cl':=true) J J (.inr J) u6<|S8 1 J<|dr [] p6 (by kernel_rfl) (by kernel_rfl)<|S7 4 J<|d2 J (A0 J a5j J hv4) J<|S7 1 J<|C9 (x':=c7.Pv v6.1) (cl':=true) J J (.inr J) u6<|S8 2 J<|a8 ?_
     cases h;exact⟨J,[_,_,_],⟨oL J J J y7 u6 nl J,⟨J,⟨J,tr⟩⟩⟩,J,io⟩
    ·refine S4 2 J ?_;refine cN h (λhc h=>?_) λhc h=>?_
     ·refine S3 6 J ?_;refine cF h b3w J J λv7 _ h=>S2 6 J<|S4 6 J<|a8 ?_;cases h;exact⟨J,[_,_,_],⟨oL J J J y7 u6 nl J,⟨J,⟨J,tr⟩⟩⟩,J,io⟩
     ·refine b9 ?_;refine dr [] p6 (by kernel_rfl) (by kernel_rfl)<|S7 5 J<|u5 h λv8 hv7 h=>d2 J (A0 J a5j J hv7) J<|u5 h λv9 hv8 h=>d2f J (y8 J c0a J hv8) J<|S7 4 J<|C9 (x':=c7.Pv v9.1) (cl':=true) J J (.inr J) u6<|S8 1 J<|dr [] p6 (by kernel_rfl) (by kernel_rfl)<|S7 4 J<|d2 J (A0 J a5j J hv7) J<|S7 1 J<|C9 (x':=c7.Pv v9.1) (cl':=true) J J (.inr J) u6<|S8 2 J<|a8 ?_
      cases h;exact⟨J,[_,_,_],⟨oL J J J y7 u6 nl J,⟨J,⟨J,tr⟩⟩⟩,J,io⟩
  ·refine S4 3 J ?_;refine cN h (λhc h=>?_) λhc h=>?_
   ·refine S6 3 J ?_;exact eJ h W
   ·refine b9 ?_;exact eJ h W

theorem b0e{a0 a1}:PO Tryz.prog 267 [c7.Pv a0,.I a1] (a2C a0 a1) λr=>.I r:=by
 refine pO Tryz.func267 λr h _ _=>?_;refine S4 2 J<|S3 3 J<|cF h E7 J J λv1 _ h=>S2 6 J<|S4 3 J<|a8 ?_;cases h;exact f1

theorem c1D{a0}:PO Tryz.prog 333 [.I a0] (b1N a0) λr=>.tup [.L iF r.1,.I r.2]:=by
 refine pO Tryz.func333 λr h _ _=>?_;refine S4 2 J<|c5<|S3 3 J<|c8 J (λhg=>mI J)<|c8 J (λhg=>m8 (ct hg) J J)<|y0 J (r8 J J J (λq=>K5 q))<|yN ?_;refine cN h (λhc h=>?_) λhc h=>?_
 ·refine S4 2 J ?_;refine a8 ?_;cases h;exact f2
 ·refine b9 ?_;refine S3 1 J<|u5 h λv1 hv1 h=>y1 J (b9O (f:=iF) hv1 J J J j5 n7 B9 J6 J J J) J<|S2 2 J<|a8 ?_;cases h;exact f2

theorem b9W{a0 a1}:PO Tryz.prog 334 [x8.Pv a0,.I a1] (a6b a0 a1) λr=>.tup [x8.Pv r.1,.I r.2.1,.I r.2.2]:=by
 refine pO Tryz.func334 λr h _ _=>?_;refine S4 4 J ?_;refine jq h (λ_=>St.of [(2,.ptr 2 0 0),(4,.ptr 4 0 0)] [(4,vR (.agg [.nl,.I 0]) 2),(2,vR (x8.Pv a0) 2)]) (λq8 h=>?_) λκ7 h=>?_
 ·refine S4 4 J ?_;refine a8 ?_;cases h;exact⟨J,[_,_,_],⟨oL J J J a3G a1G nl J,⟨J,⟨J,tr⟩⟩⟩,J,io⟩
 ·refine S4 1 J ?_;refine g5<|lq h (λs10=>St.of [(1,.I a1),(2,.ptr 2 0 0),(4,.ptr 4 0 0),(7,.I s10)] [(4,vR (.agg [.nl,.I 0]) 2),(2,vR (x8.Pv a0) 2)]) W λs10 x11 h hx10=>c5<|S3 3 J<|nL J M7<|S2 1 J ?_;refine cN h (λhc h=>?_) λhc h=>?_
  ·refine b9 ?_;refine c5<|g5<|S3 3 J<|iL h J J M7 Q8 λv12 hv11 h=>S2 3 J ?_;refine cN h (λhc h=>?_) λhc h=>?_
   ·refine S3 3 J ?_;refine y0 J (x5 (f:=x4.Pv) (cs:=x4.Pc v12) hv11 J J M7 Q8 J J)<|S2 3 J<|S3 4 J<|y0 J (o9 (cs:=[.I 1,.I v12.Gen,.I a1]) J b0Z a4Q J J J)<|cF h a5c J J λv13 _ h=>S1 2 J<|cA h a5b J J λv14 _ h=>S2 3 J<|a8 ?_;have h:=xL hx10 h;cases h;exact⟨J,[_,_,_],⟨oL J J J a3G a1G nl J,⟨J,⟨J,tr⟩⟩⟩,J,io⟩
   ·refine b9 ?_;refine S6 3 J ?_;exact eL h W
  ·refine l6 ?_;refine c4<|c4<|j1 ?_;have h:=xL hx10 h;exact eJ h W

theorem b9Z{a0 a1 a2}:PO Tryz.prog 268 [k7.Pv a0,.I a1,.I a2] (a13 a0 a1 a2) λr=>.tup [k7.Pv r.1,.I r.2.1,.I r.2.2]:=by
 refine pO Tryz.func268 λr h _ _=>?_;refine S4 4 J<|S3 1 J<|cF h c1D J J λv1 _ h=>S2 5 J<|c5<|S4 2 J ?_;refine cN h (λhc h=>?_) λhc h=>?_
 ·refine S4 5 J ?_;refine a8 ?_;cases h;exact⟨J,[_,_,_],⟨oL J J J a0b Y4 nl J,⟨J,⟨J,tr⟩⟩⟩,J,io⟩
 ·refine b9 ?_;refine c5<|S3 3 J<|c8 J (λhg=>mI J)<|c8 J (λhg=>m8 (ct hg) J J)<|y0 J (r8 J J J (λq=>K5 q))<|yN ?_;refine cN h (λhc h=>?_) λhc h=>?_
  ·refine S4 4 J ?_;refine a8 ?_;cases h;exact⟨J,[_,_,_],⟨oL J J J a0b Y4 nl J,⟨J,⟨J,tr⟩⟩⟩,J,io⟩
  ·refine b9 ?_;refine S3 1 J<|cF h L7 J J λv2 _ h=>cF h b9W J J λv3 _ h=>S2 8 J<|c5<|S4 2 J ?_;refine cN h (λhc h=>?_) λhc h=>?_
   ·refine S4 5 J ?_;refine a8 ?_;cases h;exact⟨J,[_,_,_],⟨oL J J J a0b Y4 nl J,⟨J,⟨J,tr⟩⟩⟩,J,io⟩
   ·refine b9 ?_;refine dr [] p6 (by kernel_rfl) (by kernel_rfl)<|S7 2 J<|u5 h λv4 hv4 h=>d2f J (y8 J a5E J hv4) J<|S7 1 J<|u5 h λv5 hv5 h=>d2 J (A0 J a8p J hv5) J<|S7 5 J<|d7 J (λ_ hN=>o9 (cs:=[.I (x6 (a0.Serial+1)),.I 0,.I 0,.I a2,.bool false,.L iF v1.1]) J b7s b7v J J J) J<|u5 h λv6 hv6 h=>d2f J (y8 J a8r J hv6) J<|S7 1 J<|C9 (x':=k7.Pv v6) (cl':=true) J J (.inr J) Y4<|N2<|S4 5 J<|S4 5 J<|a8 ?_
    cases h;exact⟨J,[_,_,_],⟨oL J J J a0b Y4 nl J,⟨J,⟨J,tr⟩⟩⟩,J,io⟩

theorem b7b{a0 a1}:PO Tryz.prog 269 [c7.Pv a0,.I a1] (b0G a0 a1) λr=>.I r:=by
 refine pO Tryz.func269 λr h _ _=>?_;refine S4 2 J<|c5<|S3 3 J<|c8 J (λhg=>mI J)<|c8 J (λhg=>m8 (ct hg) J J)<|y0 J (r8 J J J (λq=>K5 q))<|yN ?_;refine cN h (λhc h=>?_) λhc h=>?_
 ·refine S4 1 J ?_;refine a8 ?_;cases h;exact f1
 ·refine b9 ?_;refine dr [] p6 (by kernel_rfl) (by kernel_rfl)<|S7 4 J<|u5 h λv1 hv1 h=>d0 J (x5 (f:=iF) (cs:=[.I v1]) hv1 J J j5 n7 J J) J<|S7 1 J<|u5 h λv2 hv2 h=>d2 J (A0 J b0e J hv2) J<|S8 1 J<|a8 ?_
  cases h;exact f1

theorem b91{a0 a1}:PO Tryz.prog 336 [.L l5.Pv a0,.I a1] (a8s a0 a1) λr=>.tup [.I r.1,.I r.2]:=by
 refine pO Tryz.func336 λr h _ _=>?_;refine S4 2 J<|c5<|S3 3 J<|c8 J (λhg=>mI J)<|c8 J (λhg=>om (d:=.L l5.Pv a0) J)<|c8 J (λhg=>H9 (f:=l5.Pv) (ct hg) J9)<|c8 J (λhg=>m8 (ct hg) (ct hg) J)<|y0 J (r8 J J J (λq=>K5 q))<|yN ?_;refine cN h (λhc h=>?_) λhc h=>?_
 ·refine S4 2 J ?_;refine a8 ?_;cases h;exact f2
 ·refine b9 ?_;refine c5<|S3 2 J<|iL h J J J9 M9 λv1 hv1 h=>S1 4 J<|c8 J (λhg=>om (d:=.L l5.Pv a0) J)<|c8 J (λhg=>mI J)<|c8 J (λhg=>x5 (f:=l5.Pv) (cs:=l5.Pc v1) hv1 (ct hg) (ct hg) J9 M9 J J)<|c8 J (λhg=>A9 (ct hg) b2A J)<|c8 J (λhg=>F2 (ct hg) a20 J)<|c8 J (λhg=>U3 (ct hg) J)<|y0 J (r8 J J J (λq=>K5 q))<|yN ?_;refine cN h (λhc h=>?_) λhc h=>?_
  ·refine S4 2 J ?_;refine a8 ?_;cases h;exact f2
  ·refine b9 ?_;refine S3 2 J<|y0 J (x5 (f:=l5.Pv) (cs:=l5.Pc v1) hv1 J J J9 M9 J J)<|S2 4 J<|a8 ?_;cases h;exact f2

theorem c1J{a0 a1}:PO Tryz.prog 337 [.L j8.Pv a0,.I a1] (b1W a0 a1) λr=>.tup [.I r.1,.I r.2]:=by
 refine pO Tryz.func337 λr h _ _=>?_;refine S4 2 J<|S3 2 J<|cA h b0F J J λv1 _ h=>S2 4 J<|a8 ?_;cases h;exact f2

theorem b8r{a0 a1}:PO Tryz.prog 270 [c7.Pv a0,p9.Pv a1] (a1y a0 a1) λr=>.tup [.I r.1,.I r.2]:=by
 refine pO Tryz.func270 λr h _ _=>?_;refine S4 4 J<|c5<|S4 2 J<|g5<|S4 2 J ?_;refine cN h (λhc h=>?_) λhc h=>?_
 ·refine S3 4 J ?_;refine iL h J J j5 n7 λv1 _ h=>S2 3 J<|a8 ?_;cases h;exact f2
 ·refine S4 2 J ?_;refine cN h (λhc h=>?_) λhc h=>?_
  ·refine S3 3 J ?_;refine cA h a68 J J λv2 _ h=>S2 5 J<|c5<|S4 2 J ?_;refine cN h (λhc h=>?_) λhc h=>?_
   ·refine S4 3 J ?_;refine a8 ?_;cases h;exact f2
   ·refine b9 ?_;refine S3 5 J<|cA h b1O J J λv3 _ h=>S2 4 J<|a8 ?_;cases h;exact f2
  ·refine S4 2 J ?_;refine cN h (λhc h=>?_) λhc h=>?_
   ·refine S3 4 J ?_;refine cA h b91 J J λv4 _ h=>S2 4 J<|a8 ?_;cases h;exact f2
   ·refine S4 2 J ?_;refine cN h (λhc h=>?_) λhc h=>?_
    ·refine S3 3 J ?_;refine cA h a68 J J λv5 _ h=>S2 5 J<|c5<|S4 2 J ?_;refine cN h (λhc h=>?_) λhc h=>?_
     ·refine S4 3 J ?_;refine a8 ?_;cases h;exact f2
     ·refine b9 ?_;refine S3 3 J<|cA h c1J J J λv6 _ h=>S2 4 J<|a8 ?_;cases h;exact f2
    ·refine b9 ?_;refine S4 2 J<|a8 ?_;cases h;exact f2

theorem c4g{a0 a1}:PO Tryz.prog 191 [c7.Pv a0,p9.Pv a1] (C7 a0 a1) λr=>.tup [c7.Pv r.1,.I r.2.1,.I r.2.2]:=by
 refine pO Tryz.func191 λr h _ _=>?_;refine S4 5 J<|S3 1 J<|cA h b13 J J λv1 _ h=>S2 1 J<|c5<|S4 2 J ?_;refine cN h (λhc h=>?_) λhc h=>?_
 ·refine S4 5 J ?_;refine a8 ?_;cases h;exact⟨J,[_,_,_],⟨oL J J J y7 u6 nl J,⟨J,⟨J,tr⟩⟩⟩,J,io⟩
 ·refine b9 ?_;refine c5<|S3 1 J<|cA h b14 J J λv2 _ h=>S2 1 J ?_;refine cN h (λhc h=>?_) λhc h=>?_
  ·refine S4 4 J ?_;refine a8 ?_;cases h;exact⟨J,[_,_,_],⟨oL J J J y7 u6 nl J,⟨J,⟨J,tr⟩⟩⟩,J,io⟩
  ·refine b9 ?_;refine c5<|S4 2 J<|g5<|S4 2 J ?_;refine cN h (λhc h=>?_) λhc h=>?_
   ·refine c5 ?_;refine dr [] p6 (by kernel_rfl) (by kernel_rfl)<|S7 4 J<|u5 h λv3 hv3 h=>d0 J (x5 (f:=iF) (cs:=[.I v3]) hv3 J J j5 n7 J J) J<|S7 5 J<|u5 h λv4 hv4 h=>d0 J (x5 (f:=iF) (cs:=[.I v4]) hv4 J J j5 n7 J J) J<|S8 2 J ?_
    refine cN h (λhc h=>?_) λhc h=>?_
    ·refine S4 4 J ?_;refine a8 ?_;cases h;exact⟨J,[_,_,_],⟨oL J J J y7 u6 nl J,⟨J,⟨J,tr⟩⟩⟩,J,io⟩
    ·refine b9 ?_;refine S4 4 J<|a8 ?_;cases h;exact⟨J,[_,_,_],⟨oL J J J y7 u6 nl J,⟨J,⟨J,tr⟩⟩⟩,J,io⟩
   ·refine jq h (λj6=>St.of [(2,.ptr 2 0 0),(3,.ptr 3 0 0),(4,.ptr 4 0 0),(30,.I a1.Kind),(48,.bool j6)] [(4,vR (.agg [.nl,.I 0,.I 0,.nl,.nl,.nl,.nl,.I 0]) 8),(3,vR (p9.Pv a1) 4),(2,vR (c7.Pv a0) 8)]) (λj6 h=>?_) λκ5 h=>?_
    ·refine cN h (λhc h=>?_) λhc h=>?_
     ·refine S3 2 J ?_;refine cF h b8s J J λv7 _ h=>S2 8 J<|c5<|S4 2 J ?_;refine cN h (λhc h=>?_) λhc h=>?_
      ·refine S4 5 J ?_;refine a8 ?_;cases h;exact⟨J,[_,_,_],⟨oL J J J y7 u6 nl J,⟨J,⟨J,tr⟩⟩⟩,J,io⟩
      ·refine b9 ?_;refine dr [] p6 (by kernel_rfl) (by kernel_rfl)<|S7 1 J<|u5 h λv8 hv7 h=>d2f J (y8 J a1a J hv7) J<|S7 2 J<|u5 h λv9 hv8 h=>d2 J (A0 J b0e J hv8) J<|C9 (x':=c7.Pv v8) (cl':=true) J J (.inr J) u6<|S8 2 J<|a8 ?_
       cases h;exact⟨J,[_,_,_],⟨oL J J J y7 u6 nl J,⟨J,⟨J,tr⟩⟩⟩,J,io⟩
     ·refine S4 2 J ?_;refine cN h (λhc h=>?_) λhc h=>?_
      ·refine S3 6 J ?_;refine cF h b9Z J J λv10 _ h=>S2 8 J<|c5<|S4 2 J ?_;refine cN h (λhc h=>?_) λhc h=>?_
       ·refine S4 5 J ?_;refine a8 ?_;cases h;exact⟨J,[_,_,_],⟨oL J J J y7 u6 nl J,⟨J,⟨J,tr⟩⟩⟩,J,io⟩
       ·refine b9 ?_;refine S4 3 J<|S4 3 J<|S3 4 J<|cF h a5g J J λv11 _ h=>S2 4 J<|S3 1 J<|cF h a1a J J λv12 _ h=>S2 1 J<|dr [] p6 (by kernel_rfl) (by kernel_rfl)<|S7 4 J<|u5 h λv13 hv12 h=>d2 J (A0 J b7b J hv12) J<|C9 (x':=c7.Pv v12) (cl':=true) J J (.inr J) u6<|S8 2 J<|a8 ?_
        cases h;exact⟨J,[_,_,_],⟨oL J J J y7 u6 nl J,⟨J,⟨J,tr⟩⟩⟩,J,io⟩
      ·refine b9 ?_;refine S3 2 J<|cA h b8r J J λv14 _ h=>S2 5 J<|c5<|S4 2 J ?_;refine cN h (λhc h=>?_) λhc h=>?_
       ·refine S4 5 J ?_;refine a8 ?_;cases h;exact⟨J,[_,_,_],⟨oL J J J y7 u6 nl J,⟨J,⟨J,tr⟩⟩⟩,J,io⟩
       ·refine b9 ?_;refine S3 4 J<|cF h a5g J J λv15 _ h=>S2 6 J<|S3 1 J<|cF h a1a J J λv16 _ h=>S2 1 J<|dr [] p6 (by kernel_rfl) (by kernel_rfl)<|S7 4 J<|u5 h λv17 hv16 h=>d2 J (A0 J b7b J hv16) J<|C9 (x':=c7.Pv v16) (cl':=true) J J (.inr J) u6<|S8 2 J<|a8 ?_
        cases h;exact⟨J,[_,_,_],⟨oL J J J y7 u6 nl J,⟨J,⟨J,tr⟩⟩⟩,J,io⟩
    ·refine S4 2 J ?_;refine cN h (λhc h=>?_) λhc h=>?_
     ·refine b9 ?_;exact eJ h W
     ·refine S4 2 J ?_;refine cN h (λhc h=>?_) λhc h=>?_
      ·refine b9 ?_;exact eJ h W
      ·refine S6 2 J ?_;exact eJ h W

theorem c1M{a0 a1}:PO Tryz.prog 114 [c7.Pv a0,.L p9.Pv a1] (a5i a0 a1) λr=>.tup [c7.Pv r.1,.L iF r.2]:=by
 refine pO Tryz.func114 λr h _ _=>?_;refine S4 3 J<|sR<|y0 J (B5 J j5 n7)<|S2 1 J ?_;refine jq h (λq=>St.of [(2,.ptr 2 0 0),(4,.ptr 4 0 0),(6,.sl 910006)] [(910006,⟨List.map iF q.2,(List.map iF q.2).length,true,1,true⟩),(4,vR (.agg [.nl,.I 0,.I 0,.nl,.nl,.nl,.nl,.I 0]) 8),(2,vR (c7.Pv q.1) 8)]) (λq13 h=>?_) λκ10 h=>?_
 ·obtain⟨j11,j12⟩:=q13;refine S4 4 J<|a8 ?_;cases h;exact⟨J,[_,_],⟨oL J J J y7 u6 nl J,⟨J,tr⟩⟩,J,io⟩
 ·refine S4 1 J ?_;refine g5<|lq h (λq=>St.of [(1,.L p9.Pv a1),(2,.ptr 2 0 0),(4,.ptr 4 0 0),(6,.sl 910006),(7,.I q.1)] [(4,vR (.agg [.nl,.I 0,.I 0,.nl,.nl,.nl,.nl,.I 0]) 8),(2,vR (c7.Pv q.2.1) 8),(910006,⟨List.map iF q.2.2,(List.map iF q.2.2).length,true,1,true⟩)]) (Wk.trans (G1 (t:=6) (l:=920006) (z:=1) J J) (WP (λl=>if l=910006 then 920006 else l))) λq19 x18 h hx10=>?_
  obtain⟨s15,s16,s17⟩:=q19;refine c5<|S3 2 J<|nL J a36<|S2 1 J ?_;refine cN h (λhc h=>?_) λhc h=>?_
  ·refine b9 ?_;refine c5<|g5<|dr [] p6 (by kernel_rfl) (by kernel_rfl)<|S7 3 J<|u5 h λv20 hv11 h=>d0 J (x5 (f:=p9.Pv) (cs:=p9.Pc v20) hv11 J J a36 a6E J J) J<|S7 1 J<|u5 h λv21 hv12 h=>d2f J (y8 J c4g J hv12) J<|S7 5 J<|C9 (x':=c7.Pv v21.1) (cl':=true) J J (.inr J) u6<|S8 2 J<|S4 2 J<|S5 2 J<|y0 J (M3 (f:=iF) (l:=[v21.2.1]) J j5 n7 B9 J J nl J J)<|u5 h λv22 hv13 h=>J8 J (G8 (f:=iF) hv13 J J J J J J (.inl ⟨_,J,J⟩) j5 n7 J6 B9 J (λ_=>J)) J J J<|S2 1 J<|S6 3 J ?_
   exact eL h (Wk.trans (n8 _ [32]) (WP (λl=>if l=910006 then 32 else l)))
  ·refine l6 ?_;refine c4<|c4<|j1 ?_;have h:=xL hx10 h;exact eJ h (Wk.trans (n8 _ [910006]) W)

theorem b3z{a0 a1}:PO Tryz.prog 47 [c7.Pv a0,.L (Ls p9.Pv) a1] (a3g a0 a1) λr=>.tup [c7.Pv r.1,n0.Pv r.2.1,.I r.2.2]:=by
 refine pO Tryz.func47 λr h _ _=>?_;refine S4 4 J<|S3 2 J<|cF h b98 J J λv1 _ h=>S2 9 J<|c5<|S4 2 J ?_;refine cN h (λhc h=>?_) λhc h=>?_
 ·refine S3 1 J ?_;refine y0 J (o9 (cs:=[.I 0,.I 0,.I 0]) J b7t a6G J J J)<|S2 4 J<|a8 ?_;cases h;exact⟨J,[_,_,_],⟨oL J J J y7 u6 nl J,⟨oL J J J a6B H2 nl J,⟨J,tr⟩⟩⟩,J,io⟩
 ·refine b9 ?_;refine S4 3 J<|S4 3 J ?_;refine jq h (λj6=>St.of [(1,.L (Ls p9.Pv) a1),(4,.ptr 4 0 0),(5,.ptr 5 0 0),(8,.ptr 8 0 0),(10,.ptr 10 0 0)] [(10,vR (c7.Pv j6) 8),(8,vR (n0.Pv v1.2.1) 3),(5,vR (.agg [.I 0,.I 0,.I 0]) 3),(4,vR (.agg [.nl,.I 0,.I 0,.nl,.nl,.nl,.nl,.I 0]) 8)]) (λj6 h=>?_) λκ5 h=>?_
  ·refine dr [] p6 (by kernel_rfl) (by kernel_rfl) ?_
   refine S7 4 J<|u5 h λv7 hv6 h=>d2f J (y8 J a8z J hv6) J<|u5 h λv8 hv7 h=>d2f J (y8 J c1M J hv7) J<|S7 3 J<|C9 (x':=c7.Pv v8.1) (cl':=true) J J (.inr J) u6<|N2<|c5<|S4 3 J ?_;refine cN h (λhc h=>?_) λhc h=>?_
   ·refine S3 1 J ?_;refine cF h a5g J J λv9 _ h=>S2 4 J<|S5 1 J<|cF h a1a J J λv10 _ h=>S2 1 J<|dr [1,1008] p6 (by kernel_rfl) (by kernel_rfl)<|S7 1 J<|d7 J (λ_ hN=>b1B (cs:=n0.Pc v1.2.1) hN J J J J a6B H2 nl J) J<|C9 (x':=c7.Pv v10) (cl':=true) J J (.inr J) u6<|C9 (x':=n0.Pv v1.2.1) (cl':=true) J J (.inl J) H2<|S8 1 J<|a8 ?_
    cases h;exact⟨J,[_,_,_],⟨oL J J J y7 u6 nl J,⟨oL J J J a6B H2 nl J,⟨J,tr⟩⟩⟩,J,io⟩
   ·refine b9 ?_;refine dr [1,1008] p6 (by kernel_rfl) (by kernel_rfl)<|S7 1 J<|d7 J (λ_ hN=>b1B (cs:=n0.Pc v1.2.1) hN J J J J a6B H2 nl J) J<|C9 (x':=c7.Pv v8.1) (cl':=true) J J (.inr J) u6<|C9 (x':=n0.Pv v1.2.1) (cl':=true) J J (.inl J) H2<|S8 1 J<|a8 ?_
    cases h;exact⟨J,[_,_,_],⟨oL J J J y7 u6 nl J,⟨oL J J J a6B H2 nl J,⟨J,tr⟩⟩⟩,J,io⟩
  ·refine S4 3 J ?_;refine cN h (λhc h=>?_) λhc h=>?_
   ·refine S3 3 J ?_;refine cF h a5g J J λv11 _ h=>S2 4 J<|S5 3 J<|cF h a0s J J λv12 _ h=>cF h a1a J J λv13 _ h=>S2 1 J ?_;exact eJ h W
   ·refine b9 ?_;exact eJ h W

theorem b3r{a0 a1}:PO Tryz.prog 22 [.L iF a0,.L iF a1] (a4m a0 a1) λr=>.bool r:=by
 refine pO Tryz.func22 λr h _ _=>?_;refine S4 1 J<|c5<|S3 1 J<|nL J j5<|S1 1 J<|nL J j5<|S2 1 J ?_;refine cN h (λhc h=>?_) λhc h=>?_
 ·refine S4 1 J ?_;refine a8 ?_;cases h;exact f1
 ·refine b9 ?_;refine jq h (λ_=>St.of [] []) (λq7 h=>?_) λκ6 h=>?_
  ·refine S4 1 J ?_;refine a8 ?_;cases h;exact f1
  ·refine S4 1 J ?_;refine g5<|lq h (λs9=>St.of [(0,.L iF a0),(1,.L iF a1),(5,.I s9)] []) W λs9 x10 h hx9=>c5<|S3 2 J<|nL J j5<|S2 1 J ?_;refine cN h (λhc h=>?_) λhc h=>?_
   ·refine b9 ?_;refine c5<|g5<|dr [] p6 (by kernel_rfl) (by kernel_rfl)<|S7 2 J<|u5 h λv11 hv10 h=>d0 J (x5 (f:=iF) (cs:=[.I v11]) hv10 J J j5 n7 J J) J<|S7 3 J<|u5 h λv12 hv11 h=>d0 J (x5 (f:=iF) (cs:=[.I v12]) hv11 J J j5 n7 J J) J<|S8 2 J ?_
    refine cN h (λhc h=>?_) λhc h=>?_
    ·refine S4 1 J ?_;refine a8 ?_;have h:=xL hx9 h;cases h;exact f1
    ·refine b9 ?_;refine S6 3 J ?_;exact eL h W
   ·refine l6 ?_;refine c4<|c4<|j1 ?_;have h:=xL hx9 h;exact eJ h W

theorem b8b{a0 a1}:PO Tryz.prog 154 [B0.Pv a0,B0.Pv a1] (a6c a0 a1) λr=>.bool r:=by
 refine pO Tryz.func154 λr h _ _=>?_;unfold a6c at h;refine S4 3 J<|S3 6 J<|c8 J (λhg=>oF J a7X J)<|c8 J (λhg=>oS (ct hg) J J p8 J)<|c8 J (λhg=>oF J a7X J)<|c8 J (λhg=>oS (ct hg) J J p8 J)<|c8 J (λhg=>m8 (ct hg) (ct hg) J)<|y0 J (n9 J J J (λq=>K3 q))<|S1 1 J<|c8 J (λhg=>oF J a5M J)<|c8 J (λhg=>oS (ct hg) J J p8 J)<|c8 J (λhg=>oF J a5M J)<|c8 J (λhg=>oS (ct hg) J J p8 J)<|c8 J (λhg=>m8 (ct hg) (ct hg) J)<|y0 J (n9 J J J (λq=>K3 q))<|S1 1 J<|c8 J (λhg=>oF J a5N J)<|c8 J (λhg=>oS (ct hg) J J p8 J)<|c8 J (λhg=>oF J a5N J)<|c8 J (λhg=>oS (ct hg) J J p8 J)<|c8 J (λhg=>m8 (ct hg) (ct hg) J)<|y0 J (n9 J J J (λq=>K3 q))<|S1 1 J<|c8 J (λhg=>oF J a7Y J)<|c8 J (λhg=>oS (ct hg) J J a20 J)<|c8 J (λhg=>oF J a7Y J)<|c8 J (λhg=>oS (ct hg) J J a20 J)<|c8 J (λhg=>c9z (ct hg) (ct hg) c9b J)<|y0 J (n9 J J J (λq=>K3 q))<|S1 1 J ?_;refine c8 J (λhg=>oF J a7Z J)<|c8 J (λhg=>oS (ct hg) J J a0a J)<|c8 J (λhg=>oF J a7Z J)<|c8 J (λhg=>oS (ct hg) J J a0a J)<|u5 h λv1 hv1 h=>c8 J (λhg=>A0 J b3r (w7 (ct hg) (w7 (ct hg) J)) (B6 hv1 hg))<|y0 J (n9 J J J (λq=>K3 q))<|S2 1 J<|a8 ?_;cases h;exact f1

theorem b90{a0 a1}:PO Tryz.prog 76 [k7.Pv a0,k7.Pv a1] (b1Q a0 a1) λr=>.bool r:=by
 refine pO Tryz.func76 λr h _ _=>?_;refine S4 3 J<|c5<|S3 6 J<|c8 J (λhg=>oF J b0U J)<|c8 J (λhg=>oS (ct hg) J J p8 J)<|c8 J (λhg=>oF J b0U J)<|c8 J (λhg=>oS (ct hg) J J p8 J)<|c8 J (λhg=>m8 (ct hg) (ct hg) J)<|y0 J (r8 J J J (λq=>K5 q))<|S1 1 J<|c8 J (λhg=>oF J a1E J)<|c8 J (λhg=>oS (ct hg) J J a6z J)<|c8 J (λhg=>H9 (f:=l7.Pv) (ct hg) E5)<|c8 J (λhg=>oF J a1E J)<|c8 J (λhg=>oS (ct hg) J J a6z J)<|c8 J (λhg=>H9 (f:=l7.Pv) (ct hg) E5)<|c8 J (λhg=>m8 (ct hg) (ct hg) J)<|y0 J (r8 J J J (λq=>K5 q))<|yN ?_;refine cN h (λhc h=>?_) λhc h=>?_
 ·refine S4 1 J ?_;refine a8 ?_;cases h;exact f1
 ·refine b9 ?_;refine jq h (λ_=>St.of [] []) (λq8 h=>?_) λκ7 h=>?_
  ·refine S4 1 J ?_;refine a8 ?_;cases h;exact f1
  ·refine S4 1 J ?_;refine g5<|lq h (λs10=>St.of [(2,.ptr 2 0 0),(3,.ptr 3 0 0),(5,.I s10)] [(3,vR (k7.Pv a1) 3),(2,vR (k7.Pv a0) 3)]) W λs10 x11 h hx10=>c5<|S3 3 J<|nL J E5<|S2 1 J ?_;refine cN h (λhc h=>?_) λhc h=>?_
   ·refine b9 ?_;refine c5<|g5<|dr [] p6 (by kernel_rfl) (by kernel_rfl)<|S7 3 J<|u5 h λv12 hv11 h=>d0 J (x5 (f:=l7.Pv) (cs:=l7.Pc v12) hv11 J J E5 E9 J J) J<|S7 5 J<|u5 h λv13 hv12 h=>d0 J (x5 (f:=l7.Pv) (cs:=l7.Pc v13) hv12 J J E5 E9 J J) J<|S7 4 J<|s7 J (λhg _ hN=>oF J a1E J) J<|A5 J (λhg=>oS (ct hg) J J a6z J) J<|s7 J (λhg _ hN=>mI J) J<|A5 J (λhg=>x5 (f:=l7.Pv) (cs:=l7.Pc v12) hv11 (ct hg) (ct hg) E5 E9 J J) J<|s7 J (λhg _ hN=>A9 (ct hg) b6G J) J<|A5 J (λhg=>F2 (ct hg) p8 J) J<|s7 J (λhg _ hN=>oF J a1E J) J<|A5 J (λhg=>oS (ct hg) J J a6z J) J<|s7 J (λhg _ hN=>mI J) J<|A5 J (λhg=>x5 (f:=l7.Pv) (cs:=l7.Pc v13) hv12 (ct hg) (ct hg) E5 E9 J J) J<|s7 J (λhg _ hN=>A9 (ct hg) b6G J) J<|A5 J (λhg=>F2 (ct hg) p8 J) J<|s7 J (λhg _ hN=>m8 (ct hg) (ct hg) J) J<|d7 J (λ_ hN=>r8 J J J (λq=>K5 q)) J<|S7 1 J<|s7 J (λhg _ hN=>oF J a1E J) J<|A5 J (λhg=>oS (ct hg) J J a6z J) J<|s7 J (λhg _ hN=>mI J) J<|A5 J (λhg=>x5 (f:=l7.Pv) (cs:=l7.Pc v12) hv11 (ct hg) (ct hg) E5 E9 J J) J<|s7 J (λhg _ hN=>A9 (ct hg) a1s J) J<|A5 J (λhg=>a4l (ct hg) b4u a5u nl J) J<|s7 J (λhg _ hN=>oF J a1E J) J<|A5 J (λhg=>oS (ct hg) J J a6z J) J<|s7 J (λhg _ hN=>mI J) J<|A5 J (λhg=>x5 (f:=l7.Pv) (cs:=l7.Pc v13) hv12 (ct hg) (ct hg) E5 E9 J J) J<|s7 J (λhg _ hN=>A9 (ct hg) a1s J) J<|A5 J (λhg=>a4l (ct hg) b4u a5u nl J) J<|u5 h λv14 hv13 h=>a24 J (λhg=>A0 J b8b (w7 (ct hg) (w7 (ct hg) J)) (B6 hv13 hg)) J<|s7 J (λhg _ hN=>U3 (ct hg) J) J<|d7 J (λ_ hN=>r8 J J J (λq=>K5 q)) J<|N2 ?_
    refine cN h (λhc h=>?_) λhc h=>?_
    ·refine S4 1 J ?_;refine a8 ?_;have h:=xL hx10 h;cases h;exact f1
    ·refine b9 ?_;refine S6 3 J ?_;exact eL h W
   ·refine l6 ?_;refine c4<|c4<|j1 ?_;have h:=xL hx10 h;exact eJ h W

theorem b92{a0 a1}:PO Tryz.prog 77 [.L l5.Pv a0,.L l5.Pv a1] (b1S a0 a1) λr=>.bool r:=by
 refine pO Tryz.func77 λr h _ _=>?_;refine S4 1 J<|c5<|S3 1 J<|nL J J9<|S1 1 J<|nL J J9<|S2 1 J ?_;refine cN h (λhc h=>?_) λhc h=>?_
 ·refine S4 1 J ?_;refine a8 ?_;cases h;exact f1
 ·refine b9 ?_;refine jq h (λ_=>St.of [] []) (λq7 h=>?_) λκ6 h=>?_
  ·refine S4 1 J ?_;refine a8 ?_;cases h;exact f1
  ·refine S4 1 J ?_;refine g5<|lq h (λs9=>St.of [(0,.L l5.Pv a0),(1,.L l5.Pv a1),(5,.I s9)] []) W λs9 x10 h hx9=>c5<|S3 2 J<|nL J J9<|S2 1 J ?_;refine cN h (λhc h=>?_) λhc h=>?_
   ·refine b9 ?_;refine c5<|g5<|dr [] p6 (by kernel_rfl) (by kernel_rfl)<|S7 2 J<|u5 h λv11 hv10 h=>d0 J (x5 (f:=l5.Pv) (cs:=l5.Pc v11) hv10 J J J9 M9 J J) J<|S7 3 J<|u5 h λv12 hv11 h=>d0 J (x5 (f:=l5.Pv) (cs:=l5.Pc v12) hv11 J J J9 M9 J J) J<|S7 1 J<|d7 J (λ_ hN=>c5X (xs:=l5.Pc v11) (ys:=l5.Pc v12) c7H J J J J) J<|N2 ?_
    refine cN h (λhc h=>?_) λhc h=>?_
    ·refine S4 1 J ?_;refine a8 ?_;have h:=xL hx9 h;cases h;exact f1
    ·refine b9 ?_;refine S6 3 J ?_;exact eL h W
   ·refine l6 ?_;refine c4<|c4<|j1 ?_;have h:=xL hx9 h;exact eJ h W

theorem b94{a0 a1}:PO Tryz.prog 78 [.L j8.Pv a0,.L j8.Pv a1] (b1V a0 a1) λr=>.bool r:=by
 refine pO Tryz.func78 λr h _ _=>?_;refine S4 1 J<|c5<|S3 1 J<|nL J O6<|S1 1 J<|nL J O6<|S2 1 J ?_;refine cN h (λhc h=>?_) λhc h=>?_
 ·refine S4 1 J ?_;refine a8 ?_;cases h;exact f1
 ·refine b9 ?_;refine jq h (λ_=>St.of [] []) (λq7 h=>?_) λκ6 h=>?_
  ·refine S4 1 J ?_;refine a8 ?_;cases h;exact f1
  ·refine S4 1 J ?_;refine g5<|lq h (λs9=>St.of [(0,.L j8.Pv a0),(1,.L j8.Pv a1),(5,.I s9)] []) W λs9 x10 h hx9=>c5<|S3 2 J<|nL J O6<|S2 1 J ?_;refine cN h (λhc h=>?_) λhc h=>?_
   ·refine b9 ?_;refine c5<|g5<|dr [] p6 (by kernel_rfl) (by kernel_rfl)<|S7 2 J<|u5 h λv11 hv10 h=>d0 J (x5 (f:=j8.Pv) (cs:=j8.Pc v11) hv10 J J O6 Q1 J J) J<|S7 3 J<|u5 h λv12 hv11 h=>d0 J (x5 (f:=j8.Pv) (cs:=j8.Pc v12) hv11 J J O6 Q1 J J) J<|S7 1 J<|d7 J (λ_ hN=>c5X (xs:=j8.Pc v11) (ys:=j8.Pc v12) c7G J J J J) J<|N2 ?_
    refine cN h (λhc h=>?_) λhc h=>?_
    ·refine S4 1 J ?_;refine a8 ?_;have h:=xL hx9 h;cases h;exact f1
    ·refine b9 ?_;refine S6 3 J ?_;exact eL h W
   ·refine l6 ?_;refine c4<|c4<|j1 ?_;have h:=xL hx9 h;exact eJ h W

theorem b99{a0 a1}:PO Tryz.prog 79 [u9.Pv a0,u9.Pv a1] (b11 a0 a1) λr=>.bool r:=by
 refine pO Tryz.func79 λr h _ _=>?_;refine S4 3 J<|c5<|S3 6 J<|c8 J (λhg=>oF J a7V J)<|c8 J (λhg=>oS (ct hg) J J b2u J)<|c8 J (λhg=>H9 (f:=n0.Pv) (ct hg) I3)<|c8 J (λhg=>oF J a7V J)<|c8 J (λhg=>oS (ct hg) J J b2u J)<|c8 J (λhg=>H9 (f:=n0.Pv) (ct hg) I3)<|c8 J (λhg=>m8 (ct hg) (ct hg) J)<|y0 J (r8 J J J (λq=>K5 q))<|yN ?_;refine cN h (λhc h=>?_) λhc h=>?_
 ·refine S4 1 J ?_;refine a8 ?_;cases h;exact f1
 ·refine b9 ?_;refine jq h (λ_=>St.of [] []) (λq7 h=>?_) λκ6 h=>?_
  ·refine S4 1 J ?_;refine a8 ?_;cases h;exact f1
  ·refine S4 1 J ?_;refine g5<|lq h (λs9=>St.of [(2,.ptr 2 0 0),(3,.ptr 3 0 0),(5,.I s9)] [(3,vR (u9.Pv a1) 2),(2,vR (u9.Pv a0) 2)]) W λs9 x10 h hx9=>c5<|S3 3 J<|nL J I3<|S2 1 J ?_;refine cN h (λhc h=>?_) λhc h=>?_
   ·refine b9 ?_;refine c5<|g5<|dr [] p6 (by kernel_rfl) (by kernel_rfl)<|S7 3 J<|u5 h λv11 hv10 h=>d0 J (x5 (f:=n0.Pv) (cs:=n0.Pc v11) hv10 J J I3 H2 J J) J<|S7 4 J<|u5 h λv12 hv11 h=>d0 J (x5 (f:=n0.Pv) (cs:=n0.Pc v12) hv11 J J I3 H2 J J) J<|S7 1 J<|d7 J (λ_ hN=>c5X (xs:=n0.Pc v11) (ys:=n0.Pc v12) c4P J J J J) J<|N2 ?_
    refine cN h (λhc h=>?_) λhc h=>?_
    ·refine S4 1 J ?_;refine a8 ?_;have h:=xL hx9 h;cases h;exact f1
    ·refine b9 ?_;refine S6 3 J ?_;exact eL h W
   ·refine l6 ?_;refine c4<|c4<|j1 ?_;have h:=xL hx9 h;exact eJ h W

theorem b3v{a0 a1}:PO Tryz.prog 29 [c7.Pv a0,c7.Pv a1] (a8v a0 a1) λr=>.bool r:=by
 refine pO Tryz.func29 λr h _ _=>?_;refine S4 3 J<|S3 4 J<|cA h b90 J J λv1 _ h=>S1 1 J<|c8 J (λhg=>oF J b4A J)<|c8 J (λhg=>oS (ct hg) J J a0a J)<|c8 J (λhg=>oF J b4A J)<|c8 J (λhg=>oS (ct hg) J J a0a J)<|u5 h λv2 hv2 h=>c8 J (λhg=>A0 J b3r (w7 (ct hg) (w7 (ct hg) J)) (B6 hv2 hg))<|y0 J (n9 J J J (λq=>K3 q))<|S1 1 J<|c8 J (λhg=>oF J b4B J)<|c8 J (λhg=>oS (ct hg) J J c0K J)<|c8 J (λhg=>oF J b4B J)<|c8 J (λhg=>oS (ct hg) J J c0K J)<|u5 h λv3 hv3 h=>c8 J (λhg=>A0 J b92 (w7 (ct hg) (w7 (ct hg) J)) (B6 hv3 hg))<|y0 J (n9 J J J (λq=>K3 q))<|S1 1 J<|c8 J (λhg=>oF J b0V J)<|c8 J (λhg=>oS (ct hg) J J b7m J)<|c8 J (λhg=>oF J b0V J)<|c8 J (λhg=>oS (ct hg) J J b7m J)<|u5 h λv4 hv4 h=>c8 J (λhg=>A0 J b94 (w7 (ct hg) (w7 (ct hg) J)) (B6 hv4 hg))<|y0 J (n9 J J J (λq=>K3 q))<|S1 1 J<|c8 J (λhg=>oF J a5L J)<|c8 J (λhg=>oL (ct hg) J J a6A a3p nl J)<|c8 J (λhg=>oF J a5L J)<|c8 J (λhg=>oL (ct hg) J J a6A a3p nl J)<|u5 h λv5 hv5 h=>c8 J (λhg=>A0 J b99 (w7 (ct hg) (w7 (ct hg) J)) (B6 hv5 hg))<|y0 J (n9 J J J (λq=>K3 q))<|S2 1 J<|a8 ?_;cases h;exact f1

theorem b3y{a0 a1}:PO Tryz.prog 51 [.L (Ls p9.Pv) a0,n0.Pv a1] (a4s a0 a1) λr=>.I r:=by
 refine pO Tryz.func51 λr h _ _=>?_;refine S4 2 J<|S3 3 J<|cF h a8z J J λv1 _ h=>nL J a36<|S2 2 J<|a8 ?_;cases h;exact f1

theorem b15{a0}:PO Tryz.prog 53 [c7.Pv a0] (a30 a0) λr=>.bool r:=by
 refine pO Tryz.func53 λr h _ _=>?_;unfold a30 at h;refine S4 2 J<|S3 3 J<|nL J I3<|S2 2 J<|a8 ?_;cases h;exact f1

theorem w20_DrainSteps_ok{a0 a1 a2}:PO Tryz.prog 9 [b7.Pv a0,.L (Ls j2.Pv) a1,g8.Pv a2] (a4E a0 a1 a2) λr=>.bool r:=by
 refine pO Tryz.func9 λr h _ _=>?_;refine S4 3 J<|c5<|S3 1 J<|cA h b3G J J λv1 _ h=>S1 2 J<|c8 J (λhg=>om (d:=.L (Ls j2.Pv) a1) J)<|u5 h λv2 hv2 h=>c8 J (λhg=>A0 J b5Y (w7 (ct hg) J) (B6 hv2 hg))<|c8 J (λhg=>U3 (ct hg) J)<|y0 J (r8 J J J (λq=>K5 q))<|S1 1 J<|u5 h λv3 hv3 h=>c8 J (λhg=>A0 J a3R J (B6 hv3 hg))<|c8 J (λhg=>U3 (ct hg) J)<|y0 J (r8 J J J (λq=>K5 q))<|yN ?_;refine cN h (λhc h=>?_) λhc h=>?_
 ·refine sR ?_;refine cA h a3R J J λv4 _ h=>S2 1 J<|a8 ?_;cases h;exact f1
 ·refine b9 ?_;refine S3 1 J<|cF h a7s J J λv5 _ h=>S2 1 J<|S3 2 J<|cF h a5z J J λv6 _ h=>S2 9 J<|S3 1 J<|cF h a0D J J λv7 hv7 h=>S1 1 J<|cF h b3z J J λv8 _ h=>S2 9 J<|dr [] p6 (by kernel_rfl) (by kernel_rfl)<|S7 1 J<|u5 h λv9 hv9 h=>d2 J (A0 J b0M J hv9) J<|S7 1 J<|A5 J (λhg=>oL J J J u4 p5 nl J) J<|u5 h λv10 hv10 h=>b2G J (λhg=>y8 J a0D (w7 (ct hg) J) (B6 hv10 hg)) J<|A5 J (λhg=>oL J J J y7 u6 nl J) J<|u5 h λv11 hv11 h=>a24 J (λhg=>A0 J b3v (w7 (ct hg) (w7 (ct hg) J)) (B6 hv11 hg)) J<|d7 J (λ_ hN=>n9 J J J (λq=>K3 q)) J<|S7 1 J<|A5 J (λhg=>oL J J J a0c I4 nl J) J<|A5 J (λhg=>oL J J J a6B H2 nl J) J<|s7 J (λhg _ hN=>b9M (xs:=g8.Pc v6.2.1) (ys:=n0.Pc v8.2.1) c4P (ct hg) (ct hg) J) J<|d7 J (λ_ hN=>n9 J J J (λq=>K3 q)) J<|S7 1 J<|s7 J (λhg _ hN=>mI J) J<|s7 J (λhg _ hN=>mI J) J<|s7 J (λhg _ hN=>m8 (ct hg) (ct hg) J) J<|d7 J (λ_ hN=>n9 J J J (λq=>K3 q)) J<|S7 1 J<|s7 J (λhg _ hN=>om (d:=.L (Ls j2.Pv) a1) J) J<|A5 J (λhg=>oL J J J a0c I4 nl J) J<|u5 h λv12 hv12 h=>a24 J (λhg=>A0 J a5x (w7 (ct hg) (w7 (ct hg) J)) (B6 hv12 hg)) J<|s7 J (λhg _ hN=>om (d:=.L (Ls p9.Pv) v5) J) J<|A5 J (λhg=>oL J J J a0c I4 nl J) J<|u5 h λv13 hv13 h=>a24 J (λhg=>A0 J b3y (w7 (ct hg) (w7 (ct hg) J)) (B6 hv13 hg)) J<|s7 J (λhg _ hN=>m8 (ct hg) (ct hg) J) J<|d7 J (λ_ hN=>n9 J J J (λq=>K3 q)) J<|S7 1 J<|A5 J (λhg=>oL J J J u4 p5 nl J) J<|u5 h λv14 hv14 h=>a24 J (λhg=>A0 J a1L (w7 (ct hg) J) (B6 hv14 hg)) J<|A5 J (λhg=>oL J J J u4 p5 nl J) J<|b2G J (λhg=>y8 J a0D (w7 (ct hg) J) hv7) J<|u5 h λv15 hv15 h=>a24 J (λhg=>A0 J b15 (w7 (ct hg) J) (B6 hv15 hg)) J<|s7 J (λhg _ hN=>c9z (ct hg) (ct hg) c9b J) J<|d7 J (λ_ hN=>n9 J J J (λq=>K3 q)) J<|S7 1 J<|s7 J (λhg _ hN=>om (d:=.L (Ls j2.Pv) a1) J) J<|s7 J (λhg _ hN=>oF J b0X J) J<|A5 J (λhg=>oS (ct hg) J J p8 J) J<|u5 h λv16 hv16 h=>b2G J (λhg=>y8 J a5y (w7 (ct hg) (w7 (ct hg) J)) (B6 hv16 hg)) J<|A5 J (λhg=>H9 (f:=j2.Pv) (ct hg) a5s) J<|s7 J (λhg _ hN=>om (d:=.L (Ls p9.Pv) v5) J) J<|s7 J (λhg _ hN=>oF J b0X J) J<|A5 J (λhg=>oS (ct hg) J J p8 J) J<|u5 h λv17 hv17 h=>b2G J (λhg=>y8 J a8z (w7 (ct hg) (w7 (ct hg) J)) (B6 hv17 hg)) J<|A5 J (λhg=>H9 (f:=p9.Pv) (ct hg) a36) J<|s7 J (λhg _ hN=>m8 (ct hg) (ct hg) J) J<|d7 J (λ_ hN=>n9 J J J (λq=>K3 q)) J<|S8 1 J<|a8 ?_
  cases h;exact f1

theorem b8t{a0 a1 a2}:PO Tryz.prog 57 [c7.Pv a0,.L (Ls p9.Pv) a1,.I a2] (a3Z a0 a1 a2) λr=>.tup [c7.Pv r.1,.I r.2.1,.I r.2.2.1,.I r.2.2.2]:=by
 refine pO Tryz.func57 λr h _ _=>?_;refine S4 5 J<|S4 1 J ?_;refine jq h (λq=>St.of [(2,.I q.1),(3,.ptr 3 0 0),(6,.ptr 6 0 0),(10,.I q.2.1)] [(6,vR (.agg [.nl,.I 0,.I 0,.nl,.nl,.nl,.nl,.I 0]) 8),(3,vR (c7.Pv q.2.2) 8)]) (λq15 h=>?_) λκ11 h=>?_
 ·obtain⟨j12,j13,j14⟩:=q15;refine S4 7 J<|a8 ?_;cases h;exact⟨J,[_,_,_,_],⟨oL J J J y7 u6 nl J,⟨J,⟨J,⟨J,tr⟩⟩⟩⟩,J,io⟩
 ·refine g5 ?_;refine lq h (λq=>St.of [(1,.L (Ls p9.Pv) a1),(2,.I q.1),(3,.ptr 3 0 0),(6,.ptr 6 0 0),(10,.I q.2.1)] [(6,vR (.agg [.nl,.I 0,.I 0,.nl,.nl,.nl,.nl,.I 0]) 8),(3,vR (c7.Pv q.2.2) 8)]) W λq21 x20 h hx11=>?_;obtain⟨s17,s18,s19⟩:=q21;refine c5<|S3 1 J<|cA h b15 J J λv22 _ h=>S2 1 J ?_;refine cN h (λhc h=>?_) λhc h=>?_
  ·refine b9 ?_;refine g5<|S3 4 J<|iL h J J I3 H2 λv23 _ h=>S1 1 J<|cA h b3y J J λv24 _ h=>S2 1 J<|c5<|S4 3 J ?_;refine cN h (λhc h=>?_) λhc h=>?_
   ·refine S4 7 J ?_;refine a8 ?_;have h:=xL hx11 h;cases h;exact⟨J,[_,_,_,_],⟨oL J J J y7 u6 nl J,⟨J,⟨J,⟨J,tr⟩⟩⟩⟩,J,io⟩
   ·refine b9 ?_;refine S3 2 J<|cF h b3z J J λv25 _ h=>S2 9 J<|S4 2 J<|S4 4 J<|S6 3 J ?_;exact eL h W
  ·refine l6 ?_;refine c4<|c4<|j1 ?_;have h:=xL hx11 h;exact eJ h W

theorem w20_DrainDoes_ok{a0 a1 a2}:PO Tryz.prog 10 [b7.Pv a0,.L (Ls j2.Pv) a1,.int .u8 a2] (a5G a0 a1 a2) λr=>.bool r:=by
 refine pO Tryz.func10 λr h _ _=>?_;refine S4 2 J<|c5<|S3 1 J<|cA h b3G J J λv1 _ h=>S1 2 J<|c8 J (λhg=>om (d:=.L (Ls j2.Pv) a1) J)<|u5 h λv2 hv2 h=>c8 J (λhg=>A0 J b5Y (w7 (ct hg) J) (B6 hv2 hg))<|c8 J (λhg=>U3 (ct hg) J)<|y0 J (r8 J J J (λq=>K5 q))<|S1 1 J<|u5 h λv3 hv3 h=>c8 J (λhg=>A0 J a3R J (B6 hv3 hg))<|c8 J (λhg=>U3 (ct hg) J)<|y0 J (r8 J J J (λq=>K5 q))<|yN ?_;refine cN h (λhc h=>?_) λhc h=>?_
 ·refine sR ?_;refine cA h a3R J J λv4 _ h=>S2 1 J<|a8 ?_;cases h;exact f1
 ·refine b9 ?_;refine S3 3 J<|y0 J (c5U J c9c c9a J)<|cF h a1K J J λv5 _ h=>S2 10 J<|S3 1 J<|cF h a0D J J λv6 _ h=>S1 1 J<|cF h a7s J J λv7 _ h=>S1 1 J<|y0 J (c5U J c9c c9a J)<|cF h b8t J J λv8 _ h=>S2 10 J<|dr [] p6 (by kernel_rfl) (by kernel_rfl)<|S7 1 J<|u5 h λv9 hv9 h=>d2 J (A0 J b0M J hv9) J<|S7 1 J<|A5 J (λhg=>oL J J J u4 p5 nl J) J<|u5 h λv10 hv10 h=>b2G J (λhg=>y8 J a0D (w7 (ct hg) J) (B6 hv10 hg)) J<|A5 J (λhg=>oL J J J y7 u6 nl J) J<|u5 h λv11 hv11 h=>a24 J (λhg=>A0 J b3v (w7 (ct hg) (w7 (ct hg) J)) (B6 hv11 hg)) J<|d7 J (λ_ hN=>n9 J J J (λq=>K3 q)) J<|S7 1 J<|s7 J (λhg _ hN=>mI J) J<|s7 J (λhg _ hN=>mI J) J<|s7 J (λhg _ hN=>m8 (ct hg) (ct hg) J) J<|d7 J (λ_ hN=>n9 J J J (λq=>K3 q)) J<|S7 1 J<|s7 J (λhg _ hN=>mI J) J<|s7 J (λhg _ hN=>mI J) J<|s7 J (λhg _ hN=>m8 (ct hg) (ct hg) J) J<|d7 J (λ_ hN=>n9 J J J (λq=>K3 q)) J<|S7 1 J<|s7 J (λhg _ hN=>mI J) J<|s7 J (λhg _ hN=>mI J) J<|s7 J (λhg _ hN=>m8 (ct hg) (ct hg) J) J<|d7 J (λ_ hN=>n9 J J J (λq=>K3 q)) J<|S8 1 J<|a8 ?_
  cases h;exact f1

end Go.Proofs.YtlkcpapbolbjnaaGreat.Ok
