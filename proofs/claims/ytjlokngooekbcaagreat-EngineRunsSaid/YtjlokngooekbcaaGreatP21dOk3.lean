/-
 The functions of the program do as the plain functions do.
-/
import Derived.Test.YtjlokngooekbcaaGreatP21dOk2
set_option linter.unusedVariables false
set_option linter.unusedSimpArgs false
set_option linter.unusedSectionVars false
namespace Go.Proofs.YtjlokngooekbcaaGreat.Ok
open Go Go.Pw Go.Sh Go.Proofs
set_option maxRecDepth 100000
set_option maxHeartbeats 4000000
theorem F8{a0 a1}:PO Tryz.prog 38 [k8.Pv a0,.I a1] (F5 a0 a1) λr=>.tup [C6.Pv r.1,.I r.2]:=by
 refine pO Tryz.func38 λr h _ _=>?_;refine S4 3 J<|S3 1 J<|cF h R2 J J λv1 _ h=>S1 1 J<|cA h b5B J J λv2 _ h=>S2 5 J<|c8<|S4 2 J ?_;refine cN h (λhc h=>?_) λhc h=>?_
 ·refine sR ?_;refine y0 J (o8 (cs:=[.I 0,.I 0,.I 0,.I 0,.bool false,.nl]) J b7R b7W J J J)<|S1 1 J<|a44 (x':=.agg [.I 0,.I 0,.I 0,.I 0,.bool false,.nl]) (cl':=true) J J (.inl J) a6Z<|S2 1 J<|b6 ?_;cases h;exact⟨J,[_,_],⟨oL J J J b4M a6Z nl J,⟨J,tr⟩⟩,J,io⟩
 ·refine b8 ?_;refine S3 3 J<|iL h J J H6 H2 λv3 _ h=>S2 4 J<|b6 ?_;cases h;exact⟨J,[_,_],⟨oL J J J b4M a6Z nl J,⟨J,tr⟩⟩,J,io⟩

theorem b1U{a0}:PO Tryz.prog 187 [.L iF a0] (a2Q a0) λr=>.L iF r:=by
 refine pO Tryz.func187 λr h _ _=>?_;refine S4 1 J<|sR<|y0 J (A2 J g7 m7)<|S2 1 J ?_;refine jq h (λj13=>St.of [(3,.sl 910003)] [(910003,⟨List.map iF j13,(List.map iF j13).length,true,1,true⟩)]) (λj13 h=>?_) λκ12 h=>?_
 ·refine S4 2 J ?_;refine b6 ?_;cases h;exact f1
 ·refine S4 1 J ?_;refine c9<|lq h (λq=>St.of [(0,.L iF a0),(3,.sl 910003),(4,.I q.1)] [(910003,⟨List.map iF q.2,(List.map iF q.2).length,true,1,true⟩)]) (Wk.trans (C9 (t:=3) (l:=920003) (z:=1) J J) (WP (λl=>if l=910003 then 920003 else l))) λq18 x17 h hx12=>?_
  obtain⟨s15,s16⟩:=q18;refine c8<|S3 2 J<|nL J g7<|S2 1 J ?_;refine cN h (λhc h=>?_) λhc h=>?_
  ·refine b8 ?_;refine jq h (λj22=>St.of [(0,.L iF a0),(3,.sl 23),(4,.I s15)] [(23,⟨List.map iF j22,(List.map iF j22).length,true,1,true⟩)]) (λj22 h=>?_) λκ21 h=>?_
   ·refine S6 3 J ?_;exact eL h (Wk.trans (n0 _ [23]) (WP (λl=>if l=910003 then 23 else l)))
   ·refine c9 ?_;refine S3 2 J<|iL h J J g7 m7 λv23 hv16 h=>S2 2 J ?_;refine cN h (λhc h=>?_) λhc h=>?_
    ·refine S5 3 J ?_;refine y0 J (u7 (f:=iF) (cs:=[.I v23]) hv16 J J g7 m7 J J)<|S1 1 J<|y0 J (G1 (f:=iF) (l:=[v23]) J g7 m7 y6 J J nl J J)<|r9 h λv24 hv17 h=>H5 J (F1 (f:=iF) hv17 J J J J J J (.inl ⟨_,J,J⟩) g7 m7 F9 y6 J (λ_=>J)) J J J<|S2 1 J ?_;exact eJ h (Wk.trans (n0 _ [23]) W)
    ·refine b8 ?_;exact eJ h (Wk.trans (n0 _ [910003]) (WP (λl=>if l=23 then 910003 else l)))
  ·refine o5 ?_;refine c4<|c4<|k7 ?_;have h:=xL hx12 h;exact eJ h (Wk.trans (n0 _ [910003]) W)

theorem b5F{a0 a1}:PO Tryz.prog 228 [k8.Pv a0,.I a1] (b1Z a0 a1) λr=>.L iF r:=by
 refine pO Tryz.func228 λr h _ _=>?_;refine S4 2 J<|S3 2 J<|cF h F8 J J λv1 _ h=>S2 6 J<|c8<|S4 2 J ?_;refine cN h (λhc h=>?_) λhc h=>?_
 ·refine S4 1 J ?_;refine b6 ?_;cases h;exact f1
 ·refine b8 ?_;refine S3 2 J<|cF h b1U J J λv2 _ h=>S2 1 J<|b6 ?_;cases h;exact f1

theorem a7w{a0 a1}:PO Tryz.prog 143 [.L iF a0,.I a1] (a1M a0 a1) λr=>.I r:=by
 refine pO Tryz.func143 λr h _ _=>?_;refine S4 1 J<|S4 1 J ?_;refine jq h (λj11=>St.of [(5,.I j11)] []) (λj11 h=>?_) λκ10 h=>?_
 ·refine S4 2 J ?_;refine b6 ?_;cases h;exact f1
 ·refine S4 1 J ?_;refine c9<|lq h (λq=>St.of [(0,.L iF a0),(1,.I a1),(5,.I q.1),(6,.I q.2)] []) W λq16 x15 h hx10=>?_;obtain⟨s13,s14⟩:=q16;refine c8<|S3 2 J<|nL J g7<|S2 1 J ?_;refine cN h (λhc h=>?_) λhc h=>?_
  ·refine b8 ?_;refine jq h (λj19=>St.of [(0,.L iF a0),(1,.I a1),(5,.I j19),(6,.I s14)] []) (λj19 h=>?_) λκ18 h=>?_
   ·refine S6 3 J ?_;exact eL h W
   ·refine c9 ?_;refine S3 2 J<|iL h J J g7 m7 λv20 _ h=>S1 4 J<|l4 J (λhg=>mI J)<|l4 J (λhg=>y5 (ct hg) J J)<|y0 J (z7 J J J (λq=>eqT q))<|yN ?_;refine cN h (λhc h=>?_) λhc h=>?_
    ·refine S6 3 J ?_;exact eJ h W
    ·refine b8 ?_;exact eJ h W
  ·refine o5 ?_;refine c4<|c4<|k7 ?_;have h:=xL hx10 h;exact eJ h W

theorem c5R{a0 a1}:PO Tryz.prog 295 [k8.Pv a0,.I a1] (b8T a0 a1) λr=>.I r:=by
 refine pO Tryz.func295 λr h _ _=>?_;refine S4 2 J<|S4 1 J<|S3 1 J<|cF h a0u J J λv1 _ h=>S2 1 J ?_;refine jq h (λj11=>St.of [(5,.I j11)] []) (λj11 h=>?_) λκ10 h=>?_
 ·refine S4 2 J ?_;refine b6 ?_;cases h;exact f1
 ·refine S4 1 J ?_;refine c9<|lq h (λq=>St.of [(1,.I a1),(2,.ptr 2 0 0),(5,.I q.1),(6,.L iF v1),(7,.I q.2)] [(2,vR (k8.Pv a0) 3)]) W λq16 x15 h hx11=>?_;obtain⟨s13,s14⟩:=q16;refine c8<|S3 2 J<|nL J g7<|S2 1 J ?_;refine cN h (λhc h=>?_) λhc h=>?_
  ·refine b8 ?_;refine c8<|c9<|a1A [] o9 (by kernel_rfl) (by kernel_rfl)<|S7 4 J<|r9 h λv17 hv12 h=>d0 J (u7 (f:=iF) (cs:=[.I v17]) hv12 J J g7 m7 J J) J<|S7 1 J<|r9 h λv18 hv13 h=>d2f J (u6 J b5F J hv13) J<|S7 1 J<|r9 h λv19 hv14 h=>d2 J (D4 J a7w J hv14) J<|S8 2 J<|S6 3 J ?_
   exact eL h W
  ·refine o5 ?_;refine c4<|c4<|k7 ?_;have h:=xL hx11 h;exact eJ h W

theorem c02{a0}:PO Tryz.prog 223 [.L g9.Pv a0] (b13 a0) λr=>.L iF r:=by
 refine pO Tryz.func223 λr h _ _=>?_;refine S4 1 J<|sR<|y0 J (A2 J g7 m7)<|S2 1 J ?_;refine jq h (λj13=>St.of [(3,.sl 910003)] [(910003,⟨List.map iF j13,(List.map iF j13).length,true,1,true⟩)]) (λj13 h=>?_) λκ12 h=>?_
 ·refine S4 2 J ?_;refine b6 ?_;cases h;exact f1
 ·refine S4 1 J ?_;refine c9<|lq h (λq=>St.of [(0,.L g9.Pv a0),(3,.sl 910003),(4,.I q.1)] [(910003,⟨List.map iF q.2,(List.map iF q.2).length,true,1,true⟩)]) (Wk.trans (C9 (t:=3) (l:=920003) (z:=1) J J) (WP (λl=>if l=910003 then 920003 else l))) λq18 x17 h hx12=>?_
  obtain⟨s15,s16⟩:=q18;refine c8<|S3 2 J<|nL J R8<|S2 1 J ?_;refine cN h (λhc h=>?_) λhc h=>?_
  ·refine b8 ?_;refine jq h (λj22=>St.of [(0,.L g9.Pv a0),(3,.sl 25),(4,.I s15)] [(25,⟨List.map iF j22,(List.map iF j22).length,true,1,true⟩)]) (λj22 h=>?_) λκ21 h=>?_
   ·refine S6 3 J ?_;exact eL h (Wk.trans (n0 _ [25]) (WP (λl=>if l=910003 then 25 else l)))
   ·refine c9 ?_;refine S3 2 J<|iL h J J R8 T9 λv23 hv16 h=>S2 3 J ?_;refine cN h (λhc h=>?_) λhc h=>?_
    ·refine S5 3 J ?_;refine y0 J (u7 (f:=g9.Pv) (cs:=g9.Pc v23) hv16 J J R8 T9 J J)<|S1 2 J<|y0 J (G1 (f:=iF) (l:=[v23.Key]) J g7 m7 y6 J J nl J J)<|r9 h λv24 hv17 h=>H5 J (F1 (f:=iF) hv17 J J J J J J (.inl ⟨_,J,J⟩) g7 m7 F9 y6 J (λ_=>J)) J J J<|S2 1 J ?_;exact eJ h (Wk.trans (n0 _ [25]) W)
    ·refine b8 ?_;exact eJ h (Wk.trans (n0 _ [910003]) (WP (λl=>if l=25 then 910003 else l)))
  ·refine o5 ?_;refine c4<|c4<|k7 ?_;have h:=xL hx12 h;exact eJ h (Wk.trans (n0 _ [910003]) W)

theorem a8U{a0 a1}:PO Tryz.prog 132 [.L g9.Pv a0,.I a1] (a1i a0 a1) λr=>.I r:=by
 refine pO Tryz.func132 λr h _ _=>?_;refine S4 1 J ?_;refine jq h (λ_=>St.of [] []) (λq6 h=>?_) λκ5 h=>?_
 ·refine S4 1 J ?_;refine b6 ?_;cases h;exact f1
 ·refine S4 1 J ?_;refine c9<|lq h (λs8=>St.of [(0,.L g9.Pv a0),(1,.I a1),(5,.I s8)] []) W λs8 x9 h hx8=>c8<|S3 2 J<|nL J R8<|S2 1 J ?_;refine cN h (λhc h=>?_) λhc h=>?_
  ·refine b8 ?_;refine c8<|c9<|S3 2 J<|iL h J J R8 T9 λv10 hv9 h=>S1 4 J<|l4 J (λhg=>om (d:=.L g9.Pv a0) J)<|l4 J (λhg=>mI J)<|l4 J (λhg=>u7 (f:=g9.Pv) (cs:=g9.Pc v10) hv9 (ct hg) (ct hg) R8 T9 J J)<|l4 J (λhg=>A5 (ct hg) c5a J)<|l4 J (λhg=>F6 (ct hg) C5 J)<|l4 J (λhg=>mI J)<|l4 J (λhg=>y5 (ct hg) (ct hg) J)<|y0 J (z7 J J J (λq=>eqT q))<|yN ?_;refine cN h (λhc h=>?_) λhc h=>?_
   ·refine S4 2 J ?_;refine b6 ?_;have h:=xL hx8 h;cases h;exact f1
   ·refine b8 ?_;refine S6 3 J ?_;exact eL h W
  ·refine o5 ?_;refine c4<|c4<|k7 ?_;have h:=xL hx8 h;exact eJ h W

theorem b0T{a0 a1}:PO Tryz.prog 224 [.L g9.Pv a0,.I a1] (a9F a0 a1) λr=>.tup [.I r.1,.I r.2]:=by
 refine pO Tryz.func224 λr h _ _=>?_;refine S4 2 J<|S3 2 J<|cA h a8U J J λv1 _ h=>S2 1 J<|c8<|S4 2 J ?_;refine cN h (λhc h=>?_) λhc h=>?_
 ·refine S4 2 J ?_;refine b6 ?_;cases h;exact f2
 ·refine b8 ?_;refine S3 2 J<|iL h J J R8 T9 λv2 _ h=>S2 4 J<|b6 ?_;cases h;exact f2

theorem b16{a0}:PO Tryz.prog 135 [.L g9.Pv a0] (a4n a0) λr=>.L B9.Pv r:=by
 refine pO Tryz.func135 λr h _ _=>?_;refine S4 1 J<|sR<|y0 J (A2 J a23 a5f)<|S2 1 J<|S3 1 J<|cF h c02 J J λv1 _ h=>S2 1 J ?_;refine jq h (λj11=>St.of [(3,.sl 910003)] [(910003,⟨List.map B9.Pv j11,(List.map B9.Pv j11).length,true,2,true⟩)]) (λj11 h=>?_) λκ10 h=>?_
 ·refine S4 2 J ?_;refine b6 ?_;cases h;exact f1
 ·refine S4 1 J ?_;refine c9<|lq h (λq=>St.of [(0,.L g9.Pv a0),(3,.sl 910003),(4,.L iF v1),(5,.I q.1)] [(910003,⟨List.map B9.Pv q.2,(List.map B9.Pv q.2).length,true,2,true⟩)]) (Wk.trans (C9 (t:=3) (l:=920003) (z:=2) J J) (WP (λl=>if l=910003 then 920003 else l))) λq16 x15 h hx11=>?_
  obtain⟨s13,s14⟩:=q16;refine c8<|S3 2 J<|nL J g7<|S2 1 J ?_;refine cN h (λhc h=>?_) λhc h=>?_
  ·refine b8 ?_;refine c8<|c9<|S3 3 J<|iL h J J g7 m7 λv17 hv12 h=>S1 1 J<|cA h b0T J J λv18 _ h=>S2 5 J<|S5 3 J<|y0 J (u7 (f:=iF) (cs:=[.I v17]) hv12 J J g7 m7 J J)<|S1 2 J<|y0 J (o8 (cs:=[.I v17,.I v18.1]) J c9C b7T J J J)<|y0 J (G1 (f:=B9.Pv) (l:=[(⟨v17,v18.1⟩:B9)]) J a23 a5f b7T J J nl J J)<|r9 h λv19 hv14 h=>H5 J (F1 (f:=B9.Pv) hv14 J J J J J J (.inl ⟨_,J,J⟩) a23 a5f c9i b7T J (λ_=>J)) J J J<|S2 1 J<|S6 3 J ?_;exact eL h (Wk.trans (n0 _ [34]) (WP (λl=>if l=910003 then 34 else l)))
  ·refine o5 ?_;refine c4<|c4<|k7 ?_;have h:=xL hx11 h;exact eJ h (Wk.trans (n0 _ [910003]) W)

theorem b8V{a0 a1}:PO Tryz.prog 296 [.L g9.Pv a0,.I a1] (a9G a0 a1) λr=>.I r:=by
 refine pO Tryz.func296 λr h _ _=>?_;refine S4 1 J<|S4 1 J<|S3 1 J<|cF h b16 J J λv1 _ h=>S2 1 J ?_;refine jq h (λj12=>St.of [(5,.I j12)] []) (λj12 h=>?_) λκ11 h=>?_
 ·refine S4 2 J ?_;refine b6 ?_;cases h;exact f1
 ·refine S4 1 J ?_;refine c9<|lq h (λq=>St.of [(1,.I a1),(5,.I q.1),(6,.L B9.Pv v1),(7,.I q.2)] []) W λq17 x16 h hx11=>?_;obtain⟨s14,s15⟩:=q17;refine c8<|S3 2 J<|nL J a23<|S2 1 J ?_;refine cN h (λhc h=>?_) λhc h=>?_
  ·refine b8 ?_;refine jq h (λj20=>St.of [(1,.I a1),(5,.I j20),(6,.L B9.Pv v1),(7,.I s15)] []) (λj20 h=>?_) λκ19 h=>?_
   ·refine S6 3 J ?_;exact eL h W
   ·refine c9 ?_;refine S3 2 J<|iL h J J a23 a5f λv21 _ h=>S1 5 J<|l4 J (λhg=>mI J)<|l4 J (λhg=>y5 (ct hg) J J)<|y0 J (z7 J J J (λq=>eqT q))<|yN ?_;refine cN h (λhc h=>?_) λhc h=>?_
    ·refine S6 3 J ?_;exact eJ h W
    ·refine b8 ?_;exact eJ h W
  ·refine o5 ?_;refine c4<|c4<|k7 ?_;have h:=xL hx11 h;exact eJ h W

theorem b8W{a0 a1 a2}:PO Tryz.prog 226 [k8.Pv a0,.L g9.Pv a1,.I a2] (a9H a0 a1 a2) λr=>.I r:=by
 refine pO Tryz.func226 λr h _ _=>?_;refine S4 2 J<|S3 2 J<|cA h c5R J J λv1 _ h=>S1 2 J<|cA h b8V J J λv2 _ h=>S2 2 J<|b6 ?_;cases h;exact f1

theorem c08{a0 a1 a2}:PO Tryz.prog 142 [k8.Pv a0,.L g9.Pv a1,.I a2] (a8X a0 a1 a2) λr=>.I r:=by
 refine pO Tryz.func142 λr h _ _=>?_;refine S4 2 J<|S3 2 J<|cF h F8 J J λv1 _ h=>S2 6 J<|c8<|S4 2 J ?_;refine cN h (λhc h=>?_) λhc h=>?_
 ·refine S4 1 J ?_;refine b6 ?_;cases h;exact f1
 ·refine b8 ?_;refine dr [] o9 (by kernel_rfl) (by kernel_rfl)<|S7 5 J<|r9 h λv2 hv2 h=>d2 J (D4 J b8W J hv2) J<|S8 2 J<|b6 ?_
  cases h;exact f1

theorem a7v{a0}:PO Tryz.prog 39 [.I a0] (a0R a0) λr=>.bool r:=by
 refine pO Tryz.func39 λr h _ _=>?_;unfold a0R at h;refine S4 1 J<|S4 3 J<|b6 ?_;cases h;exact f1

theorem b8X{a0 a1}:PO Tryz.prog 141 [k8.Pv a0,.I a1] (a6w a0 a1) λr=>.bool r:=by
 refine pO Tryz.func141 λr h _ _=>?_;refine S4 2 J<|S3 2 J<|cF h F8 J J λv1 _ h=>S2 6 J<|S3 2 J<|cA h a7v J J λv2 _ h=>S2 1 J<|b6 ?_;cases h;exact f1

theorem c07{a0 a1}:PO Tryz.prog 272 [k8.Pv a0,.L g9.Pv a1] (b2a a0 a1) λr=>.L iF r:=by
 refine pO Tryz.func272 λr h _ _=>?_;refine S4 2 J<|sR<|y0 J (A2 J g7 m7)<|S2 1 J<|S3 1 J<|cF h a0u J J λv1 _ h=>S2 1 J ?_;refine jq h (λj18=>St.of [(5,.sl 910005)] [(910005,⟨List.map iF j18,(List.map iF j18).length,true,1,true⟩)]) (λj18 h=>?_) λκ17 h=>?_
 ·refine S4 2 J ?_;refine b6 ?_;cases h;exact f1
 ·refine S4 1 J ?_;refine c9<|lq h (λq=>St.of [(1,.L g9.Pv a1),(2,.ptr 2 0 0),(5,.sl 910005),(6,.L iF v1),(7,.I q.1)] [(2,vR (k8.Pv a0) 3),(910005,⟨List.map iF q.2,(List.map iF q.2).length,true,1,true⟩)]) (Wk.trans (C9 (t:=5) (l:=920005) (z:=1) J J) (WP (λl=>if l=910005 then 920005 else l))) λq23 x22 h hx17=>?_
  obtain⟨s20,s21⟩:=q23;refine c8<|S3 2 J<|nL J g7<|S2 1 J ?_;refine cN h (λhc h=>?_) λhc h=>?_
  ·refine b8 ?_;refine jq h (λj29=>St.of [(1,.L g9.Pv a1),(2,.ptr 2 0 0),(5,.sl 39),(6,.L iF v1),(7,.I s20)] [(39,⟨List.map iF j29,(List.map iF j29).length,true,1,true⟩),(2,vR (k8.Pv a0) 3)]) (λj29 h=>?_) λκ28 h=>?_
   ·refine S6 3 J ?_;exact eL h (Wk.trans (n0 _ [39]) (WP (λl=>if l=910005 then 39 else l)))
   ·refine c9 ?_;refine dr [] o9 (by kernel_rfl) (by kernel_rfl)<|S7 4 J<|r9 h λv30 hv23 h=>d0 J (u7 (f:=iF) (cs:=[.I v30]) hv23 J J g7 m7 J J) J<|S7 1 J<|r9 h λv31 hv24 h=>d2 J (D4 J c08 J hv24) J<|S7 2 J<|J7 J (λhg=>oL J J J a0l Z4 nl J) J<|D0 J (λhg _ hN=>om (d:=.L iF v1) J) J<|D0 J (λhg _ hN=>mI J) J<|J7 J (λhg=>u7 (f:=iF) (cs:=[.I v30]) hv23 (ct hg) (ct hg) g7 m7 J J) J<|J7 J (λhg=>F6 (ct hg) C5 J) J<|r9 h λv32 hv25 h=>b41 J (λhg=>D4 J b8X (D8 (ct hg) (D8 (ct hg) J)) (G8 hv25 hg)) J<|d7 J (λ_ hN=>C7 J J J (λq=>eqF q)) J<|G0 ?_
    refine cN h (λhc h=>?_) λhc h=>?_
    ·refine S5 3 J ?_;refine y0 J (u7 (f:=iF) (cs:=[.I v30]) hv23 J J g7 m7 J J)<|S1 1 J<|y0 J (G1 (f:=iF) (l:=[v30]) J g7 m7 y6 J J nl J J)<|r9 h λv33 hv26 h=>H5 J (F1 (f:=iF) hv26 J J J J J J (.inl ⟨_,J,J⟩) g7 m7 F9 y6 J (λ_=>J)) J J J<|S2 1 J ?_;exact eJ h (Wk.trans (n0 _ [39]) W)
    ·refine b8 ?_;exact eJ h (Wk.trans (n0 _ [910005]) (WP (λl=>if l=39 then 910005 else l)))
  ·refine o5 ?_;refine c4<|c4<|k7 ?_;have h:=xL hx17 h;exact eJ h (Wk.trans (n0 _ [910005]) W)

theorem a7y{a0 a1}:PO Tryz.prog 230 [.L iF a0,.I a1] (a7x a0 a1) λr=>.bool r:=by
 refine pO Tryz.func230 λr h _ _=>?_;refine S4 1 J<|S3 2 J<|cA h a7w J J λv1 _ h=>S2 2 J<|b6 ?_;cases h;exact f1

theorem b10{a0 a1 a2}:PO Tryz.prog 227 [.L iF a0,.L iF a1,.bool a2] (a6t a0 a1 a2) λr=>.L iF r:=by
 refine pO Tryz.func227 λr h _ _=>?_;refine S4 1 J<|sR<|y0 J (A2 J g7 m7)<|S2 1 J ?_;refine jq h (λj15=>St.of [(7,.sl 910007)] [(910007,⟨List.map iF j15,(List.map iF j15).length,true,1,true⟩)]) (λj15 h=>?_) λκ14 h=>?_
 ·refine S4 2 J ?_;refine b6 ?_;cases h;exact f1
 ·refine S4 1 J ?_;refine c9<|lq h (λq=>St.of [(0,.L iF a0),(1,.L iF a1),(2,.bool a2),(7,.sl 910007),(8,.I q.1)] [(910007,⟨List.map iF q.2,(List.map iF q.2).length,true,1,true⟩)]) (Wk.trans (C9 (t:=7) (l:=920007) (z:=1) J J) (WP (λl=>if l=910007 then 920007 else l))) λq20 x19 h hx14=>?_
  obtain⟨s17,s18⟩:=q20;refine c8<|S3 2 J<|nL J g7<|S2 1 J ?_;refine cN h (λhc h=>?_) λhc h=>?_
  ·refine b8 ?_;refine jq h (λj25=>St.of [(0,.L iF a0),(1,.L iF a1),(2,.bool a2),(7,.sl 30),(8,.I s17)] [(30,⟨List.map iF j25,(List.map iF j25).length,true,1,true⟩)]) (λj25 h=>?_) λκ24 h=>?_
   ·refine S6 3 J ?_;exact eL h (Wk.trans (n0 _ [30]) (WP (λl=>if l=910007 then 30 else l)))
   ·refine c9 ?_;refine S3 3 J<|iL h J J g7 m7 λv26 hv19 h=>S1 1 J<|cA h a7y J J λv27 _ h=>S1 1 J<|y0 J (d1W J J d1z J)<|yN ?_;refine cN h (λhc h=>?_) λhc h=>?_
    ·refine S5 3 J ?_;refine y0 J (u7 (f:=iF) (cs:=[.I v26]) hv19 J J g7 m7 J J)<|S1 1 J<|y0 J (G1 (f:=iF) (l:=[v26]) J g7 m7 y6 J J nl J J)<|r9 h λv28 hv21 h=>H5 J (F1 (f:=iF) hv21 J J J J J J (.inl ⟨_,J,J⟩) g7 m7 F9 y6 J (λ_=>J)) J J J<|S2 1 J ?_;exact eJ h (Wk.trans (n0 _ [30]) W)
    ·refine b8 ?_;exact eJ h (Wk.trans (n0 _ [910007]) (WP (λl=>if l=30 then 910007 else l)))
  ·refine o5 ?_;refine c4<|c4<|k7 ?_;have h:=xL hx14 h;exact eJ h (Wk.trans (n0 _ [910007]) W)

theorem b3E{a0 a1}:PO Tryz.prog 145 [k8.Pv a0,.L iF a1] (a6s a0 a1) λr=>.L iF r:=by
 refine pO Tryz.func145 λr h _ _=>?_;refine S4 2 J<|S3 1 J<|cF h a0u J J λv1 _ h=>S2 1 J<|S3 2 J<|cF h b10 J J λv2 _ h=>S2 1 J ?_;refine jq h (λj51=>St.of [(6,.L iF j51)] []) (λj51 h=>?_) λκ50 h=>?_
 ·refine S4 2 J ?_;refine b6 ?_;cases h;exact f1
 ·refine S4 1 J ?_;refine c9<|lq h (λq=>St.of [(2,.ptr 2 0 0),(5,.L iF v1),(6,.L iF q.1),(7,.I q.2)] [(2,vR (k8.Pv a0) 3)]) W λq56 x55 h hx40=>?_;obtain⟨s53,s54⟩:=q56;refine c8<|S3 2 J<|nL J g7<|S2 1 J ?_;refine cN h (λhc h=>?_) λhc h=>?_
  ·refine b8 ?_;refine jq h (λj78=>St.of [(2,.ptr 2 0 0),(5,.L iF v1),(6,.L iF j78),(7,.I s54)] [(2,vR (k8.Pv a0) 3)]) (λj78 h=>?_) λκ77 h=>?_
   ·refine S6 3 J ?_;exact eL h W
   ·refine c9 ?_;refine sR<|y0 J (A2 J g7 m7)<|S1 1 J<|r9 h λv79 hv57 h=>y1 J (a4L (f:=iF) hv57 J J (.inl ⟨_,J,J⟩) g7 m7 F9 y6 J (λ_=>J)) J<|S2 1 J ?_;refine jq h (λj89=>St.of [(2,.ptr 2 0 0),(5,.L iF v1),(7,.I s54),(8,.sl 23)] [(23,⟨List.map iF j89,(List.map iF j89).length,true,1,true⟩),(2,vR (k8.Pv a0) 3)]) (λj89 h=>?_) λκ88 h=>?_
    ·refine S5 2 J ?_;obtain⟨v90,hv65,h⟩:=a8s h;refine ycL J (u6 J b10 J hv65) J<|S2 1 J ?_;exact eJ h W
    ·refine S4 1 J ?_;refine c9<|lq h (λq=>St.of [(2,.ptr 2 0 0),(5,.L iF v1),(6,.L iF s53),(7,.I s54),(8,.sl 23),(9,.I q.1)] [(23,⟨List.map iF q.2,(List.map iF q.2).length,true,1,true⟩),(2,vR (k8.Pv a0) 3)]) (Wk.trans (n0 _ [23]) W) λq95 x94 h hx68=>?_;obtain⟨s92,s93⟩:=q95;refine c8<|S3 2 J<|nL J g7<|S2 1 J ?_;refine cN h (λhc h=>?_) λhc h=>?_
     ·refine b8 ?_;refine c8<|c9<|a1A [] o9 (by kernel_rfl) (by kernel_rfl)<|S7 4 J<|r9 h λv96 hv69 h=>d0 J (u7 (f:=iF) (cs:=[.I v96]) hv69 J J g7 m7 J J) J<|S7 1 J<|r9 h λv97 hv70 h=>d2f J (u6 J b5F J hv70) J<|r9 h λv98 hv71 h=>d3a J (F1 (f:=iF) hv71 J J J J J J (.inl ⟨_,J,J⟩) g7 m7 F9 y6 J (λ_=>J)) J J J J J<|S8 1 J<|S6 3 J ?_
      exact eL h (Wk.trans (n0 _ [37]) (WP (λl=>if l=23 then 37 else l)))
     ·refine o5 ?_;refine c4<|c4<|k7 ?_;have h:=xL hx68 h;exact eJ h (Wk.trans (n0 _ [23]) W)
  ·refine o5 ?_;refine c4<|c4<|k7 ?_;have h:=xL hx40 h;exact eJ h W

theorem b19{a0 a1}:PO Tryz.prog 229 [k8.Pv a0,.I a1] (a6v a0 a1) λr=>.bool r:=by
 refine pO Tryz.func229 λr h _ _=>?_;refine S4 2 J<|S3 2 J<|cF h F8 J J λv1 _ h=>S2 6 J<|S4 3 J<|b6 ?_;cases h;exact f1

theorem c06{a0 a1 a2}:PO Tryz.prog 146 [k8.Pv a0,.L g9.Pv a1,.L iF a2] (a8W a0 a1 a2) λr=>.L iF r:=by
 refine pO Tryz.func146 λr h _ _=>?_;refine S4 2 J<|sR<|y0 J (A2 J g7 m7)<|S2 1 J<|S3 1 J<|cF h b16 J J λv1 _ h=>S2 1 J ?_;refine jq h (λj20=>St.of [(7,.sl 910007)] [(910007,⟨List.map iF j20,(List.map iF j20).length,true,1,true⟩)]) (λj20 h=>?_) λκ19 h=>?_
 ·refine S4 2 J ?_;refine b6 ?_;cases h;exact f1
 ·refine S4 1 J ?_;refine c9<|lq h (λq=>St.of [(2,.L iF a2),(3,.ptr 3 0 0),(7,.sl 910007),(8,.L B9.Pv v1),(9,.I q.1)] [(3,vR (k8.Pv a0) 3),(910007,⟨List.map iF q.2,(List.map iF q.2).length,true,1,true⟩)]) (Wk.trans (C9 (t:=7) (l:=920007) (z:=1) J J) (WP (λl=>if l=910007 then 920007 else l))) λq25 x24 h hx19=>?_
  obtain⟨s22,s23⟩:=q25;refine c8<|S3 2 J<|nL J a23<|S2 1 J ?_;refine cN h (λhc h=>?_) λhc h=>?_
  ·refine b8 ?_;refine jq h (λj32=>St.of [(2,.L iF a2),(3,.ptr 3 0 0),(7,.sl 51),(8,.L B9.Pv v1),(9,.I s22)] [(51,⟨List.map iF j32,(List.map iF j32).length,true,1,true⟩),(3,vR (k8.Pv a0) 3)]) (λj32 h=>?_) λκ31 h=>?_
   ·refine S6 3 J ?_;exact eL h (Wk.trans (n0 _ [51]) (WP (λl=>if l=910007 then 51 else l)))
   ·refine c9 ?_;refine dr [] o9 (by kernel_rfl) (by kernel_rfl)<|S7 3 J<|r9 h λv33 hv26 h=>d0 J (u7 (f:=B9.Pv) (cs:=B9.Pc v33) hv26 J J a23 a5f J J) J<|S7 2 J<|r9 h λv34 hv27 h=>d2 J (D4 J b19 J hv27) J<|S7 1 J<|D0 J (λhg _ hN=>om (d:=.L iF a2) J) J<|D0 J (λhg _ hN=>om (d:=.L B9.Pv v1) J) J<|D0 J (λhg _ hN=>mI J) J<|J7 J (λhg=>u7 (f:=B9.Pv) (cs:=B9.Pc v33) hv26 (ct hg) (ct hg) a23 a5f J J) J<|D0 J (λhg _ hN=>A5 (ct hg) c5e J) J<|J7 J (λhg=>F6 (ct hg) C5 J) J<|r9 h λv35 hv28 h=>b41 J (λhg=>D4 J a7y (D8 (ct hg) (D8 (ct hg) J)) (G8 hv28 hg)) J<|d7 J (λ_ hN=>z7 J J J (λq=>eqT q)) J<|S7 1 J<|J7 J (λhg=>oL J J J a0l Z4 nl J) J<|D0 J (λhg _ hN=>om (d:=.L B9.Pv v1) J) J<|D0 J (λhg _ hN=>mI J) J<|J7 J (λhg=>u7 (f:=B9.Pv) (cs:=B9.Pc v33) hv26 (ct hg) (ct hg) a23 a5f J J) J<|D0 J (λhg _ hN=>A5 (ct hg) c5f J) J<|J7 J (λhg=>F6 (ct hg) C5 J) J<|r9 h λv36 hv29 h=>b41 J (λhg=>D4 J b19 (D8 (ct hg) (D8 (ct hg) J)) (G8 hv29 hg)) J<|d7 J (λ_ hN=>z7 J J J (λq=>eqT q)) J<|G0 ?_
    refine cN h (λhc h=>?_) λhc h=>?_
    ·refine S5 3 J ?_;refine y0 J (u7 (f:=B9.Pv) (cs:=B9.Pc v33) hv26 J J a23 a5f J J)<|S1 2 J<|y0 J (G1 (f:=iF) (l:=[v33.Val]) J g7 m7 y6 J J nl J J)<|r9 h λv37 hv30 h=>H5 J (F1 (f:=iF) hv30 J J J J J J (.inl ⟨_,J,J⟩) g7 m7 F9 y6 J (λ_=>J)) J J J<|S2 1 J ?_;exact eJ h (Wk.trans (n0 _ [51]) W)
    ·refine b8 ?_;exact eJ h (Wk.trans (n0 _ [910007]) (WP (λl=>if l=51 then 910007 else l)))
  ·refine o5 ?_;refine c4<|c4<|k7 ?_;have h:=xL hx19 h;exact eJ h (Wk.trans (n0 _ [910007]) W)

theorem a8Q{a0 a1}:PO Tryz.prog 26 [.L iF a0,.L iF a1] (a3x a0 a1) λr=>.bool r:=by
 refine pO Tryz.func26 λr h _ _=>?_;refine S4 1 J<|c8<|S3 1 J<|nL J g7<|S1 1 J<|nL J g7<|S2 1 J ?_;refine cN h (λhc h=>?_) λhc h=>?_
 ·refine S4 1 J ?_;refine b6 ?_;cases h;exact f1
 ·refine b8 ?_;refine jq h (λ_=>St.of [] []) (λq7 h=>?_) λκ6 h=>?_
  ·refine S4 1 J ?_;refine b6 ?_;cases h;exact f1
  ·refine S4 1 J ?_;refine c9<|lq h (λs9=>St.of [(0,.L iF a0),(1,.L iF a1),(5,.I s9)] []) W λs9 x10 h hx9=>c8<|S3 2 J<|nL J g7<|S2 1 J ?_;refine cN h (λhc h=>?_) λhc h=>?_
   ·refine b8 ?_;refine c8<|c9<|dr [] o9 (by kernel_rfl) (by kernel_rfl)<|S7 2 J<|r9 h λv11 hv10 h=>d0 J (u7 (f:=iF) (cs:=[.I v11]) hv10 J J g7 m7 J J) J<|S7 3 J<|r9 h λv12 hv11 h=>d0 J (u7 (f:=iF) (cs:=[.I v12]) hv11 J J g7 m7 J J) J<|S8 2 J ?_
    refine cN h (λhc h=>?_) λhc h=>?_
    ·refine S4 1 J ?_;refine b6 ?_;have h:=xL hx9 h;cases h;exact f1
    ·refine b8 ?_;refine S6 3 J ?_;exact eL h W
   ·refine o5 ?_;refine c4<|c4<|k7 ?_;have h:=xL hx9 h;exact eJ h W

theorem b6x{a0 a1 a2}:PO Tryz.prog 87 [k8.Pv a0,.L g9.Pv a1,.L iF a2] (a7z a0 a1 a2) λr=>.tup [.L iF r.1,.I r.2]:=by
 refine pO Tryz.func87 λr h _ _=>?_;refine S4 3 J<|S3 2 J<|cF h b3E J J λv1 _ h=>S2 1 J ?_;refine jq h (λj13=>St.of [(8,.L iF j13)] []) (λj13 h=>?_) λκ12 h=>?_
 ·refine S4 3 J ?_;refine b6 ?_;cases h;exact f2
 ·refine S4 1 J ?_;refine c9<|lq h (λq=>St.of [(1,.L g9.Pv a1),(3,.ptr 3 0 0),(8,.L iF q.1),(9,.I q.2)] [(3,vR (k8.Pv a0) 3)]) W λq18 x17 h hx13=>?_;obtain⟨s15,s16⟩:=q18;refine c8<|S4 2 J ?_;refine cN h (λhc h=>?_) λhc h=>?_
  ·refine b8 ?_;refine c8<|c9<|dr [9] o9 (by kernel_rfl) (by kernel_rfl)<|S7 1 J<|d1n J (A2 J g7 m7) J<|S7 1 J<|r9 h λv19 hv14 h=>d3 J (a4L (f:=iF) hv14 J J (.inl ⟨_,J,J⟩) g7 m7 F9 y6 J (λ_=>J)) J J J<|S7 3 J<|r9 h λv20 hv15 h=>d2f J (u6 J c06 J hv15) J<|r9 h λv21 hv16 h=>d3a J (F1 (f:=iF) hv16 J J J J J J (.inl ⟨_,J,J⟩) g7 m7 F9 y6 J (λ_=>J)) J J J J J<|r9 h λv22 hv17 h=>d5f J (u6 J b3E J hv17) J J<|S8 1 J<|c8<|S3 2 J<|cA h a8Q J J λv23 _ h=>yN ?_
   refine cN h (λhc h=>?_) λhc h=>?_
   ·refine S4 4 J ?_;refine b6 ?_;have h:=xL hx13 h;cases h;exact f2
   ·refine b8 ?_;refine S6 2 J<|S6 3 J ?_;exact eL h W
  ·refine o5 ?_;refine c4<|c4<|k7 ?_;have h:=xL hx13 h;exact eJ h W

theorem c04{a0 a1 a2}:PO Tryz.prog 40 [k8.Pv a0,.L g9.Pv a1,.L iF a2] (b17 a0 a1 a2) λr=>.L iF r:=by
 refine pO Tryz.func40 λr h _ _=>?_;refine S4 2 J<|S3 3 J<|cF h b6x J J λv1 _ h=>S2 5 J<|S4 2 J<|b6 ?_;cases h;exact f1

theorem c05{a0 a1 a2}:PO Tryz.prog 271 [k8.Pv a0,.L g9.Pv a1,.L iF a2] (b18 a0 a1 a2) λr=>.L iF r:=by
 refine pO Tryz.func271 λr h _ _=>?_;refine S4 2 J<|S3 3 J<|cF h c04 J J λv1 _ h=>S2 1 J<|sR<|y0 J (A2 J g7 m7)<|S2 1 J<|S3 1 J<|cF h a0u J J λv2 _ h=>S2 1 J ?_;refine jq h (λj17=>St.of [(8,.sl 910008)] [(910008,⟨List.map iF j17,(List.map iF j17).length,true,1,true⟩)]) (λj17 h=>?_) λκ16 h=>?_
 ·refine S4 2 J ?_;refine b6 ?_;cases h;exact f1
 ·refine S4 1 J ?_;refine c9<|lq h (λq=>St.of [(7,.L iF v1),(8,.sl 910008),(9,.L iF v2),(10,.I q.1)] [(910008,⟨List.map iF q.2,(List.map iF q.2).length,true,1,true⟩)]) (Wk.trans (C9 (t:=8) (l:=920008) (z:=1) J J) (WP (λl=>if l=910008 then 920008 else l))) λq22 x21 h hx16=>?_
  obtain⟨s19,s20⟩:=q22;refine c8<|S3 2 J<|nL J g7<|S2 1 J ?_;refine cN h (λhc h=>?_) λhc h=>?_
  ·refine b8 ?_;refine jq h (λj27=>St.of [(7,.L iF v1),(8,.sl 37),(9,.L iF v2),(10,.I s19)] [(37,⟨List.map iF j27,(List.map iF j27).length,true,1,true⟩)]) (λj27 h=>?_) λκ26 h=>?_
   ·refine S6 3 J ?_;exact eL h (Wk.trans (n0 _ [37]) (WP (λl=>if l=910008 then 37 else l)))
   ·refine c9 ?_;refine S3 3 J<|iL h J J g7 m7 λv28 hv21 h=>S1 1 J<|cA h a7y J J λv29 _ h=>S2 1 J ?_;refine cN h (λhc h=>?_) λhc h=>?_
    ·refine S5 3 J ?_;refine y0 J (u7 (f:=iF) (cs:=[.I v28]) hv21 J J g7 m7 J J)<|S1 1 J<|y0 J (G1 (f:=iF) (l:=[v28]) J g7 m7 y6 J J nl J J)<|r9 h λv30 hv23 h=>H5 J (F1 (f:=iF) hv23 J J J J J J (.inl ⟨_,J,J⟩) g7 m7 F9 y6 J (λ_=>J)) J J J<|S2 1 J ?_;exact eJ h (Wk.trans (n0 _ [37]) W)
    ·refine b8 ?_;exact eJ h (Wk.trans (n0 _ [910008]) (WP (λl=>if l=37 then 910008 else l)))
  ·refine o5 ?_;refine c4<|c4<|k7 ?_;have h:=xL hx16 h;exact eJ h (Wk.trans (n0 _ [910008]) W)

theorem b5H{a0 a1}:PO Tryz.prog 191 [k8.Pv a0,.L g9.Pv a1] (a3z a0 a1) λr=>.L iF r:=by
 refine pO Tryz.func191 λr h _ _=>?_;unfold a3z at h;refine S4 2 J<|dr [] o9 (by kernel_rfl) (by kernel_rfl)<|S7 4 J<|r9 h λv1 hv1 h=>d2f J (u6 J c07 J hv1) J<|r9 h λv2 hv2 h=>d2f J (u6 J c05 J hv2) J<|S8 1 J<|b6 ?_
 cases h;exact f1

theorem a80{a0}:PO Tryz.prog 114 [c7.Pv a0] (a1O a0) λr=>.L iF r:=by
 refine pO Tryz.func114 λr h _ _=>?_;refine S4 2 J<|S3 4 J<|cF h b5H J J λv1 _ h=>S2 1 J<|b6 ?_;cases h;exact f1

theorem a38{a0 a1}:PO Tryz.prog 136 [c7.Pv a0,.I a1] (Y6 a0 a1) λr=>.bool r:=by
 refine pO Tryz.func136 λr h _ _=>?_;refine S4 2 J<|S3 3 J<|cF h F8 J J λv1 _ h=>S2 6 J<|S4 3 J<|b6 ?_;cases h;exact f1

theorem b0U{a0 a1}:PO Tryz.prog 181 [c7.Pv a0,.I a1] (a7A a0 a1) λr=>.bool r:=by
 refine pO Tryz.func181 λr h _ _=>?_;refine S4 2 J<|S3 3 J<|cF h F8 J J λv1 _ h=>S2 6 J<|S3 2 J<|cA h a38 J J λv2 _ h=>S1 1 J<|l4 J (λhg=>oF J b4S J)<|l4 J (λhg=>oS (ct hg) J J C5 J)<|l4 J (λhg=>y5 (ct hg) J J)<|y0 J (z7 J J J (λq=>eqT q))<|S1 1 J<|l4 J (λhg=>oF J b4T J)<|l4 J (λhg=>oS (ct hg) J J b05 J)<|l4 J (λhg=>a2f (ct hg) J)<|y0 J (z7 J J J (λq=>eqT q))<|S2 1 J<|b6 ?_;cases h;exact f1

theorem b83{a0}:PO Tryz.prog 110 [c7.Pv a0] (a9J a0) λr=>.L iF r:=by
 refine pO Tryz.func110 λr h _ _=>?_;refine S4 2 J<|sR<|y0 J (A2 J g7 m7)<|S2 1 J<|S3 1 J<|cF h a80 J J λv1 _ h=>S2 1 J ?_;refine jq h (λj16=>St.of [(3,.sl 910003)] [(910003,⟨List.map iF j16,(List.map iF j16).length,true,1,true⟩)]) (λj16 h=>?_) λκ15 h=>?_
 ·refine S4 2 J ?_;refine b6 ?_;cases h;exact f1
 ·refine S4 1 J ?_;refine c9<|lq h (λq=>St.of [(1,.ptr 1 0 0),(3,.sl 910003),(4,.L iF v1),(5,.I q.1)] [(1,vR (c7.Pv a0) 8),(910003,⟨List.map iF q.2,(List.map iF q.2).length,true,1,true⟩)]) (Wk.trans (C9 (t:=3) (l:=920003) (z:=1) J J) (WP (λl=>if l=910003 then 920003 else l))) λq21 x20 h hx15=>?_
  obtain⟨s18,s19⟩:=q21;refine c8<|S3 2 J<|nL J g7<|S2 1 J ?_;refine cN h (λhc h=>?_) λhc h=>?_
  ·refine b8 ?_;refine jq h (λj26=>St.of [(1,.ptr 1 0 0),(3,.sl 27),(4,.L iF v1),(5,.I s18)] [(27,⟨List.map iF j26,(List.map iF j26).length,true,1,true⟩),(1,vR (c7.Pv a0) 8)]) (λj26 h=>?_) λκ25 h=>?_
   ·refine S6 3 J ?_;exact eL h (Wk.trans (n0 _ [27]) (WP (λl=>if l=910003 then 27 else l)))
   ·refine c9 ?_;refine dr [] o9 (by kernel_rfl) (by kernel_rfl)<|S7 3 J<|r9 h λv27 hv20 h=>d0 J (u7 (f:=iF) (cs:=[.I v27]) hv20 J J g7 m7 J J) J<|S7 1 J<|r9 h λv28 hv21 h=>d2 J (D4 J b0U J hv21) J<|G0 ?_
    refine cN h (λhc h=>?_) λhc h=>?_
    ·refine S5 3 J ?_;refine y0 J (u7 (f:=iF) (cs:=[.I v27]) hv20 J J g7 m7 J J)<|S1 1 J<|y0 J (G1 (f:=iF) (l:=[v27]) J g7 m7 y6 J J nl J J)<|r9 h λv29 hv22 h=>H5 J (F1 (f:=iF) hv22 J J J J J J (.inl ⟨_,J,J⟩) g7 m7 F9 y6 J (λ_=>J)) J J J<|S2 1 J ?_;exact eJ h (Wk.trans (n0 _ [27]) W)
    ·refine b8 ?_;exact eJ h (Wk.trans (n0 _ [910003]) (WP (λl=>if l=27 then 910003 else l)))
  ·refine o5 ?_;refine c4<|c4<|k7 ?_;have h:=xL hx15 h;exact eJ h (Wk.trans (n0 _ [910003]) W)

theorem a8S{a0 a1 a2}:PO Tryz.prog 202 [k8.Pv a0,.I a1,C6.Pv a2] (a1h a0 a1 a2) λr=>k8.Pv r:=by
 refine pO Tryz.func202 λr h _ _=>?_;unfold a1h at h;refine S4 3 J<|sR<|y0 J (A2 J H6 H2)<|S1 2 J<|r9 h λv1 hv1 h=>y1 J (a4L (f:=n8.Pv) hv1 J J (.inl ⟨_,J,J⟩) H6 H2 b7J a60 J (λ_=>J)) J<|S2 1 J<|S3 3 J<|r9 h λv2 hv2 h=>y0 J (a0r (f:=n8.Pv) hv2 J J J J H6 H2 J)<|S1 1 J<|a43 (f:=n8.Pv) (v:=(⟨v2.State,v2.Gen,a2⟩:n8)) hv2 J J (.inr J) a6Z<|yN<|S3 5 J<|y0 J (o8 (cs:=[.sl 11,.I a0.Last,.I a0.Serial]) J c1Z c12 J J J)<|S2 1 J<|b6 ?_;cases h;exact⟨J,[_],⟨oL J J J a0l Z4 nl J,tr⟩,J,io⟩

theorem a2S{a0 a1 a2}:PO Tryz.prog 182 [k8.Pv a0,.I a1,C6.Pv a2] (M9 a0 a1 a2) λr=>.tup [k8.Pv r.1,.I r.2]:=by
 refine pO Tryz.func182 λr h _ _=>?_;refine S4 4 J<|S3 1 J<|cF h R2 J J λv1 _ h=>S1 1 J<|cA h a0t J J λv2 _ h=>S2 5 J<|c8<|S4 2 J ?_;refine cN h (λhc h=>?_) λhc h=>?_
 ·refine S4 4 J ?_;refine b6 ?_;cases h;exact⟨J,[_,_],⟨oL J J J a0l Z4 nl J,⟨J,tr⟩⟩,J,io⟩
 ·refine b8 ?_;refine S3 3 J<|cF h a8S J J λv3 _ h=>S2 2 J<|b6 ?_;cases h;exact⟨J,[_,_],⟨oL J J J a0l Z4 nl J,⟨J,tr⟩⟩,J,io⟩

theorem b5I{a0 a1}:PO Tryz.prog 183 [w7.Pv a0,o6.Pv a1] (a5B a0 a1) λr=>.tup [w7.Pv r.1,.I r.2]:=by
 refine pO Tryz.func183 λr h _ _=>?_;refine S4 4 J<|c8<|S3 2 J<|nL J R9<|S2 3 J ?_;refine cN h (λhc h=>?_) λhc h=>?_
 ·refine S4 3 J ?_;refine b6 ?_;cases h;exact⟨J,[_,_],⟨oL J J J a8m a4w nl J,⟨J,tr⟩⟩,J,io⟩
 ·refine b8 ?_;refine dr [] o9 (by kernel_rfl) (by kernel_rfl)<|d1n J (A2 J R9 H3) J<|S7 2 J<|r9 h λv1 hv1 h=>d3 J (a4L (f:=o6.Pv) hv1 J J (.inl ⟨_,J,J⟩) R9 H3 b7L a3Y J (λ_=>J)) J J J<|S7 1 J<|d1n J (G1 (f:=o6.Pv) (l:=[a1]) J R9 H3 a3Y J J nl J J) J<|r9 h λv2 hv2 h=>d3a J (F1 (f:=o6.Pv) hv2 J J J J J J (.inl ⟨_,J,J⟩) R9 H3 b7L a3Y J (λ_=>J)) J J J J J<|S7 2 J<|d7 J (λ_ hN=>o8 (cs:=[.sl 19,.I a0.Cap]) J c10 c13 J J J) J<|A3 (x':=.agg [.sl 19,.I a0.Cap]) (cl':=false) J J (.inl J) a4w<|S8 1 J<|b6 ?_
  cases h;exact⟨J,[_,_],⟨oL J J J a8m a4w nl J,⟨J,tr⟩⟩,J,io⟩

theorem c2R{a0}:PO Tryz.prog 266 [.I a0] (b1T a0) λr=>.I r:=by
 refine pO Tryz.func266 λr h _ _=>?_;refine S4 1 J<|c8<|S3 1 J<|cA h a7v J J λv1 _ h=>yN ?_;refine cN h (λhc h=>?_) λhc h=>?_
 ·refine S4 1 J ?_;refine b6 ?_;cases h;exact f1
 ·refine b8 ?_;refine c8<|S4 2 J ?_;refine cN h (λhc h=>?_) λhc h=>?_
  ·refine S4 1 J ?_;refine b6 ?_;cases h;exact f1
  ·refine b8 ?_;refine S4 3 J<|b6 ?_;cases h;exact f1

theorem b0q{a0 a1 a2}:PO Tryz.prog 265 [c7.Pv a0,.I a1,.I a2] (a4N a0 a1 a2) λr=>c7.Pv r:=by
 refine pO Tryz.func265 λr h _ _=>?_;refine S4 2 J<|S3 3 J<|cF h F8 J J λv1 _ h=>S2 6 J<|c8<|S4 2 J ?_;refine cN h (λhc h=>?_) λhc h=>?_
 ·refine S4 2 J ?_;refine b6 ?_;cases h;exact⟨J,[_],⟨oL J J J A6 u5 nl J,tr⟩,J,io⟩
 ·refine b8 ?_;refine S4 3 J<|S3 4 J<|cF h a2S J J λv2 _ h=>S2 5 J<|S4 2 J<|b6 ?_;cases h;exact⟨J,[_],⟨oL J J J A6 u5 nl J,tr⟩,J,io⟩

theorem a3g{a0 a1}:PO Tryz.prog 184 [c7.Pv a0,.I a1] (a0x a0 a1) λr=>c7.Pv r:=by
 refine pO Tryz.func184 λr h _ _=>?_;refine S4 2 J<|S3 3 J<|cF h F8 J J λv1 _ h=>S2 6 J<|dr [] o9 (by kernel_rfl) (by kernel_rfl)<|S7 4 J<|r9 h λv2 hv2 h=>d2 J (D4 J c2R J hv2) J<|r9 h λv3 hv3 h=>d2f J (u6 J b0q J hv3) J<|A3 (x':=c7.Pv v3) (cl':=true) J J (.inr J) u5<|G0<|b6 ?_
 cases h;exact⟨J,[_],⟨oL J J J A6 u5 nl J,tr⟩,J,io⟩

theorem b0r{a0 a1}:PO Tryz.prog 111 [c7.Pv a0,.I a1] (a2T a0 a1) λr=>c7.Pv r:=by
 refine pO Tryz.func111 λr h _ _=>?_;refine S4 2 J<|c8<|S3 2 J<|cA h b0U J J λv1 _ h=>S2 1 J ?_;refine cN h (λhc h=>?_) λhc h=>?_
 ·refine S4 2 J ?_;refine b6 ?_;cases h;exact⟨J,[_],⟨oL J J J A6 u5 nl J,tr⟩,J,io⟩
 ·refine b8 ?_;refine S3 3 J<|cF h F8 J J λv2 _ h=>S2 6 J<|S4 2 J<|S3 4 J<|cF h a2S J J λv3 _ h=>S2 5 J<|S3 5 J<|y0 J (o8 (cs:=[.I 1,.I a1,.I v2.1.Prog]) J b4e a3Y J J J)<|cF h b5I J J λv4 _ h=>S2 5 J<|S3 2 J<|cF h a3g J J λv5 _ h=>S2 1 J<|b6 ?_;cases h;exact⟨J,[_],⟨oL J J J A6 u5 nl J,tr⟩,J,io⟩

theorem c1e{a0 a1}:PO Tryz.prog 185 [c7.Pv a0,.L iF a1] (a8Z a0 a1) λr=>.L iF r:=by
 refine pO Tryz.func185 λr h _ _=>?_;refine S4 2 J<|sR<|y0 J (A2 J g7 m7)<|S2 1 J ?_;refine jq h (λj17=>St.of [(5,.sl 910005)] [(910005,⟨List.map iF j17,(List.map iF j17).length,true,1,true⟩)]) (λj17 h=>?_) λκ16 h=>?_
 ·refine S4 2 J ?_;refine b6 ?_;cases h;exact f1
 ·refine S4 1 J ?_;refine c9<|lq h (λq=>St.of [(1,.L iF a1),(2,.ptr 2 0 0),(5,.sl 910005),(6,.I q.1)] [(2,vR (c7.Pv a0) 8),(910005,⟨List.map iF q.2,(List.map iF q.2).length,true,1,true⟩)]) (Wk.trans (C9 (t:=5) (l:=920005) (z:=1) J J) (WP (λl=>if l=910005 then 920005 else l))) λq22 x21 h hx16=>?_
  obtain⟨s19,s20⟩:=q22;refine c8<|S3 2 J<|nL J g7<|S2 1 J ?_;refine cN h (λhc h=>?_) λhc h=>?_
  ·refine b8 ?_;refine jq h (λj28=>St.of [(1,.L iF a1),(2,.ptr 2 0 0),(5,.sl 35),(6,.I s19)] [(35,⟨List.map iF j28,(List.map iF j28).length,true,1,true⟩),(2,vR (c7.Pv a0) 8)]) (λj28 h=>?_) λκ27 h=>?_
   ·refine S6 3 J ?_;exact eL h (Wk.trans (n0 _ [35]) (WP (λl=>if l=910005 then 35 else l)))
   ·refine c9 ?_;refine dr [] o9 (by kernel_rfl) (by kernel_rfl)<|S7 3 J<|r9 h λv29 hv22 h=>d0 J (u7 (f:=iF) (cs:=[.I v29]) hv22 J J g7 m7 J J) J<|S7 1 J<|r9 h λv30 hv23 h=>d2 J (D4 J a38 J hv23) J<|S7 1 J<|D0 J (λhg _ hN=>om (d:=.sl 910005) J) J<|D0 J (λhg _ hN=>om (d:=.L iF a1) J) J<|D0 J (λhg _ hN=>mI J) J<|J7 J (λhg=>u7 (f:=iF) (cs:=[.I v29]) hv22 (ct hg) (ct hg) g7 m7 J J) J<|J7 J (λhg=>F6 (ct hg) C5 J) J<|r9 h λv31 hv24 h=>b41 J (λhg=>D4 J a7y (D8 (ct hg) (D8 (ct hg) J)) (G8 hv24 hg)) J<|D0 J (λhg _ hN=>a2f (ct hg) J) J<|d7 J (λ_ hN=>z7 J J J (λq=>eqT q)) J<|G0 ?_
    refine cN h (λhc h=>?_) λhc h=>?_
    ·refine S5 3 J ?_;refine y0 J (u7 (f:=iF) (cs:=[.I v29]) hv22 J J g7 m7 J J)<|S1 1 J<|y0 J (G1 (f:=iF) (l:=[v29]) J g7 m7 y6 J J nl J J)<|r9 h λv32 hv25 h=>H5 J (F1 (f:=iF) hv25 J J J J J J (.inl ⟨_,J,J⟩) g7 m7 F9 y6 J (λ_=>J)) J J J<|S2 1 J ?_;exact eJ h (Wk.trans (n0 _ [35]) W)
    ·refine b8 ?_;exact eJ h (Wk.trans (n0 _ [910005]) (WP (λl=>if l=35 then 910005 else l)))
  ·refine o5 ?_;refine c4<|c4<|k7 ?_;have h:=xL hx16 h;exact eJ h (Wk.trans (n0 _ [910005]) W)

theorem b8U{a0 a1}:PO Tryz.prog 186 [.L m8.Pv a0,.L iF a1] (a9E a0 a1) λr=>.tup [.L m8.Pv r.1,.L iF r.2]:=by
 refine pO Tryz.func186 λr h _ _=>?_;refine S4 2 J<|sR<|y0 J (A2 J P1 Q1)<|S2 1 J<|sR<|y0 J (A2 J g7 m7)<|S2 1 J ?_;refine jq h (λq=>St.of [(6,.sl 910006),(7,.sl 910007)] [(910007,⟨List.map iF q.1,(List.map iF q.1).length,true,1,true⟩),(910006,⟨List.map m8.Pv q.2,(List.map m8.Pv q.2).length,true,3,true⟩)]) (λq20 h=>?_) λκ17 h=>?_
 ·obtain⟨j18,j19⟩:=q20;refine S4 4 J<|b6 ?_;cases h;exact f2
 ·refine S4 1 J ?_;refine c9<|lq h (λq=>St.of [(0,.L m8.Pv a0),(1,.L iF a1),(6,.sl 910006),(7,.sl 910007),(8,.I q.1)] [(910006,⟨List.map m8.Pv q.2.1,(List.map m8.Pv q.2.1).length,true,3,true⟩),(910007,⟨List.map iF q.2.2,(List.map iF q.2.2).length,true,1,true⟩)]) (Wk.trans (C9 (t:=6) (l:=920006) (z:=3) J J) (Wk.trans (C9 (t:=7) (l:=920007) (z:=1) J J) (WP (λl=>if l=910006 then 920006 else if l=910007 then 920007 else l)))) λq26 x25 h hx14=>?_
  obtain⟨s22,s23,s24⟩:=q26;refine c8<|S3 2 J<|nL J P1<|S2 1 J ?_;refine cN h (λhc h=>?_) λhc h=>?_
  ·refine b8 ?_;refine c8<|c9<|S3 2 J<|iL h J J P1 Q1 λv27 _ h=>S2 3 J ?_;refine jq h (λq=>St.of [(0,.L m8.Pv a0),(1,.L iF a1),(6,.sl 910006),(7,.sl 38),(8,.I s22),(9,.ptr 9 0 0)] [(9,vR (.agg [.I v27.Target,.bool q.1,.I v27.Call]) 3),(38,⟨List.map iF q.2,(List.map iF q.2).length,true,1,true⟩),(910006,⟨List.map m8.Pv s23,(List.map m8.Pv s23).length,true,3,true⟩)]) (λq33 h=>?_) λκ30 h=>?_
   ·obtain⟨j31,j32⟩:=q33;refine S5 2 J<|y0 J (G1 (f:=m8.Pv) (l:=[(⟨v27.Target,j31,v27.Call⟩:m8)]) J P1 Q1 a9p J J nl J J)<|r9 h λv34 hv19 h=>H5 J (F1 (f:=m8.Pv) hv19 J J J J J J (.inl ⟨_,J,J⟩) P1 Q1 b7K a9p J (λ_=>J)) J J J<|S2 1 J<|S6 3 J ?_;exact eL h (Wk.trans (n0 _ [42,38]) (WP (λl=>if l=910006 then 42 else if l=910007 then 38 else l)))
   ·refine S3 3 J ?_;refine l4 J (λhg=>om (d:=.L iF a1) J)<|l4 J (λhg=>oF J c48 J)<|l4 J (λhg=>oS (ct hg) J J C5 J)<|r9 h λv35 hv20 h=>l4 J (λhg=>D4 J a7w (D8 (ct hg) (D8 (ct hg) J)) (G8 hv20 hg))<|l4 J (λhg=>y5 (ct hg) J J)<|y0 J (z7 J J J (λq=>eqT q))<|yN ?_;refine cN h (λhc h=>?_) λhc h=>?_
    ·refine S4 2 J ?_;refine S4 3 J ?_;refine cN h (λhc h=>?_) λhc h=>?_
     ·refine S5 2 J ?_;refine y0 J (G1 (f:=iF) (l:=[s22]) J g7 m7 y6 J J nl J J)<|r9 h λv36 hv21 h=>H5 J (F1 (f:=iF) hv21 J J J J J J (.inl ⟨_,J,J⟩) g7 m7 F9 y6 J (λ_=>J)) J J J<|S2 1 J ?_;exact eJ h (Wk.trans (n0 _ [910006,38]) W)
     ·refine b8 ?_;exact eJ h (Wk.trans (n0 _ [910006,910007]) (WP (λl=>if l=38 then 910007 else l)))
    ·refine b8 ?_;exact eJ h (Wk.trans (n0 _ [910006,910007]) (WP (λl=>if l=38 then 910007 else l)))
  ·refine o5 ?_;refine c4<|c4<|k7 ?_;have h:=xL hx14 h;exact eJ h (Wk.trans (n0 _ [910006,910007]) W)

theorem a8V{a0 a1 a2}:PO Tryz.prog 333 [.L g9.Pv a0,.I a1,g9.Pv a2] (a1j a0 a1 a2) λr=>.L g9.Pv r:=by
 refine pO Tryz.func333 λr h _ _=>?_;unfold a1j at h;refine S4 2 J<|sR<|y0 J (A2 J R8 T9)<|S1 1 J<|r9 h λv1 hv1 h=>y1 J (a4L (f:=g9.Pv) hv1 J J (.inl ⟨_,J,J⟩) R8 T9 c3w a9q J (λ_=>J)) J<|S2 1 J<|S3 3 J<|r9 h λv2 hv2 h=>y0 J (a0r (f:=g9.Pv) hv2 J J J J R8 T9 J)<|a43 (f:=g9.Pv) (v:=a2) hv2 J J (.inl J) T9<|yN<|S4 2 J<|b6 ?_;cases h;exact f1

theorem b3F{a0 a1}:PO Tryz.prog 267 [.L g9.Pv a0,.I a1] (a6u a0 a1) λr=>.tup [.L g9.Pv r.1,.I r.2.1,.I r.2.2]:=by
 refine pO Tryz.func267 λr h _ _=>?_;refine S4 3 J<|S3 2 J<|cA h a8U J J λv1 _ h=>S2 1 J<|c8<|S4 2 J ?_;refine cN h (λhc h=>?_) λhc h=>?_
 ·refine S4 4 J ?_;refine b6 ?_;cases h;exact f3
 ·refine b8 ?_;refine dr [] o9 (by kernel_rfl) (by kernel_rfl)<|S7 2 J<|d7 J (λ_ hN=>o8 (cs:=[.I 2,.I 0,.I 0]) J b7N a9q J J J) J<|r9 h λv2 hv2 h=>d2f J (u6 J a8V J hv2) J<|S7 2 J<|r9 h λv3 hv3 h=>d0 J (u7 (f:=g9.Pv) (cs:=g9.Pc v3) hv3 J J R8 T9 J J) J<|S8 5 J<|b6 ?_
  cases h;exact f3

theorem b5G{a0 a1}:PO Tryz.prog 188 [.L g9.Pv a0,.L iF a1] (a3y a0 a1) λr=>.tup [.L g9.Pv r.1,.L iF r.2]:=by
 refine pO Tryz.func188 λr h _ _=>?_;refine S4 2 J<|sR<|y0 J (A2 J g7 m7)<|S2 1 J ?_;refine jq h (λq=>St.of [(0,.L g9.Pv q.1),(6,.sl 910006)] [(910006,⟨List.map iF q.2,(List.map iF q.2).length,true,1,true⟩)]) (λq20 h=>?_) λκ17 h=>?_
 ·obtain⟨j18,j19⟩:=q20;refine S4 4 J<|b6 ?_;cases h;exact f2
 ·refine S4 1 J ?_;refine c9<|lq h (λq=>St.of [(0,.L g9.Pv q.1),(1,.L iF a1),(6,.sl 910006),(7,.I q.2.1)] [(910006,⟨List.map iF q.2.2,(List.map iF q.2.2).length,true,1,true⟩)]) (Wk.trans (C9 (t:=6) (l:=920006) (z:=1) J J) (WP (λl=>if l=910006 then 920006 else l))) λq26 x25 h hx14=>?_
  obtain⟨s22,s23,s24⟩:=q26;refine c8<|S3 2 J<|nL J g7<|S2 1 J ?_;refine cN h (λhc h=>?_) λhc h=>?_
  ·refine b8 ?_;refine jq h (λq=>St.of [(0,.L g9.Pv q.1),(1,.L iF a1),(6,.sl 34),(7,.I s23)] [(34,⟨List.map iF q.2,(List.map iF q.2).length,true,1,true⟩)]) (λq33 h=>?_) λκ30 h=>?_
   ·obtain⟨j31,j32⟩:=q33;refine S6 3 J ?_;exact eL h (Wk.trans (n0 _ [34]) (WP (λl=>if l=910006 then 34 else l)))
   ·refine c9 ?_;refine S3 3 J<|iL h J J g7 m7 λv34 _ h=>S1 1 J<|cF h b3F J J λv35 _ h=>S2 7 J<|S4 2 J ?_;refine cN h (λhc h=>?_) λhc h=>?_
    ·refine S4 2 J ?_;refine S5 2 J<|y0 J (G1 (f:=iF) (l:=[v35.2.1]) J g7 m7 y6 J J nl J J)<|r9 h λv36 hv21 h=>H5 J (F1 (f:=iF) hv21 J J J J J J (.inl ⟨_,J,J⟩) g7 m7 F9 y6 J (λ_=>J)) J J J<|S2 1 J ?_;exact eJ h (Wk.trans (n0 _ [34]) W)
    ·refine b8 ?_;exact eJ h (Wk.trans (n0 _ [910006]) (WP (λl=>if l=34 then 910006 else l)))
  ·refine o5 ?_;refine c4<|c4<|k7 ?_;have h:=xL hx14 h;exact eJ h (Wk.trans (n0 _ [910006]) W)

theorem a5A{a0 a1 a2}:PO Tryz.prog 277 [y7.Pv a0,.I a1,x4.Pv a2] (X9 a0 a1 a2) λr=>y7.Pv r:=by
 refine pO Tryz.func277 λr h _ _=>?_;unfold X9 at h;refine S4 3 J<|sR<|y0 J (A2 J Q7 U0)<|S1 2 J<|r9 h λv1 hv1 h=>y1 J (a4L (f:=x4.Pv) hv1 J J (.inl ⟨_,J,J⟩) Q7 U0 c3z a5h J (λ_=>J)) J<|S2 1 J<|S3 3 J<|r9 h λv2 hv2 h=>y0 J (a0r (f:=x4.Pv) hv2 J J J J Q7 U0 J)<|a43 (f:=x4.Pv) (v:=a2) hv2 J J (.inl J) U0<|yN<|S3 3 J<|y0 J (o8 (cs:=[.sl 11,.I a0.Last]) J c3G c3Q J J J)<|S2 1 J<|b6 ?_;cases h;exact⟨J,[_],⟨oL J J J a3V a1Z nl J,tr⟩,J,io⟩

theorem c0T{a0 a1}:PO Tryz.prog 334 [y7.Pv a0,.I a1] (b5D a0 a1) λr=>.tup [y7.Pv r.1,.I r.2]:=by
 refine pO Tryz.func334 λr h _ _=>?_;refine S4 3 J<|S3 2 J<|cA h b5B J J λv1 _ h=>S2 5 J<|c8<|S4 2 J ?_;refine cN h (λhc h=>?_) λhc h=>?_
 ·refine S4 4 J ?_;refine b6 ?_;cases h;exact⟨J,[_,_],⟨oL J J J a3V a1Z nl J,⟨J,tr⟩⟩,J,io⟩
 ·refine b8 ?_;refine S3 2 J<|cA h a0t J J λv2 _ h=>S2 5 J<|dr [] o9 (by kernel_rfl) (by kernel_rfl)<|S7 5 J<|r9 h λv3 hv3 h=>d0 J (u7 (f:=x4.Pv) (cs:=x4.Pc v3) hv3 J J Q7 U0 J J) J<|S7 5 J<|d0 J (u7 (f:=x4.Pv) (cs:=x4.Pc v3) hv3 J J Q7 U0 J J) J<|S7 2 J<|d7 J (λ_ hN=>o8 (cs:=[.I 2,.I v3.Gen,.I v3.Val]) J b06 a5h J J J) J<|r9 h λv4 hv4 h=>d2f J (u6 J a5A J hv4) J<|A3 (x':=y7.Pv v4) (cl':=true) J J (.inr J) a1Z<|S8 1 J<|b6 ?_
  cases h;exact⟨J,[_,_],⟨oL J J J a3V a1Z nl J,⟨J,tr⟩⟩,J,io⟩

theorem a51{a0 a1}:PO Tryz.prog 203 [k8.Pv a0,y7.Pv a1] (a0v a0 a1) λr=>k8.Pv r:=by
 refine pO Tryz.func203 λr h _ _=>?_;refine S4 3 J<|sR<|y0 J (A2 J H6 H2)<|S2 1 J ?_;refine jq h (λj10=>St.of [(2,.ptr 2 0 0),(4,.ptr 4 0 0),(5,.sl 910005)] [(910005,⟨List.map n8.Pv j10,(List.map n8.Pv j10).length,true,8,true⟩),(4,vR (.agg [.nl,.I 0,.I 0]) 3),(2,vR (k8.Pv a0) 3)]) (λj10 h=>?_) λκ9 h=>?_
 ·refine S3 5 J ?_;refine y0 J (o8 (cs:=[.sl 910005,.I a0.Last,.I a0.Serial]) J c1Z c12 J J J)<|S2 1 J<|b6 ?_;cases h;exact⟨J,[_],⟨oL J J J a0l Z4 nl J,tr⟩,J,io⟩
 ·refine S4 1 J ?_;refine c9<|lq h (λq=>St.of [(2,.ptr 2 0 0),(3,.ptr 3 0 0),(4,.ptr 4 0 0),(5,.sl 910005),(6,.I q.1)] [(4,vR (.agg [.nl,.I 0,.I 0]) 3),(3,vR (y7.Pv a1) 2),(2,vR (k8.Pv a0) 3),(910005,⟨List.map n8.Pv q.2,(List.map n8.Pv q.2).length,true,8,true⟩)]) (Wk.trans (C9 (t:=5) (l:=920005) (z:=8) J J) (WP (λl=>if l=910005 then 920005 else l))) λq15 x14 h hx10=>?_
  obtain⟨s12,s13⟩:=q15;refine c8<|S3 3 J<|nL J H6<|S2 1 J ?_;refine cN h (λhc h=>?_) λhc h=>?_
  ·refine b8 ?_;refine c8<|c9<|a1A [] o9 (by kernel_rfl) (by kernel_rfl)<|S7 4 J<|r9 h λv16 hv11 h=>d0 J (u7 (f:=x4.Pv) (cs:=x4.Pc v16) hv11 J J Q7 U0 J J) J<|S7 5 J<|d0 J (u7 (f:=x4.Pv) (cs:=x4.Pc v16) hv11 J J Q7 U0 J J) J<|S7 5 J<|r9 h λv17 hv12 h=>d0 J (u7 (f:=n8.Pv) (cs:=n8.Pc v17) hv12 J J H6 H2 J J) J<|S7 2 J<|d7 J (λ_ hN=>o8 (cs:=[.I v16.State,.I v16.Gen,.I v17.Val.Serial,.I v17.Val.Strong,.I v17.Val.Weak,.I v17.Val.Prog,.bool v17.Val.Started,.L iF v17.Val.Fields]) J c3F a60 J J J) J<|d1n J (G1 (f:=n8.Pv) (l:=[(⟨v16.State,v16.Gen,v17.Val⟩:n8)]) J H6 H2 a60 J J nl J J) J<|r9 h λv18 hv13 h=>d3a J (F1 (f:=n8.Pv) hv13 J J J J J J (.inl ⟨_,J,J⟩) H6 H2 b7J a60 J (λ_=>J)) J J J J J<|S8 1 J<|S6 3 J ?_
   exact eL h (Wk.trans (n0 _ [36]) (WP (λl=>if l=910005 then 36 else l)))
  ·refine o5 ?_;refine c4<|c4<|k7 ?_;have h:=xL hx10 h;exact eJ h (Wk.trans (n0 _ [910005]) W)

theorem c0W{a0 a1}:PO Tryz.prog 268 [k8.Pv a0,.I a1] (b1X a0 a1) λr=>k8.Pv r:=by
 refine pO Tryz.func268 λr h _ _=>?_;refine S4 2 J<|S3 1 J<|cF h R2 J J λv1 _ h=>S1 1 J<|cF h c0T J J λv2 _ h=>S2 6 J<|S3 2 J<|cF h a51 J J λv3 _ h=>S2 1 J<|b6 ?_;cases h;exact⟨J,[_],⟨oL J J J a0l Z4 nl J,tr⟩,J,io⟩

theorem c0S{a0 a1}:PO Tryz.prog 335 [y7.Pv a0,.I a1] (b5C a0 a1) λr=>.tup [y7.Pv r.1,.I r.2]:=by
 refine pO Tryz.func335 λr h _ _=>?_;refine S4 3 J<|S3 2 J<|cA h a0t J J λv1 _ h=>S2 5 J<|c8<|S4 2 J ?_;refine cN h (λhc h=>?_) λhc h=>?_
 ·refine S4 4 J ?_;refine b6 ?_;cases h;exact⟨J,[_,_],⟨oL J J J a3V a1Z nl J,⟨J,tr⟩⟩,J,io⟩
 ·refine b8 ?_;refine S3 3 J<|iL h J J Q7 U0 λv2 _ h=>S2 3 J<|c8<|S4 4 J ?_;refine cN h (λhc h=>?_) λhc h=>?_
  ·refine S3 3 J ?_;refine y0 J (o8 (cs:=[.I 3,.I v2.Gen,.I 0]) J b06 a5h J J J)<|cF h a5A J J λv3 _ h=>S2 2 J<|b6 ?_;cases h;exact⟨J,[_,_],⟨oL J J J a3V a1Z nl J,⟨J,tr⟩⟩,J,io⟩
  ·refine b8 ?_;refine S3 4 J<|y0 J (o8 (cs:=[.I 0,.I (x8 (v2.Gen+1)),.I 0]) J b06 a5h J J J)<|cF h a5A J J λv4 _ h=>S2 2 J<|b6 ?_;cases h;exact⟨J,[_,_],⟨oL J J J a3V a1Z nl J,⟨J,tr⟩⟩,J,io⟩

theorem b3D{a0 a1}:PO Tryz.prog 269 [k8.Pv a0,.I a1] (a8R a0 a1) λr=>k8.Pv r:=by
 refine pO Tryz.func269 λr h _ _=>?_;refine S4 2 J<|S3 1 J<|cF h R2 J J λv1 _ h=>S1 1 J<|cF h c0S J J λv2 _ h=>S2 6 J<|c8<|S4 2 J ?_;refine cN h (λhc h=>?_) λhc h=>?_
 ·refine S4 2 J ?_;refine b6 ?_;cases h;exact⟨J,[_],⟨oL J J J a0l Z4 nl J,tr⟩,J,io⟩
 ·refine b8 ?_;refine S3 2 J<|cF h a51 J J λv3 _ h=>S1 1 J<|cA h a8P J J λv4 _ h=>y0 J (o8 (cs:=[.I 0,.I 0,.I 0,.I 0,.bool false,.nl]) J b7R b7W J J J)<|cF h a8S J J λv5 _ h=>S2 1 J<|b6 ?_;cases h;exact⟨J,[_],⟨oL J J J a0l Z4 nl J,tr⟩,J,io⟩

theorem c1f{a0 a1}:PO Tryz.prog 189 [c7.Pv a0,.I a1] (a6A a0 a1) λr=>c7.Pv r:=by
 refine pO Tryz.func189 λr h _ _=>?_;refine S4 2 J<|S3 3 J<|cF h F8 J J λv1 _ h=>S2 6 J<|S3 1 J<|a44 (x':=.agg [.I v1.1.Serial,.I v1.1.Strong,.I v1.1.Weak,.I v1.1.Prog,.bool v1.1.Started,.nl]) (cl':=true) J J (.inl J) a8p<|yN<|S3 1 J<|a44 (x':=.agg [.I v1.1.Serial,.I 0,.I v1.1.Weak,.I v1.1.Prog,.bool v1.1.Started,.nl]) (cl':=true) J J (.inl J) m7<|yN<|S3 4 J<|cF h a2S J J λv2 _ h=>S2 5 J<|S3 3 J<|cF h c0W J J λv3 _ h=>S2 2 J<|c8<|S4 3 J ?_;refine cN h (λhc h=>?_) λhc h=>?_
 ·refine S5 3 J ?_;refine cF h b3D J J λv4 _ h=>S2 2 J<|S4 2 J<|b6 ?_;cases h;exact⟨J,[_],⟨oL J J J A6 u5 nl J,tr⟩,J,io⟩
 ·refine b8 ?_;refine S4 2 J<|b6 ?_;cases h;exact⟨J,[_],⟨oL J J J A6 u5 nl J,tr⟩,J,io⟩

theorem c2Q{a0}:PO Tryz.prog 270 [.I a0] (b4w a0) λr=>.tup [.I r.1,.I r.2]:=by
 refine pO Tryz.func270 λr h _ _=>?_;refine S4 2 J<|c8<|S3 1 J<|cA h a7v J J λv1 _ h=>yN ?_;refine cN h (λhc h=>?_) λhc h=>?_
 ·refine S4 2 J ?_;refine b6 ?_;cases h;exact f2
 ·refine b8 ?_;refine c8<|S4 2 J ?_;refine cN h (λhc h=>?_) λhc h=>?_
  ·refine S4 2 J ?_;refine b6 ?_;cases h;exact f2
  ·refine b8 ?_;refine S4 4 J<|b6 ?_;cases h;exact f2

theorem a0w{a0 a1}:PO Tryz.prog 190 [c7.Pv a0,.I a1] (E8 a0 a1) λr=>c7.Pv r:=by
 refine pO Tryz.func190 λr h _ _=>?_;refine S4 2 J<|S3 3 J<|cF h F8 J J λv1 _ h=>S2 6 J<|S3 2 J<|cA h c2Q J J λv2 _ h=>S2 5 J<|c8<|S4 2 J ?_;refine cN h (λhc h=>?_) λhc h=>?_
 ·refine S4 2 J ?_;refine b6 ?_;cases h;exact⟨J,[_],⟨oL J J J A6 u5 nl J,tr⟩,J,io⟩
 ·refine b8 ?_;refine S3 3 J<|cF h b0q J J λv3 _ h=>S2 1 J<|b6 ?_;cases h;exact⟨J,[_],⟨oL J J J A6 u5 nl J,tr⟩,J,io⟩

theorem b3H{a0 a1}:PO Tryz.prog 113 [c7.Pv a0,.L iF a1] (a6y a0 a1) λr=>c7.Pv r:=by
 refine pO Tryz.func113 λr h _ _=>?_;refine S4 2 J<|S3 2 J<|cF h c1e J J λv1 _ h=>S2 1 J<|S3 3 J<|cF h b8U J J λv2 _ h=>S2 5 J<|S4 3 J ?_;refine jq h (λj12=>St.of [(2,.ptr 2 0 0),(4,.ptr 4 0 0),(5,.L iF v1)] [(4,vR (.agg [.nl,.I 0,.I 0,.nl,.nl,.nl,.nl,.I 0]) 8),(2,vR (.agg [.L n8.Pv a0.S.a8,.I a0.S.Last,.I a0.S.Serial,.L iF a0.Roots,.L m8.Pv v2.1,.L g9.Pv a0.T,.L o6.Pv j12.L,.I j12.Cap]) 8)]) (λj12 h=>?_) λκ11 h=>?_
 ·refine sR ?_;refine y0 J (A2 J g7 m7)<|S2 1 J ?_;refine jq h (λj23=>St.of [(2,.ptr 2 0 0),(4,.ptr 4 0 0),(5,.L iF v1),(9,.sl 910009)] [(910009,⟨List.map iF j23,(List.map iF j23).length,true,1,true⟩),(4,vR (.agg [.nl,.I 0,.I 0,.nl,.nl,.nl,.nl,.I 0]) 8),(2,vR (.agg [.L n8.Pv a0.S.a8,.I a0.S.Last,.I a0.S.Serial,.L iF a0.Roots,.L m8.Pv v2.1,.L g9.Pv a0.T,.L o6.Pv j12.L,.I j12.Cap]) 8)]) (λj23 h=>?_) λκ22 h=>?_
  ·refine S3 3 J ?_;refine cF h b5G J J λv24 _ h=>S2 5 J<|S4 3 J<|S3 2 J<|r9 h λv25 hv19 h=>H5 J (F1 (f:=iF) hv19 J J J J J J (.inl ⟨_,J,J⟩) g7 m7 F9 y6 J (λ_=>J)) J J J<|S2 1 J ?_;refine jq h (λj34=>St.of [(2,.ptr 2 0 0),(4,.ptr 4 0 0),(9,.sl 88)] [(88,⟨List.map iF v25,j23.length,true,1,true⟩),(4,vR (.agg [.nl,.I 0,.I 0,.nl,.nl,.nl,.nl,.I 0]) 8),(2,vR (c7.Pv j34) 8)]) (λj34 h=>?_) λκ33 h=>?_
   ·refine jq h (λj43=>St.of [(2,.ptr 2 0 0),(4,.ptr 4 0 0)] [(4,vR (.agg [.nl,.I 0,.I 0,.nl,.nl,.nl,.nl,.I 0]) 8),(2,vR (c7.Pv j43) 8)]) (λj43 h=>?_) λκ42 h=>?_
    ·refine S4 2 J ?_;refine b6 ?_;cases h;exact⟨J,[_],⟨oL J J J A6 u5 nl J,tr⟩,J,io⟩
    ·refine S4 1 J ?_;refine c9<|lq h (λq=>St.of [(2,.ptr 2 0 0),(4,.ptr 4 0 0),(9,.sl 88),(16,.I q.1)] [(88,⟨List.map iF v25,j23.length,true,1,true⟩),(4,vR (.agg [.nl,.I 0,.I 0,.nl,.nl,.nl,.nl,.I 0]) 8),(2,vR (c7.Pv q.2) 8)]) W λq48 x47 h hx34=>?_;obtain⟨s45,s46⟩:=q48;refine c8<|S3 2 J<|y0 J (c0F (f:=iF) J J J g7)<|S2 1 J ?_;refine cN h (λhc h=>?_) λhc h=>?_
     ·refine b8 ?_;refine c8<|c9<|a1A [] o9 (by kernel_rfl) (by kernel_rfl)<|S7 3 J<|r9 h λv49 hv35 h=>d0 J (a0r (f:=iF) hv35 J J J J g7 m7 J) J<|d0 J (b3y (f:=iF) hv35 J J J C5 J) J<|r9 h λv50 hv36 h=>d2f J (u6 J a0w J hv36) J<|A3 (x':=c7.Pv v50) (cl':=true) J J (.inr J) u5<|G0<|S6 3 J ?_
      exact eL h W
     ·refine o5 ?_;refine c4<|c4<|k7 ?_;have h:=xL hx34 h;exact eJ h W
   ·refine S4 1 J ?_;refine c9<|lq h (λq=>St.of [(2,.ptr 2 0 0),(4,.ptr 4 0 0),(5,.L iF v1),(9,.sl 88),(15,.I q.1)] [(88,⟨List.map iF v25,j23.length,true,1,true⟩),(4,vR (.agg [.nl,.I 0,.I 0,.nl,.nl,.nl,.nl,.I 0]) 8),(2,vR (c7.Pv q.2) 8)]) W λq55 x54 h hx39=>?_;obtain⟨s52,s53⟩:=q55;refine c8<|S3 2 J<|nL J g7<|S2 1 J ?_;refine cN h (λhc h=>?_) λhc h=>?_
    ·refine b8 ?_;refine c8<|c9<|a1A [] o9 (by kernel_rfl) (by kernel_rfl)<|S7 3 J<|r9 h λv56 hv40 h=>d0 J (u7 (f:=iF) (cs:=[.I v56]) hv40 J J g7 m7 J J) J<|S7 1 J<|r9 h λv57 hv41 h=>d2f J (u6 J c1f J hv41) J<|A3 (x':=c7.Pv v57) (cl':=true) J J (.inr J) u5<|G0<|S6 3 J ?_
     exact eL h W
    ·refine o5 ?_;refine c4<|c4<|k7 ?_;have h:=xL hx39 h;exact eJ h W
  ·refine S4 1 J ?_;refine c9<|lq h (λq=>St.of [(2,.ptr 2 0 0),(4,.ptr 4 0 0),(5,.L iF v1),(9,.sl 910009),(10,.I q.1)] [(4,vR (.agg [.nl,.I 0,.I 0,.nl,.nl,.nl,.nl,.I 0]) 8),(2,vR (.agg [.L n8.Pv a0.S.a8,.I a0.S.Last,.I a0.S.Serial,.L iF a0.Roots,.L m8.Pv v2.1,.L g9.Pv a0.T,.L o6.Pv j12.L,.I j12.Cap]) 8),(910009,⟨List.map iF q.2,(List.map iF q.2).length,true,1,true⟩)]) (Wk.trans (C9 (t:=9) (l:=920009) (z:=1) J J) (WP (λl=>if l=910009 then 920009 else l))) λq62 x61 h hx44=>?_
   obtain⟨s59,s60⟩:=q62;refine c8<|S3 2 J<|nL J g7<|S2 1 J ?_;refine cN h (λhc h=>?_) λhc h=>?_
   ·refine b8 ?_;refine c8<|c9<|dr [] o9 (by kernel_rfl) (by kernel_rfl)<|S7 4 J<|r9 h λv63 hv45 h=>d0 J (u7 (f:=iF) (cs:=[.I v63]) hv45 J J g7 m7 J J) J<|S7 1 J<|r9 h λv64 hv46 h=>d2f J (u6 J F8 J hv46) J<|S7 4 J<|A3 (x':=C6.Pv v64.1) (cl':=true) J J (.inr J) a6Z<|S8 1 J<|S5 3 J<|cF h b1U J J λv65 _ h=>r9 h λv66 hv48 h=>H5 J (F1 (f:=iF) hv48 J J J J J J (.inl ⟨_,J,J⟩) g7 m7 F9 y6 J (λ_=>J)) J J J<|S2 1 J<|S6 3 J ?_
    exact eL h (Wk.trans (n0 _ [76]) (WP (λl=>if l=910009 then 76 else l)))
   ·refine o5 ?_;refine c4<|c4<|k7 ?_;have h:=xL hx44 h;exact eJ h (Wk.trans (n0 _ [910009]) W)
 ·refine S4 1 J ?_;refine c9<|lq h (λq=>St.of [(2,.ptr 2 0 0),(4,.ptr 4 0 0),(5,.L iF v1),(6,.L m8.Pv v2.1),(7,.L iF v2.2),(8,.I q.1)] [(4,vR (.agg [.nl,.I 0,.I 0,.nl,.nl,.nl,.nl,.I 0]) 8),(2,vR (.agg [.L n8.Pv a0.S.a8,.I a0.S.Last,.I a0.S.Serial,.L iF a0.Roots,.L m8.Pv v2.1,.L g9.Pv a0.T,.L o6.Pv q.2.L,.I q.2.Cap]) 8)]) W λq71 x70 h hx51=>?_;obtain⟨s68,s69⟩:=q71;refine c8<|S3 2 J<|nL J g7<|S2 1 J ?_;refine cN h (λhc h=>?_) λhc h=>?_
  ·refine b8 ?_;refine c8<|c9<|a1A [] o9 (by kernel_rfl) (by kernel_rfl)<|S7 4 J<|r9 h λv72 hv52 h=>d0 J (u7 (f:=iF) (cs:=[.I v72]) hv52 J J g7 m7 J J) J<|S7 4 J<|d0 J (u7 (f:=iF) (cs:=[.I v72]) hv52 J J g7 m7 J J) J<|S7 1 J<|r9 h λv73 hv53 h=>d0 J (u7 (f:=m8.Pv) (cs:=m8.Pc v73) hv53 J J P1 Q1 J J) J<|S7 2 J<|d7 J (λ_ hN=>o8 (cs:=[.I 2,.I v72,.I v73.Call]) J b4e a3Y J J J) J<|r9 h λv74 hv54 h=>d2f J (u6 J b5I J hv54) J<|S7 4 J<|A3 (x':=.agg [.L n8.Pv a0.S.a8,.I a0.S.Last,.I a0.S.Serial,.L iF a0.Roots,.L m8.Pv v2.1,.L g9.Pv a0.T,.L o6.Pv v74.1.L,.I v74.1.Cap]) (cl':=true) J J (.inr J) a4w<|G0<|S6 3 J ?_
   exact eL h W
  ·refine o5 ?_;refine c4<|c4<|k7 ?_;have h:=xL hx51 h;exact eJ h W

theorem c1d{a0}:PO Tryz.prog 54 [c7.Pv a0] (a6z a0) λr=>.L iF r:=by
 refine pO Tryz.func54 λr h _ _=>?_;refine S4 2 J<|sR<|y0 J (A2 J g7 m7)<|S2 1 J<|S3 2 J<|cF h a0u J J λv1 _ h=>S2 1 J ?_;refine jq h (λj16=>St.of [(3,.sl 910003)] [(910003,⟨List.map iF j16,(List.map iF j16).length,true,1,true⟩)]) (λj16 h=>?_) λκ15 h=>?_
 ·refine S4 2 J ?_;refine b6 ?_;cases h;exact f1
 ·refine S4 1 J ?_;refine c9<|lq h (λq=>St.of [(1,.ptr 1 0 0),(3,.sl 910003),(4,.L iF v1),(5,.I q.1)] [(1,vR (c7.Pv a0) 8),(910003,⟨List.map iF q.2,(List.map iF q.2).length,true,1,true⟩)]) (Wk.trans (C9 (t:=3) (l:=920003) (z:=1) J J) (WP (λl=>if l=910003 then 920003 else l))) λq21 x20 h hx15=>?_
  obtain⟨s18,s19⟩:=q21;refine c8<|S3 2 J<|nL J g7<|S2 1 J ?_;refine cN h (λhc h=>?_) λhc h=>?_
  ·refine b8 ?_;refine jq h (λj26=>St.of [(1,.ptr 1 0 0),(3,.sl 37),(4,.L iF v1),(5,.I s18)] [(37,⟨List.map iF j26,(List.map iF j26).length,true,1,true⟩),(1,vR (c7.Pv a0) 8)]) (λj26 h=>?_) λκ25 h=>?_
   ·refine S6 3 J ?_;exact eL h (Wk.trans (n0 _ [37]) (WP (λl=>if l=910003 then 37 else l)))
   ·refine c9 ?_;refine dr [] o9 (by kernel_rfl) (by kernel_rfl)<|S7 4 J<|r9 h λv27 hv20 h=>d0 J (u7 (f:=iF) (cs:=[.I v27]) hv20 J J g7 m7 J J) J<|S7 1 J<|r9 h λv28 hv21 h=>d2f J (u6 J F8 J hv21) J<|S7 4 J<|A3 (x':=C6.Pv v28.1) (cl':=true) J J (.inr J) a6Z<|S8 1 J<|S4 3 J ?_
    refine cN h (λhc h=>?_) λhc h=>?_
    ·refine S5 3 J ?_;refine y0 J (u7 (f:=iF) (cs:=[.I v27]) hv20 J J g7 m7 J J)<|S1 1 J<|y0 J (G1 (f:=iF) (l:=[v27]) J g7 m7 y6 J J nl J J)<|r9 h λv29 hv22 h=>H5 J (F1 (f:=iF) hv22 J J J J J J (.inl ⟨_,J,J⟩) g7 m7 F9 y6 J (λ_=>J)) J J J<|S2 1 J ?_;exact eJ h (Wk.trans (n0 _ [37]) W)
    ·refine b8 ?_;exact eJ h (Wk.trans (n0 _ [910003]) (WP (λl=>if l=37 then 910003 else l)))
  ·refine o5 ?_;refine c4<|c4<|k7 ?_;have h:=xL hx15 h;exact eJ h (Wk.trans (n0 _ [910003]) W)

theorem Y8{a0}:PO Tryz.prog 112 [c7.Pv a0] (N8 a0) λr=>c7.Pv r:=by
 refine pO Tryz.func112 λr h _ _=>?_;refine S4 2 J ?_;refine jq h (λj21=>St.of [(1,.ptr 1 0 0),(2,.ptr 2 0 0)] [(2,vR (.agg [.nl,.I 0,.I 0,.nl,.nl,.nl,.nl,.I 0]) 8),(1,vR (c7.Pv j21) 8)]) (λj21 h=>?_) λκ20 h=>?_
 ·refine S4 2 J ?_;refine b6 ?_;cases h;exact⟨J,[_],⟨oL J J J A6 u5 nl J,tr⟩,J,io⟩
 ·refine S4 1 J ?_;refine c9<|lq h (λq=>St.of [(1,.ptr 1 0 0),(2,.ptr 2 0 0),(3,.I q.1)] [(2,vR (.agg [.nl,.I 0,.I 0,.nl,.nl,.nl,.nl,.I 0]) 8),(1,vR (c7.Pv q.2) 8)]) W λq26 x25 h hx20=>?_;obtain⟨s23,s24⟩:=q26;refine c8<|S4 2 J ?_;refine cN h (λhc h=>?_) λhc h=>?_
  ·refine b8 ?_;refine jq h (λj34=>St.of [(1,.ptr 1 0 0),(2,.ptr 2 0 0),(3,.I s23)] [(2,vR (.agg [.nl,.I 0,.I 0,.nl,.nl,.nl,.nl,.I 0]) 8),(1,vR (c7.Pv j34) 8)]) (λj34 h=>?_) λκ33 h=>?_
   ·refine S6 3 J ?_;exact eL h W
   ·refine c9 ?_;refine S3 1 J<|cF h c1d J J λv35 _ h=>S2 1 J<|c8<|S3 1 J<|nL J g7<|S2 1 J ?_;refine cN h (λhc h=>?_) λhc h=>?_
    ·refine S4 2 J ?_;refine b6 ?_;have h:=xL hx20 h;cases h;exact⟨J,[_],⟨oL J J J A6 u5 nl J,tr⟩,J,io⟩
    ·refine b8 ?_;refine dr [] o9 (by kernel_rfl) (by kernel_rfl)<|S7 2 J<|r9 h λv36 hv29 h=>d0 J (u7 (f:=iF) (cs:=[.I v36]) hv29 J J g7 m7 J J) J<|S7 1 J<|r9 h λv37 hv30 h=>d2 J (D4 J b0U J hv30) J<|G0 ?_
     refine cN h (λhc h=>?_) λhc h=>?_
     ·refine a1A [] o9 (by kernel_rfl) (by kernel_rfl) ?_
      refine S7 2 J<|d0 J (u7 (f:=iF) (cs:=[.I v36]) hv29 J J g7 m7 J J) J<|S7 1 J<|r9 h λv38 hv31 h=>d2f J (u6 J b0r J hv31) J<|A3 (x':=c7.Pv v38) (cl':=true) J J (.inr J) u5<|G0 ?_;exact eJ h W
     ·refine a1A [] o9 (by kernel_rfl) (by kernel_rfl) ?_
      refine S7 2 J<|r9 h λv39 hv32 h=>d0 J (c2A (f:=iF) hv32 J J ⟨_,J⟩ g7 m7 (λ_=>J)) J<|r9 h λv40 hv33 h=>d2f J (u6 J b3H J hv33) J<|A3 (x':=c7.Pv v40) (cl':=true) J J (.inr J) u5<|G0 ?_;exact eJ h W
  ·refine o5 ?_;refine c4<|c4<|k7 ?_;have h:=xL hx20 h;exact eJ h W

theorem b5J{a0}:PO Tryz.prog 62 [c7.Pv a0] (a5E a0) λr=>.tup [c7.Pv r.1,.I r.2.1,.I r.2.2]:=by
 refine pO Tryz.func62 λr h _ _=>?_;refine S4 4 J<|S3 1 J<|cF h b83 J J λv1 _ h=>S2 1 J ?_;refine jq h (λ_=>St.of [(1,.ptr 1 0 0),(2,.ptr 2 0 0)] [(2,vR (.agg [.nl,.I 0,.I 0,.nl,.nl,.nl,.nl,.I 0]) 8),(1,vR (c7.Pv a0) 8)]) (λq19 h=>?_) λκ18 h=>?_
 ·refine dr [] o9 (by kernel_rfl) (by kernel_rfl) ?_
  refine S7 2 J<|r9 h λv20 hv14 h=>d2f J (u6 J a80 J hv14) J<|r9 h λv21 hv15 h=>d2f J (u6 J b3H J hv15) J<|r9 h λv22 hv16 h=>d2f J (u6 J Y8 J hv16) J<|S7 1 J<|A3 (x':=c7.Pv v22) (cl':=true) J J (.inr J) u5<|G0<|dr [4,8] o9 (by kernel_rfl) (by kernel_rfl)<|S7 3 J<|r9 h λv23 hv17 h=>d2f J (u6 J a0u J hv17) J<|d7 J (λ_ hN=>T8 (f:=iF) J g7) J<|S7 2 J<|r9 h λv24 hv18 h=>d2f J (u6 J a0u J hv18) J<|d7 J (λ_ hN=>T8 (f:=iF) J g7) J<|S7 1 J<|A3 (x':=c7.Pv v22) (cl':=true) J J (.inr J) u5<|S8 2 J<|b6 ?_
  cases h;exact⟨J,[_,_,_],⟨oL J J J A6 u5 nl J,⟨J,⟨J,tr⟩⟩⟩,J,io⟩
 ·refine S3 1 J ?_;refine nL J g7<|S2 1 J ?_;refine cN h (λhc h=>?_) λhc h=>?_
  ·refine jq h (λj33=>St.of [(1,.ptr 1 0 0),(2,.ptr 2 0 0),(5,.L iF v1)] [(2,vR (.agg [.nl,.I 0,.I 0,.nl,.nl,.nl,.nl,.I 0]) 8),(1,vR (c7.Pv j33) 8)]) (λj33 h=>?_) λκ32 h=>?_
   ·refine S3 2 J ?_;refine nL J g7<|S2 3 J<|b6 ?_;cases h;exact⟨J,[_,_,_],⟨oL J J J A6 u5 nl J,⟨J,⟨J,tr⟩⟩⟩,J,io⟩
   ·refine S4 1 J ?_;refine c9<|lq h (λq=>St.of [(1,.ptr 1 0 0),(2,.ptr 2 0 0),(5,.L iF v1),(6,.I q.1)] [(2,vR (.agg [.nl,.I 0,.I 0,.nl,.nl,.nl,.nl,.I 0]) 8),(1,vR (c7.Pv q.2) 8)]) W λq38 x37 h hx27=>?_;obtain⟨s35,s36⟩:=q38;refine c8<|S3 2 J<|nL J g7<|S2 1 J ?_;refine cN h (λhc h=>?_) λhc h=>?_
    ·refine b8 ?_;refine c8<|c9<|a1A [] o9 (by kernel_rfl) (by kernel_rfl)<|S7 3 J<|r9 h λv39 hv28 h=>d0 J (u7 (f:=iF) (cs:=[.I v39]) hv28 J J g7 m7 J J) J<|S7 1 J<|r9 h λv40 hv29 h=>d2f J (u6 J b0r J hv29) J<|A3 (x':=c7.Pv v40) (cl':=true) J J (.inr J) u5<|G0<|S6 3 J ?_
     exact eL h W
    ·refine o5 ?_;refine c4<|c4<|k7 ?_;have h:=xL hx27 h;exact eJ h W
  ·refine b8 ?_;exact eJ h W

theorem b85{a0}:PO Tryz.prog 74 [c7.Pv a0] (a4q a0) λr=>.bool r:=by
 refine pO Tryz.func74 λr h _ _=>?_;unfold a4q at h;refine S4 2 J<|S3 3 J<|nL J R9<|S2 2 J<|b6 ?_;cases h;exact f1

theorem b3I{a0 a1}:PO Tryz.prog 192 [.L (Ls r8.Pv) a0,.I a1] (a6D a0 a1) λr=>.L r8.Pv r:=by
 refine pO Tryz.func192 λr h _ _=>?_;refine S4 1 J<|c8<|S3 3 J<|l4 J (λhg=>mI J)<|l4 J (λhg=>om (d:=.L (Ls r8.Pv) a0) J)<|l4 J (λhg=>T8 (f:=(Ls r8.Pv)) (ct hg) b4N)<|l4 J (λhg=>y5 (ct hg) (ct hg) J)<|y0 J (C7 J J J (λq=>eqF q))<|yN ?_;refine cN h (λhc h=>?_) λhc h=>?_
 ·refine S4 1 J ?_;refine b6 ?_;cases h;exact f1
 ·refine b8 ?_;refine S3 2 J<|iL h J J b4N b4f λv1 _ h=>S2 2 J<|b6 ?_;cases h;exact f1

theorem c1g{a0 a1}:PO Tryz.prog 115 [.L (Ls r8.Pv) a0,o6.Pv a1] (a6B a0 a1) λr=>.I r:=by
 refine pO Tryz.func115 λr h _ _=>?_;refine S4 2 J<|S3 3 J<|cF h b3I J J λv1 _ h=>nL J a9l<|S2 2 J<|b6 ?_;cases h;exact f1

theorem c09{a0}:PO Tryz.prog 193 [w7.Pv a0] (b2b a0) λr=>.tup [w7.Pv r.1,o6.Pv r.2.1,.I r.2.2]:=by
 refine pO Tryz.func193 λr h _ _=>?_;refine S4 4 J<|c8<|S3 2 J<|nL J R9<|S2 1 J ?_;refine cN h (λhc h=>?_) λhc h=>?_
 ·refine S3 1 J ?_;refine y0 J (o8 (cs:=[.I 0,.I 0,.I 0]) J b4e a3Y J J J)<|S2 3 J<|b6 ?_;cases h;exact⟨J,[_,_,_],⟨oL J J J a8m a4w nl J,⟨oL J J J a5c H3 nl J,⟨J,tr⟩⟩⟩,J,io⟩
 ·refine b8 ?_;refine dr [7,8,9,1001] o9 (by kernel_rfl) (by kernel_rfl)<|S7 2 J<|r9 h λv1 hv1 h=>d0 J (c2A (f:=o6.Pv) hv1 J ⟨_,J⟩ J R9 H3 (λ_=>J)) J<|S7 2 J<|d7 J (λ_ hN=>o8 (cs:=[.L o6.Pv v1,.I a0.Cap]) J c10 c13 J J J) J<|S7 1 J<|d7 J (λ_ hN=>b1L hN J J J J b7H J) J<|r9 h λv2 hv2 h=>d7 J (λ_ hN=>u7 (f:=o6.Pv) (cs:=o6.Pc v2) hv2 J J R9 H3 J J) J<|d7 J (λ_ hN=>a8L J a5c H3 nl J) J<|A3 (x':=.agg [.L o6.Pv v1,.I a0.Cap]) (cl':=true) J J (.inr J) a4w<|A3 (x':=o6.Pv v2) (cl':=true) J J (.inl J) H3<|S8 1 J<|b6 ?_
  cases h;exact⟨J,[_,_,_],⟨oL J J J a8m a4w nl J,⟨oL J J J a5c H3 nl J,⟨J,tr⟩⟩⟩,J,io⟩

theorem a4a{a0 a1}:PO Tryz.prog 134 [c7.Pv a0,.I a1] (Y7 a0 a1) λr=>.bool r:=by
 refine pO Tryz.func134 λr h _ _=>?_;unfold Y7 at h;refine S4 2 J<|S3 3 J<|l4 J (λhg=>oL J J J A6 u5 nl J)<|l4 J (λhg=>mI J)<|r9 h λv1 hv1 h=>l4 J (λhg=>D4 J a38 (D8 (ct hg) (D8 (ct hg) J)) (G8 hv1 hg))<|y0 J (C7 J J J (λq=>eqF q))<|S2 1 J<|b6 ?_;cases h;exact f1

theorem a5C{a0 a1 a2}:PO Tryz.prog 119 [c7.Pv a0,.I a1,.I a2] (V7 a0 a1 a2) λr=>.tup [c7.Pv r.1,.I r.2]:=by
 refine pO Tryz.func119 λr h _ _=>?_;refine S4 3 J<|c8<|S3 3 J<|l4 J (λhg=>mI J)<|l4 J (λhg=>y5 (ct hg) J J)<|y0 J (C7 J J J (λq=>eqF q))<|yN ?_;refine cN h (λhc h=>?_) λhc h=>?_
 ·refine S4 3 J ?_;refine b6 ?_;cases h;exact⟨J,[_,_],⟨oL J J J A6 u5 nl J,⟨J,tr⟩⟩,J,io⟩
 ·refine b8 ?_;refine c8<|S3 2 J<|cA h a4a J J λv1 _ h=>S2 1 J ?_;refine cN h (λhc h=>?_) λhc h=>?_
  ·refine S4 3 J ?_;refine b6 ?_;cases h;exact⟨J,[_,_],⟨oL J J J A6 u5 nl J,⟨J,tr⟩⟩,J,io⟩
  ·refine b8 ?_;refine S3 3 J<|iL h J J g7 m7 λv2 _ h=>S2 2 J<|S3 2 J<|cF h a3g J J λv3 _ h=>S2 2 J<|sR<|y0 J (A2 J g7 m7)<|S1 2 J<|r9 h λv4 hv4 h=>y1 J (a4L (f:=iF) hv4 J J (.inl ⟨_,J,J⟩) g7 m7 F9 y6 J (λ_=>J)) J<|S2 2 J<|S3 4 J<|r9 h λv5 hv5 h=>y0 J (a0r (f:=iF) hv5 J J J J g7 m7 J)<|a43 (f:=iF) (v:=a2) hv5 J J (.inl J) m7<|yN<|S3 2 J<|r9 h λv6 hv6 h=>ycL J (u6 J a0w J hv6) J<|S2 2 J<|b6 ?_;cases h;exact⟨J,[_,_],⟨oL J J J A6 u5 nl J,⟨J,tr⟩⟩,J,io⟩

theorem b80{a0}:PO Tryz.prog 55 [r8.Pv a0] (Q6 a0) λr=>.bool r:=by
 refine pO Tryz.func55 λr h _ _=>?_;unfold Q6 at h;refine S4 2 J<|S3 4 J<|l4 J (λhg=>oF J c41 J)<|l4 J (λhg=>oS (ct hg) J J C5 J)<|l4 J (λhg=>y5 (ct hg) J J)<|y0 J (z7 J J J (λq=>eqT q))<|S2 1 J<|b6 ?_;cases h;exact f1

theorem b8Y{a0 a1}:PO Tryz.prog 138 [w7.Pv a0,.I a1] (a4o a0 a1) λr=>.bool r:=by
 refine pO Tryz.func138 λr h _ _=>?_;refine S4 2 J ?_;refine jq h (λ_=>St.of [] []) (λq6 h=>?_) λκ5 h=>?_
 ·refine S4 1 J ?_;refine b6 ?_;cases h;exact f1
 ·refine S4 1 J ?_;refine c9<|lq h (λs8=>St.of [(1,.I a1),(2,.ptr 2 0 0),(5,.I s8)] [(2,vR (w7.Pv a0) 2)]) W λs8 x9 h hx8=>c8<|S3 3 J<|nL J R9<|S2 1 J ?_;refine cN h (λhc h=>?_) λhc h=>?_
  ·refine b8 ?_;refine c8<|c9<|S3 3 J<|iL h J J R9 H3 λv10 hv9 h=>S1 4 J<|l4 J (λhg=>oF J b4P J)<|l4 J (λhg=>oS (ct hg) J J b7H J)<|l4 J (λhg=>mI J)<|l4 J (λhg=>u7 (f:=o6.Pv) (cs:=o6.Pc v10) hv9 (ct hg) (ct hg) R9 H3 J J)<|l4 J (λhg=>A5 (ct hg) c5b J)<|l4 J (λhg=>F6 (ct hg) C5 J)<|l4 J (λhg=>mI J)<|l4 J (λhg=>y5 (ct hg) (ct hg) J)<|y0 J (z7 J J J (λq=>eqT q))<|yN ?_;refine cN h (λhc h=>?_) λhc h=>?_
   ·refine S4 1 J ?_;refine b6 ?_;have h:=xL hx8 h;cases h;exact f1
   ·refine b8 ?_;refine S6 3 J ?_;exact eL h W
  ·refine o5 ?_;refine c4<|c4<|k7 ?_;have h:=xL hx8 h;exact eJ h W

theorem c2V{a0 a1 a2 a3}:PO Tryz.prog 273 [.L m8.Pv a0,.I a1,.I a2,.I a3] (b4y a0 a1 a2 a3) λr=>.tup [.L m8.Pv r.1,.I r.2.1,.I r.2.2]:=by
 refine pO Tryz.func273 λr h _ _=>?_;refine S4 3 J<|c8<|S3 3 J<|l4 J (λhg=>mI J)<|l4 J (λhg=>om (d:=.L m8.Pv a0) J)<|l4 J (λhg=>T8 (f:=m8.Pv) (ct hg) P1)<|l4 J (λhg=>y5 (ct hg) (ct hg) J)<|y0 J (C7 J J J (λq=>eqF q))<|yN ?_;refine cN h (λhc h=>?_) λhc h=>?_
 ·refine S4 4 J ?_;refine b6 ?_;cases h;exact f3
 ·refine b8 ?_;refine sR<|y0 J (A2 J P1 Q1)<|S1 1 J<|r9 h λv1 hv1 h=>y1 J (a4L (f:=m8.Pv) hv1 J J (.inl ⟨_,J,J⟩) P1 Q1 b7K a9p J (λ_=>J)) J<|S2 1 J<|S3 6 J<|y0 J (o8 (cs:=[.I a2,.bool (a2 != 0),.I a3]) J c9z a9p J J J)<|r9 h λv2 hv2 h=>y0 J (a0r (f:=m8.Pv) hv2 J J J J P1 Q1 J)<|a43 (f:=m8.Pv) (v:=(⟨a2,(a2 != 0),a3⟩:m8)) hv2 J J (.inl J) Q1<|yN<|dr [] o9 (by kernel_rfl) (by kernel_rfl)<|S7 3 J<|r9 h λv3 hv3 h=>d0 J (u7 (f:=m8.Pv) (cs:=m8.Pc v3) hv3 J J P1 Q1 J J) J<|S8 5 J<|b6 ?_
  cases h;exact f3

theorem a8Y{a0 a1}:PO Tryz.prog 274 [c7.Pv a0,.I a1] (a0y a0 a1) λr=>c7.Pv r:=by
 refine pO Tryz.func274 λr h _ _=>?_;refine S4 2 J<|S3 2 J<|cF h R2 J J λv1 _ h=>S1 1 J<|cA h a0t J J λv2 _ h=>S2 5 J<|c8<|S4 2 J ?_;refine cN h (λhc h=>?_) λhc h=>?_
 ·refine S4 2 J ?_;refine b6 ?_;cases h;exact⟨J,[_],⟨oL J J J A6 u5 nl J,tr⟩,J,io⟩
 ·refine b8 ?_;refine S3 4 J<|iL h J J H6 H2 λv3 _ h=>S2 4 J<|S4 5 J<|S3 4 J<|cF h a2S J J λv4 _ h=>S2 5 J<|c8<|S3 4 J<|iL h J J H6 H2 λv5 _ h=>S1 4 J<|l4 J (λhg=>oF J b4R J)<|l4 J (λhg=>oS (ct hg) J J C5 J)<|l4 J (λhg=>y5 (ct hg) J J)<|y0 J (z7 J J J (λq=>eqT q))<|yN ?_;refine cN h (λhc h=>?_) λhc h=>?_
  ·refine S5 3 J ?_;refine cF h b3D J J λv6 _ h=>S2 2 J<|S4 2 J<|b6 ?_;cases h;exact⟨J,[_],⟨oL J J J A6 u5 nl J,tr⟩,J,io⟩
  ·refine b8 ?_;refine S4 2 J<|b6 ?_;cases h;exact⟨J,[_],⟨oL J J J A6 u5 nl J,tr⟩,J,io⟩

theorem b3G{a0 a1 a2 a3}:PO Tryz.prog 195 [c7.Pv a0,.I a1,.I a2,.I a3] (a2k a0 a1 a2 a3) λr=>.tup [c7.Pv r.1,.I r.2]:=by
 refine pO Tryz.func195 λr h _ _=>?_;unfold a2k at h;refine S4 3 J<|c8<|S3 3 J<|l4 J (λhg=>mI J)<|l4 J (λhg=>y5 (ct hg) J J)<|y0 J (C7 J J J (λq=>eqF q))<|S1 1 J<|l4 J (λhg=>oF J b4Q J)<|l4 J (λhg=>oL (ct hg) J J a8m a4w nl J)<|l4 J (λhg=>mI J)<|r9 h λv1 hv1 h=>l4 J (λhg=>D4 J b8Y (D8 (ct hg) (D8 (ct hg) J)) (G8 hv1 hg))<|y0 J (C7 J J J (λq=>eqF q))<|yN ?_;refine cN h (λhc h=>?_) λhc h=>?_
 ·refine S4 3 J ?_;refine b6 ?_;cases h;exact⟨J,[_,_],⟨oL J J J A6 u5 nl J,⟨J,tr⟩⟩,J,io⟩
 ·refine b8 ?_;refine c8<|S3 2 J<|cA h a4a J J λv2 _ h=>S2 1 J ?_;refine cN h (λhc h=>?_) λhc h=>?_
  ·refine S4 3 J ?_;refine b6 ?_;cases h;exact⟨J,[_,_],⟨oL J J J A6 u5 nl J,⟨J,tr⟩⟩,J,io⟩
  ·refine b8 ?_;refine S3 5 J<|cF h c2V J J λv3 _ h=>S2 7 J<|S4 3 J<|c8<|S4 2 J ?_;refine cN h (λhc h=>?_) λhc h=>?_
   ·refine S3 3 J ?_;refine cF h F8 J J λv4 _ h=>S2 6 J<|S4 5 J<|S5 4 J<|cF h a2S J J λv5 _ h=>S2 5 J<|S3 2 J<|cF h a8Y J J λv6 _ h=>S2 2 J<|b6 ?_;cases h;exact⟨J,[_,_],⟨oL J J J A6 u5 nl J,⟨J,tr⟩⟩,J,io⟩
   ·refine b8 ?_;refine S3 2 J<|cF h a8Y J J λv7 _ h=>S2 2 J<|b6 ?_;cases h;exact⟨J,[_,_],⟨oL J J J A6 u5 nl J,⟨J,tr⟩⟩,J,io⟩

theorem a7B{a0 a1}:PO Tryz.prog 196 [c7.Pv a0,.I a1] (V8 a0 a1) λr=>.tup [.I r.1,.I r.2]:=by
 refine pO Tryz.func196 λr h _ _=>?_;refine S4 3 J<|c8<|S3 3 J<|iL h J J g7 m7 λv1 hv1 h=>S2 2 J ?_;refine cN h (λhc h=>?_) λhc h=>?_
 ·refine S4 2 J ?_;refine b6 ?_;cases h;exact f2
 ·refine b8 ?_;refine S3 3 J<|y0 J (u7 (f:=iF) (cs:=[.I v1]) hv1 J J g7 m7 J J)<|S2 3 J<|b6 ?_;cases h;exact f2

theorem a5D{a0 a1}:PO Tryz.prog 198 [c7.Pv a0,.I a1] (a4O a0 a1) λr=>.I r:=by
 refine pO Tryz.func198 λr h _ _=>?_;refine S4 2 J<|c8<|S4 2 J ?_;refine cN h (λhc h=>?_) λhc h=>?_
 ·refine S4 1 J ?_;refine b6 ?_;cases h;exact f1
 ·refine b8 ?_;refine S3 3 J<|iL h J J g7 m7 λv1 _ h=>S2 2 J<|b6 ?_;cases h;exact f1

theorem c5P{a0 a1}:PO Tryz.prog 279 [.L iF a0,.I a1] (b29 a0 a1) λr=>.tup [.I r.1,.I r.2]:=by
 refine pO Tryz.func279 λr h _ _=>?_;refine S4 2 J<|c8<|S3 3 J<|l4 J (λhg=>mI J)<|l4 J (λhg=>om (d:=.L iF a0) J)<|l4 J (λhg=>T8 (f:=iF) (ct hg) g7)<|l4 J (λhg=>y5 (ct hg) (ct hg) J)<|y0 J (C7 J J J (λq=>eqF q))<|yN ?_;refine cN h (λhc h=>?_) λhc h=>?_
 ·refine S4 2 J ?_;refine b6 ?_;cases h;exact f2
 ·refine b8 ?_;refine S3 2 J<|iL h J J g7 m7 λv1 _ h=>S2 3 J<|b6 ?_;cases h;exact f2

theorem b1W{a0 a1 a2}:PO Tryz.prog 205 [k8.Pv a0,.I a1,.I a2] (a2R a0 a1 a2) λr=>.tup [.I r.1,.I r.2]:=by
 refine pO Tryz.func205 λr h _ _=>?_;refine S4 3 J<|S3 2 J<|cF h F8 J J λv1 _ h=>S2 6 J<|c8<|S4 2 J ?_;refine cN h (λhc h=>?_) λhc h=>?_
 ·refine S4 3 J ?_;refine b6 ?_;cases h;exact f2
 ·refine b8 ?_;refine S3 3 J<|cA h c5P J J λv2 _ h=>S2 4 J<|b6 ?_;cases h;exact f2

theorem c0V{a0 a1 a2}:PO Tryz.prog 336 [.L iF a0,.I a1,.I a2] (b5E a0 a1 a2) λr=>.tup [.L iF r.1,.I r.2]:=by
 refine pO Tryz.func336 λr h _ _=>?_;refine S4 2 J<|c8<|S3 3 J<|l4 J (λhg=>mI J)<|l4 J (λhg=>om (d:=.L iF a0) J)<|l4 J (λhg=>T8 (f:=iF) (ct hg) g7)<|l4 J (λhg=>y5 (ct hg) (ct hg) J)<|y0 J (C7 J J J (λq=>eqF q))<|yN ?_;refine cN h (λhc h=>?_) λhc h=>?_
 ·refine S4 3 J ?_;refine b6 ?_;cases h;exact f2
 ·refine b8 ?_;refine sR<|y0 J (A2 J g7 m7)<|S1 1 J<|r9 h λv1 hv1 h=>y1 J (a4L (f:=iF) hv1 J J (.inl ⟨_,J,J⟩) g7 m7 F9 y6 J (λ_=>J)) J<|S2 1 J<|S3 3 J<|r9 h λv2 hv2 h=>y0 J (a0r (f:=iF) hv2 J J J J g7 m7 J)<|a43 (f:=iF) (v:=a2) hv2 J J (.inl J) m7<|yN<|S4 3 J<|b6 ?_;cases h;exact f2

theorem c2T{a0 a1 a2 a3}:PO Tryz.prog 275 [k8.Pv a0,.I a1,.I a2,.I a3] (b4x a0 a1 a2 a3) λr=>.tup [k8.Pv r.1,.I r.2]:=by
 refine pO Tryz.func275 λr h _ _=>?_;refine S4 3 J<|S3 2 J<|cF h F8 J J λv1 _ h=>S2 6 J<|c8<|S4 2 J ?_;refine cN h (λhc h=>?_) λhc h=>?_
 ·refine S4 4 J ?_;refine b6 ?_;cases h;exact⟨J,[_,_],⟨oL J J J a0l Z4 nl J,⟨J,tr⟩⟩,J,io⟩
 ·refine b8 ?_;refine S3 4 J<|cF h c0V J J λv2 _ h=>S2 5 J<|c8<|S4 2 J ?_;refine cN h (λhc h=>?_) λhc h=>?_
  ·refine S4 4 J ?_;refine b6 ?_;cases h;exact⟨J,[_,_],⟨oL J J J a0l Z4 nl J,⟨J,tr⟩⟩,J,io⟩
  ·refine b8 ?_;refine S4 3 J<|S3 3 J<|cF h a2S J J λv3 _ h=>S2 4 J<|b6 ?_;cases h;exact⟨J,[_,_],⟨oL J J J a0l Z4 nl J,⟨J,tr⟩⟩,J,io⟩

theorem b8Z{a0 a1 a2 a3}:PO Tryz.prog 197 [c7.Pv a0,.I a1,.I a2,.I a3] (a4p a0 a1 a2 a3) λr=>.tup [c7.Pv r.1,.I r.2]:=by
 refine pO Tryz.func197 λr h _ _=>?_;refine S4 3 J<|S3 4 J<|cA h b1W J J λv1 _ h=>S2 5 J<|c8<|S4 2 J ?_;refine cN h (λhc h=>?_) λhc h=>?_
 ·refine S4 4 J ?_;refine b6 ?_;cases h;exact⟨J,[_,_],⟨oL J J J A6 u5 nl J,⟨J,tr⟩⟩,J,io⟩
 ·refine b8 ?_;refine c8<|S3 2 J<|cA h a4a J J λv2 _ h=>S2 1 J ?_;refine cN h (λhc h=>?_) λhc h=>?_
  ·refine S4 3 J ?_;refine b6 ?_;cases h;exact⟨J,[_,_],⟨oL J J J A6 u5 nl J,⟨J,tr⟩⟩,J,io⟩
  ·refine b8 ?_;refine S3 2 J<|cF h a3g J J λv3 _ h=>S2 2 J<|S3 5 J<|cF h c2T J J λv4 _ h=>S2 5 J<|S3 2 J<|cF h a0w J J λv5 _ h=>S2 2 J<|b6 ?_;cases h;exact⟨J,[_,_],⟨oL J J J A6 u5 nl J,⟨J,tr⟩⟩,J,io⟩

theorem c01{a0 a1}:PO Tryz.prog 133 [.I a0,.I a1] (b12 a0 a1) λr=>.I r:=by
 refine pO Tryz.func133 λr h _ _=>?_;refine S4 1 J<|c8<|S4 2 J ?_;refine cN h (λhc h=>?_) λhc h=>?_
 ·refine S4 1 J ?_;refine b6 ?_;cases h;exact f1
 ·refine b8 ?_;refine S3 4 J<|r9 h λv1 hv1 h=>y0 J (a74 J J hv1)<|S2 1 J<|c8<|S4 2 J ?_;refine cN h (λhc h=>?_) λhc h=>?_
  ·refine S6 4 J ?_;refine S4 2 J<|b6 ?_;cases h;exact f1
  ·refine b8 ?_;refine S4 2 J<|b6 ?_;cases h;exact f1

theorem c2W{a0 a1 a2}:PO Tryz.prog 337 [.L g9.Pv a0,.I a1,.I a2] (b4z a0 a1 a2) λr=>.tup [.L g9.Pv r.1,.I r.2]:=by
 refine pO Tryz.func337 λr h _ _=>?_;refine S4 2 J<|S3 2 J<|cA h a8U J J λv1 _ h=>S2 1 J<|c8<|S4 2 J ?_;refine cN h (λhc h=>?_) λhc h=>?_
 ·refine S3 4 J ?_;refine y0 J (o8 (cs:=[.I 1,.I a1,.I a2]) J b7N a9q J J J)<|cF h a8V J J λv2 _ h=>S2 2 J<|b6 ?_;cases h;exact f2
 ·refine b8 ?_;refine S3 1 J<|nL J R8<|S2 1 J<|S3 2 J<|cA h c01 J J λv3 _ h=>S2 1 J ?_;refine jq h (λ_=>St.of [(0,.L g9.Pv a0)] []) (λq13 h=>?_) λκ12 h=>?_
  ·refine S4 3 J ?_;refine b6 ?_;cases h;exact f2
  ·refine S4 1 J ?_;refine c9<|lq h (λq=>St.of [(0,.L g9.Pv a0),(1,.I a1),(2,.I a2),(9,.I (a0.length:Int)),(10,.I q.1),(11,.I q.2)] []) W λq18 x17 h hx13=>?_;obtain⟨s15,s16⟩:=q18;refine c8<|S4 3 J ?_;refine cN h (λhc h=>?_) λhc h=>?_
   ·refine b8 ?_;refine c8<|c9<|c8<|S3 2 J<|iL h J J R8 T9 λv19 _ h=>S2 3 J ?_;refine cN h (λhc h=>?_) λhc h=>?_
    ·refine S3 4 J ?_;refine y0 J (o8 (cs:=[.I 1,.I a1,.I a2]) J b7N a9q J J J)<|cF h a8V J J λv20 _ h=>S2 2 J<|b6 ?_;have h:=xL hx13 h;cases h;exact f2
    ·refine b8 ?_;refine S5 3 J<|r9 h λv21 hv16 h=>y0 J (a74 J J hv16)<|S2 1 J<|S6 3 J ?_;exact eL h W
   ·refine o5 ?_;refine c4<|c4<|k7 ?_;have h:=xL hx13 h;exact eJ h W

theorem c2Y{a0 a1 a2}:PO Tryz.prog 276 [.L g9.Pv a0,.I a1,.I a2] (b4A a0 a1 a2) λr=>.tup [.L g9.Pv r.1,.I r.2.1,.I r.2.2]:=by
 refine pO Tryz.func276 λr h _ _=>?_;refine S4 3 J<|c8<|S4 2 J ?_;refine cN h (λhc h=>?_) λhc h=>?_
 ·refine S4 4 J ?_;refine b6 ?_;cases h;exact f3
 ·refine b8 ?_;refine S3 2 J<|cA h b0T J J λv1 _ h=>S2 5 J<|c8<|S4 2 J ?_;refine cN h (λhc h=>?_) λhc h=>?_
  ·refine S3 2 J ?_;refine cF h b3F J J λv2 _ h=>S2 7 J<|S4 5 J<|b6 ?_;cases h;exact f3
  ·refine b8 ?_;refine S3 3 J<|cF h c2W J J λv3 _ h=>S2 5 J<|c8<|S4 2 J ?_;refine cN h (λhc h=>?_) λhc h=>?_
   ·refine S4 5 J ?_;refine b6 ?_;cases h;exact f3
   ·refine b8 ?_;refine S4 5 J<|b6 ?_;cases h;exact f3

theorem c1b{a0 a1 a2}:PO Tryz.prog 199 [c7.Pv a0,.I a1,.I a2] (a6x a0 a1 a2) λr=>.tup [c7.Pv r.1,.I r.2]:=by
 refine pO Tryz.func199 λr h _ _=>?_;refine S4 3 J<|c8<|S4 2 J ?_;refine cN h (λhc h=>?_) λhc h=>?_
 ·refine S4 3 J ?_;refine b6 ?_;cases h;exact⟨J,[_,_],⟨oL J J J A6 u5 nl J,⟨J,tr⟩⟩,J,io⟩
 ·refine b8 ?_;refine c8<|S3 2 J<|cA h a38 J J λv1 _ h=>S1 2 J<|l4 J (λhg=>oL J J J A6 u5 nl J)<|l4 J (λhg=>mI J)<|r9 h λv2 hv2 h=>l4 J (λhg=>D4 J a4a (D8 (ct hg) (D8 (ct hg) J)) (G8 hv2 hg))<|l4 J (λhg=>a2f (ct hg) J)<|y0 J (C7 J J J (λq=>eqF q))<|yN ?_;refine cN h (λhc h=>?_) λhc h=>?_
  ·refine S4 3 J ?_;refine b6 ?_;cases h;exact⟨J,[_,_],⟨oL J J J A6 u5 nl J,⟨J,tr⟩⟩,J,io⟩
  ·refine b8 ?_;refine S3 4 J<|cF h c2Y J J λv3 _ h=>S2 7 J<|c8<|S4 2 J ?_;refine cN h (λhc h=>?_) λhc h=>?_
   ·refine S4 4 J ?_;refine b6 ?_;cases h;exact⟨J,[_,_],⟨oL J J J A6 u5 nl J,⟨J,tr⟩⟩,J,io⟩
   ·refine b8 ?_;refine S3 2 J<|cF h a3g J J λv4 _ h=>S2 2 J<|S4 3 J<|S3 2 J<|cF h a0w J J λv5 _ h=>S2 2 J<|b6 ?_;cases h;exact⟨J,[_,_],⟨oL J J J A6 u5 nl J,⟨J,tr⟩⟩,J,io⟩

theorem b82{a0 a1}:PO Tryz.prog 117 [c7.Pv a0,r8.Pv a1] (a0T a0 a1) λr=>.tup [c7.Pv r.1,.I r.2.1,.I r.2.2]:=by
 refine pO Tryz.func117 λr h _ _=>?_;refine S4 5 J<|c8<|S3 4 J<|l4 J (λhg=>oF J c42 J)<|l4 J (λhg=>oS (ct hg) J J C5 J)<|l4 J (λhg=>y5 (ct hg) J J)<|y0 J (z7 J J J (λq=>eqT q))<|yN ?_;refine cN h (λhc h=>?_) λhc h=>?_
 ·refine S3 5 J ?_;refine cF h b3G J J λv1 _ h=>S2 6 J<|S4 5 J<|b6 ?_;cases h;exact⟨J,[_,_,_],⟨oL J J J A6 u5 nl J,⟨J,⟨J,tr⟩⟩⟩,J,io⟩
 ·refine b8 ?_;refine S4 3 J ?_;refine jq h (λj3=>St.of [(2,.ptr 2 0 0),(3,.ptr 3 0 0),(4,.ptr 4 0 0),(9,.I j3)] [(4,vR (.agg [.nl,.I 0,.I 0,.nl,.nl,.nl,.nl,.I 0]) 8),(3,vR (r8.Pv a1) 4),(2,vR (c7.Pv a0) 8)]) (λj3 h=>?_) λκ2 h=>?_
  ·refine S3 2 J ?_;refine cA h a7B J J λv4 _ h=>S2 5 J<|c8<|S4 2 J ?_;refine cN h (λhc h=>?_) λhc h=>?_
   ·refine S4 5 J ?_;refine b6 ?_;cases h;exact⟨J,[_,_,_],⟨oL J J J A6 u5 nl J,⟨J,⟨J,tr⟩⟩⟩,J,io⟩
   ·refine b8 ?_;refine c8<|S4 2 J<|c9<|S4 2 J ?_;refine cN h (λhc h=>?_) λhc h=>?_
    ·refine dr [] o9 (by kernel_rfl) (by kernel_rfl) ?_
     refine S7 7 J<|r9 h λv5 hv4 h=>d2 J (D4 J a5D J hv4) J<|r9 h λv6 hv5 h=>d2f J (u6 J b8Z J hv5) J<|S7 4 J<|A3 (x':=c7.Pv v6.1) (cl':=true) J J (.inr J) u5<|S8 1 J<|dr [] o9 (by kernel_rfl) (by kernel_rfl)<|S7 4 J<|d2 J (D4 J a5D J hv4) J<|S7 1 J<|A3 (x':=c7.Pv v6.1) (cl':=true) J J (.inr J) u5<|S8 2 J<|b6 ?_
     cases h;exact⟨J,[_,_,_],⟨oL J J J A6 u5 nl J,⟨J,⟨J,tr⟩⟩⟩,J,io⟩
    ·refine S4 2 J ?_;refine cN h (λhc h=>?_) λhc h=>?_
     ·refine S3 6 J ?_;refine cF h b3G J J λv7 _ h=>S2 6 J<|S4 6 J<|b6 ?_;cases h;exact⟨J,[_,_,_],⟨oL J J J A6 u5 nl J,⟨J,⟨J,tr⟩⟩⟩,J,io⟩
     ·refine b8 ?_;refine dr [] o9 (by kernel_rfl) (by kernel_rfl)<|S7 5 J<|r9 h λv8 hv7 h=>d2 J (D4 J a5D J hv7) J<|r9 h λv9 hv8 h=>d2f J (u6 J c1b J hv8) J<|S7 4 J<|A3 (x':=c7.Pv v9.1) (cl':=true) J J (.inr J) u5<|S8 1 J<|dr [] o9 (by kernel_rfl) (by kernel_rfl)<|S7 4 J<|d2 J (D4 J a5D J hv7) J<|S7 1 J<|A3 (x':=c7.Pv v9.1) (cl':=true) J J (.inr J) u5<|S8 2 J<|b6 ?_
      cases h;exact⟨J,[_,_,_],⟨oL J J J A6 u5 nl J,⟨J,⟨J,tr⟩⟩⟩,J,io⟩
  ·refine S4 3 J ?_;refine cN h (λhc h=>?_) λhc h=>?_
   ·refine S6 3 J ?_;exact eJ h W
   ·refine b8 ?_;exact eJ h W

theorem b0s{a0 a1}:PO Tryz.prog 71 [c7.Pv a0,.I a1] (a1C a0 a1) λr=>.I r:=by
 refine pO Tryz.func71 λr h _ _=>?_;refine S4 2 J<|S3 3 J<|cF h F8 J J λv1 _ h=>S2 6 J<|S4 3 J<|b6 ?_;cases h;exact f1

theorem c2S{a0}:PO Tryz.prog 200 [.I a0] (b1V a0) λr=>.tup [.L iF r.1,.I r.2]:=by
 refine pO Tryz.func200 λr h _ _=>?_;refine S4 2 J<|c8<|S3 3 J<|l4 J (λhg=>mI J)<|l4 J (λhg=>y5 (ct hg) J J)<|y0 J (C7 J J J (λq=>eqF q))<|yN ?_;refine cN h (λhc h=>?_) λhc h=>?_
 ·refine S4 2 J ?_;refine b6 ?_;cases h;exact f2
 ·refine b8 ?_;refine S3 1 J<|r9 h λv1 hv1 h=>y1 J (c0G (f:=iF) hv1 J J J g7 m7 y6 F9 J J J) J<|S2 2 J<|b6 ?_;cases h;exact f2

theorem c0U{a0 a1}:PO Tryz.prog 201 [y7.Pv a0,.I a1] (a6q a0 a1) λr=>.tup [y7.Pv r.1,.I r.2.1,.I r.2.2]:=by
 refine pO Tryz.func201 λr h _ _=>?_;refine S4 4 J ?_;refine jq h (λ_=>St.of [(2,.ptr 2 0 0),(4,.ptr 4 0 0)] [(4,vR (.agg [.nl,.I 0]) 2),(2,vR (y7.Pv a0) 2)]) (λq8 h=>?_) λκ7 h=>?_
 ·refine S4 4 J ?_;refine b6 ?_;cases h;exact⟨J,[_,_,_],⟨oL J J J a3V a1Z nl J,⟨J,⟨J,tr⟩⟩⟩,J,io⟩
 ·refine S4 1 J ?_;refine c9<|lq h (λs10=>St.of [(1,.I a1),(2,.ptr 2 0 0),(4,.ptr 4 0 0),(7,.I s10)] [(4,vR (.agg [.nl,.I 0]) 2),(2,vR (y7.Pv a0) 2)]) W λs10 x11 h hx10=>c8<|S3 3 J<|nL J Q7<|S2 1 J ?_;refine cN h (λhc h=>?_) λhc h=>?_
  ·refine b8 ?_;refine c8<|c9<|S3 3 J<|iL h J J Q7 U0 λv12 hv11 h=>S2 3 J ?_;refine cN h (λhc h=>?_) λhc h=>?_
   ·refine S3 3 J ?_;refine y0 J (u7 (f:=x4.Pv) (cs:=x4.Pc v12) hv11 J J Q7 U0 J J)<|S2 3 J<|S3 4 J<|y0 J (o8 (cs:=[.I 1,.I v12.Gen,.I a1]) J b06 a5h J J J)<|cF h a5A J J λv13 _ h=>S1 2 J<|cA h a8N J J λv14 _ h=>S2 3 J<|b6 ?_;have h:=xL hx10 h;cases h;exact⟨J,[_,_,_],⟨oL J J J a3V a1Z nl J,⟨J,⟨J,tr⟩⟩⟩,J,io⟩
   ·refine b8 ?_;refine S6 3 J ?_;exact eL h W
  ·refine o5 ?_;refine c4<|c4<|k7 ?_;have h:=xL hx10 h;exact eJ h W

theorem c0X{a0 a1 a2}:PO Tryz.prog 118 [k8.Pv a0,.I a1,.I a2] (a2j a0 a1 a2) λr=>.tup [k8.Pv r.1,.I r.2.1,.I r.2.2]:=by
 refine pO Tryz.func118 λr h _ _=>?_;refine S4 4 J<|S3 1 J<|cF h c2S J J λv1 _ h=>S2 5 J<|c8<|S4 2 J ?_;refine cN h (λhc h=>?_) λhc h=>?_
 ·refine S4 5 J ?_;refine b6 ?_;cases h;exact⟨J,[_,_,_],⟨oL J J J a0l Z4 nl J,⟨J,⟨J,tr⟩⟩⟩,J,io⟩
 ·refine b8 ?_;refine c8<|S3 3 J<|l4 J (λhg=>mI J)<|l4 J (λhg=>y5 (ct hg) J J)<|y0 J (C7 J J J (λq=>eqF q))<|yN ?_;refine cN h (λhc h=>?_) λhc h=>?_
  ·refine S4 4 J ?_;refine b6 ?_;cases h;exact⟨J,[_,_,_],⟨oL J J J a0l Z4 nl J,⟨J,⟨J,tr⟩⟩⟩,J,io⟩
  ·refine b8 ?_;refine S3 1 J<|cF h R2 J J λv2 _ h=>cF h c0U J J λv3 _ h=>S2 8 J<|c8<|S4 2 J ?_;refine cN h (λhc h=>?_) λhc h=>?_
   ·refine S4 5 J ?_;refine b6 ?_;cases h;exact⟨J,[_,_,_],⟨oL J J J a0l Z4 nl J,⟨J,⟨J,tr⟩⟩⟩,J,io⟩
   ·refine b8 ?_;refine dr [] o9 (by kernel_rfl) (by kernel_rfl)<|S7 2 J<|r9 h λv4 hv4 h=>d2f J (u6 J a51 J hv4) J<|S7 1 J<|r9 h λv5 hv5 h=>d2 J (D4 J a8P J hv5) J<|S7 5 J<|d7 J (λ_ hN=>o8 (cs:=[.I (x8 (a0.Serial+1)),.I 0,.I 0,.I a2,.bool false,.L iF v1.1]) J b7R b7W J J J) J<|r9 h λv6 hv6 h=>d2f J (u6 J a8S J hv6) J<|S7 1 J<|A3 (x':=k8.Pv v6) (cl':=true) J J (.inr J) Z4<|G0<|S4 5 J<|S4 5 J<|b6 ?_
    cases h;exact⟨J,[_,_,_],⟨oL J J J a0l Z4 nl J,⟨J,⟨J,tr⟩⟩⟩,J,io⟩

theorem b7l{a0 a1}:PO Tryz.prog 120 [c7.Pv a0,.I a1] (b0V a0 a1) λr=>.I r:=by
 refine pO Tryz.func120 λr h _ _=>?_;refine S4 2 J<|c8<|S3 3 J<|l4 J (λhg=>mI J)<|l4 J (λhg=>y5 (ct hg) J J)<|y0 J (C7 J J J (λq=>eqF q))<|yN ?_;refine cN h (λhc h=>?_) λhc h=>?_
 ·refine S4 1 J ?_;refine b6 ?_;cases h;exact f1
 ·refine b8 ?_;refine dr [] o9 (by kernel_rfl) (by kernel_rfl)<|S7 4 J<|r9 h λv1 hv1 h=>d0 J (u7 (f:=iF) (cs:=[.I v1]) hv1 J J g7 m7 J J) J<|S7 1 J<|r9 h λv2 hv2 h=>d2 J (D4 J b0s J hv2) J<|S8 1 J<|b6 ?_
  cases h;exact f1

theorem c0Z{a0 a1}:PO Tryz.prog 206 [.L m8.Pv a0,.I a1] (a8T a0 a1) λr=>.tup [.I r.1,.I r.2]:=by
 refine pO Tryz.func206 λr h _ _=>?_;refine S4 2 J<|c8<|S3 3 J<|l4 J (λhg=>mI J)<|l4 J (λhg=>om (d:=.L m8.Pv a0) J)<|l4 J (λhg=>T8 (f:=m8.Pv) (ct hg) P1)<|l4 J (λhg=>y5 (ct hg) (ct hg) J)<|y0 J (C7 J J J (λq=>eqF q))<|yN ?_;refine cN h (λhc h=>?_) λhc h=>?_
 ·refine S4 2 J ?_;refine b6 ?_;cases h;exact f2
 ·refine b8 ?_;refine c8<|S3 2 J<|iL h J J P1 Q1 λv1 hv1 h=>S1 4 J<|l4 J (λhg=>om (d:=.L m8.Pv a0) J)<|l4 J (λhg=>mI J)<|l4 J (λhg=>u7 (f:=m8.Pv) (cs:=m8.Pc v1) hv1 (ct hg) (ct hg) P1 Q1 J J)<|l4 J (λhg=>A5 (ct hg) c49 J)<|l4 J (λhg=>F6 (ct hg) b05 J)<|l4 J (λhg=>a2f (ct hg) J)<|y0 J (C7 J J J (λq=>eqF q))<|yN ?_;refine cN h (λhc h=>?_) λhc h=>?_
  ·refine S4 2 J ?_;refine b6 ?_;cases h;exact f2
  ·refine b8 ?_;refine S3 2 J<|y0 J (u7 (f:=m8.Pv) (cs:=m8.Pc v1) hv1 J J P1 Q1 J J)<|S2 4 J<|b6 ?_;cases h;exact f2

theorem c2X{a0 a1}:PO Tryz.prog 207 [.L g9.Pv a0,.I a1] (b15 a0 a1) λr=>.tup [.I r.1,.I r.2]:=by
 refine pO Tryz.func207 λr h _ _=>?_;refine S4 2 J<|S3 2 J<|cA h b0T J J λv1 _ h=>S2 4 J<|b6 ?_;cases h;exact f2

theorem b81{a0 a1}:PO Tryz.prog 121 [c7.Pv a0,r8.Pv a1] (a1N a0 a1) λr=>.tup [.I r.1,.I r.2]:=by
 refine pO Tryz.func121 λr h _ _=>?_;refine S4 4 J<|c8<|S4 2 J<|c9<|S4 2 J ?_;refine cN h (λhc h=>?_) λhc h=>?_
 ·refine S3 4 J ?_;refine iL h J J g7 m7 λv1 _ h=>S2 3 J<|b6 ?_;cases h;exact f2
 ·refine S4 2 J ?_;refine cN h (λhc h=>?_) λhc h=>?_
  ·refine S3 3 J ?_;refine cA h a7B J J λv2 _ h=>S2 5 J<|c8<|S4 2 J ?_;refine cN h (λhc h=>?_) λhc h=>?_
   ·refine S4 3 J ?_;refine b6 ?_;cases h;exact f2
   ·refine b8 ?_;refine S3 5 J<|cA h b1W J J λv3 _ h=>S2 4 J<|b6 ?_;cases h;exact f2
  ·refine S4 2 J ?_;refine cN h (λhc h=>?_) λhc h=>?_
   ·refine S3 4 J ?_;refine cA h c0Z J J λv4 _ h=>S2 4 J<|b6 ?_;cases h;exact f2
   ·refine S4 2 J ?_;refine cN h (λhc h=>?_) λhc h=>?_
    ·refine S3 3 J ?_;refine cA h a7B J J λv5 _ h=>S2 5 J<|c8<|S4 2 J ?_;refine cN h (λhc h=>?_) λhc h=>?_
     ·refine S4 3 J ?_;refine b6 ?_;cases h;exact f2
     ·refine b8 ?_;refine S3 3 J<|cA h c2X J J λv6 _ h=>S2 4 J<|b6 ?_;cases h;exact f2
    ·refine b8 ?_;refine S4 2 J<|b6 ?_;cases h;exact f2

theorem b7m{a0 a1}:PO Tryz.prog 64 [c7.Pv a0,r8.Pv a1] (D2 a0 a1) λr=>.tup [c7.Pv r.1,.I r.2.1,.I r.2.2]:=by
 refine pO Tryz.func64 λr h _ _=>?_;refine S4 5 J<|S3 1 J<|cA h b2f J J λv1 _ h=>S2 1 J<|c8<|S4 2 J ?_;refine cN h (λhc h=>?_) λhc h=>?_
 ·refine S4 5 J ?_;refine b6 ?_;cases h;exact⟨J,[_,_,_],⟨oL J J J A6 u5 nl J,⟨J,⟨J,tr⟩⟩⟩,J,io⟩
 ·refine b8 ?_;refine c8<|S3 1 J<|cA h b80 J J λv2 _ h=>S2 1 J ?_;refine cN h (λhc h=>?_) λhc h=>?_
  ·refine S4 4 J ?_;refine b6 ?_;cases h;exact⟨J,[_,_,_],⟨oL J J J A6 u5 nl J,⟨J,⟨J,tr⟩⟩⟩,J,io⟩
  ·refine b8 ?_;refine c8<|S4 2 J<|c9<|S4 2 J ?_;refine cN h (λhc h=>?_) λhc h=>?_
   ·refine c8 ?_;refine dr [] o9 (by kernel_rfl) (by kernel_rfl)<|S7 4 J<|r9 h λv3 hv3 h=>d0 J (u7 (f:=iF) (cs:=[.I v3]) hv3 J J g7 m7 J J) J<|S7 5 J<|r9 h λv4 hv4 h=>d0 J (u7 (f:=iF) (cs:=[.I v4]) hv4 J J g7 m7 J J) J<|S8 2 J ?_
    refine cN h (λhc h=>?_) λhc h=>?_
    ·refine S4 4 J ?_;refine b6 ?_;cases h;exact⟨J,[_,_,_],⟨oL J J J A6 u5 nl J,⟨J,⟨J,tr⟩⟩⟩,J,io⟩
    ·refine b8 ?_;refine S4 4 J<|b6 ?_;cases h;exact⟨J,[_,_,_],⟨oL J J J A6 u5 nl J,⟨J,⟨J,tr⟩⟩⟩,J,io⟩
   ·refine jq h (λj6=>St.of [(2,.ptr 2 0 0),(3,.ptr 3 0 0),(4,.ptr 4 0 0),(30,.I a1.Kind),(48,.bool j6)] [(4,vR (.agg [.nl,.I 0,.I 0,.nl,.nl,.nl,.nl,.I 0]) 8),(3,vR (r8.Pv a1) 4),(2,vR (c7.Pv a0) 8)]) (λj6 h=>?_) λκ5 h=>?_
    ·refine cN h (λhc h=>?_) λhc h=>?_
     ·refine S3 2 J ?_;refine cF h b82 J J λv7 _ h=>S2 8 J<|c8<|S4 2 J ?_;refine cN h (λhc h=>?_) λhc h=>?_
      ·refine S4 5 J ?_;refine b6 ?_;cases h;exact⟨J,[_,_,_],⟨oL J J J A6 u5 nl J,⟨J,⟨J,tr⟩⟩⟩,J,io⟩
      ·refine b8 ?_;refine dr [] o9 (by kernel_rfl) (by kernel_rfl)<|S7 1 J<|r9 h λv8 hv7 h=>d2f J (u6 J Y8 J hv7) J<|S7 2 J<|r9 h λv9 hv8 h=>d2 J (D4 J b0s J hv8) J<|A3 (x':=c7.Pv v8) (cl':=true) J J (.inr J) u5<|S8 2 J<|b6 ?_
       cases h;exact⟨J,[_,_,_],⟨oL J J J A6 u5 nl J,⟨J,⟨J,tr⟩⟩⟩,J,io⟩
     ·refine S4 2 J ?_;refine cN h (λhc h=>?_) λhc h=>?_
      ·refine S3 6 J ?_;refine cF h c0X J J λv10 _ h=>S2 8 J<|c8<|S4 2 J ?_;refine cN h (λhc h=>?_) λhc h=>?_
       ·refine S4 5 J ?_;refine b6 ?_;cases h;exact⟨J,[_,_,_],⟨oL J J J A6 u5 nl J,⟨J,⟨J,tr⟩⟩⟩,J,io⟩
       ·refine b8 ?_;refine S4 3 J<|S4 3 J<|S3 4 J<|cF h a5C J J λv11 _ h=>S2 4 J<|S3 1 J<|cF h Y8 J J λv12 _ h=>S2 1 J<|dr [] o9 (by kernel_rfl) (by kernel_rfl)<|S7 4 J<|r9 h λv13 hv12 h=>d2 J (D4 J b7l J hv12) J<|A3 (x':=c7.Pv v12) (cl':=true) J J (.inr J) u5<|S8 2 J<|b6 ?_
        cases h;exact⟨J,[_,_,_],⟨oL J J J A6 u5 nl J,⟨J,⟨J,tr⟩⟩⟩,J,io⟩
      ·refine b8 ?_;refine S3 2 J<|cA h b81 J J λv14 _ h=>S2 5 J<|c8<|S4 2 J ?_;refine cN h (λhc h=>?_) λhc h=>?_
       ·refine S4 5 J ?_;refine b6 ?_;cases h;exact⟨J,[_,_,_],⟨oL J J J A6 u5 nl J,⟨J,⟨J,tr⟩⟩⟩,J,io⟩
       ·refine b8 ?_;refine S3 4 J<|cF h a5C J J λv15 _ h=>S2 6 J<|S3 1 J<|cF h Y8 J J λv16 _ h=>S2 1 J<|dr [] o9 (by kernel_rfl) (by kernel_rfl)<|S7 4 J<|r9 h λv17 hv16 h=>d2 J (D4 J b7l J hv16) J<|A3 (x':=c7.Pv v16) (cl':=true) J J (.inr J) u5<|S8 2 J<|b6 ?_
        cases h;exact⟨J,[_,_,_],⟨oL J J J A6 u5 nl J,⟨J,⟨J,tr⟩⟩⟩,J,io⟩
    ·refine S4 2 J ?_;refine cN h (λhc h=>?_) λhc h=>?_
     ·refine b8 ?_;exact eJ h W
     ·refine S4 2 J ?_;refine cN h (λhc h=>?_) λhc h=>?_
      ·refine b8 ?_;exact eJ h W
      ·refine S6 2 J ?_;exact eJ h W

theorem c2Z{a0 a1}:PO Tryz.prog 194 [c7.Pv a0,.L r8.Pv a1] (b2g a0 a1) λr=>.tup [c7.Pv r.1,.L iF r.2]:=by
 refine pO Tryz.func194 λr h _ _=>?_;refine S4 3 J<|sR<|y0 J (A2 J g7 m7)<|S2 1 J ?_;refine jq h (λq=>St.of [(2,.ptr 2 0 0),(4,.ptr 4 0 0),(6,.sl 910006)] [(910006,⟨List.map iF q.2,(List.map iF q.2).length,true,1,true⟩),(4,vR (.agg [.nl,.I 0,.I 0,.nl,.nl,.nl,.nl,.I 0]) 8),(2,vR (c7.Pv q.1) 8)]) (λq13 h=>?_) λκ10 h=>?_
 ·obtain⟨j11,j12⟩:=q13;refine S4 4 J<|b6 ?_;cases h;exact⟨J,[_,_],⟨oL J J J A6 u5 nl J,⟨J,tr⟩⟩,J,io⟩
 ·refine S4 1 J ?_;refine c9<|lq h (λq=>St.of [(1,.L r8.Pv a1),(2,.ptr 2 0 0),(4,.ptr 4 0 0),(6,.sl 910006),(7,.I q.1)] [(4,vR (.agg [.nl,.I 0,.I 0,.nl,.nl,.nl,.nl,.I 0]) 8),(2,vR (c7.Pv q.2.1) 8),(910006,⟨List.map iF q.2.2,(List.map iF q.2.2).length,true,1,true⟩)]) (Wk.trans (C9 (t:=6) (l:=920006) (z:=1) J J) (WP (λl=>if l=910006 then 920006 else l))) λq19 x18 h hx10=>?_
  obtain⟨s15,s16,s17⟩:=q19;refine c8<|S3 2 J<|nL J a9l<|S2 1 J ?_;refine cN h (λhc h=>?_) λhc h=>?_
  ·refine b8 ?_;refine c8<|c9<|dr [] o9 (by kernel_rfl) (by kernel_rfl)<|S7 3 J<|r9 h λv20 hv11 h=>d0 J (u7 (f:=r8.Pv) (cs:=r8.Pc v20) hv11 J J a9l a5d J J) J<|S7 1 J<|r9 h λv21 hv12 h=>d2f J (u6 J b7m J hv12) J<|S7 5 J<|A3 (x':=c7.Pv v21.1) (cl':=true) J J (.inr J) u5<|S8 2 J<|S4 2 J<|S5 2 J<|y0 J (G1 (f:=iF) (l:=[v21.2.1]) J g7 m7 y6 J J nl J J)<|r9 h λv22 hv13 h=>H5 J (F1 (f:=iF) hv13 J J J J J J (.inl ⟨_,J,J⟩) g7 m7 F9 y6 J (λ_=>J)) J J J<|S2 1 J<|S6 3 J ?_
   exact eL h (Wk.trans (n0 _ [32]) (WP (λl=>if l=910006 then 32 else l)))
  ·refine o5 ?_;refine c4<|c4<|k7 ?_;have h:=xL hx10 h;exact eJ h (Wk.trans (n0 _ [910006]) W)

theorem c1h{a0 a1}:PO Tryz.prog 116 [c7.Pv a0,.L (Ls r8.Pv) a1] (b2h a0 a1) λr=>.tup [c7.Pv r.1,o6.Pv r.2.1,.I r.2.2]:=by
 refine pO Tryz.func116 λr h _ _=>?_;refine S4 4 J<|S3 2 J<|cF h c09 J J λv1 _ h=>S2 9 J<|c8<|S4 2 J ?_;refine cN h (λhc h=>?_) λhc h=>?_
 ·refine S3 1 J ?_;refine y0 J (o8 (cs:=[.I 0,.I 0,.I 0]) J b4e a3Y J J J)<|S2 4 J<|b6 ?_;cases h;exact⟨J,[_,_,_],⟨oL J J J A6 u5 nl J,⟨oL J J J a5c H3 nl J,⟨J,tr⟩⟩⟩,J,io⟩
 ·refine b8 ?_;refine S4 3 J<|S4 3 J ?_;refine jq h (λj6=>St.of [(1,.L (Ls r8.Pv) a1),(4,.ptr 4 0 0),(5,.ptr 5 0 0),(8,.ptr 8 0 0),(10,.ptr 10 0 0)] [(10,vR (c7.Pv j6) 8),(8,vR (o6.Pv v1.2.1) 3),(5,vR (.agg [.I 0,.I 0,.I 0]) 3),(4,vR (.agg [.nl,.I 0,.I 0,.nl,.nl,.nl,.nl,.I 0]) 8)]) (λj6 h=>?_) λκ5 h=>?_
  ·refine dr [] o9 (by kernel_rfl) (by kernel_rfl) ?_
   refine S7 4 J<|r9 h λv7 hv6 h=>d2f J (u6 J b3I J hv6) J<|r9 h λv8 hv7 h=>d2f J (u6 J c2Z J hv7) J<|S7 3 J<|A3 (x':=c7.Pv v8.1) (cl':=true) J J (.inr J) u5<|G0<|c8<|S4 3 J ?_;refine cN h (λhc h=>?_) λhc h=>?_
   ·refine S3 1 J ?_;refine cF h a5C J J λv9 _ h=>S2 4 J<|S5 1 J<|cF h Y8 J J λv10 _ h=>S2 1 J<|dr [1,1008] o9 (by kernel_rfl) (by kernel_rfl)<|S7 1 J<|d7 J (λ_ hN=>a37 (cs:=o6.Pc v1.2.1) hN J J J J a5c H3 nl J) J<|A3 (x':=c7.Pv v10) (cl':=true) J J (.inr J) u5<|A3 (x':=o6.Pv v1.2.1) (cl':=true) J J (.inl J) H3<|S8 1 J<|b6 ?_
    cases h;exact⟨J,[_,_,_],⟨oL J J J A6 u5 nl J,⟨oL J J J a5c H3 nl J,⟨J,tr⟩⟩⟩,J,io⟩
   ·refine b8 ?_;refine dr [1,1008] o9 (by kernel_rfl) (by kernel_rfl)<|S7 1 J<|d7 J (λ_ hN=>a37 (cs:=o6.Pc v1.2.1) hN J J J J a5c H3 nl J) J<|A3 (x':=c7.Pv v8.1) (cl':=true) J J (.inr J) u5<|A3 (x':=o6.Pv v1.2.1) (cl':=true) J J (.inl J) H3<|S8 1 J<|b6 ?_
    cases h;exact⟨J,[_,_,_],⟨oL J J J A6 u5 nl J,⟨oL J J J a5c H3 nl J,⟨J,tr⟩⟩⟩,J,io⟩
  ·refine S4 3 J ?_;refine cN h (λhc h=>?_) λhc h=>?_
   ·refine S3 3 J ?_;refine cF h a5C J J λv11 _ h=>S2 4 J<|S5 3 J<|cF h a0w J J λv12 _ h=>cF h Y8 J J λv13 _ h=>S2 1 J ?_;exact eJ h W
   ·refine b8 ?_;exact eJ h W

theorem b84{a0 a1 a2}:PO Tryz.prog 63 [c7.Pv a0,.L (Ls r8.Pv) a1,.I a2] (a6C a0 a1 a2) λr=>.tup [c7.Pv r.1,.I r.2.1,.I r.2.2.1,.I r.2.2.2]:=by
 refine pO Tryz.func63 λr h _ _=>?_;refine S4 5 J<|S4 1 J ?_;refine jq h (λq=>St.of [(2,.I q.1),(3,.ptr 3 0 0),(6,.ptr 6 0 0),(10,.I q.2.1)] [(6,vR (.agg [.nl,.I 0,.I 0,.nl,.nl,.nl,.nl,.I 0]) 8),(3,vR (c7.Pv q.2.2) 8)]) (λq15 h=>?_) λκ11 h=>?_
 ·obtain⟨j12,j13,j14⟩:=q15;refine S4 7 J<|b6 ?_;cases h;exact⟨J,[_,_,_,_],⟨oL J J J A6 u5 nl J,⟨J,⟨J,⟨J,tr⟩⟩⟩⟩,J,io⟩
 ·refine c9 ?_;refine lq h (λq=>St.of [(1,.L (Ls r8.Pv) a1),(2,.I q.1),(3,.ptr 3 0 0),(6,.ptr 6 0 0),(10,.I q.2.1)] [(6,vR (.agg [.nl,.I 0,.I 0,.nl,.nl,.nl,.nl,.I 0]) 8),(3,vR (c7.Pv q.2.2) 8)]) W λq21 x20 h hx11=>?_;obtain⟨s17,s18,s19⟩:=q21;refine c8<|S3 1 J<|cA h b85 J J λv22 _ h=>S2 1 J ?_;refine cN h (λhc h=>?_) λhc h=>?_
  ·refine b8 ?_;refine c9<|S3 4 J<|iL h J J R9 H3 λv23 _ h=>S1 1 J<|cA h c1g J J λv24 _ h=>S2 1 J<|c8<|S4 3 J ?_;refine cN h (λhc h=>?_) λhc h=>?_
   ·refine S4 7 J ?_;refine b6 ?_;have h:=xL hx11 h;cases h;exact⟨J,[_,_,_,_],⟨oL J J J A6 u5 nl J,⟨J,⟨J,⟨J,tr⟩⟩⟩⟩,J,io⟩
   ·refine b8 ?_;refine S3 2 J<|cF h c1h J J λv25 _ h=>S2 9 J<|S4 2 J<|S4 4 J<|S6 3 J ?_;exact eL h W
  ·refine o5 ?_;refine c4<|c4<|k7 ?_;have h:=xL hx11 h;exact eJ h W

theorem c5Y{a0 a1}:PO Tryz.prog 22 [w8.Pv a0,.L iF a1] (b86 a0 a1) λr=>.tup [w8.Pv r.1,p7.Pv r.2]:=by
 refine pO Tryz.func22 λr h _ _=>?_;refine S4 3 J<|S3 1 J<|cA h b6y J J λv1 _ h=>S2 6 J<|c8<|S4 2 J ?_;refine cN h (λhc h=>?_) λhc h=>?_
 ·refine S3 2 J ?_;refine y0 J (o8 (cs:=[.I 0,.I v1.2]) J b7Q a8r J J J)<|S2 2 J<|b6 ?_;cases h;exact⟨J,[_,_],⟨oL J J J b2I a8q nl J,⟨oL J J J b7I a2E nl J,tr⟩⟩,J,io⟩
 ·refine b8 ?_;refine c8<|S4 2 J<|c9<|S4 2 J ?_;refine cN h (λhc h=>?_) λhc h=>?_
  ·refine S3 2 J ?_;refine cF h b5J J J λv2 _ h=>S2 8 J<|S3 3 J<|y0 J (o8 (cs:=[.L n8.Pv v2.1.S.a8,.I v2.1.S.Last,.I v2.1.S.Serial,.L iF v2.1.Roots,.L m8.Pv v2.1.a8,.L g9.Pv v2.1.T,.L o6.Pv v2.1.Q.L,.I v2.1.Q.Cap,.L (Ls r8.Pv) a0.Progs]) J b7P b7U J J J)<|S1 3 J<|y0 J (o8 (cs:=[.I (x8 (v2.2.2-v2.2.1)),.I 0]) J b7Q a8r J J J)<|S2 2 J<|b6 ?_;cases h;exact⟨J,[_,_],⟨oL J J J b2I a8q nl J,⟨oL J J J b7I a2E nl J,tr⟩⟩,J,io⟩
  ·refine S4 2 J ?_;refine cN h (λhc h=>?_) λhc h=>?_
   ·refine S3 6 J ?_;refine cF h b84 J J λv3 _ h=>S2 10 J<|S3 3 J<|y0 J (o8 (cs:=[.L n8.Pv v3.1.S.a8,.I v3.1.S.Last,.I v3.1.S.Serial,.L iF v3.1.Roots,.L m8.Pv v3.1.a8,.L g9.Pv v3.1.T,.L o6.Pv v3.1.Q.L,.I v3.1.Q.Cap,.L (Ls r8.Pv) a0.Progs]) J b7P b7U J J J)<|S1 2 J<|y0 J (o8 (cs:=[.I v3.2.1,.I v3.2.2.2]) J b7Q a8r J J J)<|S2 2 J<|b6 ?_;cases h;exact⟨J,[_,_],⟨oL J J J b2I a8q nl J,⟨oL J J J b7I a2E nl J,tr⟩⟩,J,io⟩
   ·refine b8 ?_;refine S3 3 J<|cF h b7m J J λv4 _ h=>S2 8 J<|S3 3 J<|y0 J (o8 (cs:=[.L n8.Pv v4.1.S.a8,.I v4.1.S.Last,.I v4.1.S.Serial,.L iF v4.1.Roots,.L m8.Pv v4.1.a8,.L g9.Pv v4.1.T,.L o6.Pv v4.1.Q.L,.I v4.1.Q.Cap,.L (Ls r8.Pv) a0.Progs]) J b7P b7U J J J)<|S1 2 J<|y0 J (o8 (cs:=[.I v4.2.1,.I v4.2.2]) J b7Q a8r J J J)<|S2 2 J<|b6 ?_;cases h;exact⟨J,[_,_],⟨oL J J J b2I a8q nl J,⟨oL J J J b7I a2E nl J,tr⟩⟩,J,io⟩

theorem c20{a0 a1}:PO Tryz.prog 33 [w8.Pv a0,.L (Ls iF) a1] (a9K a0 a1) λr=>.tup [w8.Pv r.1,.L p7.Pv r.2]:=by
 refine pO Tryz.func33 λr h _ _=>?_;refine S4 3 J<|sR<|y0 J (A2 J a4v a2E)<|S2 1 J ?_;refine jq h (λq=>St.of [(2,.ptr 2 0 0),(4,.ptr 4 0 0),(6,.sl 910006)] [(910006,⟨List.map p7.Pv q.2,(List.map p7.Pv q.2).length,true,2,true⟩),(4,vR (.agg [.nl,.I 0,.I 0,.nl,.nl,.nl,.nl,.I 0,.nl]) 9),(2,vR (w8.Pv q.1) 9)]) (λq13 h=>?_) λκ10 h=>?_
 ·obtain⟨j11,j12⟩:=q13;refine S4 4 J<|b6 ?_;cases h;exact⟨J,[_,_],⟨oL J J J b2I a8q nl J,⟨J,tr⟩⟩,J,io⟩
 ·refine S4 1 J ?_;refine c9<|lq h (λq=>St.of [(1,.L (Ls iF) a1),(2,.ptr 2 0 0),(4,.ptr 4 0 0),(6,.sl 910006),(7,.I q.1)] [(4,vR (.agg [.nl,.I 0,.I 0,.nl,.nl,.nl,.nl,.I 0,.nl]) 9),(2,vR (w8.Pv q.2.1) 9),(910006,⟨List.map p7.Pv q.2.2,(List.map p7.Pv q.2.2).length,true,2,true⟩)]) (Wk.trans (C9 (t:=6) (l:=920006) (z:=2) J J) (WP (λl=>if l=910006 then 920006 else l))) λq19 x18 h hx10=>?_
  obtain⟨s15,s16,s17⟩:=q19;refine c8<|S3 2 J<|nL J a8n<|S2 1 J ?_;refine cN h (λhc h=>?_) λhc h=>?_
  ·refine b8 ?_;refine c8<|c9<|dr [] o9 (by kernel_rfl) (by kernel_rfl)<|S7 3 J<|r9 h λv20 hv11 h=>d0 J (u7 (f:=(Ls iF)) (cs:=[.L iF v20]) hv11 J J a8n a8p J J) J<|S7 1 J<|r9 h λv21 hv12 h=>d2f J (u6 J c5Y J hv12) J<|S7 5 J<|A3 (x':=w8.Pv v21.1) (cl':=true) J J (.inr J) a8q<|A3 (x':=p7.Pv v21.2) (cl':=true) J J (.inl J) a2E<|G0<|S4 2 J<|S5 2 J<|y0 J (G1 (f:=p7.Pv) (l:=[v21.2]) J a4v a2E a8r J J nl J J)<|r9 h λv22 hv13 h=>H5 J (F1 (f:=p7.Pv) hv13 J J J J J J (.inl ⟨_,J,J⟩) a4v a2E c6r a8r J (λ_=>J)) J J J<|S2 1 J<|S6 3 J ?_
   exact eL h (Wk.trans (n0 _ [30]) (WP (λl=>if l=910006 then 30 else l)))
  ·refine o5 ?_;refine c4<|c4<|k7 ?_;have h:=xL hx10 h;exact eJ h (Wk.trans (n0 _ [910006]) W)

theorem b9E{a0}:PO Tryz.prog 45 [a7.Pv a0] (a9Y a0) λr=>.bool r:=by
 refine pO Tryz.func45 λr h _ _=>?_;refine S4 2 J ?_;refine jq h (λ_=>St.of [(1,.ptr 1 0 0)] [(1,vR (a7.Pv a0) 3)]) (λq6 h=>?_) λκ5 h=>?_
 ·refine S3 3 J ?_;refine nL J N3<|S2 2 J<|b6 ?_;cases h;exact f1
 ·refine S4 1 J ?_;refine c9<|lq h (λs8=>St.of [(1,.ptr 1 0 0),(3,.I s8)] [(1,vR (a7.Pv a0) 3)]) W λs8 x9 h hx8=>c8<|S3 4 J<|nL J N3<|S1 2 J<|l4 J (λhg=>mI J)<|l4 J (λhg=>y5 (ct hg) J J)<|y0 J (z7 J J J (λq=>eqT q))<|yN ?_;refine cN h (λhc h=>?_) λhc h=>?_
  ·refine b8 ?_;refine c8<|c9<|S3 4 J<|iL h J J N3 Q0 λv10 _ h=>S1 3 J<|nL J g7<|S2 1 J ?_;refine cN h (λhc h=>?_) λhc h=>?_
   ·refine S4 1 J ?_;refine b6 ?_;have h:=xL hx8 h;cases h;exact f1
   ·refine b8 ?_;refine S6 3 J ?_;exact eL h W
  ·refine o5 ?_;refine c4<|c4<|k7 ?_;have h:=xL hx8 h;exact eJ h W

theorem c3k{a0}:PO Tryz.prog 15 [b7.Pv a0] (b2C a0) λr=>.bool r:=by
 refine pO Tryz.func15 λr h _ _=>?_;refine S4 2 J<|S3 2 J<|cA h b9E J J λv1 _ h=>S1 1 J<|l4 J (λhg=>oF J b4O J)<|l4 J (λhg=>oS (ct hg) J J a8k J)<|l4 J (λhg=>T8 (f:=iF) (ct hg) g7)<|l4 J (λhg=>y5 (ct hg) J J)<|y0 J (z7 J J J (λq=>eqT q))<|S1 1 J<|l4 J (λhg=>oF J b9V J)<|l4 J (λhg=>oS (ct hg) J J c6n J)<|l4 J (λhg=>T8 (f:=g6.Pv) (ct hg) R7)<|l4 J (λhg=>y5 (ct hg) J J)<|y0 J (z7 J J J (λq=>eqT q))<|S1 1 J<|l4 J (λhg=>oF J c6u J)<|l4 J (λhg=>oS (ct hg) J J b4L J)<|l4 J (λhg=>T8 (f:=c5.Pv) (ct hg) Z2)<|l4 J (λhg=>y5 (ct hg) J J)<|y0 J (z7 J J J (λq=>eqT q))<|S1 1 J<|l4 J (λhg=>oF J b9W J)<|l4 J (λhg=>oF (ct hg) c6t J)<|l4 J (λhg=>oS (ct hg) J J d2r J)<|l4 J (λhg=>T8 (f:=k9.Pv) (ct hg) a4u)<|l4 J (λhg=>y5 (ct hg) J J)<|y0 J (z7 J J J (λq=>eqT q))<|S2 1 J<|b6 ?_;cases h;exact f1

theorem b8R{a0 a1}:PO Tryz.prog 98 [C6.Pv a0,C6.Pv a1] (a6r a0 a1) λr=>.bool r:=by
 refine pO Tryz.func98 λr h _ _=>?_;unfold a6r at h;refine S4 3 J<|S3 6 J<|l4 J (λhg=>oF J b94 J)<|l4 J (λhg=>oS (ct hg) J J C5 J)<|l4 J (λhg=>oF J b94 J)<|l4 J (λhg=>oS (ct hg) J J C5 J)<|l4 J (λhg=>y5 (ct hg) (ct hg) J)<|y0 J (z7 J J J (λq=>eqT q))<|S1 1 J<|l4 J (λhg=>oF J b4R J)<|l4 J (λhg=>oS (ct hg) J J C5 J)<|l4 J (λhg=>oF J b4R J)<|l4 J (λhg=>oS (ct hg) J J C5 J)<|l4 J (λhg=>y5 (ct hg) (ct hg) J)<|y0 J (z7 J J J (λq=>eqT q))<|S1 1 J<|l4 J (λhg=>oF J b4S J)<|l4 J (λhg=>oS (ct hg) J J C5 J)<|l4 J (λhg=>oF J b4S J)<|l4 J (λhg=>oS (ct hg) J J C5 J)<|l4 J (λhg=>y5 (ct hg) (ct hg) J)<|y0 J (z7 J J J (λq=>eqT q))<|S1 1 J<|l4 J (λhg=>oF J b4T J)<|l4 J (λhg=>oS (ct hg) J J b05 J)<|l4 J (λhg=>oF J b4T J)<|l4 J (λhg=>oS (ct hg) J J b05 J)<|l4 J (λhg=>d1W (ct hg) (ct hg) d1z J)<|y0 J (z7 J J J (λq=>eqT q))<|S1 1 J ?_;refine l4 J (λhg=>oF J b95 J)<|l4 J (λhg=>oS (ct hg) J J a8k J)<|l4 J (λhg=>oF J b95 J)<|l4 J (λhg=>oS (ct hg) J J a8k J)<|r9 h λv1 hv1 h=>l4 J (λhg=>D4 J a8Q (D8 (ct hg) (D8 (ct hg) J)) (G8 hv1 hg))<|y0 J (z7 J J J (λq=>eqT q))<|S2 1 J<|b6 ?_;cases h;exact f1

theorem c0Y{a0 a1}:PO Tryz.prog 46 [k8.Pv a0,k8.Pv a1] (b1Y a0 a1) λr=>.bool r:=by
 refine pO Tryz.func46 λr h _ _=>?_;refine S4 3 J<|c8<|S3 6 J<|l4 J (λhg=>oF J b9Y J)<|l4 J (λhg=>oS (ct hg) J J C5 J)<|l4 J (λhg=>oF J b9Y J)<|l4 J (λhg=>oS (ct hg) J J C5 J)<|l4 J (λhg=>y5 (ct hg) (ct hg) J)<|y0 J (C7 J J J (λq=>eqF q))<|S1 1 J<|l4 J (λhg=>oF J a3i J)<|l4 J (λhg=>oS (ct hg) J J a8l J)<|l4 J (λhg=>T8 (f:=n8.Pv) (ct hg) H6)<|l4 J (λhg=>oF J a3i J)<|l4 J (λhg=>oS (ct hg) J J a8l J)<|l4 J (λhg=>T8 (f:=n8.Pv) (ct hg) H6)<|l4 J (λhg=>y5 (ct hg) (ct hg) J)<|y0 J (C7 J J J (λq=>eqF q))<|yN ?_;refine cN h (λhc h=>?_) λhc h=>?_
 ·refine S4 1 J ?_;refine b6 ?_;cases h;exact f1
 ·refine b8 ?_;refine jq h (λ_=>St.of [] []) (λq8 h=>?_) λκ7 h=>?_
  ·refine S4 1 J ?_;refine b6 ?_;cases h;exact f1
  ·refine S4 1 J ?_;refine c9<|lq h (λs10=>St.of [(2,.ptr 2 0 0),(3,.ptr 3 0 0),(5,.I s10)] [(3,vR (k8.Pv a1) 3),(2,vR (k8.Pv a0) 3)]) W λs10 x11 h hx10=>c8<|S3 3 J<|nL J H6<|S2 1 J ?_;refine cN h (λhc h=>?_) λhc h=>?_
   ·refine b8 ?_;refine c8<|c9<|dr [] o9 (by kernel_rfl) (by kernel_rfl)<|S7 3 J<|r9 h λv12 hv11 h=>d0 J (u7 (f:=n8.Pv) (cs:=n8.Pc v12) hv11 J J H6 H2 J J) J<|S7 5 J<|r9 h λv13 hv12 h=>d0 J (u7 (f:=n8.Pv) (cs:=n8.Pc v13) hv12 J J H6 H2 J J) J<|S7 4 J<|D0 J (λhg _ hN=>oF J a3i J) J<|J7 J (λhg=>oS (ct hg) J J a8l J) J<|D0 J (λhg _ hN=>mI J) J<|J7 J (λhg=>u7 (f:=n8.Pv) (cs:=n8.Pc v12) hv11 (ct hg) (ct hg) H6 H2 J J) J<|D0 J (λhg _ hN=>A5 (ct hg) b6H J) J<|J7 J (λhg=>F6 (ct hg) C5 J) J<|D0 J (λhg _ hN=>oF J a3i J) J<|J7 J (λhg=>oS (ct hg) J J a8l J) J<|D0 J (λhg _ hN=>mI J) J<|J7 J (λhg=>u7 (f:=n8.Pv) (cs:=n8.Pc v13) hv12 (ct hg) (ct hg) H6 H2 J J) J<|D0 J (λhg _ hN=>A5 (ct hg) b6H J) J<|J7 J (λhg=>F6 (ct hg) C5 J) J<|D0 J (λhg _ hN=>y5 (ct hg) (ct hg) J) J<|d7 J (λ_ hN=>C7 J J J (λq=>eqF q)) J<|S7 1 J<|D0 J (λhg _ hN=>oF J a3i J) J<|J7 J (λhg=>oS (ct hg) J J a8l J) J<|D0 J (λhg _ hN=>mI J) J<|J7 J (λhg=>u7 (f:=n8.Pv) (cs:=n8.Pc v12) hv11 (ct hg) (ct hg) H6 H2 J J) J<|D0 J (λhg _ hN=>A5 (ct hg) a9m J) J<|J7 J (λhg=>a8L (ct hg) b4M a6Z nl J) J<|D0 J (λhg _ hN=>oF J a3i J) J<|J7 J (λhg=>oS (ct hg) J J a8l J) J<|D0 J (λhg _ hN=>mI J) J<|J7 J (λhg=>u7 (f:=n8.Pv) (cs:=n8.Pc v13) hv12 (ct hg) (ct hg) H6 H2 J J) J<|D0 J (λhg _ hN=>A5 (ct hg) a9m J) J<|J7 J (λhg=>a8L (ct hg) b4M a6Z nl J) J<|r9 h λv14 hv13 h=>b41 J (λhg=>D4 J b8R (D8 (ct hg) (D8 (ct hg) J)) (G8 hv13 hg)) J<|D0 J (λhg _ hN=>a2f (ct hg) J) J<|d7 J (λ_ hN=>C7 J J J (λq=>eqF q)) J<|G0 ?_
    refine cN h (λhc h=>?_) λhc h=>?_
    ·refine S4 1 J ?_;refine b6 ?_;have h:=xL hx10 h;cases h;exact f1
    ·refine b8 ?_;refine S6 3 J ?_;exact eL h W
   ·refine o5 ?_;refine c4<|c4<|k7 ?_;have h:=xL hx10 h;exact eJ h W

theorem c00{a0 a1}:PO Tryz.prog 47 [.L m8.Pv a0,.L m8.Pv a1] (b11 a0 a1) λr=>.bool r:=by
 refine pO Tryz.func47 λr h _ _=>?_;refine S4 1 J<|c8<|S3 1 J<|nL J P1<|S1 1 J<|nL J P1<|S2 1 J ?_;refine cN h (λhc h=>?_) λhc h=>?_
 ·refine S4 1 J ?_;refine b6 ?_;cases h;exact f1
 ·refine b8 ?_;refine jq h (λ_=>St.of [] []) (λq7 h=>?_) λκ6 h=>?_
  ·refine S4 1 J ?_;refine b6 ?_;cases h;exact f1
  ·refine S4 1 J ?_;refine c9<|lq h (λs9=>St.of [(0,.L m8.Pv a0),(1,.L m8.Pv a1),(5,.I s9)] []) W λs9 x10 h hx9=>c8<|S3 2 J<|nL J P1<|S2 1 J ?_;refine cN h (λhc h=>?_) λhc h=>?_
   ·refine b8 ?_;refine c8<|c9<|dr [] o9 (by kernel_rfl) (by kernel_rfl)<|S7 2 J<|r9 h λv11 hv10 h=>d0 J (u7 (f:=m8.Pv) (cs:=m8.Pc v11) hv10 J J P1 Q1 J J) J<|S7 3 J<|r9 h λv12 hv11 h=>d0 J (u7 (f:=m8.Pv) (cs:=m8.Pc v12) hv11 J J P1 Q1 J J) J<|S7 1 J<|d7 J (λ_ hN=>c4k (xs:=m8.Pc v11) (ys:=m8.Pc v12) c9I J J J J) J<|G0 ?_
    refine cN h (λhc h=>?_) λhc h=>?_
    ·refine S4 1 J ?_;refine b6 ?_;have h:=xL hx9 h;cases h;exact f1
    ·refine b8 ?_;refine S6 3 J ?_;exact eL h W
   ·refine o5 ?_;refine c4<|c4<|k7 ?_;have h:=xL hx9 h;exact eJ h W

end Go.Proofs.YtjlokngooekbcaaGreat.Ok
