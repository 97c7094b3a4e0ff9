/-
 The functions of the program do as the plain functions do.
-/
import Derived.Test.YtlkcpapbolbjnaaGreatO19aOk2
set_option linter.unusedVariables false
set_option linter.unusedSimpArgs false
set_option linter.unusedSectionVars false
namespace Go.Proofs.YtlkcpapbolbjnaaGreat.Ok
open Go Go.Pw Go.Sh Go.Proofs
set_option maxRecDepth 100000
set_option maxHeartbeats 4000000
theorem H4{a0}:PO Tryz.prog 274 [.fn (.func 344) [.rptr [.L hash_Place.Pv a0]],.fn (.func 276) []] (y8 a0) λr=>.L j5.Pv r:=by
 refine pO Tryz.func274 λr h _ _=>?_
 refine S4 2 J<|S4 1 J ?_
 refine jq h (λj16=>St.of [(5,.ptr 2001 0 0)] [(2001,vS (.sl 912501) 1),(912501,⟨List.map j5.Pv j16,(List.map j5.Pv j16).length,true,2,true⟩)]) (λj16 h=>?_) λκ15 h=>?_
 ·refine S4 2 J ?_
  refine a6 ?_
  cases h
  exact f1
 ·refine S4 1 J ?_
  refine b7<|a1h (WPE (λl=>if l=2012 then 5 else if l=2013 then 3 else l) [(3,.ptr 2013 0 0),(5,.ptr 2012 0 0),(7,.fn (.func 344) [.rptr [.L hash_Place.Pv a0]])] [(2012,vR (.nl) 1),(2013,vR (.fn (.func 276) []) 1)]) ?_
  refine Z1 (fn:=Tryz.f344) (N1:=27) J Tryz.func344 J J nl J Ty.c8p J J (λl20 e21 o22 hR23=>?_)
  refine S3 1 J<|cF h a9z J J λv17 _ h=>nL J Ty.p8<|S2 1 J<|b7<|lq h (λq=>St.of [(1000003,.ptr 2013 0 0),(1000005,.ptr 2012 0 0),(1000007,.fn (.func 344) [.rptr [.L hash_Place.Pv a0]]),(0,.fn (.yield l20) []),(1,.rptr [.L hash_Place.Pv a0]),(8,.L iF v17),(9,.I (v17.length:Int)),(10,.I q.1)] [(2012,vS (.sl 912512) 1),(2013,vR (.fn (.func 276) []) 1),(912512,⟨List.map j5.Pv q.2,(List.map j5.Pv q.2).length,true,2,true⟩)]) (Wk.trans (a78 (l0:=2012) (j:=0) (l:=922512) (z:=2) J J J J J) (WP (λl=>if l=912512 then 922512 else l))) λq22 x21 h hx27=>?_
  obtain⟨s19,s20⟩:=q22
  refine S4 1 J<|b9 ?_
  refine cN h (λhc h=>?_) λhc h=>?_
  ·refine a8 ?_
   refine b9<|b7<|sR<|iL h J J Ty.p8 Ty.s3 λv23 _ h=>S2 2 J<|S3 2 J<|cA h a3F J J λv24 _ h=>S2 5 J<|S3 3 J<|y0 J (l6 (cs:=[.I v23,.I v24.1]) J Ty.c8F Ty.c1B J J J)<|H2 (WPE (λl=>if l=2021 then 912512 else l) [(1000003,.ptr 2013 0 0),(1000005,.ptr 2012 0 0),(1000007,.fn (.func 344) [.rptr [.L hash_Place.Pv a0]]),(0,.fn (.yield l20) []),(1,.rptr [.L hash_Place.Pv a0]),(8,.L iF v17),(9,.I (v17.length:Int)),(10,.I s19),(20,.fn (.yield l20) []),(23,.agg [.I v23,.I v24.1])] [(2012,vS (.sl 2021) 1),(2021,⟨List.map j5.Pv s20,(List.map j5.Pv s20).length,true,2,true⟩),(2013,vR (.fn (.func 276) []) 1)]) ?_
   refine a33 hR23 J J J J J J (λe30 o31 o32=>?_)
   refine S6 2 J ?_
   refine⟨J,?_⟩
   refine jqE h (λj28=>St.of [(2000003,.ptr 2013 0 0),(2000005,.ptr 2012 0 0),(2000007,.fn (.func 344) [.rptr [.L hash_Place.Pv a0]]),(1000000,.fn (.yield l20) []),(1000001,.rptr [.L hash_Place.Pv a0]),(1000008,.L iF v17),(1000009,.I (v17.length:Int)),(1000010,.I s19),(1000020,.fn (.yield l20) []),(1000023,.agg [.I v23,.I v24.1])] [(2012,vS (.sl 15) 1),(15,⟨List.map j5.Pv j28,(List.map j5.Pv j28).length,true,2,true⟩),(2013,vR (.fn (.func 276) []) 1)]) (λj28 h=>?_) λκ27 h=>?_
   ·refine⟨J,?_⟩
    refine H2 (WPE (λl=>if l=2022 then 15 else l) [(1000003,.ptr 2013 0 0),(1000005,.ptr 2012 0 0),(1000007,.fn (.func 344) [.rptr [.L hash_Place.Pv a0]]),(0,.fn (.yield l20) []),(1,.rptr [.L hash_Place.Pv a0]),(8,.L iF v17),(9,.I (v17.length:Int)),(10,.I s19),(24,.bool true)] [(2012,vS (.sl 2022) 1),(2022,⟨List.map j5.Pv j28,(List.map j5.Pv j28).length,true,2,true⟩),(2013,vR (.fn (.func 276) []) 1)])<|S2 1 J ?_
    refine E5 false J (λq=>nomatch q) (λ_=>?_)
    refine a8<|S6 2 J ?_
    exact eL h (Wk.trans (g7 _ [2022]) (WP (λl=>if l=912512 then 2022 else l)))
   ·refine b7 ?_
    refine S3 2 J<|cA h b0J J J λv29 _ h=>yN ?_
    refine cN h (λhc h=>?_) λhc h=>?_
    ·refine S5 2 J ?_
     refine y0 J (F1 (f:=j5.Pv) (l:=[(⟨v23,v24.1⟩:j5)]) J Ty.b5x Ty.c1n Ty.c1B J J nl J J)<|l7 h λv30 hv37 h=>D7 J (B6 (f:=j5.Pv) hv37 J J J J J J (.inl ⟨_,J,J⟩) Ty.b5x Ty.c1n Ty.c79 Ty.c1B J (λ_=>J)) J J J<|S2 1 J ?_
     exact eJ h (Wk.trans (g7 _ [15]) W)
    ·refine a8 ?_
     exact eJ h (Wk.trans (g7 _ [2021]) (WP (λl=>if l=15 then 2021 else l)))
  ·refine g8 ?_
   refine a7<|a7<|c4 ?_
   refine .inl ⟨J,?_⟩
   have h:=xL hx27 h
   exact eJ h (Wk.trans (g7 _ [912512]) (WP (λl=>if l=2001 then 2012 else if l=912501 then 912512 else l)))

theorem a6A{a0}:PO Tryz.prog 200 [.L hash_Place.Pv a0] (a1Z a0) λr=>.L j5.Pv r:=by
 refine pO Tryz.func200 λr h _ _=>?_
 refine S4 1 J<|S3 1 J<|cF h a6B J J λv1 _ h=>cF h H4 J J λv2 _ h=>S2 1 J<|a6 ?_
 cases h
 exact f1

theorem a8o{a0 a1}:PO Tryz.prog 389 [.I a0,.rptr (store_Store.Pc a1)] (a21 a0 a1) λr=>.bool r:=by
 refine pO Tryz.func389 λr h _ _=>?_
 refine S4 1 J<|S3 2 J<|cF h y4 J J λv1 _ h=>S2 6 J<|S4 3 J<|a6 ?_
 cases h
 exact f1

theorem b5F{a0 a1 a2}:PON Tryz.prog 363 [store_Store.Pv a0,.L hash_Place.Pv a1,.L iF a2] (a9p a0 a1 a2) λr=>⟨List.map iF r,(List.map iF r).length,true,1,true⟩:=by
 refine pON Tryz.func363 λr h _ _=>?_
 refine S4 2 J<|S4 2 J<|S4 1 J ?_
 refine jq h (λj20=>St.of [(8,.sl 910008)] [(910008,⟨List.map iF j20,(List.map iF j20).length,true,1,true⟩)]) (λj20 h=>?_) λκ19 h=>?_
 ·refine S4 2 J ?_
  refine a1h (g7 _ [910008])<|a6 ?_
  cases h
  exact⟨J,_,_,J,J,J,J⟩
 ·refine S3 1 J ?_
  refine cF h a6A J J λv21 _ h=>nL J Ty.b5x<|S2 1 J<|b7<|lq h (λq=>St.of [(2,.L iF a2),(7,.fn (.func 389) [.ptr 3 0 0]),(8,.sl 910008),(13,.L j5.Pv v21),(14,.I (v21.length:Int)),(15,.I q.1)] [(3,vR (store_Store.Pv a0) 3),(910008,⟨List.map iF q.2,(List.map iF q.2).length,true,1,true⟩)]) (Wk.trans (B2 (t:=8) (l:=920008) (z:=1) J J) (WP (λl=>if l=910008 then 920008 else l))) λq26 x25 h hx20=>?_
  obtain⟨s23,Y4⟩:=q26
  refine S4 1 J<|b9 ?_
  refine cN h (λhc h=>?_) λhc h=>?_
  ·refine a8 ?_
   refine jq h (λj33=>St.of [(2,.L iF a2),(7,.fn (.func 389) [.ptr 3 0 0]),(8,.sl 39),(13,.L j5.Pv v21),(14,.I (v21.length:Int)),(15,.I s23)] [(39,⟨List.map iF j33,(List.map iF j33).length,true,1,true⟩),(3,vR (store_Store.Pv a0) 3)]) (λj33 h=>?_) λκ32 h=>?_
   ·refine S6 2 J ?_
    exact eL h (Wk.trans (g7 _ [39]) (WP (λl=>if l=910008 then 39 else l)))
   ·refine b7 ?_
    refine sR<|iL h J J Ty.b5x Ty.c1n λv34 _ h=>S2 3 J<|S3 3 J<|cA h L2 J J λv35 _ h=>S1 1 J<|b8 J (λhg=>om (d:=.fn (.func 389) [.ptr 3 0 0]) J)<|b8 J (λhg=>oF J Ty.c6A J)<|b8 J (λhg=>oS (ct hg) J J Ty.a3 J)<|l7 h λv36 hv29 h=>b8 J (λhg=>y5 (ct hg) a8o (o8 (ct hg) J) (u9 hv29 hg))<|y0 J (k7 J J J (λq=>H0 q))<|S1 1 J<|b8 J (λhg=>om (d:=.fn (.func 389) [.ptr 3 0 0]) J)<|b8 J (λhg=>oF J Ty.b8z J)<|b8 J (λhg=>oS (ct hg) J J Ty.a3 J)<|l7 h λv37 hv30 h=>b8 J (λhg=>y5 (ct hg) a8o (o8 (ct hg) J) (u9 hv30 hg))<|y0 J (k7 J J J (λq=>H0 q))<|yN ?_
    refine cN h (λhc h=>?_) λhc h=>?_
    ·refine S5 3 J ?_
     refine y0 J (F1 (f:=iF) (l:=[v34.Val]) J Ty.p8 Ty.s3 Ty.z3 J J nl J J)<|l7 h λv38 hv31 h=>D7 J (B6 (f:=iF) hv31 J J J J J J (.inl ⟨_,J,J⟩) Ty.p8 Ty.s3 Ty.b3 Ty.z3 J (λ_=>J)) J J J<|S2 1 J ?_
     exact eJ h (Wk.trans (g7 _ [39]) W)
    ·refine a8 ?_
     exact eJ h (Wk.trans (g7 _ [910008]) (WP (λl=>if l=39 then 910008 else l)))
  ·refine g8 ?_
   refine a7<|a7<|c4 ?_
   have h:=xL hx20 h
   exact eJ h (Wk.trans (g7 _ [910008]) W)

theorem b5E{a0 a1 a2}:PO Tryz.prog 301 [store_Store.Pv a0,.L hash_Place.Pv a1,.L iF a2] (a7B a0 a1 a2) λr=>.tup [.L iF r.1,.I r.2]:=by
 refine pO Tryz.func301 λr h _ _=>?_
 refine S4 3 J<|b7v<|S3 2 J<|cF h a8A J J λv1 _ h=>S2 1 J<|b9<|b7u<|b7<|lq h (λq=>St.of [(1,.L hash_Place.Pv a1),(3,.ptr 3 0 0),(6,.L iF q.1),(7,.I q.2)] [(3,vR (store_Store.Pv a0) 3)]) W λq6 x5 h hx4=>?_
 obtain⟨s3,s4⟩:=q6
 refine b7<|S3 3 J<|l7 h λv7 hv5 h=>ycN J (b21 J b5F J hv5) J J<|S2 1 J ?_
 refine jq h (λ_=>St.of [(6,.L iF s3),(7,.I s4)] []) (λq16 h=>?_) λκ15 h=>?_
 ·refine S4 4 J ?_
  refine a6 ?_
  have h:=xL hx4 h
  cases h
  exact f2
 ·refine S3 1 J ?_
  refine y0 J (b4W (f:=iF) J J J Ty.p8)<|S2 1 J<|b7<|lq h (λs18=>St.of [(1,.L hash_Place.Pv a1),(3,.ptr 3 0 0),(6,.L iF s3),(7,.I s4),(8,.sl 17),(18,.sl 17),(19,.I (v7.length:Int)),(20,.I s18)] [(17,⟨List.map iF v7,(List.map iF v7).length,true,1,true⟩),(3,vR (store_Store.Pv a0) 3)]) (Wk.trans (g7 _ [17]) W) λs18 x19 h hx16=>S4 1 J<|b9 ?_
  refine cN h (λhc h=>?_) λhc h=>?_
  ·refine a8 ?_
   refine b9<|b7<|sR<|l7 h λv20 hv17 h=>y0 J (a0w (f:=iF) hv17 J J J J Ty.p8 Ty.s3 J)<|y0 J (b1q (f:=iF) hv17 J J J Ty.a3 J)<|S2 1 J<|S3 2 J<|cA h L2 J J λv21 _ h=>S2 1 J ?_
   refine cN h (λhc h=>?_) λhc h=>?_
   ·refine dr [4] Ty.K8 (by kernel_rfl) (by kernel_rfl) ?_
    refine S7 3 J<|l7 h λv22 hv19 h=>d3a J (B6 (f:=iF) hv19 J J J J J J (.inl ⟨_,J,J⟩) Ty.p8 Ty.s3 Ty.b3 Ty.z3 J (λ_=>J)) J J J J J<|l7 h λv23 hv20 h=>d5f J (n0 J a8A J hv20) J J<|S8 1 J<|S4 3 J<|g8<|a2E (by decide)<|a7<|a7<|a2E (by decide)<|a7<|c4 ?_
    have h:=xL hx16 h
    exact eL h W
   ·refine a8 ?_
    refine S6 2 J ?_
    exact eL h (Wk.trans (g7 _ [17]) W)
  ·refine g8 ?_
   refine a7<|a7<|c4 ?_
   have h:=xL hx16 h
   exact eJ h W

theorem b6Y{a0 a1 a2}:PO Tryz.prog 231 [store_Store.Pv a0,.L hash_Place.Pv a1,.L iF a2] (a9o a0 a1 a2) λr=>.L iF r:=by
 refine pO Tryz.func231 λr h _ _=>?_
 refine S4 2 J<|S3 3 J<|cF h b5E J J λv1 _ h=>S2 5 J<|S4 2 J<|a6 ?_
 cases h
 exact f1

theorem b1T{a0 a1}:PO Tryz.prog 300 [.I a0,.rptr [.abs (R3 (List.map (ent iF PV.bool) a1))]] (a2J a0 a1) λr=>.bool r:=by
 refine pO Tryz.func300 λr h _ _=>?_
 unfold a2J at h
 refine S4 1 J<|S3 2 J<|y0 J (b7o (es:=a1) (k:=a0) (E:=PV.bool) (EK:=iF) (d:=.bool ((w9 a1 a0).getD (false:Bool))) J J Ty.a8v (w8 Ty.u3) Ty.z4 J (lk1 _ _ _))<|S2 2 J<|a6 ?_
 cases h
 exact f1

theorem a2L{a0 a1}:PO Tryz.prog 299 [store_Store.Pv a0,.fn (.func 300) [.rptr [.abs (R3 (List.map (ent iF PV.bool) a1))]]] (O0 a0 a1) λr=>.L iF r:=by
 refine pO Tryz.func299 λr h _ _=>?_
 refine S4 2 J<|S4 1 J ?_
 refine jq h (λj16=>St.of [(5,.sl 910005)] [(910005,⟨List.map iF j16,(List.map iF j16).length,true,1,true⟩)]) (λj16 h=>?_) λκ15 h=>?_
 ·refine S4 2 J ?_
  refine a6 ?_
  cases h
  exact f1
 ·refine S3 1 J ?_
  refine cF h F3 J J λv17 _ h=>nL J Ty.p8<|S2 1 J<|b7<|lq h (λq=>St.of [(1,.fn (.func 300) [.rptr [.abs (R3 (List.map (ent iF PV.bool) a1))]]),(5,.sl 910005),(9,.L iF v17),(10,.I (v17.length:Int)),(11,.I q.1)] [(910005,⟨List.map iF q.2,(List.map iF q.2).length,true,1,true⟩)]) (Wk.trans (B2 (t:=5) (l:=920005) (z:=1) J J) (WP (λl=>if l=910005 then 920005 else l))) λq22 x21 h hx16=>?_
  obtain⟨s19,s20⟩:=q22
  refine S4 1 J<|b9 ?_
  refine cN h (λhc h=>?_) λhc h=>?_
  ·refine a8 ?_
   refine jq h (λj27=>St.of [(1,.fn (.func 300) [.rptr [.abs (R3 (List.map (ent iF PV.bool) a1))]]),(5,.sl 21),(9,.L iF v17),(10,.I (v17.length:Int)),(11,.I s19)] [(21,⟨List.map iF j27,(List.map iF j27).length,true,1,true⟩)]) (λj27 h=>?_) λκ26 h=>?_
   ·refine S6 2 J ?_
    exact eL h (Wk.trans (g7 _ [21]) (WP (λl=>if l=910005 then 21 else l)))
   ·refine b7 ?_
    refine sR<|iL h J J Ty.p8 Ty.s3 λv28 _ h=>S2 2 J<|S3 2 J<|cA h b1T J J λv29 _ h=>yN ?_
    refine cN h (λhc h=>?_) λhc h=>?_
    ·refine S5 2 J ?_
     refine y0 J (F1 (f:=iF) (l:=[v28]) J Ty.p8 Ty.s3 Ty.z3 J J nl J J)<|l7 h λv30 hv23 h=>D7 J (B6 (f:=iF) hv23 J J J J J J (.inl ⟨_,J,J⟩) Ty.p8 Ty.s3 Ty.b3 Ty.z3 J (λ_=>J)) J J J<|S2 1 J ?_
     exact eJ h (Wk.trans (g7 _ [21]) W)
    ·refine a8 ?_
     exact eJ h (Wk.trans (g7 _ [910005]) (WP (λl=>if l=21 then 910005 else l)))
  ·refine g8 ?_
   refine a7<|a7<|c4 ?_
   have h:=xL hx16 h
   exact eJ h (Wk.trans (g7 _ [910005]) W)

theorem b4e{a0 a1}:PO Tryz.prog 230 [store_Store.Pv a0,.L iF a1] (a5J a0 a1) λr=>.L iF r:=by
 refine pO Tryz.func230 λr h _ _=>?_
 refine S4 2 J<|S3 2 J<|cF h a6a J J λv1 _ h=>S2 2 J<|S3 2 J<|l7 h λv2 hv2 h=>ycL J (n0 J a2L J hv2) J<|S2 1 J<|a6 ?_
 cases h
 exact f1

theorem b6Z{a0 a1 a2}:PO Tryz.prog 148 [store_Store.Pv a0,.L hash_Place.Pv a1,.L iF a2] (a6D a0 a1 a2) λr=>.L iF r:=by
 refine pO Tryz.func148 λr h _ _=>?_
 unfold a6D at h
 refine S4 2 J<|dr [] Ty.K8 (by kernel_rfl) (by kernel_rfl)<|S7 4 J<|l7 h λv1 hv1 h=>Q7 J (n0 J b6Y J hv1) J<|l7 h λv2 hv2 h=>Q7 J (n0 J b4e J hv2) J<|S8 1 J<|a6 ?_
 cases h
 exact f1

theorem b1h{a0 a1}:PO Tryz.prog 70 [store_Store.Pv a0,.L hash_Place.Pv a1] (Z6 a0 a1) λr=>.L iF r:=by
 refine pO Tryz.func70 λr h _ _=>?_
 unfold Z6 at h
 refine S4 2 J<|dr [] Ty.K8 (by kernel_rfl) (by kernel_rfl)<|S7 4 J<|l7 h λv1 hv1 h=>Q7 J (n0 J b4o J hv1) J<|l7 h λv2 hv2 h=>Q7 J (n0 J b6Z J hv2) J<|S8 1 J<|a6 ?_
 cases h
 exact f1

theorem K7{a0}:PO Tryz.prog 23 [hold_Heap.Pv a0] (D5 a0) λr=>.L iF r:=by
 refine pO Tryz.func23 λr h _ _=>?_
 refine S4 2 J<|S3 4 J<|cF h b1h J J λv1 _ h=>S2 1 J<|a6 ?_
 cases h
 exact f1

theorem a8P{a0 a1}:PO Tryz.prog 73 [.I a0,.rptr (hold_Heap.Pc a1)] (a2j a0 a1) λr=>.bool r:=by
 refine pO Tryz.func73 λr h _ _=>?_
 refine S4 1 J<|S3 3 J<|cF h y4 J J λv1 _ h=>S2 6 J<|S3 4 J<|b8 J (λhg=>oF J Ty.b5A J)<|b8 J (λhg=>oS (ct hg) J J Ty.a4 J)<|b8 J (λhg=>J7 (ct hg) J)<|y0 J (k7 J J J (λq=>H0 q))<|S2 1 J<|a6 ?_
 cases h
 exact f1

theorem Y0{a0 a1}:PO Tryz.prog 72 [.L iF a0,.fn (.func 73) [.rptr (hold_Heap.Pc a1)]] (E8 a0 a1) λr=>.L iF r:=by
 refine pO Tryz.func72 λr h _ _=>?_
 refine S4 1 J<|S4 1 J ?_
 refine jq h (λj15=>St.of [(5,.sl 910005)] [(910005,⟨List.map iF j15,(List.map iF j15).length,true,1,true⟩)]) (λj15 h=>?_) λκ14 h=>?_
 ·refine S4 2 J ?_
  refine a6 ?_
  cases h
  exact f1
 ·refine S3 1 J ?_
  refine nL J Ty.p8<|S2 1 J<|b7<|lq h (λq=>St.of [(1,.fn (.func 73) [.rptr (hold_Heap.Pc a1)]),(5,.sl 910005),(8,.L iF a0),(9,.I (a0.length:Int)),(10,.I q.1)] [(910005,⟨List.map iF q.2,(List.map iF q.2).length,true,1,true⟩)]) (Wk.trans (B2 (t:=5) (l:=920005) (z:=1) J J) (WP (λl=>if l=910005 then 920005 else l))) λq20 x19 h hx14=>?_
  obtain⟨s17,s18⟩:=q20
  refine S4 1 J<|b9 ?_
  refine cN h (λhc h=>?_) λhc h=>?_
  ·refine a8 ?_
   refine jq h (λj25=>St.of [(1,.fn (.func 73) [.rptr (hold_Heap.Pc a1)]),(5,.sl 20),(8,.L iF a0),(9,.I (a0.length:Int)),(10,.I s17)] [(20,⟨List.map iF j25,(List.map iF j25).length,true,1,true⟩)]) (λj25 h=>?_) λκ24 h=>?_
   ·refine S6 2 J ?_
    exact eL h (Wk.trans (g7 _ [20]) (WP (λl=>if l=910005 then 20 else l)))
   ·refine b7 ?_
    refine sR<|iL h J J Ty.p8 Ty.s3 λv26 _ h=>S2 2 J<|S3 2 J<|cA h a8P J J λv27 _ h=>yN ?_
    refine cN h (λhc h=>?_) λhc h=>?_
    ·refine S5 2 J ?_
     refine y0 J (F1 (f:=iF) (l:=[v26]) J Ty.p8 Ty.s3 Ty.z3 J J nl J J)<|l7 h λv28 hv21 h=>D7 J (B6 (f:=iF) hv21 J J J J J J (.inl ⟨_,J,J⟩) Ty.p8 Ty.s3 Ty.b3 Ty.z3 J (λ_=>J)) J J J<|S2 1 J ?_
     exact eJ h (Wk.trans (g7 _ [20]) W)
    ·refine a8 ?_
     exact eJ h (Wk.trans (g7 _ [910005]) (WP (λl=>if l=20 then 910005 else l)))
  ·refine g8 ?_
   refine a7<|a7<|c4 ?_
   have h:=xL hx14 h
   exact eJ h (Wk.trans (g7 _ [910005]) W)

theorem W3{a0}:PO Tryz.prog 25 [hold_Heap.Pv a0] (K3 a0) λr=>.L iF r:=by
 refine pO Tryz.func25 λr h _ _=>?_
 refine S4 2 J<|S3 1 J<|cF h K7 J J λv1 _ h=>S1 1 J<|l7 h λv2 hv2 h=>ycL J (n0 J Y0 J hv2) J<|S2 1 J<|a6 ?_
 cases h
 exact f1

theorem B7{a0}:PO Tryz.prog 19 [hold_Heap.Pv a0] (A5 a0) λr=>.tup [hold_Heap.Pv r.1,.I r.2.1,.I r.2.2]:=by
 refine pO Tryz.func19 λr h _ _=>?_
 refine S4 4 J<|S3 1 J<|cF h W3 J J λv1 _ h=>S2 1 J ?_
 refine jq h (λj10=>St.of [(1,.ptr 1 0 0),(2,.ptr 2 0 0),(5,.L iF v1)] [(2,vR (.agg [.nl,.I 0,.I 0,.nl,.nl,.nl,.nl,.I 0]) 8),(1,vR (hold_Heap.Pv j10) 8)]) (λj10 h=>?_) λκ9 h=>?_
 ·refine b9 ?_
  refine S3 1 J<|nL J Ty.p8<|S2 1 J ?_
  refine cN h (λhc h=>?_) λhc h=>?_
  ·refine S3 2 J ?_
   refine nL J Ty.p8<|S2 3 J<|a6 ?_
   cases h
   exact⟨J,[_,_,_],⟨oL J J J Ty.O2 Ty.I6 nl J,⟨J,⟨J,tr⟩⟩⟩,J,io⟩
  ·refine a8 ?_
   refine dr [] Ty.K8 (by kernel_rfl) (by kernel_rfl)<|S7 2 J<|l7 h λv11 hv8 h=>Q7 J (n0 J K7 J hv8) J<|l7 h λv12 hv9 h=>Q7 J (n0 J a7o J hv9) J<|l7 h λv13 hv10 h=>Q7 J (n0 J a43 J hv10) J<|S7 1 J<|F0 (x':=hold_Heap.Pv v13) (cl':=true) J J (.inr J) Ty.I6<|F6<|dr [4,8] Ty.K8 (by kernel_rfl) (by kernel_rfl)<|S7 3 J<|l7 h λv14 hv11 h=>Q7 J (n0 J F3 J hv11) J<|d7 J (λ_ hN=>D6 (f:=iF) J Ty.p8) J<|S7 2 J<|l7 h λv15 hv12 h=>Q7 J (n0 J F3 J hv12) J<|d7 J (λ_ hN=>D6 (f:=iF) J Ty.p8) J<|S7 1 J<|F0 (x':=hold_Heap.Pv v13) (cl':=true) J J (.inr J) Ty.I6<|S8 2 J<|a6 ?_
   cases h
   exact⟨J,[_,_,_],⟨oL J J J Ty.O2 Ty.I6 nl J,⟨J,⟨J,tr⟩⟩⟩,J,io⟩
 ·refine S3 1 J ?_
  refine nL J Ty.p8<|S2 1 J<|b7<|lq h (λq=>St.of [(1,.ptr 1 0 0),(2,.ptr 2 0 0),(5,.L iF v1),(11,.L iF v1),(12,.I (v1.length:Int)),(13,.I q.1)] [(2,vR (.agg [.nl,.I 0,.I 0,.nl,.nl,.nl,.nl,.I 0]) 8),(1,vR (hold_Heap.Pv q.2) 8)]) W λq20 x19 h hx15=>?_
  obtain⟨s17,s18⟩:=q20
  refine S4 1 J<|b9 ?_
  refine cN h (λhc h=>?_) λhc h=>?_
  ·refine a8 ?_
   refine b9<|b7<|sR<|iL h J J Ty.p8 Ty.s3 λv21 _ h=>S2 2 J<|S5 2 J<|cF h a4Z J J λv22 _ h=>S2 1 J<|S6 2 J ?_
   exact eL h W
  ·refine g8 ?_
   refine a7<|a7<|c4 ?_
   have h:=xL hx15 h
   exact eJ h W

theorem a1l{a0}:PO Tryz.prog 27 [hold_Heap.Pv a0] (N5 a0) λr=>.bool r:=by
 refine pO Tryz.func27 λr h _ _=>?_
 refine S4 2 J<|S3 1 J<|cF h K7 J J λv1 _ h=>nL J Ty.p8<|S2 2 J<|a6 ?_
 cases h
 exact f1

theorem b3A:PO Tryz.prog 271 [] (a3X) λr=>.I4 true (List.map A7.Pv r):=by
 refine pO Tryz.func271 λr h _ _=>?_
 unfold a3X at h
 refine S4 1 J<|sR<|y0 J (l6 (cs:=[.fn (.func 338) []]) J Ty.c47 Ty.c3L J J J)<|H2 (a2h 1 (d':=.agg [fvE (some 338)]) J)<|y0 J (l6 (cs:=[.fn (.func 339) []]) J Ty.c47 Ty.c3L J J J)<|H2 (a2h 2 (d':=.agg [fvE (some 339)]) J)<|y0 J (l6 (cs:=[.fn (.func 340) []]) J Ty.c47 Ty.c3L J J J)<|H2 (a2h 3 (d':=.agg [fvE (some 340)]) J)<|y0 J (l6 (cs:=[.fn (.func 341) []]) J Ty.c47 Ty.c3L J J J)<|H2 (a2h 4 (d':=.agg [fvE (some 341)]) J)<|y0 J (F1 (f:=A7.Pv) (l:=[(⟨(some 338)⟩:A7),(⟨(some 339)⟩:A7),(⟨(some 340)⟩:A7),(⟨(some 341)⟩:A7)]) J Ty.c6r Ty.c8U Ty.c3L J J nl J J)<|S2 1 J<|a6 ?_
 cases h
 exact f1

theorem a3v{a0 a1}:PO Tryz.prog 338 [store_Store.Pv a0,slab_Cell_store_Obj.Pv a1] (R4 a0 a1) λr=>.bool r:=by
 refine pO Tryz.func338 λr h _ _=>?_
 unfold R4 at h
 refine S4 3 J<|S3 4 J<|b8 J (λhg=>oF J Ty.b2B J)<|b8 J (λhg=>oS (ct hg) J J Ty.a3 J)<|b8 J (λhg=>j8 (ct hg) J J)<|y0 J (k7 J J J (λq=>H0 q))<|S2 1 J<|a6 ?_
 cases h
 exact f1

theorem a0A{a0 a1}:PO Tryz.prog 339 [store_Store.Pv a0,slab_Cell_store_Obj.Pv a1] (J0 a0 a1) λr=>.bool r:=by
 refine pO Tryz.func339 λr h _ _=>?_
 unfold J0 at h
 refine S4 3 J<|S3 4 J<|b8 J (λhg=>oF J Ty.c6u J)<|b8 J (λhg=>oS (ct hg) J J Ty.a3 J)<|b8 J (λhg=>oF J Ty.c2d J)<|b8 J (λhg=>oF (ct hg) Ty.c2c J)<|b8 J (λhg=>oS (ct hg) J J Ty.a3 J)<|b8 J (λhg=>j8 (ct hg) (ct hg) J)<|y0 J (k7 J J J (λq=>H0 q))<|S2 1 J<|a6 ?_
 cases h
 exact f1

theorem W0{a0}:PO Tryz.prog 342 [slab_Cell_store_Obj.Pv a0] (G2 a0) λr=>.bool r:=by
 refine pO Tryz.func342 λr h _ _=>?_
 unfold G2 at h
 refine S4 2 J<|S3 4 J<|b8 J (λhg=>oF J Ty.b2B J)<|b8 J (λhg=>oS (ct hg) J J Ty.a3 J)<|b8 J (λhg=>j8 (ct hg) J J)<|y0 J (n8 J J J (λq=>H5 q))<|S2 1 J<|a6 ?_
 cases h
 exact f1

theorem a2C{a0 a1}:PO Tryz.prog 340 [store_Store.Pv a0,slab_Cell_store_Obj.Pv a1] (P8 a0 a1) λr=>.bool r:=by
 refine pO Tryz.func340 λr h _ _=>?_
 refine S4 3 J<|S4 4 J<|S3 1 J<|cA h W0 J J λv1 _ h=>S1 2 J<|b8 J (λhg=>oF J Ty.c14 J)<|b8 J (λhg=>oS (ct hg) J J Ty.a3 J)<|b8 J (λhg=>j8 (ct hg) J J)<|b8 J (λhg=>om (d:=.bool (decide (a1.Val.Serial≥1))) (ct hg))<|b8 (n7 J J J) (λhg=>oF J Ty.c14 J)<|b8 (n7 J J J) (λhg=>oS (ct hg) J J Ty.a3 J)<|b8 (n7 J J J) (λhg=>oF J Ty.c2e J)<|b8 (n7 J J J) (λhg=>oS (ct hg) J J Ty.a3 J)<|b8 (n7 J J J) (λhg=>j8 (ct hg) (ct hg) J)<|b8 J (λhg=>k7 (ct hg) J J (λq=>a1j hg (H0 q)))<|b8 J (λhg=>om (d:=.bool ((decide (a1.Val.Serial≥1))&&(decide (a1.Val.Serial≤a0.Serial)))) (ct hg))<|b8 (n7 J J J) (λhg=>oF J Ty.b8t J)<|b8 (n7 J J J) (λhg=>oS (ct hg) J J Ty.a3 J)<|b8 (n7 J J J) (λhg=>j8 (ct hg) J J)<|b8 J (λhg=>k7 (ct hg) J J (λq=>a1j hg (H0 q)))<|b8 J (λhg=>om (d:=.bool (((decide (a1.Val.Serial≥1))&&(decide (a1.Val.Serial≤a0.Serial)))&&(decide (a1.Val.Strong≥0)))) (ct hg))<|b8 (n7 J J J) (λhg=>oF J Ty.b8u J)<|b8 (n7 J J J) (λhg=>oS (ct hg) J J Ty.a3 J)<|b8 (n7 J J J) (λhg=>j8 (ct hg) J J)<|b8 J (λhg=>k7 (ct hg) J J (λq=>a1j hg (H0 q)))<|b8 J (λhg=>om (d:=.bool ((((decide (a1.Val.Serial≥1))&&(decide (a1.Val.Serial≤a0.Serial)))&&(decide (a1.Val.Strong≥0)))&&(decide (a1.Val.Weak≥0)))) (ct hg))<|b8 (n7 J J J) (λhg=>oF J Ty.c6t J)<|b8 (n7 J J J) (λhg=>oS (ct hg) J J Ty.a3 J)<|l7 h λv2 hv2 h=>b8 (n7 J J J) (λhg=>y5 J a2d (o8 (ct hg) J) (u9 hv2 hg))<|b8 J (λhg=>k7 (ct hg) J J (λq=>a1j hg (H0 q)))<|b8 J (λhg=>om (d:=.bool (((((decide (a1.Val.Serial≥1))&&(decide (a1.Val.Serial≤a0.Serial)))&&(decide (a1.Val.Strong≥0)))&&(decide (a1.Val.Weak≥0)))&&v2)) (ct hg))<|b8 (n7 J J J) (λhg=>oF J Ty.b8v J)<|b8 (n7 J J J) (λhg=>oS (ct hg) J J Ty.a27 J)<|b8 (n7 J J J) (λhg=>D6 (f:=iF) (ct hg) Ty.p8)<|b8 (n7 J J J) (λhg=>j8 (ct hg) J J)<|b8 J (λhg=>k7 (ct hg) J J (λq=>a1j hg (H0 q)))<|y0 J (n8 J J J (λq=>H5 q))<|S2 1 J<|a6 ?_
 cases h
 exact f1

theorem a06{a0 a1}:PO Tryz.prog 341 [store_Store.Pv a0,slab_Cell_store_Obj.Pv a1] (J9 a0 a1) λr=>.bool r:=by
 refine pO Tryz.func341 λr h _ _=>?_
 refine S4 3 J<|S4 4 J<|S3 8 J<|y0 J (l6 (cs:=[.I a1.Val.Serial,.I a1.Val.Strong,.I a1.Val.Weak,.I a1.Val.Prog]) J Ty.c8H Ty.c89 J J J)<|S2 2 J<|S3 1 J<|cA h W0 J J λv1 _ h=>S1 1 J<|b8 J (λhg=>oL J J J Ty.c9n Ty.d0c nl J)<|b8 J (λhg=>l6 (cs:=[.I 0,.I 0,.I 0,.I 0]) J Ty.c8H Ty.c89 J J J)<|b8 J (λhg=>c2Q (xs:=[.I a1.Val.Serial,.I a1.Val.Strong,.I a1.Val.Weak,.I a1.Val.Prog]) (ys:=[.I 0,.I 0,.I 0,.I 0]) Ty.c9Y (ct hg) (ct hg) J)<|b8 J (λhg=>om (d:=.bool ((a1.Val.Serial==0)&&((a1.Val.Strong==0)&&((a1.Val.Weak==0)&&((a1.Val.Prog==0)&&true))))) (ct hg))<|b8 (n7 J J J) (λhg=>oF J Ty.b5A J)<|b8 (n7 J J J) (λhg=>oS (ct hg) J J Ty.a4 J)<|b8 (n7 J J J) (λhg=>J7 (ct hg) J)<|b8 J (λhg=>k7 (ct hg) J J (λq=>a1j hg (H0 q)))<|b8 J (λhg=>om (d:=.bool (((a1.Val.Serial==0)&&((a1.Val.Strong==0)&&((a1.Val.Weak==0)&&((a1.Val.Prog==0)&&true))))&&(!a1.Val.Started))) (ct hg))<|b8 (n7 J J J) (λhg=>oF J Ty.b8v J)<|b8 (n7 J J J) (λhg=>oS (ct hg) J J Ty.a27 J)<|b8 (n7 J J J) (λhg=>D6 (f:=iF) (ct hg) Ty.p8)<|b8 (n7 J J J) (λhg=>j8 (ct hg) J J)<|b8 J (λhg=>k7 (ct hg) J J (λq=>a1j hg (H0 q)))<|y0 J (n8 J J J (λq=>H5 q))<|S2 1 J<|a6 ?_
 cases h
 exact f1

theorem b8F{f:Fv}{a0:store_Store}{a1:slab_Cell_store_Obj}{r:Bool}(h:b18 f a0 a1=some r):∃n,f=some n∧A2 Tryz.prog n∧O9 Tryz.prog n [store_Store.Pv a0,slab_Cell_store_Obj.Pv a1] (.bool r):=by
 unfold b18 at h
 by_cases e338:f=some 338
 ·rw[if_pos e338] at h;exact⟨338,e338,(@a3v a0 a1).1,(@a3v a0 a1).2 _ h⟩
 rw[if_neg e338] at h
 by_cases e339:f=some 339
 ·rw[if_pos e339] at h;exact⟨339,e339,(@a0A a0 a1).1,(@a0A a0 a1).2 _ h⟩
 rw[if_neg e339] at h
 by_cases e340:f=some 340
 ·rw[if_pos e340] at h;exact⟨340,e340,(@a2C a0 a1).1,(@a2C a0 a1).2 _ h⟩
 rw[if_neg e340] at h
 by_cases e341:f=some 341
 ·rw[if_pos e341] at h;exact⟨341,e341,(@a06 a0 a1).1,(@a06 a0 a1).2 _ h⟩
 rw[if_neg e341] at h
 cases h

theorem a5S{a0}:PO Tryz.prog 272 [store_Store.Pv a0] (O7 a0) λr=>.bool r:=by
 refine pO Tryz.func272 λr h _ _=>?_
 refine S4 2 J<|sR<|b3O (KT:=Int) (VT:=Bool) (EK:=iF) (E:=PV.bool) 5000006 J J<|S2 1 J ?_
 refine jq h (λ_=>St.of [] []) (λq13 h=>?_) λκ12 h=>?_
 ·refine S4 1 J ?_
  refine a6 ?_
  cases h
  exact f1
 ·refine S3 3 J ?_
  refine nL J Ty.e22<|S2 1 J<|b7<|lq h (λq=>St.of [(3,.mp 5000006),(9,.L slab_Cell_store_Obj.Pv a0.S.Cells),(10,.I (a0.S.Cells.length:Int)),(11,.I q.1)] [(5000006,⟨[.mapc (List.map (ent iF PV.bool) q.2)],0,false,0,false⟩)]) W λq18 x17 h hx12=>?_
  obtain⟨s15,s16⟩:=q18
  refine S4 1 J<|b9 ?_
  refine cN h (λhc h=>?_) λhc h=>?_
  ·refine a8 ?_
   refine jq h (λj22=>St.of [(3,.mp 5000006),(9,.L slab_Cell_store_Obj.Pv a0.S.Cells),(10,.I (a0.S.Cells.length:Int)),(11,.I s15)] [(5000006,⟨[.mapc (List.map (ent iF PV.bool) j22)],0,false,0,false⟩)]) (λj22 h=>?_) λκ21 h=>?_
   ·refine S6 2 J ?_
    exact eL h W
   ·refine b7 ?_
    refine sR<|iL h J J Ty.e22 Ty.a4Y λv23 _ h=>S2 3 J<|b9<|S3 1 J<|cA h W0 J J λv24 _ h=>S2 1 J ?_
    refine cN h (λhc h=>?_) λhc h=>?_
    ·refine g8 ?_
     refine a7<|c4 ?_
     exact eJ h W
    ·refine a8 ?_
     refine b9<|S3 4 J<|b8f (es:=s16) (k:=v23.Val.Serial) (E:=PV.bool) (EK:=iF) (d:=.bool ((w9 s16 v23.Val.Serial).getD (false:Bool))) J J J J Ty.a8v (w8 Ty.u3) Ty.z4 J (lk1 _ _ _)<|yN ?_
     refine cN h (λhc h=>?_) λhc h=>?_
     ·refine S4 1 J ?_
      refine a6 ?_
      have h:=xL hx12 h
      cases h
      exact f1
     ·refine a8 ?_
      refine S5 4 J<|T3 (es:=s16) (k:=v23.Val.Serial) (v:=true) (E:=PV.bool) (EK:=iF) (.inl J) J J J J J J Ty.a8v (w8 Ty.u3)<|yN ?_
      exact eJ h W
  ·refine g8 ?_
   refine a7<|a7<|c4 ?_
   have h:=xL hx12 h
   exact eJ h W

theorem b3z{a0}:PO Tryz.prog 194 [store_Store.Pv a0] (a2c a0) λr=>.bool r:=by
 refine pO Tryz.func194 λr h _ _=>?_
 refine S4 2 J<|b9<|S3 3 J<|nL J Ty.e22<|S1 2 J<|b8 J (λhg=>oF J Ty.c2d J)<|b8 J (λhg=>oF (ct hg) Ty.c2c J)<|b8 J (λhg=>oS (ct hg) J J Ty.a3 J)<|b8 J (λhg=>j8 (ct hg) J J)<|y0 J (n8 J J J (λq=>H5 q))<|S1 1 J<|b8 J (λhg=>oF J Ty.c2d J)<|b8 J (λhg=>oF (ct hg) Ty.c2c J)<|b8 J (λhg=>oS (ct hg) J J Ty.a3 J)<|b8 J (λhg=>j8 (ct hg) J J)<|y0 J (n8 J J J (λq=>H5 q))<|S1 1 J<|b8 J (λhg=>oF J Ty.c2e J)<|b8 J (λhg=>oS (ct hg) J J Ty.a3 J)<|b8 J (λhg=>j8 (ct hg) J J)<|y0 J (n8 J J J (λq=>H5 q))<|yN ?_
 refine cN h (λhc h=>?_) λhc h=>?_
 ·refine S4 1 J ?_
  refine a6 ?_
  cases h
  exact f1
 ·refine a8 ?_
  refine jq h (λ_=>St.of [(1,.ptr 1 0 0)] [(1,vR (store_Store.Pv a0) 3)]) (λq23 h=>?_) λκ22 h=>?_
  ·refine S3 1 J ?_
   refine cA h a5S J J λv24 _ h=>S2 1 J<|a6 ?_
   cases h
   exact f1
  ·refine S3 3 J ?_
   refine nL J Ty.e22<|S2 1 J<|b7<|lq h (λs26=>St.of [(1,.ptr 1 0 0),(31,.L slab_Cell_store_Obj.Pv a0.S.Cells),(32,.I (a0.S.Cells.length:Int)),(33,.I s26)] [(1,vR (store_Store.Pv a0) 3)]) W λs26 x27 h hx29=>S4 1 J<|b9 ?_
   refine cN h (λhc h=>?_) λhc h=>?_
   ·refine a8 ?_
    refine jq h (λ_=>St.of [(1,.ptr 1 0 0),(31,.L slab_Cell_store_Obj.Pv a0.S.Cells),(32,.I (a0.S.Cells.length:Int)),(33,.I s26)] [(1,vR (store_Store.Pv a0) 3)]) (λq37 h=>?_) λκ36 h=>?_
    ·refine S6 2 J ?_
     exact eL h W
    ·refine b7 ?_
     refine sR<|iL h J J Ty.e22 Ty.a4Y λv38 _ h=>S2 3 J<|sR<|cF h b3A J J λv39 _ h=>nL J Ty.c6r<|S2 1 J<|b7<|lq h (λs41=>St.of [(1,.ptr 1 0 0),(4,.ptr 4 0 0),(31,.L slab_Cell_store_Obj.Pv a0.S.Cells),(32,.I (a0.S.Cells.length:Int)),(33,.I s26),(37,.I4 true (List.map A7.Pv v39)),(38,.I (v39.length:Int)),(39,.I s41)] [(4,vR (slab_Cell_store_Obj.Pv v38) 8),(1,vR (store_Store.Pv a0) 3)]) W λs41 x42 h hx45=>S4 1 J<|b9 ?_
     refine cN h (λhc h=>?_) λhc h=>?_
     ·refine a8 ?_
      refine b9<|b7<|sR<|iL h J J Ty.c6r Ty.c8U λv43 _ h=>S2 3 J<|S3 4 J ?_
      obtain⟨v44,hv47,h⟩:=a5Y h
      obtain⟨n45,he48,hk49,hp50⟩:=b8F hv47
      refine H2 (c0t 44 J he48)<|y0 J (b20 J hk49 J hp50)<|S2 1 J ?_
      refine cN h (λhc h=>?_) λhc h=>?_
      ·refine S4 1 J ?_
       refine a6 ?_
       have h:=xL hx45 h
       have h:=xL hx29 h
       cases h
       exact f1
      ·refine a8 ?_
       refine S6 2 J ?_
       exact eL h W
     ·refine g8 ?_
      refine a7<|a7<|c4 ?_
      have h:=xL hx45 h
      exact eJ h W
   ·refine g8 ?_
    refine a7<|a7<|c4 ?_
    have h:=xL hx29 h
    exact eJ h W

theorem b31{a0}:PO Tryz.prog 195 [.L hash_Place.Pv a0] (a5l a0) λr=>.bool r:=by
 refine pO Tryz.func195 λr h _ _=>?_
 refine S4 1 J<|b9<|S3 1 J<|nL J Ty.e29<|S1 2 J<|b8 J (λhg=>om (d:=.L hash_Place.Pv a0) J)<|b8 J (λhg=>D6 (f:=hash_Place.Pv) (ct hg) Ty.e29)<|b8 J (λhg=>j8 (ct hg) J J)<|y0 J (n8 J J J (λq=>H5 q))<|yN ?_
 refine cN h (λhc h=>?_) λhc h=>?_
 ·refine S4 1 J ?_
  refine a6 ?_
  cases h
  exact f1
 ·refine a8 ?_
  refine jq h (λ_=>St.of [] []) (λq7 h=>?_) λκ6 h=>?_
  ·refine S4 1 J ?_
   refine a6 ?_
   cases h
   exact f1
  ·refine S3 1 J ?_
   refine nL J Ty.e29<|S2 1 J<|b7<|lq h (λs9=>St.of [(0,.L hash_Place.Pv a0),(14,.L hash_Place.Pv a0),(15,.I (a0.length:Int)),(16,.I s9)] []) W λs9 x10 h hx9=>S4 1 J<|b9 ?_
   refine cN h (λhc h=>?_) λhc h=>?_
   ·refine a8 ?_
    refine b9<|b7<|S3 1 J<|iL h J J Ty.e29 Ty.a83 λv11 _ h=>S2 4 J<|S3 1 J<|y0 J (l6 (cs:=[.I 0,.I 0,.I 0]) J Ty.c45 Ty.c1A J J J)<|y0 J (c2Q (xs:=hash_Place.Pc v11) (ys:=[.I 0,.I 0,.I 0]) Ty.c8L J J J)<|S1 1 J<|b8 J (λhg=>oL J J J Ty.c9l Ty.a83 nl J)<|b8 J (λhg=>l6 (cs:=[.I 2,.I 0,.I 0]) J Ty.c45 Ty.c1A J J J)<|b8 J (λhg=>c2Q (xs:=hash_Place.Pc v11) (ys:=[.I 2,.I 0,.I 0]) Ty.c8L (ct hg) (ct hg) J)<|y0 J (n8 J J J (λq=>H5 q))<|S2 1 J<|S3 3 J<|b8 J (λhg=>oF J Ty.c6w J)<|b8 J (λhg=>oS (ct hg) J J Ty.a3 J)<|b8 J (λhg=>j8 (ct hg) J J)<|b8 J (λhg=>om (d:=.bool (v11.State != 1)) (ct hg))<|b8 (n7 J J J) (λhg=>om (d:=.L hash_Place.Pv a0) J)<|b8 (n7 J J J) (λhg=>oF J Ty.c18 J)<|b8 (n7 J J J) (λhg=>oS (ct hg) J J Ty.a3 J)<|l7 h λv12 hv11 h=>b8 (n7 J J J) (λhg=>y5 J a2F (o8 (ct hg) (o8 (ct hg) J)) (u9 hv11 hg))<|b8 (n7 J J J) (λhg=>mI J)<|b8 (n7 J J J) (λhg=>j8 (ct hg) (ct hg) J)<|b8 J (λhg=>n8 (ct hg) J J (λq=>a1j hg (H5 q)))<|y0 J (k7 J J J (λq=>H0 q))<|yN ?_
    refine cN h (λhc h=>?_) λhc h=>?_
    ·refine S4 1 J ?_
     refine a6 ?_
     have h:=xL hx9 h
     cases h
     exact f1
    ·refine a8 ?_
     refine S6 2 J ?_
     exact eL h W
   ·refine g8 ?_
    refine a7<|a7<|c4 ?_
    have h:=xL hx9 h
    exact eJ h W

theorem a9E{a0}:PO Tryz.prog 121 [hold_Heap.Pv a0] (a0O a0) λr=>.bool r:=by
 refine pO Tryz.func121 λr h _ _=>?_
 refine S4 2 J<|sR<|cF h b1E J J λv1 _ h=>S2 2 J<|S3 2 J<|cA h b3z J J λv2 _ h=>S1 1 J<|b8 J (λhg=>oF J Ty.c5G J)<|b8 J (λhg=>oS (ct hg) J J Ty.a29 J)<|l7 h λv3 hv3 h=>b8 J (λhg=>y5 J b31 (o8 (ct hg) J) (u9 hv3 hg))<|y0 J (k7 J J J (λq=>H0 q))<|S1 1 J<|b8 J (λhg=>oF J Ty.b9B J)<|b8 J (λhg=>oS (ct hg) J J Ty.a27 J)<|b8 J (λhg=>D6 (f:=iF) (ct hg) Ty.p8)<|b8 J (λhg=>j8 (ct hg) J J)<|y0 J (k7 J J J (λq=>H0 q))<|S1 1 J<|b8 J (λhg=>oF J Ty.b1m J)<|b8 J (λhg=>oS (ct hg) J J Ty.a28 J)<|b8 J (λhg=>D6 (f:=weak_Cell.Pv) (ct hg) Ty.e28)<|b8 J (λhg=>j8 (ct hg) J J)<|y0 J (k7 J J J (λq=>H0 q))<|S1 1 J<|b8 J (λhg=>oF J Ty.b4B J)<|b8 J (λhg=>oF (ct hg) Ty.c8d J)<|b8 J (λhg=>oS (ct hg) J J Ty.a3 J)<|b8 J (λhg=>mI J)<|b8 J (λhg=>j8 (ct hg) (ct hg) J)<|y0 J (k7 J J J (λq=>H0 q))<|S1 1 J<|b8 J (λhg=>oF J Ty.b4B J)<|b8 J (λhg=>oF (ct hg) Ty.b9A J)<|b8 J (λhg=>oS (ct hg) J J Ty.a30 J)<|b8 J (λhg=>D6 (f:=task_Task.Pv) (ct hg) Ty.e30)<|b8 J (λhg=>mI J)<|b8 J (λhg=>j8 (ct hg) (ct hg) J)<|y0 J (k7 J J J (λq=>H0 q))<|S2 1 J ?_
 refine a6 ?_
 cases h
 exact f1

theorem a8d{a0 a1}:PO Tryz.prog 198 [.I a0,.rptr (hold_Heap.Pc a1)] (a1q a0 a1) λr=>.bool r:=by
 refine pO Tryz.func198 λr h _ _=>?_
 refine S4 1 J<|S3 2 J<|cA h K5 J J λv1 _ h=>S2 1 J<|a6 ?_
 cases h
 exact f1

theorem a0C{a0 a1}:PO Tryz.prog 197 [.L iF a0,.fn (.func 198) [.rptr (hold_Heap.Pc a1)]] (D9 a0 a1) λr=>.bool r:=by
 refine pO Tryz.func197 λr h _ _=>?_
 refine S4 1 J ?_
 refine jq h (λ_=>St.of [] []) (λq7 h=>?_) λκ6 h=>?_
 ·refine S4 1 J ?_
  refine a6 ?_
  cases h
  exact f1
 ·refine S3 1 J ?_
  refine nL J Ty.p8<|S2 1 J<|b7<|lq h (λs9=>St.of [(1,.fn (.func 198) [.rptr (hold_Heap.Pc a1)]),(7,.L iF a0),(8,.I (a0.length:Int)),(9,.I s9)] []) W λs9 x10 h hx9=>S4 1 J<|b9 ?_
  refine cN h (λhc h=>?_) λhc h=>?_
  ·refine a8 ?_
   refine b9<|b7<|sR<|iL h J J Ty.p8 Ty.s3 λv11 _ h=>S2 2 J<|S3 2 J<|cA h a8d J J λv12 _ h=>S2 1 J ?_
   refine cN h (λhc h=>?_) λhc h=>?_
   ·refine S4 1 J ?_
    refine a6 ?_
    have h:=xL hx9 h
    cases h
    exact f1
   ·refine a8 ?_
    refine S6 2 J ?_
    exact eL h W
  ·refine g8 ?_
   refine a7<|a7<|c4 ?_
   have h:=xL hx9 h
   exact eJ h W

theorem a3G{a0}:PO Tryz.prog 122 [hold_Heap.Pv a0] (U9 a0) λr=>.bool r:=by
 refine pO Tryz.func122 λr h _ _=>?_
 unfold U9 at h
 refine S4 2 J<|S3 2 J<|l7 h λv1 hv1 h=>ycN J (b21 J Z5 J hv1) J J<|S2 1 J ?_
 refine jq h (λj12=>St.of [(1,.ptr 1 0 0),(3,.sl 10)] [(10,⟨List.map iF j12,(List.map iF j12).length,true,1,true⟩),(1,vR (hold_Heap.Pv a0) 8)]) (λj12 h=>?_) λκ11 h=>?_
 ·refine S3 2 J ?_
  refine cA h a0C J J λv13 _ h=>S2 1 J<|a6 ?_
  cases h
  exact f1
 ·refine S3 2 J ?_
  refine cF h F3 J J λv14 _ h=>nL J Ty.p8<|S2 1 J<|b7<|lq h (λq=>St.of [(1,.ptr 1 0 0),(3,.sl 10),(13,.L iF v14),(14,.I (v14.length:Int)),(15,.I q.1)] [(10,⟨List.map iF q.2,(List.map iF q.2).length,true,1,true⟩),(1,vR (hold_Heap.Pv a0) 8)]) (Wk.trans (g7 _ [10]) W) λq19 x18 h hx14=>?_
  obtain⟨s16,s17⟩:=q19
  refine S4 1 J<|b9 ?_
  refine cN h (λhc h=>?_) λhc h=>?_
  ·refine a8 ?_
   refine b9<|b7<|sR<|iL h J J Ty.p8 Ty.s3 λv20 _ h=>S2 2 J<|S3 3 J<|cF h y4 J J λv21 _ h=>S2 6 J<|S5 3 J<|l7 h λv22 hv17 h=>D7 J (B6 (f:=iF) hv17 J J J J J J (.inl ⟨_,J,J⟩) Ty.p8 Ty.s3 Ty.b3 Ty.z3 J (λ_=>J)) J J J<|S2 1 J<|S6 2 J ?_
   exact eL h (Wk.trans (g7 _ [29]) (WP (λl=>if l=10 then 29 else l)))
  ·refine g8 ?_
   refine a7<|a7<|c4 ?_
   have h:=xL hx14 h
   exact eJ h (Wk.trans (g7 _ [10]) W)

theorem a8e{a0 a1}:PO Tryz.prog 201 [j5.Pv a0,.rptr (hold_Heap.Pc a1)] (a1r a0 a1) λr=>.bool r:=by
 refine pO Tryz.func201 λr h _ _=>?_
 refine S4 2 J<|S3 3 J<|cA h a0M J J λv1 _ h=>S1 1 J<|b8 J (λhg=>a9O J Ty.O2 Ty.I6 nl J)<|b8 J (λhg=>oF J Ty.b8z J)<|b8 J (λhg=>oS (ct hg) J J Ty.a3 J)<|l7 h λv2 hv2 h=>b8 J (λhg=>y5 J a0M (o8 (ct hg) (o8 (ct hg) J)) (u9 hv2 hg))<|y0 J (k7 J J J (λq=>H0 q))<|S2 1 J<|a6 ?_
 cases h
 exact f1

theorem T2{a0 a1}:PO Tryz.prog 199 [.L j5.Pv a0,.fn (.func 201) [.rptr (hold_Heap.Pc a1)]] (A8 a0 a1) λr=>.bool r:=by
 refine pO Tryz.func199 λr h _ _=>?_
 refine S4 1 J ?_
 refine jq h (λ_=>St.of [] []) (λq7 h=>?_) λκ6 h=>?_
 ·refine S4 1 J ?_
  refine a6 ?_
  cases h
  exact f1
 ·refine S3 1 J ?_
  refine nL J Ty.b5x<|S2 1 J<|b7<|lq h (λs9=>St.of [(1,.fn (.func 201) [.rptr (hold_Heap.Pc a1)]),(7,.L j5.Pv a0),(8,.I (a0.length:Int)),(9,.I s9)] []) W λs9 x10 h hx9=>S4 1 J<|b9 ?_
  refine cN h (λhc h=>?_) λhc h=>?_
  ·refine a8 ?_
   refine b9<|b7<|sR<|iL h J J Ty.b5x Ty.c1n λv11 _ h=>S2 3 J<|S3 2 J<|cA h a8e J J λv12 _ h=>S2 1 J ?_
   refine cN h (λhc h=>?_) λhc h=>?_
   ·refine S4 1 J ?_
    refine a6 ?_
    have h:=xL hx9 h
    cases h
    exact f1
   ·refine a8 ?_
    refine S6 2 J ?_
    exact eL h W
  ·refine g8 ?_
   refine a7<|a7<|c4 ?_
   have h:=xL hx9 h
   exact eJ h W

theorem a3H{a0}:PO Tryz.prog 123 [hold_Heap.Pv a0] (a0N a0) λr=>.bool r:=by
 refine pO Tryz.func123 λr h _ _=>?_
 refine S4 2 J<|S3 2 J<|cF h a6A J J λv1 _ h=>S1 1 J<|cA h T2 J J λv2 _ h=>S2 1 J<|a6 ?_
 cases h
 exact f1

theorem a9F{a0 a1}:PO Tryz.prog 205 [hold_Heap.Pv a0,task_Task.Pv a1] (a0P a0 a1) λr=>.bool r:=by
 refine pO Tryz.func205 λr h _ _=>?_
 refine S4 3 J<|b9<|S4 2 J<|b7<|S4 2 J ?_
 refine cN h (λhc h=>?_) λhc h=>?_
 ·refine S3 4 J ?_
  refine cF h y4 J J λv1 _ h=>S2 6 J<|S3 3 J<|b8 J (λhg=>oF J Ty.b5A J)<|b8 J (λhg=>oS (ct hg) J J Ty.a4 J)<|y0 J (k7 J J J (λq=>H0 q))<|S2 1 J<|a6 ?_
  cases h
  exact f1
 ·refine S4 2 J ?_
  refine cN h (λhc h=>?_) λhc h=>?_
  ·refine S3 4 J ?_
   refine b8 J (λhg=>oF J Ty.c5H J)<|b8 J (λhg=>oS (ct hg) J J Ty.a3 J)<|b8 J (λhg=>oF J Ty.b1m J)<|b8 J (λhg=>oS (ct hg) J J Ty.a28 J)<|b8 J (λhg=>D6 (f:=weak_Cell.Pv) (ct hg) Ty.e28)<|b8 J (λhg=>j8 (ct hg) (ct hg) J)<|y0 J (k7 J J J (λq=>H0 q))<|S1 1 J<|b8 J (λhg=>oF J Ty.b1m J)<|b8 J (λhg=>oS (ct hg) J J Ty.a28 J)<|b8 J (λhg=>oF J Ty.c5H J)<|b8 J (λhg=>oS (ct hg) J J Ty.a3 J)<|l7 h λv2 hv2 h=>b8 J (λhg=>p9 (f:=weak_Cell.Pv) (cs:=weak_Cell.Pc v2) (u9 hv2 hg) (ct hg) (ct hg) Ty.e28 Ty.s68 J J)<|b8 J (λhg=>z6 (ct hg) Ty.b9F J)<|b8 J (λhg=>B1 (ct hg) Ty.a4 J)<|b8 J (λhg=>J7 (ct hg) J)<|y0 J (k7 J J J (λq=>H0 q))<|S2 1 J<|a6 ?_
   cases h
   exact f1
  ·refine a8 ?_
   refine S4 1 J<|a6 ?_
   cases h
   exact f1

theorem a4w{a0}:PO Tryz.prog 124 [hold_Heap.Pv a0] (a1Q a0) λr=>.bool r:=by
 refine pO Tryz.func124 λr h _ _=>?_
 refine S4 2 J<|sR<|b3O (KT:=task_Task) (VT:=Bool) (EK:=task_Task.Pv) (E:=PV.bool) 5000004 J J<|S2 2 J<|S3 4 J<|H2 (WPE (λl=>if l=2001 then 1 else if l=2002 then 3 else if l=5002003 then 5000004 else l) [(7,.L task_Task.Pv a0.Q.L),(8,.fn (.func 204) [.ptr 2002 0 0,.ptr 2001 0 0])] [(2001,vR (hold_Heap.Pv a0) 8),(2002,vS (.mp 5002003) 1),(5002003,⟨[.mapc (List.map (ent task_Task.Pv PV.bool) [])],0,false,0,false⟩)]) ?_
 refine b1I (fn:=Tryz.f203) (N1:=18) J J Tryz.func203 J Ty.c9B J J nl (λe1 o2=>?_)
 refine jqR h (λq=>St.of [(1000007,.L task_Task.Pv a0.Q.L),(1000008,.fn (.func 204) [.ptr 2002 0 0,.ptr 2001 0 0]),(4,.bool q.1)] [(2001,vR (hold_Heap.Pv a0) 8),(2002,vS (.mp 5002003) 1),(5002003,⟨[.mapc (List.map (ent task_Task.Pv PV.bool) q.2)],0,false,0,false⟩)]) (λq20 h=>dup ?_) λκ17 h=>?_
 ·obtain⟨j18,j19⟩:=q20
  refine⟨J,[.bool j18],⟨J,tr⟩,?_⟩
  refine H2 (WE [(9,.bool j18)] [])<|S2 1 J<|a6 ?_
  cases h
  exact f1
 ·refine S4 1 J ?_
  refine jq h (λj29=>St.of [(1000007,.L task_Task.Pv a0.Q.L),(1000008,.fn (.func 204) [.ptr 2002 0 0,.ptr 2001 0 0])] [(2001,vR (hold_Heap.Pv a0) 8),(2002,vS (.mp 5002003) 1),(5002003,⟨[.mapc (List.map (ent task_Task.Pv PV.bool) j29)],0,false,0,false⟩)]) (λj29 h=>?_) λκ28 h=>?_
  ·refine S4 1 J ?_
   refine a6 ?_
   exact eJ h W
  ·refine S3 1 J ?_
   refine nL J Ty.e30<|S2 1 J<|b7<|lq h (λq=>St.of [(1000007,.L task_Task.Pv a0.Q.L),(1000008,.fn (.func 204) [.ptr 2002 0 0,.ptr 2001 0 0]),(1,.fn (.func 204) [.ptr 2002 0 0,.ptr 2001 0 0]),(7,.L task_Task.Pv a0.Q.L),(8,.I (a0.Q.L.length:Int)),(9,.I q.1)] [(2001,vR (hold_Heap.Pv a0) 8),(2002,vS (.mp 5002003) 1),(5002003,⟨[.mapc (List.map (ent task_Task.Pv PV.bool) q.2)],0,false,0,false⟩)]) W λq34 x33 h hx29=>?_
   obtain⟨s31,s32⟩:=q34
   refine S4 1 J<|b9 ?_
   refine cN h (λhc h=>?_) λhc h=>?_
   ·refine a8 ?_
    refine b9<|b7<|sR<|iL h J J Ty.e30 Ty.s79 λv35 _ h=>S2 3 J<|S3 2 J<|H2 (WE [(1000007,.L task_Task.Pv a0.Q.L),(1000008,.fn (.func 204) [.ptr 2002 0 0,.ptr 2001 0 0]),(1,.fn (.func 204) [.ptr 2002 0 0,.ptr 2001 0 0]),(7,.L task_Task.Pv a0.Q.L),(8,.I (a0.Q.L.length:Int)),(9,.I s31),(13,.fn (.func 204) [.ptr 2002 0 0,.ptr 2001 0 0]),(14,task_Task.Pv v35)] [(2001,vR (hold_Heap.Pv a0) 8),(2002,vS (.mp 5002003) 1),(5002003,⟨[.mapc (List.map (ent task_Task.Pv PV.bool) s32)],0,false,0,false⟩)]) ?_
    refine b1I (fn:=Tryz.f204) (N1:=34) J J Tryz.func204 J Ty.c9C J J nl (λe31 o32=>?_)
    refine S4 2 J<|S3 4 J<|y0 J (l6 (cs:=[.I v35.Kind,.I v35.At,.I 0]) J Ty.p79 Ty.z79 J J J)<|S2 2 J<|S3 2 J<|b8f (es:=s32) (k:=(⟨v35.Kind,v35.At,0⟩:task_Task)) (E:=PV.bool) (EK:=task_Task.Pv) (d:=.bool ((w9 s32 (⟨v35.Kind,v35.At,0⟩:task_Task)).getD (false:Bool))) J J J J Ty.c5X (b7d task_Task.Pc (λ_=>J) Ty.q79 (by decide) (λ_ _=>J) task_Task.beq_eq (λ_=>J) (λ_=>⟨J,J⟩)) Ty.z4 J (lk1 _ _ _)<|S2 1 J<|S3 2 J<|T3 (es:=s32) (k:=(⟨v35.Kind,v35.At,0⟩:task_Task)) (v:=true) (E:=PV.bool) (EK:=task_Task.Pv) (.inl J) J J J J J J Ty.c5X (b7d task_Task.Pc (λ_=>J) Ty.q79 (by decide) (λ_ _=>J) task_Task.beq_eq (λ_=>J) (λ_=>⟨J,J⟩))<|yN<|S3 3 J<|b8 J (λhg=>oF J Ty.c5I J)<|b8 J (λhg=>oS (ct hg) J J Ty.a3 J)<|b8 J (λhg=>j8 (ct hg) J J)<|y0 J (k7 J J J (λq=>H0 q))<|S1 1 J<|b8 J (λhg=>oF J Ty.c5I J)<|b8 J (λhg=>oS (ct hg) J J Ty.a3 J)<|b8 J (λhg=>j8 (ct hg) J J)<|y0 J (k7 J J J (λq=>H0 q))<|S1 1 J<|b8 J (λhg=>oL J J J Ty.O2 Ty.I6 nl J)<|b8 J (λhg=>oL J J J Ty.a79 Ty.s79 nl J)<|l7 h λv36 hv33 h=>b8 J (λhg=>y5 J a9F (o8 (ct hg) (o8 (ct hg) J)) (u9 hv33 hg))<|y0 J (k7 J J J (λq=>H0 q))<|S2 1 J<|a6 ?_
    refine⟨J,[.bool ((((!((w9 s32 (⟨v35.Kind,v35.At,0⟩:task_Task)).getD (false:Bool)))&&(decide (v35.Prog≥0)))&&(decide (v35.Prog<6)))&&v36)],⟨J,tr⟩,?_⟩
    refine H2 (WE [(1000007,.L task_Task.Pv a0.Q.L),(1000008,.fn (.func 204) [.ptr 2002 0 0,.ptr 2001 0 0]),(1,.fn (.func 204) [.ptr 2002 0 0,.ptr 2001 0 0]),(7,.L task_Task.Pv a0.Q.L),(8,.I (a0.Q.L.length:Int)),(9,.I s31),(15,.bool ((((!((w9 s32 (⟨v35.Kind,v35.At,0⟩:task_Task)).getD (false:Bool)))&&(decide (v35.Prog≥0)))&&(decide (v35.Prog<6)))&&v36))] [(2001,vR (hold_Heap.Pv a0) 8),(2002,vS (.mp 5002003) 1),(5002003,⟨[.mapc (List.map (ent task_Task.Pv PV.bool) (m8 s32 (⟨v35.Kind,v35.At,0⟩:task_Task) true))],0,false,0,false⟩)])<|S2 1 J ?_
    refine cN h (λhc h=>?_) λhc h=>?_
    ·refine S4 1 J ?_
     refine a6 ?_
     have h:=xL hx29 h
     exact eJ h W
    ·refine a8 ?_
     refine S6 2 J ?_
     exact eL h W
   ·refine g8 ?_
    refine a7<|a7<|c4 ?_
    have h:=xL hx29 h
    exact eJ h W

theorem a8U{a0 a1}:PO Tryz.prog 207 [weak_Cell.Pv a0,.rptr (hold_Heap.Pc a1)] (a2k a0 a1) λr=>.bool r:=by
 refine pO Tryz.func207 λr h _ _=>?_
 refine S4 2 J<|b9<|S3 4 J<|b8 J (λhg=>oF J Ty.c8g J)<|b8 J (λhg=>oS (ct hg) J J Ty.a3 J)<|b8 J (λhg=>j8 (ct hg) J J)<|y0 J (n8 J J J (λq=>H5 q))<|yN ?_
 refine cN h (λhc h=>?_) λhc h=>?_
 ·refine S4 1 J ?_
  refine a6 ?_
  cases h
  exact f1
 ·refine a8 ?_
  refine b9<|S4 2 J ?_
  refine cN h (λhc h=>?_) λhc h=>?_
  ·refine S3 3 J ?_
   refine cA h a0M J J λv1 _ h=>S2 1 J<|a6 ?_
   cases h
   exact f1
  ·refine a8 ?_
   refine S3 5 J<|cA h E1 J J λv2 _ h=>S2 5 J<|S3 4 J<|b8 J (λhg=>mI J)<|b8 J (λhg=>j8 (ct hg) J J)<|y0 J (n8 J J J (λq=>H5 q))<|S2 1 J<|a6 ?_
   cases h
   exact f1

theorem U7{a0 a1}:PO Tryz.prog 206 [.L weak_Cell.Pv a0,.fn (.func 207) [.rptr (hold_Heap.Pc a1)]] (B5 a0 a1) λr=>.bool r:=by
 refine pO Tryz.func206 λr h _ _=>?_
 refine S4 1 J ?_
 refine jq h (λ_=>St.of [] []) (λq7 h=>?_) λκ6 h=>?_
 ·refine S4 1 J ?_
  refine a6 ?_
  cases h
  exact f1
 ·refine S3 1 J ?_
  refine nL J Ty.e28<|S2 1 J<|b7<|lq h (λs9=>St.of [(1,.fn (.func 207) [.rptr (hold_Heap.Pc a1)]),(7,.L weak_Cell.Pv a0),(8,.I (a0.length:Int)),(9,.I s9)] []) W λs9 x10 h hx9=>S4 1 J<|b9 ?_
  refine cN h (λhc h=>?_) λhc h=>?_
  ·refine a8 ?_
   refine b9<|b7<|sR<|iL h J J Ty.e28 Ty.s68 λv11 _ h=>S2 3 J<|S3 2 J<|cA h a8U J J λv12 _ h=>S2 1 J ?_
   refine cN h (λhc h=>?_) λhc h=>?_
   ·refine S4 1 J ?_
    refine a6 ?_
    have h:=xL hx9 h
    cases h
    exact f1
   ·refine a8 ?_
    refine S6 2 J ?_
    exact eL h W
  ·refine g8 ?_
   refine a7<|a7<|c4 ?_
   have h:=xL hx9 h
   exact eJ h W

theorem a4u{a0}:PO Tryz.prog 125 [hold_Heap.Pv a0] (a1O a0) λr=>.bool r:=by
 refine pO Tryz.func125 λr h _ _=>?_
 refine S4 2 J<|S3 3 J<|cA h U7 J J λv1 _ h=>S2 1 J<|a6 ?_
 cases h
 exact f1

theorem b1i{a0 a1}:PO Tryz.prog 280 [weak_Cell.Pv a0,.rptr [.I a1]] (a1W a0 a1) λr=>.bool r:=by
 refine pO Tryz.func280 λr h _ _=>?_
 unfold a1W at h
 refine S4 2 J<|S3 3 J<|b8 J (λhg=>oF J Ty.b9E J)<|b8 J (λhg=>oS (ct hg) J J Ty.a3 J)<|b8 J (λhg=>B1 J Ty.a3 J)<|b8 J (λhg=>j8 (ct hg) (ct hg) J)<|y0 J (k7 J J J (λq=>H0 q))<|S2 1 J<|a6 ?_
 cases h
 exact f1

theorem a2g{a0 a1}:PO Tryz.prog 279 [.L weak_Cell.Pv a0,.fn (.func 280) [.rptr [.I a1]]] (L5 a0 a1) λr=>.L iF r:=by
 refine pO Tryz.func279 λr h _ _=>?_
 refine S4 1 J<|S4 1 J ?_
 refine jq h (λj15=>St.of [(5,.sl 910005)] [(910005,⟨List.map iF j15,(List.map iF j15).length,true,1,true⟩)]) (λj15 h=>?_) λκ14 h=>?_
 ·refine S4 2 J ?_
  refine a6 ?_
  cases h
  exact f1
 ·refine S3 1 J ?_
  refine nL J Ty.e28<|S2 1 J<|b7<|lq h (λq=>St.of [(1,.fn (.func 280) [.rptr [.I a1]]),(5,.sl 910005),(8,.L weak_Cell.Pv a0),(9,.I (a0.length:Int)),(10,.I q.1)] [(910005,⟨List.map iF q.2,(List.map iF q.2).length,true,1,true⟩)]) (Wk.trans (B2 (t:=5) (l:=920005) (z:=1) J J) (WP (λl=>if l=910005 then 920005 else l))) λq20 x19 h hx14=>?_
  obtain⟨s17,s18⟩:=q20
  refine S4 1 J<|b9 ?_
  refine cN h (λhc h=>?_) λhc h=>?_
  ·refine a8 ?_
   refine jq h (λj25=>St.of [(1,.fn (.func 280) [.rptr [.I a1]]),(5,.sl 21),(8,.L weak_Cell.Pv a0),(9,.I (a0.length:Int)),(10,.I s17)] [(21,⟨List.map iF j25,(List.map iF j25).length,true,1,true⟩)]) (λj25 h=>?_) λκ24 h=>?_
   ·refine S6 2 J ?_
    exact eL h (Wk.trans (g7 _ [21]) (WP (λl=>if l=910005 then 21 else l)))
   ·refine b7 ?_
    refine S3 1 J<|iL h J J Ty.e28 Ty.s68 λv26 _ h=>S2 4 J<|S3 2 J<|cA h b1i J J λv27 _ h=>yN ?_
    refine cN h (λhc h=>?_) λhc h=>?_
    ·refine S5 2 J ?_
     refine y0 J (F1 (f:=iF) (l:=[s17]) J Ty.p8 Ty.s3 Ty.z3 J J nl J J)<|l7 h λv28 hv21 h=>D7 J (B6 (f:=iF) hv21 J J J J J J (.inl ⟨_,J,J⟩) Ty.p8 Ty.s3 Ty.b3 Ty.z3 J (λ_=>J)) J J J<|S2 1 J ?_
     exact eJ h (Wk.trans (g7 _ [21]) W)
    ·refine a8 ?_
     exact eJ h (Wk.trans (g7 _ [910005]) (WP (λl=>if l=21 then 910005 else l)))
  ·refine g8 ?_
   refine a7<|a7<|c4 ?_
   have h:=xL hx14 h
   exact eJ h (Wk.trans (g7 _ [910005]) W)

theorem b3K{a0 a1}:PO Tryz.prog 209 [.L weak_Cell.Pv a0,.I a1] (a2f a0 a1) λr=>.I r:=by
 refine pO Tryz.func209 λr h _ _=>?_
 unfold a2f at h
 refine S4 2 J<|S3 2 J<|l7 h λv1 hv1 h=>ycL J (n0 J a2g J hv1) J<|nL J Ty.p8<|S2 1 J<|a6 ?_
 cases h
 exact f1

theorem a4v{a0}:PO Tryz.prog 126 [hold_Heap.Pv a0] (a1P a0) λr=>.bool r:=by
 refine pO Tryz.func126 λr h _ _=>?_
 refine S4 2 J ?_
 refine jq h (λ_=>St.of [] []) (λq13 h=>?_) λκ12 h=>?_
 ·refine S4 1 J ?_
  refine a6 ?_
  cases h
  exact f1
 ·refine S3 4 J ?_
  refine nL J Ty.e22<|S2 1 J<|b7<|lq h (λs15=>St.of [(1,.ptr 1 0 0),(8,.L slab_Cell_store_Obj.Pv a0.S.S.Cells),(9,.I (a0.S.S.Cells.length:Int)),(10,.I s15)] [(1,vR (hold_Heap.Pv a0) 8)]) W λs15 x16 h hx14=>S4 1 J<|b9 ?_
  refine cN h (λhc h=>?_) λhc h=>?_
  ·refine a8 ?_
   refine jq h (λ_=>St.of [(1,.ptr 1 0 0),(8,.L slab_Cell_store_Obj.Pv a0.S.S.Cells),(9,.I (a0.S.S.Cells.length:Int)),(10,.I s15)] [(1,vR (hold_Heap.Pv a0) 8)]) (λq21 h=>?_) λκ20 h=>?_
   ·refine S6 2 J ?_
    exact eL h W
   ·refine b7 ?_
    refine S3 1 J<|iL h J J Ty.e22 Ty.a4Y λv22 _ h=>S2 4 J<|b9<|S3 4 J<|b8 J (λhg=>oF J Ty.b2B J)<|b8 J (λhg=>oS (ct hg) J J Ty.a3 J)<|b8 J (λhg=>j8 (ct hg) J J)<|y0 J (k7 J J J (λq=>H0 q))<|yN ?_
    refine cN h (λhc h=>?_) λhc h=>?_
    ·refine g8 ?_
     refine a7<|c4 ?_
     exact eJ h W
    ·refine a8 ?_
     refine b9<|dr [] Ty.K8 (by kernel_rfl) (by kernel_rfl)<|S7 8 J<|l7 h λv23 hv20 h=>d2 J (y5 J a3b J hv20) J<|l7 h λv24 hv21 h=>d2 J (y5 J b3K J hv21) J<|S8 1 J ?_
     refine cN h (λhc h=>?_) λhc h=>?_
     ·refine S4 1 J ?_
      refine a6 ?_
      have h:=xL hx14 h
      cases h
      exact f1
     ·refine a8 ?_
      refine S3 4 J<|b8 J (λhg=>oF J Ty.b5B J)<|b8 J (λhg=>oF (ct hg) Ty.b8u J)<|b8 J (λhg=>oS (ct hg) J J Ty.a3 J)<|b8 J (λhg=>j8 (ct hg) J J)<|b8 J (λhg=>om (d:=.bool (decide (v22.Val.Weak<1))) (ct hg))<|b8 (n7 J J J) (λhg=>oF J Ty.b5B J)<|b8 (n7 J J J) (λhg=>oF (ct hg) Ty.b8v J)<|b8 (n7 J J J) (λhg=>oS (ct hg) J J Ty.a27 J)<|b8 (n7 J J J) (λhg=>D6 (f:=iF) (ct hg) Ty.p8)<|b8 (n7 J J J) (λhg=>j8 (ct hg) J J)<|b8 J (λhg=>n8 (ct hg) J J (λq=>a1j hg (H5 q)))<|b8 J (λhg=>om (d:=.bool ((decide (v22.Val.Weak<1))||(decide ((v22.Val.Fields.length:Int) > 0)))) (ct hg))<|b8 (n7 J J J) (λhg=>oF J Ty.b5B J)<|b8 (n7 J J J) (λhg=>oF (ct hg) Ty.b8t J)<|b8 (n7 J J J) (λhg=>oS (ct hg) J J Ty.a3 J)<|b8 (n7 J J J) (λhg=>j8 (ct hg) J J)<|b8 J (λhg=>n8 (ct hg) J J (λq=>a1j hg (H5 q)))<|y0 J (k7 J J J (λq=>H0 q))<|yN ?_
      refine cN h (λhc h=>?_) λhc h=>?_
      ·refine S4 1 J ?_
       refine a6 ?_
       have h:=xL hx14 h
       cases h
       exact f1
      ·refine a8 ?_
       exact eJ h W
  ·refine g8 ?_
   refine a7<|a7<|c4 ?_
   have h:=xL hx14 h
   exact eJ h W

theorem b8G{f:Fv}{a0:hold_Heap}{r:Bool}(h:W5 f a0=some r):∃n,f=some n∧A2 Tryz.prog n∧O9 Tryz.prog n [hold_Heap.Pv a0] (.bool r):=by
 unfold W5 at h
 by_cases e122:f=some 122
 ·rw[if_pos e122] at h;exact⟨122,e122,(@a3G a0).1,(@a3G a0).2 _ h⟩
 rw[if_neg e122] at h
 by_cases e123:f=some 123
 ·rw[if_pos e123] at h;exact⟨123,e123,(@a3H a0).1,(@a3H a0).2 _ h⟩
 rw[if_neg e123] at h
 by_cases e124:f=some 124
 ·rw[if_pos e124] at h;exact⟨124,e124,(@a4w a0).1,(@a4w a0).2 _ h⟩
 rw[if_neg e124] at h
 by_cases e125:f=some 125
 ·rw[if_pos e125] at h;exact⟨125,e125,(@a4u a0).1,(@a4u a0).2 _ h⟩
 rw[if_neg e125] at h
 by_cases e126:f=some 126
 ·rw[if_pos e126] at h;exact⟨126,e126,(@a4v a0).1,(@a4v a0).2 _ h⟩
 rw[if_neg e126] at h
 cases h

theorem b6r{a0}:PO Tryz.prog 215 [queue_Queue_task_Task.Pv a0] (a48 a0) λr=>.L iF r:=by
 refine pO Tryz.func215 λr h _ _=>?_
 refine S4 2 J<|S4 1 J ?_
 refine jq h (λj10=>St.of [(3,.ptr 2001 0 0)] [(2001,vS (.sl 912501) 1),(912501,⟨List.map iF j10,(List.map iF j10).length,true,1,true⟩)]) (λj10 h=>?_) λκ9 h=>?_
 ·refine S4 2 J ?_
  refine a6 ?_
  cases h
  exact f1
 ·refine S3 1 J ?_
  refine cF h b3D J J λv11 _ h=>yN<|b7<|a1h (WPE (λl=>if l=2011 then 3 else l) [(3,.ptr 2011 0 0),(6,.fn (.func 350) [.rptr (queue_Queue_task_Task.Pc v11.1),.rptr [.I v11.2]])] [(2011,vR (.nl) 1)]) ?_
  refine Z1 (fn:=Tryz.f350) (N1:=24) J Tryz.func350 J J nl J Ty.c8q J J (λl17 e18 o19 hR20=>?_)
  refine S3 2 J<|nL J Ty.e30<|S2 1 J<|b7<|lq h (λq=>St.of [(1000003,.ptr 2011 0 0),(1000006,.fn (.func 350) [.rptr (queue_Queue_task_Task.Pc v11.1),.rptr [.I v11.2]]),(0,.fn (.yield l17) []),(2,.rptr [.I v11.2]),(7,.L task_Task.Pv v11.1.L),(8,.I (v11.1.L.length:Int)),(9,.I q.1)] [(2011,vS (.sl 912511) 1),(912511,⟨List.map iF q.2,(List.map iF q.2).length,true,1,true⟩)]) (Wk.trans (a78 (l0:=2011) (j:=0) (l:=922511) (z:=1) J J J J J) (WP (λl=>if l=912511 then 922511 else l))) λq16 x15 h hx23=>?_
  obtain⟨s13,s14⟩:=q16
  refine S4 1 J<|b9 ?_
  refine cN h (λhc h=>?_) λhc h=>?_
  ·refine a8 ?_
   refine b9<|b7<|sR<|iL h J J Ty.e30 Ty.s79 λv17 _ h=>S2 3 J<|S3 5 J<|b8 J (λhg=>om (d:=.fn (.yield l17) []) J)<|b8 J (λhg=>oL J J J Ty.a79 Ty.s79 nl J) ?_
   rcases Bool.eq_false_or_eq_true ((v17.Kind==v11.2)==true) with hg25 | hg25
   ·have h:=ifT h hg25
    refine H2 (WPE (λl=>if l=2019 then 912511 else l) [(1000003,.ptr 2011 0 0),(1000006,.fn (.func 350) [.rptr (queue_Queue_task_Task.Pc v11.1),.rptr [.I v11.2]]),(0,.fn (.yield l17) []),(2,.rptr [.I v11.2]),(7,.L task_Task.Pv v11.1.L),(8,.I (v11.1.L.length:Int)),(9,.I s13),(17,.bool (v17.Kind==v11.2)),(18,.fn (.yield l17) []),(19,task_Task.Pv v17)] [(2011,vS (.sl 2019) 1),(2019,⟨List.map iF s14,(List.map iF s14).length,true,1,true⟩)]) ?_
    refine a33 hR20 (congrArg some hg25) J J J J J (λe26 o27 o28=>?_)
    refine S6 2 J ?_
    refine⟨J,?_⟩
    refine b7<|S5 3 J<|y0 J (F1 (f:=iF) (l:=[v17.At]) J Ty.p8 Ty.s3 Ty.z3 J J nl J J)<|l7 h λv18 hv29 h=>D7 J (B6 (f:=iF) hv29 J J J J J J (.inl ⟨_,J,J⟩) Ty.p8 Ty.s3 Ty.b3 Ty.z3 J (λ_=>J)) J J J<|S2 1 J ?_
    refine⟨J,?_⟩
    refine H2 (WPE (λl=>if l=2020 then 12 else l) [(1000003,.ptr 2011 0 0),(1000006,.fn (.func 350) [.rptr (queue_Queue_task_Task.Pc v11.1),.rptr [.I v11.2]]),(0,.fn (.yield l17) []),(2,.rptr [.I v11.2]),(7,.L task_Task.Pv v11.1.L),(8,.I (v11.1.L.length:Int)),(9,.I s13),(17,.bool (v17.Kind==v11.2)),(20,.bool true)] [(2011,vS (.sl 2020) 1),(2020,⟨List.map iF v18,s14.length,true,1,true⟩)])<|y0 (congrArg some hg25) (J7 J J)<|y0 J (a3R J J hg25)<|yN ?_
    refine E5 false J (λq=>nomatch q) (λ_=>?_)
    refine a8<|S6 2 J ?_
    exact eL h (Wk.trans (g7 _ [2020]) (WP (λl=>if l=912511 then 2020 else l)))
   ·have h:=ifF h hg25
    refine T4 (congrArg some hg25)<|T4 (congrArg some hg25)<|y0 J (a3Q J J hg25)<|yN ?_
    refine E5 false J (λq=>nomatch q) (λ_=>?_)
    refine a8<|S6 2 J ?_
    exact eL h (Wk.trans (g7 _ [912511]) W)
  ·refine g8 ?_
   refine a7<|a7<|c4 ?_
   refine .inl ⟨J,?_⟩
   have h:=xL hx23 h
   exact eJ h (Wk.trans (g7 _ [912511]) (WP (λl=>if l=2001 then 2011 else if l=912501 then 912511 else l)))

theorem b33{a0}:PO Tryz.prog 128 [hold_Heap.Pv a0] (a5p a0) λr=>.L iF r:=by
 refine pO Tryz.func128 λr h _ _=>?_
 refine S4 2 J<|S4 1 J ?_
 refine jq h (λj13=>St.of [(1,.ptr 1 0 0),(3,.sl 910003)] [(910003,⟨List.map iF j13,(List.map iF j13).length,true,1,true⟩),(1,vR (hold_Heap.Pv a0) 8)]) (λj13 h=>?_) λκ12 h=>?_
 ·refine S3 3 J ?_
  refine cF h b6r J J λv14 _ h=>l7 h λv15 hv11 h=>D7 J (B6 (f:=iF) hv11 J J J J J J (.inl ⟨_,J,J⟩) Ty.p8 Ty.s3 Ty.b3 Ty.z3 J (λ_=>J)) J J J<|S2 1 J<|a6 ?_
  cases h
  exact f1
 ·refine S3 2 J ?_
  refine nL J Ty.p8<|S2 1 J<|b7<|lq h (λq=>St.of [(1,.ptr 1 0 0),(3,.sl 910003),(7,.L iF a0.Roots),(8,.I (a0.Roots.length:Int)),(9,.I q.1)] [(1,vR (hold_Heap.Pv a0) 8),(910003,⟨List.map iF q.2,(List.map iF q.2).length,true,1,true⟩)]) (Wk.trans (B2 (t:=3) (l:=920003) (z:=1) J J) (WP (λl=>if l=910003 then 920003 else l))) λq20 x19 h hx14=>?_
  obtain⟨s17,s18⟩:=q20
  refine S4 1 J<|b9 ?_
  refine cN h (λhc h=>?_) λhc h=>?_
  ·refine a8 ?_
   refine jq h (λj24=>St.of [(1,.ptr 1 0 0),(3,.sl 18),(7,.L iF a0.Roots),(8,.I (a0.Roots.length:Int)),(9,.I s17)] [(18,⟨List.map iF j24,(List.map iF j24).length,true,1,true⟩),(1,vR (hold_Heap.Pv a0) 8)]) (λj24 h=>?_) λκ23 h=>?_
   ·refine S6 2 J ?_
    exact eL h (Wk.trans (g7 _ [18]) (WP (λl=>if l=910003 then 18 else l)))
   ·refine b7 ?_
    refine sR<|iL h J J Ty.p8 Ty.s3 λv25 _ h=>S2 2 J<|S4 2 J ?_
    refine cN h (λhc h=>?_) λhc h=>?_
    ·refine S5 2 J ?_
     refine y0 J (F1 (f:=iF) (l:=[v25]) J Ty.p8 Ty.s3 Ty.z3 J J nl J J)<|l7 h λv26 hv19 h=>D7 J (B6 (f:=iF) hv19 J J J J J J (.inl ⟨_,J,J⟩) Ty.p8 Ty.s3 Ty.b3 Ty.z3 J (λ_=>J)) J J J<|S2 1 J ?_
     exact eJ h (Wk.trans (g7 _ [18]) W)
    ·refine a8 ?_
     exact eJ h (Wk.trans (g7 _ [910003]) (WP (λl=>if l=18 then 910003 else l)))
  ·refine g8 ?_
   refine a7<|a7<|c4 ?_
   have h:=xL hx14 h
   exact eJ h (Wk.trans (g7 _ [910003]) W)

theorem b6u{a0 a1}:PO Tryz.prog 283 [.L iF a0,.I a1] (a7W a0 a1) λr=>.I r:=by
 refine pO Tryz.func283 λr h _ _=>?_
 refine S4 2 J<|S4 2 J ?_
 refine jq h (λj11=>St.of [(5,.ptr 2001 0 0)] [(2001,vR (.I j11) 1)]) (λj11 h=>?_) λκ10 h=>?_
 ·refine S4 2 J ?_
  refine a6 ?_
  cases h
  exact f1
 ·refine S3 1 J ?_
  refine cF h b0w J J λv12 _ h=>yN<|b7<|a1h (WPE (λl=>if l=2003 then 5 else if l=2004 then 3 else l) [(3,.ptr 2004 0 0),(5,.ptr 2003 0 0),(8,.fn (.func 292) [.rptr [.L iF v12]])] [(2003,vR (.I 0) 1),(2004,vR (.I a1) 1)]) ?_
  refine Z1 (fn:=Tryz.f292) (N1:=20) J Tryz.func292 J J nl J Ty.c8o J J (λl17 e18 o19 hR20=>?_)
  refine S3 1 J<|nL J Ty.p8<|S2 1 J<|b7<|lq h (λq=>St.of [(1000003,.ptr 2004 0 0),(1000005,.ptr 2003 0 0),(1000008,.fn (.func 292) [.rptr [.L iF v12]]),(0,.fn (.yield l17) []),(5,.L iF v12),(6,.I (v12.length:Int)),(7,.I q.1)] [(2003,vR (.I q.2) 1),(2004,vR (.I a1) 1)]) W λq17 x16 h hx23=>?_
  obtain⟨s14,s15⟩:=q17
  refine S4 1 J<|b9 ?_
  refine cN h (λhc h=>?_) λhc h=>?_
  ·refine a8 ?_
   refine b9<|b7<|sR<|iL h J J Ty.p8 Ty.s3 λv18 _ h=>S2 2 J<|S3 3 J<|b8 J (λhg=>om (d:=.fn (.yield l17) []) J)<|b8 J (λhg=>mI J) ?_
   rcases Bool.eq_false_or_eq_true ((v18 != 0)==true) with hg25 | hg25
   ·have h:=ifT h hg25
    refine H2 (WE [(1000003,.ptr 2004 0 0),(1000005,.ptr 2003 0 0),(1000008,.fn (.func 292) [.rptr [.L iF v12]]),(0,.fn (.yield l17) []),(5,.L iF v12),(6,.I (v12.length:Int)),(7,.I s14),(13,.bool (v18 != 0)),(14,.fn (.yield l17) []),(15,.I v18)] [(2003,vR (.I s15) 1),(2004,vR (.I a1) 1)]) ?_
    refine a33 hR20 (congrArg some hg25) J J J J J (λe26 o27 o28=>?_)
    refine S6 1 J ?_
    refine⟨J,?_⟩
    refine jqE h (λj20=>St.of [(2000003,.ptr 2004 0 0),(2000005,.ptr 2003 0 0),(2000008,.fn (.func 292) [.rptr [.L iF v12]]),(1000000,.fn (.yield l17) []),(1000005,.L iF v12),(1000006,.I (v12.length:Int)),(1000007,.I s14),(1000013,.bool (v18 != 0)),(1000014,.fn (.yield l17) []),(1000015,.I v18)] [(2003,vR (.I j20) 1),(2004,vR (.I a1) 1)]) (λj20 h=>?_) λκ19 h=>?_
    ·refine⟨J,?_⟩
     refine H2 (WE [(1000003,.ptr 2004 0 0),(1000005,.ptr 2003 0 0),(1000008,.fn (.func 292) [.rptr [.L iF v12]]),(0,.fn (.yield l17) []),(5,.L iF v12),(6,.I (v12.length:Int)),(7,.I s14),(13,.bool (v18 != 0)),(16,.bool true)] [(2003,vR (.I j20) 1),(2004,vR (.I a1) 1)])<|b8 J (λhg=>J7 J J)<|y0 J (k7 J J J (λq=>H0 q))<|yN ?_
     refine cN h (λhc h=>?_) λhc h=>?_
     ·refine a6 ?_
      refine .inl ⟨J,?_⟩
      have h:=xL hx23 h
      exact eJ h (WP (λl=>if l=2001 then 2003 else l))
     ·refine a8 ?_
      refine S6 2 J ?_
      exact eL h W
    ·refine b7 ?_
     refine S4 3 J ?_
     refine cN h (λhc h=>?_) λhc h=>?_
     ·refine S6 3 J ?_
      exact eJ h W
     ·refine a8 ?_
      exact eJ h W
   ·have h:=ifF h hg25
    refine T4 (congrArg some hg25)<|T4 (congrArg some hg25)<|y0 J (a3Q J J hg25)<|yN ?_
    refine E5 false J (λq=>nomatch q) (λ_=>?_)
    refine a8<|S6 2 J ?_
    exact eL h W
  ·refine g8 ?_
   refine a7<|a7<|c4 ?_
   refine .inl ⟨J,?_⟩
   have h:=xL hx23 h
   exact eJ h (WP (λl=>if l=2001 then 2003 else l))

theorem b4f{a0 a1}:PO Tryz.prog 213 [.L iF a0,.I a1] (a5K a0 a1) λr=>.I r:=by
 refine pO Tryz.func213 λr h _ _=>?_
 refine S4 1 J<|S3 2 J<|cA h b6u J J λv1 _ h=>S2 1 J<|a6 ?_
 cases h
 exact f1

theorem b1Y{a0 a1 a2 a3 a4}:PO Tryz.prog 210 [.I a0,store_Obj.Pv a1,.rptr (store_Store.Pc a2),.rptr [.L hash_Place.Pv a3],.rptr [.L iF a4]] (a2O a0 a1 a2 a3 a4) λr=>.bool r:=by
 refine pO Tryz.func210 λr h _ _=>?_
 unfold a2O at h
 refine S4 2 J<|dr [] Ty.K8 (by kernel_rfl) (by kernel_rfl)<|S7 2 J<|l7 h λv1 hv1 h=>d2 J (y5 J a6u J hv1) J<|S7 2 J<|s6 J (λhg=>a9O J Ty.a26 Ty.s26 nl J) J<|s6 J (λhg=>B1 J Ty.a29 J) J<|m7 J (λhg _ hN=>mI J) J<|l7 h λv2 hv2 h=>X7 J (λhg=>y5 J a8E (o8 (ct hg) (o8 (ct hg) (o8 (ct hg) J))) (u9 hv2 hg)) J<|s6 J (λhg=>B1 J Ty.a27 J) J<|m7 J (λhg _ hN=>mI J) J<|l7 h λv3 hv3 h=>X7 J (λhg=>y5 J b4f (o8 (ct hg) (o8 (ct hg) J)) (u9 hv3 hg)) J<|m7 J (λhg _ hN=>j8 (ct hg) (ct hg) J) J<|d7 J (λ_ hN=>k7 J J J (λq=>H0 q)) J<|S8 1 J<|a6 ?_
 cases h
 exact f1

theorem b4n{a0 a1 a2}:PO Tryz.prog 127 [store_Store.Pv a0,.L hash_Place.Pv a1,.L iF a2] (a5U a0 a1 a2) λr=>.bool r:=by
 refine pO Tryz.func127 λr h _ _=>?_
 refine S4 4 J<|S3 1 J<|y0 J (l6 (cs:=[.fn (.func 210) [.ptr 3 0 0,.ptr 4 0 0,.ptr 5 0 0]]) J Ty.c8G Ty.c87 J J J)<|H2 (a2h 9 (d':=.agg [.fn (.func 210) [.ptr 3 0 0,.ptr 4 0 0,.ptr 5 0 0]]) J)<|S2 2 J<|S3 2 J<|H2 (WPE (λl=>if l=2001 then 5 else if l=2002 then 4 else if l=2003 then 3 else l) [(10,.agg [.fn (.func 210) [.ptr 2003 0 0,.ptr 2002 0 0,.ptr 2001 0 0]]),(11,store_Store.Pv a0)] [(2001,vR (.L iF a2) 1),(2002,vR (.L hash_Place.Pv a1) 1),(2003,vR (store_Store.Pv a0) 3)]) ?_
 refine b1I (fn:=Tryz.f214) (N1:=34) J J Tryz.func214 J Ty.c8n J J nl (λe1 o2=>?_)
 refine jqR h (λj36=>St.of [(1000010,.agg [.fn (.func 210) [.ptr 2003 0 0,.ptr 2002 0 0,.ptr 2001 0 0]]),(1000011,store_Store.Pv a0),(4,.sl 910005)] [(910005,⟨List.map iF j36,(List.map iF j36).length,true,1,true⟩),(2001,vR (.L iF a2) 1),(2002,vR (.L hash_Place.Pv a1) 1),(2003,vR (store_Store.Pv a0) 3)]) (λj36 h=>dup ?_) λκ35 h=>?_
 ·refine⟨J,[.sl 910005],⟨J,tr⟩,?_⟩
  refine H2 (WPE (λl=>if l=2004 then 910005 else l) [(12,.sl 2004)] [(2004,⟨List.map iF j36,(List.map iF j36).length,true,1,true⟩)])<|y0 J (b4W (f:=iF) J J J Ty.p8)<|S2 2 J<|a6 ?_
  cases h
  exact f1
 ·refine S4 3 J ?_
  refine S4 1 J ?_
  refine jq h (λj54=>St.of [(1000010,.agg [.fn (.func 210) [.ptr 2003 0 0,.ptr 2002 0 0,.ptr 2001 0 0]]),(1000011,store_Store.Pv a0),(5,.sl 910005)] [(910005,⟨List.map iF j54,(List.map iF j54).length,true,1,true⟩),(2001,vR (.L iF a2) 1),(2002,vR (.L hash_Place.Pv a1) 1),(2003,vR (store_Store.Pv a0) 3)]) (λj54 h=>?_) λκ53 h=>?_
  ·refine S4 2 J ?_
   refine a6 ?_
   exact eJ h (Wk.trans (g7 _ [910005]) W)
  ·refine S3 1 J ?_
   refine cF h F3 J J λv55 _ h=>nL J Ty.p8<|S2 1 J<|b7<|lq h (λq=>St.of [(1000010,.agg [.fn (.func 210) [.ptr 2003 0 0,.ptr 2002 0 0,.ptr 2001 0 0]]),(1000011,store_Store.Pv a0),(2,.ptr 2 0 0),(3,.ptr 3 0 0),(5,.sl 910005),(11,.L iF v55),(12,.I (v55.length:Int)),(13,.I q.1)] [(3,vR (store_Store.Pv a0) 3),(2,vS (.agg [.fn (.func 210) [.ptr 2003 0 0,.ptr 2002 0 0,.ptr 2001 0 0]]) 1),(2001,vR (.L iF a2) 1),(2002,vR (.L hash_Place.Pv a1) 1),(2003,vR (store_Store.Pv a0) 3),(910005,⟨List.map iF q.2,(List.map iF q.2).length,true,1,true⟩)]) (Wk.trans (B2 (t:=5) (l:=920005) (z:=1) J J) (WP (λl=>if l=910005 then 920005 else l))) λq60 x59 h hx48=>?_
   obtain⟨s57,s58⟩:=q60
   refine S4 1 J<|b9 ?_
   refine cN h (λhc h=>?_) λhc h=>?_
   ·refine a8 ?_
    refine jq h (λj66=>St.of [(1000010,.agg [.fn (.func 210) [.ptr 2003 0 0,.ptr 2002 0 0,.ptr 2001 0 0]]),(1000011,store_Store.Pv a0),(2,.ptr 2 0 0),(3,.ptr 3 0 0),(5,.sl 31),(11,.L iF v55),(12,.I (v55.length:Int)),(13,.I s57)] [(31,⟨List.map iF j66,(List.map iF j66).length,true,1,true⟩),(3,vR (store_Store.Pv a0) 3),(2,vS (.agg [.fn (.func 210) [.ptr 2003 0 0,.ptr 2002 0 0,.ptr 2001 0 0]]) 1),(2001,vR (.L iF a2) 1),(2002,vR (.L hash_Place.Pv a1) 1),(2003,vR (store_Store.Pv a0) 3)]) (λj66 h=>?_) λκ65 h=>?_
    ·refine S6 2 J ?_
     exact eL h (Wk.trans (g7 _ [31]) (WP (λl=>if l=910005 then 31 else l)))
    ·refine b7 ?_
     refine sR<|iL h J J Ty.p8 Ty.s3 λv67 _ h=>S2 2 J<|S3 2 J<|cF h y4 J J λv68 _ h=>S2 6 J<|S3 4 J<|cA h b1Y J J λv69 _ h=>yN ?_
     refine cN h (λhc h=>?_) λhc h=>?_
     ·refine S5 2 J ?_
      refine y0 J (F1 (f:=iF) (l:=[v67]) J Ty.p8 Ty.s3 Ty.z3 J J nl J J)<|l7 h λv70 hv57 h=>D7 J (B6 (f:=iF) hv57 J J J J J J (.inl ⟨_,J,J⟩) Ty.p8 Ty.s3 Ty.b3 Ty.z3 J (λ_=>J)) J J J<|S2 1 J ?_
      exact eJ h (Wk.trans (g7 _ [31]) W)
     ·refine a8 ?_
      exact eJ h (Wk.trans (g7 _ [910005]) (WP (λl=>if l=31 then 910005 else l)))
   ·refine g8 ?_
    refine a7<|a7<|c4 ?_
    have h:=xL hx48 h
    exact eJ h (Wk.trans (g7 _ [910005]) W)

theorem b34{a0}:PO Tryz.prog 60 [hold_Heap.Pv a0] (a5q a0) λr=>.bool r:=by
 refine pO Tryz.func60 λr h _ _=>?_
 refine S4 2 J<|b9<|S3 1 J<|cA h a9E J J λv1 _ h=>S2 1 J ?_
 refine cN h (λhc h=>?_) λhc h=>?_
 ·refine S4 1 J ?_
  refine a6 ?_
  cases h
  exact f1
 ·refine a8 ?_
  refine jq h (λ_=>St.of [(1,.ptr 1 0 0)] [(1,vR (hold_Heap.Pv a0) 8)]) (λq9 h=>?_) λκ8 h=>?_
  ·refine dr [] Ty.K8 (by kernel_rfl) (by kernel_rfl) ?_
   refine S7 5 J<|l7 h λv10 hv11 h=>Q7 J (n0 J b33 J hv11) J<|l7 h λv11 hv12 h=>d2 J (y5 J b4n J hv12) J<|S8 1 J<|a6 ?_
   cases h
   exact f1
  ·refine sR ?_
   refine y0 J (F1 (f:=λn:Nat=>PV.fn (.func n) []) (l:=[122,123,124,125,126]) J Ty.c6q Ty.s35 Ty.z35 J J nl J J)<|H2 (c7L 8 (d':=.I4 true (List.map fvE [(some 122),(some 123),(some 124),(some 125),(some 126)])) J J J)<|nL J Ty.c6q<|S2 1 J<|b7<|lq h (λs13=>St.of [(1,.ptr 1 0 0),(8,.I4 true (List.map fvE [(some 122),(some 123),(some 124),(some 125),(some 126)])),(9,.I ([(some 122),(some 123),(some 124),(some 125),(some 126)].length:Int)),(10,.I s13)] [(1,vR (hold_Heap.Pv a0) 8)]) W λs13 x14 h hx15=>S4 1 J<|b9 ?_
   refine cN h (λhc h=>?_) λhc h=>?_
   ·refine a8 ?_
    refine b9<|b7<|sR<|iL h J J Ty.c6q Ty.s35 λv15 _ h=>S2 2 J<|S3 2 J ?_
    obtain⟨v16,hv17,h⟩:=a5Y h
    obtain⟨n17,he18,hk19,hp20⟩:=b8G hv17
    refine H2 (c0t 14 J he18)<|y0 J (b20 J hk19 J hp20)<|S2 1 J ?_
    refine cN h (λhc h=>?_) λhc h=>?_
    ·refine S4 1 J ?_
     refine a6 ?_
     have h:=xL hx15 h
     cases h
     exact f1
    ·refine a8 ?_
     refine S6 2 J ?_
     exact eL h W
   ·refine g8 ?_
    refine a7<|a7<|c4 ?_
    have h:=xL hx15 h
    exact eJ h W

theorem I2:PO Tryz.prog 17 [] (E3) λr=>.bool r:=by
 refine pO Tryz.func17 λr h _ _=>?_
 refine S4 1 J<|sR<|cF h b1F J J λv1 _ h=>S2 2 J<|S3 1 J<|cF h B7 J J λv2 _ h=>S2 8 J<|sR<|cF h b1F J J λv3 _ h=>S2 2 J<|S3 1 J<|cF h B7 J J λv4 _ h=>S2 8 J<|S3 1 J<|cF h B7 J J λv5 _ h=>S2 8 J<|S3 1 J<|cF h K7 J J λv6 _ h=>nL J Ty.p8<|S1 2 J<|b8 J (λhg=>mI J)<|b8 J (λhg=>j8 (ct hg) J J)<|y0 J (k7 J J J (λq=>H0 q))<|S1 1 J<|b8 J (λhg=>mI J)<|b8 J (λhg=>j8 (ct hg) J J)<|y0 J (k7 J J J (λq=>H0 q))<|S1 1 J<|b8 J (λhg=>oL J J J Ty.O2 Ty.I6 nl J)<|l7 h λv7 hv7 h=>b8 J (λhg=>y5 J a1l (o8 (ct hg) J) (u9 hv7 hg))<|y0 J (k7 J J J (λq=>H0 q))<|S1 1 J<|b8 J (λhg=>oF J Ty.b4B J)<|b8 J (λhg=>oF (ct hg) Ty.b9A J)<|b8 J (λhg=>oS (ct hg) J J Ty.a30 J)<|b8 J (λhg=>D6 (f:=task_Task.Pv) (ct hg) Ty.e30)<|b8 J (λhg=>j8 (ct hg) J J)<|y0 J (k7 J J J (λq=>H0 q))<|S1 1 J<|b8 J (λhg=>oL J J J Ty.O2 Ty.I6 nl J)<|l7 h λv8 hv8 h=>b8e J (λhg=>n0 J W3 (o8 (ct hg) J) (u9 hv8 hg))<|b8 J (λhg=>D6 (f:=iF) (ct hg) Ty.p8)<|b8 J (λhg=>j8 (ct hg) J J)<|y0 J (k7 J J J (λq=>H0 q))<|S1 1 J<|b8 J (λhg=>mI J)<|b8 J (λhg=>j8 (ct hg) J J)<|y0 J (k7 J J J (λq=>H0 q))<|S1 1 J<|b8 J (λhg=>mI J)<|b8 J (λhg=>j8 (ct hg) J J)<|y0 J (k7 J J J (λq=>H0 q))<|S1 1 J<|b8 J (λhg=>oF J Ty.b4B J)<|b8 J (λhg=>oF (ct hg) Ty.b9A J)<|b8 J (λhg=>oS (ct hg) J J Ty.a30 J)<|b8 J (λhg=>D6 (f:=task_Task.Pv) (ct hg) Ty.e30)<|b8 J (λhg=>j8 (ct hg) J J)<|y0 J (k7 J J J (λq=>H0 q))<|S1 1 J<|b8 J (λhg=>oL J J J Ty.O2 Ty.I6 nl J)<|l7 h λv9 hv9 h=>b8 J (λhg=>y5 J a1l (o8 (ct hg) J) (u9 hv9 hg))<|y0 J (k7 J J J (λq=>H0 q))<|S1 1 J<|b8 J (λhg=>mI J)<|b8 J (λhg=>j8 (ct hg) J J)<|y0 J (k7 J J J (λq=>H0 q))<|S1 1 J<|b8 J (λhg=>mI J)<|b8 J (λhg=>j8 (ct hg) J J)<|y0 J (k7 J J J (λq=>H0 q))<|S1 1 J<|b8 J (λhg=>oL J J J Ty.O2 Ty.I6 nl J)<|l7 h λv10 hv10 h=>b8 J (λhg=>y5 J b34 (o8 (ct hg) J) (u9 hv10 hg))<|y0 J (k7 J J J (λq=>H0 q))<|S2 1 J<|a6 ?_
 cases h
 exact f1

theorem b7L{a0 a1}:PO Tryz.prog 151 [c9.Pv a0,.L c7.Pv a1] (a98 a0 a1) λr=>.L iF r:=by
 refine pO Tryz.func151 λr h _ _=>?_
 refine S4 2 J<|sR<|y0 J (A0 J Ty.p8 Ty.s3)<|S2 1 J<|S3 1 J<|cF h E7 J J λv1 _ h=>S2 1 J ?_
 refine jq h (λj18=>St.of [(5,.sl 910005)] [(910005,⟨List.map iF j18,(List.map iF j18).length,true,1,true⟩)]) (λj18 h=>?_) λκ17 h=>?_
 ·refine S4 2 J ?_
  refine a6 ?_
  cases h
  exact f1
 ·refine S4 1 J ?_
  refine b7<|lq h (λq=>St.of [(1,.L c7.Pv a1),(2,.ptr 2 0 0),(5,.sl 910005),(6,.L iF v1),(7,.I q.1)] [(2,vR (c9.Pv a0) 3),(910005,⟨List.map iF q.2,(List.map iF q.2).length,true,1,true⟩)]) (Wk.trans (B2 (t:=5) (l:=920005) (z:=1) J J) (WP (λl=>if l=910005 then 920005 else l))) λq23 x22 h hx17=>?_
  obtain⟨s20,s21⟩:=q23
  refine b9<|S3 2 J<|nL J Ty.p8<|S2 1 J ?_
  refine cN h (λhc h=>?_) λhc h=>?_
  ·refine a8 ?_
   refine jq h (λj29=>St.of [(1,.L c7.Pv a1),(2,.ptr 2 0 0),(5,.sl 39),(6,.L iF v1),(7,.I s20)] [(39,⟨List.map iF j29,(List.map iF j29).length,true,1,true⟩),(2,vR (c9.Pv a0) 3)]) (λj29 h=>?_) λκ28 h=>?_
   ·refine S6 3 J ?_
    exact eL h (Wk.trans (g7 _ [39]) (WP (λl=>if l=910005 then 39 else l)))
   ·refine b7 ?_
    refine dr [] Ty.K8 (by kernel_rfl) (by kernel_rfl)<|S7 4 J<|l7 h λv30 hv23 h=>d0 J (p9 (f:=iF) (cs:=[.I v30]) hv23 J J Ty.p8 Ty.s3 J J) J<|S7 1 J<|l7 h λv31 hv24 h=>d2 J (y5 J b1w J hv24) J<|S7 2 J<|s6 J (λhg=>oL J J J Ty.a39 Ty.s39 nl J) J<|m7 J (λhg _ hN=>om (d:=.L iF v1) J) J<|m7 J (λhg _ hN=>mI J) J<|s6 J (λhg=>p9 (f:=iF) (cs:=[.I v30]) hv23 (ct hg) (ct hg) Ty.p8 Ty.s3 J J) J<|s6 J (λhg=>B1 (ct hg) Ty.a3 J) J<|l7 h λv32 hv25 h=>X7 J (λhg=>y5 J a99 (o8 (ct hg) (o8 (ct hg) J)) (u9 hv25 hg)) J<|d7 J (λ_ hN=>n8 J J J (λq=>H5 q)) J<|F6 ?_
    refine cN h (λhc h=>?_) λhc h=>?_
    ·refine S5 3 J ?_
     refine y0 J (p9 (f:=iF) (cs:=[.I v30]) hv23 J J Ty.p8 Ty.s3 J J)<|S1 1 J<|y0 J (F1 (f:=iF) (l:=[v30]) J Ty.p8 Ty.s3 Ty.z3 J J nl J J)<|l7 h λv33 hv26 h=>D7 J (B6 (f:=iF) hv26 J J J J J J (.inl ⟨_,J,J⟩) Ty.p8 Ty.s3 Ty.b3 Ty.z3 J (λ_=>J)) J J J<|S2 1 J ?_
     exact eJ h (Wk.trans (g7 _ [39]) W)
    ·refine a8 ?_
     exact eJ h (Wk.trans (g7 _ [910005]) (WP (λl=>if l=39 then 910005 else l)))
  ·refine g8 ?_
   refine a7<|a7<|c4 ?_
   have h:=xL hx17 h
   exact eJ h (Wk.trans (g7 _ [910005]) W)

theorem a5E{a0 a1}:PO Tryz.prog 226 [.L iF a0,.I a1] (a5D a0 a1) λr=>.bool r:=by
 refine pO Tryz.func226 λr h _ _=>?_
 refine S4 1 J<|S3 2 J<|cA h M7 J J λv1 _ h=>S2 2 J<|a6 ?_
 cases h
 exact f1

theorem a91{a0 a1 a2}:PO Tryz.prog 238 [.L iF a0,.L iF a1,.bool a2] (a4K a0 a1 a2) λr=>.L iF r:=by
 refine pO Tryz.func238 λr h _ _=>?_
 refine S4 1 J<|sR<|y0 J (A0 J Ty.p8 Ty.s3)<|S2 1 J ?_
 refine jq h (λj15=>St.of [(7,.sl 910007)] [(910007,⟨List.map iF j15,(List.map iF j15).length,true,1,true⟩)]) (λj15 h=>?_) λκ14 h=>?_
 ·refine S4 2 J ?_
  refine a6 ?_
  cases h
  exact f1
 ·refine S4 1 J ?_
  refine b7<|lq h (λq=>St.of [(0,.L iF a0),(1,.L iF a1),(2,.bool a2),(7,.sl 910007),(8,.I q.1)] [(910007,⟨List.map iF q.2,(List.map iF q.2).length,true,1,true⟩)]) (Wk.trans (B2 (t:=7) (l:=920007) (z:=1) J J) (WP (λl=>if l=910007 then 920007 else l))) λq20 x19 h hx14=>?_
  obtain⟨s17,s18⟩:=q20
  refine b9<|S3 2 J<|nL J Ty.p8<|S2 1 J ?_
  refine cN h (λhc h=>?_) λhc h=>?_
  ·refine a8 ?_
   refine jq h (λj25=>St.of [(0,.L iF a0),(1,.L iF a1),(2,.bool a2),(7,.sl 30),(8,.I s17)] [(30,⟨List.map iF j25,(List.map iF j25).length,true,1,true⟩)]) (λj25 h=>?_) λκ24 h=>?_
   ·refine S6 3 J ?_
    exact eL h (Wk.trans (g7 _ [30]) (WP (λl=>if l=910007 then 30 else l)))
   ·refine b7 ?_
    refine S3 3 J<|iL h J J Ty.p8 Ty.s3 λv26 hv19 h=>S1 1 J<|cA h a5E J J λv27 _ h=>S1 1 J<|y0 J (c2R J J Ty.u4 J)<|yN ?_
    refine cN h (λhc h=>?_) λhc h=>?_
    ·refine S5 3 J ?_
     refine y0 J (p9 (f:=iF) (cs:=[.I v26]) hv19 J J Ty.p8 Ty.s3 J J)<|S1 1 J<|y0 J (F1 (f:=iF) (l:=[v26]) J Ty.p8 Ty.s3 Ty.z3 J J nl J J)<|l7 h λv28 hv21 h=>D7 J (B6 (f:=iF) hv21 J J J J J J (.inl ⟨_,J,J⟩) Ty.p8 Ty.s3 Ty.b3 Ty.z3 J (λ_=>J)) J J J<|S2 1 J ?_
     exact eJ h (Wk.trans (g7 _ [30]) W)
    ·refine a8 ?_
     exact eJ h (Wk.trans (g7 _ [910007]) (WP (λl=>if l=30 then 910007 else l)))
  ·refine g8 ?_
   refine a7<|a7<|c4 ?_
   have h:=xL hx14 h
   exact eJ h (Wk.trans (g7 _ [910007]) W)

theorem b1v{a0 a1}:PO Tryz.prog 168 [c9.Pv a0,.L iF a1] (a4J a0 a1) λr=>.L iF r:=by
 refine pO Tryz.func168 λr h _ _=>?_
 refine S4 2 J<|S3 1 J<|cF h E7 J J λv1 _ h=>S2 1 J<|S3 2 J<|cF h a91 J J λv2 _ h=>S2 1 J ?_
 refine jq h (λj51=>St.of [(6,.L iF j51)] []) (λj51 h=>?_) λκ50 h=>?_
 ·refine S4 2 J ?_
  refine a6 ?_
  cases h
  exact f1
 ·refine S4 1 J ?_
  refine b7<|lq h (λq=>St.of [(2,.ptr 2 0 0),(5,.L iF v1),(6,.L iF q.1),(7,.I q.2)] [(2,vR (c9.Pv a0) 3)]) W λq56 x55 h hx40=>?_
  obtain⟨s53,s54⟩:=q56
  refine b9<|S3 2 J<|nL J Ty.p8<|S2 1 J ?_
  refine cN h (λhc h=>?_) λhc h=>?_
  ·refine a8 ?_
   refine jq h (λj78=>St.of [(2,.ptr 2 0 0),(5,.L iF v1),(6,.L iF j78),(7,.I s54)] [(2,vR (c9.Pv a0) 3)]) (λj78 h=>?_) λκ77 h=>?_
   ·refine S6 3 J ?_
    exact eL h W
   ·refine b7 ?_
    refine sR<|y0 J (A0 J Ty.p8 Ty.s3)<|S1 1 J<|l7 h λv79 hv57 h=>y1 J (a4C (f:=iF) hv57 J J (.inl ⟨_,J,J⟩) Ty.p8 Ty.s3 Ty.b3 Ty.z3 J (λ_=>J)) J<|S2 1 J ?_
    refine jq h (λj89=>St.of [(2,.ptr 2 0 0),(5,.L iF v1),(7,.I s54),(8,.sl 23)] [(23,⟨List.map iF j89,(List.map iF j89).length,true,1,true⟩),(2,vR (c9.Pv a0) 3)]) (λj89 h=>?_) λκ88 h=>?_
    ·refine S5 2 J ?_
     obtain⟨v90,hv65,h⟩:=a5Y h
     refine ycL J (n0 J a91 J hv65) J<|S2 1 J ?_
     exact eJ h W
    ·refine S4 1 J ?_
     refine b7<|lq h (λq=>St.of [(2,.ptr 2 0 0),(5,.L iF v1),(6,.L iF s53),(7,.I s54),(8,.sl 23),(9,.I q.1)] [(23,⟨List.map iF q.2,(List.map iF q.2).length,true,1,true⟩),(2,vR (c9.Pv a0) 3)]) (Wk.trans (g7 _ [23]) W) λq95 x94 h hx68=>?_
     obtain⟨s92,s93⟩:=q95
     refine b9<|S3 2 J<|nL J Ty.p8<|S2 1 J ?_
     refine cN h (λhc h=>?_) λhc h=>?_
     ·refine a8 ?_
      refine b9<|b7<|a0p [] Ty.K8 (by kernel_rfl) (by kernel_rfl)<|S7 4 J<|l7 h λv96 hv69 h=>d0 J (p9 (f:=iF) (cs:=[.I v96]) hv69 J J Ty.p8 Ty.s3 J J) J<|S7 1 J<|l7 h λv97 hv70 h=>Q7 J (n0 J b3d J hv70) J<|l7 h λv98 hv71 h=>d3a J (B6 (f:=iF) hv71 J J J J J J (.inl ⟨_,J,J⟩) Ty.p8 Ty.s3 Ty.b3 Ty.z3 J (λ_=>J)) J J J J J<|S8 1 J<|S6 3 J ?_
      exact eL h (Wk.trans (g7 _ [37]) (WP (λl=>if l=23 then 37 else l)))
     ·refine g8 ?_
      refine a7<|a7<|c4 ?_
      have h:=xL hx68 h
      exact eJ h (Wk.trans (g7 _ [23]) W)
  ·refine g8 ?_
   refine a7<|a7<|c4 ?_
   have h:=xL hx40 h
   exact eJ h W

theorem a96{a0 a1}:PO Tryz.prog 240 [c9.Pv a0,.I a1] (a4M a0 a1) λr=>.bool r:=by
 refine pO Tryz.func240 λr h _ _=>?_
 refine S4 2 J<|S3 2 J<|cF h B9 J J λv1 _ h=>S2 6 J<|S4 3 J<|a6 ?_
 cases h
 exact f1

theorem b7J{a0 a1 a2}:PO Tryz.prog 169 [c9.Pv a0,.L c7.Pv a1,.L iF a2] (a67 a0 a1 a2) λr=>.L iF r:=by
 refine pO Tryz.func169 λr h _ _=>?_
 refine S4 2 J<|sR<|y0 J (A0 J Ty.p8 Ty.s3)<|S2 1 J<|S3 1 J<|cF h a5G J J λv1 _ h=>S2 1 J ?_
 refine jq h (λj20=>St.of [(7,.sl 910007)] [(910007,⟨List.map iF j20,(List.map iF j20).length,true,1,true⟩)]) (λj20 h=>?_) λκ19 h=>?_
 ·refine S4 2 J ?_
  refine a6 ?_
  cases h
  exact f1
 ·refine S4 1 J ?_
  refine b7<|lq h (λq=>St.of [(2,.L iF a2),(3,.ptr 3 0 0),(7,.sl 910007),(8,.L u5.Pv v1),(9,.I q.1)] [(3,vR (c9.Pv a0) 3),(910007,⟨List.map iF q.2,(List.map iF q.2).length,true,1,true⟩)]) (Wk.trans (B2 (t:=7) (l:=920007) (z:=1) J J) (WP (λl=>if l=910007 then 920007 else l))) λq25 x24 h hx19=>?_
  obtain⟨s22,s23⟩:=q25
  refine b9<|S3 2 J<|nL J Ty.b0G<|S2 1 J ?_
  refine cN h (λhc h=>?_) λhc h=>?_
  ·refine a8 ?_
   refine jq h (λj32=>St.of [(2,.L iF a2),(3,.ptr 3 0 0),(7,.sl 51),(8,.L u5.Pv v1),(9,.I s22)] [(51,⟨List.map iF j32,(List.map iF j32).length,true,1,true⟩),(3,vR (c9.Pv a0) 3)]) (λj32 h=>?_) λκ31 h=>?_
   ·refine S6 3 J ?_
    exact eL h (Wk.trans (g7 _ [51]) (WP (λl=>if l=910007 then 51 else l)))
   ·refine b7 ?_
    refine dr [] Ty.K8 (by kernel_rfl) (by kernel_rfl)<|S7 3 J<|l7 h λv33 hv26 h=>d0 J (p9 (f:=u5.Pv) (cs:=u5.Pc v33) hv26 J J Ty.b0G Ty.b4i J J) J<|S7 2 J<|l7 h λv34 hv27 h=>d2 J (y5 J a96 J hv27) J<|S7 1 J<|m7 J (λhg _ hN=>om (d:=.L iF a2) J) J<|m7 J (λhg _ hN=>om (d:=.L u5.Pv v1) J) J<|m7 J (λhg _ hN=>mI J) J<|s6 J (λhg=>p9 (f:=u5.Pv) (cs:=u5.Pc v33) hv26 (ct hg) (ct hg) Ty.b0G Ty.b4i J J) J<|m7 J (λhg _ hN=>z6 (ct hg) Ty.c6z J) J<|s6 J (λhg=>B1 (ct hg) Ty.a3 J) J<|l7 h λv35 hv28 h=>X7 J (λhg=>y5 J a5E (o8 (ct hg) (o8 (ct hg) J)) (u9 hv28 hg)) J<|d7 J (λ_ hN=>k7 J J J (λq=>H0 q)) J<|S7 1 J<|s6 J (λhg=>oL J J J Ty.a39 Ty.s39 nl J) J<|m7 J (λhg _ hN=>om (d:=.L u5.Pv v1) J) J<|m7 J (λhg _ hN=>mI J) J<|s6 J (λhg=>p9 (f:=u5.Pv) (cs:=u5.Pc v33) hv26 (ct hg) (ct hg) Ty.b0G Ty.b4i J J) J<|m7 J (λhg _ hN=>z6 (ct hg) Ty.c2a J) J<|s6 J (λhg=>B1 (ct hg) Ty.a3 J) J<|l7 h λv36 hv29 h=>X7 J (λhg=>y5 J a96 (o8 (ct hg) (o8 (ct hg) J)) (u9 hv29 hg)) J<|d7 J (λ_ hN=>k7 J J J (λq=>H0 q)) J<|F6 ?_
    refine cN h (λhc h=>?_) λhc h=>?_
    ·refine S5 3 J ?_
     refine y0 J (p9 (f:=u5.Pv) (cs:=u5.Pc v33) hv26 J J Ty.b0G Ty.b4i J J)<|S1 2 J<|y0 J (F1 (f:=iF) (l:=[v33.Val]) J Ty.p8 Ty.s3 Ty.z3 J J nl J J)<|l7 h λv37 hv30 h=>D7 J (B6 (f:=iF) hv30 J J J J J J (.inl ⟨_,J,J⟩) Ty.p8 Ty.s3 Ty.b3 Ty.z3 J (λ_=>J)) J J J<|S2 1 J ?_
     exact eJ h (Wk.trans (g7 _ [51]) W)
    ·refine a8 ?_
     exact eJ h (Wk.trans (g7 _ [910007]) (WP (λl=>if l=51 then 910007 else l)))
  ·refine g8 ?_
   refine a7<|a7<|c4 ?_
   have h:=xL hx19 h
   exact eJ h (Wk.trans (g7 _ [910007]) W)

theorem a0x{a0 a1}:PO Tryz.prog 22 [.L iF a0,.L iF a1] (V1 a0 a1) λr=>.bool r:=by
 refine pO Tryz.func22 λr h _ _=>?_
 refine S4 1 J<|b9<|S3 1 J<|nL J Ty.p8<|S1 1 J<|nL J Ty.p8<|S2 1 J ?_
 refine cN h (λhc h=>?_) λhc h=>?_
 ·refine S4 1 J ?_
  refine a6 ?_
  cases h
  exact f1
 ·refine a8 ?_
  refine jq h (λ_=>St.of [] []) (λq7 h=>?_) λκ6 h=>?_
  ·refine S4 1 J ?_
   refine a6 ?_
   cases h
   exact f1
  ·refine S4 1 J ?_
   refine b7<|lq h (λs9=>St.of [(0,.L iF a0),(1,.L iF a1),(5,.I s9)] []) W λs9 x10 h hx9=>b9<|S3 2 J<|nL J Ty.p8<|S2 1 J ?_
   refine cN h (λhc h=>?_) λhc h=>?_
   ·refine a8 ?_
    refine b9<|b7<|dr [] Ty.K8 (by kernel_rfl) (by kernel_rfl)<|S7 2 J<|l7 h λv11 hv10 h=>d0 J (p9 (f:=iF) (cs:=[.I v11]) hv10 J J Ty.p8 Ty.s3 J J) J<|S7 3 J<|l7 h λv12 hv11 h=>d0 J (p9 (f:=iF) (cs:=[.I v12]) hv11 J J Ty.p8 Ty.s3 J J) J<|S8 2 J ?_
    refine cN h (λhc h=>?_) λhc h=>?_
    ·refine S4 1 J ?_
     refine a6 ?_
     have h:=xL hx9 h
     cases h
     exact f1
    ·refine a8 ?_
     refine S6 3 J ?_
     exact eL h W
   ·refine g8 ?_
    refine a7<|a7<|c4 ?_
    have h:=xL hx9 h
    exact eJ h W

theorem b4b{a0 a1 a2}:PO Tryz.prog 89 [c9.Pv a0,.L c7.Pv a1,.L iF a2] (a5H a0 a1 a2) λr=>.tup [.L iF r.1,.I r.2]:=by
 refine pO Tryz.func89 λr h _ _=>?_
 refine S4 3 J<|S3 2 J<|cF h b1v J J λv1 _ h=>S2 1 J ?_
 refine jq h (λj13=>St.of [(8,.L iF j13)] []) (λj13 h=>?_) λκ12 h=>?_
 ·refine S4 3 J ?_
  refine a6 ?_
  cases h
  exact f2
 ·refine S4 1 J ?_
  refine b7<|lq h (λq=>St.of [(1,.L c7.Pv a1),(3,.ptr 3 0 0),(8,.L iF q.1),(9,.I q.2)] [(3,vR (c9.Pv a0) 3)]) W λq18 x17 h hx13=>?_
  obtain⟨s15,s16⟩:=q18
  refine b9<|S4 2 J ?_
  refine cN h (λhc h=>?_) λhc h=>?_
  ·refine a8 ?_
   refine b9<|b7<|dr [9] Ty.K8 (by kernel_rfl) (by kernel_rfl)<|S7 1 J<|d1n J (A0 J Ty.p8 Ty.s3) J<|S7 1 J<|l7 h λv19 hv14 h=>d3 J (a4C (f:=iF) hv14 J J (.inl ⟨_,J,J⟩) Ty.p8 Ty.s3 Ty.b3 Ty.z3 J (λ_=>J)) J J J<|S7 3 J<|l7 h λv20 hv15 h=>Q7 J (n0 J b7J J hv15) J<|l7 h λv21 hv16 h=>d3a J (B6 (f:=iF) hv16 J J J J J J (.inl ⟨_,J,J⟩) Ty.p8 Ty.s3 Ty.b3 Ty.z3 J (λ_=>J)) J J J J J<|l7 h λv22 hv17 h=>d5f J (n0 J b1v J hv17) J J<|S8 1 J<|b9<|S3 2 J<|cA h a0x J J λv23 _ h=>yN ?_
   refine cN h (λhc h=>?_) λhc h=>?_
   ·refine S4 4 J ?_
    refine a6 ?_
    have h:=xL hx13 h
    cases h
    exact f2
   ·refine a8 ?_
    refine S6 2 J<|S6 3 J ?_
    exact eL h W
  ·refine g8 ?_
   refine a7<|a7<|c4 ?_
   have h:=xL hx13 h
   exact eJ h W

theorem a65{a0 a1 a2}:PO Tryz.prog 32 [c9.Pv a0,.L c7.Pv a1,.L iF a2] (a4L a0 a1 a2) λr=>.L iF r:=by
 refine pO Tryz.func32 λr h _ _=>?_
 refine S4 2 J<|S3 3 J<|cF h b4b J J λv1 _ h=>S2 5 J<|S4 2 J<|a6 ?_
 cases h
 exact f1

theorem b7I{a0 a1 a2}:PO Tryz.prog 150 [c9.Pv a0,.L c7.Pv a1,.L iF a2] (a95 a0 a1 a2) λr=>.L iF r:=by
 refine pO Tryz.func150 λr h _ _=>?_
 refine S4 2 J<|S3 3 J<|cF h a65 J J λv1 _ h=>S2 1 J<|sR<|y0 J (A0 J Ty.p8 Ty.s3)<|S2 1 J<|S3 1 J<|cF h E7 J J λv2 _ h=>S2 1 J ?_
 refine jq h (λj17=>St.of [(8,.sl 910008)] [(910008,⟨List.map iF j17,(List.map iF j17).length,true,1,true⟩)]) (λj17 h=>?_) λκ16 h=>?_
 ·refine S4 2 J ?_
  refine a6 ?_
  cases h
  exact f1
 ·refine S4 1 J ?_
  refine b7<|lq h (λq=>St.of [(7,.L iF v1),(8,.sl 910008),(9,.L iF v2),(10,.I q.1)] [(910008,⟨List.map iF q.2,(List.map iF q.2).length,true,1,true⟩)]) (Wk.trans (B2 (t:=8) (l:=920008) (z:=1) J J) (WP (λl=>if l=910008 then 920008 else l))) λq22 x21 h hx16=>?_
  obtain⟨s19,s20⟩:=q22
  refine b9<|S3 2 J<|nL J Ty.p8<|S2 1 J ?_
  refine cN h (λhc h=>?_) λhc h=>?_
  ·refine a8 ?_
   refine jq h (λj27=>St.of [(7,.L iF v1),(8,.sl 37),(9,.L iF v2),(10,.I s19)] [(37,⟨List.map iF j27,(List.map iF j27).length,true,1,true⟩)]) (λj27 h=>?_) λκ26 h=>?_
   ·refine S6 3 J ?_
    exact eL h (Wk.trans (g7 _ [37]) (WP (λl=>if l=910008 then 37 else l)))
   ·refine b7 ?_
    refine S3 3 J<|iL h J J Ty.p8 Ty.s3 λv28 hv21 h=>S1 1 J<|cA h a5E J J λv29 _ h=>S2 1 J ?_
    refine cN h (λhc h=>?_) λhc h=>?_
    ·refine S5 3 J ?_
     refine y0 J (p9 (f:=iF) (cs:=[.I v28]) hv21 J J Ty.p8 Ty.s3 J J)<|S1 1 J<|y0 J (F1 (f:=iF) (l:=[v28]) J Ty.p8 Ty.s3 Ty.z3 J J nl J J)<|l7 h λv30 hv23 h=>D7 J (B6 (f:=iF) hv23 J J J J J J (.inl ⟨_,J,J⟩) Ty.p8 Ty.s3 Ty.b3 Ty.z3 J (λ_=>J)) J J J<|S2 1 J ?_
     exact eJ h (Wk.trans (g7 _ [37]) W)
    ·refine a8 ?_
     exact eJ h (Wk.trans (g7 _ [910008]) (WP (λl=>if l=37 then 910008 else l)))
  ·refine g8 ?_
   refine a7<|a7<|c4 ?_
   have h:=xL hx16 h
   exact eJ h (Wk.trans (g7 _ [910008]) W)

theorem b3g{a0 a1}:PO Tryz.prog 71 [c9.Pv a0,.L c7.Pv a1] (a18 a0 a1) λr=>.L iF r:=by
 refine pO Tryz.func71 λr h _ _=>?_
 unfold a18 at h
 refine S4 2 J<|dr [] Ty.K8 (by kernel_rfl) (by kernel_rfl)<|S7 4 J<|l7 h λv1 hv1 h=>Q7 J (n0 J b7L J hv1) J<|l7 h λv2 hv2 h=>Q7 J (n0 J b7I J hv2) J<|S8 1 J<|a6 ?_
 cases h
 exact f1

theorem V4{a0}:PO Tryz.prog 24 [c5.Pv a0] (M8 a0) λr=>.L iF r:=by
 refine pO Tryz.func24 λr h _ _=>?_
 refine S4 2 J<|S3 4 J<|cF h b3g J J λv1 _ h=>S2 1 J<|a6 ?_
 cases h
 exact f1

theorem a80{a0 a1}:PO Tryz.prog 75 [c5.Pv a0,.I a1] (a5I a0 a1) λr=>.bool r:=by
 refine pO Tryz.func75 λr h _ _=>?_
 refine S4 2 J<|S3 3 J<|cF h B9 J J λv1 _ h=>S2 6 J<|S3 2 J<|cA h W9 J J λv2 _ h=>S1 1 J<|b8 J (λhg=>oF J Ty.b4C J)<|b8 J (λhg=>oS (ct hg) J J Ty.a3 J)<|b8 J (λhg=>j8 (ct hg) J J)<|y0 J (k7 J J J (λq=>H0 q))<|S1 1 J<|b8 J (λhg=>oF J Ty.b4D J)<|b8 J (λhg=>oS (ct hg) J J Ty.a4 J)<|b8 J (λhg=>J7 (ct hg) J)<|y0 J (k7 J J J (λq=>H0 q))<|S2 1 J<|a6 ?_
 cases h
 exact f1

theorem b0e{a0}:PO Tryz.prog 26 [c5.Pv a0] (a2W a0) λr=>.L iF r:=by
 refine pO Tryz.func26 λr h _ _=>?_
 refine S4 2 J<|sR<|y0 J (A0 J Ty.p8 Ty.s3)<|S2 1 J<|S3 1 J<|cF h V4 J J λv1 _ h=>S2 1 J ?_
 refine jq h (λj16=>St.of [(3,.sl 910003)] [(910003,⟨List.map iF j16,(List.map iF j16).length,true,1,true⟩)]) (λj16 h=>?_) λκ15 h=>?_
 ·refine S4 2 J ?_
  refine a6 ?_
  cases h
  exact f1
 ·refine S4 1 J ?_
  refine b7<|lq h (λq=>St.of [(1,.ptr 1 0 0),(3,.sl 910003),(4,.L iF v1),(5,.I q.1)] [(1,vR (c5.Pv a0) 8),(910003,⟨List.map iF q.2,(List.map iF q.2).length,true,1,true⟩)]) (Wk.trans (B2 (t:=3) (l:=920003) (z:=1) J J) (WP (λl=>if l=910003 then 920003 else l))) λq21 x20 h hx15=>?_
  obtain⟨s18,s19⟩:=q21
  refine b9<|S3 2 J<|nL J Ty.p8<|S2 1 J ?_
  refine cN h (λhc h=>?_) λhc h=>?_
  ·refine a8 ?_
   refine jq h (λj26=>St.of [(1,.ptr 1 0 0),(3,.sl 27),(4,.L iF v1),(5,.I s18)] [(27,⟨List.map iF j26,(List.map iF j26).length,true,1,true⟩),(1,vR (c5.Pv a0) 8)]) (λj26 h=>?_) λκ25 h=>?_
   ·refine S6 3 J ?_
    exact eL h (Wk.trans (g7 _ [27]) (WP (λl=>if l=910003 then 27 else l)))
   ·refine b7 ?_
    refine dr [] Ty.K8 (by kernel_rfl) (by kernel_rfl)<|S7 3 J<|l7 h λv27 hv20 h=>d0 J (p9 (f:=iF) (cs:=[.I v27]) hv20 J J Ty.p8 Ty.s3 J J) J<|S7 1 J<|l7 h λv28 hv21 h=>d2 J (y5 J a80 J hv21) J<|F6 ?_
    refine cN h (λhc h=>?_) λhc h=>?_
    ·refine S5 3 J ?_
     refine y0 J (p9 (f:=iF) (cs:=[.I v27]) hv20 J J Ty.p8 Ty.s3 J J)<|S1 1 J<|y0 J (F1 (f:=iF) (l:=[v27]) J Ty.p8 Ty.s3 Ty.z3 J J nl J J)<|l7 h λv29 hv22 h=>D7 J (B6 (f:=iF) hv22 J J J J J J (.inl ⟨_,J,J⟩) Ty.p8 Ty.s3 Ty.b3 Ty.z3 J (λ_=>J)) J J J<|S2 1 J ?_
     exact eJ h (Wk.trans (g7 _ [27]) W)
    ·refine a8 ?_
     exact eJ h (Wk.trans (g7 _ [910003]) (WP (λl=>if l=27 then 910003 else l)))
  ·refine g8 ?_
   refine a7<|a7<|c4 ?_
   have h:=xL hx15 h
   exact eJ h (Wk.trans (g7 _ [910003]) W)

theorem b1u{a0 a1 a2}:PO Tryz.prog 224 [c9.Pv a0,.I a1,z8.Pv a2] (a3m a0 a1 a2) λr=>c9.Pv r:=by
 refine pO Tryz.func224 λr h _ _=>?_
 unfold a3m at h
 refine S4 3 J<|sR<|y0 J (A0 J Ty.e37 Ty.a1C)<|S1 2 J<|l7 h λv1 hv1 h=>y1 J (a4C (f:=j6.Pv) hv1 J J (.inl ⟨_,J,J⟩) Ty.e37 Ty.a1C Ty.c6l Ty.b9r J (λ_=>J)) J<|S2 1 J<|S3 3 J<|l7 h λv2 hv2 h=>y0 J (a0w (f:=j6.Pv) hv2 J J J J Ty.e37 Ty.a1C J)<|S1 1 J<|a6e (f:=j6.Pv) (v:=(⟨v2.State,v2.Gen,a2⟩:j6)) hv2 J J (.inr J) Ty.s62<|yN<|S3 5 J<|y0 J (l6 (cs:=[.sl 11,.I a0.Last,.I a0.Serial]) J Ty.p39 Ty.z39 J J J)<|S2 1 J<|a6 ?_
 cases h
 exact⟨J,[_],⟨oL J J J Ty.a39 Ty.s39 nl J,tr⟩,J,io⟩

theorem a8Z{a0 a1 a2}:PO Tryz.prog 140 [c9.Pv a0,.I a1,z8.Pv a2] (a0c a0 a1 a2) λr=>.tup [c9.Pv r.1,.I r.2]:=by
 refine pO Tryz.func140 λr h _ _=>?_
 refine S4 4 J<|S3 1 J<|cF h M6 J J λv1 _ h=>S1 1 J<|cA h V2 J J λv2 _ h=>S2 5 J<|b9<|S4 2 J ?_
 refine cN h (λhc h=>?_) λhc h=>?_
 ·refine S4 4 J ?_
  refine a6 ?_
  cases h
  exact⟨J,[_,_],⟨oL J J J Ty.a39 Ty.s39 nl J,⟨J,tr⟩⟩,J,io⟩
 ·refine a8 ?_
  refine S3 3 J<|cF h b1u J J λv3 _ h=>S2 2 J<|a6 ?_
  cases h
  exact⟨J,[_,_],⟨oL J J J Ty.a39 Ty.s39 nl J,⟨J,tr⟩⟩,J,io⟩

theorem b3h{a0 a1}:PO Tryz.prog 141 [r7.Pv a0,m9.Pv a1] (a3T a0 a1) λr=>.tup [r7.Pv r.1,.I r.2]:=by
 refine pO Tryz.func141 λr h _ _=>?_
 refine S4 4 J<|b9<|S3 2 J<|nL J Ty.e42<|S2 3 J ?_
 refine cN h (λhc h=>?_) λhc h=>?_
 ·refine S4 3 J ?_
  refine a6 ?_
  cases h
  exact⟨J,[_,_],⟨oL J J J Ty.a44 Ty.s44 nl J,⟨J,tr⟩⟩,J,io⟩
 ·refine a8 ?_
  refine dr [] Ty.K8 (by kernel_rfl) (by kernel_rfl)<|d1n J (A0 J Ty.e42 Ty.s85) J<|S7 2 J<|l7 h λv1 hv1 h=>d3 J (a4C (f:=m9.Pv) hv1 J J (.inl ⟨_,J,J⟩) Ty.e42 Ty.s85 Ty.b85 Ty.z85 J (λ_=>J)) J J J<|S7 1 J<|d1n J (F1 (f:=m9.Pv) (l:=[a1]) J Ty.e42 Ty.s85 Ty.z85 J J nl J J) J<|l7 h λv2 hv2 h=>d3a J (B6 (f:=m9.Pv) hv2 J J J J J J (.inl ⟨_,J,J⟩) Ty.e42 Ty.s85 Ty.b85 Ty.z85 J (λ_=>J)) J J J J J<|S7 2 J<|d7 J (λ_ hN=>l6 (cs:=[.sl 19,.I a0.Cap]) J Ty.p44 Ty.z44 J J J) J<|F0 (x':=.agg [.sl 19,.I a0.Cap]) (cl':=false) J J (.inl J) Ty.s44<|S8 1 J<|a6 ?_
  cases h
  exact⟨J,[_,_],⟨oL J J J Ty.a44 Ty.s44 nl J,⟨J,tr⟩⟩,J,io⟩

theorem b83{a0}:PO Tryz.prog 225 [.I a0] (a9U a0) λr=>.I r:=by
 refine pO Tryz.func225 λr h _ _=>?_
 refine S4 1 J<|b9<|S3 1 J<|cA h a2H J J λv1 _ h=>yN ?_
 refine cN h (λhc h=>?_) λhc h=>?_
 ·refine S4 1 J ?_
  refine a6 ?_
  cases h
  exact f1
 ·refine a8 ?_
  refine b9<|S4 2 J ?_
  refine cN h (λhc h=>?_) λhc h=>?_
  ·refine S4 1 J ?_
   refine a6 ?_
   cases h
   exact f1
  ·refine a8 ?_
   refine S4 3 J<|a6 ?_
   cases h
   exact f1

theorem a8y{a0 a1 a2}:PO Tryz.prog 190 [c5.Pv a0,.I a1,.I a2] (a3o a0 a1 a2) λr=>c5.Pv r:=by
 refine pO Tryz.func190 λr h _ _=>?_
 refine S4 2 J<|S3 3 J<|cF h B9 J J λv1 _ h=>S2 6 J<|b9<|S4 2 J ?_
 refine cN h (λhc h=>?_) λhc h=>?_
 ·refine S4 2 J ?_
  refine a6 ?_
  cases h
  exact⟨J,[_],⟨oL J J J Ty.a46 Ty.s46 nl J,tr⟩,J,io⟩
 ·refine a8 ?_
  refine S4 3 J<|S3 4 J<|cF h a8Z J J λv2 _ h=>S2 5 J<|S4 2 J<|a6 ?_
  cases h
  exact⟨J,[_],⟨oL J J J Ty.a46 Ty.s46 nl J,tr⟩,J,io⟩

theorem b4c{a0 a1}:PO Tryz.prog 142 [c5.Pv a0,.I a1] (a3n a0 a1) λr=>c5.Pv r:=by
 refine pO Tryz.func142 λr h _ _=>?_
 refine S4 2 J<|S3 3 J<|cF h B9 J J λv1 _ h=>S2 6 J<|dr [] Ty.K8 (by kernel_rfl) (by kernel_rfl)<|S7 4 J<|l7 h λv2 hv2 h=>d2 J (y5 J b83 J hv2) J<|l7 h λv3 hv3 h=>Q7 J (n0 J a8y J hv3) J<|F0 (x':=c5.Pv v3) (cl':=true) J J (.inr J) Ty.s46<|F6<|a6 ?_
 cases h
 exact⟨J,[_],⟨oL J J J Ty.a46 Ty.s46 nl J,tr⟩,J,io⟩

theorem a8z{a0 a1}:PO Tryz.prog 66 [c5.Pv a0,.I a1] (a1z a0 a1) λr=>c5.Pv r:=by
 refine pO Tryz.func66 λr h _ _=>?_
 refine S4 2 J<|b9<|S3 2 J<|cA h a80 J J λv1 _ h=>S2 1 J ?_
 refine cN h (λhc h=>?_) λhc h=>?_
 ·refine S4 2 J ?_
  refine a6 ?_
  cases h
  exact⟨J,[_],⟨oL J J J Ty.a46 Ty.s46 nl J,tr⟩,J,io⟩
 ·refine a8 ?_
  refine S3 3 J<|cF h B9 J J λv2 _ h=>S2 6 J<|S4 2 J<|S3 4 J<|cF h a8Z J J λv3 _ h=>S2 5 J<|S3 5 J<|y0 J (l6 (cs:=[.I 1,.I a1,.I v2.1.Prog]) J Ty.p85 Ty.z85 J J J)<|cF h b3h J J λv4 _ h=>S2 5 J<|S3 2 J<|cF h b4c J J λv5 _ h=>S2 1 J<|a6 ?_
  cases h
  exact⟨J,[_],⟨oL J J J Ty.a46 Ty.s46 nl J,tr⟩,J,io⟩

theorem b7O{a0 a1}:PO Tryz.prog 143 [c5.Pv a0,.L iF a1] (a7c a0 a1) λr=>.L iF r:=by
 refine pO Tryz.func143 λr h _ _=>?_
 refine S4 2 J<|sR<|y0 J (A0 J Ty.p8 Ty.s3)<|S2 1 J ?_
 refine jq h (λj17=>St.of [(5,.sl 910005)] [(910005,⟨List.map iF j17,(List.map iF j17).length,true,1,true⟩)]) (λj17 h=>?_) λκ16 h=>?_
 ·refine S4 2 J ?_
  refine a6 ?_
  cases h
  exact f1
 ·refine S4 1 J ?_
  refine b7<|lq h (λq=>St.of [(1,.L iF a1),(2,.ptr 2 0 0),(5,.sl 910005),(6,.I q.1)] [(2,vR (c5.Pv a0) 8),(910005,⟨List.map iF q.2,(List.map iF q.2).length,true,1,true⟩)]) (Wk.trans (B2 (t:=5) (l:=920005) (z:=1) J J) (WP (λl=>if l=910005 then 920005 else l))) λq22 x21 h hx16=>?_
  obtain⟨s19,s20⟩:=q22
  refine b9<|S3 2 J<|nL J Ty.p8<|S2 1 J ?_
  refine cN h (λhc h=>?_) λhc h=>?_
  ·refine a8 ?_
   refine jq h (λj28=>St.of [(1,.L iF a1),(2,.ptr 2 0 0),(5,.sl 35),(6,.I s19)] [(35,⟨List.map iF j28,(List.map iF j28).length,true,1,true⟩),(2,vR (c5.Pv a0) 8)]) (λj28 h=>?_) λκ27 h=>?_
   ·refine S6 3 J ?_
    exact eL h (Wk.trans (g7 _ [35]) (WP (λl=>if l=910005 then 35 else l)))
   ·refine b7 ?_
    refine dr [] Ty.K8 (by kernel_rfl) (by kernel_rfl)<|S7 3 J<|l7 h λv29 hv22 h=>d0 J (p9 (f:=iF) (cs:=[.I v29]) hv22 J J Ty.p8 Ty.s3 J J) J<|S7 1 J<|l7 h λv30 hv23 h=>d2 J (y5 J W9 J hv23) J<|S7 1 J<|m7 J (λhg _ hN=>om (d:=.sl 910005) J) J<|m7 J (λhg _ hN=>om (d:=.L iF a1) J) J<|m7 J (λhg _ hN=>mI J) J<|s6 J (λhg=>p9 (f:=iF) (cs:=[.I v29]) hv22 (ct hg) (ct hg) Ty.p8 Ty.s3 J J) J<|s6 J (λhg=>B1 (ct hg) Ty.a3 J) J<|l7 h λv31 hv24 h=>X7 J (λhg=>y5 J a5E (o8 (ct hg) (o8 (ct hg) J)) (u9 hv24 hg)) J<|m7 J (λhg _ hN=>J7 (ct hg) J) J<|d7 J (λ_ hN=>k7 J J J (λq=>H0 q)) J<|F6 ?_
    refine cN h (λhc h=>?_) λhc h=>?_
    ·refine S5 3 J ?_
     refine y0 J (p9 (f:=iF) (cs:=[.I v29]) hv22 J J Ty.p8 Ty.s3 J J)<|S1 1 J<|y0 J (F1 (f:=iF) (l:=[v29]) J Ty.p8 Ty.s3 Ty.z3 J J nl J J)<|l7 h λv32 hv25 h=>D7 J (B6 (f:=iF) hv25 J J J J J J (.inl ⟨_,J,J⟩) Ty.p8 Ty.s3 Ty.b3 Ty.z3 J (λ_=>J)) J J J<|S2 1 J ?_
     exact eJ h (Wk.trans (g7 _ [35]) W)
    ·refine a8 ?_
     exact eJ h (Wk.trans (g7 _ [910005]) (WP (λl=>if l=35 then 910005 else l)))
  ·refine g8 ?_
   refine a7<|a7<|c4 ?_
   have h:=xL hx16 h
   exact eJ h (Wk.trans (g7 _ [910005]) W)

theorem b55{a0 a1}:PO Tryz.prog 144 [.L k9.Pv a0,.L iF a1] (a7J a0 a1) λr=>.tup [.L k9.Pv r.1,.L iF r.2]:=by
 refine pO Tryz.func144 λr h _ _=>?_
 refine S4 2 J<|sR<|y0 J (A0 J Ty.e40 Ty.b1V)<|S2 1 J<|sR<|y0 J (A0 J Ty.p8 Ty.s3)<|S2 1 J ?_
 refine jq h (λq=>St.of [(6,.sl 910006),(7,.sl 910007)] [(910007,⟨List.map iF q.1,(List.map iF q.1).length,true,1,true⟩),(910006,⟨List.map k9.Pv q.2,(List.map k9.Pv q.2).length,true,3,true⟩)]) (λq20 h=>?_) λκ17 h=>?_
 ·obtain⟨j18,j19⟩:=q20
  refine S4 4 J<|a6 ?_
  cases h
  exact f2
 ·refine S4 1 J ?_
  refine b7<|lq h (λq=>St.of [(0,.L k9.Pv a0),(1,.L iF a1),(6,.sl 910006),(7,.sl 910007),(8,.I q.1)] [(910006,⟨List.map k9.Pv q.2.1,(List.map k9.Pv q.2.1).length,true,3,true⟩),(910007,⟨List.map iF q.2.2,(List.map iF q.2.2).length,true,1,true⟩)]) (Wk.trans (B2 (t:=6) (l:=920006) (z:=3) J J) (Wk.trans (B2 (t:=7) (l:=920007) (z:=1) J J) (WP (λl=>if l=910006 then 920006 else if l=910007 then 920007 else l)))) λq26 x25 h hx14=>?_
  obtain⟨s22,s23,Y4⟩:=q26
  refine b9<|S3 2 J<|nL J Ty.e40<|S2 1 J ?_
  refine cN h (λhc h=>?_) λhc h=>?_
  ·refine a8 ?_
   refine b9<|b7<|S3 2 J<|iL h J J Ty.e40 Ty.b1V λv27 _ h=>S2 3 J ?_
   refine jq h (λq=>St.of [(0,.L k9.Pv a0),(1,.L iF a1),(6,.sl 910006),(7,.sl 38),(8,.I s22),(9,.ptr 9 0 0)] [(9,vR (.agg [.I v27.Target,.bool q.1,.I v27.Call]) 3),(38,⟨List.map iF q.2,(List.map iF q.2).length,true,1,true⟩),(910006,⟨List.map k9.Pv s23,(List.map k9.Pv s23).length,true,3,true⟩)]) (λq33 h=>?_) λκ30 h=>?_
   ·obtain⟨j31,j32⟩:=q33
    refine S5 2 J<|y0 J (F1 (f:=k9.Pv) (l:=[(⟨v27.Target,j31,v27.Call⟩:k9)]) J Ty.e40 Ty.b1V Ty.c5x J J nl J J)<|l7 h λv34 hv19 h=>D7 J (B6 (f:=k9.Pv) hv19 J J J J J J (.inl ⟨_,J,J⟩) Ty.e40 Ty.b1V Ty.c77 Ty.c5x J (λ_=>J)) J J J<|S2 1 J<|S6 3 J ?_
    exact eL h (Wk.trans (g7 _ [42,38]) (WP (λl=>if l=910006 then 42 else if l=910007 then 38 else l)))
   ·refine S3 3 J ?_
    refine b8 J (λhg=>om (d:=.L iF a1) J)<|b8 J (λhg=>oF J Ty.b5C J)<|b8 J (λhg=>oS (ct hg) J J Ty.a3 J)<|l7 h λv35 hv20 h=>b8 J (λhg=>y5 J M7 (o8 (ct hg) (o8 (ct hg) J)) (u9 hv20 hg))<|b8 J (λhg=>j8 (ct hg) J J)<|y0 J (k7 J J J (λq=>H0 q))<|yN ?_
    refine cN h (λhc h=>?_) λhc h=>?_
    ·refine S4 2 J ?_
     refine S4 3 J ?_
     refine cN h (λhc h=>?_) λhc h=>?_
     ·refine S5 2 J ?_
      refine y0 J (F1 (f:=iF) (l:=[s22]) J Ty.p8 Ty.s3 Ty.z3 J J nl J J)<|l7 h λv36 hv21 h=>D7 J (B6 (f:=iF) hv21 J J J J J J (.inl ⟨_,J,J⟩) Ty.p8 Ty.s3 Ty.b3 Ty.z3 J (λ_=>J)) J J J<|S2 1 J ?_
      exact eJ h (Wk.trans (g7 _ [910006,38]) W)
     ·refine a8 ?_
      exact eJ h (Wk.trans (g7 _ [910006,910007]) (WP (λl=>if l=38 then 910007 else l)))
    ·refine a8 ?_
     exact eJ h (Wk.trans (g7 _ [910006,910007]) (WP (λl=>if l=38 then 910007 else l)))
  ·refine g8 ?_
   refine a7<|a7<|c4 ?_
   have h:=xL hx14 h
   exact eJ h (Wk.trans (g7 _ [910006,910007]) W)

theorem b7H{a0 a1 a2}:PO Tryz.prog 294 [.L c7.Pv a0,.I a1,c7.Pv a2] (a64 a0 a1 a2) λr=>.L c7.Pv r:=by
 refine pO Tryz.func294 λr h _ _=>?_
 unfold a64 at h
 refine S4 2 J<|sR<|y0 J (A0 J Ty.e41 Ty.a7l)<|S1 1 J<|l7 h λv1 hv1 h=>y1 J (a4C (f:=c7.Pv) hv1 J J (.inl ⟨_,J,J⟩) Ty.e41 Ty.a7l Ty.c75 Ty.c5w J (λ_=>J)) J<|S2 1 J<|S3 3 J<|l7 h λv2 hv2 h=>y0 J (a0w (f:=c7.Pv) hv2 J J J J Ty.e41 Ty.a7l J)<|a6e (f:=c7.Pv) (v:=a2) hv2 J J (.inl J) Ty.a7l<|yN<|S4 2 J<|a6 ?_
 cases h
 exact f1

theorem b7D{a0 a1}:PO Tryz.prog 227 [.L c7.Pv a0,.I a1] (a60 a0 a1) λr=>.tup [.L c7.Pv r.1,.I r.2.1,.I r.2.2]:=by
 refine pO Tryz.func227 λr h _ _=>?_
 refine S4 3 J<|S3 2 J<|cA h a61 J J λv1 _ h=>S2 1 J<|b9<|S4 2 J ?_
 refine cN h (λhc h=>?_) λhc h=>?_
 ·refine S4 4 J ?_
  refine a6 ?_
  cases h
  exact f3
 ·refine a8 ?_
  refine dr [] Ty.K8 (by kernel_rfl) (by kernel_rfl)<|S7 2 J<|d7 J (λ_ hN=>l6 (cs:=[.I 2,.I 0,.I 0]) J Ty.c9L Ty.c5w J J J) J<|l7 h λv2 hv2 h=>Q7 J (n0 J b7H J hv2) J<|S7 2 J<|l7 h λv3 hv3 h=>d0 J (p9 (f:=c7.Pv) (cs:=c7.Pc v3) hv3 J J Ty.e41 Ty.a7l J J) J<|S8 5 J<|a6 ?_
  cases h
  exact f3

theorem b3f{a0 a1}:PO Tryz.prog 146 [.L c7.Pv a0,.L iF a1] (a17 a0 a1) λr=>.tup [.L c7.Pv r.1,.L iF r.2]:=by
 refine pO Tryz.func146 λr h _ _=>?_
 refine S4 2 J<|sR<|y0 J (A0 J Ty.p8 Ty.s3)<|S2 1 J ?_
 refine jq h (λq=>St.of [(0,.L c7.Pv q.1),(6,.sl 910006)] [(910006,⟨List.map iF q.2,(List.map iF q.2).length,true,1,true⟩)]) (λq20 h=>?_) λκ17 h=>?_
 ·obtain⟨j18,j19⟩:=q20
  refine S4 4 J<|a6 ?_
  cases h
  exact f2
 ·refine S4 1 J ?_
  refine b7<|lq h (λq=>St.of [(0,.L c7.Pv q.1),(1,.L iF a1),(6,.sl 910006),(7,.I q.2.1)] [(910006,⟨List.map iF q.2.2,(List.map iF q.2.2).length,true,1,true⟩)]) (Wk.trans (B2 (t:=6) (l:=920006) (z:=1) J J) (WP (λl=>if l=910006 then 920006 else l))) λq26 x25 h hx14=>?_
  obtain⟨s22,s23,Y4⟩:=q26
  refine b9<|S3 2 J<|nL J Ty.p8<|S2 1 J ?_
  refine cN h (λhc h=>?_) λhc h=>?_
  ·refine a8 ?_
   refine jq h (λq=>St.of [(0,.L c7.Pv q.1),(1,.L iF a1),(6,.sl 34),(7,.I s23)] [(34,⟨List.map iF q.2,(List.map iF q.2).length,true,1,true⟩)]) (λq33 h=>?_) λκ30 h=>?_
   ·obtain⟨j31,j32⟩:=q33
    refine S6 3 J ?_
    exact eL h (Wk.trans (g7 _ [34]) (WP (λl=>if l=910006 then 34 else l)))
   ·refine b7 ?_
    refine S3 3 J<|iL h J J Ty.p8 Ty.s3 λv34 _ h=>S1 1 J<|cF h b7D J J λv35 _ h=>S2 7 J<|S4 2 J ?_
    refine cN h (λhc h=>?_) λhc h=>?_
    ·refine S4 2 J ?_
     refine S5 2 J<|y0 J (F1 (f:=iF) (l:=[v35.2.1]) J Ty.p8 Ty.s3 Ty.z3 J J nl J J)<|l7 h λv36 hv21 h=>D7 J (B6 (f:=iF) hv21 J J J J J J (.inl ⟨_,J,J⟩) Ty.p8 Ty.s3 Ty.b3 Ty.z3 J (λ_=>J)) J J J<|S2 1 J ?_
     exact eJ h (Wk.trans (g7 _ [34]) W)
    ·refine a8 ?_
     exact eJ h (Wk.trans (g7 _ [910006]) (WP (λl=>if l=34 then 910006 else l)))
  ·refine g8 ?_
   refine a7<|a7<|c4 ?_
   have h:=xL hx14 h
   exact eJ h (Wk.trans (g7 _ [910006]) W)

theorem a6Z{a0 a1 a2}:PO Tryz.prog 354 [z7.Pv a0,.I a1,r8.Pv a2] (a0Y a0 a1 a2) λr=>z7.Pv r:=by
 refine pO Tryz.func354 λr h _ _=>?_
 unfold a0Y at h
 refine S4 3 J<|sR<|y0 J (A0 J Ty.a6x Ty.a84)<|S1 2 J<|l7 h λv1 hv1 h=>y1 J (a4C (f:=r8.Pv) hv1 J J (.inl ⟨_,J,J⟩) Ty.a6x Ty.a84 Ty.c78 Ty.b9s J (λ_=>J)) J<|S2 1 J<|S3 3 J<|l7 h λv2 hv2 h=>y0 J (a0w (f:=r8.Pv) hv2 J J J J Ty.a6x Ty.a84 J)<|a6e (f:=r8.Pv) (v:=a2) hv2 J J (.inl J) Ty.a84<|yN<|S3 3 J<|y0 J (l6 (cs:=[.sl 11,.I a0.Last]) J Ty.c8E Ty.c86 J J J)<|S2 1 J<|a6 ?_
 cases h
 exact⟨J,[_],⟨oL J J J Ty.b8k Ty.b6h nl J,tr⟩,J,io⟩

theorem b7y{a0 a1}:PO Tryz.prog 295 [z7.Pv a0,.I a1] (b3c a0 a1) λr=>.tup [z7.Pv r.1,.I r.2]:=by
 refine pO Tryz.func295 λr h _ _=>?_
 refine S4 3 J<|S3 2 J<|cA h b3a J J λv1 _ h=>S2 5 J<|b9<|S4 2 J ?_
 refine cN h (λhc h=>?_) λhc h=>?_
 ·refine S4 4 J ?_
  refine a6 ?_
  cases h
  exact⟨J,[_,_],⟨oL J J J Ty.b8k Ty.b6h nl J,⟨J,tr⟩⟩,J,io⟩
 ·refine a8 ?_
  refine S3 2 J<|cA h V2 J J λv2 _ h=>S2 5 J<|dr [] Ty.K8 (by kernel_rfl) (by kernel_rfl)<|S7 5 J<|l7 h λv3 hv3 h=>d0 J (p9 (f:=r8.Pv) (cs:=r8.Pc v3) hv3 J J Ty.a6x Ty.a84 J J) J<|S7 5 J<|d0 J (p9 (f:=r8.Pv) (cs:=r8.Pc v3) hv3 J J Ty.a6x Ty.a84 J J) J<|S7 2 J<|d7 J (λ_ hN=>l6 (cs:=[.I 2,.I v3.Gen,.I v3.Val]) J Ty.c46 Ty.b9s J J J) J<|l7 h λv4 hv4 h=>Q7 J (n0 J a6Z J hv4) J<|F0 (x':=z7.Pv v4) (cl':=true) J J (.inr J) Ty.b6h<|S8 1 J<|a6 ?_
  cases h
  exact⟨J,[_,_],⟨oL J J J Ty.b8k Ty.b6h nl J,⟨J,tr⟩⟩,J,io⟩

theorem a8x{a0 a1}:PO Tryz.prog 296 [c9.Pv a0,z7.Pv a1] (a1x a0 a1) λr=>c9.Pv r:=by
 refine pO Tryz.func296 λr h _ _=>?_
 refine S4 3 J<|sR<|y0 J (A0 J Ty.e37 Ty.a1C)<|S2 1 J ?_
 refine jq h (λj10=>St.of [(2,.ptr 2 0 0),(4,.ptr 4 0 0),(5,.sl 910005)] [(910005,⟨List.map j6.Pv j10,(List.map j6.Pv j10).length,true,8,true⟩),(4,vR (.agg [.nl,.I 0,.I 0]) 3),(2,vR (c9.Pv a0) 3)]) (λj10 h=>?_) λκ9 h=>?_
 ·refine S3 5 J ?_
  refine y0 J (l6 (cs:=[.sl 910005,.I a0.Last,.I a0.Serial]) J Ty.p39 Ty.z39 J J J)<|S2 1 J<|a6 ?_
  cases h
  exact⟨J,[_],⟨oL J J J Ty.a39 Ty.s39 nl J,tr⟩,J,io⟩
 ·refine S4 1 J ?_
  refine b7<|lq h (λq=>St.of [(2,.ptr 2 0 0),(3,.ptr 3 0 0),(4,.ptr 4 0 0),(5,.sl 910005),(6,.I q.1)] [(4,vR (.agg [.nl,.I 0,.I 0]) 3),(3,vR (z7.Pv a1) 2),(2,vR (c9.Pv a0) 3),(910005,⟨List.map j6.Pv q.2,(List.map j6.Pv q.2).length,true,8,true⟩)]) (Wk.trans (B2 (t:=5) (l:=920005) (z:=8) J J) (WP (λl=>if l=910005 then 920005 else l))) λq15 x14 h hx10=>?_
  obtain⟨s12,s13⟩:=q15
  refine b9<|S3 3 J<|nL J Ty.e37<|S2 1 J ?_
  refine cN h (λhc h=>?_) λhc h=>?_
  ·refine a8 ?_
   refine b9<|b7<|a0p [] Ty.K8 (by kernel_rfl) (by kernel_rfl)<|S7 4 J<|l7 h λv16 hv11 h=>d0 J (p9 (f:=r8.Pv) (cs:=r8.Pc v16) hv11 J J Ty.a6x Ty.a84 J J) J<|S7 5 J<|d0 J (p9 (f:=r8.Pv) (cs:=r8.Pc v16) hv11 J J Ty.a6x Ty.a84 J J) J<|S7 5 J<|l7 h λv17 hv12 h=>d0 J (p9 (f:=j6.Pv) (cs:=j6.Pc v17) hv12 J J Ty.e37 Ty.a1C J J) J<|S7 2 J<|d7 J (λ_ hN=>l6 (cs:=[.I v16.State,.I v16.Gen,.I v17.Val.Serial,.I v17.Val.Strong,.I v17.Val.Weak,.I v17.Val.Prog,.bool v17.Val.Started,.L iF v17.Val.Fields]) J Ty.c8D Ty.b9r J J J) J<|d1n J (F1 (f:=j6.Pv) (l:=[(⟨v16.State,v16.Gen,v17.Val⟩:j6)]) J Ty.e37 Ty.a1C Ty.b9r J J nl J J) J<|l7 h λv18 hv13 h=>d3a J (B6 (f:=j6.Pv) hv13 J J J J J J (.inl ⟨_,J,J⟩) Ty.e37 Ty.a1C Ty.c6l Ty.b9r J (λ_=>J)) J J J J J<|S8 1 J<|S6 3 J ?_
   exact eL h (Wk.trans (g7 _ [36]) (WP (λl=>if l=910005 then 36 else l)))
  ·refine g8 ?_
   refine a7<|a7<|c4 ?_
   have h:=xL hx10 h
   exact eJ h (Wk.trans (g7 _ [910005]) W)

theorem b7A{a0 a1}:PO Tryz.prog 228 [c9.Pv a0,.I a1] (a9X a0 a1) λr=>c9.Pv r:=by
 refine pO Tryz.func228 λr h _ _=>?_
 refine S4 2 J<|S3 1 J<|cF h M6 J J λv1 _ h=>S1 1 J<|cF h b7y J J λv2 _ h=>S2 6 J<|S3 2 J<|cF h a8x J J λv3 _ h=>S2 1 J<|a6 ?_
 cases h
 exact⟨J,[_],⟨oL J J J Ty.a39 Ty.s39 nl J,tr⟩,J,io⟩

theorem b7x{a0 a1}:PO Tryz.prog 297 [z7.Pv a0,.I a1] (b3b a0 a1) λr=>.tup [z7.Pv r.1,.I r.2]:=by
 refine pO Tryz.func297 λr h _ _=>?_
 refine S4 3 J<|S3 2 J<|cA h V2 J J λv1 _ h=>S2 5 J<|b9<|S4 2 J ?_
 refine cN h (λhc h=>?_) λhc h=>?_
 ·refine S4 4 J ?_
  refine a6 ?_
  cases h
  exact⟨J,[_,_],⟨oL J J J Ty.b8k Ty.b6h nl J,⟨J,tr⟩⟩,J,io⟩
 ·refine a8 ?_
  refine S3 3 J<|iL h J J Ty.a6x Ty.a84 λv2 _ h=>S2 3 J<|b9<|S4 4 J ?_
  refine cN h (λhc h=>?_) λhc h=>?_
  ·refine S3 3 J ?_
   refine y0 J (l6 (cs:=[.I 3,.I v2.Gen,.I 0]) J Ty.c46 Ty.b9s J J J)<|cF h a6Z J J λv3 _ h=>S2 2 J<|a6 ?_
   cases h
   exact⟨J,[_,_],⟨oL J J J Ty.b8k Ty.b6h nl J,⟨J,tr⟩⟩,J,io⟩
  ·refine a8 ?_
   refine S3 4 J<|y0 J (l6 (cs:=[.I 0,.I (s7 (v2.Gen+1)),.I 0]) J Ty.c46 Ty.b9s J J J)<|cF h a6Z J J λv4 _ h=>S2 2 J<|a6 ?_
   cases h
   exact⟨J,[_,_],⟨oL J J J Ty.b8k Ty.b6h nl J,⟨J,tr⟩⟩,J,io⟩

theorem b7z{a0 a1}:PO Tryz.prog 229 [c9.Pv a0,.I a1] (a9W a0 a1) λr=>c9.Pv r:=by
 refine pO Tryz.func229 λr h _ _=>?_
 refine S4 2 J<|S3 1 J<|cF h M6 J J λv1 _ h=>S1 1 J<|cF h b7x J J λv2 _ h=>S2 6 J<|b9<|S4 2 J ?_
 refine cN h (λhc h=>?_) λhc h=>?_
 ·refine S4 2 J ?_
  refine a6 ?_
  cases h
  exact⟨J,[_],⟨oL J J J Ty.a39 Ty.s39 nl J,tr⟩,J,io⟩
 ·refine a8 ?_
  refine S3 2 J<|cF h a8x J J λv3 _ h=>S1 1 J<|cA h b1t J J λv4 _ h=>y0 J (l6 (cs:=[.I 0,.I 0,.I 0,.I 0,.bool false,.nl]) J Ty.p62 Ty.z62 J J J)<|cF h b1u J J λv5 _ h=>S2 1 J<|a6 ?_
  cases h
  exact⟨J,[_],⟨oL J J J Ty.a39 Ty.s39 nl J,tr⟩,J,io⟩

theorem b7P{a0 a1}:PO Tryz.prog 147 [c5.Pv a0,.I a1] (a4S a0 a1) λr=>c5.Pv r:=by
 refine pO Tryz.func147 λr h _ _=>?_
 refine S4 2 J<|S3 3 J<|cF h B9 J J λv1 _ h=>S2 6 J<|S3 1 J<|a6f (x':=.agg [.I v1.1.Serial,.I v1.1.Strong,.I v1.1.Weak,.I v1.1.Prog,.bool v1.1.Started,.nl]) (cl':=true) J J (.inl J) Ty.s27<|yN<|S3 1 J<|a6f (x':=.agg [.I v1.1.Serial,.I 0,.I v1.1.Weak,.I v1.1.Prog,.bool v1.1.Started,.nl]) (cl':=true) J J (.inl J) Ty.s3<|yN<|S3 4 J<|cF h a8Z J J λv2 _ h=>S2 5 J<|S3 3 J<|cF h b7A J J λv3 _ h=>S2 2 J<|b9<|S4 3 J ?_
 refine cN h (λhc h=>?_) λhc h=>?_
 ·refine S5 3 J ?_
  refine cF h b7z J J λv4 _ h=>S2 2 J<|S4 2 J<|a6 ?_
  cases h
  exact⟨J,[_],⟨oL J J J Ty.a46 Ty.s46 nl J,tr⟩,J,io⟩
 ·refine a8 ?_
  refine S4 2 J<|a6 ?_
  cases h
  exact⟨J,[_],⟨oL J J J Ty.a46 Ty.s46 nl J,tr⟩,J,io⟩

theorem b82{a0}:PO Tryz.prog 189 [.I a0] (b2e a0) λr=>.tup [.I r.1,.I r.2]:=by
 refine pO Tryz.func189 λr h _ _=>?_
 refine S4 2 J<|b9<|S3 1 J<|cA h a2H J J λv1 _ h=>yN ?_
 refine cN h (λhc h=>?_) λhc h=>?_
 ·refine S4 2 J ?_
  refine a6 ?_
  cases h
  exact f2
 ·refine a8 ?_
  refine b9<|S4 2 J ?_
  refine cN h (λhc h=>?_) λhc h=>?_
  ·refine S4 2 J ?_
   refine a6 ?_
   cases h
   exact f2
  ·refine a8 ?_
   refine S4 4 J<|a6 ?_
   cases h
   exact f2

theorem b3i{a0 a1}:PO Tryz.prog 113 [c5.Pv a0,.I a1] (V3 a0 a1) λr=>c5.Pv r:=by
 refine pO Tryz.func113 λr h _ _=>?_
 refine S4 2 J<|S3 3 J<|cF h B9 J J λv1 _ h=>S2 6 J<|S3 2 J<|cA h b82 J J λv2 _ h=>S2 5 J<|b9<|S4 2 J ?_
 refine cN h (λhc h=>?_) λhc h=>?_
 ·refine S4 2 J ?_
  refine a6 ?_
  cases h
  exact⟨J,[_],⟨oL J J J Ty.a46 Ty.s46 nl J,tr⟩,J,io⟩
 ·refine a8 ?_
  refine S3 3 J<|cF h a8y J J λv3 _ h=>S2 1 J<|a6 ?_
  cases h
  exact⟨J,[_],⟨oL J J J Ty.a46 Ty.s46 nl J,tr⟩,J,io⟩

end Go.Proofs.YtlkcpapbolbjnaaGreat.Ok
