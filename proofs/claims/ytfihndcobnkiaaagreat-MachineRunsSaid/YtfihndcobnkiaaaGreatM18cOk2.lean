/-
 The functions of the program do as the plain functions do.
-/
import Derived.Test.YtfihndcobnkiaaaGreatM18cOk1
set_option linter.unusedVariables false
set_option linter.unusedSimpArgs false
set_option linter.unusedSectionVars false
namespace Go.Proofs.YtfihndcobnkiaaaGreat.Ok
open Go Go.Pw Go.Sh Go.Proofs
set_option maxRecDepth 100000
set_option maxHeartbeats 4000000
theorem a6u{a0 a1}:PO Tryz.prog 23 [b9.Pv a0,.L code_Op.Pv a1] (a0A a0 a1) λr=>.tup [b9.Pv r.1,.L iF r.2]:=by
 refine pO Tryz.func23 λr h _ _=>?_
 refine S4 3 J<|S4 1 J ?_
 refine jq h (λq=>St.of [(2,.ptr 2 0 0),(4,.ptr 4 0 0),(6,.sl 910006)] [(910006,⟨List.map iF q.2,(List.map iF q.2).length,true,1,true⟩),(4,vR (.agg [.nl,.I 0,.I 0,.nl,.nl,.nl,.nl,.I 0]) 8),(2,vR (b9.Pv q.1) 8)]) (λq13 h=>?_) λκ10 h=>?_
 ·obtain⟨j11,j12⟩:=q13
  refine S4 4 J<|b7 ?_
  cases h
  exact⟨J,[_,_],⟨oL J J J Ty.X6 Ty.P8 nl J,⟨J,tr⟩⟩,J,io⟩
 ·refine S3 1 J ?_
  refine nL J Ty.e61<|S2 1 J<|g8<|lq h (λq=>St.of [(2,.ptr 2 0 0),(4,.ptr 4 0 0),(6,.sl 910006),(10,.L code_Op.Pv a1),(11,.I (a1.length:Int)),(12,.I q.1)] [(4,vR (.agg [.nl,.I 0,.I 0,.nl,.nl,.nl,.nl,.I 0]) 8),(2,vR (b9.Pv q.2.1) 8),(910006,⟨List.map iF q.2.2,(List.map iF q.2.2).length,true,1,true⟩)]) (Wk.trans (F2 (t:=6) (l:=920006) (z:=1) J J) (WP (λl=>if l=910006 then 920006 else l))) λq19 x18 h hx10=>?_
  obtain⟨s15,s16,s17⟩:=q19
  refine S4 1 J<|c7 ?_
  refine cN h (λhc h=>?_) λhc h=>?_
  ·refine c4 ?_
   refine c7<|g8<|sR<|iL h J J Ty.e61 Ty.s36 λv20 _ h=>S2 3 J<|S4 1 J<|S3 2 J<|cF h a1Q J J λv21 _ h=>S2 6 J<|S5 2 J<|y0 J (M2 (f:=iF) (l:=[v21.2.1]) J Ty.A5 Ty.s3 Ty.z3 J J nl J J)<|r8 h λv22 hv13 h=>L0 J (H5 (f:=iF) hv13 J J J J J J (.inl ⟨_,J,J⟩) Ty.A5 Ty.s3 Ty.b3 Ty.z3 J (λ_=>J)) J J J<|S2 1 J<|S6 2 J ?_
   exact eL h (Wk.trans (n0 _ [26]) (WP (λl=>if l=910006 then 26 else l)))
  ·refine n7 ?_
   refine c8<|c8<|j5 ?_
   have h:=xL hx10 h
   exact eJ h (Wk.trans (n0 _ [910006]) W)

theorem b3t:PO Tryz.prog 240 [] (a3V) λr=>.lst true (List.map A8.Pv r):=by
 refine pO Tryz.func240 λr h _ _=>?_
 unfold a3V at h
 refine S4 1 J<|sR<|y0 J (m9 (cs:=[.fn (.func 292) []]) J Ty.c4z Ty.c3v J J J)<|L4 (a2x 1 (d':=.agg [fvE (some 292)]) J)<|y0 J (m9 (cs:=[.fn (.func 293) []]) J Ty.c4z Ty.c3v J J J)<|L4 (a2x 2 (d':=.agg [fvE (some 293)]) J)<|y0 J (m9 (cs:=[.fn (.func 294) []]) J Ty.c4z Ty.c3v J J J)<|L4 (a2x 3 (d':=.agg [fvE (some 294)]) J)<|y0 J (m9 (cs:=[.fn (.func 295) []]) J Ty.c4z Ty.c3v J J J)<|L4 (a2x 4 (d':=.agg [fvE (some 295)]) J)<|y0 J (M2 (f:=A8.Pv) (l:=[(⟨(some 292)⟩:A8),(⟨(some 293)⟩:A8),(⟨(some 294)⟩:A8),(⟨(some 295)⟩:A8)]) J Ty.c6a Ty.c8T Ty.c3v J J nl J J)<|S2 1 J<|b7 ?_
 cases h
 exact f1

theorem a3o{a0 a1}:PO Tryz.prog 292 [a8.Pv a0,b8.Pv a1] (S9 a0 a1) λr=>.bool r:=by
 refine pO Tryz.func292 λr h _ _=>?_
 unfold S9 at h
 refine S4 3 J<|S3 4 J<|g7 J (λhg=>oF J Ty.b2n J)<|g7 J (λhg=>oS (ct hg) J J Ty.a3 J)<|g7 J (λhg=>n9 (ct hg) J J)<|y0 J (p5 J J J (λq=>Q1 q))<|S2 1 J<|b7 ?_
 cases h
 exact f1

theorem a0H{a0 a1}:PO Tryz.prog 293 [a8.Pv a0,b8.Pv a1] (J0 a0 a1) λr=>.bool r:=by
 refine pO Tryz.func293 λr h _ _=>?_
 unfold J0 at h
 refine S4 3 J<|S3 4 J<|g7 J (λhg=>oF J Ty.c6f J)<|g7 J (λhg=>oS (ct hg) J J Ty.a3 J)<|g7 J (λhg=>oF J Ty.c1B J)<|g7 J (λhg=>oF (ct hg) Ty.c1A J)<|g7 J (λhg=>oS (ct hg) J J Ty.a3 J)<|g7 J (λhg=>n9 (ct hg) (ct hg) J)<|y0 J (p5 J J J (λq=>Q1 q))<|S2 1 J<|b7 ?_
 cases h
 exact f1

theorem X4{a0}:PO Tryz.prog 296 [b8.Pv a0] (G4 a0) λr=>.bool r:=by
 refine pO Tryz.func296 λr h _ _=>?_
 unfold G4 at h
 refine S4 2 J<|S3 4 J<|g7 J (λhg=>oF J Ty.b2n J)<|g7 J (λhg=>oS (ct hg) J J Ty.a3 J)<|g7 J (λhg=>n9 (ct hg) J J)<|y0 J (u9 J J J (λq=>R8 q))<|S2 1 J<|b7 ?_
 cases h
 exact f1

theorem a2v{a0 a1}:PO Tryz.prog 294 [a8.Pv a0,b8.Pv a1] (P4 a0 a1) λr=>.bool r:=by
 refine pO Tryz.func294 λr h _ _=>?_
 refine S4 3 J<|S4 4 J<|S3 1 J<|cA h X4 J J λv1 _ h=>S1 2 J<|g7 J (λhg=>oF J Ty.c1s J)<|g7 J (λhg=>oS (ct hg) J J Ty.a3 J)<|g7 J (λhg=>n9 (ct hg) J J)<|g7 J (λhg=>om (d:=.bool (decide (a1.Val.Serial≥1))) (ct hg))<|g7 (D6 J J J) (λhg=>oF J Ty.c1s J)<|g7 (D6 J J J) (λhg=>oS (ct hg) J J Ty.a3 J)<|g7 (D6 J J J) (λhg=>oF J Ty.c5f J)<|g7 (D6 J J J) (λhg=>oS (ct hg) J J Ty.a3 J)<|g7 (D6 J J J) (λhg=>n9 (ct hg) (ct hg) J)<|g7 J (λhg=>p5 (ct hg) J J (λq=>b1s hg (Q1 q)))<|g7 J (λhg=>om (d:=.bool ((decide (a1.Val.Serial≥1))&&(decide (a1.Val.Serial≤a0.Serial)))) (ct hg))<|g7 (D6 J J J) (λhg=>oF J Ty.c1t J)<|g7 (D6 J J J) (λhg=>oS (ct hg) J J Ty.a3 J)<|g7 (D6 J J J) (λhg=>n9 (ct hg) J J)<|g7 J (λhg=>p5 (ct hg) J J (λq=>b1s hg (Q1 q)))<|g7 J (λhg=>om (d:=.bool (((decide (a1.Val.Serial≥1))&&(decide (a1.Val.Serial≤a0.Serial)))&&(decide (a1.Val.Strong≥0)))) (ct hg))<|g7 (D6 J J J) (λhg=>oF J Ty.b7V J)<|g7 (D6 J J J) (λhg=>oS (ct hg) J J Ty.a3 J)<|g7 (D6 J J J) (λhg=>n9 (ct hg) J J)<|g7 J (λhg=>p5 (ct hg) J J (λq=>b1s hg (Q1 q)))<|g7 J (λhg=>om (d:=.bool ((((decide (a1.Val.Serial≥1))&&(decide (a1.Val.Serial≤a0.Serial)))&&(decide (a1.Val.Strong≥0)))&&(decide (a1.Val.Weak≥0)))) (ct hg))<|g7 (D6 J J J) (λhg=>oF J Ty.c6d J)<|g7 (D6 J J J) (λhg=>oS (ct hg) J J Ty.a3 J)<|r8 h λv2 hv2 h=>g7 (D6 J J J) (λhg=>C6 J a2d (B8 (ct hg) J) (F3 hv2 hg))<|g7 J (λhg=>p5 (ct hg) J J (λq=>b1s hg (Q1 q)))<|g7 J (λhg=>om (d:=.bool (((((decide (a1.Val.Serial≥1))&&(decide (a1.Val.Serial≤a0.Serial)))&&(decide (a1.Val.Strong≥0)))&&(decide (a1.Val.Weak≥0)))&&v2)) (ct hg))<|g7 (D6 J J J) (λhg=>oF J Ty.b7X J)<|g7 (D6 J J J) (λhg=>oS (ct hg) J J Ty.a27 J)<|g7 (D6 J J J) (λhg=>L5 (f:=iF) (ct hg) Ty.A5)<|g7 (D6 J J J) (λhg=>n9 (ct hg) J J)<|g7 J (λhg=>p5 (ct hg) J J (λq=>b1s hg (Q1 q)))<|y0 J (u9 J J J (λq=>R8 q))<|S2 1 J<|b7 ?_
 cases h
 exact f1

theorem a1b{a0 a1}:PO Tryz.prog 295 [a8.Pv a0,b8.Pv a1] (K8 a0 a1) λr=>.bool r:=by
 refine pO Tryz.func295 λr h _ _=>?_
 refine S4 3 J<|S4 4 J<|S3 8 J<|y0 J (m9 (cs:=[.I a1.Val.Serial,.I a1.Val.Strong,.I a1.Val.Weak,.I a1.Val.Prog]) J Ty.c8D Ty.c87 J J J)<|S2 2 J<|S3 1 J<|cA h X4 J J λv1 _ h=>S1 1 J<|g7 J (λhg=>oL J J J Ty.c9x Ty.d0t nl J)<|g7 J (λhg=>m9 (cs:=[.I 0,.I 0,.I 0,.I 0]) J Ty.c8D Ty.c87 J J J)<|g7 J (λhg=>c2o (xs:=[.I a1.Val.Serial,.I a1.Val.Strong,.I a1.Val.Weak,.I a1.Val.Prog]) (ys:=[.I 0,.I 0,.I 0,.I 0]) Ty.d0i (ct hg) (ct hg) J)<|g7 J (λhg=>om (d:=.bool ((a1.Val.Serial==0)&&((a1.Val.Strong==0)&&((a1.Val.Weak==0)&&((a1.Val.Prog==0)&&true))))) (ct hg))<|g7 (D6 J J J) (λhg=>oF J Ty.b7W J)<|g7 (D6 J J J) (λhg=>oS (ct hg) J J Ty.a4 J)<|g7 (D6 J J J) (λhg=>a01 (ct hg) J)<|g7 J (λhg=>p5 (ct hg) J J (λq=>b1s hg (Q1 q)))<|g7 J (λhg=>om (d:=.bool (((a1.Val.Serial==0)&&((a1.Val.Strong==0)&&((a1.Val.Weak==0)&&((a1.Val.Prog==0)&&true))))&&(!a1.Val.Started))) (ct hg))<|g7 (D6 J J J) (λhg=>oF J Ty.b7X J)<|g7 (D6 J J J) (λhg=>oS (ct hg) J J Ty.a27 J)<|g7 (D6 J J J) (λhg=>L5 (f:=iF) (ct hg) Ty.A5)<|g7 (D6 J J J) (λhg=>n9 (ct hg) J J)<|g7 J (λhg=>p5 (ct hg) J J (λq=>b1s hg (Q1 q)))<|y0 J (u9 J J J (λq=>R8 q))<|S2 1 J<|b7 ?_
 cases h
 exact f1

theorem b73{f:Fv}{a0:a8}{a1:b8}{r:Bool}(h:b1I f a0 a1=some r):∃n,f=some n∧A2 Tryz.prog n∧O4 Tryz.prog n [a8.Pv a0,b8.Pv a1] (.bool r):=by
 unfold b1I at h
 by_cases e292:f=some 292
 ·rw[if_pos e292] at h;exact⟨292,e292,(@a3o a0 a1).1,(@a3o a0 a1).2 _ h⟩
 rw[if_neg e292] at h
 by_cases e293:f=some 293
 ·rw[if_pos e293] at h;exact⟨293,e293,(@a0H a0 a1).1,(@a0H a0 a1).2 _ h⟩
 rw[if_neg e293] at h
 by_cases e294:f=some 294
 ·rw[if_pos e294] at h;exact⟨294,e294,(@a2v a0 a1).1,(@a2v a0 a1).2 _ h⟩
 rw[if_neg e294] at h
 by_cases e295:f=some 295
 ·rw[if_pos e295] at h;exact⟨295,e295,(@a1b a0 a1).1,(@a1b a0 a1).2 _ h⟩
 rw[if_neg e295] at h
 cases h

theorem a5E{a0}:PO Tryz.prog 241 [a8.Pv a0] (O2 a0) λr=>.bool r:=by
 refine pO Tryz.func241 λr h _ _=>?_
 refine S4 2 J<|sR<|b4H (KT:=Int) (VT:=Bool) (EK:=iF) (E:=PV.bool) 5000006 J J<|S2 1 J ?_
 refine jq h (λ_=>St.of [] []) (λq13 h=>?_) λκ12 h=>?_
 ·refine S4 1 J ?_
  refine b7 ?_
  cases h
  exact f1
 ·refine S3 3 J ?_
  refine nL J Ty.e22<|S2 1 J<|g8<|lq h (λq=>St.of [(3,.mp 5000006),(9,.L b8.Pv a0.S.a7),(10,.I (a0.S.a7.length:Int)),(11,.I q.1)] [(5000006,⟨[.mapc (List.map (ent iF PV.bool) q.2)],0,false,0,false⟩)]) W λq18 x17 h hx12=>?_
  obtain⟨s15,s16⟩:=q18
  refine S4 1 J<|c7 ?_
  refine cN h (λhc h=>?_) λhc h=>?_
  ·refine c4 ?_
   refine jq h (λj22=>St.of [(3,.mp 5000006),(9,.L b8.Pv a0.S.a7),(10,.I (a0.S.a7.length:Int)),(11,.I s15)] [(5000006,⟨[.mapc (List.map (ent iF PV.bool) j22)],0,false,0,false⟩)]) (λj22 h=>?_) λκ21 h=>?_
   ·refine S6 2 J ?_
    exact eL h W
   ·refine g8 ?_
    refine sR<|iL h J J Ty.e22 Ty.a4K λv23 _ h=>S2 3 J<|c7<|S3 1 J<|cA h X4 J J λv24 _ h=>S2 1 J ?_
    refine cN h (λhc h=>?_) λhc h=>?_
    ·refine n7 ?_
     refine c8<|j5 ?_
     exact eJ h W
    ·refine c4 ?_
     refine c7<|S3 4 J<|c3s (es:=s16) (k:=v23.Val.Serial) (E:=PV.bool) (EK:=iF) (d:=.bool ((z7 s16 v23.Val.Serial).getD (false:Bool))) J J J J Ty.b9v (A3 Ty.u3) Ty.z4 J (lk1 _ _ _)<|yN ?_
     refine cN h (λhc h=>?_) λhc h=>?_
     ·refine S4 1 J ?_
      refine b7 ?_
      have h:=xL hx12 h
      cases h
      exact f1
     ·refine c4 ?_
      refine S5 4 J<|Z7 (es:=s16) (k:=v23.Val.Serial) (v:=true) (E:=PV.bool) (EK:=iF) (.inl J) J J J J J J Ty.b9v (A3 Ty.u3)<|yN ?_
      exact eJ h W
  ·refine n7 ?_
   refine c8<|c8<|j5 ?_
   have h:=xL hx12 h
   exact eJ h W

theorem b3s{a0}:PO Tryz.prog 153 [a8.Pv a0] (a2c a0) λr=>.bool r:=by
 refine pO Tryz.func153 λr h _ _=>?_
 refine S4 2 J<|c7<|S3 3 J<|nL J Ty.e22<|S1 2 J<|g7 J (λhg=>oF J Ty.c1B J)<|g7 J (λhg=>oF (ct hg) Ty.c1A J)<|g7 J (λhg=>oS (ct hg) J J Ty.a3 J)<|g7 J (λhg=>n9 (ct hg) J J)<|y0 J (u9 J J J (λq=>R8 q))<|S1 1 J<|g7 J (λhg=>oF J Ty.c1B J)<|g7 J (λhg=>oF (ct hg) Ty.c1A J)<|g7 J (λhg=>oS (ct hg) J J Ty.a3 J)<|g7 J (λhg=>n9 (ct hg) J J)<|y0 J (u9 J J J (λq=>R8 q))<|S1 1 J<|g7 J (λhg=>oF J Ty.c5f J)<|g7 J (λhg=>oS (ct hg) J J Ty.a3 J)<|g7 J (λhg=>n9 (ct hg) J J)<|y0 J (u9 J J J (λq=>R8 q))<|yN ?_
 refine cN h (λhc h=>?_) λhc h=>?_
 ·refine S4 1 J ?_
  refine b7 ?_
  cases h
  exact f1
 ·refine c4 ?_
  refine jq h (λ_=>St.of [(1,.ptr 1 0 0)] [(1,vR (a8.Pv a0) 3)]) (λq23 h=>?_) λκ22 h=>?_
  ·refine S3 1 J ?_
   refine cA h a5E J J λv24 _ h=>S2 1 J<|b7 ?_
   cases h
   exact f1
  ·refine S3 3 J ?_
   refine nL J Ty.e22<|S2 1 J<|g8<|lq h (λs26=>St.of [(1,.ptr 1 0 0),(31,.L b8.Pv a0.S.a7),(32,.I (a0.S.a7.length:Int)),(33,.I s26)] [(1,vR (a8.Pv a0) 3)]) W λs26 x27 h hx29=>S4 1 J<|c7 ?_
   refine cN h (λhc h=>?_) λhc h=>?_
   ·refine c4 ?_
    refine jq h (λ_=>St.of [(1,.ptr 1 0 0),(31,.L b8.Pv a0.S.a7),(32,.I (a0.S.a7.length:Int)),(33,.I s26)] [(1,vR (a8.Pv a0) 3)]) (λq37 h=>?_) λκ36 h=>?_
    ·refine S6 2 J ?_
     exact eL h W
    ·refine g8 ?_
     refine sR<|iL h J J Ty.e22 Ty.a4K λv38 _ h=>S2 3 J<|sR<|cF h b3t J J λv39 _ h=>nL J Ty.c6a<|S2 1 J<|g8<|lq h (λs41=>St.of [(1,.ptr 1 0 0),(4,.ptr 4 0 0),(31,.L b8.Pv a0.S.a7),(32,.I (a0.S.a7.length:Int)),(33,.I s26),(37,.lst true (List.map A8.Pv v39)),(38,.I (v39.length:Int)),(39,.I s41)] [(4,vR (b8.Pv v38) 8),(1,vR (a8.Pv a0) 3)]) W λs41 x42 h hx45=>S4 1 J<|c7 ?_
     refine cN h (λhc h=>?_) λhc h=>?_
     ·refine c4 ?_
      refine c7<|g8<|sR<|iL h J J Ty.c6a Ty.c8T λv43 _ h=>S2 3 J<|S3 4 J ?_
      obtain⟨v44,hv47,h⟩:=a6f h
      obtain⟨n45,he48,hk49,hp50⟩:=b73 hv47
      refine L4 (b9Y 44 J he48)<|y0 J (b2I J hk49 J hp50)<|S2 1 J ?_
      refine cN h (λhc h=>?_) λhc h=>?_
      ·refine S4 1 J ?_
       refine b7 ?_
       have h:=xL hx45 h
       have h:=xL hx29 h
       cases h
       exact f1
      ·refine c4 ?_
       refine S6 2 J ?_
       exact eL h W
     ·refine n7 ?_
      refine c8<|c8<|j5 ?_
      have h:=xL hx45 h
      exact eJ h W
   ·refine n7 ?_
    refine c8<|c8<|j5 ?_
    have h:=xL hx29 h
    exact eJ h W

theorem b3S{a0}:PO Tryz.prog 154 [.L c5.Pv a0] (a5b a0) λr=>.bool r:=by
 refine pO Tryz.func154 λr h _ _=>?_
 refine S4 1 J<|c7<|S3 1 J<|nL J Ty.e29<|S1 2 J<|g7 J (λhg=>om (d:=.L c5.Pv a0) J)<|g7 J (λhg=>L5 (f:=c5.Pv) (ct hg) Ty.e29)<|g7 J (λhg=>n9 (ct hg) J J)<|y0 J (u9 J J J (λq=>R8 q))<|yN ?_
 refine cN h (λhc h=>?_) λhc h=>?_
 ·refine S4 1 J ?_
  refine b7 ?_
  cases h
  exact f1
 ·refine c4 ?_
  refine jq h (λ_=>St.of [] []) (λq7 h=>?_) λκ6 h=>?_
  ·refine S4 1 J ?_
   refine b7 ?_
   cases h
   exact f1
  ·refine S3 1 J ?_
   refine nL J Ty.e29<|S2 1 J<|g8<|lq h (λs9=>St.of [(0,.L c5.Pv a0),(14,.L c5.Pv a0),(15,.I (a0.length:Int)),(16,.I s9)] []) W λs9 x10 h hx9=>S4 1 J<|c7 ?_
   refine cN h (λhc h=>?_) λhc h=>?_
   ·refine c4 ?_
    refine c7<|g8<|S3 1 J<|iL h J J Ty.e29 Ty.a8w λv11 _ h=>S2 4 J<|S3 1 J<|y0 J (m9 (cs:=[.I 0,.I 0,.I 0]) J Ty.c4y Ty.c0Z J J J)<|y0 J (c2o (xs:=c5.Pc v11) (ys:=[.I 0,.I 0,.I 0]) Ty.c8H J J J)<|S1 1 J<|g7 J (λhg=>oL J J J Ty.c9v Ty.a8w nl J)<|g7 J (λhg=>m9 (cs:=[.I 2,.I 0,.I 0]) J Ty.c4y Ty.c0Z J J J)<|g7 J (λhg=>c2o (xs:=c5.Pc v11) (ys:=[.I 2,.I 0,.I 0]) Ty.c8H (ct hg) (ct hg) J)<|y0 J (u9 J J J (λq=>R8 q))<|S2 1 J<|S3 3 J<|g7 J (λhg=>oF J Ty.c6k J)<|g7 J (λhg=>oS (ct hg) J J Ty.a3 J)<|g7 J (λhg=>n9 (ct hg) J J)<|g7 J (λhg=>om (d:=.bool (v11.State != 1)) (ct hg))<|g7 (D6 J J J) (λhg=>om (d:=.L c5.Pv a0) J)<|g7 (D6 J J J) (λhg=>oF J Ty.c1v J)<|g7 (D6 J J J) (λhg=>oS (ct hg) J J Ty.a3 J)<|r8 h λv12 hv11 h=>g7 (D6 J J J) (λhg=>C6 J a2A (B8 (ct hg) (B8 (ct hg) J)) (F3 hv11 hg))<|g7 (D6 J J J) (λhg=>mI J)<|g7 (D6 J J J) (λhg=>n9 (ct hg) (ct hg) J)<|g7 J (λhg=>u9 (ct hg) J J (λq=>b1s hg (R8 q)))<|y0 J (p5 J J J (λq=>Q1 q))<|yN ?_
    refine cN h (λhc h=>?_) λhc h=>?_
    ·refine S4 1 J ?_
     refine b7 ?_
     have h:=xL hx9 h
     cases h
     exact f1
    ·refine c4 ?_
     refine S6 2 J ?_
     exact eL h W
   ·refine n7 ?_
    refine c8<|c8<|j5 ?_
    have h:=xL hx9 h
    exact eJ h W

theorem a85{a0}:PO Tryz.prog 87 [b9.Pv a0] (a0U a0) λr=>.bool r:=by
 refine pO Tryz.func87 λr h _ _=>?_
 refine S4 2 J<|sR<|cF h b1k J J λv1 _ h=>S2 2 J<|S3 2 J<|cA h b3s J J λv2 _ h=>S1 1 J<|g7 J (λhg=>oF J Ty.c5g J)<|g7 J (λhg=>oS (ct hg) J J Ty.a29 J)<|r8 h λv3 hv3 h=>g7 J (λhg=>C6 J b3S (B8 (ct hg) J) (F3 hv3 hg))<|y0 J (p5 J J J (λq=>Q1 q))<|S1 1 J<|g7 J (λhg=>oF J Ty.b6u J)<|g7 J (λhg=>oS (ct hg) J J Ty.a27 J)<|g7 J (λhg=>L5 (f:=iF) (ct hg) Ty.A5)<|g7 J (λhg=>n9 (ct hg) J J)<|y0 J (p5 J J J (λq=>Q1 q))<|S1 1 J<|g7 J (λhg=>oF J Ty.b6v J)<|g7 J (λhg=>oS (ct hg) J J Ty.a28 J)<|g7 J (λhg=>L5 (f:=c9.Pv) (ct hg) Ty.e28)<|g7 J (λhg=>n9 (ct hg) J J)<|y0 J (p5 J J J (λq=>Q1 q))<|S1 1 J<|g7 J (λhg=>oF J Ty.b6w J)<|g7 J (λhg=>oF (ct hg) Ty.c75 J)<|g7 J (λhg=>oS (ct hg) J J Ty.a3 J)<|g7 J (λhg=>mI J)<|g7 J (λhg=>n9 (ct hg) (ct hg) J)<|y0 J (p5 J J J (λq=>Q1 q))<|S1 1 J<|g7 J (λhg=>oF J Ty.b6w J)<|g7 J (λhg=>oF (ct hg) Ty.c1C J)<|g7 J (λhg=>oS (ct hg) J J Ty.a30 J)<|g7 J (λhg=>L5 (f:=j2.Pv) (ct hg) Ty.e30)<|g7 J (λhg=>mI J)<|g7 J (λhg=>n9 (ct hg) (ct hg) J)<|y0 J (p5 J J J (λq=>Q1 q))<|S2 1 J ?_
 refine b7 ?_
 cases h
 exact f1

theorem a7F{a0 a1}:PO Tryz.prog 157 [.I a0,.rptr (b9.Pc a1)] (a1p a0 a1) λr=>.bool r:=by
 refine pO Tryz.func157 λr h _ _=>?_
 refine S4 1 J<|S3 2 J<|cA h L6 J J λv1 _ h=>S2 1 J<|b7 ?_
 cases h
 exact f1

theorem a0J{a0 a1}:PO Tryz.prog 156 [.L iF a0,.fn (.func 157) [.rptr (b9.Pc a1)]] (D8 a0 a1) λr=>.bool r:=by
 refine pO Tryz.func156 λr h _ _=>?_
 refine S4 1 J ?_
 refine jq h (λ_=>St.of [] []) (λq7 h=>?_) λκ6 h=>?_
 ·refine S4 1 J ?_
  refine b7 ?_
  cases h
  exact f1
 ·refine S3 1 J ?_
  refine nL J Ty.A5<|S2 1 J<|g8<|lq h (λs9=>St.of [(1,.fn (.func 157) [.rptr (b9.Pc a1)]),(7,.L iF a0),(8,.I (a0.length:Int)),(9,.I s9)] []) W λs9 x10 h hx9=>S4 1 J<|c7 ?_
  refine cN h (λhc h=>?_) λhc h=>?_
  ·refine c4 ?_
   refine c7<|g8<|sR<|iL h J J Ty.A5 Ty.s3 λv11 _ h=>S2 2 J<|S3 2 J<|cA h a7F J J λv12 _ h=>S2 1 J ?_
   refine cN h (λhc h=>?_) λhc h=>?_
   ·refine S4 1 J ?_
    refine b7 ?_
    have h:=xL hx9 h
    cases h
    exact f1
   ·refine c4 ?_
    refine S6 2 J ?_
    exact eL h W
  ·refine n7 ?_
   refine c8<|c8<|j5 ?_
   have h:=xL hx9 h
   exact eJ h W

theorem a3H{a0}:PO Tryz.prog 88 [b9.Pv a0] (V8 a0) λr=>.bool r:=by
 refine pO Tryz.func88 λr h _ _=>?_
 unfold V8 at h
 refine S4 2 J<|S3 2 J<|r8 h λv1 hv1 h=>ycN J (b4u J a0h J hv1) J J<|S2 1 J ?_
 refine jq h (λj12=>St.of [(1,.ptr 1 0 0),(3,.sl 10)] [(10,⟨List.map iF j12,(List.map iF j12).length,true,1,true⟩),(1,vR (b9.Pv a0) 8)]) (λj12 h=>?_) λκ11 h=>?_
 ·refine S3 2 J ?_
  refine cA h a0J J J λv13 _ h=>S2 1 J<|b7 ?_
  cases h
  exact f1
 ·refine S3 2 J ?_
  refine cF h a0i J J λv14 _ h=>nL J Ty.A5<|S2 1 J<|g8<|lq h (λq=>St.of [(1,.ptr 1 0 0),(3,.sl 10),(13,.L iF v14),(14,.I (v14.length:Int)),(15,.I q.1)] [(10,⟨List.map iF q.2,(List.map iF q.2).length,true,1,true⟩),(1,vR (b9.Pv a0) 8)]) (Wk.trans (n0 _ [10]) W) λq19 x18 h hx14=>?_
  obtain⟨s16,s17⟩:=q19
  refine S4 1 J<|c7 ?_
  refine cN h (λhc h=>?_) λhc h=>?_
  ·refine c4 ?_
   refine c7<|g8<|sR<|iL h J J Ty.A5 Ty.s3 λv20 _ h=>S2 2 J<|S3 3 J<|cF h A7 J J λv21 _ h=>S2 6 J<|S5 3 J<|r8 h λv22 hv17 h=>L0 J (H5 (f:=iF) hv17 J J J J J J (.inl ⟨_,J,J⟩) Ty.A5 Ty.s3 Ty.b3 Ty.z3 J (λ_=>J)) J J J<|S2 1 J<|S6 2 J ?_
   exact eL h (Wk.trans (n0 _ [29]) (WP (λl=>if l=10 then 29 else l)))
  ·refine n7 ?_
   refine c8<|c8<|j5 ?_
   have h:=xL hx14 h
   exact eJ h (Wk.trans (n0 _ [10]) W)

theorem a6j{a0}:PO Tryz.prog 244 [.L c5.Pv a0] (a0w a0) λr=>.fn (.func 298) [.rptr [.L c5.Pv r]]:=by
 refine pO Tryz.func244 λr h _ _=>?_
 unfold a0w at h
 refine S4 2 J<|S4 2 J<|b7 ?_
 cases h
 exact f1

theorem a8Z{a0}:PO Tryz.prog 299 [.L c5.Pv a0] (a4p a0) λr=>.L iF r:=by
 refine pO Tryz.func299 λr h _ _=>?_
 refine S4 1 J<|S4 1 J ?_
 refine jq h (λj13=>St.of [(3,.sl 910003)] [(910003,⟨List.map iF j13,(List.map iF j13).length,true,1,true⟩)]) (λj13 h=>?_) λκ12 h=>?_
 ·refine S4 2 J ?_
  refine b7 ?_
  cases h
  exact f1
 ·refine S3 1 J ?_
  refine nL J Ty.e29<|S2 1 J<|g8<|lq h (λq=>St.of [(3,.sl 910003),(6,.L c5.Pv a0),(7,.I (a0.length:Int)),(8,.I q.1)] [(910003,⟨List.map iF q.2,(List.map iF q.2).length,true,1,true⟩)]) (Wk.trans (F2 (t:=3) (l:=920003) (z:=1) J J) (WP (λl=>if l=910003 then 920003 else l))) λq18 x17 h hx12=>?_
  obtain⟨s15,s16⟩:=q18
  refine S4 1 J<|c7 ?_
  refine cN h (λhc h=>?_) λhc h=>?_
  ·refine c4 ?_
   refine jq h (λj22=>St.of [(3,.sl 19),(6,.L c5.Pv a0),(7,.I (a0.length:Int)),(8,.I s15)] [(19,⟨List.map iF j22,(List.map iF j22).length,true,1,true⟩)]) (λj22 h=>?_) λκ21 h=>?_
   ·refine S6 2 J ?_
    exact eL h (Wk.trans (n0 _ [19]) (WP (λl=>if l=910003 then 19 else l)))
   ·refine g8 ?_
    refine sR<|iL h J J Ty.e29 Ty.a8w λv23 _ h=>S2 3 J<|S4 3 J ?_
    refine cN h (λhc h=>?_) λhc h=>?_
    ·refine S5 3 J ?_
     refine y0 J (M2 (f:=iF) (l:=[v23.Key]) J Ty.A5 Ty.s3 Ty.z3 J J nl J J)<|r8 h λv24 hv17 h=>L0 J (H5 (f:=iF) hv17 J J J J J J (.inl ⟨_,J,J⟩) Ty.A5 Ty.s3 Ty.b3 Ty.z3 J (λ_=>J)) J J J<|S2 1 J ?_
     exact eJ h (Wk.trans (n0 _ [19]) W)
    ·refine c4 ?_
     exact eJ h (Wk.trans (n0 _ [910003]) (WP (λl=>if l=19 then 910003 else l)))
  ·refine n7 ?_
   refine c8<|c8<|j5 ?_
   have h:=xL hx12 h
   exact eJ h (Wk.trans (n0 _ [910003]) W)

theorem b0e{a0}:PO Tryz.prog 245 [l7.Pv a0] (a1I a0) λr=>.bool r:=by
 refine pO Tryz.func245 λr h _ _=>?_
 unfold a1I at h
 refine S4 2 J<|S4 1 J<|b7 ?_
 cases h
 exact f1

theorem H7{a0}:PO Tryz.prog 243 [.fn (.func 298) [.rptr [.L c5.Pv a0]],.fn (.func 245) []] (y7 a0) λr=>.L l7.Pv r:=by
 refine pO Tryz.func243 λr h _ _=>?_
 refine S4 2 J<|S4 1 J ?_
 refine jq h (λj16=>St.of [(5,.ptr 2001 0 0)] [(2001,vS (.sl 912501) 1),(912501,⟨List.map l7.Pv j16,(List.map l7.Pv j16).length,true,2,true⟩)]) (λj16 h=>?_) λκ15 h=>?_
 ·refine S4 2 J ?_
  refine b7 ?_
  cases h
  exact f1
 ·refine S4 1 J ?_
  refine g8<|a2u (WPE (λl=>if l=2012 then 5 else if l=2013 then 3 else l) [(3,.ptr 2013 0 0),(5,.ptr 2012 0 0),(7,.fn (.func 298) [.rptr [.L c5.Pv a0]])] [(2012,vR (.nl) 1),(2013,vR (.fn (.func 245) []) 1)]) ?_
  refine a0b (fn:=Tryz.f298) (N1:=27) J Tryz.func298 J J nl J Ty.c8g J J (λl20 e21 o22 hR23=>?_)
  refine S3 1 J<|cF h a8Z J J λv17 _ h=>nL J Ty.A5<|S2 1 J<|g8<|lq h (λq=>St.of [(1000003,.ptr 2013 0 0),(1000005,.ptr 2012 0 0),(1000007,.fn (.func 298) [.rptr [.L c5.Pv a0]]),(0,.fn (.yield l20) []),(1,.rptr [.L c5.Pv a0]),(8,.L iF v17),(9,.I (v17.length:Int)),(10,.I q.1)] [(2012,vS (.sl 912512) 1),(2013,vR (.fn (.func 245) []) 1),(912512,⟨List.map l7.Pv q.2,(List.map l7.Pv q.2).length,true,2,true⟩)]) (Wk.trans (a7B (l0:=2012) (j:=0) (l:=922512) (z:=2) J J J J J) (WP (λl=>if l=912512 then 922512 else l))) λq22 x21 h hx27=>?_
  obtain⟨s19,s20⟩:=q22
  refine S4 1 J<|c7 ?_
  refine cN h (λhc h=>?_) λhc h=>?_
  ·refine c4 ?_
   refine c7<|g8<|sR<|iL h J J Ty.A5 Ty.s3 λv23 _ h=>S2 2 J<|S3 2 J<|cA h a3G J J λv24 _ h=>S2 5 J<|S3 3 J<|y0 J (m9 (cs:=[.I v23,.I v24.1]) J Ty.c8C Ty.c00 J J J)<|L4 (WPE (λl=>if l=2021 then 912512 else l) [(1000003,.ptr 2013 0 0),(1000005,.ptr 2012 0 0),(1000007,.fn (.func 298) [.rptr [.L c5.Pv a0]]),(0,.fn (.yield l20) []),(1,.rptr [.L c5.Pv a0]),(8,.L iF v17),(9,.I (v17.length:Int)),(10,.I s19),(20,.fn (.yield l20) []),(23,.agg [.I v23,.I v24.1])] [(2012,vS (.sl 2021) 1),(2021,⟨List.map l7.Pv s20,(List.map l7.Pv s20).length,true,2,true⟩),(2013,vR (.fn (.func 245) []) 1)]) ?_
   refine a3Z hR23 J J J J J J (λe30 o31 o32=>?_)
   refine S6 2 J ?_
   refine⟨J,?_⟩
   refine jqE h (λj28=>St.of [(2000003,.ptr 2013 0 0),(2000005,.ptr 2012 0 0),(2000007,.fn (.func 298) [.rptr [.L c5.Pv a0]]),(1000000,.fn (.yield l20) []),(1000001,.rptr [.L c5.Pv a0]),(1000008,.L iF v17),(1000009,.I (v17.length:Int)),(1000010,.I s19),(1000020,.fn (.yield l20) []),(1000023,.agg [.I v23,.I v24.1])] [(2012,vS (.sl 15) 1),(15,⟨List.map l7.Pv j28,(List.map l7.Pv j28).length,true,2,true⟩),(2013,vR (.fn (.func 245) []) 1)]) (λj28 h=>?_) λκ27 h=>?_
   ·refine⟨J,?_⟩
    refine L4 (WPE (λl=>if l=2022 then 15 else l) [(1000003,.ptr 2013 0 0),(1000005,.ptr 2012 0 0),(1000007,.fn (.func 298) [.rptr [.L c5.Pv a0]]),(0,.fn (.yield l20) []),(1,.rptr [.L c5.Pv a0]),(8,.L iF v17),(9,.I (v17.length:Int)),(10,.I s19),(24,.bool true)] [(2012,vS (.sl 2022) 1),(2022,⟨List.map l7.Pv j28,(List.map l7.Pv j28).length,true,2,true⟩),(2013,vR (.fn (.func 245) []) 1)])<|S2 1 J ?_
    refine G1 false J (λq=>nomatch q) (λ_=>?_)
    refine c4<|S6 2 J ?_
    exact eL h (Wk.trans (n0 _ [2022]) (WP (λl=>if l=912512 then 2022 else l)))
   ·refine g8 ?_
    refine S3 2 J<|cA h b0e J J λv29 _ h=>yN ?_
    refine cN h (λhc h=>?_) λhc h=>?_
    ·refine S5 2 J ?_
     refine y0 J (M2 (f:=l7.Pv) (l:=[(⟨v23,v24.1⟩:l7)]) J Ty.b7R Ty.c27 Ty.c00 J J nl J J)<|r8 h λv30 hv37 h=>L0 J (H5 (f:=l7.Pv) hv37 J J J J J J (.inl ⟨_,J,J⟩) Ty.b7R Ty.c27 Ty.c7X Ty.c00 J (λ_=>J)) J J J<|S2 1 J ?_
     exact eJ h (Wk.trans (n0 _ [15]) W)
    ·refine c4 ?_
     exact eJ h (Wk.trans (n0 _ [2021]) (WP (λl=>if l=15 then 2021 else l)))
  ·refine n7 ?_
   refine c8<|c8<|j5 ?_
   refine .inl ⟨J,?_⟩
   have h:=xL hx27 h
   exact eJ h (Wk.trans (n0 _ [912512]) (WP (λl=>if l=2001 then 2012 else if l=912501 then 912512 else l)))

theorem b2k{a0}:PO Tryz.prog 160 [.L c5.Pv a0] (a3C a0) λr=>.L l7.Pv r:=by
 refine pO Tryz.func160 λr h _ _=>?_
 refine S4 1 J<|S3 1 J<|cF h a6j J J λv1 _ h=>cF h H7 J J λv2 _ h=>S2 1 J<|b7 ?_
 cases h
 exact f1

theorem a7G{a0 a1}:PO Tryz.prog 161 [l7.Pv a0,.rptr (b9.Pc a1)] (a1q a0 a1) λr=>.bool r:=by
 refine pO Tryz.func161 λr h _ _=>?_
 refine S4 2 J<|S3 3 J<|cA h a0S J J λv1 _ h=>S1 1 J<|g7 J (λhg=>a9j J Ty.X6 Ty.P8 nl J)<|g7 J (λhg=>oF J Ty.c1z J)<|g7 J (λhg=>oS (ct hg) J J Ty.a3 J)<|r8 h λv2 hv2 h=>g7 J (λhg=>C6 J a0S (B8 (ct hg) (B8 (ct hg) J)) (F3 hv2 hg))<|y0 J (p5 J J J (λq=>Q1 q))<|S2 1 J<|b7 ?_
 cases h
 exact f1

theorem U4{a0 a1}:PO Tryz.prog 159 [.L l7.Pv a0,.fn (.func 161) [.rptr (b9.Pc a1)]] (B0 a0 a1) λr=>.bool r:=by
 refine pO Tryz.func159 λr h _ _=>?_
 refine S4 1 J ?_
 refine jq h (λ_=>St.of [] []) (λq7 h=>?_) λκ6 h=>?_
 ·refine S4 1 J ?_
  refine b7 ?_
  cases h
  exact f1
 ·refine S3 1 J ?_
  refine nL J Ty.b7R<|S2 1 J<|g8<|lq h (λs9=>St.of [(1,.fn (.func 161) [.rptr (b9.Pc a1)]),(7,.L l7.Pv a0),(8,.I (a0.length:Int)),(9,.I s9)] []) W λs9 x10 h hx9=>S4 1 J<|c7 ?_
  refine cN h (λhc h=>?_) λhc h=>?_
  ·refine c4 ?_
   refine c7<|g8<|sR<|iL h J J Ty.b7R Ty.c27 λv11 _ h=>S2 3 J<|S3 2 J<|cA h a7G J J λv12 _ h=>S2 1 J ?_
   refine cN h (λhc h=>?_) λhc h=>?_
   ·refine S4 1 J ?_
    refine b7 ?_
    have h:=xL hx9 h
    cases h
    exact f1
   ·refine c4 ?_
    refine S6 2 J ?_
    exact eL h W
  ·refine n7 ?_
   refine c8<|c8<|j5 ?_
   have h:=xL hx9 h
   exact eJ h W

theorem a3I{a0}:PO Tryz.prog 89 [b9.Pv a0] (a0T a0) λr=>.bool r:=by
 refine pO Tryz.func89 λr h _ _=>?_
 refine S4 2 J<|S3 2 J<|cF h b2k J J λv1 _ h=>S1 1 J<|cA h U4 J J λv2 _ h=>S2 1 J<|b7 ?_
 cases h
 exact f1

theorem a86{a0 a1}:PO Tryz.prog 165 [b9.Pv a0,j2.Pv a1] (a0V a0 a1) λr=>.bool r:=by
 refine pO Tryz.func165 λr h _ _=>?_
 refine S4 3 J<|c7<|S4 2 J<|g8<|S4 2 J ?_
 refine cN h (λhc h=>?_) λhc h=>?_
 ·refine S3 4 J ?_
  refine cF h A7 J J λv1 _ h=>S2 6 J<|S3 3 J<|g7 J (λhg=>oF J Ty.b7W J)<|g7 J (λhg=>oS (ct hg) J J Ty.a4 J)<|y0 J (p5 J J J (λq=>Q1 q))<|S2 1 J<|b7 ?_
  cases h
  exact f1
 ·refine S4 2 J ?_
  refine cN h (λhc h=>?_) λhc h=>?_
  ·refine S3 4 J ?_
   refine g7 J (λhg=>oF J Ty.c1w J)<|g7 J (λhg=>oS (ct hg) J J Ty.a3 J)<|g7 J (λhg=>oF J Ty.b6v J)<|g7 J (λhg=>oS (ct hg) J J Ty.a28 J)<|g7 J (λhg=>L5 (f:=c9.Pv) (ct hg) Ty.e28)<|g7 J (λhg=>n9 (ct hg) (ct hg) J)<|y0 J (p5 J J J (λq=>Q1 q))<|S1 1 J<|g7 J (λhg=>oF J Ty.b6v J)<|g7 J (λhg=>oS (ct hg) J J Ty.a28 J)<|g7 J (λhg=>oF J Ty.c1w J)<|g7 J (λhg=>oS (ct hg) J J Ty.a3 J)<|r8 h λv2 hv2 h=>g7 J (λhg=>y5 (f:=c9.Pv) (cs:=c9.Pc v2) (F3 hv2 hg) (ct hg) (ct hg) Ty.e28 Ty.s84 J J)<|g7 J (λhg=>D2 (ct hg) Ty.c5o J)<|g7 J (λhg=>D4 (ct hg) Ty.a4 J)<|g7 J (λhg=>a01 (ct hg) J)<|y0 J (p5 J J J (λq=>Q1 q))<|S2 1 J<|b7 ?_
   cases h
   exact f1
  ·refine c4 ?_
   refine S4 1 J<|b7 ?_
   cases h
   exact f1

theorem a4u{a0}:PO Tryz.prog 90 [b9.Pv a0] (a1M a0) λr=>.bool r:=by
 refine pO Tryz.func90 λr h _ _=>?_
 refine S4 2 J<|sR<|b4H (KT:=j2) (VT:=Bool) (EK:=j2.Pv) (E:=PV.bool) 5000004 J J<|S2 2 J<|S3 4 J<|L4 (WPE (λl=>if l=2001 then 1 else if l=2002 then 3 else if l=5002003 then 5000004 else l) [(7,.L j2.Pv a0.Q.L),(8,.fn (.func 164) [.ptr 2002 0 0,.ptr 2001 0 0])] [(2001,vR (b9.Pv a0) 8),(2002,vS (.mp 5002003) 1),(5002003,⟨[.mapc (List.map (ent j2.Pv PV.bool) [])],0,false,0,false⟩)]) ?_
 refine b7F (fn:=Tryz.f163) (N1:=18) J J Tryz.func163 J Ty.c9X J J nl (λe1 o2=>?_)
 refine jqR h (λq=>St.of [(1000007,.L j2.Pv a0.Q.L),(1000008,.fn (.func 164) [.ptr 2002 0 0,.ptr 2001 0 0]),(4,.bool q.1)] [(2001,vR (b9.Pv a0) 8),(2002,vS (.mp 5002003) 1),(5002003,⟨[.mapc (List.map (ent j2.Pv PV.bool) q.2)],0,false,0,false⟩)]) (λq20 h=>dup ?_) λκ17 h=>?_
 ·obtain⟨j18,j19⟩:=q20
  refine⟨J,[.bool j18],⟨J,tr⟩,?_⟩
  refine L4 (WE [(9,.bool j18)] [])<|S2 1 J<|b7 ?_
  cases h
  exact f1
 ·refine S4 1 J ?_
  refine jq h (λj29=>St.of [(1000007,.L j2.Pv a0.Q.L),(1000008,.fn (.func 164) [.ptr 2002 0 0,.ptr 2001 0 0])] [(2001,vR (b9.Pv a0) 8),(2002,vS (.mp 5002003) 1),(5002003,⟨[.mapc (List.map (ent j2.Pv PV.bool) j29)],0,false,0,false⟩)]) (λj29 h=>?_) λκ28 h=>?_
  ·refine S4 1 J ?_
   refine b7 ?_
   exact eJ h W
  ·refine S3 1 J ?_
   refine nL J Ty.e30<|S2 1 J<|g8<|lq h (λq=>St.of [(1000007,.L j2.Pv a0.Q.L),(1000008,.fn (.func 164) [.ptr 2002 0 0,.ptr 2001 0 0]),(1,.fn (.func 164) [.ptr 2002 0 0,.ptr 2001 0 0]),(7,.L j2.Pv a0.Q.L),(8,.I (a0.Q.L.length:Int)),(9,.I q.1)] [(2001,vR (b9.Pv a0) 8),(2002,vS (.mp 5002003) 1),(5002003,⟨[.mapc (List.map (ent j2.Pv PV.bool) q.2)],0,false,0,false⟩)]) W λq34 x33 h hx29=>?_
   obtain⟨s31,s32⟩:=q34
   refine S4 1 J<|c7 ?_
   refine cN h (λhc h=>?_) λhc h=>?_
   ·refine c4 ?_
    refine c7<|g8<|sR<|iL h J J Ty.e30 Ty.b32 λv35 _ h=>S2 3 J<|S3 2 J<|L4 (WE [(1000007,.L j2.Pv a0.Q.L),(1000008,.fn (.func 164) [.ptr 2002 0 0,.ptr 2001 0 0]),(1,.fn (.func 164) [.ptr 2002 0 0,.ptr 2001 0 0]),(7,.L j2.Pv a0.Q.L),(8,.I (a0.Q.L.length:Int)),(9,.I s31),(13,.fn (.func 164) [.ptr 2002 0 0,.ptr 2001 0 0]),(14,j2.Pv v35)] [(2001,vR (b9.Pv a0) 8),(2002,vS (.mp 5002003) 1),(5002003,⟨[.mapc (List.map (ent j2.Pv PV.bool) s32)],0,false,0,false⟩)]) ?_
    refine b7F (fn:=Tryz.f164) (N1:=34) J J Tryz.func164 J Ty.c9Y J J nl (λe31 o32=>?_)
    refine S4 2 J<|S3 4 J<|y0 J (m9 (cs:=[.I v35.Kind,.I v35.At,.I 0]) J Ty.c64 Ty.c3u J J J)<|S2 2 J<|S3 2 J<|c3s (es:=s32) (k:=(⟨v35.Kind,v35.At,0⟩:j2)) (E:=PV.bool) (EK:=j2.Pv) (d:=.bool ((z7 s32 (⟨v35.Kind,v35.At,0⟩:j2)).getD (false:Bool))) J J J J Ty.c5A (b6K j2.Pc (λ_=>J) Ty.c8I (by decide) (λ_ _=>J) j2.beq_eq (λ_=>J) (λ_=>⟨J,J⟩)) Ty.z4 J (lk1 _ _ _)<|S2 1 J<|S3 2 J<|Z7 (es:=s32) (k:=(⟨v35.Kind,v35.At,0⟩:j2)) (v:=true) (E:=PV.bool) (EK:=j2.Pv) (.inl J) J J J J J J Ty.c5A (b6K j2.Pc (λ_=>J) Ty.c8I (by decide) (λ_ _=>J) j2.beq_eq (λ_=>J) (λ_=>⟨J,J⟩))<|yN<|S3 3 J<|g7 J (λhg=>oF J Ty.c1x J)<|g7 J (λhg=>oS (ct hg) J J Ty.a3 J)<|g7 J (λhg=>n9 (ct hg) J J)<|y0 J (p5 J J J (λq=>Q1 q))<|S1 1 J<|g7 J (λhg=>oF J Ty.c1x J)<|g7 J (λhg=>oS (ct hg) J J Ty.a3 J)<|g7 J (λhg=>n9 (ct hg) J J)<|y0 J (p5 J J J (λq=>Q1 q))<|S1 1 J<|g7 J (λhg=>oL J J J Ty.X6 Ty.P8 nl J)<|g7 J (λhg=>oL J J J Ty.c5O Ty.b32 nl J)<|r8 h λv36 hv33 h=>g7 J (λhg=>C6 J a86 (B8 (ct hg) (B8 (ct hg) J)) (F3 hv33 hg))<|y0 J (p5 J J J (λq=>Q1 q))<|S2 1 J<|b7 ?_
    refine⟨J,[.bool ((((!((z7 s32 (⟨v35.Kind,v35.At,0⟩:j2)).getD (false:Bool)))&&(decide (v35.Prog≥0)))&&(decide (v35.Prog<6)))&&v36)],⟨J,tr⟩,?_⟩
    refine L4 (WE [(1000007,.L j2.Pv a0.Q.L),(1000008,.fn (.func 164) [.ptr 2002 0 0,.ptr 2001 0 0]),(1,.fn (.func 164) [.ptr 2002 0 0,.ptr 2001 0 0]),(7,.L j2.Pv a0.Q.L),(8,.I (a0.Q.L.length:Int)),(9,.I s31),(15,.bool ((((!((z7 s32 (⟨v35.Kind,v35.At,0⟩:j2)).getD (false:Bool)))&&(decide (v35.Prog≥0)))&&(decide (v35.Prog<6)))&&v36))] [(2001,vR (b9.Pv a0) 8),(2002,vS (.mp 5002003) 1),(5002003,⟨[.mapc (List.map (ent j2.Pv PV.bool) (o0 s32 (⟨v35.Kind,v35.At,0⟩:j2) true))],0,false,0,false⟩)])<|S2 1 J ?_
    refine cN h (λhc h=>?_) λhc h=>?_
    ·refine S4 1 J ?_
     refine b7 ?_
     have h:=xL hx29 h
     exact eJ h W
    ·refine c4 ?_
     refine S6 2 J ?_
     exact eL h W
   ·refine n7 ?_
    refine c8<|c8<|j5 ?_
    have h:=xL hx29 h
    exact eJ h W

theorem a8k{a0 a1}:PO Tryz.prog 167 [c9.Pv a0,.rptr (b9.Pc a1)] (a2i a0 a1) λr=>.bool r:=by
 refine pO Tryz.func167 λr h _ _=>?_
 refine S4 2 J<|c7<|S3 4 J<|g7 J (λhg=>oF J Ty.c79 J)<|g7 J (λhg=>oS (ct hg) J J Ty.a3 J)<|g7 J (λhg=>n9 (ct hg) J J)<|y0 J (u9 J J J (λq=>R8 q))<|yN ?_
 refine cN h (λhc h=>?_) λhc h=>?_
 ·refine S4 1 J ?_
  refine b7 ?_
  cases h
  exact f1
 ·refine c4 ?_
  refine c7<|S4 2 J ?_
  refine cN h (λhc h=>?_) λhc h=>?_
  ·refine S3 3 J ?_
   refine cA h a0S J J λv1 _ h=>S2 1 J<|b7 ?_
   cases h
   exact f1
  ·refine c4 ?_
   refine S3 5 J<|cA h E0 J J λv2 _ h=>S2 5 J<|S3 4 J<|g7 J (λhg=>mI J)<|g7 J (λhg=>n9 (ct hg) J J)<|y0 J (u9 J J J (λq=>R8 q))<|S2 1 J<|b7 ?_
   cases h
   exact f1

theorem V6{a0 a1}:PO Tryz.prog 166 [.L c9.Pv a0,.fn (.func 167) [.rptr (b9.Pc a1)]] (B7 a0 a1) λr=>.bool r:=by
 refine pO Tryz.func166 λr h _ _=>?_
 refine S4 1 J ?_
 refine jq h (λ_=>St.of [] []) (λq7 h=>?_) λκ6 h=>?_
 ·refine S4 1 J ?_
  refine b7 ?_
  cases h
  exact f1
 ·refine S3 1 J ?_
  refine nL J Ty.e28<|S2 1 J<|g8<|lq h (λs9=>St.of [(1,.fn (.func 167) [.rptr (b9.Pc a1)]),(7,.L c9.Pv a0),(8,.I (a0.length:Int)),(9,.I s9)] []) W λs9 x10 h hx9=>S4 1 J<|c7 ?_
  refine cN h (λhc h=>?_) λhc h=>?_
  ·refine c4 ?_
   refine c7<|g8<|sR<|iL h J J Ty.e28 Ty.s84 λv11 _ h=>S2 3 J<|S3 2 J<|cA h a8k J J λv12 _ h=>S2 1 J ?_
   refine cN h (λhc h=>?_) λhc h=>?_
   ·refine S4 1 J ?_
    refine b7 ?_
    have h:=xL hx9 h
    cases h
    exact f1
   ·refine c4 ?_
    refine S6 2 J ?_
    exact eL h W
  ·refine n7 ?_
   refine c8<|c8<|j5 ?_
   have h:=xL hx9 h
   exact eJ h W

theorem a4s{a0}:PO Tryz.prog 91 [b9.Pv a0] (a1K a0) λr=>.bool r:=by
 refine pO Tryz.func91 λr h _ _=>?_
 refine S4 2 J<|S3 3 J<|cA h V6 J J λv1 _ h=>S2 1 J<|b7 ?_
 cases h
 exact f1

theorem b0X{a0 a1}:PO Tryz.prog 249 [c9.Pv a0,.rptr [.I a1]] (a1V a0 a1) λr=>.bool r:=by
 refine pO Tryz.func249 λr h _ _=>?_
 unfold a1V at h
 refine S4 2 J<|S3 3 J<|g7 J (λhg=>oF J Ty.c1I J)<|g7 J (λhg=>oS (ct hg) J J Ty.a3 J)<|g7 J (λhg=>D4 J Ty.a3 J)<|g7 J (λhg=>n9 (ct hg) (ct hg) J)<|y0 J (p5 J J J (λq=>Q1 q))<|S2 1 J<|b7 ?_
 cases h
 exact f1

theorem a2f{a0 a1}:PO Tryz.prog 248 [.L c9.Pv a0,.fn (.func 249) [.rptr [.I a1]]] (M3 a0 a1) λr=>.L iF r:=by
 refine pO Tryz.func248 λr h _ _=>?_
 refine S4 1 J<|S4 1 J ?_
 refine jq h (λj15=>St.of [(5,.sl 910005)] [(910005,⟨List.map iF j15,(List.map iF j15).length,true,1,true⟩)]) (λj15 h=>?_) λκ14 h=>?_
 ·refine S4 2 J ?_
  refine b7 ?_
  cases h
  exact f1
 ·refine S3 1 J ?_
  refine nL J Ty.e28<|S2 1 J<|g8<|lq h (λq=>St.of [(1,.fn (.func 249) [.rptr [.I a1]]),(5,.sl 910005),(8,.L c9.Pv a0),(9,.I (a0.length:Int)),(10,.I q.1)] [(910005,⟨List.map iF q.2,(List.map iF q.2).length,true,1,true⟩)]) (Wk.trans (F2 (t:=5) (l:=920005) (z:=1) J J) (WP (λl=>if l=910005 then 920005 else l))) λq20 x19 h hx14=>?_
  obtain⟨s17,s18⟩:=q20
  refine S4 1 J<|c7 ?_
  refine cN h (λhc h=>?_) λhc h=>?_
  ·refine c4 ?_
   refine jq h (λj25=>St.of [(1,.fn (.func 249) [.rptr [.I a1]]),(5,.sl 21),(8,.L c9.Pv a0),(9,.I (a0.length:Int)),(10,.I s17)] [(21,⟨List.map iF j25,(List.map iF j25).length,true,1,true⟩)]) (λj25 h=>?_) λκ24 h=>?_
   ·refine S6 2 J ?_
    exact eL h (Wk.trans (n0 _ [21]) (WP (λl=>if l=910005 then 21 else l)))
   ·refine g8 ?_
    refine S3 1 J<|iL h J J Ty.e28 Ty.s84 λv26 _ h=>S2 4 J<|S3 2 J<|cA h b0X J J λv27 _ h=>yN ?_
    refine cN h (λhc h=>?_) λhc h=>?_
    ·refine S5 2 J ?_
     refine y0 J (M2 (f:=iF) (l:=[s17]) J Ty.A5 Ty.s3 Ty.z3 J J nl J J)<|r8 h λv28 hv21 h=>L0 J (H5 (f:=iF) hv21 J J J J J J (.inl ⟨_,J,J⟩) Ty.A5 Ty.s3 Ty.b3 Ty.z3 J (λ_=>J)) J J J<|S2 1 J ?_
     exact eJ h (Wk.trans (n0 _ [21]) W)
    ·refine c4 ?_
     exact eJ h (Wk.trans (n0 _ [910005]) (WP (λl=>if l=21 then 910005 else l)))
  ·refine n7 ?_
   refine c8<|c8<|j5 ?_
   have h:=xL hx14 h
   exact eJ h (Wk.trans (n0 _ [910005]) W)

theorem b3B{a0 a1}:PO Tryz.prog 169 [.L c9.Pv a0,.I a1] (a2e a0 a1) λr=>.I r:=by
 refine pO Tryz.func169 λr h _ _=>?_
 unfold a2e at h
 refine S4 2 J<|S3 2 J<|r8 h λv1 hv1 h=>ycL J (y4 J a2f J hv1) J<|nL J Ty.A5<|S2 1 J<|b7 ?_
 cases h
 exact f1

theorem a4t{a0}:PO Tryz.prog 92 [b9.Pv a0] (a1L a0) λr=>.bool r:=by
 refine pO Tryz.func92 λr h _ _=>?_
 refine S4 2 J ?_
 refine jq h (λ_=>St.of [] []) (λq13 h=>?_) λκ12 h=>?_
 ·refine S4 1 J ?_
  refine b7 ?_
  cases h
  exact f1
 ·refine S3 4 J ?_
  refine nL J Ty.e22<|S2 1 J<|g8<|lq h (λs15=>St.of [(1,.ptr 1 0 0),(8,.L b8.Pv a0.S.S.a7),(9,.I (a0.S.S.a7.length:Int)),(10,.I s15)] [(1,vR (b9.Pv a0) 8)]) W λs15 x16 h hx14=>S4 1 J<|c7 ?_
  refine cN h (λhc h=>?_) λhc h=>?_
  ·refine c4 ?_
   refine jq h (λ_=>St.of [(1,.ptr 1 0 0),(8,.L b8.Pv a0.S.S.a7),(9,.I (a0.S.S.a7.length:Int)),(10,.I s15)] [(1,vR (b9.Pv a0) 8)]) (λq21 h=>?_) λκ20 h=>?_
   ·refine S6 2 J ?_
    exact eL h W
   ·refine g8 ?_
    refine S3 1 J<|iL h J J Ty.e22 Ty.a4K λv22 _ h=>S2 4 J<|c7<|S3 4 J<|g7 J (λhg=>oF J Ty.b2n J)<|g7 J (λhg=>oS (ct hg) J J Ty.a3 J)<|g7 J (λhg=>n9 (ct hg) J J)<|y0 J (p5 J J J (λq=>Q1 q))<|yN ?_
    refine cN h (λhc h=>?_) λhc h=>?_
    ·refine n7 ?_
     refine c8<|j5 ?_
     exact eJ h W
    ·refine c4 ?_
     refine c7<|dr [] Ty.U9 (by kernel_rfl) (by kernel_rfl)<|S7 8 J<|r8 h λv23 hv20 h=>d2 J (C6 J a2Z J hv20) J<|r8 h λv24 hv21 h=>d2 J (C6 J b3B J hv21) J<|S8 1 J ?_
     refine cN h (λhc h=>?_) λhc h=>?_
     ·refine S4 1 J ?_
      refine b7 ?_
      have h:=xL hx14 h
      cases h
      exact f1
     ·refine c4 ?_
      refine S3 4 J<|g7 J (λhg=>oF J Ty.b4X J)<|g7 J (λhg=>oF (ct hg) Ty.b7V J)<|g7 J (λhg=>oS (ct hg) J J Ty.a3 J)<|g7 J (λhg=>n9 (ct hg) J J)<|g7 J (λhg=>om (d:=.bool (decide (v22.Val.Weak<1))) (ct hg))<|g7 (D6 J J J) (λhg=>oF J Ty.b4X J)<|g7 (D6 J J J) (λhg=>oF (ct hg) Ty.b7X J)<|g7 (D6 J J J) (λhg=>oS (ct hg) J J Ty.a27 J)<|g7 (D6 J J J) (λhg=>L5 (f:=iF) (ct hg) Ty.A5)<|g7 (D6 J J J) (λhg=>n9 (ct hg) J J)<|g7 J (λhg=>u9 (ct hg) J J (λq=>b1s hg (R8 q)))<|g7 J (λhg=>om (d:=.bool ((decide (v22.Val.Weak<1))||(decide ((v22.Val.Fields.length:Int) > 0)))) (ct hg))<|g7 (D6 J J J) (λhg=>oF J Ty.b4X J)<|g7 (D6 J J J) (λhg=>oF (ct hg) Ty.c1t J)<|g7 (D6 J J J) (λhg=>oS (ct hg) J J Ty.a3 J)<|g7 (D6 J J J) (λhg=>n9 (ct hg) J J)<|g7 J (λhg=>u9 (ct hg) J J (λq=>b1s hg (R8 q)))<|y0 J (p5 J J J (λq=>Q1 q))<|yN ?_
      refine cN h (λhc h=>?_) λhc h=>?_
      ·refine S4 1 J ?_
       refine b7 ?_
       have h:=xL hx14 h
       cases h
       exact f1
      ·refine c4 ?_
       exact eJ h W
  ·refine n7 ?_
   refine c8<|c8<|j5 ?_
   have h:=xL hx14 h
   exact eJ h W

theorem b74{f:Fv}{a0:b9}{r:Bool}(h:X8 f a0=some r):∃n,f=some n∧A2 Tryz.prog n∧O4 Tryz.prog n [b9.Pv a0] (.bool r):=by
 unfold X8 at h
 by_cases e88:f=some 88
 ·rw[if_pos e88] at h;exact⟨88,e88,(@a3H a0).1,(@a3H a0).2 _ h⟩
 rw[if_neg e88] at h
 by_cases e89:f=some 89
 ·rw[if_pos e89] at h;exact⟨89,e89,(@a3I a0).1,(@a3I a0).2 _ h⟩
 rw[if_neg e89] at h
 by_cases e90:f=some 90
 ·rw[if_pos e90] at h;exact⟨90,e90,(@a4u a0).1,(@a4u a0).2 _ h⟩
 rw[if_neg e90] at h
 by_cases e91:f=some 91
 ·rw[if_pos e91] at h;exact⟨91,e91,(@a4s a0).1,(@a4s a0).2 _ h⟩
 rw[if_neg e91] at h
 by_cases e92:f=some 92
 ·rw[if_pos e92] at h;exact⟨92,e92,(@a4t a0).1,(@a4t a0).2 _ h⟩
 rw[if_neg e92] at h
 cases h

theorem b5W{a0}:PO Tryz.prog 175 [g9.Pv a0] (a4N a0) λr=>.L iF r:=by
 refine pO Tryz.func175 λr h _ _=>?_
 refine S4 2 J<|S4 1 J ?_
 refine jq h (λj10=>St.of [(3,.ptr 2001 0 0)] [(2001,vS (.sl 912501) 1),(912501,⟨List.map iF j10,(List.map iF j10).length,true,1,true⟩)]) (λj10 h=>?_) λκ9 h=>?_
 ·refine S4 2 J ?_
  refine b7 ?_
  cases h
  exact f1
 ·refine S3 1 J ?_
  refine cF h b3u J J λv11 _ h=>yN<|g8<|a2u (WPE (λl=>if l=2011 then 3 else l) [(3,.ptr 2011 0 0),(6,.fn (.func 303) [.rptr (g9.Pc v11.1),.rptr [.I v11.2]])] [(2011,vR (.nl) 1)]) ?_
  refine a0b (fn:=Tryz.f303) (N1:=24) J Tryz.func303 J J nl J Ty.c8h J J (λl17 e18 o19 hR20=>?_)
  refine S3 2 J<|nL J Ty.e30<|S2 1 J<|g8<|lq h (λq=>St.of [(1000003,.ptr 2011 0 0),(1000006,.fn (.func 303) [.rptr (g9.Pc v11.1),.rptr [.I v11.2]]),(0,.fn (.yield l17) []),(2,.rptr [.I v11.2]),(7,.L j2.Pv v11.1.L),(8,.I (v11.1.L.length:Int)),(9,.I q.1)] [(2011,vS (.sl 912511) 1),(912511,⟨List.map iF q.2,(List.map iF q.2).length,true,1,true⟩)]) (Wk.trans (a7B (l0:=2011) (j:=0) (l:=922511) (z:=1) J J J J J) (WP (λl=>if l=912511 then 922511 else l))) λq16 x15 h hx23=>?_
  obtain⟨s13,s14⟩:=q16
  refine S4 1 J<|c7 ?_
  refine cN h (λhc h=>?_) λhc h=>?_
  ·refine c4 ?_
   refine c7<|g8<|sR<|iL h J J Ty.e30 Ty.b32 λv17 _ h=>S2 3 J<|S3 5 J<|g7 J (λhg=>om (d:=.fn (.yield l17) []) J)<|g7 J (λhg=>oL J J J Ty.c5O Ty.b32 nl J) ?_
   rcases Bool.eq_false_or_eq_true ((v17.Kind==v11.2)==true) with hg25 | hg25
   ·have h:=ifT h hg25
    refine L4 (WPE (λl=>if l=2019 then 912511 else l) [(1000003,.ptr 2011 0 0),(1000006,.fn (.func 303) [.rptr (g9.Pc v11.1),.rptr [.I v11.2]]),(0,.fn (.yield l17) []),(2,.rptr [.I v11.2]),(7,.L j2.Pv v11.1.L),(8,.I (v11.1.L.length:Int)),(9,.I s13),(17,.bool (v17.Kind==v11.2)),(18,.fn (.yield l17) []),(19,j2.Pv v17)] [(2011,vS (.sl 2019) 1),(2019,⟨List.map iF s14,(List.map iF s14).length,true,1,true⟩)]) ?_
    refine a3Z hR20 (congrArg some hg25) J J J J J (λe26 o27 o28=>?_)
    refine S6 2 J ?_
    refine⟨J,?_⟩
    refine g8<|S5 3 J<|y0 J (M2 (f:=iF) (l:=[v17.At]) J Ty.A5 Ty.s3 Ty.z3 J J nl J J)<|r8 h λv18 hv29 h=>L0 J (H5 (f:=iF) hv29 J J J J J J (.inl ⟨_,J,J⟩) Ty.A5 Ty.s3 Ty.b3 Ty.z3 J (λ_=>J)) J J J<|S2 1 J ?_
    refine⟨J,?_⟩
    refine L4 (WPE (λl=>if l=2020 then 12 else l) [(1000003,.ptr 2011 0 0),(1000006,.fn (.func 303) [.rptr (g9.Pc v11.1),.rptr [.I v11.2]]),(0,.fn (.yield l17) []),(2,.rptr [.I v11.2]),(7,.L j2.Pv v11.1.L),(8,.I (v11.1.L.length:Int)),(9,.I s13),(17,.bool (v17.Kind==v11.2)),(20,.bool true)] [(2011,vS (.sl 2020) 1),(2020,⟨List.map iF v18,s14.length,true,1,true⟩)])<|y0 (congrArg some hg25) (a01 J J)<|y0 J (a7g J J hg25)<|yN ?_
    refine G1 false J (λq=>nomatch q) (λ_=>?_)
    refine c4<|S6 2 J ?_
    exact eL h (Wk.trans (n0 _ [2020]) (WP (λl=>if l=912511 then 2020 else l)))
   ·have h:=ifF h hg25
    refine a1d (congrArg some hg25)<|a1d (congrArg some hg25)<|y0 J (a7f J J hg25)<|yN ?_
    refine G1 false J (λq=>nomatch q) (λ_=>?_)
    refine c4<|S6 2 J ?_
    exact eL h (Wk.trans (n0 _ [912511]) W)
  ·refine n7 ?_
   refine c8<|c8<|j5 ?_
   refine .inl ⟨J,?_⟩
   have h:=xL hx23 h
   exact eJ h (Wk.trans (n0 _ [912511]) (WP (λl=>if l=2001 then 2011 else if l=912501 then 912511 else l)))

theorem b3U{a0}:PO Tryz.prog 94 [b9.Pv a0] (a5e a0) λr=>.L iF r:=by
 refine pO Tryz.func94 λr h _ _=>?_
 refine S4 2 J<|S4 1 J ?_
 refine jq h (λj13=>St.of [(1,.ptr 1 0 0),(3,.sl 910003)] [(910003,⟨List.map iF j13,(List.map iF j13).length,true,1,true⟩),(1,vR (b9.Pv a0) 8)]) (λj13 h=>?_) λκ12 h=>?_
 ·refine S3 3 J ?_
  refine cF h b5W J J λv14 _ h=>r8 h λv15 hv11 h=>L0 J (H5 (f:=iF) hv11 J J J J J J (.inl ⟨_,J,J⟩) Ty.A5 Ty.s3 Ty.b3 Ty.z3 J (λ_=>J)) J J J<|S2 1 J<|b7 ?_
  cases h
  exact f1
 ·refine S3 2 J ?_
  refine nL J Ty.A5<|S2 1 J<|g8<|lq h (λq=>St.of [(1,.ptr 1 0 0),(3,.sl 910003),(7,.L iF a0.Roots),(8,.I (a0.Roots.length:Int)),(9,.I q.1)] [(1,vR (b9.Pv a0) 8),(910003,⟨List.map iF q.2,(List.map iF q.2).length,true,1,true⟩)]) (Wk.trans (F2 (t:=3) (l:=920003) (z:=1) J J) (WP (λl=>if l=910003 then 920003 else l))) λq20 x19 h hx14=>?_
  obtain⟨s17,s18⟩:=q20
  refine S4 1 J<|c7 ?_
  refine cN h (λhc h=>?_) λhc h=>?_
  ·refine c4 ?_
   refine jq h (λj24=>St.of [(1,.ptr 1 0 0),(3,.sl 18),(7,.L iF a0.Roots),(8,.I (a0.Roots.length:Int)),(9,.I s17)] [(18,⟨List.map iF j24,(List.map iF j24).length,true,1,true⟩),(1,vR (b9.Pv a0) 8)]) (λj24 h=>?_) λκ23 h=>?_
   ·refine S6 2 J ?_
    exact eL h (Wk.trans (n0 _ [18]) (WP (λl=>if l=910003 then 18 else l)))
   ·refine g8 ?_
    refine sR<|iL h J J Ty.A5 Ty.s3 λv25 _ h=>S2 2 J<|S4 2 J ?_
    refine cN h (λhc h=>?_) λhc h=>?_
    ·refine S5 2 J ?_
     refine y0 J (M2 (f:=iF) (l:=[v25]) J Ty.A5 Ty.s3 Ty.z3 J J nl J J)<|r8 h λv26 hv19 h=>L0 J (H5 (f:=iF) hv19 J J J J J J (.inl ⟨_,J,J⟩) Ty.A5 Ty.s3 Ty.b3 Ty.z3 J (λ_=>J)) J J J<|S2 1 J ?_
     exact eJ h (Wk.trans (n0 _ [18]) W)
    ·refine c4 ?_
     exact eJ h (Wk.trans (n0 _ [910003]) (WP (λl=>if l=18 then 910003 else l)))
  ·refine n7 ?_
   refine c8<|c8<|j5 ?_
   have h:=xL hx14 h
   exact eJ h (Wk.trans (n0 _ [910003]) W)

theorem b2e{a0}:PO Tryz.prog 171 [.I a0] (a6h a0) λr=>.bool r:=by
 refine pO Tryz.func171 λr h _ _=>?_
 refine S4 1 J<|S3 1 J<|cA h V3 J J λv1 _ h=>S2 1 J<|b7 ?_
 cases h
 exact f1

theorem b30{a0}:PO Tryz.prog 325 [a8.Pv a0] (a5u a0) λr=>.fn (.func 332) [.rptr (a8.Pc r)]:=by
 refine pO Tryz.func325 λr h _ _=>?_
 unfold a5u at h
 refine S4 2 J<|S4 2 J<|b7 ?_
 cases h
 exact f1

theorem b7h{a0 a1}:PO Tryz.prog 333 [a8.Pv a0,.I a1] (a9C a0 a1) λr=>.L iF r:=by
 refine pO Tryz.func333 λr h _ _=>?_
 refine S4 2 J<|S3 2 J<|cF h A7 J J λv1 _ h=>S2 6 J<|S3 2 J<|cF h a9Y J J λv2 _ h=>S2 1 J<|b7 ?_
 cases h
 exact f1

theorem b8H{a0 a1}:PO Tryz.prog 301 [a8.Pv a0,.I a1] (b1Y a0 a1) λr=>.I r:=by
 refine pO Tryz.func301 λr h _ _=>?_
 refine S4 3 J<|S4 2 J ?_
 refine jq h (λj31=>St.of [(5,.ptr 2001 0 0)] [(2001,vR (.I j31) 1)]) (λj31 h=>?_) λκ30 h=>?_
 ·refine S4 2 J ?_
  refine b7 ?_
  cases h
  exact f1
 ·refine S3 1 J ?_
  refine cF h b30 J J λv32 _ h=>yN<|g8<|a2u (WPE (λl=>if l=2003 then 5 else if l=2004 then 3 else l) [(3,.ptr 2004 0 0),(5,.ptr 2003 0 0),(9,.fn (.func 332) [.rptr (a8.Pc v32)])] [(2003,vR (.I 0) 1),(2004,vR (.I a1) 1)]) ?_
  refine a0b (fn:=Tryz.f332) (N1:=29) J Tryz.func332 J J nl J Ty.c94 J J (λl33 e34 o35 hR36=>?_)
  refine c2Q<|c7<|c2P<|S3 1 J<|cF h a0i J J λv33 _ h=>nL J Ty.A5<|S2 1 J<|g8<|lq h (λq=>St.of [(1000003,.ptr 2004 0 0),(1000005,.ptr 2003 0 0),(1000009,.fn (.func 332) [.rptr (a8.Pc v32)]),(0,.fn (.yield l33) []),(1,.rptr (a8.Pc v32)),(8,.L iF v33),(9,.I (v33.length:Int)),(10,.I q.1)] [(2003,vR (.I q.2) 1),(2004,vR (.I a1) 1)]) W λq38 x37 h hx40=>?_
  obtain⟨s35,s36⟩:=q38
  refine S4 1 J<|c7 ?_
  refine cN h (λhc h=>?_) λhc h=>?_
  ·refine c4 ?_
   refine jq h (λj50=>St.of [(1000003,.ptr 2004 0 0),(1000005,.ptr 2003 0 0),(1000009,.fn (.func 332) [.rptr (a8.Pc v32)]),(0,.fn (.yield l33) []),(1,.rptr (a8.Pc v32)),(8,.L iF v33),(9,.I (v33.length:Int)),(10,.I s35)] [(2003,vR (.I j50) 1),(2004,vR (.I a1) 1)]) (λj50 h=>?_) λκ49 h=>?_
   ·refine S6 2 J ?_
    exact eL h W
   ·refine g8 ?_
    refine sR<|iL h J J Ty.A5 Ty.s3 λv51 _ h=>S2 2 J<|S3 2 J<|cF h b7h J J λv52 _ h=>nL J Ty.A5<|S2 1 J<|g8<|lq h (λq=>St.of [(1000003,.ptr 2004 0 0),(1000005,.ptr 2003 0 0),(1000009,.fn (.func 332) [.rptr (a8.Pc v32)]),(0,.fn (.yield l33) []),(1,.rptr (a8.Pc v32)),(4,.I v51),(8,.L iF v33),(9,.I (v33.length:Int)),(10,.I s35),(16,.L iF v52),(17,.I (v52.length:Int)),(18,.I q.1)] [(2003,vR (.I q.2) 1),(2004,vR (.I a1) 1)]) W λq57 x56 h hx56=>?_
    obtain⟨s54,s55⟩:=q57
    refine S4 1 J<|c7 ?_
    refine cN h (λhc h=>?_) λhc h=>?_
    ·refine c4 ?_
     refine c7<|g8<|sR<|iL h J J Ty.A5 Ty.s3 λv58 _ h=>S2 2 J<|S3 3 J<|L4 (WE [(1000003,.ptr 2004 0 0),(1000005,.ptr 2003 0 0),(1000009,.fn (.func 332) [.rptr (a8.Pc v32)]),(0,.fn (.yield l33) []),(1,.rptr (a8.Pc v32)),(4,.I v51),(8,.L iF v33),(9,.I (v33.length:Int)),(10,.I s35),(16,.L iF v52),(17,.I (v52.length:Int)),(18,.I s54),(22,.fn (.yield l33) []),(23,.I v51),(24,.I v58)] [(2003,vR (.I s55) 1),(2004,vR (.I a1) 1)]) ?_
     refine a3Z hR36 J J J J J J (λe58 o59 o60=>?_)
     refine S6 1 J ?_
     refine⟨J,?_⟩
     refine jqE h (λj60=>St.of [(2000003,.ptr 2004 0 0),(2000005,.ptr 2003 0 0),(2000009,.fn (.func 332) [.rptr (a8.Pc v32)]),(1000000,.fn (.yield l33) []),(1000001,.rptr (a8.Pc v32)),(1000004,.I v51),(1000008,.L iF v33),(1000009,.I (v33.length:Int)),(1000010,.I s35),(1000016,.L iF v52),(1000017,.I (v52.length:Int)),(1000018,.I s54),(1000022,.fn (.yield l33) []),(1000023,.I v51),(1000024,.I v58)] [(2003,vR (.I j60) 1),(2004,vR (.I a1) 1)]) (λj60 h=>?_) λκ59 h=>?_
     ·refine⟨J,?_⟩
      refine L4 (WE [(1000003,.ptr 2004 0 0),(1000005,.ptr 2003 0 0),(1000009,.fn (.func 332) [.rptr (a8.Pc v32)]),(0,.fn (.yield l33) []),(1,.rptr (a8.Pc v32)),(4,.I v51),(8,.L iF v33),(9,.I (v33.length:Int)),(10,.I s35),(16,.L iF v52),(17,.I (v52.length:Int)),(18,.I s54),(25,.bool true)] [(2003,vR (.I j60) 1),(2004,vR (.I a1) 1)])<|S2 1 J ?_
      refine G1 false J (λq=>nomatch q) (λ_=>?_)
      refine c4<|S6 2 J ?_
      exact eL h W
     ·refine g8 ?_
      refine S4 3 J ?_
      refine cN h (λhc h=>?_) λhc h=>?_
      ·refine S6 3 J ?_
       exact eJ h W
      ·refine c4 ?_
       exact eJ h W
    ·refine n7 ?_
     refine c8<|c8<|j5 ?_
     have h:=xL hx56 h
     exact eJ h W
  ·refine n7 ?_
   refine c8<|c8<|j5<|b34 ?_
   refine .inl ⟨J,?_⟩
   have h:=xL hx40 h
   exact eJ h (WP (λl=>if l=2001 then 2003 else l))

theorem b0d{a0 a1}:PO Tryz.prog 326 [l7.Pv a0,.rptr [.I a1]] (a1H a0 a1) λr=>.bool r:=by
 refine pO Tryz.func326 λr h _ _=>?_
 unfold a1H at h
 refine S4 2 J<|S3 3 J<|g7 J (λhg=>oF J Ty.c1z J)<|g7 J (λhg=>oS (ct hg) J J Ty.a3 J)<|g7 J (λhg=>D4 J Ty.a3 J)<|g7 J (λhg=>n9 (ct hg) (ct hg) J)<|y0 J (p5 J J J (λq=>Q1 q))<|S2 1 J<|b7 ?_
 cases h
 exact f1

theorem H6{a0 a1}:PO Tryz.prog 243 [.fn (.func 298) [.rptr [.L c5.Pv a0]],.fn (.func 326) [.rptr [.I a1]]] (y6 a0 a1) λr=>.L l7.Pv r:=by
 refine pO Tryz.func243 λr h _ _=>?_
 refine S4 2 J<|S4 1 J ?_
 refine jq h (λj16=>St.of [(5,.ptr 2001 0 0)] [(2001,vS (.sl 912501) 1),(912501,⟨List.map l7.Pv j16,(List.map l7.Pv j16).length,true,2,true⟩)]) (λj16 h=>?_) λκ15 h=>?_
 ·refine S4 2 J ?_
  refine b7 ?_
  cases h
  exact f1
 ·refine S4 1 J ?_
  refine g8<|a2u (WPE (λl=>if l=2012 then 5 else if l=2013 then 3 else l) [(3,.ptr 2013 0 0),(5,.ptr 2012 0 0),(7,.fn (.func 298) [.rptr [.L c5.Pv a0]])] [(2012,vR (.nl) 1),(2013,vR (.fn (.func 326) [.rptr [.I a1]]) 1)]) ?_
  refine a0b (fn:=Tryz.f298) (N1:=27) J Tryz.func298 J J nl J Ty.c8g J J (λl20 e21 o22 hR23=>?_)
  refine S3 1 J<|cF h a8Z J J λv17 _ h=>nL J Ty.A5<|S2 1 J<|g8<|lq h (λq=>St.of [(1000003,.ptr 2013 0 0),(1000005,.ptr 2012 0 0),(1000007,.fn (.func 298) [.rptr [.L c5.Pv a0]]),(0,.fn (.yield l20) []),(1,.rptr [.L c5.Pv a0]),(8,.L iF v17),(9,.I (v17.length:Int)),(10,.I q.1)] [(2012,vS (.sl 912512) 1),(2013,vR (.fn (.func 326) [.rptr [.I a1]]) 1),(912512,⟨List.map l7.Pv q.2,(List.map l7.Pv q.2).length,true,2,true⟩)]) (Wk.trans (a7B (l0:=2012) (j:=0) (l:=922512) (z:=2) J J J J J) (WP (λl=>if l=912512 then 922512 else l))) λq22 x21 h hx27=>?_
  obtain⟨s19,s20⟩:=q22
  refine S4 1 J<|c7 ?_
  refine cN h (λhc h=>?_) λhc h=>?_
  ·refine c4 ?_
   refine c7<|g8<|sR<|iL h J J Ty.A5 Ty.s3 λv23 _ h=>S2 2 J<|S3 2 J<|cA h a3G J J λv24 _ h=>S2 5 J<|S3 3 J<|y0 J (m9 (cs:=[.I v23,.I v24.1]) J Ty.c8C Ty.c00 J J J)<|L4 (WPE (λl=>if l=2021 then 912512 else l) [(1000003,.ptr 2013 0 0),(1000005,.ptr 2012 0 0),(1000007,.fn (.func 298) [.rptr [.L c5.Pv a0]]),(0,.fn (.yield l20) []),(1,.rptr [.L c5.Pv a0]),(8,.L iF v17),(9,.I (v17.length:Int)),(10,.I s19),(20,.fn (.yield l20) []),(23,.agg [.I v23,.I v24.1])] [(2012,vS (.sl 2021) 1),(2021,⟨List.map l7.Pv s20,(List.map l7.Pv s20).length,true,2,true⟩),(2013,vR (.fn (.func 326) [.rptr [.I a1]]) 1)]) ?_
   refine a3Z hR23 J J J J J J (λe30 o31 o32=>?_)
   refine S6 2 J ?_
   refine⟨J,?_⟩
   refine jqE h (λj28=>St.of [(2000003,.ptr 2013 0 0),(2000005,.ptr 2012 0 0),(2000007,.fn (.func 298) [.rptr [.L c5.Pv a0]]),(1000000,.fn (.yield l20) []),(1000001,.rptr [.L c5.Pv a0]),(1000008,.L iF v17),(1000009,.I (v17.length:Int)),(1000010,.I s19),(1000020,.fn (.yield l20) []),(1000023,.agg [.I v23,.I v24.1])] [(2012,vS (.sl 15) 1),(15,⟨List.map l7.Pv j28,(List.map l7.Pv j28).length,true,2,true⟩),(2013,vR (.fn (.func 326) [.rptr [.I a1]]) 1)]) (λj28 h=>?_) λκ27 h=>?_
   ·refine⟨J,?_⟩
    refine L4 (WPE (λl=>if l=2022 then 15 else l) [(1000003,.ptr 2013 0 0),(1000005,.ptr 2012 0 0),(1000007,.fn (.func 298) [.rptr [.L c5.Pv a0]]),(0,.fn (.yield l20) []),(1,.rptr [.L c5.Pv a0]),(8,.L iF v17),(9,.I (v17.length:Int)),(10,.I s19),(24,.bool true)] [(2012,vS (.sl 2022) 1),(2022,⟨List.map l7.Pv j28,(List.map l7.Pv j28).length,true,2,true⟩),(2013,vR (.fn (.func 326) [.rptr [.I a1]]) 1)])<|S2 1 J ?_
    refine G1 false J (λq=>nomatch q) (λ_=>?_)
    refine c4<|S6 2 J ?_
    exact eL h (Wk.trans (n0 _ [2022]) (WP (λl=>if l=912512 then 2022 else l)))
   ·refine g8 ?_
    refine S3 2 J<|cA h b0d J J λv29 _ h=>yN ?_
    refine cN h (λhc h=>?_) λhc h=>?_
    ·refine S5 2 J ?_
     refine y0 J (M2 (f:=l7.Pv) (l:=[(⟨v23,v24.1⟩:l7)]) J Ty.b7R Ty.c27 Ty.c00 J J nl J J)<|r8 h λv30 hv37 h=>L0 J (H5 (f:=l7.Pv) hv37 J J J J J J (.inl ⟨_,J,J⟩) Ty.b7R Ty.c27 Ty.c7X Ty.c00 J (λ_=>J)) J J J<|S2 1 J ?_
     exact eJ h (Wk.trans (n0 _ [15]) W)
    ·refine c4 ?_
     exact eJ h (Wk.trans (n0 _ [2021]) (WP (λl=>if l=15 then 2021 else l)))
  ·refine n7 ?_
   refine c8<|c8<|j5 ?_
   refine .inl ⟨J,?_⟩
   have h:=xL hx27 h
   exact eJ h (Wk.trans (n0 _ [912512]) (WP (λl=>if l=2001 then 2012 else if l=912501 then 912512 else l)))

theorem b2j{a0 a1}:PO Tryz.prog 302 [.L c5.Pv a0,.I a1] (a3B a0 a1) λr=>.I r:=by
 refine pO Tryz.func302 λr h _ _=>?_
 refine S4 2 J<|S3 1 J<|cF h a6j J J λv1 _ h=>S1 1 J<|r8 h λv2 hv2 h=>ycL J (y4 J H6 J hv2) J<|nL J Ty.b7R<|S2 1 J<|b7 ?_
 cases h
 exact f1

theorem b3w{a0 a1 a2}:PO Tryz.prog 251 [a8.Pv a0,.L c5.Pv a1,.I a2] (a3X a0 a1 a2) λr=>.I r:=by
 refine pO Tryz.func251 λr h _ _=>?_
 refine S4 2 J<|S3 2 J<|cA h b8H J J λv1 _ h=>S1 2 J<|cA h b2j J J λv2 _ h=>S2 2 J<|b7 ?_
 cases h
 exact f1

theorem b39{a0 a1 a2}:PO Tryz.prog 172 [a8.Pv a0,.L c5.Pv a1,.I a2] (a5J a0 a1 a2) λr=>.I r:=by
 refine pO Tryz.func172 λr h _ _=>?_
 refine S4 2 J<|S3 2 J<|cF h A7 J J λv1 _ h=>S2 6 J<|c7<|S4 2 J ?_
 refine cN h (λhc h=>?_) λhc h=>?_
 ·refine S4 1 J ?_
  refine b7 ?_
  cases h
  exact f1
 ·refine c4 ?_
  refine dr [] Ty.U9 (by kernel_rfl) (by kernel_rfl)<|S7 5 J<|r8 h λv2 hv2 h=>d2 J (C6 J b3w J hv2) J<|S8 2 J<|b7 ?_
  cases h
  exact f1

theorem b51{a0 a1}:PO Tryz.prog 252 [.L iF a0,.I a1] (a7v a0 a1) λr=>.I r:=by
 refine pO Tryz.func252 λr h _ _=>?_
 refine S4 2 J<|S4 2 J ?_
 refine jq h (λj11=>St.of [(5,.ptr 2001 0 0)] [(2001,vR (.I j11) 1)]) (λj11 h=>?_) λκ10 h=>?_
 ·refine S4 2 J ?_
  refine b7 ?_
  cases h
  exact f1
 ·refine S3 1 J ?_
  refine cF h a9Z J J λv12 _ h=>yN<|g8<|a2u (WPE (λl=>if l=2003 then 5 else if l=2004 then 3 else l) [(3,.ptr 2004 0 0),(5,.ptr 2003 0 0),(8,.fn (.func 316) [.rptr [.L iF v12]])] [(2003,vR (.I 0) 1),(2004,vR (.I a1) 1)]) ?_
  refine a0b (fn:=Tryz.f316) (N1:=20) J Tryz.func316 J J nl J Ty.c8i J J (λl17 e18 o19 hR20=>?_)
  refine S3 1 J<|nL J Ty.A5<|S2 1 J<|g8<|lq h (λq=>St.of [(1000003,.ptr 2004 0 0),(1000005,.ptr 2003 0 0),(1000008,.fn (.func 316) [.rptr [.L iF v12]]),(0,.fn (.yield l17) []),(5,.L iF v12),(6,.I (v12.length:Int)),(7,.I q.1)] [(2003,vR (.I q.2) 1),(2004,vR (.I a1) 1)]) W λq17 x16 h hx23=>?_
  obtain⟨s14,s15⟩:=q17
  refine S4 1 J<|c7 ?_
  refine cN h (λhc h=>?_) λhc h=>?_
  ·refine c4 ?_
   refine c7<|g8<|sR<|iL h J J Ty.A5 Ty.s3 λv18 _ h=>S2 2 J<|S3 3 J<|g7 J (λhg=>om (d:=.fn (.yield l17) []) J)<|g7 J (λhg=>mI J) ?_
   rcases Bool.eq_false_or_eq_true ((v18 != 0)==true) with hg25 | hg25
   ·have h:=ifT h hg25
    refine L4 (WE [(1000003,.ptr 2004 0 0),(1000005,.ptr 2003 0 0),(1000008,.fn (.func 316) [.rptr [.L iF v12]]),(0,.fn (.yield l17) []),(5,.L iF v12),(6,.I (v12.length:Int)),(7,.I s14),(13,.bool (v18 != 0)),(14,.fn (.yield l17) []),(15,.I v18)] [(2003,vR (.I s15) 1),(2004,vR (.I a1) 1)]) ?_
    refine a3Z hR20 (congrArg some hg25) J J J J J (λe26 o27 o28=>?_)
    refine S6 1 J ?_
    refine⟨J,?_⟩
    refine jqE h (λj20=>St.of [(2000003,.ptr 2004 0 0),(2000005,.ptr 2003 0 0),(2000008,.fn (.func 316) [.rptr [.L iF v12]]),(1000000,.fn (.yield l17) []),(1000005,.L iF v12),(1000006,.I (v12.length:Int)),(1000007,.I s14),(1000013,.bool (v18 != 0)),(1000014,.fn (.yield l17) []),(1000015,.I v18)] [(2003,vR (.I j20) 1),(2004,vR (.I a1) 1)]) (λj20 h=>?_) λκ19 h=>?_
    ·refine⟨J,?_⟩
     refine L4 (WE [(1000003,.ptr 2004 0 0),(1000005,.ptr 2003 0 0),(1000008,.fn (.func 316) [.rptr [.L iF v12]]),(0,.fn (.yield l17) []),(5,.L iF v12),(6,.I (v12.length:Int)),(7,.I s14),(13,.bool (v18 != 0)),(16,.bool true)] [(2003,vR (.I j20) 1),(2004,vR (.I a1) 1)])<|g7 J (λhg=>a01 J J)<|y0 J (p5 J J J (λq=>Q1 q))<|yN ?_
     refine cN h (λhc h=>?_) λhc h=>?_
     ·refine b7 ?_
      refine .inl ⟨J,?_⟩
      have h:=xL hx23 h
      exact eJ h (WP (λl=>if l=2001 then 2003 else l))
     ·refine c4 ?_
      refine S6 2 J ?_
      exact eL h W
    ·refine g8 ?_
     refine S4 3 J ?_
     refine cN h (λhc h=>?_) λhc h=>?_
     ·refine S6 3 J ?_
      exact eJ h W
     ·refine c4 ?_
      exact eJ h W
   ·have h:=ifF h hg25
    refine a1d (congrArg some hg25)<|a1d (congrArg some hg25)<|y0 J (a7f J J hg25)<|yN ?_
    refine G1 false J (λq=>nomatch q) (λ_=>?_)
    refine c4<|S6 2 J ?_
    exact eL h W
  ·refine n7 ?_
   refine c8<|c8<|j5 ?_
   refine .inl ⟨J,?_⟩
   have h:=xL hx23 h
   exact eJ h (WP (λl=>if l=2001 then 2003 else l))

theorem b3Z{a0 a1}:PO Tryz.prog 173 [.L iF a0,.I a1] (a5t a0 a1) λr=>.I r:=by
 refine pO Tryz.func173 λr h _ _=>?_
 refine S4 1 J<|S3 2 J<|cA h b51 J J λv1 _ h=>S2 1 J<|b7 ?_
 cases h
 exact f1

theorem b1B{a0 a1 a2 a3 a4}:PO Tryz.prog 170 [.I a0,l4.Pv a1,.rptr (a8.Pc a2),.rptr [.L c5.Pv a3],.rptr [.L iF a4]] (a2H a0 a1 a2 a3 a4) λr=>.bool r:=by
 refine pO Tryz.func170 λr h _ _=>?_
 unfold a2H at h
 refine S4 2 J<|dr [] Ty.U9 (by kernel_rfl) (by kernel_rfl)<|S7 2 J<|r8 h λv1 hv1 h=>d2 J (C6 J b2e J hv1) J<|S7 2 J<|K3 J (λhg=>a9j J Ty.a26 Ty.s26 nl J) J<|K3 J (λhg=>D4 J Ty.a29 J) J<|D0 J (λhg _ hN=>mI J) J<|r8 h λv2 hv2 h=>b4f J (λhg=>C6 J b39 (B8 (ct hg) (B8 (ct hg) (B8 (ct hg) J))) (F3 hv2 hg)) J<|K3 J (λhg=>D4 J Ty.a27 J) J<|D0 J (λhg _ hN=>mI J) J<|r8 h λv3 hv3 h=>b4f J (λhg=>C6 J b3Z (B8 (ct hg) (B8 (ct hg) J)) (F3 hv3 hg)) J<|D0 J (λhg _ hN=>n9 (ct hg) (ct hg) J) J<|d7 J (λ_ hN=>p5 J J J (λq=>Q1 q)) J<|S8 1 J<|b7 ?_
 cases h
 exact f1

theorem b38{a0 a1 a2}:PO Tryz.prog 93 [a8.Pv a0,.L c5.Pv a1,.L iF a2] (a5I a0 a1 a2) λr=>.bool r:=by
 refine pO Tryz.func93 λr h _ _=>?_
 refine S4 4 J<|S3 1 J<|y0 J (m9 (cs:=[.fn (.func 170) [.ptr 3 0 0,.ptr 4 0 0,.ptr 5 0 0]]) J Ty.c98 Ty.d0w J J J)<|L4 (a2x 9 (d':=.agg [.fn (.func 170) [.ptr 3 0 0,.ptr 4 0 0,.ptr 5 0 0]]) J)<|S2 2 J<|S3 2 J<|L4 (WPE (λl=>if l=2001 then 5 else if l=2002 then 4 else if l=2003 then 3 else l) [(10,.agg [.fn (.func 170) [.ptr 2003 0 0,.ptr 2002 0 0,.ptr 2001 0 0]]),(11,a8.Pv a0)] [(2001,vR (.L iF a2) 1),(2002,vR (.L c5.Pv a1) 1),(2003,vR (a8.Pv a0) 3)]) ?_
 refine b7F (fn:=Tryz.f174) (N1:=34) J J Tryz.func174 J Ty.c9Z J J nl (λe1 o2=>?_)
 refine jqR h (λj36=>St.of [(1000010,.agg [.fn (.func 170) [.ptr 2003 0 0,.ptr 2002 0 0,.ptr 2001 0 0]]),(1000011,a8.Pv a0),(4,.sl 910005)] [(910005,⟨List.map iF j36,(List.map iF j36).length,true,1,true⟩),(2001,vR (.L iF a2) 1),(2002,vR (.L c5.Pv a1) 1),(2003,vR (a8.Pv a0) 3)]) (λj36 h=>dup ?_) λκ35 h=>?_
 ·refine⟨J,[.sl 910005],⟨J,tr⟩,?_⟩
  refine L4 (WPE (λl=>if l=2004 then 910005 else l) [(12,.sl 2004)] [(2004,⟨List.map iF j36,(List.map iF j36).length,true,1,true⟩)])<|y0 J (b6S (f:=iF) J J J Ty.A5)<|S2 2 J<|b7 ?_
  cases h
  exact f1
 ·refine S4 3 J ?_
  refine S4 1 J ?_
  refine jq h (λj54=>St.of [(1000010,.agg [.fn (.func 170) [.ptr 2003 0 0,.ptr 2002 0 0,.ptr 2001 0 0]]),(1000011,a8.Pv a0),(5,.sl 910005)] [(910005,⟨List.map iF j54,(List.map iF j54).length,true,1,true⟩),(2001,vR (.L iF a2) 1),(2002,vR (.L c5.Pv a1) 1),(2003,vR (a8.Pv a0) 3)]) (λj54 h=>?_) λκ53 h=>?_
  ·refine S4 2 J ?_
   refine b7 ?_
   exact eJ h (Wk.trans (n0 _ [910005]) W)
  ·refine S3 1 J ?_
   refine cF h a0i J J λv55 _ h=>nL J Ty.A5<|S2 1 J<|g8<|lq h (λq=>St.of [(1000010,.agg [.fn (.func 170) [.ptr 2003 0 0,.ptr 2002 0 0,.ptr 2001 0 0]]),(1000011,a8.Pv a0),(2,.ptr 2 0 0),(3,.ptr 3 0 0),(5,.sl 910005),(11,.L iF v55),(12,.I (v55.length:Int)),(13,.I q.1)] [(3,vR (a8.Pv a0) 3),(2,vS (.agg [.fn (.func 170) [.ptr 2003 0 0,.ptr 2002 0 0,.ptr 2001 0 0]]) 1),(2001,vR (.L iF a2) 1),(2002,vR (.L c5.Pv a1) 1),(2003,vR (a8.Pv a0) 3),(910005,⟨List.map iF q.2,(List.map iF q.2).length,true,1,true⟩)]) (Wk.trans (F2 (t:=5) (l:=920005) (z:=1) J J) (WP (λl=>if l=910005 then 920005 else l))) λq60 x59 h hx48=>?_
   obtain⟨s57,s58⟩:=q60
   refine S4 1 J<|c7 ?_
   refine cN h (λhc h=>?_) λhc h=>?_
   ·refine c4 ?_
    refine jq h (λj66=>St.of [(1000010,.agg [.fn (.func 170) [.ptr 2003 0 0,.ptr 2002 0 0,.ptr 2001 0 0]]),(1000011,a8.Pv a0),(2,.ptr 2 0 0),(3,.ptr 3 0 0),(5,.sl 31),(11,.L iF v55),(12,.I (v55.length:Int)),(13,.I s57)] [(31,⟨List.map iF j66,(List.map iF j66).length,true,1,true⟩),(3,vR (a8.Pv a0) 3),(2,vS (.agg [.fn (.func 170) [.ptr 2003 0 0,.ptr 2002 0 0,.ptr 2001 0 0]]) 1),(2001,vR (.L iF a2) 1),(2002,vR (.L c5.Pv a1) 1),(2003,vR (a8.Pv a0) 3)]) (λj66 h=>?_) λκ65 h=>?_
    ·refine S6 2 J ?_
     exact eL h (Wk.trans (n0 _ [31]) (WP (λl=>if l=910005 then 31 else l)))
    ·refine g8 ?_
     refine sR<|iL h J J Ty.A5 Ty.s3 λv67 _ h=>S2 2 J<|S3 2 J<|cF h A7 J J λv68 _ h=>S2 6 J<|S3 4 J<|cA h b1B J J λv69 _ h=>yN ?_
     refine cN h (λhc h=>?_) λhc h=>?_
     ·refine S5 2 J ?_
      refine y0 J (M2 (f:=iF) (l:=[v67]) J Ty.A5 Ty.s3 Ty.z3 J J nl J J)<|r8 h λv70 hv57 h=>L0 J (H5 (f:=iF) hv57 J J J J J J (.inl ⟨_,J,J⟩) Ty.A5 Ty.s3 Ty.b3 Ty.z3 J (λ_=>J)) J J J<|S2 1 J ?_
      exact eJ h (Wk.trans (n0 _ [31]) W)
     ·refine c4 ?_
      exact eJ h (Wk.trans (n0 _ [910005]) (WP (λl=>if l=31 then 910005 else l)))
   ·refine n7 ?_
    refine c8<|c8<|j5 ?_
    have h:=xL hx48 h
    exact eJ h (Wk.trans (n0 _ [910005]) W)

theorem b3V{a0}:PO Tryz.prog 38 [b9.Pv a0] (a5f a0) λr=>.bool r:=by
 refine pO Tryz.func38 λr h _ _=>?_
 refine S4 2 J<|c7<|S3 1 J<|cA h a85 J J λv1 _ h=>S2 1 J ?_
 refine cN h (λhc h=>?_) λhc h=>?_
 ·refine S4 1 J ?_
  refine b7 ?_
  cases h
  exact f1
 ·refine c4 ?_
  refine jq h (λ_=>St.of [(1,.ptr 1 0 0)] [(1,vR (b9.Pv a0) 8)]) (λq9 h=>?_) λκ8 h=>?_
  ·refine dr [] Ty.U9 (by kernel_rfl) (by kernel_rfl) ?_
   refine S7 5 J<|r8 h λv10 hv11 h=>d2f J (y4 J b3U J hv11) J<|r8 h λv11 hv12 h=>d2 J (C6 J b38 J hv12) J<|S8 1 J<|b7 ?_
   cases h
   exact f1
  ·refine sR ?_
   refine y0 J (M2 (f:=λn:Nat=>PV.fn (.func n) []) (l:=[88,89,90,91,92]) J Ty.c59 Ty.s37 Ty.z37 J J nl J J)<|L4 (c7B 8 (d':=.lst true (List.map fvE [(some 88),(some 89),(some 90),(some 91),(some 92)])) J J J)<|nL J Ty.c59<|S2 1 J<|g8<|lq h (λs13=>St.of [(1,.ptr 1 0 0),(8,.lst true (List.map fvE [(some 88),(some 89),(some 90),(some 91),(some 92)])),(9,.I ([(some 88),(some 89),(some 90),(some 91),(some 92)].length:Int)),(10,.I s13)] [(1,vR (b9.Pv a0) 8)]) W λs13 x14 h hx15=>S4 1 J<|c7 ?_
   refine cN h (λhc h=>?_) λhc h=>?_
   ·refine c4 ?_
    refine c7<|g8<|sR<|iL h J J Ty.c59 Ty.s37 λv15 _ h=>S2 2 J<|S3 2 J ?_
    obtain⟨v16,hv17,h⟩:=a6f h
    obtain⟨n17,he18,hk19,hp20⟩:=b74 hv17
    refine L4 (b9Y 14 J he18)<|y0 J (b2I J hk19 J hp20)<|S2 1 J ?_
    refine cN h (λhc h=>?_) λhc h=>?_
    ·refine S4 1 J ?_
     refine b7 ?_
     have h:=xL hx15 h
     cases h
     exact f1
    ·refine c4 ?_
     refine S6 2 J ?_
     exact eL h W
   ·refine n7 ?_
    refine c8<|c8<|j5 ?_
    have h:=xL hx15 h
    exact eJ h W

theorem a91:PO Tryz.prog 11 [] (a4R) λr=>.bool r:=by
 refine pO Tryz.func11 λr h _ _=>?_
 refine S4 1 J<|sR<|cF h b07 J J λv1 _ h=>y0 J (m9 (cs:=[.I 1,.I 0,.I 1,.I (-1)]) J Ty.p36 Ty.z36 J J J)<|y0 J (m9 (cs:=[.I 2,.I 1,.I 0,.I 0]) J Ty.p36 Ty.z36 J J J)<|y0 J (m9 (cs:=[.I 6,.I 2,.I 1,.I 0]) J Ty.p36 Ty.z36 J J J)<|y0 J (m9 (cs:=[.I 10,.I 0,.I 1,.I 0]) J Ty.p36 Ty.z36 J J J)<|y0 J (m9 (cs:=[.I 3,.I 0,.I 0,.I 0]) J Ty.p36 Ty.z36 J J J)<|y0 J (m9 (cs:=[.I 7,.I 3,.I 2,.I 0]) J Ty.p36 Ty.z36 J J J)<|y0 J (m9 (cs:=[.I 3,.I 1,.I 0,.I 0]) J Ty.p36 Ty.z36 J J J)<|y0 J (m9 (cs:=[.I 3,.I 3,.I 0,.I 0]) J Ty.p36 Ty.z36 J J J)<|y0 J (M2 (f:=code_Op.Pv) (l:=[(⟨1,0,1,(-1)⟩:code_Op),(⟨2,1,0,0⟩:code_Op),(⟨6,2,1,0⟩:code_Op),(⟨10,0,1,0⟩:code_Op),(⟨3,0,0,0⟩:code_Op),(⟨7,3,2,0⟩:code_Op),(⟨3,1,0,0⟩:code_Op),(⟨3,3,0,0⟩:code_Op)]) J Ty.e61 Ty.s36 Ty.z36 J J nl J J)<|cF h a6u J J λv2 _ h=>S2 6 J<|S3 1 J<|y0 J (m9 (cs:=[.I 7,.I 3,.I 2,.I 0]) J Ty.p36 Ty.z36 J J J)<|cF h a1Q J J λv3 _ h=>S2 8 J<|S3 1 J<|y0 J (m9 (cs:=[.I 4,.I 0,.I 0,.I 0]) J Ty.p36 Ty.z36 J J J)<|cF h a1Q J J λv4 _ h=>S2 8 J<|S3 1 J<|y0 J (m9 (cs:=[.I 11,.I 0,.I 0,.I 0]) J Ty.p36 Ty.z36 J J J)<|cF h a1Q J J λv5 _ h=>S2 8 J<|S3 1 J<|nL J Ty.A5<|S1 2 J<|g7 J (λhg=>om (d:=.L iF v2.2) J)<|r8 h λv6 hv6 h=>g7 J (λhg=>y5 (f:=iF) (cs:=[.I v6]) (F3 hv6 hg) (ct hg) J Ty.A5 Ty.s3 J J)<|g7 J (λhg=>D4 (ct hg) Ty.a3 J)<|g7 J (λhg=>n9 (ct hg) J J)<|y0 J (p5 J J J (λq=>Q1 q))<|S1 1 J<|g7 J (λhg=>om (d:=.L iF v2.2) J)<|r8 h λv7 hv7 h=>g7 J (λhg=>y5 (f:=iF) (cs:=[.I v7]) (F3 hv7 hg) (ct hg) J Ty.A5 Ty.s3 J J)<|g7 J (λhg=>D4 (ct hg) Ty.a3 J)<|g7 J (λhg=>n9 (ct hg) J J)<|y0 J (p5 J J J (λq=>Q1 q))<|S1 1 J<|g7 J (λhg=>om (d:=.L iF v2.2) J)<|r8 h λv8 hv8 h=>g7 J (λhg=>y5 (f:=iF) (cs:=[.I v8]) (F3 hv8 hg) (ct hg) J Ty.A5 Ty.s3 J J)<|g7 J (λhg=>D4 (ct hg) Ty.a3 J)<|g7 J (λhg=>n9 (ct hg) J J)<|y0 J (p5 J J J (λq=>Q1 q))<|S1 1 J<|g7 J (λhg=>om (d:=.L iF v2.2) J)<|r8 h λv9 hv9 h=>g7 J (λhg=>y5 (f:=iF) (cs:=[.I v9]) (F3 hv9 hg) (ct hg) J Ty.A5 Ty.s3 J J)<|g7 J (λhg=>D4 (ct hg) Ty.a3 J)<|g7 J (λhg=>n9 (ct hg) J J)<|y0 J (p5 J J J (λq=>Q1 q))<|S1 1 J<|g7 J (λhg=>om (d:=.L iF v2.2) J)<|r8 h λv10 hv10 h=>g7 J (λhg=>y5 (f:=iF) (cs:=[.I v10]) (F3 hv10 hg) (ct hg) J Ty.A5 Ty.s3 J J)<|g7 J (λhg=>D4 (ct hg) Ty.a3 J)<|g7 J (λhg=>n9 (ct hg) J J)<|y0 J (p5 J J J (λq=>Q1 q))<|S1 1 J<|g7 J (λhg=>om (d:=.L iF v2.2) J)<|r8 h λv11 hv11 h=>g7 J (λhg=>y5 (f:=iF) (cs:=[.I v11]) (F3 hv11 hg) (ct hg) J Ty.A5 Ty.s3 J J)<|g7 J (λhg=>D4 (ct hg) Ty.a3 J)<|g7 J (λhg=>n9 (ct hg) J J)<|y0 J (p5 J J J (λq=>Q1 q))<|S1 1 J<|g7 J (λhg=>om (d:=.L iF v2.2) J)<|r8 h λv12 hv12 h=>g7 J (λhg=>y5 (f:=iF) (cs:=[.I v12]) (F3 hv12 hg) (ct hg) J Ty.A5 Ty.s3 J J)<|g7 J (λhg=>D4 (ct hg) Ty.a3 J)<|g7 J (λhg=>n9 (ct hg) J J)<|y0 J (p5 J J J (λq=>Q1 q))<|S1 1 J<|g7 J (λhg=>mI J)<|g7 J (λhg=>n9 (ct hg) J J)<|y0 J (p5 J J J (λq=>Q1 q))<|S1 1 J<|g7 J (λhg=>mI J)<|g7 J (λhg=>n9 (ct hg) J J)<|y0 J (p5 J J J (λq=>Q1 q))<|S1 1 J<|g7 J (λhg=>mI J)<|g7 J (λhg=>n9 (ct hg) J J)<|y0 J (p5 J J J (λq=>Q1 q))<|S1 1 J<|g7 J (λhg=>mI J)<|g7 J (λhg=>n9 (ct hg) J J)<|y0 J (p5 J J J (λq=>Q1 q))<|S1 1 J<|g7 J (λhg=>oF J Ty.b6w J)<|g7 J (λhg=>oF (ct hg) Ty.c1C J)<|g7 J (λhg=>oS (ct hg) J J Ty.a30 J)<|g7 J (λhg=>L5 (f:=j2.Pv) (ct hg) Ty.e30)<|g7 J (λhg=>n9 (ct hg) J J)<|y0 J (p5 J J J (λq=>Q1 q))<|S1 1 J<|g7 J (λhg=>oF J Ty.c76 J)<|g7 J (λhg=>oL (ct hg) J J Ty.a26 Ty.s26 nl J)<|r8 h λv13 hv13 h=>c84 J (λhg=>y4 J a0i (B8 (ct hg) J) (F3 hv13 hg))<|g7 J (λhg=>L5 (f:=iF) (ct hg) Ty.A5)<|g7 J (λhg=>n9 (ct hg) J J)<|y0 J (p5 J J J (λq=>Q1 q))<|S1 1 J<|g7 J (λhg=>oL J J J Ty.X6 Ty.P8 nl J)<|r8 h λv14 hv14 h=>g7 J (λhg=>C6 J a1P (B8 (ct hg) (B8 J J)) (F3 hv14 hg))<|g7 J (λhg=>n9 (ct hg) J J)<|y0 J (p5 J J J (λq=>Q1 q))<|S1 1 J<|g7 J (λhg=>oL J J J Ty.X6 Ty.P8 nl J)<|r8 h λv15 hv15 h=>g7 J (λhg=>C6 J b3V (B8 (ct hg) J) (F3 hv15 hg))<|y0 J (p5 J J J (λq=>Q1 q))<|S2 1 J<|b7 ?_
 cases h
 exact f1

theorem b8q{a0 a1}:PO Tryz.prog 135 [.I a0,.I a1] (b5q a0 a1) λr=>s6.Pv r:=by
 refine pO Tryz.func135 λr h _ _=>?_
 refine S4 1 J<|c7<|S3 3 J<|g7 J (λhg=>mI J)<|g7 J (λhg=>n9 (ct hg) J J)<|y0 J (u9 J J J (λq=>R8 q))<|S1 1 J<|g7 J (λhg=>mI J)<|g7 J (λhg=>n9 (ct hg) J J)<|y0 J (u9 J J J (λq=>R8 q))<|S1 1 J<|g7 J (λhg=>mI J)<|g7 J (λhg=>n9 (ct hg) J J)<|y0 J (u9 J J J (λq=>R8 q))<|yN ?_
 refine cN h (λhc h=>?_) λhc h=>?_
 ·refine sR ?_
  refine y0 J (m9 (cs:=[.nl,.I 0]) J Ty.c4w Ty.c45 J J J)<|a3Y (x':=.agg [.nl,.I 0]) (cl':=true) J J (.inl J) Ty.a9M<|yN<|b7 ?_
  cases h
  exact⟨J,[_],⟨oL J J J Ty.b2a Ty.a9M nl J,tr⟩,J,io⟩
 ·refine c4 ?_
  refine S3 1 J<|r8 h λv1 hv1 h=>y1 J (b1x (f:=r7.Pv) hv1 J J J Ty.a43 Ty.a6U Ty.b6d Ty.c5Z J J J) J<|S1 1 J<|y0 J (m9 (cs:=[.sl 21,.I a1]) J Ty.c4w Ty.c45 J J J)<|S2 1 J<|b7 ?_
  cases h
  exact⟨J,[_],⟨oL J J J Ty.b2a Ty.a9M nl J,tr⟩,J,io⟩

theorem b8u{a0 a1}:PO Tryz.prog 64 [.I a0,.I a1] (b1R a0 a1) λr=>k9.Pv r:=by
 refine pO Tryz.func64 λr h _ _=>?_
 refine S4 1 J<|S3 2 J<|cF h b8q J J λv1 _ h=>S2 2 J<|dr [] Ty.U9 (by kernel_rfl) (by kernel_rfl)<|S7 2 J<|d0 J (L5 (f:=r7.Pv) J Ty.a43) J<|r8 h λv2 hv2 h=>d1 J (b1x (f:=l6.Pv) hv2 J J J Ty.e42 Ty.a19 Ty.b7G Ty.c3I J J J) J J J<|S7 2 J<|d7 J (λ_ hN=>m9 (cs:=[.sl 12,.I v1.Last,.I 0]) J Ty.p44 Ty.z44 J J J) J<|G9 (x':=.agg [.sl 12,.I v1.Last,.I 0]) (cl':=false) J J (.inl J) Ty.s44<|N6<|b7 ?_
 cases h
 exact⟨J,[_],⟨oL J J J Ty.a44 Ty.s44 nl J,tr⟩,J,io⟩

theorem b8y{a0}:PO Tryz.prog 65 [.I a0] (b9F a0) λr=>.L k8.Pv r:=by
 refine pO Tryz.func65 λr h _ _=>?_
 refine S4 1 J<|sR<|y0 J (B3 J Ty.e45 Ty.a4c)<|S2 1 J ?_
 refine jq h (λj8=>St.of [(3,.sl 910003)] [(910003,⟨List.map k8.Pv j8,(List.map k8.Pv j8).length,true,3,true⟩)]) (λj8 h=>?_) λκ7 h=>?_
 ·refine S4 2 J ?_
  refine b7 ?_
  cases h
  exact f1
 ·refine S4 1 J ?_
  refine g8<|lq h (λq=>St.of [(0,.I a0),(3,.sl 910003),(4,.I q.1)] [(910003,⟨List.map k8.Pv q.2,(List.map k8.Pv q.2).length,true,3,true⟩)]) (Wk.trans (F2 (t:=3) (l:=920003) (z:=3) J J) (WP (λl=>if l=910003 then 920003 else l))) λq13 x12 h hx8=>?_
  obtain⟨s10,s11⟩:=q13
  refine c7<|S3 4 J<|g7 J (λhg=>mI J)<|g7 J (λhg=>n9 (ct hg) J J)<|y0 J (p5 J J J (λq=>Q1 q))<|yN ?_
  refine cN h (λhc h=>?_) λhc h=>?_
  ·refine c4 ?_
   refine c7<|g8<|S5 1 J<|y0 J (m9 (cs:=[.I 0,.bool false,.I (-1)]) J Ty.c8A Ty.b6c J J J)<|y0 J (M2 (f:=k8.Pv) (l:=[(⟨0,false,(-1)⟩:k8)]) J Ty.e45 Ty.a4c Ty.b6c J J nl J J)<|r8 h λv14 hv9 h=>L0 J (H5 (f:=k8.Pv) hv9 J J J J J J (.inl ⟨_,J,J⟩) Ty.e45 Ty.a4c Ty.c3J Ty.b6c J (λ_=>J)) J J J<|S2 1 J<|S6 3 J ?_
   exact eL h (Wk.trans (n0 _ [18]) (WP (λl=>if l=910003 then 18 else l)))
  ·refine n7 ?_
   refine c8<|c8<|j5 ?_
   have h:=xL hx8 h
   exact eJ h (Wk.trans (n0 _ [910003]) W)

theorem b8A{a0}:PO Tryz.prog 66 [.I a0] (b5v a0) λr=>.L j4.Pv r:=by
 refine pO Tryz.func66 λr h _ _=>?_
 refine S4 1 J<|c7<|S3 3 J<|g7 J (λhg=>mI J)<|g7 J (λhg=>n9 (ct hg) J J)<|y0 J (u9 J J J (λq=>R8 q))<|yN ?_
 refine cN h (λhc h=>?_) λhc h=>?_
 ·refine S4 1 J ?_
  refine b7 ?_
  cases h
  exact f1
 ·refine c4 ?_
  refine S3 1 J<|r8 h λv1 hv1 h=>y1 J (b1x (f:=j4.Pv) hv1 J J J Ty.e46 Ty.a8v Ty.b88 Ty.c5X J J J) J<|S2 1 J<|b7 ?_
  cases h
  exact f1

theorem b8E:PO Tryz.prog 67 [] (b5w) λr=>r9.Pv r:=by
 refine pO Tryz.func67 λr h _ _=>?_
 unfold b5w at h
 refine S4 1 J<|sR<|y0 J (m9 (cs:=[.nl,.I 30]) J Ty.p49 Ty.z49 J J J)<|a3Y (x':=.agg [.nl,.I 30]) (cl':=true) J J (.inl J) Ty.s49<|yN<|b7 ?_
 cases h
 exact⟨J,[_],⟨oL J J J Ty.a49 Ty.s49 nl J,tr⟩,J,io⟩

theorem b8F{a0 a1 a2}:PO Tryz.prog 25 [.I a0,.I a1,.I a2] (b1X a0 a1 a2) λr=>g5.Pv r:=by
 refine pO Tryz.func25 λr h _ _=>?_
 refine S4 1 J<|c7<|S3 3 J<|g7 J (λhg=>mI J)<|g7 J (λhg=>n9 (ct hg) J J)<|y0 J (u9 J J J (λq=>R8 q))<|S1 1 J<|g7 J (λhg=>mI J)<|g7 J (λhg=>n9 (ct hg) J J)<|y0 J (u9 J J J (λq=>R8 q))<|S1 1 J<|g7 J (λhg=>mI J)<|g7 J (λhg=>n9 (ct hg) J J)<|y0 J (u9 J J J (λq=>R8 q))<|S1 1 J<|g7 J (λhg=>mI J)<|g7 J (λhg=>n9 (ct hg) J J)<|y0 J (u9 J J J (λq=>R8 q))<|S1 1 J<|g7 J (λhg=>mI J)<|g7 J (λhg=>n9 (ct hg) J J)<|y0 J (u9 J J J (λq=>R8 q))<|yN ?_
 refine cN h (λhc h=>?_) λhc h=>?_
 ·refine sR ?_
  refine y0 J (m9 (cs:=[.nl,.I 0,.I 0,.nl,.nl,.nl,.nl,.I 0]) J Ty.p51 Ty.z51 J J J)<|a3Y (x':=.agg [.nl,.I 0,.I 0,.nl,.nl,.nl,.nl,.I 0]) (cl':=true) J J (.inl J) Ty.Z6<|yN<|b7 ?_
  cases h
  exact⟨J,[_],⟨oL J J J Ty.a51 Ty.Z6 nl J,tr⟩,J,io⟩
 ·refine c4 ?_
  refine dr [] Ty.U9 (by kernel_rfl) (by kernel_rfl)<|S7 2 J<|r8 h λv1 hv1 h=>d2f J (y4 J b8u J hv1) J<|r8 h λv2 hv2 h=>d1 J (b1x (f:=iF) hv2 J J J Ty.A5 Ty.s3 Ty.z3 Ty.b3 J J J) J J J<|r8 h λv3 hv3 h=>d2f J (y4 J b8y J hv3) J<|S7 1 J<|r8 h λv4 hv4 h=>d2f J (y4 J b8A J hv4) J<|r8 h λv5 hv5 h=>d2f J (y4 J b8E J hv5) J<|d7 J (λ_ hN=>m9 (cs:=[.L l6.Pv v1.a7,.I v1.Last,.I v1.Serial,.sl 33,.L k8.Pv v3,.L j4.Pv v4,.L p6.Pv v5.L,.I v5.Cap]) J Ty.p51 Ty.z51 J J J) J<|G9 (x':=.agg [.L l6.Pv v1.a7,.I v1.Last,.I v1.Serial,.sl 33,.L k8.Pv v3,.L j4.Pv v4,.L p6.Pv v5.L,.I v5.Cap]) (cl':=false) J J (.inr J) Ty.Z6<|N6<|b7 ?_
  cases h
  exact⟨J,[_],⟨oL J J J Ty.a51 Ty.Z6 nl J,tr⟩,J,io⟩

theorem c0X{a0}:PO Tryz.prog 15 [code_Op.Pv a0] (b54 a0) λr=>C0.Pv r:=by
 refine pO Tryz.func15 λr h _ _=>?_
 unfold b54 at h
 refine S4 2 J<|S4 2 J<|b7 ?_
 cases h
 exact⟨J,[_],⟨oL J J J Ty.a55 Ty.s55 nl J,tr⟩,J,io⟩

theorem b81{a0}:PO Tryz.prog 26 [.L code_Op.Pv a0] (b16 a0) λr=>.L C0.Pv r:=by
 refine pO Tryz.func26 λr h _ _=>?_
 refine S4 1 J<|sR<|y0 J (B3 J Ty.e68 Ty.s55)<|S2 1 J ?_
 refine jq h (λj10=>St.of [(3,.sl 910003)] [(910003,⟨List.map C0.Pv j10,(List.map C0.Pv j10).length,true,4,true⟩)]) (λj10 h=>?_) λκ9 h=>?_
 ·refine S4 2 J ?_
  refine b7 ?_
  cases h
  exact f1
 ·refine S4 1 J ?_
  refine g8<|lq h (λq=>St.of [(0,.L code_Op.Pv a0),(3,.sl 910003),(4,.I q.1)] [(910003,⟨List.map C0.Pv q.2,(List.map C0.Pv q.2).length,true,4,true⟩)]) (Wk.trans (F2 (t:=3) (l:=920003) (z:=4) J J) (WP (λl=>if l=910003 then 920003 else l))) λq15 x14 h hx10=>?_
  obtain⟨s12,s13⟩:=q15
  refine c7<|S3 2 J<|nL J Ty.e61<|S2 1 J ?_
  refine cN h (λhc h=>?_) λhc h=>?_
  ·refine c4 ?_
   refine c7<|g8<|S5 3 J<|iL h J J Ty.e61 Ty.s36 λv16 _ h=>S1 1 J<|cA h c0X J J λv17 _ h=>y0 J (M2 (f:=C0.Pv) (l:=[v17]) J Ty.e68 Ty.s55 Ty.z55 J J nl J J)<|r8 h λv18 hv13 h=>L0 J (H5 (f:=C0.Pv) hv13 J J J J J J (.inl ⟨_,J,J⟩) Ty.e68 Ty.s55 Ty.b55 Ty.z55 J (λ_=>J)) J J J<|S2 1 J<|S6 3 J ?_
   exact eL h (Wk.trans (n0 _ [19]) (WP (λl=>if l=910003 then 19 else l)))
  ·refine n7 ?_
   refine c8<|c8<|j5 ?_
   have h:=xL hx10 h
   exact eJ h (Wk.trans (n0 _ [910003]) W)

theorem L8{a0 a1 a2 a3}:PO Tryz.prog 110 [.I a0,.I a1,.I a2,.I a3] (Z5 a0 a1 a2 a3) λr=>.I r:=by
 refine pO Tryz.func110 λr h _ _=>?_
 refine S4 1 J<|c7<|S3 4 J<|g7 J (λhg=>mI J)<|g7 J (λhg=>mI J)<|g7 J (λhg=>n9 (ct hg) (ct hg) J)<|y0 J (u9 J J J (λq=>R8 q))<|yN ?_
 refine cN h (λhc h=>?_) λhc h=>?_
 ·refine S4 2 J ?_
  refine b7 ?_
  cases h
  exact f1
 ·refine c4 ?_
  refine S4 1 J<|b7 ?_
  cases h
  exact f1

theorem R2{a0 a1 a2}:PO Tryz.prog 111 [.I a0,.I a1,.I a2] (T5 a0 a1 a2) λr=>.I r:=by
 refine pO Tryz.func111 λr h _ _=>?_
 refine S4 1 J<|c7<|S4 2 J ?_
 refine cN h (λhc h=>?_) λhc h=>?_
 ·refine S4 2 J ?_
  refine b7 ?_
  cases h
  exact f1
 ·refine c4 ?_
  refine c7<|S4 2 J ?_
  refine cN h (λhc h=>?_) λhc h=>?_
  ·refine S4 2 J ?_
   refine b7 ?_
   cases h
   exact f1
  ·refine c4 ?_
   refine S4 2 J<|b7 ?_
   cases h
   exact f1

theorem b5z{a0}:PO Tryz.prog 43 [C0.Pv a0] (a7m a0) λr=>.I r:=by
 refine pO Tryz.func43 λr h _ _=>?_
 refine S4 2 J<|S3 2 J<|cA h L8 J J λv1 _ h=>S2 1 J<|S3 2 J<|cA h L8 J J λv2 _ h=>S2 1 J<|c7<|S4 2 J<|g8<|S4 2 J ?_
 refine cN h (λhc h=>?_) λhc h=>?_
 ·refine dr [] Ty.U9 (by kernel_rfl) (by kernel_rfl) ?_
  refine S7 3 J<|r8 h λv3 hv3 h=>d2 J (C6 J L8 J hv3) J<|S7 2 J<|r8 h λv4 hv4 h=>d2 J (C6 J L8 J hv4) J<|r8 h λv5 hv5 h=>d2 J (C6 J R2 J hv5) J<|S8 1 J<|b7 ?_
  cases h
  exact f1
 ·refine jq h (λj7=>St.of [(1,.ptr 1 0 0),(3,.I v1),(4,.I v2),(12,.I a0.Kind),(23,.bool j7)] [(1,vR (C0.Pv a0) 4)]) (λj7 h=>?_) λκ6 h=>?_
  ·refine cN h (λhc h=>?_) λhc h=>?_
   ·refine S3 2 J ?_
    refine cA h R2 J J λv8 _ h=>S2 1 J<|b7 ?_
    cases h
    exact f1
   ·refine S4 2 J ?_
    refine cN h (λhc h=>?_) λhc h=>?_
    ·refine S4 2 J ?_
     refine b7 ?_
     cases h
     exact f1
    ·refine S4 2 J ?_
     refine cN h (λhc h=>?_) λhc h=>?_
     ·refine S3 4 J ?_
      refine cA h L8 J J λv9 _ h=>cA h R2 J J λv10 _ h=>S2 1 J<|b7 ?_
      cases h
      exact f1
     ·refine S4 2 J ?_
      refine cN h (λhc h=>?_) λhc h=>?_
      ·refine dr [] Ty.U9 (by kernel_rfl) (by kernel_rfl) ?_
       refine S7 3 J<|r8 h λv11 hv10 h=>d2 J (C6 J L8 J hv10) J<|S7 2 J<|r8 h λv12 hv11 h=>d2 J (C6 J L8 J hv11) J<|r8 h λv13 hv12 h=>d2 J (C6 J R2 J hv12) J<|S8 1 J<|b7 ?_
       cases h
       exact f1
      ·refine S4 2 J ?_
       refine cN h (λhc h=>?_) λhc h=>?_
       ·refine dr [] Ty.U9 (by kernel_rfl) (by kernel_rfl) ?_
        refine S7 2 J<|r8 h λv14 hv13 h=>d2 J (C6 J L8 J hv13) J<|S7 2 J<|r8 h λv15 hv14 h=>d2 J (C6 J L8 J hv14) J<|S7 2 J<|r8 h λv16 hv15 h=>d2 J (C6 J L8 J hv15) J<|r8 h λv17 hv16 h=>d2 J (C6 J R2 J hv16) J<|S8 1 J<|b7 ?_
        cases h
        exact f1
       ·refine S4 2 J ?_
        refine cN h (λhc h=>?_) λhc h=>?_
        ·refine S3 3 J ?_
         refine cA h L8 J J λv18 _ h=>cA h R2 J J λv19 _ h=>S2 1 J<|b7 ?_
         cases h
         exact f1
        ·refine S4 2 J ?_
         refine cN h (λhc h=>?_) λhc h=>?_
         ·refine S3 3 J ?_
          refine cA h L8 J J λv20 _ h=>cA h R2 J J λv21 _ h=>S2 1 J<|b7 ?_
          cases h
          exact f1
         ·refine S4 2 J ?_
          refine cN h (λhc h=>?_) λhc h=>?_
          ·refine S4 1 J ?_
           refine b7 ?_
           cases h
           exact f1
          ·refine S4 2 J ?_
           refine cN h (λhc h=>?_) λhc h=>?_
           ·refine S3 2 J ?_
            refine cA h L8 J J λv22 _ h=>S2 1 J<|b7 ?_
            cases h
            exact f1
           ·refine c4 ?_
            refine S4 1 J<|b7 ?_
            cases h
            exact f1
  ·refine S4 2 J ?_
   refine cN h (λhc h=>?_) λhc h=>?_
   ·refine c4 ?_
    exact eJ h W
   ·refine S4 2 J ?_
    refine cN h (λhc h=>?_) λhc h=>?_
    ·refine c4 ?_
     exact eJ h W
    ·refine S6 2 J ?_
     exact eJ h W

theorem b5A{a0}:PO Tryz.prog 44 [C0.Pv a0] (a0C a0) λr=>.bool r:=by
 refine pO Tryz.func44 λr h _ _=>?_
 unfold a0C at h
 refine S4 2 J<|S3 4 J<|g7 J (λhg=>oF J Ty.c77 J)<|g7 J (λhg=>oS (ct hg) J J Ty.a3 J)<|g7 J (λhg=>n9 (ct hg) J J)<|y0 J (p5 J J J (λq=>Q1 q))<|S2 1 J<|b7 ?_
 cases h
 exact f1

theorem b5x{a0 a1}:PO Tryz.prog 143 [r9.Pv a0,.I a1] (a1y a0 a1) λr=>.bool r:=by
 refine pO Tryz.func143 λr h _ _=>?_
 refine S4 2 J ?_
 refine jq h (λ_=>St.of [] []) (λq6 h=>?_) λκ5 h=>?_
 ·refine S4 1 J ?_
  refine b7 ?_
  cases h
  exact f1
 ·refine S4 1 J ?_
  refine g8<|lq h (λs8=>St.of [(1,.I a1),(2,.ptr 2 0 0),(5,.I s8)] [(2,vR (r9.Pv a0) 2)]) W λs8 x9 h hx8=>c7<|S3 3 J<|nL J Ty.e47<|S2 1 J ?_
  refine cN h (λhc h=>?_) λhc h=>?_
  ·refine c4 ?_
   refine c7<|g8<|S3 3 J<|iL h J J Ty.e47 Ty.b3k λv10 hv9 h=>S1 4 J<|g7 J (λhg=>oF J Ty.c1D J)<|g7 J (λhg=>oS (ct hg) J J Ty.a47 J)<|g7 J (λhg=>mI J)<|g7 J (λhg=>y5 (f:=p6.Pv) (cs:=p6.Pc v10) hv9 (ct hg) (ct hg) Ty.e47 Ty.b3k J J)<|g7 J (λhg=>D2 (ct hg) Ty.c6l J)<|g7 J (λhg=>D4 (ct hg) Ty.a3 J)<|g7 J (λhg=>mI J)<|g7 J (λhg=>n9 (ct hg) (ct hg) J)<|y0 J (p5 J J J (λq=>Q1 q))<|yN ?_
   refine cN h (λhc h=>?_) λhc h=>?_
   ·refine S4 1 J ?_
    refine b7 ?_
    have h:=xL hx8 h
    cases h
    exact f1
   ·refine c4 ?_
    refine S6 3 J ?_
    exact eL h W
  ·refine n7 ?_
   refine c8<|c8<|j5 ?_
   have h:=xL hx8 h
   exact eJ h W

theorem M7{a0}:PO Tryz.prog 81 [k9.Pv a0] (J4 a0) λr=>s6.Pv r:=by
 refine pO Tryz.func81 λr h _ _=>?_
 refine S4 2 J<|S3 2 J<|y0 J (m9 (cs:=[.nl,.I a0.Last]) J Ty.c4w Ty.c45 J J J)<|S1 1 J<|a3Y (x':=.agg [.nl,.I a0.Last]) (cl':=true) J J (.inl J) Ty.a9M<|yN ?_
 refine jq h (λj9=>St.of [(2,.ptr 2 0 0),(3,.ptr 3 0 0)] [(3,vS (.agg [.sl 910503,.I a0.Last]) 2),(910503,⟨List.map r7.Pv j9,(List.map r7.Pv j9).length,true,3,true⟩),(2,vR (.agg [.nl,.I 0]) 2)]) (λj9 h=>?_) λκ8 h=>?_
 ·refine S4 2 J ?_
  refine b7 ?_
  cases h
  exact⟨J,[_],⟨oL J J J Ty.b2a Ty.a9M nl J,tr⟩,J,io⟩
 ·refine S4 1 J ?_
  refine g8<|lq h (λq=>St.of [(1,.ptr 1 0 0),(2,.ptr 2 0 0),(3,.ptr 3 0 0),(4,.I q.1)] [(3,vS (.agg [.sl 910503,.I a0.Last]) 2),(2,vR (.agg [.nl,.I 0]) 2),(1,vR (k9.Pv a0) 3),(910503,⟨List.map r7.Pv q.2,(List.map r7.Pv q.2).length,true,3,true⟩)]) (Wk.trans (a7B (l0:=3) (j:=0) (l:=920503) (z:=3) J J J J J) (WP (λl=>if l=910503 then 920503 else l))) λq14 x13 h hx9=>?_
  obtain⟨s11,s12⟩:=q14
  refine c7<|S3 3 J<|nL J Ty.e42<|S2 1 J ?_
  refine cN h (λhc h=>?_) λhc h=>?_
  ·refine c4 ?_
   refine c7<|g8<|a2m [] Ty.U9 (by kernel_rfl) (by kernel_rfl)<|S7 5 J<|r8 h λv15 hv10 h=>d0 J (y5 (f:=l6.Pv) (cs:=l6.Pc v15) hv10 J J Ty.e42 Ty.a19 J J) J<|S7 5 J<|d0 J (y5 (f:=l6.Pv) (cs:=l6.Pc v15) hv10 J J Ty.e42 Ty.a19 J J) J<|S7 3 J<|d7 J (λ_ hN=>m9 (cs:=[.I v15.State,.I v15.Gen,.I s11]) J Ty.c2F Ty.b6d J J J) J<|d1n J (M2 (f:=r7.Pv) (l:=[(⟨v15.State,v15.Gen,s11⟩:r7)]) J Ty.a43 Ty.a6U Ty.b6d J J nl J J) J<|r8 h λv16 hv11 h=>d3a J (H5 (f:=r7.Pv) hv11 J J J J J J (.inl ⟨_,J,J⟩) Ty.a43 Ty.a6U Ty.c5Z Ty.b6d J (λ_=>J)) J J J J J<|S7 1 J<|G9 (x':=.agg [.sl 32,.I a0.Last]) (cl':=false) J J (.inl J) Ty.d0s<|N6<|S6 3 J ?_
   exact eL h (Wk.trans (n0 _ [32]) (WP (λl=>if l=910503 then 32 else l)))
  ·refine n7 ?_
   refine c8<|c8<|j5 ?_
   have h:=xL hx9 h
   exact eJ h (Wk.trans (n0 _ [910503]) W)

theorem a6y{a0 a1}:PO Tryz.prog 78 [.I a0,.I a1] (a13 a0 a1) λr=>.I r:=by
 refine pO Tryz.func78 λr h _ _=>?_
 refine S4 1 J<|c7<|S3 3 J<|g7 J (λhg=>mI J)<|g7 J (λhg=>n9 (ct hg) J J)<|y0 J (u9 J J J (λq=>R8 q))<|S1 1 J<|g7 J (λhg=>mI J)<|g7 J (λhg=>n9 (ct hg) J J)<|y0 J (u9 J J J (λq=>R8 q))<|S1 1 J<|g7 J (λhg=>mI J)<|g7 J (λhg=>n9 (ct hg) J J)<|y0 J (u9 J J J (λq=>R8 q))<|yN ?_
 refine cN h (λhc h=>?_) λhc h=>?_
 ·refine S4 1 J ?_
  refine b7 ?_
  cases h
  exact f1
 ·refine c4 ?_
  refine S4 6 J<|b7 ?_
  cases h
  exact f1

theorem a9l{a0}:PO Tryz.prog 216 [.I a0] (a4C a0) λr=>.bool r:=by
 refine pO Tryz.func216 λr h _ _=>?_
 refine S4 1 J<|c7<|S3 3 J<|g7 J (λhg=>mI J)<|g7 J (λhg=>n9 (ct hg) J J)<|y0 J (u9 J J J (λq=>R8 q))<|yN ?_
 refine cN h (λhc h=>?_) λhc h=>?_
 ·refine S4 1 J ?_
  refine b7 ?_
  cases h
  exact f1
 ·refine c4 ?_
  refine S3 2 J<|r8 h λv1 hv1 h=>y0 J (a5U J J hv1)<|S1 2 J<|r8 h λv2 hv2 h=>y0 J (a5U J J hv2)<|cA h a6y J J λv3 _ h=>S2 3 J<|b7 ?_
  cases h
  exact f1

theorem a6A{a0}:PO Tryz.prog 124 [.I a0] (a4B a0) λr=>.I r:=by
 refine pO Tryz.func124 λr h _ _=>?_
 refine S4 1 J<|c7<|S3 1 J<|cA h a9l J J λv1 _ h=>S2 1 J ?_
 refine cN h (λhc h=>?_) λhc h=>?_
 ·refine S4 1 J ?_
  refine b7 ?_
  cases h
  exact f1
 ·refine c4 ?_
  refine S3 2 J<|r8 h λv2 hv2 h=>y0 J (a5U J J hv2)<|S2 1 J<|b7 ?_
  cases h
  exact f1

theorem b8p{a0}:PO Tryz.prog 223 [.I a0] (b1P a0) λr=>.I r:=by
 refine pO Tryz.func223 λr h _ _=>?_
 refine S4 1 J<|c7<|S3 1 J<|cA h a9l J J λv1 _ h=>S2 1 J ?_
 refine cN h (λhc h=>?_) λhc h=>?_
 ·refine S4 1 J ?_
  refine b7 ?_
  cases h
  exact f1
 ·refine c4 ?_
  refine S3 2 J<|r8 h λv2 hv2 h=>y0 J (a5U J J hv2)<|S2 1 J<|b7 ?_
  cases h
  exact f1

theorem W0{a0 a1}:PO Tryz.prog 142 [s6.Pv a0,.I a1] (K5 a0 a1) λr=>.tup [.I r.1,.I r.2]:=by
 refine pO Tryz.func142 λr h _ _=>?_
 refine S4 3 J<|c7<|S4 2 J ?_
 refine cN h (λhc h=>?_) λhc h=>?_
 ·refine S4 2 J ?_
  refine b7 ?_
  cases h
  exact f2
 ·refine c4 ?_
  refine S3 1 J<|cA h a6A J J λv1 _ h=>S2 1 J<|c7<|S3 3 J<|g7 J (λhg=>mI J)<|g7 J (λhg=>oF J Ty.c6e J)<|g7 J (λhg=>oS (ct hg) J J Ty.c9u J)<|g7 J (λhg=>L5 (f:=r7.Pv) (ct hg) Ty.a43)<|g7 J (λhg=>n9 (ct hg) (ct hg) J)<|y0 J (u9 J J J (λq=>R8 q))<|yN ?_
  refine cN h (λhc h=>?_) λhc h=>?_
  ·refine S4 2 J ?_
   refine b7 ?_
   cases h
   exact f2
  ·refine c4 ?_
   refine S3 3 J<|iL h J J Ty.a43 Ty.a6U λv2 _ h=>S2 3 J<|c7<|dr [] Ty.U9 (by kernel_rfl) (by kernel_rfl)<|S7 3 J<|r8 h λv3 hv3 h=>d2 J (C6 J b8p J hv3) J<|S7 2 J<|D0 J (λhg _ hN=>oF J Ty.c1y J) J<|K3 J (λhg=>oS (ct hg) J J Ty.a3 J) J<|D0 J (λhg _ hN=>n9 (ct hg) J J) J<|D0 J (λhg _ hN=>om (d:=.bool (v2.State != 1)) (ct hg)) J<|D0 (D6 J J J) (λhg _ hN=>oF J Ty.c1y J) J<|K3 (D6 J J J) (λhg=>oS (ct hg) J J Ty.a3 J) J<|D0 (D6 J J J) (λhg _ hN=>n9 (ct hg) J J) J<|D0 J (λhg _ hN=>p5 (ct hg) J J (λq=>b1s hg (Q1 q))) J<|d7 J (λ_ hN=>u9 J J J (λq=>R8 q)) J<|N6 ?_
   refine cN h (λhc h=>?_) λhc h=>?_
   ·refine S4 2 J ?_
    refine b7 ?_
    cases h
    exact f2
   ·refine c4 ?_
    refine S4 3 J<|b7 ?_
    cases h
    exact f2

theorem b2W{a0 a1}:PO Tryz.prog 80 [s6.Pv a0,.I a1] (a9m a0 a1) λr=>.tup [.I r.1,.I r.2]:=by
 refine pO Tryz.func80 λr h _ _=>?_
 refine S4 3 J<|S3 2 J<|cA h W0 J J λv1 _ h=>S2 5 J<|c7<|S4 2 J ?_
 refine cN h (λhc h=>?_) λhc h=>?_
 ·refine S4 3 J ?_
  refine b7 ?_
  cases h
  exact f2
 ·refine c4 ?_
  refine c7<|S3 3 J<|iL h J J Ty.a43 Ty.a6U λv2 hv2 h=>S2 3 J ?_
  refine cN h (λhc h=>?_) λhc h=>?_
  ·refine S4 2 J ?_
   refine b7 ?_
   cases h
   exact f2
  ·refine c4 ?_
   refine S3 3 J<|y0 J (y5 (f:=r7.Pv) (cs:=r7.Pc v2) hv2 J J Ty.a43 Ty.a6U J J)<|S2 4 J<|b7 ?_
   cases h
   exact f2

theorem H8{a0 a1}:PO Tryz.prog 33 [k9.Pv a0,.I a1] (D9 a0 a1) λr=>.tup [A0.Pv r.1,.I r.2]:=by
 refine pO Tryz.func33 λr h _ _=>?_
 refine S4 3 J<|S3 1 J<|cF h M7 J J λv1 _ h=>S1 1 J<|cA h b2W J J λv2 _ h=>S2 5 J<|c7<|S4 2 J ?_
 refine cN h (λhc h=>?_) λhc h=>?_
 ·refine sR ?_
  refine y0 J (m9 (cs:=[.I 0,.I 0,.I 0,.I 0,.bool false,.nl]) J Ty.p78 Ty.z78 J J J)<|S1 1 J<|a3Y (x':=.agg [.I 0,.I 0,.I 0,.I 0,.bool false,.nl]) (cl':=true) J J (.inl J) Ty.s78<|S2 1 J<|b7 ?_
  cases h
  exact⟨J,[_,_],⟨oL J J J Ty.a78 Ty.s78 nl J,⟨J,tr⟩⟩,J,io⟩
 ·refine c4 ?_
  refine S3 3 J<|iL h J J Ty.e42 Ty.a19 λv3 _ h=>S2 4 J<|b7 ?_
  cases h
  exact⟨J,[_,_],⟨oL J J J Ty.a78 Ty.s78 nl J,⟨J,tr⟩⟩,J,io⟩

theorem a2C{a0 a1}:PO Tryz.prog 141 [g5.Pv a0,.I a1] (T3 a0 a1) λr=>.bool r:=by
 refine pO Tryz.func141 λr h _ _=>?_
 refine S4 2 J<|S3 3 J<|cF h H8 J J λv1 _ h=>S2 6 J<|S4 3 J<|b7 ?_
 cases h
 exact f1

theorem a2D{a0 a1}:PO Tryz.prog 125 [g5.Pv a0,.I a1] (T4 a0 a1) λr=>.bool r:=by
 refine pO Tryz.func125 λr h _ _=>?_
 unfold T4 at h
 refine S4 2 J<|S3 3 J<|g7 J (λhg=>oL J J J Ty.a51 Ty.Z6 nl J)<|g7 J (λhg=>mI J)<|r8 h λv1 hv1 h=>g7 J (λhg=>C6 J a2C (B8 (ct hg) (B8 (ct hg) J)) (F3 hv1 hg))<|y0 J (u9 J J J (λq=>R8 q))<|S2 1 J<|b7 ?_
 cases h
 exact f1

theorem b8z{a0 a1 a2 a3}:PO Tryz.prog 204 [.L k8.Pv a0,.I a1,.I a2,.I a3] (b1U a0 a1 a2 a3) λr=>.tup [.L k8.Pv r.1,.I r.2.1,.I r.2.2]:=by
 refine pO Tryz.func204 λr h _ _=>?_
 refine S4 3 J<|c7<|S3 3 J<|g7 J (λhg=>mI J)<|g7 J (λhg=>om (d:=.L k8.Pv a0) J)<|g7 J (λhg=>L5 (f:=k8.Pv) (ct hg) Ty.e45)<|g7 J (λhg=>n9 (ct hg) (ct hg) J)<|y0 J (u9 J J J (λq=>R8 q))<|yN ?_
 refine cN h (λhc h=>?_) λhc h=>?_
 ·refine S4 4 J ?_
  refine b7 ?_
  cases h
  exact f3
 ·refine c4 ?_
  refine sR<|y0 J (B3 J Ty.e45 Ty.a4c)<|S1 1 J<|r8 h λv1 hv1 h=>y1 J (a5T (f:=k8.Pv) hv1 J J (.inl ⟨_,J,J⟩) Ty.e45 Ty.a4c Ty.c3J Ty.b6c J (λ_=>J)) J<|S2 1 J<|S3 6 J<|y0 J (m9 (cs:=[.I a2,.bool (a2 != 0),.I a3]) J Ty.c8A Ty.b6c J J J)<|r8 h λv2 hv2 h=>y0 J (Z0 (f:=k8.Pv) hv2 J J J J Ty.e45 Ty.a4c J)<|a3s (f:=k8.Pv) (v:=(⟨a2,(a2 != 0),a3⟩:k8)) hv2 J J (.inl J) Ty.a4c<|yN<|dr [] Ty.U9 (by kernel_rfl) (by kernel_rfl)<|S7 3 J<|r8 h λv3 hv3 h=>d0 J (y5 (f:=k8.Pv) (cs:=k8.Pc v3) hv3 J J Ty.e45 Ty.a4c J J) J<|S8 5 J<|b7 ?_
  cases h
  exact f3

theorem a6D{a0 a1 a2}:PO Tryz.prog 122 [k9.Pv a0,.I a1,A0.Pv a2] (a0c a0 a1 a2) λr=>k9.Pv r:=by
 refine pO Tryz.func122 λr h _ _=>?_
 unfold a0c at h
 refine S4 3 J<|sR<|y0 J (B3 J Ty.e42 Ty.a19)<|S1 2 J<|r8 h λv1 hv1 h=>y1 J (a5T (f:=l6.Pv) hv1 J J (.inl ⟨_,J,J⟩) Ty.e42 Ty.a19 Ty.c3I Ty.b7G J (λ_=>J)) J<|S2 1 J<|S3 3 J<|r8 h λv2 hv2 h=>y0 J (Z0 (f:=l6.Pv) hv2 J J J J Ty.e42 Ty.a19 J)<|S1 1 J<|a3s (f:=l6.Pv) (v:=(⟨v2.State,v2.Gen,a2⟩:l6)) hv2 J J (.inr J) Ty.s78<|yN<|S3 5 J<|y0 J (m9 (cs:=[.sl 11,.I a0.Last,.I a0.Serial]) J Ty.p44 Ty.z44 J J J)<|S2 1 J<|b7 ?_
 cases h
 exact⟨J,[_],⟨oL J J J Ty.a44 Ty.s44 nl J,tr⟩,J,io⟩

theorem a1x{a0 a1 a2}:PO Tryz.prog 205 [k9.Pv a0,.I a1,A0.Pv a2] (J5 a0 a1 a2) λr=>.tup [k9.Pv r.1,.I r.2]:=by
 refine pO Tryz.func205 λr h _ _=>?_
 refine S4 4 J<|S3 1 J<|cF h M7 J J λv1 _ h=>S1 1 J<|cA h W0 J J λv2 _ h=>S2 5 J<|c7<|S4 2 J ?_
 refine cN h (λhc h=>?_) λhc h=>?_
 ·refine S4 4 J ?_
  refine b7 ?_
  cases h
  exact⟨J,[_,_],⟨oL J J J Ty.a44 Ty.s44 nl J,⟨J,tr⟩⟩,J,io⟩
 ·refine c4 ?_
  refine S3 3 J<|cF h a6D J J λv3 _ h=>S2 2 J<|b7 ?_
  cases h
  exact⟨J,[_,_],⟨oL J J J Ty.a44 Ty.s44 nl J,⟨J,tr⟩⟩,J,io⟩

theorem a3Q{a0 a1 a2}:PO Tryz.prog 215 [s6.Pv a0,.I a1,r7.Pv a2] (S0 a0 a1 a2) λr=>s6.Pv r:=by
 refine pO Tryz.func215 λr h _ _=>?_
 unfold S0 at h
 refine S4 3 J<|sR<|y0 J (B3 J Ty.a43 Ty.a6U)<|S1 2 J<|r8 h λv1 hv1 h=>y1 J (a5T (f:=r7.Pv) hv1 J J (.inl ⟨_,J,J⟩) Ty.a43 Ty.a6U Ty.c5Z Ty.b6d J (λ_=>J)) J<|S2 1 J<|S3 3 J<|r8 h λv2 hv2 h=>y0 J (Z0 (f:=r7.Pv) hv2 J J J J Ty.a43 Ty.a6U J)<|a3s (f:=r7.Pv) (v:=a2) hv2 J J (.inl J) Ty.a6U<|yN<|S3 3 J<|y0 J (m9 (cs:=[.sl 11,.I a0.Last]) J Ty.c4w Ty.c45 J J J)<|S2 1 J<|b7 ?_
 cases h
 exact⟨J,[_],⟨oL J J J Ty.b2a Ty.a9M nl J,tr⟩,J,io⟩

theorem b6W{a0 a1}:PO Tryz.prog 319 [s6.Pv a0,.I a1] (b2X a0 a1) λr=>.tup [s6.Pv r.1,.I r.2]:=by
 refine pO Tryz.func319 λr h _ _=>?_
 refine S4 3 J<|S3 2 J<|cA h W0 J J λv1 _ h=>S2 5 J<|c7<|S4 2 J ?_
 refine cN h (λhc h=>?_) λhc h=>?_
 ·refine S4 4 J ?_
  refine b7 ?_
  cases h
  exact⟨J,[_,_],⟨oL J J J Ty.b2a Ty.a9M nl J,⟨J,tr⟩⟩,J,io⟩
 ·refine c4 ?_
  refine S3 3 J<|iL h J J Ty.a43 Ty.a6U λv2 _ h=>S2 3 J<|c7<|S4 4 J ?_
  refine cN h (λhc h=>?_) λhc h=>?_
  ·refine S3 3 J ?_
   refine y0 J (m9 (cs:=[.I 3,.I v2.Gen,.I 0]) J Ty.c2F Ty.b6d J J J)<|cF h a3Q J J λv3 _ h=>S2 2 J<|b7 ?_
   cases h
   exact⟨J,[_,_],⟨oL J J J Ty.b2a Ty.a9M nl J,⟨J,tr⟩⟩,J,io⟩
  ·refine c4 ?_
   refine S3 4 J<|y0 J (m9 (cs:=[.I 0,.I (w7 (v2.Gen+1)),.I 0]) J Ty.c2F Ty.b6d J J J)<|cF h a3Q J J λv4 _ h=>S2 2 J<|b7 ?_
   cases h
   exact⟨J,[_,_],⟨oL J J J Ty.b2a Ty.a9M nl J,⟨J,tr⟩⟩,J,io⟩

theorem a38{a0 a1}:PO Tryz.prog 123 [k9.Pv a0,s6.Pv a1] (W1 a0 a1) λr=>k9.Pv r:=by
 refine pO Tryz.func123 λr h _ _=>?_
 refine S4 3 J<|sR<|y0 J (B3 J Ty.e42 Ty.a19)<|S2 1 J ?_
 refine jq h (λj10=>St.of [(2,.ptr 2 0 0),(4,.ptr 4 0 0),(5,.sl 910005)] [(910005,⟨List.map l6.Pv j10,(List.map l6.Pv j10).length,true,8,true⟩),(4,vR (.agg [.nl,.I 0,.I 0]) 3),(2,vR (k9.Pv a0) 3)]) (λj10 h=>?_) λκ9 h=>?_
 ·refine S3 5 J ?_
  refine y0 J (m9 (cs:=[.sl 910005,.I a0.Last,.I a0.Serial]) J Ty.p44 Ty.z44 J J J)<|S2 1 J<|b7 ?_
  cases h
  exact⟨J,[_],⟨oL J J J Ty.a44 Ty.s44 nl J,tr⟩,J,io⟩
 ·refine S4 1 J ?_
  refine g8<|lq h (λq=>St.of [(2,.ptr 2 0 0),(3,.ptr 3 0 0),(4,.ptr 4 0 0),(5,.sl 910005),(6,.I q.1)] [(4,vR (.agg [.nl,.I 0,.I 0]) 3),(3,vR (s6.Pv a1) 2),(2,vR (k9.Pv a0) 3),(910005,⟨List.map l6.Pv q.2,(List.map l6.Pv q.2).length,true,8,true⟩)]) (Wk.trans (F2 (t:=5) (l:=920005) (z:=8) J J) (WP (λl=>if l=910005 then 920005 else l))) λq15 x14 h hx10=>?_
  obtain⟨s12,s13⟩:=q15
  refine c7<|S3 3 J<|nL J Ty.e42<|S2 1 J ?_
  refine cN h (λhc h=>?_) λhc h=>?_
  ·refine c4 ?_
   refine c7<|g8<|a2m [] Ty.U9 (by kernel_rfl) (by kernel_rfl)<|S7 4 J<|r8 h λv16 hv11 h=>d0 J (y5 (f:=r7.Pv) (cs:=r7.Pc v16) hv11 J J Ty.a43 Ty.a6U J J) J<|S7 5 J<|d0 J (y5 (f:=r7.Pv) (cs:=r7.Pc v16) hv11 J J Ty.a43 Ty.a6U J J) J<|S7 5 J<|r8 h λv17 hv12 h=>d0 J (y5 (f:=l6.Pv) (cs:=l6.Pc v17) hv12 J J Ty.e42 Ty.a19 J J) J<|S7 2 J<|d7 J (λ_ hN=>m9 (cs:=[.I v16.State,.I v16.Gen,.I v17.Val.Serial,.I v17.Val.Strong,.I v17.Val.Weak,.I v17.Val.Prog,.bool v17.Val.Started,.L iF v17.Val.Fields]) J Ty.c8z Ty.b7G J J J) J<|d1n J (M2 (f:=l6.Pv) (l:=[(⟨v16.State,v16.Gen,v17.Val⟩:l6)]) J Ty.e42 Ty.a19 Ty.b7G J J nl J J) J<|r8 h λv18 hv13 h=>d3a J (H5 (f:=l6.Pv) hv13 J J J J J J (.inl ⟨_,J,J⟩) Ty.e42 Ty.a19 Ty.c3I Ty.b7G J (λ_=>J)) J J J J J<|S8 1 J<|S6 3 J ?_
   exact eL h (Wk.trans (n0 _ [36]) (WP (λl=>if l=910005 then 36 else l)))
  ·refine n7 ?_
   refine c8<|c8<|j5 ?_
   have h:=xL hx10 h
   exact eJ h (Wk.trans (n0 _ [910005]) W)

theorem b09{a0 a1}:PO Tryz.prog 280 [k9.Pv a0,.I a1] (a6C a0 a1) λr=>k9.Pv r:=by
 refine pO Tryz.func280 λr h _ _=>?_
 refine S4 2 J<|S3 1 J<|cF h M7 J J λv1 _ h=>S1 1 J<|cF h b6W J J λv2 _ h=>S2 6 J<|c7<|S4 2 J ?_
 refine cN h (λhc h=>?_) λhc h=>?_
 ·refine S4 2 J ?_
  refine b7 ?_
  cases h
  exact⟨J,[_],⟨oL J J J Ty.a44 Ty.s44 nl J,tr⟩,J,io⟩
 ·refine c4 ?_
  refine S3 2 J<|cF h a38 J J λv3 _ h=>S1 1 J<|cA h a6A J J λv4 _ h=>y0 J (m9 (cs:=[.I 0,.I 0,.I 0,.I 0,.bool false,.nl]) J Ty.p78 Ty.z78 J J J)<|cF h a6D J J λv5 _ h=>S2 1 J<|b7 ?_
  cases h
  exact⟨J,[_],⟨oL J J J Ty.a44 Ty.s44 nl J,tr⟩,J,io⟩

theorem a6H{a0 a1}:PO Tryz.prog 206 [g5.Pv a0,.I a1] (W4 a0 a1) λr=>g5.Pv r:=by
 refine pO Tryz.func206 λr h _ _=>?_
 refine S4 2 J<|S3 2 J<|cF h M7 J J λv1 _ h=>S1 1 J<|cA h W0 J J λv2 _ h=>S2 5 J<|c7<|S4 2 J ?_
 refine cN h (λhc h=>?_) λhc h=>?_
 ·refine S4 2 J ?_
  refine b7 ?_
  cases h
  exact⟨J,[_],⟨oL J J J Ty.a51 Ty.Z6 nl J,tr⟩,J,io⟩
 ·refine c4 ?_
  refine S3 4 J<|iL h J J Ty.e42 Ty.a19 λv3 _ h=>S2 4 J<|S4 5 J<|S3 4 J<|cF h a1x J J λv4 _ h=>S2 5 J<|c7<|S3 4 J<|iL h J J Ty.e42 Ty.a19 λv5 _ h=>S1 4 J<|g7 J (λhg=>oF J Ty.c1F J)<|g7 J (λhg=>oS (ct hg) J J Ty.a3 J)<|g7 J (λhg=>n9 (ct hg) J J)<|y0 J (p5 J J J (λq=>Q1 q))<|yN ?_
  refine cN h (λhc h=>?_) λhc h=>?_
  ·refine S5 3 J ?_
   refine cF h b09 J J λv6 _ h=>S2 2 J<|S4 2 J<|b7 ?_
   cases h
   exact⟨J,[_],⟨oL J J J Ty.a51 Ty.Z6 nl J,tr⟩,J,io⟩
  ·refine c4 ?_
   refine S4 2 J<|b7 ?_
   cases h
   exact⟨J,[_],⟨oL J J J Ty.a51 Ty.Z6 nl J,tr⟩,J,io⟩

theorem b1c{a0 a1 a2 a3}:PO Tryz.prog 112 [g5.Pv a0,.I a1,.I a2,.I a3] (a06 a0 a1 a2 a3) λr=>.tup [g5.Pv r.1,.I r.2]:=by
 refine pO Tryz.func112 λr h _ _=>?_
 unfold a06 at h
 refine S4 3 J<|c7<|S3 3 J<|g7 J (λhg=>mI J)<|g7 J (λhg=>n9 (ct hg) J J)<|y0 J (u9 J J J (λq=>R8 q))<|S1 1 J<|g7 J (λhg=>oF J Ty.c1E J)<|g7 J (λhg=>oL (ct hg) J J Ty.a49 Ty.s49 nl J)<|g7 J (λhg=>mI J)<|r8 h λv1 hv1 h=>g7 J (λhg=>C6 J b5x (B8 (ct hg) (B8 (ct hg) J)) (F3 hv1 hg))<|y0 J (u9 J J J (λq=>R8 q))<|yN ?_
 refine cN h (λhc h=>?_) λhc h=>?_
 ·refine S4 3 J ?_
  refine b7 ?_
  cases h
  exact⟨J,[_,_],⟨oL J J J Ty.a51 Ty.Z6 nl J,⟨J,tr⟩⟩,J,io⟩
 ·refine c4 ?_
  refine c7<|S3 2 J<|cA h a2D J J λv2 _ h=>S2 1 J ?_
  refine cN h (λhc h=>?_) λhc h=>?_
  ·refine S4 3 J ?_
   refine b7 ?_
   cases h
   exact⟨J,[_,_],⟨oL J J J Ty.a51 Ty.Z6 nl J,⟨J,tr⟩⟩,J,io⟩
  ·refine c4 ?_
   refine S3 5 J<|cF h b8z J J λv3 _ h=>S2 7 J<|S4 3 J<|c7<|S4 2 J ?_
   refine cN h (λhc h=>?_) λhc h=>?_
   ·refine S3 3 J ?_
    refine cF h H8 J J λv4 _ h=>S2 6 J<|S4 5 J<|S5 4 J<|cF h a1x J J λv5 _ h=>S2 5 J<|S3 2 J<|cF h a6H J J λv6 _ h=>S2 2 J<|b7 ?_
    cases h
    exact⟨J,[_,_],⟨oL J J J Ty.a51 Ty.Z6 nl J,⟨J,tr⟩⟩,J,io⟩
   ·refine c4 ?_
    refine S3 2 J<|cF h a6H J J λv7 _ h=>S2 2 J<|b7 ?_
    cases h
    exact⟨J,[_,_],⟨oL J J J Ty.a51 Ty.Z6 nl J,⟨J,tr⟩⟩,J,io⟩

theorem a5s{a0 a1}:PO Tryz.prog 113 [g5.Pv a0,.I a1] (P1 a0 a1) λr=>.tup [.I r.1,.I r.2]:=by
 refine pO Tryz.func113 λr h _ _=>?_
 refine S4 3 J<|c7<|S3 3 J<|iL h J J Ty.A5 Ty.s3 λv1 hv1 h=>S2 2 J ?_
 refine cN h (λhc h=>?_) λhc h=>?_
 ·refine S4 2 J ?_
  refine b7 ?_
  cases h
  exact f2
 ·refine c4 ?_
  refine S3 3 J<|y0 J (y5 (f:=iF) (cs:=[.I v1]) hv1 J J Ty.A5 Ty.s3 J J)<|S2 3 J<|b7 ?_
  cases h
  exact f2

theorem a3S{a0 a1}:PO Tryz.prog 115 [g5.Pv a0,.I a1] (a3i a0 a1) λr=>.I r:=by
 refine pO Tryz.func115 λr h _ _=>?_
 refine S4 2 J<|c7<|S4 2 J ?_
 refine cN h (λhc h=>?_) λhc h=>?_
 ·refine S4 1 J ?_
  refine b7 ?_
  cases h
  exact f1
 ·refine c4 ?_
  refine S3 3 J<|iL h J J Ty.A5 Ty.s3 λv1 _ h=>S2 2 J<|b7 ?_
  cases h
  exact f1

theorem c0A{a0 a1}:PO Tryz.prog 220 [.L iF a0,.I a1] (b0w a0 a1) λr=>.tup [.I r.1,.I r.2]:=by
 refine pO Tryz.func220 λr h _ _=>?_
 refine S4 2 J<|c7<|S3 3 J<|g7 J (λhg=>mI J)<|g7 J (λhg=>om (d:=.L iF a0) J)<|g7 J (λhg=>L5 (f:=iF) (ct hg) Ty.A5)<|g7 J (λhg=>n9 (ct hg) (ct hg) J)<|y0 J (u9 J J J (λq=>R8 q))<|yN ?_
 refine cN h (λhc h=>?_) λhc h=>?_
 ·refine S4 2 J ?_
  refine b7 ?_
  cases h
  exact f2
 ·refine c4 ?_
  refine S3 2 J<|iL h J J Ty.A5 Ty.s3 λv1 _ h=>S2 3 J<|b7 ?_
  cases h
  exact f2

theorem a9q{a0 a1 a2}:PO Tryz.prog 128 [k9.Pv a0,.I a1,.I a2] (a1w a0 a1 a2) λr=>.tup [.I r.1,.I r.2]:=by
 refine pO Tryz.func128 λr h _ _=>?_
 refine S4 3 J<|S3 2 J<|cF h H8 J J λv1 _ h=>S2 6 J<|c7<|S4 2 J ?_
 refine cN h (λhc h=>?_) λhc h=>?_
 ·refine S4 3 J ?_
  refine b7 ?_
  cases h
  exact f2
 ·refine c4 ?_
  refine S3 3 J<|cA h c0A J J λv2 _ h=>S2 4 J<|b7 ?_
  cases h
  exact f2

theorem a9o{a0}:PO Tryz.prog 224 [.I a0] (Y4 a0) λr=>.bool r:=by
 refine pO Tryz.func224 λr h _ _=>?_
 unfold Y4 at h
 refine S4 1 J<|S4 3 J<|b7 ?_
 cases h
 exact f1

theorem b8s{a0}:PO Tryz.prog 218 [.I a0] (a9n a0) λr=>.I r:=by
 refine pO Tryz.func218 λr h _ _=>?_
 refine S4 1 J<|c7<|S3 1 J<|cA h a9o J J λv1 _ h=>yN ?_
 refine cN h (λhc h=>?_) λhc h=>?_
 ·refine S4 1 J ?_
  refine b7 ?_
  cases h
  exact f1
 ·refine c4 ?_
  refine c7<|S4 2 J ?_
  refine cN h (λhc h=>?_) λhc h=>?_
  ·refine S4 1 J ?_
   refine b7 ?_
   cases h
   exact f1
  ·refine c4 ?_
   refine S4 3 J<|b7 ?_
   cases h
   exact f1

theorem a72{a0 a1 a2}:PO Tryz.prog 217 [g5.Pv a0,.I a1,.I a2] (a3f a0 a1 a2) λr=>g5.Pv r:=by
 refine pO Tryz.func217 λr h _ _=>?_
 refine S4 2 J<|S3 3 J<|cF h H8 J J λv1 _ h=>S2 6 J<|c7<|S4 2 J ?_
 refine cN h (λhc h=>?_) λhc h=>?_
 ·refine S4 2 J ?_
  refine b7 ?_
  cases h
  exact⟨J,[_],⟨oL J J J Ty.a51 Ty.Z6 nl J,tr⟩,J,io⟩
 ·refine c4 ?_
  refine S4 3 J<|S3 4 J<|cF h a1x J J λv2 _ h=>S2 5 J<|S4 2 J<|b7 ?_
  cases h
  exact⟨J,[_],⟨oL J J J Ty.a51 Ty.Z6 nl J,tr⟩,J,io⟩

theorem a1T{a0 a1}:PO Tryz.prog 126 [g5.Pv a0,.I a1] (W3 a0 a1) λr=>g5.Pv r:=by
 refine pO Tryz.func126 λr h _ _=>?_
 refine S4 2 J<|S3 3 J<|cF h H8 J J λv1 _ h=>S2 6 J<|dr [] Ty.U9 (by kernel_rfl) (by kernel_rfl)<|S7 4 J<|r8 h λv2 hv2 h=>d2 J (C6 J b8s J hv2) J<|r8 h λv3 hv3 h=>d2f J (y4 J a72 J hv3) J<|G9 (x':=g5.Pv v3) (cl':=true) J J (.inr J) Ty.Z6<|N6<|b7 ?_
 cases h
 exact⟨J,[_],⟨oL J J J Ty.a51 Ty.Z6 nl J,tr⟩,J,io⟩

theorem b6Z{a0 a1 a2}:PO Tryz.prog 281 [.L iF a0,.I a1,.I a2] (b20 a0 a1 a2) λr=>.tup [.L iF r.1,.I r.2]:=by
 refine pO Tryz.func281 λr h _ _=>?_
 refine S4 2 J<|c7<|S3 3 J<|g7 J (λhg=>mI J)<|g7 J (λhg=>om (d:=.L iF a0) J)<|g7 J (λhg=>L5 (f:=iF) (ct hg) Ty.A5)<|g7 J (λhg=>n9 (ct hg) (ct hg) J)<|y0 J (u9 J J J (λq=>R8 q))<|yN ?_
 refine cN h (λhc h=>?_) λhc h=>?_
 ·refine S4 3 J ?_
  refine b7 ?_
  cases h
  exact f2
 ·refine c4 ?_
  refine sR<|y0 J (B3 J Ty.A5 Ty.s3)<|S1 1 J<|r8 h λv1 hv1 h=>y1 J (a5T (f:=iF) hv1 J J (.inl ⟨_,J,J⟩) Ty.A5 Ty.s3 Ty.b3 Ty.z3 J (λ_=>J)) J<|S2 1 J<|S3 3 J<|r8 h λv2 hv2 h=>y0 J (Z0 (f:=iF) hv2 J J J J Ty.A5 Ty.s3 J)<|a3s (f:=iF) (v:=a2) hv2 J J (.inl J) Ty.s3<|yN<|S4 3 J<|b7 ?_
  cases h
  exact f2

theorem b8v{a0 a1 a2 a3}:PO Tryz.prog 207 [k9.Pv a0,.I a1,.I a2,.I a3] (b1S a0 a1 a2 a3) λr=>.tup [k9.Pv r.1,.I r.2]:=by
 refine pO Tryz.func207 λr h _ _=>?_
 refine S4 3 J<|S3 2 J<|cF h H8 J J λv1 _ h=>S2 6 J<|c7<|S4 2 J ?_
 refine cN h (λhc h=>?_) λhc h=>?_
 ·refine S4 4 J ?_
  refine b7 ?_
  cases h
  exact⟨J,[_,_],⟨oL J J J Ty.a44 Ty.s44 nl J,⟨J,tr⟩⟩,J,io⟩
 ·refine c4 ?_
  refine S3 4 J<|cF h b6Z J J λv2 _ h=>S2 5 J<|c7<|S4 2 J ?_
  refine cN h (λhc h=>?_) λhc h=>?_
  ·refine S4 4 J ?_
   refine b7 ?_
   cases h
   exact⟨J,[_,_],⟨oL J J J Ty.a44 Ty.s44 nl J,⟨J,tr⟩⟩,J,io⟩
  ·refine c4 ?_
   refine S4 3 J<|S3 3 J<|cF h a1x J J λv3 _ h=>S2 4 J<|b7 ?_
   cases h
   exact⟨J,[_,_],⟨oL J J J Ty.a44 Ty.s44 nl J,⟨J,tr⟩⟩,J,io⟩

theorem b8r{a0}:PO Tryz.prog 219 [.I a0] (b1Q a0) λr=>.tup [.I r.1,.I r.2]:=by
 refine pO Tryz.func219 λr h _ _=>?_
 refine S4 2 J<|c7<|S3 1 J<|cA h a9o J J λv1 _ h=>yN ?_
 refine cN h (λhc h=>?_) λhc h=>?_
 ·refine S4 2 J ?_
  refine b7 ?_
  cases h
  exact f2
 ·refine c4 ?_
  refine c7<|S4 2 J ?_
  refine cN h (λhc h=>?_) λhc h=>?_
  ·refine S4 2 J ?_
   refine b7 ?_
   cases h
   exact f2
  ·refine c4 ?_
   refine S4 4 J<|b7 ?_
   cases h
   exact f2

theorem a05{a0 a1}:PO Tryz.prog 127 [g5.Pv a0,.I a1] (E8 a0 a1) λr=>g5.Pv r:=by
 refine pO Tryz.func127 λr h _ _=>?_
 refine S4 2 J<|S3 3 J<|cF h H8 J J λv1 _ h=>S2 6 J<|S3 2 J<|cA h b8r J J λv2 _ h=>S2 5 J<|c7<|S4 2 J ?_
 refine cN h (λhc h=>?_) λhc h=>?_
 ·refine S4 2 J ?_
  refine b7 ?_
  cases h
  exact⟨J,[_],⟨oL J J J Ty.a51 Ty.Z6 nl J,tr⟩,J,io⟩
 ·refine c4 ?_
  refine S3 3 J<|cF h a72 J J λv3 _ h=>S2 1 J<|b7 ?_
  cases h
  exact⟨J,[_],⟨oL J J J Ty.a51 Ty.Z6 nl J,tr⟩,J,io⟩

theorem b5y{a0 a1 a2 a3}:PO Tryz.prog 114 [g5.Pv a0,.I a1,.I a2,.I a3] (a2M a0 a1 a2 a3) λr=>.tup [g5.Pv r.1,.I r.2]:=by
 refine pO Tryz.func114 λr h _ _=>?_
 refine S4 3 J<|S3 4 J<|cA h a9q J J λv1 _ h=>S2 5 J<|c7<|S4 2 J ?_
 refine cN h (λhc h=>?_) λhc h=>?_
 ·refine S4 4 J ?_
  refine b7 ?_
  cases h
  exact⟨J,[_,_],⟨oL J J J Ty.a51 Ty.Z6 nl J,⟨J,tr⟩⟩,J,io⟩
 ·refine c4 ?_
  refine c7<|S3 2 J<|cA h a2D J J λv2 _ h=>S2 1 J ?_
  refine cN h (λhc h=>?_) λhc h=>?_
  ·refine S4 3 J ?_
   refine b7 ?_
   cases h
   exact⟨J,[_,_],⟨oL J J J Ty.a51 Ty.Z6 nl J,⟨J,tr⟩⟩,J,io⟩
  ·refine c4 ?_
   refine S3 2 J<|cF h a1T J J λv3 _ h=>S2 2 J<|S3 5 J<|cF h b8v J J λv4 _ h=>S2 5 J<|S3 2 J<|cF h a05 J J λv5 _ h=>S2 2 J<|b7 ?_
   cases h
   exact⟨J,[_,_],⟨oL J J J Ty.a51 Ty.Z6 nl J,⟨J,tr⟩⟩,J,io⟩

end Go.Proofs.YtfihndcobnkiaaaGreat.Ok
