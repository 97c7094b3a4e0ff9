/-
 The functions of the program do as the plain functions do.
-/
import Derived.Test.YtfihndcobnkiaaaGreatM18aOk2
set_option linter.unusedVariables false
set_option linter.unusedSimpArgs false
set_option linter.unusedSectionVars false
namespace Go.Proofs.YtfihndcobnkiaaaGreat.Ok
open Go Go.Pw Go.Sh Go.Proofs
set_option maxRecDepth 100000
set_option maxHeartbeats 4000000
theorem a4y{a0}:PO Tryz.prog 90 [hold_Heap.Pv a0] (a1O a0) λr=>.bool r:=by
 refine pO Tryz.func90 λr h _ _=>?_
 refine S4 2 J<|sR<|b4W (KT:=task_Task) (VT:=Bool) (EK:=task_Task.Pv) (E:=PV.bool) 5000004 J J<|S2 2 J<|S3 4 J<|K9 (WPE (λl=>if l=2001 then 1 else if l=2002 then 3 else if l=5002003 then 5000004 else l) [(7,.L task_Task.Pv a0.Q.L),(8,.fn (.func 164) [.ptr 2002 0 0,.ptr 2001 0 0])] [(2001,vR (hold_Heap.Pv a0) 8),(2002,vS (.mp 5002003) 1),(5002003,⟨[.mapc (List.map (ent task_Task.Pv PV.bool) [])],0,false,0,false⟩)]) ?_
 refine b79 (fn:=Tryz.f163) (N1:=18) J J Tryz.func163 J Ty.c98 J J nl (λe1 o2=>?_)
 refine jqR h (λq=>St.of [(1000007,.L task_Task.Pv a0.Q.L),(1000008,.fn (.func 164) [.ptr 2002 0 0,.ptr 2001 0 0]),(4,.bool q.1)] [(2001,vR (hold_Heap.Pv a0) 8),(2002,vS (.mp 5002003) 1),(5002003,⟨[.mapc (List.map (ent task_Task.Pv PV.bool) q.2)],0,false,0,false⟩)]) (λq20 h=>dup ?_) λκ17 h=>?_
 ·obtain⟨j18,j19⟩:=q20
  refine⟨J,[.bool j18],⟨J,tr⟩,?_⟩
  refine K9 (WE [(9,.bool j18)] [])<|S2 1 J<|a7 ?_
  cases h
  exact f1
 ·refine S4 1 J ?_
  refine jq h (λj29=>St.of [(1000007,.L task_Task.Pv a0.Q.L),(1000008,.fn (.func 164) [.ptr 2002 0 0,.ptr 2001 0 0])] [(2001,vR (hold_Heap.Pv a0) 8),(2002,vS (.mp 5002003) 1),(5002003,⟨[.mapc (List.map (ent task_Task.Pv PV.bool) j29)],0,false,0,false⟩)]) (λj29 h=>?_) λκ28 h=>?_
  ·refine S4 1 J ?_
   refine a7 ?_
   exact eJ h W
  ·refine S3 1 J ?_
   refine nL J Ty.e30<|S2 1 J<|c7<|lq h (λq=>St.of [(1000007,.L task_Task.Pv a0.Q.L),(1000008,.fn (.func 164) [.ptr 2002 0 0,.ptr 2001 0 0]),(1,.fn (.func 164) [.ptr 2002 0 0,.ptr 2001 0 0]),(7,.L task_Task.Pv a0.Q.L),(8,.I (a0.Q.L.length:Int)),(9,.I q.1)] [(2001,vR (hold_Heap.Pv a0) 8),(2002,vS (.mp 5002003) 1),(5002003,⟨[.mapc (List.map (ent task_Task.Pv PV.bool) q.2)],0,false,0,false⟩)]) W λq34 x33 h hx29=>?_
   obtain⟨s31,s32⟩:=q34
   refine S4 1 J<|b9 ?_
   refine cN h (λhc h=>?_) λhc h=>?_
   ·refine a8 ?_
    refine b9<|c7<|sR<|iL h J J Ty.e30 Ty.b4f λv35 _ h=>S2 3 J<|S3 2 J<|K9 (WE [(1000007,.L task_Task.Pv a0.Q.L),(1000008,.fn (.func 164) [.ptr 2002 0 0,.ptr 2001 0 0]),(1,.fn (.func 164) [.ptr 2002 0 0,.ptr 2001 0 0]),(7,.L task_Task.Pv a0.Q.L),(8,.I (a0.Q.L.length:Int)),(9,.I s31),(13,.fn (.func 164) [.ptr 2002 0 0,.ptr 2001 0 0]),(14,task_Task.Pv v35)] [(2001,vR (hold_Heap.Pv a0) 8),(2002,vS (.mp 5002003) 1),(5002003,⟨[.mapc (List.map (ent task_Task.Pv PV.bool) s32)],0,false,0,false⟩)]) ?_
    refine b79 (fn:=Tryz.f164) (N1:=34) J J Tryz.func164 J Ty.c99 J J nl (λe31 o32=>?_)
    refine S4 2 J<|S3 4 J<|y0 J (l4 (cs:=[.I v35.Kind,.I v35.At,.I 0]) J Ty.c7n Ty.c3Y J J J)<|S2 2 J<|S3 2 J<|c3W (es:=s32) (k:=(⟨v35.Kind,v35.At,0⟩:task_Task)) (E:=PV.bool) (EK:=task_Task.Pv) (d:=.bool ((y7 s32 (⟨v35.Kind,v35.At,0⟩:task_Task)).getD (false:Bool))) J J J J Ty.c5X (b7c task_Task.Pc (λ_=>J) Ty.c8Y (by decide) (λ_ _=>J) task_Task.beq_eq (λ_=>J) (λ_=>⟨J,J⟩)) Ty.z4 J (lk1 _ _ _)<|S2 1 J<|S3 2 J<|Z5 (es:=s32) (k:=(⟨v35.Kind,v35.At,0⟩:task_Task)) (v:=true) (E:=PV.bool) (EK:=task_Task.Pv) (.inl J) J J J J J J Ty.c5X (b7c task_Task.Pc (λ_=>J) Ty.c8Y (by decide) (λ_ _=>J) task_Task.beq_eq (λ_=>J) (λ_=>⟨J,J⟩))<|yN<|S3 3 J<|b8 J (λhg=>oF J Ty.c13 J)<|b8 J (λhg=>oS (ct hg) J J Ty.a3 J)<|b8 J (λhg=>j2 (ct hg) J J)<|y0 J (k7 J J J (λq=>H2 q))<|S1 1 J<|b8 J (λhg=>oF J Ty.c13 J)<|b8 J (λhg=>oS (ct hg) J J Ty.a3 J)<|b8 J (λhg=>j2 (ct hg) J J)<|y0 J (k7 J J J (λq=>H2 q))<|S1 1 J<|b8 J (λhg=>oL J J J Ty.R8 Ty.M4 nl J)<|b8 J (λhg=>oL J J J Ty.c6a Ty.b4f nl J)<|n9 h λv36 hv33 h=>b8 J (λhg=>w9 J a9w (p5 (ct hg) (p5 (ct hg) J)) (A0 hv33 hg))<|y0 J (k7 J J J (λq=>H2 q))<|S2 1 J<|a7 ?_
    refine⟨J,[.bool ((((!((y7 s32 (⟨v35.Kind,v35.At,0⟩:task_Task)).getD (false:Bool)))&&(decide (v35.Prog≥0)))&&(decide (v35.Prog<6)))&&v36)],⟨J,tr⟩,?_⟩
    refine K9 (WE [(1000007,.L task_Task.Pv a0.Q.L),(1000008,.fn (.func 164) [.ptr 2002 0 0,.ptr 2001 0 0]),(1,.fn (.func 164) [.ptr 2002 0 0,.ptr 2001 0 0]),(7,.L task_Task.Pv a0.Q.L),(8,.I (a0.Q.L.length:Int)),(9,.I s31),(15,.bool ((((!((y7 s32 (⟨v35.Kind,v35.At,0⟩:task_Task)).getD (false:Bool)))&&(decide (v35.Prog≥0)))&&(decide (v35.Prog<6)))&&v36))] [(2001,vR (hold_Heap.Pv a0) 8),(2002,vS (.mp 5002003) 1),(5002003,⟨[.mapc (List.map (ent task_Task.Pv PV.bool) (m7 s32 (⟨v35.Kind,v35.At,0⟩:task_Task) true))],0,false,0,false⟩)])<|S2 1 J ?_
    refine cN h (λhc h=>?_) λhc h=>?_
    ·refine S4 1 J ?_
     refine a7 ?_
     have h:=xL hx29 h
     exact eJ h W
    ·refine a8 ?_
     refine S6 2 J ?_
     exact eL h W
   ·refine j8 ?_
    refine b7<|b7<|c8 ?_
    have h:=xL hx29 h
    exact eJ h W

theorem a8K{a0 a1}:PO Tryz.prog 167 [weak_Cell.Pv a0,.rptr (hold_Heap.Pc a1)] (a2i a0 a1) λr=>.bool r:=by
 refine pO Tryz.func167 λr h _ _=>?_
 refine S4 2 J<|b9<|S3 4 J<|b8 J (λhg=>oF J Ty.c8t J)<|b8 J (λhg=>oS (ct hg) J J Ty.a3 J)<|b8 J (λhg=>j2 (ct hg) J J)<|y0 J (n0 J J J (λq=>H0 q))<|yN ?_
 refine cN h (λhc h=>?_) λhc h=>?_
 ·refine S4 1 J ?_
  refine a7 ?_
  cases h
  exact f1
 ·refine a8 ?_
  refine b9<|S4 2 J ?_
  refine cN h (λhc h=>?_) λhc h=>?_
  ·refine S3 3 J ?_
   refine cA h a0R J J λv1 _ h=>S2 1 J<|a7 ?_
   cases h
   exact f1
  ·refine a8 ?_
   refine S3 5 J<|cA h D4 J J λv2 _ h=>S2 5 J<|S3 4 J<|b8 J (λhg=>mI J)<|b8 J (λhg=>j2 (ct hg) J J)<|y0 J (n0 J J J (λq=>H0 q))<|S2 1 J<|a7 ?_
   cases h
   exact f1

theorem V5{a0 a1}:PO Tryz.prog 166 [.L weak_Cell.Pv a0,.fn (.func 167) [.rptr (hold_Heap.Pc a1)]] (B7 a0 a1) λr=>.bool r:=by
 refine pO Tryz.func166 λr h _ _=>?_
 refine S4 1 J ?_
 refine jq h (λ_=>St.of [] []) (λq7 h=>?_) λκ6 h=>?_
 ·refine S4 1 J ?_
  refine a7 ?_
  cases h
  exact f1
 ·refine S3 1 J ?_
  refine nL J Ty.e28<|S2 1 J<|c7<|lq h (λs9=>St.of [(1,.fn (.func 167) [.rptr (hold_Heap.Pc a1)]),(7,.L weak_Cell.Pv a0),(8,.I (a0.length:Int)),(9,.I s9)] []) W λs9 x10 h hx9=>S4 1 J<|b9 ?_
  refine cN h (λhc h=>?_) λhc h=>?_
  ·refine a8 ?_
   refine b9<|c7<|sR<|iL h J J Ty.e28 Ty.s84 λv11 _ h=>S2 3 J<|S3 2 J<|cA h a8K J J λv12 _ h=>S2 1 J ?_
   refine cN h (λhc h=>?_) λhc h=>?_
   ·refine S4 1 J ?_
    refine a7 ?_
    have h:=xL hx9 h
    cases h
    exact f1
   ·refine a8 ?_
    refine S6 2 J ?_
    exact eL h W
  ·refine j8 ?_
   refine b7<|b7<|c8 ?_
   have h:=xL hx9 h
   exact eJ h W

theorem a4w{a0}:PO Tryz.prog 91 [hold_Heap.Pv a0] (a1M a0) λr=>.bool r:=by
 refine pO Tryz.func91 λr h _ _=>?_
 refine S4 2 J<|S3 3 J<|cA h V5 J J λv1 _ h=>S2 1 J<|a7 ?_
 cases h
 exact f1

theorem b1a{a0 a1}:PO Tryz.prog 249 [weak_Cell.Pv a0,.rptr [.I a1]] (a1V a0 a1) λr=>.bool r:=by
 refine pO Tryz.func249 λr h _ _=>?_
 unfold a1V at h
 refine S4 2 J<|S3 3 J<|b8 J (λhg=>oF J Ty.c2c J)<|b8 J (λhg=>oS (ct hg) J J Ty.a3 J)<|b8 J (λhg=>A8 J Ty.a3 J)<|b8 J (λhg=>j2 (ct hg) (ct hg) J)<|y0 J (k7 J J J (λq=>H2 q))<|S2 1 J<|a7 ?_
 cases h
 exact f1

theorem a2g{a0 a1}:PO Tryz.prog 248 [.L weak_Cell.Pv a0,.fn (.func 249) [.rptr [.I a1]]] (M0 a0 a1) λr=>.L iF r:=by
 refine pO Tryz.func248 λr h _ _=>?_
 refine S4 1 J<|S4 1 J ?_
 refine jq h (λj15=>St.of [(5,.sl 910005)] [(910005,⟨List.map iF j15,(List.map iF j15).length,true,1,true⟩)]) (λj15 h=>?_) λκ14 h=>?_
 ·refine S4 2 J ?_
  refine a7 ?_
  cases h
  exact f1
 ·refine S3 1 J ?_
  refine nL J Ty.e28<|S2 1 J<|c7<|lq h (λq=>St.of [(1,.fn (.func 249) [.rptr [.I a1]]),(5,.sl 910005),(8,.L weak_Cell.Pv a0),(9,.I (a0.length:Int)),(10,.I q.1)] [(910005,⟨List.map iF q.2,(List.map iF q.2).length,true,1,true⟩)]) (Wk.trans (E1 (t:=5) (l:=920005) (z:=1) J J) (WP (λl=>if l=910005 then 920005 else l))) λq20 x19 h hx14=>?_
  obtain⟨s17,s18⟩:=q20
  refine S4 1 J<|b9 ?_
  refine cN h (λhc h=>?_) λhc h=>?_
  ·refine a8 ?_
   refine jq h (λj25=>St.of [(1,.fn (.func 249) [.rptr [.I a1]]),(5,.sl 21),(8,.L weak_Cell.Pv a0),(9,.I (a0.length:Int)),(10,.I s17)] [(21,⟨List.map iF j25,(List.map iF j25).length,true,1,true⟩)]) (λj25 h=>?_) λκ24 h=>?_
   ·refine S6 2 J ?_
    exact eL h (Wk.trans (k8 _ [21]) (WP (λl=>if l=910005 then 21 else l)))
   ·refine c7 ?_
    refine S3 1 J<|iL h J J Ty.e28 Ty.s84 λv26 _ h=>S2 4 J<|S3 2 J<|cA h b1a J J λv27 _ h=>yN ?_
    refine cN h (λhc h=>?_) λhc h=>?_
    ·refine S5 2 J ?_
     refine y0 J (L1 (f:=iF) (l:=[s17]) J Ty.w8 Ty.s3 Ty.z3 J J nl J J)<|n9 h λv28 hv21 h=>I9 J (F4 (f:=iF) hv21 J J J J J J (.inl ⟨_,J,J⟩) Ty.w8 Ty.s3 Ty.b3 Ty.z3 J (λ_=>J)) J J J<|S2 1 J ?_
     exact eJ h (Wk.trans (k8 _ [21]) W)
    ·refine a8 ?_
     exact eJ h (Wk.trans (k8 _ [910005]) (WP (λl=>if l=21 then 910005 else l)))
  ·refine j8 ?_
   refine b7<|b7<|c8 ?_
   have h:=xL hx14 h
   exact eJ h (Wk.trans (k8 _ [910005]) W)

theorem b3M{a0 a1}:PO Tryz.prog 169 [.L weak_Cell.Pv a0,.I a1] (a2f a0 a1) λr=>.I r:=by
 refine pO Tryz.func169 λr h _ _=>?_
 unfold a2f at h
 refine S4 2 J<|S3 2 J<|n9 h λv1 hv1 h=>ycL J (s7 J a2g J hv1) J<|nL J Ty.w8<|S2 1 J<|a7 ?_
 cases h
 exact f1

theorem a4x{a0}:PO Tryz.prog 92 [hold_Heap.Pv a0] (a1N a0) λr=>.bool r:=by
 refine pO Tryz.func92 λr h _ _=>?_
 refine S4 2 J ?_
 refine jq h (λ_=>St.of [] []) (λq13 h=>?_) λκ12 h=>?_
 ·refine S4 1 J ?_
  refine a7 ?_
  cases h
  exact f1
 ·refine S3 4 J ?_
  refine nL J Ty.e22<|S2 1 J<|c7<|lq h (λs15=>St.of [(1,.ptr 1 0 0),(8,.L slab_Cell_store_Obj.Pv a0.S.S.Cells),(9,.I (a0.S.S.Cells.length:Int)),(10,.I s15)] [(1,vR (hold_Heap.Pv a0) 8)]) W λs15 x16 h hx14=>S4 1 J<|b9 ?_
  refine cN h (λhc h=>?_) λhc h=>?_
  ·refine a8 ?_
   refine jq h (λ_=>St.of [(1,.ptr 1 0 0),(8,.L slab_Cell_store_Obj.Pv a0.S.S.Cells),(9,.I (a0.S.S.Cells.length:Int)),(10,.I s15)] [(1,vR (hold_Heap.Pv a0) 8)]) (λq21 h=>?_) λκ20 h=>?_
   ·refine S6 2 J ?_
    exact eL h W
   ·refine c7 ?_
    refine S3 1 J<|iL h J J Ty.e22 Ty.a4Q λv22 _ h=>S2 4 J<|b9<|S3 4 J<|b8 J (λhg=>oF J Ty.b2z J)<|b8 J (λhg=>oS (ct hg) J J Ty.a3 J)<|b8 J (λhg=>j2 (ct hg) J J)<|y0 J (k7 J J J (λq=>H2 q))<|yN ?_
    refine cN h (λhc h=>?_) λhc h=>?_
    ·refine j8 ?_
     refine b7<|c8 ?_
     exact eJ h W
    ·refine a8 ?_
     refine b9<|dr [] Ty.N3 (by kernel_rfl) (by kernel_rfl)<|S7 8 J<|n9 h λv23 hv20 h=>d2 J (w9 J a2Y J hv20) J<|n9 h λv24 hv21 h=>d2 J (w9 J b3M J hv21) J<|S8 1 J ?_
     refine cN h (λhc h=>?_) λhc h=>?_
     ·refine S4 1 J ?_
      refine a7 ?_
      have h:=xL hx14 h
      cases h
      exact f1
     ·refine a8 ?_
      refine S3 4 J<|b8 J (λhg=>oF J Ty.b5a J)<|b8 J (λhg=>oF (ct hg) Ty.b8n J)<|b8 J (λhg=>oS (ct hg) J J Ty.a3 J)<|b8 J (λhg=>j2 (ct hg) J J)<|b8 J (λhg=>om (d:=.bool (decide (v22.Val.Weak<1))) (ct hg))<|b8 (m8 J J J) (λhg=>oF J Ty.b5a J)<|b8 (m8 J J J) (λhg=>oF (ct hg) Ty.b8p J)<|b8 (m8 J J J) (λhg=>oS (ct hg) J J Ty.a27 J)<|b8 (m8 J J J) (λhg=>H7 (f:=iF) (ct hg) Ty.w8)<|b8 (m8 J J J) (λhg=>j2 (ct hg) J J)<|b8 J (λhg=>n0 (ct hg) J J (λq=>a1l hg (H0 q)))<|b8 J (λhg=>om (d:=.bool ((decide (v22.Val.Weak<1))||(decide ((v22.Val.Fields.length:Int) > 0)))) (ct hg))<|b8 (m8 J J J) (λhg=>oF J Ty.b5a J)<|b8 (m8 J J J) (λhg=>oF (ct hg) Ty.c1V J)<|b8 (m8 J J J) (λhg=>oS (ct hg) J J Ty.a3 J)<|b8 (m8 J J J) (λhg=>j2 (ct hg) J J)<|b8 J (λhg=>n0 (ct hg) J J (λq=>a1l hg (H0 q)))<|y0 J (k7 J J J (λq=>H2 q))<|yN ?_
      refine cN h (λhc h=>?_) λhc h=>?_
      ·refine S4 1 J ?_
       refine a7 ?_
       have h:=xL hx14 h
       cases h
       exact f1
      ·refine a8 ?_
       exact eJ h W
  ·refine j8 ?_
   refine b7<|b7<|c8 ?_
   have h:=xL hx14 h
   exact eJ h W

theorem b8A{f:Fv}{a0:hold_Heap}{r:Bool}(h:X6 f a0=some r):∃n,f=some n∧z7 Tryz.prog n∧O1 Tryz.prog n [hold_Heap.Pv a0] (.bool r):=by
 unfold X6 at h
 by_cases e88:f=some 88
 ·rw[if_pos e88] at h;exact⟨88,e88,(@a3H a0).1,(@a3H a0).2 _ h⟩
 rw[if_neg e88] at h
 by_cases e89:f=some 89
 ·rw[if_pos e89] at h;exact⟨89,e89,(@a3I a0).1,(@a3I a0).2 _ h⟩
 rw[if_neg e89] at h
 by_cases e90:f=some 90
 ·rw[if_pos e90] at h;exact⟨90,e90,(@a4y a0).1,(@a4y a0).2 _ h⟩
 rw[if_neg e90] at h
 by_cases e91:f=some 91
 ·rw[if_pos e91] at h;exact⟨91,e91,(@a4w a0).1,(@a4w a0).2 _ h⟩
 rw[if_neg e91] at h
 by_cases e92:f=some 92
 ·rw[if_pos e92] at h;exact⟨92,e92,(@a4x a0).1,(@a4x a0).2 _ h⟩
 rw[if_neg e92] at h
 cases h

theorem b6h{a0}:PO Tryz.prog 175 [queue_Queue_task_Task.Pv a0] (a4U a0) λr=>.L iF r:=by
 refine pO Tryz.func175 λr h _ _=>?_
 refine S4 2 J<|S4 1 J ?_
 refine jq h (λj10=>St.of [(3,.ptr 2001 0 0)] [(2001,vS (.sl 912501) 1),(912501,⟨List.map iF j10,(List.map iF j10).length,true,1,true⟩)]) (λj10 h=>?_) λκ9 h=>?_
 ·refine S4 2 J ?_
  refine a7 ?_
  cases h
  exact f1
 ·refine S3 1 J ?_
  refine cF h b3F J J λv11 _ h=>yN<|c7<|a2u (WPE (λl=>if l=2011 then 3 else l) [(3,.ptr 2011 0 0),(6,.fn (.func 303) [.rptr (queue_Queue_task_Task.Pc v11.1),.rptr [.I v11.2]])] [(2011,vR (.nl) 1)]) ?_
  refine a0a (fn:=Tryz.f303) (N1:=24) J Tryz.func303 J J nl J Ty.c8A J J (λl17 e18 o19 hR20=>?_)
  refine S3 2 J<|nL J Ty.e30<|S2 1 J<|c7<|lq h (λq=>St.of [(1000003,.ptr 2011 0 0),(1000006,.fn (.func 303) [.rptr (queue_Queue_task_Task.Pc v11.1),.rptr [.I v11.2]]),(0,.fn (.yield l17) []),(2,.rptr [.I v11.2]),(7,.L task_Task.Pv v11.1.L),(8,.I (v11.1.L.length:Int)),(9,.I q.1)] [(2011,vS (.sl 912511) 1),(912511,⟨List.map iF q.2,(List.map iF q.2).length,true,1,true⟩)]) (Wk.trans (a71 (l0:=2011) (j:=0) (l:=922511) (z:=1) J J J J J) (WP (λl=>if l=912511 then 922511 else l))) λq16 x15 h hx23=>?_
  obtain⟨s13,s14⟩:=q16
  refine S4 1 J<|b9 ?_
  refine cN h (λhc h=>?_) λhc h=>?_
  ·refine a8 ?_
   refine b9<|c7<|sR<|iL h J J Ty.e30 Ty.b4f λv17 _ h=>S2 3 J<|S3 5 J<|b8 J (λhg=>om (d:=.fn (.yield l17) []) J)<|b8 J (λhg=>oL J J J Ty.c6a Ty.b4f nl J) ?_
   rcases Bool.eq_false_or_eq_true ((v17.Kind==v11.2)==true) with hg25 | hg25
   ·have h:=ifT h hg25
    refine K9 (WPE (λl=>if l=2019 then 912511 else l) [(1000003,.ptr 2011 0 0),(1000006,.fn (.func 303) [.rptr (queue_Queue_task_Task.Pc v11.1),.rptr [.I v11.2]]),(0,.fn (.yield l17) []),(2,.rptr [.I v11.2]),(7,.L task_Task.Pv v11.1.L),(8,.I (v11.1.L.length:Int)),(9,.I s13),(17,.bool (v17.Kind==v11.2)),(18,.fn (.yield l17) []),(19,task_Task.Pv v17)] [(2011,vS (.sl 2019) 1),(2019,⟨List.map iF s14,(List.map iF s14).length,true,1,true⟩)]) ?_
    refine a36 hR20 (congrArg some hg25) J J J J J (λe26 o27 o28=>?_)
    refine S6 2 J ?_
    refine⟨J,?_⟩
    refine c7<|S5 3 J<|y0 J (L1 (f:=iF) (l:=[v17.At]) J Ty.w8 Ty.s3 Ty.z3 J J nl J J)<|n9 h λv18 hv29 h=>I9 J (F4 (f:=iF) hv29 J J J J J J (.inl ⟨_,J,J⟩) Ty.w8 Ty.s3 Ty.b3 Ty.z3 J (λ_=>J)) J J J<|S2 1 J ?_
    refine⟨J,?_⟩
    refine K9 (WPE (λl=>if l=2020 then 12 else l) [(1000003,.ptr 2011 0 0),(1000006,.fn (.func 303) [.rptr (queue_Queue_task_Task.Pc v11.1),.rptr [.I v11.2]]),(0,.fn (.yield l17) []),(2,.rptr [.I v11.2]),(7,.L task_Task.Pv v11.1.L),(8,.I (v11.1.L.length:Int)),(9,.I s13),(17,.bool (v17.Kind==v11.2)),(20,.bool true)] [(2011,vS (.sl 2020) 1),(2020,⟨List.map iF v18,s14.length,true,1,true⟩)])<|y0 (congrArg some hg25) (S0 J J)<|y0 J (a7v J J hg25)<|yN ?_
    refine F6 false J (λq=>nomatch q) (λ_=>?_)
    refine a8<|S6 2 J ?_
    exact eL h (Wk.trans (k8 _ [2020]) (WP (λl=>if l=912511 then 2020 else l)))
   ·have h:=ifF h hg25
    refine a1b (congrArg some hg25)<|a1b (congrArg some hg25)<|y0 J (a7u J J hg25)<|yN ?_
    refine F6 false J (λq=>nomatch q) (λ_=>?_)
    refine a8<|S6 2 J ?_
    exact eL h (Wk.trans (k8 _ [912511]) W)
  ·refine j8 ?_
   refine b7<|b7<|c8 ?_
   refine .inl ⟨J,?_⟩
   have h:=xL hx23 h
   exact eJ h (Wk.trans (k8 _ [912511]) (WP (λl=>if l=2001 then 2011 else if l=912501 then 912511 else l)))

theorem b35{a0}:PO Tryz.prog 94 [hold_Heap.Pv a0] (a5i a0) λr=>.L iF r:=by
 refine pO Tryz.func94 λr h _ _=>?_
 refine S4 2 J<|S4 1 J ?_
 refine jq h (λj13=>St.of [(1,.ptr 1 0 0),(3,.sl 910003)] [(910003,⟨List.map iF j13,(List.map iF j13).length,true,1,true⟩),(1,vR (hold_Heap.Pv a0) 8)]) (λj13 h=>?_) λκ12 h=>?_
 ·refine S3 3 J ?_
  refine cF h b6h J J λv14 _ h=>n9 h λv15 hv11 h=>I9 J (F4 (f:=iF) hv11 J J J J J J (.inl ⟨_,J,J⟩) Ty.w8 Ty.s3 Ty.b3 Ty.z3 J (λ_=>J)) J J J<|S2 1 J<|a7 ?_
  cases h
  exact f1
 ·refine S3 2 J ?_
  refine nL J Ty.w8<|S2 1 J<|c7<|lq h (λq=>St.of [(1,.ptr 1 0 0),(3,.sl 910003),(7,.L iF a0.Roots),(8,.I (a0.Roots.length:Int)),(9,.I q.1)] [(1,vR (hold_Heap.Pv a0) 8),(910003,⟨List.map iF q.2,(List.map iF q.2).length,true,1,true⟩)]) (Wk.trans (E1 (t:=3) (l:=920003) (z:=1) J J) (WP (λl=>if l=910003 then 920003 else l))) λq20 x19 h hx14=>?_
  obtain⟨s17,s18⟩:=q20
  refine S4 1 J<|b9 ?_
  refine cN h (λhc h=>?_) λhc h=>?_
  ·refine a8 ?_
   refine jq h (λj24=>St.of [(1,.ptr 1 0 0),(3,.sl 18),(7,.L iF a0.Roots),(8,.I (a0.Roots.length:Int)),(9,.I s17)] [(18,⟨List.map iF j24,(List.map iF j24).length,true,1,true⟩),(1,vR (hold_Heap.Pv a0) 8)]) (λj24 h=>?_) λκ23 h=>?_
   ·refine S6 2 J ?_
    exact eL h (Wk.trans (k8 _ [18]) (WP (λl=>if l=910003 then 18 else l)))
   ·refine c7 ?_
    refine sR<|iL h J J Ty.w8 Ty.s3 λv25 _ h=>S2 2 J<|S4 2 J ?_
    refine cN h (λhc h=>?_) λhc h=>?_
    ·refine S5 2 J ?_
     refine y0 J (L1 (f:=iF) (l:=[v25]) J Ty.w8 Ty.s3 Ty.z3 J J nl J J)<|n9 h λv26 hv19 h=>I9 J (F4 (f:=iF) hv19 J J J J J J (.inl ⟨_,J,J⟩) Ty.w8 Ty.s3 Ty.b3 Ty.z3 J (λ_=>J)) J J J<|S2 1 J ?_
     exact eJ h (Wk.trans (k8 _ [18]) W)
    ·refine a8 ?_
     exact eJ h (Wk.trans (k8 _ [910003]) (WP (λl=>if l=18 then 910003 else l)))
  ·refine j8 ?_
   refine b7<|b7<|c8 ?_
   have h:=xL hx14 h
   exact eJ h (Wk.trans (k8 _ [910003]) W)

theorem b2p{a0}:PO Tryz.prog 171 [.I a0] (a6s a0) λr=>.bool r:=by
 refine pO Tryz.func171 λr h _ _=>?_
 refine S4 1 J<|S3 1 J<|cA h V2 J J λv1 _ h=>S2 1 J<|a7 ?_
 cases h
 exact f1

theorem b4d{a0}:PO Tryz.prog 325 [store_Store.Pv a0] (a5B a0) λr=>.fn (.func 332) [.rptr (store_Store.Pc r)]:=by
 refine pO Tryz.func325 λr h _ _=>?_
 unfold a5B at h
 refine S4 2 J<|S4 2 J<|a7 ?_
 cases h
 exact f1

theorem b7N{a0 a1}:PO Tryz.prog 333 [store_Store.Pv a0,.I a1] (a94 a0 a1) λr=>.L iF r:=by
 refine pO Tryz.func333 λr h _ _=>?_
 refine S4 2 J<|S3 2 J<|cF h A5 J J λv1 _ h=>S2 6 J<|S3 2 J<|cF h b0o J J λv2 _ h=>S2 1 J<|a7 ?_
 cases h
 exact f1

theorem b9a{a0 a1}:PO Tryz.prog 301 [store_Store.Pv a0,.I a1] (b2b a0 a1) λr=>.I r:=by
 refine pO Tryz.func301 λr h _ _=>?_
 refine S4 3 J<|S4 2 J ?_
 refine jq h (λj31=>St.of [(5,.ptr 2001 0 0)] [(2001,vR (.I j31) 1)]) (λj31 h=>?_) λκ30 h=>?_
 ·refine S4 2 J ?_
  refine a7 ?_
  cases h
  exact f1
 ·refine S3 1 J ?_
  refine cF h b4d J J λv32 _ h=>yN<|c7<|a2u (WPE (λl=>if l=2003 then 5 else if l=2004 then 3 else l) [(3,.ptr 2004 0 0),(5,.ptr 2003 0 0),(9,.fn (.func 332) [.rptr (store_Store.Pc v32)])] [(2003,vR (.I 0) 1),(2004,vR (.I a1) 1)]) ?_
  refine a0a (fn:=Tryz.f332) (N1:=29) J Tryz.func332 J J nl J Ty.d0f J J (λl33 e34 o35 hR36=>?_)
  refine c3h<|b9<|c3g<|S3 1 J<|cF h a0h J J λv33 _ h=>nL J Ty.w8<|S2 1 J<|c7<|lq h (λq=>St.of [(1000003,.ptr 2004 0 0),(1000005,.ptr 2003 0 0),(1000009,.fn (.func 332) [.rptr (store_Store.Pc v32)]),(0,.fn (.yield l33) []),(1,.rptr (store_Store.Pc v32)),(8,.L iF v33),(9,.I (v33.length:Int)),(10,.I q.1)] [(2003,vR (.I q.2) 1),(2004,vR (.I a1) 1)]) W λq38 x37 h hx40=>?_
  obtain⟨s35,s36⟩:=q38
  refine S4 1 J<|b9 ?_
  refine cN h (λhc h=>?_) λhc h=>?_
  ·refine a8 ?_
   refine jq h (λj50=>St.of [(1000003,.ptr 2004 0 0),(1000005,.ptr 2003 0 0),(1000009,.fn (.func 332) [.rptr (store_Store.Pc v32)]),(0,.fn (.yield l33) []),(1,.rptr (store_Store.Pc v32)),(8,.L iF v33),(9,.I (v33.length:Int)),(10,.I s35)] [(2003,vR (.I j50) 1),(2004,vR (.I a1) 1)]) (λj50 h=>?_) λκ49 h=>?_
   ·refine S6 2 J ?_
    exact eL h W
   ·refine c7 ?_
    refine sR<|iL h J J Ty.w8 Ty.s3 λv51 _ h=>S2 2 J<|S3 2 J<|cF h b7N J J λv52 _ h=>nL J Ty.w8<|S2 1 J<|c7<|lq h (λq=>St.of [(1000003,.ptr 2004 0 0),(1000005,.ptr 2003 0 0),(1000009,.fn (.func 332) [.rptr (store_Store.Pc v32)]),(0,.fn (.yield l33) []),(1,.rptr (store_Store.Pc v32)),(4,.I v51),(8,.L iF v33),(9,.I (v33.length:Int)),(10,.I s35),(16,.L iF v52),(17,.I (v52.length:Int)),(18,.I q.1)] [(2003,vR (.I q.2) 1),(2004,vR (.I a1) 1)]) W λq57 x56 h hx56=>?_
    obtain⟨s54,s55⟩:=q57
    refine S4 1 J<|b9 ?_
    refine cN h (λhc h=>?_) λhc h=>?_
    ·refine a8 ?_
     refine b9<|c7<|sR<|iL h J J Ty.w8 Ty.s3 λv58 _ h=>S2 2 J<|S3 3 J<|K9 (WE [(1000003,.ptr 2004 0 0),(1000005,.ptr 2003 0 0),(1000009,.fn (.func 332) [.rptr (store_Store.Pc v32)]),(0,.fn (.yield l33) []),(1,.rptr (store_Store.Pc v32)),(4,.I v51),(8,.L iF v33),(9,.I (v33.length:Int)),(10,.I s35),(16,.L iF v52),(17,.I (v52.length:Int)),(18,.I s54),(22,.fn (.yield l33) []),(23,.I v51),(24,.I v58)] [(2003,vR (.I s55) 1),(2004,vR (.I a1) 1)]) ?_
     refine a36 hR36 J J J J J J (λe58 o59 o60=>?_)
     refine S6 1 J ?_
     refine⟨J,?_⟩
     refine jqE h (λj60=>St.of [(2000003,.ptr 2004 0 0),(2000005,.ptr 2003 0 0),(2000009,.fn (.func 332) [.rptr (store_Store.Pc v32)]),(1000000,.fn (.yield l33) []),(1000001,.rptr (store_Store.Pc v32)),(1000004,.I v51),(1000008,.L iF v33),(1000009,.I (v33.length:Int)),(1000010,.I s35),(1000016,.L iF v52),(1000017,.I (v52.length:Int)),(1000018,.I s54),(1000022,.fn (.yield l33) []),(1000023,.I v51),(1000024,.I v58)] [(2003,vR (.I j60) 1),(2004,vR (.I a1) 1)]) (λj60 h=>?_) λκ59 h=>?_
     ·refine⟨J,?_⟩
      refine K9 (WE [(1000003,.ptr 2004 0 0),(1000005,.ptr 2003 0 0),(1000009,.fn (.func 332) [.rptr (store_Store.Pc v32)]),(0,.fn (.yield l33) []),(1,.rptr (store_Store.Pc v32)),(4,.I v51),(8,.L iF v33),(9,.I (v33.length:Int)),(10,.I s35),(16,.L iF v52),(17,.I (v52.length:Int)),(18,.I s54),(25,.bool true)] [(2003,vR (.I j60) 1),(2004,vR (.I a1) 1)])<|S2 1 J ?_
      refine F6 false J (λq=>nomatch q) (λ_=>?_)
      refine a8<|S6 2 J ?_
      exact eL h W
     ·refine c7 ?_
      refine S4 3 J ?_
      refine cN h (λhc h=>?_) λhc h=>?_
      ·refine S6 3 J ?_
       exact eJ h W
      ·refine a8 ?_
       exact eJ h W
    ·refine j8 ?_
     refine b7<|b7<|c8 ?_
     have h:=xL hx56 h
     exact eJ h W
  ·refine j8 ?_
   refine b7<|b7<|c8<|b4g ?_
   refine .inl ⟨J,?_⟩
   have h:=xL hx40 h
   exact eJ h (WP (λl=>if l=2001 then 2003 else l))

theorem b0C{a0 a1}:PO Tryz.prog 326 [j4.Pv a0,.rptr [.I a1]] (a1K a0 a1) λr=>.bool r:=by
 refine pO Tryz.func326 λr h _ _=>?_
 unfold a1K at h
 refine S4 2 J<|S3 3 J<|b8 J (λhg=>oF J Ty.c15 J)<|b8 J (λhg=>oS (ct hg) J J Ty.a3 J)<|b8 J (λhg=>A8 J Ty.a3 J)<|b8 J (λhg=>j2 (ct hg) (ct hg) J)<|y0 J (k7 J J J (λq=>H2 q))<|S2 1 J<|a7 ?_
 cases h
 exact f1

theorem H3{a0 a1}:PO Tryz.prog 243 [.fn (.func 298) [.rptr [.L hash_Place.Pv a0]],.fn (.func 326) [.rptr [.I a1]]] (x5 a0 a1) λr=>.L j4.Pv r:=by
 refine pO Tryz.func243 λr h _ _=>?_
 refine S4 2 J<|S4 1 J ?_
 refine jq h (λj16=>St.of [(5,.ptr 2001 0 0)] [(2001,vS (.sl 912501) 1),(912501,⟨List.map j4.Pv j16,(List.map j4.Pv j16).length,true,2,true⟩)]) (λj16 h=>?_) λκ15 h=>?_
 ·refine S4 2 J ?_
  refine a7 ?_
  cases h
  exact f1
 ·refine S4 1 J ?_
  refine c7<|a2u (WPE (λl=>if l=2012 then 5 else if l=2013 then 3 else l) [(3,.ptr 2013 0 0),(5,.ptr 2012 0 0),(7,.fn (.func 298) [.rptr [.L hash_Place.Pv a0]])] [(2012,vR (.nl) 1),(2013,vR (.fn (.func 326) [.rptr [.I a1]]) 1)]) ?_
  refine a0a (fn:=Tryz.f298) (N1:=27) J Tryz.func298 J J nl J Ty.c8z J J (λl20 e21 o22 hR23=>?_)
  refine S3 1 J<|cF h a9p J J λv17 _ h=>nL J Ty.w8<|S2 1 J<|c7<|lq h (λq=>St.of [(1000003,.ptr 2013 0 0),(1000005,.ptr 2012 0 0),(1000007,.fn (.func 298) [.rptr [.L hash_Place.Pv a0]]),(0,.fn (.yield l20) []),(1,.rptr [.L hash_Place.Pv a0]),(8,.L iF v17),(9,.I (v17.length:Int)),(10,.I q.1)] [(2012,vS (.sl 912512) 1),(2013,vR (.fn (.func 326) [.rptr [.I a1]]) 1),(912512,⟨List.map j4.Pv q.2,(List.map j4.Pv q.2).length,true,2,true⟩)]) (Wk.trans (a71 (l0:=2012) (j:=0) (l:=922512) (z:=2) J J J J J) (WP (λl=>if l=912512 then 922512 else l))) λq22 x21 h hx27=>?_
  obtain⟨s19,s20⟩:=q22
  refine S4 1 J<|b9 ?_
  refine cN h (λhc h=>?_) λhc h=>?_
  ·refine a8 ?_
   refine b9<|c7<|sR<|iL h J J Ty.w8 Ty.s3 λv23 _ h=>S2 2 J<|S3 2 J<|cA h a3G J J λv24 _ h=>S2 5 J<|S3 3 J<|y0 J (l4 (cs:=[.I v23,.I v24.1]) J Ty.c8S Ty.c1u J J J)<|K9 (WPE (λl=>if l=2021 then 912512 else l) [(1000003,.ptr 2013 0 0),(1000005,.ptr 2012 0 0),(1000007,.fn (.func 298) [.rptr [.L hash_Place.Pv a0]]),(0,.fn (.yield l20) []),(1,.rptr [.L hash_Place.Pv a0]),(8,.L iF v17),(9,.I (v17.length:Int)),(10,.I s19),(20,.fn (.yield l20) []),(23,.agg [.I v23,.I v24.1])] [(2012,vS (.sl 2021) 1),(2021,⟨List.map j4.Pv s20,(List.map j4.Pv s20).length,true,2,true⟩),(2013,vR (.fn (.func 326) [.rptr [.I a1]]) 1)]) ?_
   refine a36 hR23 J J J J J J (λe30 o31 o32=>?_)
   refine S6 2 J ?_
   refine⟨J,?_⟩
   refine jqE h (λj28=>St.of [(2000003,.ptr 2013 0 0),(2000005,.ptr 2012 0 0),(2000007,.fn (.func 298) [.rptr [.L hash_Place.Pv a0]]),(1000000,.fn (.yield l20) []),(1000001,.rptr [.L hash_Place.Pv a0]),(1000008,.L iF v17),(1000009,.I (v17.length:Int)),(1000010,.I s19),(1000020,.fn (.yield l20) []),(1000023,.agg [.I v23,.I v24.1])] [(2012,vS (.sl 15) 1),(15,⟨List.map j4.Pv j28,(List.map j4.Pv j28).length,true,2,true⟩),(2013,vR (.fn (.func 326) [.rptr [.I a1]]) 1)]) (λj28 h=>?_) λκ27 h=>?_
   ·refine⟨J,?_⟩
    refine K9 (WPE (λl=>if l=2022 then 15 else l) [(1000003,.ptr 2013 0 0),(1000005,.ptr 2012 0 0),(1000007,.fn (.func 298) [.rptr [.L hash_Place.Pv a0]]),(0,.fn (.yield l20) []),(1,.rptr [.L hash_Place.Pv a0]),(8,.L iF v17),(9,.I (v17.length:Int)),(10,.I s19),(24,.bool true)] [(2012,vS (.sl 2022) 1),(2022,⟨List.map j4.Pv j28,(List.map j4.Pv j28).length,true,2,true⟩),(2013,vR (.fn (.func 326) [.rptr [.I a1]]) 1)])<|S2 1 J ?_
    refine F6 false J (λq=>nomatch q) (λ_=>?_)
    refine a8<|S6 2 J ?_
    exact eL h (Wk.trans (k8 _ [2022]) (WP (λl=>if l=912512 then 2022 else l)))
   ·refine c7 ?_
    refine S3 2 J<|cA h b0C J J λv29 _ h=>yN ?_
    refine cN h (λhc h=>?_) λhc h=>?_
    ·refine S5 2 J ?_
     refine y0 J (L1 (f:=j4.Pv) (l:=[(⟨v23,v24.1⟩:j4)]) J Ty.b8j Ty.c3y Ty.c1u J J nl J J)<|n9 h λv30 hv37 h=>I9 J (F4 (f:=j4.Pv) hv37 J J J J J J (.inl ⟨_,J,J⟩) Ty.b8j Ty.c3y Ty.c8i Ty.c1u J (λ_=>J)) J J J<|S2 1 J ?_
     exact eJ h (Wk.trans (k8 _ [15]) W)
    ·refine a8 ?_
     exact eJ h (Wk.trans (k8 _ [2021]) (WP (λl=>if l=15 then 2021 else l)))
  ·refine j8 ?_
   refine b7<|b7<|c8 ?_
   refine .inl ⟨J,?_⟩
   have h:=xL hx27 h
   exact eJ h (Wk.trans (k8 _ [912512]) (WP (λl=>if l=2001 then 2012 else if l=912501 then 912512 else l)))

theorem b2v{a0 a1}:PO Tryz.prog 302 [.L hash_Place.Pv a0,.I a1] (a3B a0 a1) λr=>.I r:=by
 refine pO Tryz.func302 λr h _ _=>?_
 refine S4 2 J<|S3 1 J<|cF h a6u J J λv1 _ h=>S1 1 J<|n9 h λv2 hv2 h=>ycL J (s7 J H3 J hv2) J<|nL J Ty.b8j<|S2 1 J<|a7 ?_
 cases h
 exact f1

theorem b3H{a0 a1 a2}:PO Tryz.prog 251 [store_Store.Pv a0,.L hash_Place.Pv a1,.I a2] (a35 a0 a1 a2) λr=>.I r:=by
 refine pO Tryz.func251 λr h _ _=>?_
 refine S4 2 J<|S3 2 J<|cA h b9a J J λv1 _ h=>S1 2 J<|cA h b2v J J λv2 _ h=>S2 2 J<|a7 ?_
 cases h
 exact f1

theorem b4l{a0 a1 a2}:PO Tryz.prog 172 [store_Store.Pv a0,.L hash_Place.Pv a1,.I a2] (a5R a0 a1 a2) λr=>.I r:=by
 refine pO Tryz.func172 λr h _ _=>?_
 refine S4 2 J<|S3 2 J<|cF h A5 J J λv1 _ h=>S2 6 J<|b9<|S4 2 J ?_
 refine cN h (λhc h=>?_) λhc h=>?_
 ·refine S4 1 J ?_
  refine a7 ?_
  cases h
  exact f1
 ·refine a8 ?_
  refine dr [] Ty.N3 (by kernel_rfl) (by kernel_rfl)<|S7 5 J<|n9 h λv2 hv2 h=>d2 J (w9 J b3H J hv2) J<|S8 2 J<|a7 ?_
  cases h
  exact f1

theorem b6m{a0 a1}:PO Tryz.prog 252 [.L iF a0,.I a1] (a7T a0 a1) λr=>.I r:=by
 refine pO Tryz.func252 λr h _ _=>?_
 refine S4 2 J<|S4 2 J ?_
 refine jq h (λj11=>St.of [(5,.ptr 2001 0 0)] [(2001,vR (.I j11) 1)]) (λj11 h=>?_) λκ10 h=>?_
 ·refine S4 2 J ?_
  refine a7 ?_
  cases h
  exact f1
 ·refine S3 1 J ?_
  refine cF h b0p J J λv12 _ h=>yN<|c7<|a2u (WPE (λl=>if l=2003 then 5 else if l=2004 then 3 else l) [(3,.ptr 2004 0 0),(5,.ptr 2003 0 0),(8,.fn (.func 316) [.rptr [.L iF v12]])] [(2003,vR (.I 0) 1),(2004,vR (.I a1) 1)]) ?_
  refine a0a (fn:=Tryz.f316) (N1:=20) J Tryz.func316 J J nl J Ty.c8B J J (λl17 e18 o19 hR20=>?_)
  refine S3 1 J<|nL J Ty.w8<|S2 1 J<|c7<|lq h (λq=>St.of [(1000003,.ptr 2004 0 0),(1000005,.ptr 2003 0 0),(1000008,.fn (.func 316) [.rptr [.L iF v12]]),(0,.fn (.yield l17) []),(5,.L iF v12),(6,.I (v12.length:Int)),(7,.I q.1)] [(2003,vR (.I q.2) 1),(2004,vR (.I a1) 1)]) W λq17 x16 h hx23=>?_
  obtain⟨s14,s15⟩:=q17
  refine S4 1 J<|b9 ?_
  refine cN h (λhc h=>?_) λhc h=>?_
  ·refine a8 ?_
   refine b9<|c7<|sR<|iL h J J Ty.w8 Ty.s3 λv18 _ h=>S2 2 J<|S3 3 J<|b8 J (λhg=>om (d:=.fn (.yield l17) []) J)<|b8 J (λhg=>mI J) ?_
   rcases Bool.eq_false_or_eq_true ((v18 != 0)==true) with hg25 | hg25
   ·have h:=ifT h hg25
    refine K9 (WE [(1000003,.ptr 2004 0 0),(1000005,.ptr 2003 0 0),(1000008,.fn (.func 316) [.rptr [.L iF v12]]),(0,.fn (.yield l17) []),(5,.L iF v12),(6,.I (v12.length:Int)),(7,.I s14),(13,.bool (v18 != 0)),(14,.fn (.yield l17) []),(15,.I v18)] [(2003,vR (.I s15) 1),(2004,vR (.I a1) 1)]) ?_
    refine a36 hR20 (congrArg some hg25) J J J J J (λe26 o27 o28=>?_)
    refine S6 1 J ?_
    refine⟨J,?_⟩
    refine jqE h (λj20=>St.of [(2000003,.ptr 2004 0 0),(2000005,.ptr 2003 0 0),(2000008,.fn (.func 316) [.rptr [.L iF v12]]),(1000000,.fn (.yield l17) []),(1000005,.L iF v12),(1000006,.I (v12.length:Int)),(1000007,.I s14),(1000013,.bool (v18 != 0)),(1000014,.fn (.yield l17) []),(1000015,.I v18)] [(2003,vR (.I j20) 1),(2004,vR (.I a1) 1)]) (λj20 h=>?_) λκ19 h=>?_
    ·refine⟨J,?_⟩
     refine K9 (WE [(1000003,.ptr 2004 0 0),(1000005,.ptr 2003 0 0),(1000008,.fn (.func 316) [.rptr [.L iF v12]]),(0,.fn (.yield l17) []),(5,.L iF v12),(6,.I (v12.length:Int)),(7,.I s14),(13,.bool (v18 != 0)),(16,.bool true)] [(2003,vR (.I j20) 1),(2004,vR (.I a1) 1)])<|b8 J (λhg=>S0 J J)<|y0 J (k7 J J J (λq=>H2 q))<|yN ?_
     refine cN h (λhc h=>?_) λhc h=>?_
     ·refine a7 ?_
      refine .inl ⟨J,?_⟩
      have h:=xL hx23 h
      exact eJ h (WP (λl=>if l=2001 then 2003 else l))
     ·refine a8 ?_
      refine S6 2 J ?_
      exact eL h W
    ·refine c7 ?_
     refine S4 3 J ?_
     refine cN h (λhc h=>?_) λhc h=>?_
     ·refine S6 3 J ?_
      exact eJ h W
     ·refine a8 ?_
      exact eJ h W
   ·have h:=ifF h hg25
    refine a1b (congrArg some hg25)<|a1b (congrArg some hg25)<|y0 J (a7u J J hg25)<|yN ?_
    refine F6 false J (λq=>nomatch q) (λ_=>?_)
    refine a8<|S6 2 J ?_
    exact eL h W
  ·refine j8 ?_
   refine b7<|b7<|c8 ?_
   refine .inl ⟨J,?_⟩
   have h:=xL hx23 h
   exact eJ h (WP (λl=>if l=2001 then 2003 else l))

theorem b4c{a0 a1}:PO Tryz.prog 173 [.L iF a0,.I a1] (a5A a0 a1) λr=>.I r:=by
 refine pO Tryz.func173 λr h _ _=>?_
 refine S4 1 J<|S3 2 J<|cA h b6m J J λv1 _ h=>S2 1 J<|a7 ?_
 cases h
 exact f1

theorem b1N{a0 a1 a2 a3 a4}:PO Tryz.prog 170 [.I a0,store_Obj.Pv a1,.rptr (store_Store.Pc a2),.rptr [.L hash_Place.Pv a3],.rptr [.L iF a4]] (a2G a0 a1 a2 a3 a4) λr=>.bool r:=by
 refine pO Tryz.func170 λr h _ _=>?_
 unfold a2G at h
 refine S4 2 J<|dr [] Ty.N3 (by kernel_rfl) (by kernel_rfl)<|S7 2 J<|n9 h λv1 hv1 h=>d2 J (w9 J b2p J hv1) J<|S7 2 J<|y8 J (λhg=>a9I J Ty.a26 Ty.s26 nl J) J<|y8 J (λhg=>A8 J Ty.a29 J) J<|o0 J (λhg _ hN=>mI J) J<|n9 h λv2 hv2 h=>a1W J (λhg=>w9 J b4l (p5 (ct hg) (p5 (ct hg) (p5 (ct hg) J))) (A0 hv2 hg)) J<|y8 J (λhg=>A8 J Ty.a27 J) J<|o0 J (λhg _ hN=>mI J) J<|n9 h λv3 hv3 h=>a1W J (λhg=>w9 J b4c (p5 (ct hg) (p5 (ct hg) J)) (A0 hv3 hg)) J<|o0 J (λhg _ hN=>j2 (ct hg) (ct hg) J) J<|d7 J (λ_ hN=>k7 J J J (λq=>H2 q)) J<|S8 1 J<|a7 ?_
 cases h
 exact f1

theorem b4k{a0 a1 a2}:PO Tryz.prog 93 [store_Store.Pv a0,.L hash_Place.Pv a1,.L iF a2] (a5Q a0 a1 a2) λr=>.bool r:=by
 refine pO Tryz.func93 λr h _ _=>?_
 refine S4 4 J<|S3 1 J<|y0 J (l4 (cs:=[.fn (.func 170) [.ptr 3 0 0,.ptr 4 0 0,.ptr 5 0 0]]) J Ty.d0m Ty.d0I J J J)<|K9 (a2x 9 (d':=.agg [.fn (.func 170) [.ptr 3 0 0,.ptr 4 0 0,.ptr 5 0 0]]) J)<|S2 2 J<|S3 2 J<|K9 (WPE (λl=>if l=2001 then 5 else if l=2002 then 4 else if l=2003 then 3 else l) [(10,.agg [.fn (.func 170) [.ptr 2003 0 0,.ptr 2002 0 0,.ptr 2001 0 0]]),(11,store_Store.Pv a0)] [(2001,vR (.L iF a2) 1),(2002,vR (.L hash_Place.Pv a1) 1),(2003,vR (store_Store.Pv a0) 3)]) ?_
 refine b79 (fn:=Tryz.f174) (N1:=34) J J Tryz.func174 J Ty.d0a J J nl (λe1 o2=>?_)
 refine jqR h (λj36=>St.of [(1000010,.agg [.fn (.func 170) [.ptr 2003 0 0,.ptr 2002 0 0,.ptr 2001 0 0]]),(1000011,store_Store.Pv a0),(4,.sl 910005)] [(910005,⟨List.map iF j36,(List.map iF j36).length,true,1,true⟩),(2001,vR (.L iF a2) 1),(2002,vR (.L hash_Place.Pv a1) 1),(2003,vR (store_Store.Pv a0) 3)]) (λj36 h=>dup ?_) λκ35 h=>?_
 ·refine⟨J,[.sl 910005],⟨J,tr⟩,?_⟩
  refine K9 (WPE (λl=>if l=2004 then 910005 else l) [(12,.sl 2004)] [(2004,⟨List.map iF j36,(List.map iF j36).length,true,1,true⟩)])<|y0 J (b7n (f:=iF) J J J Ty.w8)<|S2 2 J<|a7 ?_
  cases h
  exact f1
 ·refine S4 3 J ?_
  refine S4 1 J ?_
  refine jq h (λj54=>St.of [(1000010,.agg [.fn (.func 170) [.ptr 2003 0 0,.ptr 2002 0 0,.ptr 2001 0 0]]),(1000011,store_Store.Pv a0),(5,.sl 910005)] [(910005,⟨List.map iF j54,(List.map iF j54).length,true,1,true⟩),(2001,vR (.L iF a2) 1),(2002,vR (.L hash_Place.Pv a1) 1),(2003,vR (store_Store.Pv a0) 3)]) (λj54 h=>?_) λκ53 h=>?_
  ·refine S4 2 J ?_
   refine a7 ?_
   exact eJ h (Wk.trans (k8 _ [910005]) W)
  ·refine S3 1 J ?_
   refine cF h a0h J J λv55 _ h=>nL J Ty.w8<|S2 1 J<|c7<|lq h (λq=>St.of [(1000010,.agg [.fn (.func 170) [.ptr 2003 0 0,.ptr 2002 0 0,.ptr 2001 0 0]]),(1000011,store_Store.Pv a0),(2,.ptr 2 0 0),(3,.ptr 3 0 0),(5,.sl 910005),(11,.L iF v55),(12,.I (v55.length:Int)),(13,.I q.1)] [(3,vR (store_Store.Pv a0) 3),(2,vS (.agg [.fn (.func 170) [.ptr 2003 0 0,.ptr 2002 0 0,.ptr 2001 0 0]]) 1),(2001,vR (.L iF a2) 1),(2002,vR (.L hash_Place.Pv a1) 1),(2003,vR (store_Store.Pv a0) 3),(910005,⟨List.map iF q.2,(List.map iF q.2).length,true,1,true⟩)]) (Wk.trans (E1 (t:=5) (l:=920005) (z:=1) J J) (WP (λl=>if l=910005 then 920005 else l))) λq60 x59 h hx48=>?_
   obtain⟨s57,s58⟩:=q60
   refine S4 1 J<|b9 ?_
   refine cN h (λhc h=>?_) λhc h=>?_
   ·refine a8 ?_
    refine jq h (λj66=>St.of [(1000010,.agg [.fn (.func 170) [.ptr 2003 0 0,.ptr 2002 0 0,.ptr 2001 0 0]]),(1000011,store_Store.Pv a0),(2,.ptr 2 0 0),(3,.ptr 3 0 0),(5,.sl 31),(11,.L iF v55),(12,.I (v55.length:Int)),(13,.I s57)] [(31,⟨List.map iF j66,(List.map iF j66).length,true,1,true⟩),(3,vR (store_Store.Pv a0) 3),(2,vS (.agg [.fn (.func 170) [.ptr 2003 0 0,.ptr 2002 0 0,.ptr 2001 0 0]]) 1),(2001,vR (.L iF a2) 1),(2002,vR (.L hash_Place.Pv a1) 1),(2003,vR (store_Store.Pv a0) 3)]) (λj66 h=>?_) λκ65 h=>?_
    ·refine S6 2 J ?_
     exact eL h (Wk.trans (k8 _ [31]) (WP (λl=>if l=910005 then 31 else l)))
    ·refine c7 ?_
     refine sR<|iL h J J Ty.w8 Ty.s3 λv67 _ h=>S2 2 J<|S3 2 J<|cF h A5 J J λv68 _ h=>S2 6 J<|S3 4 J<|cA h b1N J J λv69 _ h=>yN ?_
     refine cN h (λhc h=>?_) λhc h=>?_
     ·refine S5 2 J ?_
      refine y0 J (L1 (f:=iF) (l:=[v67]) J Ty.w8 Ty.s3 Ty.z3 J J nl J J)<|n9 h λv70 hv57 h=>I9 J (F4 (f:=iF) hv57 J J J J J J (.inl ⟨_,J,J⟩) Ty.w8 Ty.s3 Ty.b3 Ty.z3 J (λ_=>J)) J J J<|S2 1 J ?_
      exact eJ h (Wk.trans (k8 _ [31]) W)
     ·refine a8 ?_
      exact eJ h (Wk.trans (k8 _ [910005]) (WP (λl=>if l=31 then 910005 else l)))
   ·refine j8 ?_
    refine b7<|b7<|c8 ?_
    have h:=xL hx48 h
    exact eJ h (Wk.trans (k8 _ [910005]) W)

theorem b36{a0}:PO Tryz.prog 38 [hold_Heap.Pv a0] (a5j a0) λr=>.bool r:=by
 refine pO Tryz.func38 λr h _ _=>?_
 refine S4 2 J<|b9<|S3 1 J<|cA h a9v J J λv1 _ h=>S2 1 J ?_
 refine cN h (λhc h=>?_) λhc h=>?_
 ·refine S4 1 J ?_
  refine a7 ?_
  cases h
  exact f1
 ·refine a8 ?_
  refine jq h (λ_=>St.of [(1,.ptr 1 0 0)] [(1,vR (hold_Heap.Pv a0) 8)]) (λq9 h=>?_) λκ8 h=>?_
  ·refine dr [] Ty.N3 (by kernel_rfl) (by kernel_rfl) ?_
   refine S7 5 J<|n9 h λv10 hv11 h=>d2f J (s7 J b35 J hv11) J<|n9 h λv11 hv12 h=>d2 J (w9 J b4k J hv12) J<|S8 1 J<|a7 ?_
   cases h
   exact f1
  ·refine sR ?_
   refine y0 J (L1 (f:=λn:Nat=>PV.fn (.func n) []) (l:=[88,89,90,91,92]) J Ty.c6w Ty.s37 Ty.z37 J J nl J J)<|K9 (c7S 8 (d':=.lst true (List.map fvE [(some 88),(some 89),(some 90),(some 91),(some 92)])) J J J)<|nL J Ty.c6w<|S2 1 J<|c7<|lq h (λs13=>St.of [(1,.ptr 1 0 0),(8,.lst true (List.map fvE [(some 88),(some 89),(some 90),(some 91),(some 92)])),(9,.I ([(some 88),(some 89),(some 90),(some 91),(some 92)].length:Int)),(10,.I s13)] [(1,vR (hold_Heap.Pv a0) 8)]) W λs13 x14 h hx15=>S4 1 J<|b9 ?_
   refine cN h (λhc h=>?_) λhc h=>?_
   ·refine a8 ?_
    refine b9<|c7<|sR<|iL h J J Ty.c6w Ty.s37 λv15 _ h=>S2 2 J<|S3 2 J ?_
    obtain⟨v16,hv17,h⟩:=a6q h
    obtain⟨n17,he18,hk19,hp20⟩:=b8A hv17
    refine K9 (c0o 14 J he18)<|y0 J (b2W J hk19 J hp20)<|S2 1 J ?_
    refine cN h (λhc h=>?_) λhc h=>?_
    ·refine S4 1 J ?_
     refine a7 ?_
     have h:=xL hx15 h
     cases h
     exact f1
    ·refine a8 ?_
     refine S6 2 J ?_
     exact eL h W
   ·refine j8 ?_
    refine b7<|b7<|c8 ?_
    have h:=xL hx15 h
    exact eJ h W

theorem Y6:PO Tryz.prog 11 [] (P3) λr=>.bool r:=by
 refine pO Tryz.func11 λr h _ _=>?_
 refine S4 1 J<|sR<|cF h b68 J J λv1 _ h=>y0 J (l4 (cs:=[.I 1,.I 0,.I 1,.I (-1)]) J Ty.p36 Ty.z36 J J J)<|y0 J (l4 (cs:=[.I 2,.I 1,.I 0,.I 0]) J Ty.p36 Ty.z36 J J J)<|y0 J (l4 (cs:=[.I 6,.I 2,.I 1,.I 0]) J Ty.p36 Ty.z36 J J J)<|y0 J (l4 (cs:=[.I 10,.I 0,.I 1,.I 0]) J Ty.p36 Ty.z36 J J J)<|y0 J (l4 (cs:=[.I 3,.I 0,.I 0,.I 0]) J Ty.p36 Ty.z36 J J J)<|y0 J (l4 (cs:=[.I 7,.I 3,.I 2,.I 0]) J Ty.p36 Ty.z36 J J J)<|y0 J (l4 (cs:=[.I 3,.I 1,.I 0,.I 0]) J Ty.p36 Ty.z36 J J J)<|y0 J (l4 (cs:=[.I 3,.I 3,.I 0,.I 0]) J Ty.p36 Ty.z36 J J J)<|y0 J (L1 (f:=code_Op.Pv) (l:=[(⟨1,0,1,(-1)⟩:code_Op),(⟨2,1,0,0⟩:code_Op),(⟨6,2,1,0⟩:code_Op),(⟨10,0,1,0⟩:code_Op),(⟨3,0,0,0⟩:code_Op),(⟨7,3,2,0⟩:code_Op),(⟨3,1,0,0⟩:code_Op),(⟨3,3,0,0⟩:code_Op)]) J Ty.e61 Ty.s36 Ty.z36 J J nl J J)<|cF h b2R J J λv2 _ h=>S2 6 J<|S3 1 J<|y0 J (l4 (cs:=[.I 7,.I 3,.I 2,.I 0]) J Ty.p36 Ty.z36 J J J)<|cF h E7 J J λv3 _ h=>S2 8 J<|S3 1 J<|y0 J (l4 (cs:=[.I 4,.I 0,.I 0,.I 0]) J Ty.p36 Ty.z36 J J J)<|cF h E7 J J λv4 _ h=>S2 8 J<|S3 1 J<|y0 J (l4 (cs:=[.I 11,.I 0,.I 0,.I 0]) J Ty.p36 Ty.z36 J J J)<|cF h E7 J J λv5 _ h=>S2 8 J<|S3 1 J<|nL J Ty.w8<|S1 2 J<|b8 J (λhg=>om (d:=.L iF v2.2) J)<|n9 h λv6 hv6 h=>b8 J (λhg=>p7 (f:=iF) (cs:=[.I v6]) (A0 hv6 hg) (ct hg) J Ty.w8 Ty.s3 J J)<|b8 J (λhg=>A8 (ct hg) Ty.a3 J)<|b8 J (λhg=>j2 (ct hg) J J)<|y0 J (k7 J J J (λq=>H2 q))<|S1 1 J<|b8 J (λhg=>om (d:=.L iF v2.2) J)<|n9 h λv7 hv7 h=>b8 J (λhg=>p7 (f:=iF) (cs:=[.I v7]) (A0 hv7 hg) (ct hg) J Ty.w8 Ty.s3 J J)<|b8 J (λhg=>A8 (ct hg) Ty.a3 J)<|b8 J (λhg=>j2 (ct hg) J J)<|y0 J (k7 J J J (λq=>H2 q))<|S1 1 J<|b8 J (λhg=>om (d:=.L iF v2.2) J)<|n9 h λv8 hv8 h=>b8 J (λhg=>p7 (f:=iF) (cs:=[.I v8]) (A0 hv8 hg) (ct hg) J Ty.w8 Ty.s3 J J)<|b8 J (λhg=>A8 (ct hg) Ty.a3 J)<|b8 J (λhg=>j2 (ct hg) J J)<|y0 J (k7 J J J (λq=>H2 q))<|S1 1 J<|b8 J (λhg=>om (d:=.L iF v2.2) J)<|n9 h λv9 hv9 h=>b8 J (λhg=>p7 (f:=iF) (cs:=[.I v9]) (A0 hv9 hg) (ct hg) J Ty.w8 Ty.s3 J J)<|b8 J (λhg=>A8 (ct hg) Ty.a3 J)<|b8 J (λhg=>j2 (ct hg) J J)<|y0 J (k7 J J J (λq=>H2 q))<|S1 1 J<|b8 J (λhg=>om (d:=.L iF v2.2) J)<|n9 h λv10 hv10 h=>b8 J (λhg=>p7 (f:=iF) (cs:=[.I v10]) (A0 hv10 hg) (ct hg) J Ty.w8 Ty.s3 J J)<|b8 J (λhg=>A8 (ct hg) Ty.a3 J)<|b8 J (λhg=>j2 (ct hg) J J)<|y0 J (k7 J J J (λq=>H2 q))<|S1 1 J<|b8 J (λhg=>om (d:=.L iF v2.2) J)<|n9 h λv11 hv11 h=>b8 J (λhg=>p7 (f:=iF) (cs:=[.I v11]) (A0 hv11 hg) (ct hg) J Ty.w8 Ty.s3 J J)<|b8 J (λhg=>A8 (ct hg) Ty.a3 J)<|b8 J (λhg=>j2 (ct hg) J J)<|y0 J (k7 J J J (λq=>H2 q))<|S1 1 J<|b8 J (λhg=>om (d:=.L iF v2.2) J)<|n9 h λv12 hv12 h=>b8 J (λhg=>p7 (f:=iF) (cs:=[.I v12]) (A0 hv12 hg) (ct hg) J Ty.w8 Ty.s3 J J)<|b8 J (λhg=>A8 (ct hg) Ty.a3 J)<|b8 J (λhg=>j2 (ct hg) J J)<|y0 J (k7 J J J (λq=>H2 q))<|S1 1 J<|b8 J (λhg=>mI J)<|b8 J (λhg=>j2 (ct hg) J J)<|y0 J (k7 J J J (λq=>H2 q))<|S1 1 J<|b8 J (λhg=>mI J)<|b8 J (λhg=>j2 (ct hg) J J)<|y0 J (k7 J J J (λq=>H2 q))<|S1 1 J<|b8 J (λhg=>mI J)<|b8 J (λhg=>j2 (ct hg) J J)<|y0 J (k7 J J J (λq=>H2 q))<|S1 1 J<|b8 J (λhg=>mI J)<|b8 J (λhg=>j2 (ct hg) J J)<|y0 J (k7 J J J (λq=>H2 q))<|S1 1 J<|b8 J (λhg=>oF J Ty.b6R J)<|b8 J (λhg=>oF (ct hg) Ty.c18 J)<|b8 J (λhg=>oS (ct hg) J J Ty.a30 J)<|b8 J (λhg=>H7 (f:=task_Task.Pv) (ct hg) Ty.e30)<|b8 J (λhg=>j2 (ct hg) J J)<|y0 J (k7 J J J (λq=>H2 q))<|S1 1 J<|b8 J (λhg=>oF J Ty.c19 J)<|b8 J (λhg=>oL (ct hg) J J Ty.a26 Ty.s26 nl J)<|n9 h λv13 hv13 h=>c3V J (λhg=>s7 J a0h (p5 (ct hg) J) (A0 hv13 hg))<|b8 J (λhg=>H7 (f:=iF) (ct hg) Ty.w8)<|b8 J (λhg=>j2 (ct hg) J J)<|y0 J (k7 J J J (λq=>H2 q))<|S1 1 J<|b8 J (λhg=>oL J J J Ty.R8 Ty.M4 nl J)<|n9 h λv14 hv14 h=>b8 J (λhg=>w9 J Z9 (p5 (ct hg) (p5 J J)) (A0 hv14 hg))<|b8 J (λhg=>j2 (ct hg) J J)<|y0 J (k7 J J J (λq=>H2 q))<|S1 1 J<|b8 J (λhg=>oL J J J Ty.R8 Ty.M4 nl J)<|n9 h λv15 hv15 h=>b8 J (λhg=>w9 J b36 (p5 (ct hg) J) (A0 hv15 hg))<|y0 J (k7 J J J (λq=>H2 q))<|S2 1 J<|a7 ?_
 cases h
 exact f1

theorem c1p{a0}:PO Tryz.prog 15 [code_Op.Pv a0] (b9u a0) λr=>L8.Pv r:=by
 refine pO Tryz.func15 λr h _ _=>?_
 unfold b9u at h
 refine S4 2 J<|S4 2 J<|a7 ?_
 cases h
 exact⟨J,[_],⟨oL J J J Ty.a55 Ty.s55 nl J,tr⟩,J,io⟩

theorem L3{a0 a1 a2 a3}:PO Tryz.prog 110 [.I a0,.I a1,.I a2,.I a3] (Z4 a0 a1 a2 a3) λr=>.I r:=by
 refine pO Tryz.func110 λr h _ _=>?_
 refine S4 1 J<|b9<|S3 4 J<|b8 J (λhg=>mI J)<|b8 J (λhg=>mI J)<|b8 J (λhg=>j2 (ct hg) (ct hg) J)<|y0 J (n0 J J J (λq=>H0 q))<|yN ?_
 refine cN h (λhc h=>?_) λhc h=>?_
 ·refine S4 2 J ?_
  refine a7 ?_
  cases h
  exact f1
 ·refine a8 ?_
  refine S4 1 J<|a7 ?_
  cases h
  exact f1

theorem R2{a0 a1 a2}:PO Tryz.prog 111 [.I a0,.I a1,.I a2] (T6 a0 a1 a2) λr=>.I r:=by
 refine pO Tryz.func111 λr h _ _=>?_
 refine S4 1 J<|b9<|S4 2 J ?_
 refine cN h (λhc h=>?_) λhc h=>?_
 ·refine S4 2 J ?_
  refine a7 ?_
  cases h
  exact f1
 ·refine a8 ?_
  refine b9<|S4 2 J ?_
  refine cN h (λhc h=>?_) λhc h=>?_
  ·refine S4 2 J ?_
   refine a7 ?_
   cases h
   exact f1
  ·refine a8 ?_
   refine S4 2 J<|a7 ?_
   cases h
   exact f1

theorem b5T{a0}:PO Tryz.prog 43 [L8.Pv a0] (a7K a0) λr=>.I r:=by
 refine pO Tryz.func43 λr h _ _=>?_
 refine S4 2 J<|S3 2 J<|cA h L3 J J λv1 _ h=>S2 1 J<|S3 2 J<|cA h L3 J J λv2 _ h=>S2 1 J<|b9<|S4 2 J<|c7<|S4 2 J ?_
 refine cN h (λhc h=>?_) λhc h=>?_
 ·refine dr [] Ty.N3 (by kernel_rfl) (by kernel_rfl) ?_
  refine S7 3 J<|n9 h λv3 hv3 h=>d2 J (w9 J L3 J hv3) J<|S7 2 J<|n9 h λv4 hv4 h=>d2 J (w9 J L3 J hv4) J<|n9 h λv5 hv5 h=>d2 J (w9 J R2 J hv5) J<|S8 1 J<|a7 ?_
  cases h
  exact f1
 ·refine jq h (λj7=>St.of [(1,.ptr 1 0 0),(3,.I v1),(4,.I v2),(12,.I a0.Kind),(23,.bool j7)] [(1,vR (L8.Pv a0) 4)]) (λj7 h=>?_) λκ6 h=>?_
  ·refine cN h (λhc h=>?_) λhc h=>?_
   ·refine S3 2 J ?_
    refine cA h R2 J J λv8 _ h=>S2 1 J<|a7 ?_
    cases h
    exact f1
   ·refine S4 2 J ?_
    refine cN h (λhc h=>?_) λhc h=>?_
    ·refine S4 2 J ?_
     refine a7 ?_
     cases h
     exact f1
    ·refine S4 2 J ?_
     refine cN h (λhc h=>?_) λhc h=>?_
     ·refine S3 4 J ?_
      refine cA h L3 J J λv9 _ h=>cA h R2 J J λv10 _ h=>S2 1 J<|a7 ?_
      cases h
      exact f1
     ·refine S4 2 J ?_
      refine cN h (λhc h=>?_) λhc h=>?_
      ·refine dr [] Ty.N3 (by kernel_rfl) (by kernel_rfl) ?_
       refine S7 3 J<|n9 h λv11 hv10 h=>d2 J (w9 J L3 J hv10) J<|S7 2 J<|n9 h λv12 hv11 h=>d2 J (w9 J L3 J hv11) J<|n9 h λv13 hv12 h=>d2 J (w9 J R2 J hv12) J<|S8 1 J<|a7 ?_
       cases h
       exact f1
      ·refine S4 2 J ?_
       refine cN h (λhc h=>?_) λhc h=>?_
       ·refine dr [] Ty.N3 (by kernel_rfl) (by kernel_rfl) ?_
        refine S7 2 J<|n9 h λv14 hv13 h=>d2 J (w9 J L3 J hv13) J<|S7 2 J<|n9 h λv15 hv14 h=>d2 J (w9 J L3 J hv14) J<|S7 2 J<|n9 h λv16 hv15 h=>d2 J (w9 J L3 J hv15) J<|n9 h λv17 hv16 h=>d2 J (w9 J R2 J hv16) J<|S8 1 J<|a7 ?_
        cases h
        exact f1
       ·refine S4 2 J ?_
        refine cN h (λhc h=>?_) λhc h=>?_
        ·refine S3 3 J ?_
         refine cA h L3 J J λv18 _ h=>cA h R2 J J λv19 _ h=>S2 1 J<|a7 ?_
         cases h
         exact f1
        ·refine S4 2 J ?_
         refine cN h (λhc h=>?_) λhc h=>?_
         ·refine S3 3 J ?_
          refine cA h L3 J J λv20 _ h=>cA h R2 J J λv21 _ h=>S2 1 J<|a7 ?_
          cases h
          exact f1
         ·refine S4 2 J ?_
          refine cN h (λhc h=>?_) λhc h=>?_
          ·refine S4 1 J ?_
           refine a7 ?_
           cases h
           exact f1
          ·refine S4 2 J ?_
           refine cN h (λhc h=>?_) λhc h=>?_
           ·refine S3 2 J ?_
            refine cA h L3 J J λv22 _ h=>S2 1 J<|a7 ?_
            cases h
            exact f1
           ·refine a8 ?_
            refine S4 1 J<|a7 ?_
            cases h
            exact f1
  ·refine S4 2 J ?_
   refine cN h (λhc h=>?_) λhc h=>?_
   ·refine a8 ?_
    exact eJ h W
   ·refine S4 2 J ?_
    refine cN h (λhc h=>?_) λhc h=>?_
    ·refine a8 ?_
     exact eJ h W
    ·refine S6 2 J ?_
     exact eJ h W

theorem b5U{a0}:PO Tryz.prog 44 [L8.Pv a0] (a0B a0) λr=>.bool r:=by
 refine pO Tryz.func44 λr h _ _=>?_
 unfold a0B at h
 refine S4 2 J<|S3 4 J<|b8 J (λhg=>oF J Ty.c8r J)<|b8 J (λhg=>oS (ct hg) J J Ty.a3 J)<|b8 J (λhg=>j2 (ct hg) J J)<|y0 J (k7 J J J (λq=>H2 q))<|S2 1 J<|a7 ?_
 cases h
 exact f1

theorem b86{a0 a1 a2 a3}:PO Tryz.prog 204 [.L g8.Pv a0,.I a1,.I a2,.I a3] (b18 a0 a1 a2 a3) λr=>.tup [.L g8.Pv r.1,.I r.2.1,.I r.2.2]:=by
 refine pO Tryz.func204 λr h _ _=>?_
 refine S4 3 J<|b9<|S3 3 J<|b8 J (λhg=>mI J)<|b8 J (λhg=>om (d:=.L g8.Pv a0) J)<|b8 J (λhg=>H7 (f:=g8.Pv) (ct hg) Ty.e45)<|b8 J (λhg=>j2 (ct hg) (ct hg) J)<|y0 J (n0 J J J (λq=>H0 q))<|yN ?_
 refine cN h (λhc h=>?_) λhc h=>?_
 ·refine S4 4 J ?_
  refine a7 ?_
  cases h
  exact f3
 ·refine a8 ?_
  refine sR<|y0 J (A9 J Ty.e45 Ty.a4R)<|S1 1 J<|n9 h λv1 hv1 h=>y1 J (a57 (f:=g8.Pv) hv1 J J (.inl ⟨_,J,J⟩) Ty.e45 Ty.a4R Ty.c6l Ty.c1r J (λ_=>J)) J<|S2 1 J<|S3 6 J<|y0 J (l4 (cs:=[.I a2,.bool (a2 != 0),.I a3]) J Ty.d0k Ty.c1r J J J)<|n9 h λv2 hv2 h=>y0 J (Y9 (f:=g8.Pv) hv2 J J J J Ty.e45 Ty.a4R J)<|a3s (f:=g8.Pv) (v:=(⟨a2,(a2 != 0),a3⟩:g8)) hv2 J J (.inl J) Ty.a4R<|yN<|dr [] Ty.N3 (by kernel_rfl) (by kernel_rfl)<|S7 3 J<|n9 h λv3 hv3 h=>d0 J (p7 (f:=g8.Pv) (cs:=g8.Pc v3) hv3 J J Ty.e45 Ty.a4R J J) J<|S8 5 J<|a7 ?_
  cases h
  exact f3

theorem a6M{a0 a1 a2}:PO Tryz.prog 122 [g6.Pv a0,.I a1,y4.Pv a2] (a0b a0 a1 a2) λr=>g6.Pv r:=by
 refine pO Tryz.func122 λr h _ _=>?_
 unfold a0b at h
 refine S4 3 J<|sR<|y0 J (A9 J Ty.e42 Ty.a05)<|S1 2 J<|n9 h λv1 hv1 h=>y1 J (a57 (f:=j1.Pv) hv1 J J (.inl ⟨_,J,J⟩) Ty.e42 Ty.a05 Ty.c6k Ty.b9A J (λ_=>J)) J<|S2 1 J<|S3 3 J<|n9 h λv2 hv2 h=>y0 J (Y9 (f:=j1.Pv) hv2 J J J J Ty.e42 Ty.a05 J)<|S1 1 J<|a3s (f:=j1.Pv) (v:=(⟨v2.State,v2.Gen,a2⟩:j1)) hv2 J J (.inr J) Ty.s78<|yN<|S3 5 J<|y0 J (l4 (cs:=[.sl 11,.I a0.Last,.I a0.Serial]) J Ty.p44 Ty.z44 J J J)<|S2 1 J<|a7 ?_
 cases h
 exact⟨J,[_],⟨oL J J J Ty.a44 Ty.s44 nl J,tr⟩,J,io⟩

theorem a1z{a0 a1 a2}:PO Tryz.prog 205 [g6.Pv a0,.I a1,y4.Pv a2] (J4 a0 a1 a2) λr=>.tup [g6.Pv r.1,.I r.2]:=by
 refine pO Tryz.func205 λr h _ _=>?_
 refine S4 4 J<|S3 1 J<|cF h I1 J J λv1 _ h=>S1 1 J<|cA h P9 J J λv2 _ h=>S2 5 J<|b9<|S4 2 J ?_
 refine cN h (λhc h=>?_) λhc h=>?_
 ·refine S4 4 J ?_
  refine a7 ?_
  cases h
  exact⟨J,[_,_],⟨oL J J J Ty.a44 Ty.s44 nl J,⟨J,tr⟩⟩,J,io⟩
 ·refine a8 ?_
  refine S3 3 J<|cF h a6M J J λv3 _ h=>S2 2 J<|a7 ?_
  cases h
  exact⟨J,[_,_],⟨oL J J J Ty.a44 Ty.s44 nl J,⟨J,tr⟩⟩,J,io⟩

theorem a3T{a0 a1 a2}:PO Tryz.prog 215 [p9.Pv a0,.I a1,o9.Pv a2] (S9 a0 a1 a2) λr=>p9.Pv r:=by
 refine pO Tryz.func215 λr h _ _=>?_
 unfold S9 at h
 refine S4 3 J<|sR<|y0 J (A9 J Ty.a4q Ty.a67)<|S1 2 J<|n9 h λv1 hv1 h=>y1 J (a57 (f:=o9.Pv) hv1 J J (.inl ⟨_,J,J⟩) Ty.a4q Ty.a67 Ty.c8h Ty.b8a J (λ_=>J)) J<|S2 1 J<|S3 3 J<|n9 h λv2 hv2 h=>y0 J (Y9 (f:=o9.Pv) hv2 J J J J Ty.a4q Ty.a67 J)<|a3s (f:=o9.Pv) (v:=a2) hv2 J J (.inl J) Ty.a67<|yN<|S3 3 J<|y0 J (l4 (cs:=[.sl 11,.I a0.Last]) J Ty.c8Q Ty.c9m J J J)<|S2 1 J<|a7 ?_
 cases h
 exact⟨J,[_],⟨oL J J J Ty.b4Z Ty.b3u nl J,tr⟩,J,io⟩

theorem b7s{a0 a1}:PO Tryz.prog 319 [p9.Pv a0,.I a1] (b3a a0 a1) λr=>.tup [p9.Pv r.1,.I r.2]:=by
 refine pO Tryz.func319 λr h _ _=>?_
 refine S4 3 J<|S3 2 J<|cA h P9 J J λv1 _ h=>S2 5 J<|b9<|S4 2 J ?_
 refine cN h (λhc h=>?_) λhc h=>?_
 ·refine S4 4 J ?_
  refine a7 ?_
  cases h
  exact⟨J,[_,_],⟨oL J J J Ty.b4Z Ty.b3u nl J,⟨J,tr⟩⟩,J,io⟩
 ·refine a8 ?_
  refine S3 3 J<|iL h J J Ty.a4q Ty.a67 λv2 _ h=>S2 3 J<|b9<|S4 4 J ?_
  refine cN h (λhc h=>?_) λhc h=>?_
  ·refine S3 3 J ?_
   refine y0 J (l4 (cs:=[.I 3,.I v2.Gen,.I 0]) J Ty.c27 Ty.b8a J J J)<|cF h a3T J J λv3 _ h=>S2 2 J<|a7 ?_
   cases h
   exact⟨J,[_,_],⟨oL J J J Ty.b4Z Ty.b3u nl J,⟨J,tr⟩⟩,J,io⟩
  ·refine a8 ?_
   refine S3 4 J<|y0 J (l4 (cs:=[.I 0,.I (s6 (v2.Gen+1)),.I 0]) J Ty.c27 Ty.b8a J J J)<|cF h a3T J J λv4 _ h=>S2 2 J<|a7 ?_
   cases h
   exact⟨J,[_,_],⟨oL J J J Ty.b4Z Ty.b3u nl J,⟨J,tr⟩⟩,J,io⟩

theorem a4d{a0 a1}:PO Tryz.prog 123 [g6.Pv a0,p9.Pv a1] (V9 a0 a1) λr=>g6.Pv r:=by
 refine pO Tryz.func123 λr h _ _=>?_
 refine S4 3 J<|sR<|y0 J (A9 J Ty.e42 Ty.a05)<|S2 1 J ?_
 refine jq h (λj10=>St.of [(2,.ptr 2 0 0),(4,.ptr 4 0 0),(5,.sl 910005)] [(910005,⟨List.map j1.Pv j10,(List.map j1.Pv j10).length,true,8,true⟩),(4,vR (.agg [.nl,.I 0,.I 0]) 3),(2,vR (g6.Pv a0) 3)]) (λj10 h=>?_) λκ9 h=>?_
 ·refine S3 5 J ?_
  refine y0 J (l4 (cs:=[.sl 910005,.I a0.Last,.I a0.Serial]) J Ty.p44 Ty.z44 J J J)<|S2 1 J<|a7 ?_
  cases h
  exact⟨J,[_],⟨oL J J J Ty.a44 Ty.s44 nl J,tr⟩,J,io⟩
 ·refine S4 1 J ?_
  refine c7<|lq h (λq=>St.of [(2,.ptr 2 0 0),(3,.ptr 3 0 0),(4,.ptr 4 0 0),(5,.sl 910005),(6,.I q.1)] [(4,vR (.agg [.nl,.I 0,.I 0]) 3),(3,vR (p9.Pv a1) 2),(2,vR (g6.Pv a0) 3),(910005,⟨List.map j1.Pv q.2,(List.map j1.Pv q.2).length,true,8,true⟩)]) (Wk.trans (E1 (t:=5) (l:=920005) (z:=8) J J) (WP (λl=>if l=910005 then 920005 else l))) λq15 x14 h hx10=>?_
  obtain⟨s12,s13⟩:=q15
  refine b9<|S3 3 J<|nL J Ty.e42<|S2 1 J ?_
  refine cN h (λhc h=>?_) λhc h=>?_
  ·refine a8 ?_
   refine b9<|c7<|a1w [] Ty.N3 (by kernel_rfl) (by kernel_rfl)<|S7 4 J<|n9 h λv16 hv11 h=>d0 J (p7 (f:=o9.Pv) (cs:=o9.Pc v16) hv11 J J Ty.a4q Ty.a67 J J) J<|S7 5 J<|d0 J (p7 (f:=o9.Pv) (cs:=o9.Pc v16) hv11 J J Ty.a4q Ty.a67 J J) J<|S7 5 J<|n9 h λv17 hv12 h=>d0 J (p7 (f:=j1.Pv) (cs:=j1.Pc v17) hv12 J J Ty.e42 Ty.a05 J J) J<|S7 2 J<|d7 J (λ_ hN=>l4 (cs:=[.I v16.State,.I v16.Gen,.I v17.Val.Serial,.I v17.Val.Strong,.I v17.Val.Weak,.I v17.Val.Prog,.bool v17.Val.Started,.L iF v17.Val.Fields]) J Ty.c8P Ty.b9A J J J) J<|d1n J (L1 (f:=j1.Pv) (l:=[(⟨v16.State,v16.Gen,v17.Val⟩:j1)]) J Ty.e42 Ty.a05 Ty.b9A J J nl J J) J<|n9 h λv18 hv13 h=>d3a J (F4 (f:=j1.Pv) hv13 J J J J J J (.inl ⟨_,J,J⟩) Ty.e42 Ty.a05 Ty.c6k Ty.b9A J (λ_=>J)) J J J J J<|S8 1 J<|S6 3 J ?_
   exact eL h (Wk.trans (k8 _ [36]) (WP (λl=>if l=910005 then 36 else l)))
  ·refine j8 ?_
   refine b7<|b7<|c8 ?_
   have h:=xL hx10 h
   exact eJ h (Wk.trans (k8 _ [910005]) W)

theorem b1m{a0 a1}:PO Tryz.prog 280 [g6.Pv a0,.I a1] (a6L a0 a1) λr=>g6.Pv r:=by
 refine pO Tryz.func280 λr h _ _=>?_
 refine S4 2 J<|S3 1 J<|cF h I1 J J λv1 _ h=>S1 1 J<|cF h b7s J J λv2 _ h=>S2 6 J<|b9<|S4 2 J ?_
 refine cN h (λhc h=>?_) λhc h=>?_
 ·refine S4 2 J ?_
  refine a7 ?_
  cases h
  exact⟨J,[_],⟨oL J J J Ty.a44 Ty.s44 nl J,tr⟩,J,io⟩
 ·refine a8 ?_
  refine S3 2 J<|cF h a4d J J λv3 _ h=>S1 1 J<|cA h a6K J J λv4 _ h=>y0 J (l4 (cs:=[.I 0,.I 0,.I 0,.I 0,.bool false,.nl]) J Ty.p78 Ty.z78 J J J)<|cF h a6M J J λv5 _ h=>S2 1 J<|a7 ?_
  cases h
  exact⟨J,[_],⟨oL J J J Ty.a44 Ty.s44 nl J,tr⟩,J,io⟩

theorem a6R{a0 a1}:PO Tryz.prog 206 [c5.Pv a0,.I a1] (W1 a0 a1) λr=>c5.Pv r:=by
 refine pO Tryz.func206 λr h _ _=>?_
 refine S4 2 J<|S3 2 J<|cF h I1 J J λv1 _ h=>S1 1 J<|cA h P9 J J λv2 _ h=>S2 5 J<|b9<|S4 2 J ?_
 refine cN h (λhc h=>?_) λhc h=>?_
 ·refine S4 2 J ?_
  refine a7 ?_
  cases h
  exact⟨J,[_],⟨oL J J J Ty.a51 Ty.X4 nl J,tr⟩,J,io⟩
 ·refine a8 ?_
  refine S3 4 J<|iL h J J Ty.e42 Ty.a05 λv3 _ h=>S2 4 J<|S4 5 J<|S3 4 J<|cF h a1z J J λv4 _ h=>S2 5 J<|b9<|S3 4 J<|iL h J J Ty.e42 Ty.a05 λv5 _ h=>S1 4 J<|b8 J (λhg=>oF J Ty.b4s J)<|b8 J (λhg=>oS (ct hg) J J Ty.a3 J)<|b8 J (λhg=>j2 (ct hg) J J)<|y0 J (k7 J J J (λq=>H2 q))<|yN ?_
  refine cN h (λhc h=>?_) λhc h=>?_
  ·refine S5 3 J ?_
   refine cF h b1m J J λv6 _ h=>S2 2 J<|S4 2 J<|a7 ?_
   cases h
   exact⟨J,[_],⟨oL J J J Ty.a51 Ty.X4 nl J,tr⟩,J,io⟩
  ·refine a8 ?_
   refine S4 2 J<|a7 ?_
   cases h
   exact⟨J,[_],⟨oL J J J Ty.a51 Ty.X4 nl J,tr⟩,J,io⟩

theorem b1r{a0 a1 a2 a3}:PO Tryz.prog 112 [c5.Pv a0,.I a1,.I a2,.I a3] (a03 a0 a1 a2 a3) λr=>.tup [c5.Pv r.1,.I r.2]:=by
 refine pO Tryz.func112 λr h _ _=>?_
 unfold a03 at h
 refine S4 3 J<|b9<|S3 3 J<|b8 J (λhg=>mI J)<|b8 J (λhg=>j2 (ct hg) J J)<|y0 J (n0 J J J (λq=>H0 q))<|S1 1 J<|b8 J (λhg=>oF J Ty.b4r J)<|b8 J (λhg=>oL (ct hg) J J Ty.a49 Ty.s49 nl J)<|b8 J (λhg=>mI J)<|n9 h λv1 hv1 h=>b8 J (λhg=>w9 J a92 (p5 (ct hg) (p5 (ct hg) J)) (A0 hv1 hg))<|y0 J (n0 J J J (λq=>H0 q))<|yN ?_
 refine cN h (λhc h=>?_) λhc h=>?_
 ·refine S4 3 J ?_
  refine a7 ?_
  cases h
  exact⟨J,[_,_],⟨oL J J J Ty.a51 Ty.X4 nl J,⟨J,tr⟩⟩,J,io⟩
 ·refine a8 ?_
  refine b9<|S3 2 J<|cA h Y3 J J λv2 _ h=>S2 1 J ?_
  refine cN h (λhc h=>?_) λhc h=>?_
  ·refine S4 3 J ?_
   refine a7 ?_
   cases h
   exact⟨J,[_,_],⟨oL J J J Ty.a51 Ty.X4 nl J,⟨J,tr⟩⟩,J,io⟩
  ·refine a8 ?_
   refine S3 5 J<|cF h b86 J J λv3 _ h=>S2 7 J<|S4 3 J<|b9<|S4 2 J ?_
   refine cN h (λhc h=>?_) λhc h=>?_
   ·refine S3 3 J ?_
    refine cF h C4 J J λv4 _ h=>S2 6 J<|S4 5 J<|S5 4 J<|cF h a1z J J λv5 _ h=>S2 5 J<|S3 2 J<|cF h a6R J J λv6 _ h=>S2 2 J<|a7 ?_
    cases h
    exact⟨J,[_,_],⟨oL J J J Ty.a51 Ty.X4 nl J,⟨J,tr⟩⟩,J,io⟩
   ·refine a8 ?_
    refine S3 2 J<|cF h a6R J J λv7 _ h=>S2 2 J<|a7 ?_
    cases h
    exact⟨J,[_,_],⟨oL J J J Ty.a51 Ty.X4 nl J,⟨J,tr⟩⟩,J,io⟩

theorem a5z{a0 a1}:PO Tryz.prog 113 [c5.Pv a0,.I a1] (O8 a0 a1) λr=>.tup [.I r.1,.I r.2]:=by
 refine pO Tryz.func113 λr h _ _=>?_
 refine S4 3 J<|b9<|S3 3 J<|iL h J J Ty.w8 Ty.s3 λv1 hv1 h=>S2 2 J ?_
 refine cN h (λhc h=>?_) λhc h=>?_
 ·refine S4 2 J ?_
  refine a7 ?_
  cases h
  exact f2
 ·refine a8 ?_
  refine S3 3 J<|y0 J (p7 (f:=iF) (cs:=[.I v1]) hv1 J J Ty.w8 Ty.s3 J J)<|S2 3 J<|a7 ?_
  cases h
  exact f2

theorem a3X{a0 a1}:PO Tryz.prog 115 [c5.Pv a0,.I a1] (a3g a0 a1) λr=>.I r:=by
 refine pO Tryz.func115 λr h _ _=>?_
 refine S4 2 J<|b9<|S4 2 J ?_
 refine cN h (λhc h=>?_) λhc h=>?_
 ·refine S4 1 J ?_
  refine a7 ?_
  cases h
  exact f1
 ·refine a8 ?_
  refine S3 3 J<|iL h J J Ty.w8 Ty.s3 λv1 _ h=>S2 2 J<|a7 ?_
  cases h
  exact f1

theorem c00{a0 a1}:PO Tryz.prog 220 [.L iF a0,.I a1] (b0U a0 a1) λr=>.tup [.I r.1,.I r.2]:=by
 refine pO Tryz.func220 λr h _ _=>?_
 refine S4 2 J<|b9<|S3 3 J<|b8 J (λhg=>mI J)<|b8 J (λhg=>om (d:=.L iF a0) J)<|b8 J (λhg=>H7 (f:=iF) (ct hg) Ty.w8)<|b8 J (λhg=>j2 (ct hg) (ct hg) J)<|y0 J (n0 J J J (λq=>H0 q))<|yN ?_
 refine cN h (λhc h=>?_) λhc h=>?_
 ·refine S4 2 J ?_
  refine a7 ?_
  cases h
  exact f2
 ·refine a8 ?_
  refine S3 2 J<|iL h J J Ty.w8 Ty.s3 λv1 _ h=>S2 3 J<|a7 ?_
  cases h
  exact f2

theorem a9P{a0 a1 a2}:PO Tryz.prog 128 [g6.Pv a0,.I a1,.I a2] (a1y a0 a1 a2) λr=>.tup [.I r.1,.I r.2]:=by
 refine pO Tryz.func128 λr h _ _=>?_
 refine S4 3 J<|S3 2 J<|cF h C4 J J λv1 _ h=>S2 6 J<|b9<|S4 2 J ?_
 refine cN h (λhc h=>?_) λhc h=>?_
 ·refine S4 3 J ?_
  refine a7 ?_
  cases h
  exact f2
 ·refine a8 ?_
  refine S3 3 J<|cA h c00 J J λv2 _ h=>S2 4 J<|a7 ?_
  cases h
  exact f2

theorem b80{a0}:PO Tryz.prog 218 [.I a0] (a9M a0) λr=>.I r:=by
 refine pO Tryz.func218 λr h _ _=>?_
 refine S4 1 J<|b9<|S3 1 J<|cA h a5x J J λv1 _ h=>yN ?_
 refine cN h (λhc h=>?_) λhc h=>?_
 ·refine S4 1 J ?_
  refine a7 ?_
  cases h
  exact f1
 ·refine a8 ?_
  refine b9<|S4 2 J ?_
  refine cN h (λhc h=>?_) λhc h=>?_
  ·refine S4 1 J ?_
   refine a7 ?_
   cases h
   exact f1
  ·refine a8 ?_
   refine S4 3 J<|a7 ?_
   cases h
   exact f1

theorem a8t{a0 a1 a2}:PO Tryz.prog 217 [c5.Pv a0,.I a1,.I a2] (a3d a0 a1 a2) λr=>c5.Pv r:=by
 refine pO Tryz.func217 λr h _ _=>?_
 refine S4 2 J<|S3 3 J<|cF h C4 J J λv1 _ h=>S2 6 J<|b9<|S4 2 J ?_
 refine cN h (λhc h=>?_) λhc h=>?_
 ·refine S4 2 J ?_
  refine a7 ?_
  cases h
  exact⟨J,[_],⟨oL J J J Ty.a51 Ty.X4 nl J,tr⟩,J,io⟩
 ·refine a8 ?_
  refine S4 3 J<|S3 4 J<|cF h a1z J J λv2 _ h=>S2 5 J<|S4 2 J<|a7 ?_
  cases h
  exact⟨J,[_],⟨oL J J J Ty.a51 Ty.X4 nl J,tr⟩,J,io⟩

theorem a1T{a0 a1}:PO Tryz.prog 126 [c5.Pv a0,.I a1] (W0 a0 a1) λr=>c5.Pv r:=by
 refine pO Tryz.func126 λr h _ _=>?_
 refine S4 2 J<|S3 3 J<|cF h C4 J J λv1 _ h=>S2 6 J<|dr [] Ty.N3 (by kernel_rfl) (by kernel_rfl)<|S7 4 J<|n9 h λv2 hv2 h=>d2 J (w9 J b80 J hv2) J<|n9 h λv3 hv3 h=>d2f J (s7 J a8t J hv3) J<|G9 (x':=c5.Pv v3) (cl':=true) J J (.inr J) Ty.X4<|L5<|a7 ?_
 cases h
 exact⟨J,[_],⟨oL J J J Ty.a51 Ty.X4 nl J,tr⟩,J,io⟩

theorem b7v{a0 a1 a2}:PO Tryz.prog 281 [.L iF a0,.I a1,.I a2] (b3c a0 a1 a2) λr=>.tup [.L iF r.1,.I r.2]:=by
 refine pO Tryz.func281 λr h _ _=>?_
 refine S4 2 J<|b9<|S3 3 J<|b8 J (λhg=>mI J)<|b8 J (λhg=>om (d:=.L iF a0) J)<|b8 J (λhg=>H7 (f:=iF) (ct hg) Ty.w8)<|b8 J (λhg=>j2 (ct hg) (ct hg) J)<|y0 J (n0 J J J (λq=>H0 q))<|yN ?_
 refine cN h (λhc h=>?_) λhc h=>?_
 ·refine S4 3 J ?_
  refine a7 ?_
  cases h
  exact f2
 ·refine a8 ?_
  refine sR<|y0 J (A9 J Ty.w8 Ty.s3)<|S1 1 J<|n9 h λv1 hv1 h=>y1 J (a57 (f:=iF) hv1 J J (.inl ⟨_,J,J⟩) Ty.w8 Ty.s3 Ty.b3 Ty.z3 J (λ_=>J)) J<|S2 1 J<|S3 3 J<|n9 h λv2 hv2 h=>y0 J (Y9 (f:=iF) hv2 J J J J Ty.w8 Ty.s3 J)<|a3s (f:=iF) (v:=a2) hv2 J J (.inl J) Ty.s3<|yN<|S4 3 J<|a7 ?_
  cases h
  exact f2

theorem b82{a0 a1 a2 a3}:PO Tryz.prog 207 [g6.Pv a0,.I a1,.I a2,.I a3] (b15 a0 a1 a2 a3) λr=>.tup [g6.Pv r.1,.I r.2]:=by
 refine pO Tryz.func207 λr h _ _=>?_
 refine S4 3 J<|S3 2 J<|cF h C4 J J λv1 _ h=>S2 6 J<|b9<|S4 2 J ?_
 refine cN h (λhc h=>?_) λhc h=>?_
 ·refine S4 4 J ?_
  refine a7 ?_
  cases h
  exact⟨J,[_,_],⟨oL J J J Ty.a44 Ty.s44 nl J,⟨J,tr⟩⟩,J,io⟩
 ·refine a8 ?_
  refine S3 4 J<|cF h b7v J J λv2 _ h=>S2 5 J<|b9<|S4 2 J ?_
  refine cN h (λhc h=>?_) λhc h=>?_
  ·refine S4 4 J ?_
   refine a7 ?_
   cases h
   exact⟨J,[_,_],⟨oL J J J Ty.a44 Ty.s44 nl J,⟨J,tr⟩⟩,J,io⟩
  ·refine a8 ?_
   refine S4 3 J<|S3 3 J<|cF h a1z J J λv3 _ h=>S2 4 J<|a7 ?_
   cases h
   exact⟨J,[_,_],⟨oL J J J Ty.a44 Ty.s44 nl J,⟨J,tr⟩⟩,J,io⟩

theorem b8Z{a0}:PO Tryz.prog 219 [.I a0] (b14 a0) λr=>.tup [.I r.1,.I r.2]:=by
 refine pO Tryz.func219 λr h _ _=>?_
 refine S4 2 J<|b9<|S3 1 J<|cA h a5x J J λv1 _ h=>yN ?_
 refine cN h (λhc h=>?_) λhc h=>?_
 ·refine S4 2 J ?_
  refine a7 ?_
  cases h
  exact f2
 ·refine a8 ?_
  refine b9<|S4 2 J ?_
  refine cN h (λhc h=>?_) λhc h=>?_
  ·refine S4 2 J ?_
   refine a7 ?_
   cases h
   exact f2
  ·refine a8 ?_
   refine S4 4 J<|a7 ?_
   cases h
   exact f2

theorem a02{a0 a1}:PO Tryz.prog 127 [c5.Pv a0,.I a1] (E3 a0 a1) λr=>c5.Pv r:=by
 refine pO Tryz.func127 λr h _ _=>?_
 refine S4 2 J<|S3 3 J<|cF h C4 J J λv1 _ h=>S2 6 J<|S3 2 J<|cA h b8Z J J λv2 _ h=>S2 5 J<|b9<|S4 2 J ?_
 refine cN h (λhc h=>?_) λhc h=>?_
 ·refine S4 2 J ?_
  refine a7 ?_
  cases h
  exact⟨J,[_],⟨oL J J J Ty.a51 Ty.X4 nl J,tr⟩,J,io⟩
 ·refine a8 ?_
  refine S3 3 J<|cF h a8t J J λv3 _ h=>S2 1 J<|a7 ?_
  cases h
  exact⟨J,[_],⟨oL J J J Ty.a51 Ty.X4 nl J,tr⟩,J,io⟩

theorem b5N{a0 a1 a2 a3}:PO Tryz.prog 114 [c5.Pv a0,.I a1,.I a2,.I a3] (a2M a0 a1 a2 a3) λr=>.tup [c5.Pv r.1,.I r.2]:=by
 refine pO Tryz.func114 λr h _ _=>?_
 refine S4 3 J<|S3 4 J<|cA h a9P J J λv1 _ h=>S2 5 J<|b9<|S4 2 J ?_
 refine cN h (λhc h=>?_) λhc h=>?_
 ·refine S4 4 J ?_
  refine a7 ?_
  cases h
  exact⟨J,[_,_],⟨oL J J J Ty.a51 Ty.X4 nl J,⟨J,tr⟩⟩,J,io⟩
 ·refine a8 ?_
  refine b9<|S3 2 J<|cA h Y3 J J λv2 _ h=>S2 1 J ?_
  refine cN h (λhc h=>?_) λhc h=>?_
  ·refine S4 3 J ?_
   refine a7 ?_
   cases h
   exact⟨J,[_,_],⟨oL J J J Ty.a51 Ty.X4 nl J,⟨J,tr⟩⟩,J,io⟩
  ·refine a8 ?_
   refine S3 2 J<|cF h a1T J J λv3 _ h=>S2 2 J<|S3 5 J<|cF h b82 J J λv4 _ h=>S2 5 J<|S3 2 J<|cF h a02 J J λv5 _ h=>S2 2 J<|a7 ?_
   cases h
   exact⟨J,[_,_],⟨oL J J J Ty.a51 Ty.X4 nl J,⟨J,tr⟩⟩,J,io⟩

theorem a6O{a0 a1 a2}:PO Tryz.prog 320 [.L g5.Pv a0,.I a1,g5.Pv a2] (a0d a0 a1 a2) λr=>.L g5.Pv r:=by
 refine pO Tryz.func320 λr h _ _=>?_
 unfold a0d at h
 refine S4 2 J<|sR<|y0 J (A9 J Ty.e46 Ty.a6h)<|S1 1 J<|n9 h λv1 hv1 h=>y1 J (a57 (f:=g5.Pv) hv1 J J (.inl ⟨_,J,J⟩) Ty.e46 Ty.a6h Ty.c8f Ty.c1s J (λ_=>J)) J<|S2 1 J<|S3 3 J<|n9 h λv2 hv2 h=>y0 J (Y9 (f:=g5.Pv) hv2 J J J J Ty.e46 Ty.a6h J)<|a3s (f:=g5.Pv) (v:=a2) hv2 J J (.inl J) Ty.a6h<|yN<|S4 2 J<|a7 ?_
 cases h
 exact f1

theorem b1n{a0 a1}:PO Tryz.prog 282 [.L g5.Pv a0,.I a1] (a4J a0 a1) λr=>.tup [.L g5.Pv r.1,.I r.2.1,.I r.2.2]:=by
 refine pO Tryz.func282 λr h _ _=>?_
 refine S4 3 J<|S3 2 J<|cA h a3V J J λv1 _ h=>S2 1 J<|b9<|S4 2 J ?_
 refine cN h (λhc h=>?_) λhc h=>?_
 ·refine S4 4 J ?_
  refine a7 ?_
  cases h
  exact f3
 ·refine a8 ?_
  refine dr [] Ty.N3 (by kernel_rfl) (by kernel_rfl)<|S7 2 J<|d7 J (λ_ hN=>l4 (cs:=[.I 2,.I 0,.I 0]) J Ty.c7m Ty.c1s J J J) J<|n9 h λv2 hv2 h=>d2f J (s7 J a6O J hv2) J<|S7 2 J<|n9 h λv3 hv3 h=>d0 J (p7 (f:=g5.Pv) (cs:=g5.Pc v3) hv3 J J Ty.e46 Ty.a6h J J) J<|S8 5 J<|a7 ?_
  cases h
  exact f3

theorem b87{a0 a1 a2}:PO Tryz.prog 283 [.L g5.Pv a0,.I a1,.I a2] (b19 a0 a1 a2) λr=>.tup [.L g5.Pv r.1,.I r.2]:=by
 refine pO Tryz.func283 λr h _ _=>?_
 refine S4 2 J<|S3 2 J<|cA h a3V J J λv1 _ h=>S2 1 J<|b9<|S4 2 J ?_
 refine cN h (λhc h=>?_) λhc h=>?_
 ·refine S3 4 J ?_
  refine y0 J (l4 (cs:=[.I 1,.I a1,.I a2]) J Ty.c7m Ty.c1s J J J)<|cF h a6O J J λv2 _ h=>S2 2 J<|a7 ?_
  cases h
  exact f2
 ·refine a8 ?_
  refine S3 1 J<|nL J Ty.e46<|S2 1 J<|S3 2 J<|cA h b1o J J λv3 _ h=>S2 1 J ?_
  refine jq h (λ_=>St.of [(0,.L g5.Pv a0)] []) (λq13 h=>?_) λκ12 h=>?_
  ·refine S4 3 J ?_
   refine a7 ?_
   cases h
   exact f2
  ·refine S4 1 J ?_
   refine c7<|lq h (λq=>St.of [(0,.L g5.Pv a0),(1,.I a1),(2,.I a2),(9,.I (a0.length:Int)),(10,.I q.1),(11,.I q.2)] []) W λq18 x17 h hx13=>?_
   obtain⟨s15,s16⟩:=q18
   refine b9<|S4 3 J ?_
   refine cN h (λhc h=>?_) λhc h=>?_
   ·refine a8 ?_
    refine b9<|c7<|b9<|S3 2 J<|iL h J J Ty.e46 Ty.a6h λv19 _ h=>S2 3 J ?_
    refine cN h (λhc h=>?_) λhc h=>?_
    ·refine S3 4 J ?_
     refine y0 J (l4 (cs:=[.I 1,.I a1,.I a2]) J Ty.c7m Ty.c1s J J J)<|cF h a6O J J λv20 _ h=>S2 2 J<|a7 ?_
     have h:=xL hx13 h
     cases h
     exact f2
    ·refine a8 ?_
     refine S5 3 J<|n9 h λv21 hv16 h=>y0 J (a3Q J J hv16)<|S2 1 J<|S6 3 J ?_
     exact eL h W
   ·refine j8 ?_
    refine b7<|b7<|c8 ?_
    have h:=xL hx13 h
    exact eJ h W

theorem b89{a0 a1 a2}:PO Tryz.prog 208 [.L g5.Pv a0,.I a1,.I a2] (b2a a0 a1 a2) λr=>.tup [.L g5.Pv r.1,.I r.2.1,.I r.2.2]:=by
 refine pO Tryz.func208 λr h _ _=>?_
 refine S4 3 J<|b9<|S4 2 J ?_
 refine cN h (λhc h=>?_) λhc h=>?_
 ·refine S4 4 J ?_
  refine a7 ?_
  cases h
  exact f3
 ·refine a8 ?_
  refine S3 2 J<|cA h a8R J J λv1 _ h=>S2 5 J<|b9<|S4 2 J ?_
  refine cN h (λhc h=>?_) λhc h=>?_
  ·refine S3 2 J ?_
   refine cF h b1n J J λv2 _ h=>S2 7 J<|S4 5 J<|a7 ?_
   cases h
   exact f3
  ·refine a8 ?_
   refine S3 3 J<|cF h b87 J J λv3 _ h=>S2 5 J<|b9<|S4 2 J ?_
   refine cN h (λhc h=>?_) λhc h=>?_
   ·refine S4 5 J ?_
    refine a7 ?_
    cases h
    exact f3
   ·refine a8 ?_
    refine S4 5 J<|a7 ?_
    cases h
    exact f3

theorem b7H{a0 a1 a2}:PO Tryz.prog 116 [c5.Pv a0,.I a1,.I a2] (a4L a0 a1 a2) λr=>.tup [c5.Pv r.1,.I r.2]:=by
 refine pO Tryz.func116 λr h _ _=>?_
 refine S4 3 J<|b9<|S4 2 J ?_
 refine cN h (λhc h=>?_) λhc h=>?_
 ·refine S4 3 J ?_
  refine a7 ?_
  cases h
  exact⟨J,[_,_],⟨oL J J J Ty.a51 Ty.X4 nl J,⟨J,tr⟩⟩,J,io⟩
 ·refine a8 ?_
  refine b9<|S3 2 J<|cA h Q9 J J λv1 _ h=>S1 2 J<|b8 J (λhg=>oL J J J Ty.a51 Ty.X4 nl J)<|b8 J (λhg=>mI J)<|n9 h λv2 hv2 h=>b8 J (λhg=>w9 J Y3 (p5 (ct hg) (p5 (ct hg) J)) (A0 hv2 hg))<|b8 J (λhg=>S0 (ct hg) J)<|y0 J (n0 J J J (λq=>H0 q))<|yN ?_
  refine cN h (λhc h=>?_) λhc h=>?_
  ·refine S4 3 J ?_
   refine a7 ?_
   cases h
   exact⟨J,[_,_],⟨oL J J J Ty.a51 Ty.X4 nl J,⟨J,tr⟩⟩,J,io⟩
  ·refine a8 ?_
   refine S3 4 J<|cF h b89 J J λv3 _ h=>S2 7 J<|b9<|S4 2 J ?_
   refine cN h (λhc h=>?_) λhc h=>?_
   ·refine S4 4 J ?_
    refine a7 ?_
    cases h
    exact⟨J,[_,_],⟨oL J J J Ty.a51 Ty.X4 nl J,⟨J,tr⟩⟩,J,io⟩
   ·refine a8 ?_
    refine S3 2 J<|cF h a1T J J λv4 _ h=>S2 2 J<|S4 3 J<|S3 2 J<|cF h a02 J J λv5 _ h=>S2 2 J<|a7 ?_
    cases h
    exact⟨J,[_,_],⟨oL J J J Ty.a51 Ty.X4 nl J,⟨J,tr⟩⟩,J,io⟩

theorem b5X{a0 a1}:PO Tryz.prog 45 [c5.Pv a0,L8.Pv a1] (Y4 a0 a1) λr=>.tup [c5.Pv r.1,.I r.2.1,.I r.2.2]:=by
 refine pO Tryz.func45 λr h _ _=>?_
 refine S4 5 J<|b9<|S3 4 J<|b8 J (λhg=>oF J Ty.c8s J)<|b8 J (λhg=>oS (ct hg) J J Ty.a3 J)<|b8 J (λhg=>j2 (ct hg) J J)<|y0 J (k7 J J J (λq=>H2 q))<|yN ?_
 refine cN h (λhc h=>?_) λhc h=>?_
 ·refine S3 5 J ?_
  refine cF h b1r J J λv1 _ h=>S2 6 J<|S4 5 J<|a7 ?_
  cases h
  exact⟨J,[_,_,_],⟨oL J J J Ty.a51 Ty.X4 nl J,⟨J,⟨J,tr⟩⟩⟩,J,io⟩
 ·refine a8 ?_
  refine S4 3 J ?_
  refine jq h (λj3=>St.of [(2,.ptr 2 0 0),(3,.ptr 3 0 0),(4,.ptr 4 0 0),(9,.I j3)] [(4,vR (.agg [.nl,.I 0,.I 0,.nl,.nl,.nl,.nl,.I 0]) 8),(3,vR (L8.Pv a1) 4),(2,vR (c5.Pv a0) 8)]) (λj3 h=>?_) λκ2 h=>?_
  ·refine S3 2 J ?_
   refine cA h a5z J J λv4 _ h=>S2 5 J<|b9<|S4 2 J ?_
   refine cN h (λhc h=>?_) λhc h=>?_
   ·refine S4 5 J ?_
    refine a7 ?_
    cases h
    exact⟨J,[_,_,_],⟨oL J J J Ty.a51 Ty.X4 nl J,⟨J,⟨J,tr⟩⟩⟩,J,io⟩
   ·refine a8 ?_
    refine b9<|S4 2 J<|c7<|S4 2 J ?_
    refine cN h (λhc h=>?_) λhc h=>?_
    ·refine dr [] Ty.N3 (by kernel_rfl) (by kernel_rfl) ?_
     refine S7 7 J<|n9 h λv5 hv4 h=>d2 J (w9 J a3X J hv4) J<|n9 h λv6 hv5 h=>d2f J (s7 J b5N J hv5) J<|S7 4 J<|G9 (x':=c5.Pv v6.1) (cl':=true) J J (.inr J) Ty.X4<|S8 1 J<|dr [] Ty.N3 (by kernel_rfl) (by kernel_rfl)<|S7 4 J<|d2 J (w9 J a3X J hv4) J<|S7 1 J<|G9 (x':=c5.Pv v6.1) (cl':=true) J J (.inr J) Ty.X4<|S8 2 J<|a7 ?_
     cases h
     exact⟨J,[_,_,_],⟨oL J J J Ty.a51 Ty.X4 nl J,⟨J,⟨J,tr⟩⟩⟩,J,io⟩
    ·refine S4 2 J ?_
     refine cN h (λhc h=>?_) λhc h=>?_
     ·refine S3 6 J ?_
      refine cF h b1r J J λv7 _ h=>S2 6 J<|S4 6 J<|a7 ?_
      cases h
      exact⟨J,[_,_,_],⟨oL J J J Ty.a51 Ty.X4 nl J,⟨J,⟨J,tr⟩⟩⟩,J,io⟩
     ·refine a8 ?_
      refine dr [] Ty.N3 (by kernel_rfl) (by kernel_rfl)<|S7 5 J<|n9 h λv8 hv7 h=>d2 J (w9 J a3X J hv7) J<|n9 h λv9 hv8 h=>d2f J (s7 J b7H J hv8) J<|S7 4 J<|G9 (x':=c5.Pv v9.1) (cl':=true) J J (.inr J) Ty.X4<|S8 1 J<|dr [] Ty.N3 (by kernel_rfl) (by kernel_rfl)<|S7 4 J<|d2 J (w9 J a3X J hv7) J<|S7 1 J<|G9 (x':=c5.Pv v9.1) (cl':=true) J J (.inr J) Ty.X4<|S8 2 J<|a7 ?_
      cases h
      exact⟨J,[_,_,_],⟨oL J J J Ty.a51 Ty.X4 nl J,⟨J,⟨J,tr⟩⟩⟩,J,io⟩
  ·refine S4 3 J ?_
   refine cN h (λhc h=>?_) λhc h=>?_
   ·refine S6 3 J ?_
    exact eJ h W
   ·refine a8 ?_
    exact eJ h W

theorem b3f{a0 a1}:PO Tryz.prog 117 [c5.Pv a0,.I a1] (a7J a0 a1) λr=>.bool r:=by
 refine pO Tryz.func117 λr h _ _=>?_
 refine S4 2 J<|S3 3 J<|cF h C4 J J λv1 _ h=>S2 6 J<|S3 2 J<|cA h Q9 J J λv2 _ h=>S1 1 J<|b8 J (λhg=>oF J Ty.b4t J)<|b8 J (λhg=>oS (ct hg) J J Ty.a3 J)<|b8 J (λhg=>j2 (ct hg) J J)<|y0 J (k7 J J J (λq=>H2 q))<|S1 1 J<|b8 J (λhg=>oF J Ty.b6V J)<|b8 J (λhg=>oS (ct hg) J J Ty.a4 J)<|b8 J (λhg=>S0 (ct hg) J)<|y0 J (k7 J J J (λq=>H2 q))<|S2 1 J<|a7 ?_
 cases h
 exact f1

theorem b3e{a0 a1}:PO Tryz.prog 209 [p6.Pv a0,l7.Pv a1] (a3W a0 a1) λr=>.tup [p6.Pv r.1,.I r.2]:=by
 refine pO Tryz.func209 λr h _ _=>?_
 refine S4 4 J<|b9<|S3 2 J<|nL J Ty.e47<|S2 3 J ?_
 refine cN h (λhc h=>?_) λhc h=>?_
 ·refine S4 3 J ?_
  refine a7 ?_
  cases h
  exact⟨J,[_,_],⟨oL J J J Ty.a49 Ty.s49 nl J,⟨J,tr⟩⟩,J,io⟩
 ·refine a8 ?_
  refine dr [] Ty.N3 (by kernel_rfl) (by kernel_rfl)<|d1n J (A9 J Ty.e47 Ty.a8b) J<|S7 2 J<|n9 h λv1 hv1 h=>d3 J (a57 (f:=l7.Pv) hv1 J J (.inl ⟨_,J,J⟩) Ty.e47 Ty.a8b Ty.c6m Ty.b9B J (λ_=>J)) J J J<|S7 1 J<|d1n J (L1 (f:=l7.Pv) (l:=[a1]) J Ty.e47 Ty.a8b Ty.b9B J J nl J J) J<|n9 h λv2 hv2 h=>d3a J (F4 (f:=l7.Pv) hv2 J J J J J J (.inl ⟨_,J,J⟩) Ty.e47 Ty.a8b Ty.c6m Ty.b9B J (λ_=>J)) J J J J J<|S7 2 J<|d7 J (λ_ hN=>l4 (cs:=[.sl 19,.I a0.Cap]) J Ty.p49 Ty.z49 J J J) J<|G9 (x':=.agg [.sl 19,.I a0.Cap]) (cl':=false) J J (.inl J) Ty.s49<|S8 1 J<|a7 ?_
  cases h
  exact⟨J,[_,_],⟨oL J J J Ty.a49 Ty.s49 nl J,⟨J,tr⟩⟩,J,io⟩

theorem b4b{a0 a1}:PO Tryz.prog 118 [c5.Pv a0,.I a1] (a3e a0 a1) λr=>c5.Pv r:=by
 refine pO Tryz.func118 λr h _ _=>?_
 refine S4 2 J<|b9<|S3 2 J<|cA h b3f J J λv1 _ h=>S2 1 J ?_
 refine cN h (λhc h=>?_) λhc h=>?_
 ·refine S4 2 J ?_
  refine a7 ?_
  cases h
  exact⟨J,[_],⟨oL J J J Ty.a51 Ty.X4 nl J,tr⟩,J,io⟩
 ·refine a8 ?_
  refine S3 3 J<|cF h C4 J J λv2 _ h=>S2 6 J<|S4 2 J<|S3 4 J<|cF h a1z J J λv3 _ h=>S2 5 J<|S3 5 J<|y0 J (l4 (cs:=[.I 1,.I a1,.I v2.1.Prog]) J Ty.c8R Ty.b9B J J J)<|cF h b3e J J λv4 _ h=>S2 5 J<|S3 2 J<|cF h a1T J J λv5 _ h=>S2 1 J<|a7 ?_
  cases h
  exact⟨J,[_],⟨oL J J J Ty.a51 Ty.X4 nl J,tr⟩,J,io⟩

theorem b85{a0 a1}:PO Tryz.prog 229 [.L iF a0,.I a1] (b17 a0 a1) λr=>.bool r:=by
 refine pO Tryz.func229 λr h _ _=>?_
 refine S4 1 J<|S3 2 J<|cA h a2C J J λv1 _ h=>S2 2 J<|a7 ?_
 cases h
 exact f1

theorem b7J{a0 a1}:PO Tryz.prog 210 [c5.Pv a0,.L iF a1] (a6U a0 a1) λr=>.L iF r:=by
 refine pO Tryz.func210 λr h _ _=>?_
 refine S4 2 J<|sR<|y0 J (A9 J Ty.w8 Ty.s3)<|S2 1 J ?_
 refine jq h (λj17=>St.of [(5,.sl 910005)] [(910005,⟨List.map iF j17,(List.map iF j17).length,true,1,true⟩)]) (λj17 h=>?_) λκ16 h=>?_
 ·refine S4 2 J ?_
  refine a7 ?_
  cases h
  exact f1
 ·refine S4 1 J ?_
  refine c7<|lq h (λq=>St.of [(1,.L iF a1),(2,.ptr 2 0 0),(5,.sl 910005),(6,.I q.1)] [(2,vR (c5.Pv a0) 8),(910005,⟨List.map iF q.2,(List.map iF q.2).length,true,1,true⟩)]) (Wk.trans (E1 (t:=5) (l:=920005) (z:=1) J J) (WP (λl=>if l=910005 then 920005 else l))) λq22 x21 h hx16=>?_
  obtain⟨s19,s20⟩:=q22
  refine b9<|S3 2 J<|nL J Ty.w8<|S2 1 J ?_
  refine cN h (λhc h=>?_) λhc h=>?_
  ·refine a8 ?_
   refine jq h (λj28=>St.of [(1,.L iF a1),(2,.ptr 2 0 0),(5,.sl 35),(6,.I s19)] [(35,⟨List.map iF j28,(List.map iF j28).length,true,1,true⟩),(2,vR (c5.Pv a0) 8)]) (λj28 h=>?_) λκ27 h=>?_
   ·refine S6 3 J ?_
    exact eL h (Wk.trans (k8 _ [35]) (WP (λl=>if l=910005 then 35 else l)))
   ·refine c7 ?_
    refine dr [] Ty.N3 (by kernel_rfl) (by kernel_rfl)<|S7 3 J<|n9 h λv29 hv22 h=>d0 J (p7 (f:=iF) (cs:=[.I v29]) hv22 J J Ty.w8 Ty.s3 J J) J<|S7 1 J<|n9 h λv30 hv23 h=>d2 J (w9 J Q9 J hv23) J<|S7 1 J<|o0 J (λhg _ hN=>om (d:=.sl 910005) J) J<|o0 J (λhg _ hN=>om (d:=.L iF a1) J) J<|o0 J (λhg _ hN=>mI J) J<|y8 J (λhg=>p7 (f:=iF) (cs:=[.I v29]) hv22 (ct hg) (ct hg) Ty.w8 Ty.s3 J J) J<|y8 J (λhg=>A8 (ct hg) Ty.a3 J) J<|n9 h λv31 hv24 h=>a1W J (λhg=>w9 J b85 (p5 (ct hg) (p5 (ct hg) J)) (A0 hv24 hg)) J<|o0 J (λhg _ hN=>S0 (ct hg) J) J<|d7 J (λ_ hN=>k7 J J J (λq=>H2 q)) J<|L5 ?_
    refine cN h (λhc h=>?_) λhc h=>?_
    ·refine S5 3 J ?_
     refine y0 J (p7 (f:=iF) (cs:=[.I v29]) hv22 J J Ty.w8 Ty.s3 J J)<|S1 1 J<|y0 J (L1 (f:=iF) (l:=[v29]) J Ty.w8 Ty.s3 Ty.z3 J J nl J J)<|n9 h λv32 hv25 h=>I9 J (F4 (f:=iF) hv25 J J J J J J (.inl ⟨_,J,J⟩) Ty.w8 Ty.s3 Ty.b3 Ty.z3 J (λ_=>J)) J J J<|S2 1 J ?_
     exact eJ h (Wk.trans (k8 _ [35]) W)
    ·refine a8 ?_
     exact eJ h (Wk.trans (k8 _ [910005]) (WP (λl=>if l=35 then 910005 else l)))
  ·refine j8 ?_
   refine b7<|b7<|c8 ?_
   have h:=xL hx16 h
   exact eJ h (Wk.trans (k8 _ [910005]) W)

theorem b5I{a0 a1}:PO Tryz.prog 211 [.L g8.Pv a0,.L iF a1] (a7y a0 a1) λr=>.tup [.L g8.Pv r.1,.L iF r.2]:=by
 refine pO Tryz.func211 λr h _ _=>?_
 refine S4 2 J<|sR<|y0 J (A9 J Ty.e45 Ty.a4R)<|S2 1 J<|sR<|y0 J (A9 J Ty.w8 Ty.s3)<|S2 1 J ?_
 refine jq h (λq=>St.of [(6,.sl 910006),(7,.sl 910007)] [(910007,⟨List.map iF q.1,(List.map iF q.1).length,true,1,true⟩),(910006,⟨List.map g8.Pv q.2,(List.map g8.Pv q.2).length,true,3,true⟩)]) (λq20 h=>?_) λκ17 h=>?_
 ·obtain⟨j18,j19⟩:=q20
  refine S4 4 J<|a7 ?_
  cases h
  exact f2
 ·refine S4 1 J ?_
  refine c7<|lq h (λq=>St.of [(0,.L g8.Pv a0),(1,.L iF a1),(6,.sl 910006),(7,.sl 910007),(8,.I q.1)] [(910006,⟨List.map g8.Pv q.2.1,(List.map g8.Pv q.2.1).length,true,3,true⟩),(910007,⟨List.map iF q.2.2,(List.map iF q.2.2).length,true,1,true⟩)]) (Wk.trans (E1 (t:=6) (l:=920006) (z:=3) J J) (Wk.trans (E1 (t:=7) (l:=920007) (z:=1) J J) (WP (λl=>if l=910006 then 920006 else if l=910007 then 920007 else l)))) λq26 x25 h hx14=>?_
  obtain⟨s22,s23,s24⟩:=q26
  refine b9<|S3 2 J<|nL J Ty.e45<|S2 1 J ?_
  refine cN h (λhc h=>?_) λhc h=>?_
  ·refine a8 ?_
   refine b9<|c7<|S3 2 J<|iL h J J Ty.e45 Ty.a4R λv27 _ h=>S2 3 J ?_
   refine jq h (λq=>St.of [(0,.L g8.Pv a0),(1,.L iF a1),(6,.sl 910006),(7,.sl 38),(8,.I s22),(9,.ptr 9 0 0)] [(9,vR (.agg [.I v27.Target,.bool q.1,.I v27.Call]) 3),(38,⟨List.map iF q.2,(List.map iF q.2).length,true,1,true⟩),(910006,⟨List.map g8.Pv s23,(List.map g8.Pv s23).length,true,3,true⟩)]) (λq33 h=>?_) λκ30 h=>?_
   ·obtain⟨j31,j32⟩:=q33
    refine S5 2 J<|y0 J (L1 (f:=g8.Pv) (l:=[(⟨v27.Target,j31,v27.Call⟩:g8)]) J Ty.e45 Ty.a4R Ty.c1r J J nl J J)<|n9 h λv34 hv19 h=>I9 J (F4 (f:=g8.Pv) hv19 J J J J J J (.inl ⟨_,J,J⟩) Ty.e45 Ty.a4R Ty.c6l Ty.c1r J (λ_=>J)) J J J<|S2 1 J<|S6 3 J ?_
    exact eL h (Wk.trans (k8 _ [42,38]) (WP (λl=>if l=910006 then 42 else if l=910007 then 38 else l)))
   ·refine S3 3 J ?_
    refine b8 J (λhg=>om (d:=.L iF a1) J)<|b8 J (λhg=>oF J Ty.b5b J)<|b8 J (λhg=>oS (ct hg) J J Ty.a3 J)<|n9 h λv35 hv20 h=>b8 J (λhg=>w9 J a2C (p5 (ct hg) (p5 (ct hg) J)) (A0 hv20 hg))<|b8 J (λhg=>j2 (ct hg) J J)<|y0 J (k7 J J J (λq=>H2 q))<|yN ?_
    refine cN h (λhc h=>?_) λhc h=>?_
    ·refine S4 2 J ?_
     refine S4 3 J ?_
     refine cN h (λhc h=>?_) λhc h=>?_
     ·refine S5 2 J ?_
      refine y0 J (L1 (f:=iF) (l:=[s22]) J Ty.w8 Ty.s3 Ty.z3 J J nl J J)<|n9 h λv36 hv21 h=>I9 J (F4 (f:=iF) hv21 J J J J J J (.inl ⟨_,J,J⟩) Ty.w8 Ty.s3 Ty.b3 Ty.z3 J (λ_=>J)) J J J<|S2 1 J ?_
      exact eJ h (Wk.trans (k8 _ [910006,38]) W)
     ·refine a8 ?_
      exact eJ h (Wk.trans (k8 _ [910006,910007]) (WP (λl=>if l=38 then 910007 else l)))
    ·refine a8 ?_
     exact eJ h (Wk.trans (k8 _ [910006,910007]) (WP (λl=>if l=38 then 910007 else l)))
  ·refine j8 ?_
   refine b7<|b7<|c8 ?_
   have h:=xL hx14 h
   exact eJ h (Wk.trans (k8 _ [910006,910007]) W)

theorem b3d{a0 a1}:PO Tryz.prog 213 [.L g5.Pv a0,.L iF a1] (a17 a0 a1) λr=>.tup [.L g5.Pv r.1,.L iF r.2]:=by
 refine pO Tryz.func213 λr h _ _=>?_
 refine S4 2 J<|sR<|y0 J (A9 J Ty.w8 Ty.s3)<|S2 1 J ?_
 refine jq h (λq=>St.of [(0,.L g5.Pv q.1),(6,.sl 910006)] [(910006,⟨List.map iF q.2,(List.map iF q.2).length,true,1,true⟩)]) (λq20 h=>?_) λκ17 h=>?_
 ·obtain⟨j18,j19⟩:=q20
  refine S4 4 J<|a7 ?_
  cases h
  exact f2
 ·refine S4 1 J ?_
  refine c7<|lq h (λq=>St.of [(0,.L g5.Pv q.1),(1,.L iF a1),(6,.sl 910006),(7,.I q.2.1)] [(910006,⟨List.map iF q.2.2,(List.map iF q.2.2).length,true,1,true⟩)]) (Wk.trans (E1 (t:=6) (l:=920006) (z:=1) J J) (WP (λl=>if l=910006 then 920006 else l))) λq26 x25 h hx14=>?_
  obtain⟨s22,s23,s24⟩:=q26
  refine b9<|S3 2 J<|nL J Ty.w8<|S2 1 J ?_
  refine cN h (λhc h=>?_) λhc h=>?_
  ·refine a8 ?_
   refine jq h (λq=>St.of [(0,.L g5.Pv q.1),(1,.L iF a1),(6,.sl 34),(7,.I s23)] [(34,⟨List.map iF q.2,(List.map iF q.2).length,true,1,true⟩)]) (λq33 h=>?_) λκ30 h=>?_
   ·obtain⟨j31,j32⟩:=q33
    refine S6 3 J ?_
    exact eL h (Wk.trans (k8 _ [34]) (WP (λl=>if l=910006 then 34 else l)))
   ·refine c7 ?_
    refine S3 3 J<|iL h J J Ty.w8 Ty.s3 λv34 _ h=>S1 1 J<|cF h b1n J J λv35 _ h=>S2 7 J<|S4 2 J ?_
    refine cN h (λhc h=>?_) λhc h=>?_
    ·refine S4 2 J ?_
     refine S5 2 J<|y0 J (L1 (f:=iF) (l:=[v35.2.1]) J Ty.w8 Ty.s3 Ty.z3 J J nl J J)<|n9 h λv36 hv21 h=>I9 J (F4 (f:=iF) hv21 J J J J J J (.inl ⟨_,J,J⟩) Ty.w8 Ty.s3 Ty.b3 Ty.z3 J (λ_=>J)) J J J<|S2 1 J ?_
     exact eJ h (Wk.trans (k8 _ [34]) W)
    ·refine a8 ?_
     exact eJ h (Wk.trans (k8 _ [910006]) (WP (λl=>if l=34 then 910006 else l)))
  ·refine j8 ?_
   refine b7<|b7<|c8 ?_
   have h:=xL hx14 h
   exact eJ h (Wk.trans (k8 _ [910006]) W)

theorem b7t{a0 a1}:PO Tryz.prog 321 [p9.Pv a0,.I a1] (b3b a0 a1) λr=>.tup [p9.Pv r.1,.I r.2]:=by
 refine pO Tryz.func321 λr h _ _=>?_
 refine S4 3 J<|S3 2 J<|cA h b29 J J λv1 _ h=>S2 5 J<|b9<|S4 2 J ?_
 refine cN h (λhc h=>?_) λhc h=>?_
 ·refine S4 4 J ?_
  refine a7 ?_
  cases h
  exact⟨J,[_,_],⟨oL J J J Ty.b4Z Ty.b3u nl J,⟨J,tr⟩⟩,J,io⟩
 ·refine a8 ?_
  refine S3 2 J<|cA h P9 J J λv2 _ h=>S2 5 J<|dr [] Ty.N3 (by kernel_rfl) (by kernel_rfl)<|S7 5 J<|n9 h λv3 hv3 h=>d0 J (p7 (f:=o9.Pv) (cs:=o9.Pc v3) hv3 J J Ty.a4q Ty.a67 J J) J<|S7 5 J<|d0 J (p7 (f:=o9.Pv) (cs:=o9.Pc v3) hv3 J J Ty.a4q Ty.a67 J J) J<|S7 2 J<|d7 J (λ_ hN=>l4 (cs:=[.I 2,.I v3.Gen,.I v3.Val]) J Ty.c27 Ty.b8a J J J) J<|n9 h λv4 hv4 h=>d2f J (s7 J a3T J hv4) J<|G9 (x':=p9.Pv v4) (cl':=true) J J (.inr J) Ty.b3u<|S8 1 J<|a7 ?_
  cases h
  exact⟨J,[_,_],⟨oL J J J Ty.b4Z Ty.b3u nl J,⟨J,tr⟩⟩,J,io⟩

theorem b7w{a0 a1}:PO Tryz.prog 284 [g6.Pv a0,.I a1] (a9Q a0 a1) λr=>g6.Pv r:=by
 refine pO Tryz.func284 λr h _ _=>?_
 refine S4 2 J<|S3 1 J<|cF h I1 J J λv1 _ h=>S1 1 J<|cF h b7t J J λv2 _ h=>S2 6 J<|S3 2 J<|cF h a4d J J λv3 _ h=>S2 1 J<|a7 ?_
 cases h
 exact⟨J,[_],⟨oL J J J Ty.a44 Ty.s44 nl J,tr⟩,J,io⟩

theorem b7K{a0 a1}:PO Tryz.prog 214 [c5.Pv a0,.I a1] (a4M a0 a1) λr=>c5.Pv r:=by
 refine pO Tryz.func214 λr h _ _=>?_
 refine S4 2 J<|S3 3 J<|cF h C4 J J λv1 _ h=>S2 6 J<|S3 1 J<|a7e (x':=.agg [.I v1.1.Serial,.I v1.1.Strong,.I v1.1.Weak,.I v1.1.Prog,.bool v1.1.Started,.nl]) (cl':=true) J J (.inl J) Ty.s27<|yN<|S3 1 J<|a7e (x':=.agg [.I v1.1.Serial,.I 0,.I v1.1.Weak,.I v1.1.Prog,.bool v1.1.Started,.nl]) (cl':=true) J J (.inl J) Ty.s3<|yN<|S3 4 J<|cF h a1z J J λv2 _ h=>S2 5 J<|S3 3 J<|cF h b7w J J λv3 _ h=>S2 2 J<|b9<|S4 3 J ?_
 refine cN h (λhc h=>?_) λhc h=>?_
 ·refine S5 3 J ?_
  refine cF h b1m J J λv4 _ h=>S2 2 J<|S4 2 J<|a7 ?_
  cases h
  exact⟨J,[_],⟨oL J J J Ty.a51 Ty.X4 nl J,tr⟩,J,io⟩
 ·refine a8 ?_
  refine S4 2 J<|a7 ?_
  cases h
  exact⟨J,[_],⟨oL J J J Ty.a51 Ty.X4 nl J,tr⟩,J,io⟩

theorem b7I{a0 a1}:PO Tryz.prog 119 [c5.Pv a0,.L iF a1] (a6S a0 a1) λr=>c5.Pv r:=by
 refine pO Tryz.func119 λr h _ _=>?_
 refine S4 2 J<|S3 2 J<|cF h b7J J J λv1 _ h=>S2 1 J<|S3 3 J<|cF h b5I J J λv2 _ h=>S2 5 J<|S4 3 J ?_
 refine jq h (λj12=>St.of [(2,.ptr 2 0 0),(4,.ptr 4 0 0),(5,.L iF v1)] [(4,vR (.agg [.nl,.I 0,.I 0,.nl,.nl,.nl,.nl,.I 0]) 8),(2,vR (.agg [.L j1.Pv a0.S.Cells,.I a0.S.Last,.I a0.S.Serial,.L iF a0.Roots,.L g8.Pv v2.1,.L g5.Pv a0.T,.L l7.Pv j12.L,.I j12.Cap]) 8)]) (λj12 h=>?_) λκ11 h=>?_
 ·refine sR ?_
  refine y0 J (A9 J Ty.w8 Ty.s3)<|S2 1 J ?_
  refine jq h (λj23=>St.of [(2,.ptr 2 0 0),(4,.ptr 4 0 0),(5,.L iF v1),(9,.sl 910009)] [(910009,⟨List.map iF j23,(List.map iF j23).length,true,1,true⟩),(4,vR (.agg [.nl,.I 0,.I 0,.nl,.nl,.nl,.nl,.I 0]) 8),(2,vR (.agg [.L j1.Pv a0.S.Cells,.I a0.S.Last,.I a0.S.Serial,.L iF a0.Roots,.L g8.Pv v2.1,.L g5.Pv a0.T,.L l7.Pv j12.L,.I j12.Cap]) 8)]) (λj23 h=>?_) λκ22 h=>?_
  ·refine S3 3 J ?_
   refine cF h b3d J J λv24 _ h=>S2 5 J<|S4 3 J<|S3 2 J<|n9 h λv25 hv19 h=>I9 J (F4 (f:=iF) hv19 J J J J J J (.inl ⟨_,J,J⟩) Ty.w8 Ty.s3 Ty.b3 Ty.z3 J (λ_=>J)) J J J<|S2 1 J ?_
   refine jq h (λj34=>St.of [(2,.ptr 2 0 0),(4,.ptr 4 0 0),(9,.sl 88)] [(88,⟨List.map iF v25,j23.length,true,1,true⟩),(4,vR (.agg [.nl,.I 0,.I 0,.nl,.nl,.nl,.nl,.I 0]) 8),(2,vR (c5.Pv j34) 8)]) (λj34 h=>?_) λκ33 h=>?_
   ·refine jq h (λj43=>St.of [(2,.ptr 2 0 0),(4,.ptr 4 0 0)] [(4,vR (.agg [.nl,.I 0,.I 0,.nl,.nl,.nl,.nl,.I 0]) 8),(2,vR (c5.Pv j43) 8)]) (λj43 h=>?_) λκ42 h=>?_
    ·refine S4 2 J ?_
     refine a7 ?_
     cases h
     exact⟨J,[_],⟨oL J J J Ty.a51 Ty.X4 nl J,tr⟩,J,io⟩
    ·refine S4 1 J ?_
     refine c7<|lq h (λq=>St.of [(2,.ptr 2 0 0),(4,.ptr 4 0 0),(9,.sl 88),(16,.I q.1)] [(88,⟨List.map iF v25,j23.length,true,1,true⟩),(4,vR (.agg [.nl,.I 0,.I 0,.nl,.nl,.nl,.nl,.I 0]) 8),(2,vR (c5.Pv q.2) 8)]) W λq48 x47 h hx34=>?_
     obtain⟨s45,s46⟩:=q48
     refine b9<|S3 2 J<|y0 J (b7n (f:=iF) J J J Ty.w8)<|S2 1 J ?_
     refine cN h (λhc h=>?_) λhc h=>?_
     ·refine a8 ?_
      refine b9<|c7<|a1w [] Ty.N3 (by kernel_rfl) (by kernel_rfl)<|S7 3 J<|n9 h λv49 hv35 h=>d0 J (Y9 (f:=iF) hv35 J J J J Ty.w8 Ty.s3 J) J<|d0 J (b2X (f:=iF) hv35 J J J Ty.a3 J) J<|n9 h λv50 hv36 h=>d2f J (s7 J a02 J hv36) J<|G9 (x':=c5.Pv v50) (cl':=true) J J (.inr J) Ty.X4<|L5<|S6 3 J ?_
      exact eL h W
     ·refine j8 ?_
      refine b7<|b7<|c8 ?_
      have h:=xL hx34 h
      exact eJ h W
   ·refine S4 1 J ?_
    refine c7<|lq h (λq=>St.of [(2,.ptr 2 0 0),(4,.ptr 4 0 0),(5,.L iF v1),(9,.sl 88),(15,.I q.1)] [(88,⟨List.map iF v25,j23.length,true,1,true⟩),(4,vR (.agg [.nl,.I 0,.I 0,.nl,.nl,.nl,.nl,.I 0]) 8),(2,vR (c5.Pv q.2) 8)]) W λq55 x54 h hx39=>?_
    obtain⟨s52,s53⟩:=q55
    refine b9<|S3 2 J<|nL J Ty.w8<|S2 1 J ?_
    refine cN h (λhc h=>?_) λhc h=>?_
    ·refine a8 ?_
     refine b9<|c7<|a1w [] Ty.N3 (by kernel_rfl) (by kernel_rfl)<|S7 3 J<|n9 h λv56 hv40 h=>d0 J (p7 (f:=iF) (cs:=[.I v56]) hv40 J J Ty.w8 Ty.s3 J J) J<|S7 1 J<|n9 h λv57 hv41 h=>d2f J (s7 J b7K J hv41) J<|G9 (x':=c5.Pv v57) (cl':=true) J J (.inr J) Ty.X4<|L5<|S6 3 J ?_
     exact eL h W
    ·refine j8 ?_
     refine b7<|b7<|c8 ?_
     have h:=xL hx39 h
     exact eJ h W
  ·refine S4 1 J ?_
   refine c7<|lq h (λq=>St.of [(2,.ptr 2 0 0),(4,.ptr 4 0 0),(5,.L iF v1),(9,.sl 910009),(10,.I q.1)] [(4,vR (.agg [.nl,.I 0,.I 0,.nl,.nl,.nl,.nl,.I 0]) 8),(2,vR (.agg [.L j1.Pv a0.S.Cells,.I a0.S.Last,.I a0.S.Serial,.L iF a0.Roots,.L g8.Pv v2.1,.L g5.Pv a0.T,.L l7.Pv j12.L,.I j12.Cap]) 8),(910009,⟨List.map iF q.2,(List.map iF q.2).length,true,1,true⟩)]) (Wk.trans (E1 (t:=9) (l:=920009) (z:=1) J J) (WP (λl=>if l=910009 then 920009 else l))) λq62 x61 h hx44=>?_
   obtain⟨s59,s60⟩:=q62
   refine b9<|S3 2 J<|nL J Ty.w8<|S2 1 J ?_
   refine cN h (λhc h=>?_) λhc h=>?_
   ·refine a8 ?_
    refine b9<|c7<|dr [] Ty.N3 (by kernel_rfl) (by kernel_rfl)<|S7 4 J<|n9 h λv63 hv45 h=>d0 J (p7 (f:=iF) (cs:=[.I v63]) hv45 J J Ty.w8 Ty.s3 J J) J<|S7 1 J<|n9 h λv64 hv46 h=>d2f J (s7 J C4 J hv46) J<|S7 4 J<|G9 (x':=y4.Pv v64.1) (cl':=true) J J (.inr J) Ty.s78<|S8 1 J<|S5 3 J<|cF h a9N J J λv65 _ h=>n9 h λv66 hv48 h=>I9 J (F4 (f:=iF) hv48 J J J J J J (.inl ⟨_,J,J⟩) Ty.w8 Ty.s3 Ty.b3 Ty.z3 J (λ_=>J)) J J J<|S2 1 J<|S6 3 J ?_
    exact eL h (Wk.trans (k8 _ [76]) (WP (λl=>if l=910009 then 76 else l)))
   ·refine j8 ?_
    refine b7<|b7<|c8 ?_
    have h:=xL hx44 h
    exact eJ h (Wk.trans (k8 _ [910009]) W)
 ·refine S4 1 J ?_
  refine c7<|lq h (λq=>St.of [(2,.ptr 2 0 0),(4,.ptr 4 0 0),(5,.L iF v1),(6,.L g8.Pv v2.1),(7,.L iF v2.2),(8,.I q.1)] [(4,vR (.agg [.nl,.I 0,.I 0,.nl,.nl,.nl,.nl,.I 0]) 8),(2,vR (.agg [.L j1.Pv a0.S.Cells,.I a0.S.Last,.I a0.S.Serial,.L iF a0.Roots,.L g8.Pv v2.1,.L g5.Pv a0.T,.L l7.Pv q.2.L,.I q.2.Cap]) 8)]) W λq71 x70 h hx51=>?_
  obtain⟨s68,s69⟩:=q71
  refine b9<|S3 2 J<|nL J Ty.w8<|S2 1 J ?_
  refine cN h (λhc h=>?_) λhc h=>?_
  ·refine a8 ?_
   refine b9<|c7<|a1w [] Ty.N3 (by kernel_rfl) (by kernel_rfl)<|S7 4 J<|n9 h λv72 hv52 h=>d0 J (p7 (f:=iF) (cs:=[.I v72]) hv52 J J Ty.w8 Ty.s3 J J) J<|S7 4 J<|d0 J (p7 (f:=iF) (cs:=[.I v72]) hv52 J J Ty.w8 Ty.s3 J J) J<|S7 1 J<|n9 h λv73 hv53 h=>d0 J (p7 (f:=g8.Pv) (cs:=g8.Pc v73) hv53 J J Ty.e45 Ty.a4R J J) J<|S7 2 J<|d7 J (λ_ hN=>l4 (cs:=[.I 2,.I v72,.I v73.Call]) J Ty.c8R Ty.b9B J J J) J<|n9 h λv74 hv54 h=>d2f J (s7 J b3e J hv54) J<|S7 4 J<|G9 (x':=.agg [.L j1.Pv a0.S.Cells,.I a0.S.Last,.I a0.S.Serial,.L iF a0.Roots,.L g8.Pv v2.1,.L g5.Pv a0.T,.L l7.Pv v74.1.L,.I v74.1.Cap]) (cl':=true) J J (.inr J) Ty.s49<|L5<|S6 3 J ?_
   exact eL h W
  ·refine j8 ?_
   refine b7<|b7<|c8 ?_
   have h:=xL hx51 h
   exact eJ h W

theorem a4e{a0}:PO Tryz.prog 46 [c5.Pv a0] (R1 a0) λr=>c5.Pv r:=by
 refine pO Tryz.func46 λr h _ _=>?_
 refine S4 2 J ?_
 refine jq h (λj21=>St.of [(1,.ptr 1 0 0),(2,.ptr 2 0 0)] [(2,vR (.agg [.nl,.I 0,.I 0,.nl,.nl,.nl,.nl,.I 0]) 8),(1,vR (c5.Pv j21) 8)]) (λj21 h=>?_) λκ20 h=>?_
 ·refine S4 2 J ?_
  refine a7 ?_
  cases h
  exact⟨J,[_],⟨oL J J J Ty.a51 Ty.X4 nl J,tr⟩,J,io⟩
 ·refine S4 1 J ?_
  refine c7<|lq h (λq=>St.of [(1,.ptr 1 0 0),(2,.ptr 2 0 0),(3,.I q.1)] [(2,vR (.agg [.nl,.I 0,.I 0,.nl,.nl,.nl,.nl,.I 0]) 8),(1,vR (c5.Pv q.2) 8)]) W λq26 x25 h hx20=>?_
  obtain⟨s23,s24⟩:=q26
  refine b9<|S4 2 J ?_
  refine cN h (λhc h=>?_) λhc h=>?_
  ·refine a8 ?_
   refine jq h (λj34=>St.of [(1,.ptr 1 0 0),(2,.ptr 2 0 0),(3,.I s23)] [(2,vR (.agg [.nl,.I 0,.I 0,.nl,.nl,.nl,.nl,.I 0]) 8),(1,vR (c5.Pv j34) 8)]) (λj34 h=>?_) λκ33 h=>?_
   ·refine S6 3 J ?_
    exact eL h W
   ·refine c7 ?_
    refine S3 1 J<|cF h b1s J J λv35 _ h=>S2 1 J<|b9<|S3 1 J<|nL J Ty.w8<|S2 1 J ?_
    refine cN h (λhc h=>?_) λhc h=>?_
    ·refine S4 2 J ?_
     refine a7 ?_
     have h:=xL hx20 h
     cases h
     exact⟨J,[_],⟨oL J J J Ty.a51 Ty.X4 nl J,tr⟩,J,io⟩
    ·refine a8 ?_
     refine dr [] Ty.N3 (by kernel_rfl) (by kernel_rfl)<|S7 2 J<|n9 h λv36 hv29 h=>d0 J (p7 (f:=iF) (cs:=[.I v36]) hv29 J J Ty.w8 Ty.s3 J J) J<|S7 1 J<|n9 h λv37 hv30 h=>d2 J (w9 J b3f J hv30) J<|L5 ?_
     refine cN h (λhc h=>?_) λhc h=>?_
     ·refine a1w [] Ty.N3 (by kernel_rfl) (by kernel_rfl) ?_
      refine S7 2 J<|d0 J (p7 (f:=iF) (cs:=[.I v36]) hv29 J J Ty.w8 Ty.s3 J J) J<|S7 1 J<|n9 h λv38 hv31 h=>d2f J (s7 J b4b J hv31) J<|G9 (x':=c5.Pv v38) (cl':=true) J J (.inr J) Ty.X4<|L5 ?_
      exact eJ h W
     ·refine a1w [] Ty.N3 (by kernel_rfl) (by kernel_rfl) ?_
      refine S7 2 J<|n9 h λv39 hv32 h=>d0 J (c2P (f:=iF) hv32 J J ⟨_,J⟩ Ty.w8 Ty.s3 (λ_=>J)) J<|n9 h λv40 hv33 h=>d2f J (s7 J b7I J hv33) J<|G9 (x':=c5.Pv v40) (cl':=true) J J (.inr J) Ty.X4<|L5 ?_
      exact eJ h W
  ·refine j8 ?_
   refine b7<|b7<|c8 ?_
   have h:=xL hx20 h
   exact eJ h W

theorem a4f{a0 a1}:PO Tryz.prog 19 [c5.Pv a0,.I a1] (a0v a0 a1) λr=>.I r:=by
 refine pO Tryz.func19 λr h _ _=>?_
 refine S4 2 J<|S3 3 J<|cF h C4 J J λv1 _ h=>S2 6 J<|S4 3 J<|a7 ?_
 cases h
 exact f1

theorem b81{a0}:PO Tryz.prog 120 [.I a0] (a9O a0) λr=>.tup [.L iF r.1,.I r.2]:=by
 refine pO Tryz.func120 λr h _ _=>?_
 refine S4 2 J<|b9<|S3 3 J<|b8 J (λhg=>mI J)<|b8 J (λhg=>j2 (ct hg) J J)<|y0 J (n0 J J J (λq=>H0 q))<|yN ?_
 refine cN h (λhc h=>?_) λhc h=>?_
 ·refine S4 2 J ?_
  refine a7 ?_
  cases h
  exact f2
 ·refine a8 ?_
  refine S3 1 J<|n9 h λv1 hv1 h=>y1 J (b7o (f:=iF) hv1 J J J Ty.w8 Ty.s3 Ty.z3 Ty.b3 J J J) J<|S2 2 J<|a7 ?_
  cases h
  exact f2

theorem b7u{a0 a1}:PO Tryz.prog 121 [p9.Pv a0,.I a1] (a4H a0 a1) λr=>.tup [p9.Pv r.1,.I r.2.1,.I r.2.2]:=by
 refine pO Tryz.func121 λr h _ _=>?_
 refine S4 4 J ?_
 refine jq h (λ_=>St.of [(2,.ptr 2 0 0),(4,.ptr 4 0 0)] [(4,vR (.agg [.nl,.I 0]) 2),(2,vR (p9.Pv a0) 2)]) (λq8 h=>?_) λκ7 h=>?_
 ·refine S4 4 J ?_
  refine a7 ?_
  cases h
  exact⟨J,[_,_,_],⟨oL J J J Ty.b4Z Ty.b3u nl J,⟨J,⟨J,tr⟩⟩⟩,J,io⟩
 ·refine S4 1 J ?_
  refine c7<|lq h (λs10=>St.of [(1,.I a1),(2,.ptr 2 0 0),(4,.ptr 4 0 0),(7,.I s10)] [(4,vR (.agg [.nl,.I 0]) 2),(2,vR (p9.Pv a0) 2)]) W λs10 x11 h hx10=>b9<|S3 3 J<|nL J Ty.a4q<|S2 1 J ?_
  refine cN h (λhc h=>?_) λhc h=>?_
  ·refine a8 ?_
   refine b9<|c7<|S3 3 J<|iL h J J Ty.a4q Ty.a67 λv12 hv11 h=>S2 3 J ?_
   refine cN h (λhc h=>?_) λhc h=>?_
   ·refine S3 3 J ?_
    refine y0 J (p7 (f:=o9.Pv) (cs:=o9.Pc v12) hv11 J J Ty.a4q Ty.a67 J J)<|S2 3 J<|S3 4 J<|y0 J (l4 (cs:=[.I 1,.I v12.Gen,.I a1]) J Ty.c27 Ty.b8a J J J)<|cF h a3T J J λv13 _ h=>S1 2 J<|cA h a3S J J λv14 _ h=>S2 3 J<|a7 ?_
    have h:=xL hx10 h
    cases h
    exact⟨J,[_,_,_],⟨oL J J J Ty.b4Z Ty.b3u nl J,⟨J,⟨J,tr⟩⟩⟩,J,io⟩
   ·refine a8 ?_
    refine S6 3 J ?_
    exact eL h W
  ·refine j8 ?_
   refine b7<|b7<|c8 ?_
   have h:=xL hx10 h
   exact eJ h W

theorem b7x{a0 a1 a2}:PO Tryz.prog 47 [g6.Pv a0,.I a1,.I a2] (a01 a0 a1 a2) λr=>.tup [g6.Pv r.1,.I r.2.1,.I r.2.2]:=by
 refine pO Tryz.func47 λr h _ _=>?_
 refine S4 4 J<|S3 1 J<|cF h b81 J J λv1 _ h=>S2 5 J<|b9<|S4 2 J ?_
 refine cN h (λhc h=>?_) λhc h=>?_
 ·refine S4 5 J ?_
  refine a7 ?_
  cases h
  exact⟨J,[_,_,_],⟨oL J J J Ty.a44 Ty.s44 nl J,⟨J,⟨J,tr⟩⟩⟩,J,io⟩
 ·refine a8 ?_
  refine b9<|S3 3 J<|b8 J (λhg=>mI J)<|b8 J (λhg=>j2 (ct hg) J J)<|y0 J (n0 J J J (λq=>H0 q))<|yN ?_
  refine cN h (λhc h=>?_) λhc h=>?_
  ·refine S4 4 J ?_
   refine a7 ?_
   cases h
   exact⟨J,[_,_,_],⟨oL J J J Ty.a44 Ty.s44 nl J,⟨J,⟨J,tr⟩⟩⟩,J,io⟩
  ·refine a8 ?_
   refine S3 1 J<|cF h I1 J J λv2 _ h=>cF h b7u J J λv3 _ h=>S2 8 J<|b9<|S4 2 J ?_
   refine cN h (λhc h=>?_) λhc h=>?_
   ·refine S4 5 J ?_
    refine a7 ?_
    cases h
    exact⟨J,[_,_,_],⟨oL J J J Ty.a44 Ty.s44 nl J,⟨J,⟨J,tr⟩⟩⟩,J,io⟩
   ·refine a8 ?_
    refine dr [] Ty.N3 (by kernel_rfl) (by kernel_rfl)<|S7 2 J<|n9 h λv4 hv4 h=>d2f J (s7 J a4d J hv4) J<|S7 1 J<|n9 h λv5 hv5 h=>d2 J (w9 J a6K J hv5) J<|S7 5 J<|d7 J (λ_ hN=>l4 (cs:=[.I (s6 (a0.Serial+1)),.I 0,.I 0,.I a2,.bool false,.L iF v1.1]) J Ty.p78 Ty.z78 J J J) J<|n9 h λv6 hv6 h=>d2f J (s7 J a6M J hv6) J<|S7 1 J<|G9 (x':=g6.Pv v6) (cl':=true) J J (.inr J) Ty.s44<|L5<|S4 5 J<|S4 5 J<|a7 ?_
    cases h
    exact⟨J,[_,_,_],⟨oL J J J Ty.a44 Ty.s44 nl J,⟨J,⟨J,tr⟩⟩⟩,J,io⟩

theorem b1p{a0 a1 a2}:PO Tryz.prog 48 [c5.Pv a0,.I a1,.I a2] (a18 a0 a1 a2) λr=>.tup [c5.Pv r.1,.I r.2]:=by
 refine pO Tryz.func48 λr h _ _=>?_
 refine S4 3 J<|b9<|S3 3 J<|b8 J (λhg=>mI J)<|b8 J (λhg=>j2 (ct hg) J J)<|y0 J (n0 J J J (λq=>H0 q))<|yN ?_
 refine cN h (λhc h=>?_) λhc h=>?_
 ·refine S4 3 J ?_
  refine a7 ?_
  cases h
  exact⟨J,[_,_],⟨oL J J J Ty.a51 Ty.X4 nl J,⟨J,tr⟩⟩,J,io⟩
 ·refine a8 ?_
  refine b9<|S3 2 J<|cA h Y3 J J λv1 _ h=>S2 1 J ?_
  refine cN h (λhc h=>?_) λhc h=>?_
  ·refine S4 3 J ?_
   refine a7 ?_
   cases h
   exact⟨J,[_,_],⟨oL J J J Ty.a51 Ty.X4 nl J,⟨J,tr⟩⟩,J,io⟩
  ·refine a8 ?_
   refine S3 3 J<|iL h J J Ty.w8 Ty.s3 λv2 _ h=>S2 2 J<|S3 2 J<|cF h a1T J J λv3 _ h=>S2 2 J<|sR<|y0 J (A9 J Ty.w8 Ty.s3)<|S1 2 J<|n9 h λv4 hv4 h=>y1 J (a57 (f:=iF) hv4 J J (.inl ⟨_,J,J⟩) Ty.w8 Ty.s3 Ty.b3 Ty.z3 J (λ_=>J)) J<|S2 2 J<|S3 4 J<|n9 h λv5 hv5 h=>y0 J (Y9 (f:=iF) hv5 J J J J Ty.w8 Ty.s3 J)<|a3s (f:=iF) (v:=a2) hv5 J J (.inl J) Ty.s3<|yN<|S3 2 J<|n9 h λv6 hv6 h=>ycL J (s7 J a02 J hv6) J<|S2 2 J<|a7 ?_
   cases h
   exact⟨J,[_,_],⟨oL J J J Ty.a51 Ty.X4 nl J,⟨J,tr⟩⟩,J,io⟩

theorem b0V{a0 a1}:PO Tryz.prog 21 [c5.Pv a0,.I a1] (a6V a0 a1) λr=>.I r:=by
 refine pO Tryz.func21 λr h _ _=>?_
 refine S4 2 J<|b9<|S3 3 J<|b8 J (λhg=>mI J)<|b8 J (λhg=>j2 (ct hg) J J)<|y0 J (n0 J J J (λq=>H0 q))<|yN ?_
 refine cN h (λhc h=>?_) λhc h=>?_
 ·refine S4 1 J ?_
  refine a7 ?_
  cases h
  exact f1
 ·refine a8 ?_
  refine dr [] Ty.N3 (by kernel_rfl) (by kernel_rfl)<|S7 4 J<|n9 h λv1 hv1 h=>d0 J (p7 (f:=iF) (cs:=[.I v1]) hv1 J J Ty.w8 Ty.s3 J J) J<|S7 1 J<|n9 h λv2 hv2 h=>d2 J (w9 J a4f J hv2) J<|S8 1 J<|a7 ?_
  cases h
  exact f1

theorem b7z{a0 a1}:PO Tryz.prog 129 [.L g8.Pv a0,.I a1] (a6N a0 a1) λr=>.tup [.I r.1,.I r.2]:=by
 refine pO Tryz.func129 λr h _ _=>?_
 refine S4 2 J<|b9<|S3 3 J<|b8 J (λhg=>mI J)<|b8 J (λhg=>om (d:=.L g8.Pv a0) J)<|b8 J (λhg=>H7 (f:=g8.Pv) (ct hg) Ty.e45)<|b8 J (λhg=>j2 (ct hg) (ct hg) J)<|y0 J (n0 J J J (λq=>H0 q))<|yN ?_
 refine cN h (λhc h=>?_) λhc h=>?_
 ·refine S4 2 J ?_
  refine a7 ?_
  cases h
  exact f2
 ·refine a8 ?_
  refine b9<|S3 2 J<|iL h J J Ty.e45 Ty.a4R λv1 hv1 h=>S1 4 J<|b8 J (λhg=>om (d:=.L g8.Pv a0) J)<|b8 J (λhg=>mI J)<|b8 J (λhg=>p7 (f:=g8.Pv) (cs:=g8.Pc v1) hv1 (ct hg) (ct hg) Ty.e45 Ty.a4R J J)<|b8 J (λhg=>A1 (ct hg) Ty.b8s J)<|b8 J (λhg=>A8 (ct hg) Ty.a4 J)<|b8 J (λhg=>S0 (ct hg) J)<|y0 J (n0 J J J (λq=>H0 q))<|yN ?_
  refine cN h (λhc h=>?_) λhc h=>?_
  ·refine S4 2 J ?_
   refine a7 ?_
   cases h
   exact f2
  ·refine a8 ?_
   refine S3 2 J<|y0 J (p7 (f:=g8.Pv) (cs:=g8.Pc v1) hv1 J J Ty.e45 Ty.a4R J J)<|S2 4 J<|a7 ?_
   cases h
   exact f2

theorem b88{a0 a1}:PO Tryz.prog 130 [.L g5.Pv a0,.I a1] (a9X a0 a1) λr=>.tup [.I r.1,.I r.2]:=by
 refine pO Tryz.func130 λr h _ _=>?_
 refine S4 2 J<|S3 2 J<|cA h a8R J J λv1 _ h=>S2 4 J<|a7 ?_
 cases h
 exact f2

theorem b5W{a0 a1}:PO Tryz.prog 49 [c5.Pv a0,L8.Pv a1] (a0C a0 a1) λr=>.tup [.I r.1,.I r.2]:=by
 refine pO Tryz.func49 λr h _ _=>?_
 refine S4 4 J<|b9<|S4 2 J<|c7<|S4 2 J ?_
 refine cN h (λhc h=>?_) λhc h=>?_
 ·refine S3 4 J ?_
  refine iL h J J Ty.w8 Ty.s3 λv1 _ h=>S2 3 J<|a7 ?_
  cases h
  exact f2
 ·refine S4 2 J ?_
  refine cN h (λhc h=>?_) λhc h=>?_
  ·refine S3 3 J ?_
   refine cA h a5z J J λv2 _ h=>S2 5 J<|b9<|S4 2 J ?_
   refine cN h (λhc h=>?_) λhc h=>?_
   ·refine S4 3 J ?_
    refine a7 ?_
    cases h
    exact f2
   ·refine a8 ?_
    refine S3 5 J<|cA h a9P J J λv3 _ h=>S2 4 J<|a7 ?_
    cases h
    exact f2
  ·refine S4 2 J ?_
   refine cN h (λhc h=>?_) λhc h=>?_
   ·refine S3 4 J ?_
    refine cA h b7z J J λv4 _ h=>S2 4 J<|a7 ?_
    cases h
    exact f2
   ·refine S4 2 J ?_
    refine cN h (λhc h=>?_) λhc h=>?_
    ·refine S3 3 J ?_
     refine cA h a5z J J λv5 _ h=>S2 5 J<|b9<|S4 2 J ?_
     refine cN h (λhc h=>?_) λhc h=>?_
     ·refine S4 3 J ?_
      refine a7 ?_
      cases h
      exact f2
     ·refine a8 ?_
      refine S3 3 J<|cA h b88 J J λv6 _ h=>S2 4 J<|a7 ?_
      cases h
      exact f2
    ·refine a8 ?_
     refine S4 2 J<|a7 ?_
     cases h
     exact f2

theorem c02{a0 a1}:PO Tryz.prog 13 [c5.Pv a0,L8.Pv a1] (A2 a0 a1) λr=>.tup [c5.Pv r.1,.I r.2.1,.I r.2.2]:=by
 refine pO Tryz.func13 λr h _ _=>?_
 refine S4 5 J<|S3 1 J<|cA h b5T J J λv1 _ h=>S2 1 J<|b9<|S4 2 J ?_
 refine cN h (λhc h=>?_) λhc h=>?_
 ·refine S4 5 J ?_
  refine a7 ?_
  cases h
  exact⟨J,[_,_,_],⟨oL J J J Ty.a51 Ty.X4 nl J,⟨J,⟨J,tr⟩⟩⟩,J,io⟩
 ·refine a8 ?_
  refine b9<|S3 1 J<|cA h b5U J J λv2 _ h=>S2 1 J ?_
  refine cN h (λhc h=>?_) λhc h=>?_
  ·refine S4 4 J ?_
   refine a7 ?_
   cases h
   exact⟨J,[_,_,_],⟨oL J J J Ty.a51 Ty.X4 nl J,⟨J,⟨J,tr⟩⟩⟩,J,io⟩
  ·refine a8 ?_
   refine b9<|S4 2 J<|c7<|S4 2 J ?_
   refine cN h (λhc h=>?_) λhc h=>?_
   ·refine b9 ?_
    refine dr [] Ty.N3 (by kernel_rfl) (by kernel_rfl)<|S7 4 J<|n9 h λv3 hv3 h=>d0 J (p7 (f:=iF) (cs:=[.I v3]) hv3 J J Ty.w8 Ty.s3 J J) J<|S7 5 J<|n9 h λv4 hv4 h=>d0 J (p7 (f:=iF) (cs:=[.I v4]) hv4 J J Ty.w8 Ty.s3 J J) J<|S8 2 J ?_
    refine cN h (λhc h=>?_) λhc h=>?_
    ·refine S4 4 J ?_
     refine a7 ?_
     cases h
     exact⟨J,[_,_,_],⟨oL J J J Ty.a51 Ty.X4 nl J,⟨J,⟨J,tr⟩⟩⟩,J,io⟩
    ·refine a8 ?_
     refine S4 4 J<|a7 ?_
     cases h
     exact⟨J,[_,_,_],⟨oL J J J Ty.a51 Ty.X4 nl J,⟨J,⟨J,tr⟩⟩⟩,J,io⟩
   ·refine jq h (λj6=>St.of [(2,.ptr 2 0 0),(3,.ptr 3 0 0),(4,.ptr 4 0 0),(30,.I a1.Kind),(48,.bool j6)] [(4,vR (.agg [.nl,.I 0,.I 0,.nl,.nl,.nl,.nl,.I 0]) 8),(3,vR (L8.Pv a1) 4),(2,vR (c5.Pv a0) 8)]) (λj6 h=>?_) λκ5 h=>?_
    ·refine cN h (λhc h=>?_) λhc h=>?_
     ·refine S3 2 J ?_
      refine cF h b5X J J λv7 _ h=>S2 8 J<|b9<|S4 2 J ?_
      refine cN h (λhc h=>?_) λhc h=>?_
      ·refine S4 5 J ?_
       refine a7 ?_
       cases h
       exact⟨J,[_,_,_],⟨oL J J J Ty.a51 Ty.X4 nl J,⟨J,⟨J,tr⟩⟩⟩,J,io⟩
      ·refine a8 ?_
       refine dr [] Ty.N3 (by kernel_rfl) (by kernel_rfl)<|S7 1 J<|n9 h λv8 hv7 h=>d2f J (s7 J a4e J hv7) J<|S7 2 J<|n9 h λv9 hv8 h=>d2 J (w9 J a4f J hv8) J<|G9 (x':=c5.Pv v8) (cl':=true) J J (.inr J) Ty.X4<|S8 2 J<|a7 ?_
       cases h
       exact⟨J,[_,_,_],⟨oL J J J Ty.a51 Ty.X4 nl J,⟨J,⟨J,tr⟩⟩⟩,J,io⟩
     ·refine S4 2 J ?_
      refine cN h (λhc h=>?_) λhc h=>?_
      ·refine S3 6 J ?_
       refine cF h b7x J J λv10 _ h=>S2 8 J<|b9<|S4 2 J ?_
       refine cN h (λhc h=>?_) λhc h=>?_
       ·refine S4 5 J ?_
        refine a7 ?_
        cases h
        exact⟨J,[_,_,_],⟨oL J J J Ty.a51 Ty.X4 nl J,⟨J,⟨J,tr⟩⟩⟩,J,io⟩
       ·refine a8 ?_
        refine S4 3 J<|S4 3 J<|S3 4 J<|cF h b1p J J λv11 _ h=>S2 4 J<|S3 1 J<|cF h a4e J J λv12 _ h=>S2 1 J<|dr [] Ty.N3 (by kernel_rfl) (by kernel_rfl)<|S7 4 J<|n9 h λv13 hv12 h=>d2 J (w9 J b0V J hv12) J<|G9 (x':=c5.Pv v12) (cl':=true) J J (.inr J) Ty.X4<|S8 2 J<|a7 ?_
        cases h
        exact⟨J,[_,_,_],⟨oL J J J Ty.a51 Ty.X4 nl J,⟨J,⟨J,tr⟩⟩⟩,J,io⟩
      ·refine a8 ?_
       refine S3 2 J<|cA h b5W J J λv14 _ h=>S2 5 J<|b9<|S4 2 J ?_
       refine cN h (λhc h=>?_) λhc h=>?_
       ·refine S4 5 J ?_
        refine a7 ?_
        cases h
        exact⟨J,[_,_,_],⟨oL J J J Ty.a51 Ty.X4 nl J,⟨J,⟨J,tr⟩⟩⟩,J,io⟩
       ·refine a8 ?_
        refine S3 4 J<|cF h b1p J J λv15 _ h=>S2 6 J<|S3 1 J<|cF h a4e J J λv16 _ h=>S2 1 J<|dr [] Ty.N3 (by kernel_rfl) (by kernel_rfl)<|S7 4 J<|n9 h λv17 hv16 h=>d2 J (w9 J b0V J hv16) J<|G9 (x':=c5.Pv v16) (cl':=true) J J (.inr J) Ty.X4<|S8 2 J<|a7 ?_
        cases h
        exact⟨J,[_,_,_],⟨oL J J J Ty.a51 Ty.X4 nl J,⟨J,⟨J,tr⟩⟩⟩,J,io⟩
    ·refine S4 2 J ?_
     refine cN h (λhc h=>?_) λhc h=>?_
     ·refine a8 ?_
      exact eJ h W
     ·refine S4 2 J ?_
      refine cN h (λhc h=>?_) λhc h=>?_
      ·refine a8 ?_
       exact eJ h W
      ·refine S6 2 J ?_
       exact eJ h W

theorem b1l{a0 a1}:PO Tryz.prog 27 [.L iF a0,.L iF a1] (a3b a0 a1) λr=>.bool r:=by
 refine pO Tryz.func27 λr h _ _=>?_
 refine S4 1 J<|b9<|S3 1 J<|nL J Ty.w8<|S1 1 J<|nL J Ty.w8<|S2 1 J ?_
 refine cN h (λhc h=>?_) λhc h=>?_
 ·refine S4 1 J ?_
  refine a7 ?_
  cases h
  exact f1
 ·refine a8 ?_
  refine jq h (λ_=>St.of [] []) (λq7 h=>?_) λκ6 h=>?_
  ·refine S4 1 J ?_
   refine a7 ?_
   cases h
   exact f1
  ·refine S4 1 J ?_
   refine c7<|lq h (λs9=>St.of [(0,.L iF a0),(1,.L iF a1),(5,.I s9)] []) W λs9 x10 h hx9=>b9<|S3 2 J<|nL J Ty.w8<|S2 1 J ?_
   refine cN h (λhc h=>?_) λhc h=>?_
   ·refine a8 ?_
    refine b9<|c7<|dr [] Ty.N3 (by kernel_rfl) (by kernel_rfl)<|S7 2 J<|n9 h λv11 hv10 h=>d0 J (p7 (f:=iF) (cs:=[.I v11]) hv10 J J Ty.w8 Ty.s3 J J) J<|S7 3 J<|n9 h λv12 hv11 h=>d0 J (p7 (f:=iF) (cs:=[.I v12]) hv11 J J Ty.w8 Ty.s3 J J) J<|S8 2 J ?_
    refine cN h (λhc h=>?_) λhc h=>?_
    ·refine S4 1 J ?_
     refine a7 ?_
     have h:=xL hx9 h
     cases h
     exact f1
    ·refine a8 ?_
     refine S6 3 J ?_
     exact eL h W
   ·refine j8 ?_
    refine b7<|b7<|c8 ?_
    have h:=xL hx9 h
    exact eJ h W

theorem b5F{a0 a1}:PO Tryz.prog 131 [y4.Pv a0,y4.Pv a1] (a4I a0 a1) λr=>.bool r:=by
 refine pO Tryz.func131 λr h _ _=>?_
 unfold a4I at h
 refine S4 3 J<|S3 6 J<|b8 J (λhg=>oF J Ty.b6U J)<|b8 J (λhg=>oS (ct hg) J J Ty.a3 J)<|b8 J (λhg=>oF J Ty.b6U J)<|b8 J (λhg=>oS (ct hg) J J Ty.a3 J)<|b8 J (λhg=>j2 (ct hg) (ct hg) J)<|y0 J (k7 J J J (λq=>H2 q))<|S1 1 J<|b8 J (λhg=>oF J Ty.b4s J)<|b8 J (λhg=>oS (ct hg) J J Ty.a3 J)<|b8 J (λhg=>oF J Ty.b4s J)<|b8 J (λhg=>oS (ct hg) J J Ty.a3 J)<|b8 J (λhg=>j2 (ct hg) (ct hg) J)<|y0 J (k7 J J J (λq=>H2 q))<|S1 1 J<|b8 J (λhg=>oF J Ty.b4t J)<|b8 J (λhg=>oS (ct hg) J J Ty.a3 J)<|b8 J (λhg=>oF J Ty.b4t J)<|b8 J (λhg=>oS (ct hg) J J Ty.a3 J)<|b8 J (λhg=>j2 (ct hg) (ct hg) J)<|y0 J (k7 J J J (λq=>H2 q))<|S1 1 J<|b8 J (λhg=>oF J Ty.b6V J)<|b8 J (λhg=>oS (ct hg) J J Ty.a4 J)<|b8 J (λhg=>oF J Ty.b6V J)<|b8 J (λhg=>oS (ct hg) J J Ty.a4 J)<|b8 J (λhg=>c5Y (ct hg) (ct hg) Ty.u4 J)<|y0 J (k7 J J J (λq=>H2 q))<|S1 1 J ?_
 refine b8 J (λhg=>oF J Ty.b6W J)<|b8 J (λhg=>oS (ct hg) J J Ty.a27 J)<|b8 J (λhg=>oF J Ty.b6W J)<|b8 J (λhg=>oS (ct hg) J J Ty.a27 J)<|n9 h λv1 hv1 h=>b8 J (λhg=>w9 J b1l (p5 (ct hg) (p5 (ct hg) J)) (A0 hv1 hg))<|y0 J (k7 J J J (λq=>H2 q))<|S2 1 J<|a7 ?_
 cases h
 exact f1

theorem b7y{a0 a1}:PO Tryz.prog 54 [g6.Pv a0,g6.Pv a1] (a9R a0 a1) λr=>.bool r:=by
 refine pO Tryz.func54 λr h _ _=>?_
 refine S4 3 J<|b9<|S3 6 J<|b8 J (λhg=>oF J Ty.b9I J)<|b8 J (λhg=>oS (ct hg) J J Ty.a3 J)<|b8 J (λhg=>oF J Ty.b9I J)<|b8 J (λhg=>oS (ct hg) J J Ty.a3 J)<|b8 J (λhg=>j2 (ct hg) (ct hg) J)<|y0 J (n0 J J J (λq=>H0 q))<|S1 1 J<|b8 J (λhg=>oF J Ty.a9h J)<|b8 J (λhg=>oS (ct hg) J J Ty.a42 J)<|b8 J (λhg=>H7 (f:=j1.Pv) (ct hg) Ty.e42)<|b8 J (λhg=>oF J Ty.a9h J)<|b8 J (λhg=>oS (ct hg) J J Ty.a42 J)<|b8 J (λhg=>H7 (f:=j1.Pv) (ct hg) Ty.e42)<|b8 J (λhg=>j2 (ct hg) (ct hg) J)<|y0 J (n0 J J J (λq=>H0 q))<|yN ?_
 refine cN h (λhc h=>?_) λhc h=>?_
 ·refine S4 1 J ?_
  refine a7 ?_
  cases h
  exact f1
 ·refine a8 ?_
  refine jq h (λ_=>St.of [] []) (λq8 h=>?_) λκ7 h=>?_
  ·refine S4 1 J ?_
   refine a7 ?_
   cases h
   exact f1
  ·refine S4 1 J ?_
   refine c7<|lq h (λs10=>St.of [(2,.ptr 2 0 0),(3,.ptr 3 0 0),(5,.I s10)] [(3,vR (g6.Pv a1) 3),(2,vR (g6.Pv a0) 3)]) W λs10 x11 h hx10=>b9<|S3 3 J<|nL J Ty.e42<|S2 1 J ?_
   refine cN h (λhc h=>?_) λhc h=>?_
   ·refine a8 ?_
    refine b9<|c7<|dr [] Ty.N3 (by kernel_rfl) (by kernel_rfl)<|S7 3 J<|n9 h λv12 hv11 h=>d0 J (p7 (f:=j1.Pv) (cs:=j1.Pc v12) hv11 J J Ty.e42 Ty.a05 J J) J<|S7 5 J<|n9 h λv13 hv12 h=>d0 J (p7 (f:=j1.Pv) (cs:=j1.Pc v13) hv12 J J Ty.e42 Ty.a05 J J) J<|S7 4 J<|o0 J (λhg _ hN=>oF J Ty.a9h J) J<|y8 J (λhg=>oS (ct hg) J J Ty.a42 J) J<|o0 J (λhg _ hN=>mI J) J<|y8 J (λhg=>p7 (f:=j1.Pv) (cs:=j1.Pc v12) hv11 (ct hg) (ct hg) Ty.e42 Ty.a05 J J) J<|o0 J (λhg _ hN=>A1 (ct hg) Ty.c1W J) J<|y8 J (λhg=>A8 (ct hg) Ty.a3 J) J<|o0 J (λhg _ hN=>oF J Ty.a9h J) J<|y8 J (λhg=>oS (ct hg) J J Ty.a42 J) J<|o0 J (λhg _ hN=>mI J) J<|y8 J (λhg=>p7 (f:=j1.Pv) (cs:=j1.Pc v13) hv12 (ct hg) (ct hg) Ty.e42 Ty.a05 J J) J<|o0 J (λhg _ hN=>A1 (ct hg) Ty.c1W J) J<|y8 J (λhg=>A8 (ct hg) Ty.a3 J) J<|o0 J (λhg _ hN=>j2 (ct hg) (ct hg) J) J<|d7 J (λ_ hN=>n0 J J J (λq=>H0 q)) J<|S7 1 J<|o0 J (λhg _ hN=>oF J Ty.a9h J) J<|y8 J (λhg=>oS (ct hg) J J Ty.a42 J) J<|o0 J (λhg _ hN=>mI J) J<|y8 J (λhg=>p7 (f:=j1.Pv) (cs:=j1.Pc v12) hv11 (ct hg) (ct hg) Ty.e42 Ty.a05 J J) J<|o0 J (λhg _ hN=>A1 (ct hg) Ty.a6v J) J<|y8 J (λhg=>a9I (ct hg) Ty.a78 Ty.s78 nl J) J<|o0 J (λhg _ hN=>oF J Ty.a9h J) J<|y8 J (λhg=>oS (ct hg) J J Ty.a42 J) J<|o0 J (λhg _ hN=>mI J) J<|y8 J (λhg=>p7 (f:=j1.Pv) (cs:=j1.Pc v13) hv12 (ct hg) (ct hg) Ty.e42 Ty.a05 J J) J<|o0 J (λhg _ hN=>A1 (ct hg) Ty.a6v J) J<|y8 J (λhg=>a9I (ct hg) Ty.a78 Ty.s78 nl J) J<|n9 h λv14 hv13 h=>a1W J (λhg=>w9 J b5F (p5 (ct hg) (p5 (ct hg) J)) (A0 hv13 hg)) J<|o0 J (λhg _ hN=>S0 (ct hg) J) J<|d7 J (λ_ hN=>n0 J J J (λq=>H0 q)) J<|L5 ?_
    refine cN h (λhc h=>?_) λhc h=>?_
    ·refine S4 1 J ?_
     refine a7 ?_
     have h:=xL hx10 h
     cases h
     exact f1
    ·refine a8 ?_
     refine S6 3 J ?_
     exact eL h W
   ·refine j8 ?_
    refine b7<|b7<|c8 ?_
    have h:=xL hx10 h
    exact eJ h W

end Go.Proofs.YtfihndcobnkiaaaGreat.Ok
