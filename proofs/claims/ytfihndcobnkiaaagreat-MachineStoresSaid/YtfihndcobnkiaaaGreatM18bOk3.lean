/-
 The functions of the program do as the plain functions do.
-/
import Derived.Test.YtfihndcobnkiaaaGreatM18bOk2
set_option linter.unusedVariables false
set_option linter.unusedSimpArgs false
set_option linter.unusedSectionVars false
namespace Go.Proofs.YtfihndcobnkiaaaGreat.Ok
open Go Go.Pw Go.Sh Go.Proofs
set_option maxRecDepth 100000
set_option maxHeartbeats 4000000
theorem a4m{a0}:PO Tryz.prog 90 [hold_Heap.Pv a0] (a1O a0) λr=>.bool r:=by
 refine pO Tryz.func90 λr h _ _=>?_
 refine S4 2 J<|sR<|b4y (KT:=task_Task) (VT:=Bool) (EK:=task_Task.Pv) (E:=PV.bool) 5000004 J J<|S2 2 J<|S3 4 J<|L1 (WPE (λl=>if l=2001 then 1 else if l=2002 then 3 else if l=5002003 then 5000004 else l) [(7,.L task_Task.Pv a0.Q.L),(8,.fn (.func 164) [.ptr 2002 0 0,.ptr 2001 0 0])] [(2001,vR (hold_Heap.Pv a0) 8),(2002,vS (.mp 5002003) 1),(5002003,⟨[.mapc (List.map (ent task_Task.Pv PV.bool) [])],0,false,0,false⟩)]) ?_
 refine b7y (fn:=Tryz.f163) (N1:=18) J J Tryz.func163 J Ty.c9Q J J nl (λe1 o2=>?_)
 refine jqR h (λq=>St.of [(1000007,.L task_Task.Pv a0.Q.L),(1000008,.fn (.func 164) [.ptr 2002 0 0,.ptr 2001 0 0]),(4,.bool q.1)] [(2001,vR (hold_Heap.Pv a0) 8),(2002,vS (.mp 5002003) 1),(5002003,⟨[.mapc (List.map (ent task_Task.Pv PV.bool) q.2)],0,false,0,false⟩)]) (λq20 h=>dup ?_) λκ17 h=>?_
 ·obtain⟨j18,j19⟩:=q20
  refine⟨J,[.bool j18],⟨J,tr⟩,?_⟩
  refine L1 (WE [(9,.bool j18)] [])<|S2 1 J<|a7 ?_
  cases h
  exact f1
 ·refine S4 1 J ?_
  refine jq h (λj29=>St.of [(1000007,.L task_Task.Pv a0.Q.L),(1000008,.fn (.func 164) [.ptr 2002 0 0,.ptr 2001 0 0])] [(2001,vR (hold_Heap.Pv a0) 8),(2002,vS (.mp 5002003) 1),(5002003,⟨[.mapc (List.map (ent task_Task.Pv PV.bool) j29)],0,false,0,false⟩)]) (λj29 h=>?_) λκ28 h=>?_
  ·refine S4 1 J ?_
   refine a7 ?_
   exact eJ h W
  ·refine S3 1 J ?_
   refine nL J Ty.e30<|S2 1 J<|b9<|lq h (λq=>St.of [(1000007,.L task_Task.Pv a0.Q.L),(1000008,.fn (.func 164) [.ptr 2002 0 0,.ptr 2001 0 0]),(1,.fn (.func 164) [.ptr 2002 0 0,.ptr 2001 0 0]),(7,.L task_Task.Pv a0.Q.L),(8,.I (a0.Q.L.length:Int)),(9,.I q.1)] [(2001,vR (hold_Heap.Pv a0) 8),(2002,vS (.mp 5002003) 1),(5002003,⟨[.mapc (List.map (ent task_Task.Pv PV.bool) q.2)],0,false,0,false⟩)]) W λq34 x33 h hx29=>?_
   obtain⟨s31,s32⟩:=q34
   refine S4 1 J<|g5 ?_
   refine cN h (λhc h=>?_) λhc h=>?_
   ·refine a8 ?_
    refine g5<|b9<|sR<|iL h J J Ty.e30 Ty.b3R λv35 _ h=>S2 3 J<|S3 2 J<|L1 (WE [(1000007,.L task_Task.Pv a0.Q.L),(1000008,.fn (.func 164) [.ptr 2002 0 0,.ptr 2001 0 0]),(1,.fn (.func 164) [.ptr 2002 0 0,.ptr 2001 0 0]),(7,.L task_Task.Pv a0.Q.L),(8,.I (a0.Q.L.length:Int)),(9,.I s31),(13,.fn (.func 164) [.ptr 2002 0 0,.ptr 2001 0 0]),(14,task_Task.Pv v35)] [(2001,vR (hold_Heap.Pv a0) 8),(2002,vS (.mp 5002003) 1),(5002003,⟨[.mapc (List.map (ent task_Task.Pv PV.bool) s32)],0,false,0,false⟩)]) ?_
    refine b7y (fn:=Tryz.f164) (N1:=34) J J Tryz.func164 J Ty.c9R J J nl (λe31 o32=>?_)
    refine S4 2 J<|S3 4 J<|y0 J (m7 (cs:=[.I v35.Kind,.I v35.At,.I 0]) J Ty.c6V Ty.c3r J J J)<|S2 2 J<|S3 2 J<|c3p (es:=s32) (k:=(⟨v35.Kind,v35.At,0⟩:task_Task)) (E:=PV.bool) (EK:=task_Task.Pv) (d:=.bool ((y4 s32 (⟨v35.Kind,v35.At,0⟩:task_Task)).getD (false:Bool))) J J J J Ty.c5x (b6G task_Task.Pc (λ_=>J) Ty.c8q (by decide) (λ_ _=>J) task_Task.beq_eq (λ_=>J) (λ_=>⟨J,J⟩)) Ty.z4 J (lk1 _ _ _)<|S2 1 J<|S3 2 J<|Z4 (es:=s32) (k:=(⟨v35.Kind,v35.At,0⟩:task_Task)) (v:=true) (E:=PV.bool) (EK:=task_Task.Pv) (.inl J) J J J J J J Ty.c5x (b6G task_Task.Pc (λ_=>J) Ty.c8q (by decide) (λ_ _=>J) task_Task.beq_eq (λ_=>J) (λ_=>⟨J,J⟩))<|yN<|S3 3 J<|b8 J (λhg=>oF J Ty.c1l J)<|b8 J (λhg=>oS (ct hg) J J Ty.a3 J)<|b8 J (λhg=>j8 (ct hg) J J)<|y0 J (l7 J J J (λq=>L5 q))<|S1 1 J<|b8 J (λhg=>oF J Ty.c1l J)<|b8 J (λhg=>oS (ct hg) J J Ty.a3 J)<|b8 J (λhg=>j8 (ct hg) J J)<|y0 J (l7 J J J (λq=>L5 q))<|S1 1 J<|b8 J (λhg=>oL J J J Ty.U6 Ty.O0 nl J)<|b8 J (λhg=>oL J J J Ty.c5L Ty.b3R nl J)<|s6 h λv36 hv33 h=>b8 J (λhg=>D3 J a9g (A1 (ct hg) (A1 (ct hg) J)) (D2 hv33 hg))<|y0 J (l7 J J J (λq=>L5 q))<|S2 1 J<|a7 ?_
    refine⟨J,[.bool ((((!((y4 s32 (⟨v35.Kind,v35.At,0⟩:task_Task)).getD (false:Bool)))&&(decide (v35.Prog≥0)))&&(decide (v35.Prog<6)))&&v36)],⟨J,tr⟩,?_⟩
    refine L1 (WE [(1000007,.L task_Task.Pv a0.Q.L),(1000008,.fn (.func 164) [.ptr 2002 0 0,.ptr 2001 0 0]),(1,.fn (.func 164) [.ptr 2002 0 0,.ptr 2001 0 0]),(7,.L task_Task.Pv a0.Q.L),(8,.I (a0.Q.L.length:Int)),(9,.I s31),(15,.bool ((((!((y4 s32 (⟨v35.Kind,v35.At,0⟩:task_Task)).getD (false:Bool)))&&(decide (v35.Prog≥0)))&&(decide (v35.Prog<6)))&&v36))] [(2001,vR (hold_Heap.Pv a0) 8),(2002,vS (.mp 5002003) 1),(5002003,⟨[.mapc (List.map (ent task_Task.Pv PV.bool) (m9 s32 (⟨v35.Kind,v35.At,0⟩:task_Task) true))],0,false,0,false⟩)])<|S2 1 J ?_
    refine cN h (λhc h=>?_) λhc h=>?_
    ·refine S4 1 J ?_
     refine a7 ?_
     have h:=xL hx29 h
     exact eJ h W
    ·refine a8 ?_
     refine S6 2 J ?_
     exact eL h W
   ·refine k8 ?_
    refine b7<|b7<|g8 ?_
    have h:=xL hx29 h
    exact eJ h W

theorem a8v{a0 a1}:PO Tryz.prog 167 [weak_Cell.Pv a0,.rptr (hold_Heap.Pc a1)] (a2b a0 a1) λr=>.bool r:=by
 refine pO Tryz.func167 λr h _ _=>?_
 refine S4 2 J<|g5<|S3 4 J<|b8 J (λhg=>oF J Ty.c7Y J)<|b8 J (λhg=>oS (ct hg) J J Ty.a3 J)<|b8 J (λhg=>j8 (ct hg) J J)<|y0 J (o0 J J J (λq=>H3 q))<|yN ?_
 refine cN h (λhc h=>?_) λhc h=>?_
 ·refine S4 1 J ?_
  refine a7 ?_
  cases h
  exact f1
 ·refine a8 ?_
  refine g5<|S4 2 J ?_
  refine cN h (λhc h=>?_) λhc h=>?_
  ·refine S3 3 J ?_
   refine cA h a0T J J λv1 _ h=>S2 1 J<|a7 ?_
   cases h
   exact f1
  ·refine a8 ?_
   refine S3 5 J<|cA h D9 J J λv2 _ h=>S2 5 J<|S3 4 J<|b8 J (λhg=>mI J)<|b8 J (λhg=>j8 (ct hg) J J)<|y0 J (o0 J J J (λq=>H3 q))<|S2 1 J<|a7 ?_
   cases h
   exact f1

theorem V8{a0 a1}:PO Tryz.prog 166 [.L weak_Cell.Pv a0,.fn (.func 167) [.rptr (hold_Heap.Pc a1)]] (B9 a0 a1) λr=>.bool r:=by
 refine pO Tryz.func166 λr h _ _=>?_
 refine S4 1 J ?_
 refine jq h (λ_=>St.of [] []) (λq7 h=>?_) λκ6 h=>?_
 ·refine S4 1 J ?_
  refine a7 ?_
  cases h
  exact f1
 ·refine S3 1 J ?_
  refine nL J Ty.e28<|S2 1 J<|b9<|lq h (λs9=>St.of [(1,.fn (.func 167) [.rptr (hold_Heap.Pc a1)]),(7,.L weak_Cell.Pv a0),(8,.I (a0.length:Int)),(9,.I s9)] []) W λs9 x10 h hx9=>S4 1 J<|g5 ?_
  refine cN h (λhc h=>?_) λhc h=>?_
  ·refine a8 ?_
   refine g5<|b9<|sR<|iL h J J Ty.e28 Ty.s84 λv11 _ h=>S2 3 J<|S3 2 J<|cA h a8v J J λv12 _ h=>S2 1 J ?_
   refine cN h (λhc h=>?_) λhc h=>?_
   ·refine S4 1 J ?_
    refine a7 ?_
    have h:=xL hx9 h
    cases h
    exact f1
   ·refine a8 ?_
    refine S6 2 J ?_
    exact eL h W
  ·refine k8 ?_
   refine b7<|b7<|g8 ?_
   have h:=xL hx9 h
   exact eJ h W

theorem a4k{a0}:PO Tryz.prog 91 [hold_Heap.Pv a0] (a1M a0) λr=>.bool r:=by
 refine pO Tryz.func91 λr h _ _=>?_
 refine S4 2 J<|S3 3 J<|cA h V8 J J λv1 _ h=>S2 1 J<|a7 ?_
 cases h
 exact f1

theorem b02{a0 a1}:PO Tryz.prog 249 [weak_Cell.Pv a0,.rptr [.I a1]] (a1S a0 a1) λr=>.bool r:=by
 refine pO Tryz.func249 λr h _ _=>?_
 unfold a1S at h
 refine S4 2 J<|S3 3 J<|b8 J (λhg=>oF J Ty.c1A J)<|b8 J (λhg=>oS (ct hg) J J Ty.a3 J)<|b8 J (λhg=>B4 J Ty.a3 J)<|b8 J (λhg=>j8 (ct hg) (ct hg) J)<|y0 J (l7 J J J (λq=>L5 q))<|S2 1 J<|a7 ?_
 cases h
 exact f1

theorem a18{a0 a1}:PO Tryz.prog 248 [.L weak_Cell.Pv a0,.fn (.func 249) [.rptr [.I a1]]] (L8 a0 a1) λr=>.L iF r:=by
 refine pO Tryz.func248 λr h _ _=>?_
 refine S4 1 J<|S4 1 J ?_
 refine jq h (λj15=>St.of [(5,.sl 910005)] [(910005,⟨List.map iF j15,(List.map iF j15).length,true,1,true⟩)]) (λj15 h=>?_) λκ14 h=>?_
 ·refine S4 2 J ?_
  refine a7 ?_
  cases h
  exact f1
 ·refine S3 1 J ?_
  refine nL J Ty.e28<|S2 1 J<|b9<|lq h (λq=>St.of [(1,.fn (.func 249) [.rptr [.I a1]]),(5,.sl 910005),(8,.L weak_Cell.Pv a0),(9,.I (a0.length:Int)),(10,.I q.1)] [(910005,⟨List.map iF q.2,(List.map iF q.2).length,true,1,true⟩)]) (Wk.trans (I0 (t:=5) (l:=920005) (z:=1) J J) (WP (λl=>if l=910005 then 920005 else l))) λq20 x19 h hx14=>?_
  obtain⟨s17,s18⟩:=q20
  refine S4 1 J<|g5 ?_
  refine cN h (λhc h=>?_) λhc h=>?_
  ·refine a8 ?_
   refine jq h (λj25=>St.of [(1,.fn (.func 249) [.rptr [.I a1]]),(5,.sl 21),(8,.L weak_Cell.Pv a0),(9,.I (a0.length:Int)),(10,.I s17)] [(21,⟨List.map iF j25,(List.map iF j25).length,true,1,true⟩)]) (λj25 h=>?_) λκ24 h=>?_
   ·refine S6 2 J ?_
    exact eL h (Wk.trans (l4 _ [21]) (WP (λl=>if l=910005 then 21 else l)))
   ·refine b9 ?_
    refine S3 1 J<|iL h J J Ty.e28 Ty.s84 λv26 _ h=>S2 4 J<|S3 2 J<|cA h b02 J J λv27 _ h=>yN ?_
    refine cN h (λhc h=>?_) λhc h=>?_
    ·refine S5 2 J ?_
     refine y0 J (M3 (f:=iF) (l:=[s17]) J Ty.z6 Ty.s3 Ty.z3 J J nl J J)<|s6 h λv28 hv21 h=>L9 J (I8 (f:=iF) hv21 J J J J J J (.inl ⟨_,J,J⟩) Ty.z6 Ty.s3 Ty.b3 Ty.z3 J (λ_=>J)) J J J<|S2 1 J ?_
     exact eJ h (Wk.trans (l4 _ [21]) W)
    ·refine a8 ?_
     exact eJ h (Wk.trans (l4 _ [910005]) (WP (λl=>if l=21 then 910005 else l)))
  ·refine k8 ?_
   refine b7<|b7<|g8 ?_
   have h:=xL hx14 h
   exact eJ h (Wk.trans (l4 _ [910005]) W)

theorem b3l{a0 a1}:PO Tryz.prog 169 [.L weak_Cell.Pv a0,.I a1] (a17 a0 a1) λr=>.I r:=by
 refine pO Tryz.func169 λr h _ _=>?_
 unfold a17 at h
 refine S4 2 J<|S3 2 J<|s6 h λv1 hv1 h=>ycL J (y8 J a18 J hv1) J<|nL J Ty.z6<|S2 1 J<|a7 ?_
 cases h
 exact f1

theorem a4l{a0}:PO Tryz.prog 92 [hold_Heap.Pv a0] (a1N a0) λr=>.bool r:=by
 refine pO Tryz.func92 λr h _ _=>?_
 refine S4 2 J ?_
 refine jq h (λ_=>St.of [] []) (λq13 h=>?_) λκ12 h=>?_
 ·refine S4 1 J ?_
  refine a7 ?_
  cases h
  exact f1
 ·refine S3 4 J ?_
  refine nL J Ty.e22<|S2 1 J<|b9<|lq h (λs15=>St.of [(1,.ptr 1 0 0),(8,.L slab_Cell_store_Obj.Pv a0.S.S.Cells),(9,.I (a0.S.S.Cells.length:Int)),(10,.I s15)] [(1,vR (hold_Heap.Pv a0) 8)]) W λs15 x16 h hx14=>S4 1 J<|g5 ?_
  refine cN h (λhc h=>?_) λhc h=>?_
  ·refine a8 ?_
   refine jq h (λ_=>St.of [(1,.ptr 1 0 0),(8,.L slab_Cell_store_Obj.Pv a0.S.S.Cells),(9,.I (a0.S.S.Cells.length:Int)),(10,.I s15)] [(1,vR (hold_Heap.Pv a0) 8)]) (λq21 h=>?_) λκ20 h=>?_
   ·refine S6 2 J ?_
    exact eL h W
   ·refine b9 ?_
    refine S3 1 J<|iL h J J Ty.e22 Ty.a4I λv22 _ h=>S2 4 J<|g5<|S3 4 J<|b8 J (λhg=>oF J Ty.b2d J)<|b8 J (λhg=>oS (ct hg) J J Ty.a3 J)<|b8 J (λhg=>j8 (ct hg) J J)<|y0 J (l7 J J J (λq=>L5 q))<|yN ?_
    refine cN h (λhc h=>?_) λhc h=>?_
    ·refine k8 ?_
     refine b7<|g8 ?_
     exact eJ h W
    ·refine a8 ?_
     refine g5<|dr [] Ty.mix (by kernel_rfl) (by kernel_rfl)<|S7 8 J<|s6 h λv23 hv20 h=>d2 J (D3 J a2S J hv20) J<|s6 h λv24 hv21 h=>d2 J (D3 J b3l J hv21) J<|S8 1 J ?_
     refine cN h (λhc h=>?_) λhc h=>?_
     ·refine S4 1 J ?_
      refine a7 ?_
      have h:=xL hx14 h
      cases h
      exact f1
     ·refine a8 ?_
      refine S3 4 J<|b8 J (λhg=>oF J Ty.b4M J)<|b8 J (λhg=>oF (ct hg) Ty.b7L J)<|b8 J (λhg=>oS (ct hg) J J Ty.a3 J)<|b8 J (λhg=>j8 (ct hg) J J)<|b8 J (λhg=>om (d:=.bool (decide (v22.Val.Weak<1))) (ct hg))<|b8 (m8 J J J) (λhg=>oF J Ty.b4M J)<|b8 (m8 J J J) (λhg=>oF (ct hg) Ty.b7N J)<|b8 (m8 J J J) (λhg=>oS (ct hg) J J Ty.a27 J)<|b8 (m8 J J J) (λhg=>M0 (f:=iF) (ct hg) Ty.z6)<|b8 (m8 J J J) (λhg=>j8 (ct hg) J J)<|b8 J (λhg=>o0 (ct hg) J J (λq=>a1g hg (H3 q)))<|b8 J (λhg=>om (d:=.bool ((decide (v22.Val.Weak<1))||(decide ((v22.Val.Fields.length:Int) > 0)))) (ct hg))<|b8 (m8 J J J) (λhg=>oF J Ty.b4M J)<|b8 (m8 J J J) (λhg=>oF (ct hg) Ty.c1d J)<|b8 (m8 J J J) (λhg=>oS (ct hg) J J Ty.a3 J)<|b8 (m8 J J J) (λhg=>j8 (ct hg) J J)<|b8 J (λhg=>o0 (ct hg) J J (λq=>a1g hg (H3 q)))<|y0 J (l7 J J J (λq=>L5 q))<|yN ?_
      refine cN h (λhc h=>?_) λhc h=>?_
      ·refine S4 1 J ?_
       refine a7 ?_
       have h:=xL hx14 h
       cases h
       exact f1
      ·refine a8 ?_
       exact eJ h W
  ·refine k8 ?_
   refine b7<|b7<|g8 ?_
   have h:=xL hx14 h
   exact eJ h W

theorem b70{f:Fv}{a0:hold_Heap}{r:Bool}(h:X5 f a0=some r):∃n,f=some n∧y9 Tryz.prog n∧O8 Tryz.prog n [hold_Heap.Pv a0] (.bool r):=by
 unfold X5 at h
 by_cases e88:f=some 88
 ·rw[if_pos e88] at h;exact⟨88,e88,(@a3B a0).1,(@a3B a0).2 _ h⟩
 rw[if_neg e88] at h
 by_cases e89:f=some 89
 ·rw[if_pos e89] at h;exact⟨89,e89,(@a3C a0).1,(@a3C a0).2 _ h⟩
 rw[if_neg e89] at h
 by_cases e90:f=some 90
 ·rw[if_pos e90] at h;exact⟨90,e90,(@a4m a0).1,(@a4m a0).2 _ h⟩
 rw[if_neg e90] at h
 by_cases e91:f=some 91
 ·rw[if_pos e91] at h;exact⟨91,e91,(@a4k a0).1,(@a4k a0).2 _ h⟩
 rw[if_neg e91] at h
 by_cases e92:f=some 92
 ·rw[if_pos e92] at h;exact⟨92,e92,(@a4l a0).1,(@a4l a0).2 _ h⟩
 rw[if_neg e92] at h
 cases h

theorem b5U{a0}:PO Tryz.prog 175 [queue_Queue_task_Task.Pv a0] (a4K a0) λr=>.L iF r:=by
 refine pO Tryz.func175 λr h _ _=>?_
 refine S4 2 J<|S4 1 J ?_
 refine jq h (λj10=>St.of [(3,.ptr 2001 0 0)] [(2001,vS (.sl 912501) 1),(912501,⟨List.map iF j10,(List.map iF j10).length,true,1,true⟩)]) (λj10 h=>?_) λκ9 h=>?_
 ·refine S4 2 J ?_
  refine a7 ?_
  cases h
  exact f1
 ·refine S3 1 J ?_
  refine cF h b3c J J λv11 _ h=>yN<|b9<|a2m (WPE (λl=>if l=2011 then 3 else l) [(3,.ptr 2011 0 0),(6,.fn (.func 303) [.rptr (queue_Queue_task_Task.Pc v11.1),.rptr [.I v11.2]])] [(2011,vR (.nl) 1)]) ?_
  refine a0b (fn:=Tryz.f303) (N1:=24) J Tryz.func303 J J nl J Ty.c73 J J (λl17 e18 o19 hR20=>?_)
  refine S3 2 J<|nL J Ty.e30<|S2 1 J<|b9<|lq h (λq=>St.of [(1000003,.ptr 2011 0 0),(1000006,.fn (.func 303) [.rptr (queue_Queue_task_Task.Pc v11.1),.rptr [.I v11.2]]),(0,.fn (.yield l17) []),(2,.rptr [.I v11.2]),(7,.L task_Task.Pv v11.1.L),(8,.I (v11.1.L.length:Int)),(9,.I q.1)] [(2011,vS (.sl 912511) 1),(912511,⟨List.map iF q.2,(List.map iF q.2).length,true,1,true⟩)]) (Wk.trans (a7M (l0:=2011) (j:=0) (l:=922511) (z:=1) J J J J J) (WP (λl=>if l=912511 then 922511 else l))) λq16 x15 h hx23=>?_
  obtain⟨s13,s14⟩:=q16
  refine S4 1 J<|g5 ?_
  refine cN h (λhc h=>?_) λhc h=>?_
  ·refine a8 ?_
   refine g5<|b9<|sR<|iL h J J Ty.e30 Ty.b3R λv17 _ h=>S2 3 J<|S3 5 J<|b8 J (λhg=>om (d:=.fn (.yield l17) []) J)<|b8 J (λhg=>oL J J J Ty.c5L Ty.b3R nl J) ?_
   rcases Bool.eq_false_or_eq_true ((v17.Kind==v11.2)==true) with hg25 | hg25
   ·have h:=ifT h hg25
    refine L1 (WPE (λl=>if l=2019 then 912511 else l) [(1000003,.ptr 2011 0 0),(1000006,.fn (.func 303) [.rptr (queue_Queue_task_Task.Pc v11.1),.rptr [.I v11.2]]),(0,.fn (.yield l17) []),(2,.rptr [.I v11.2]),(7,.L task_Task.Pv v11.1.L),(8,.I (v11.1.L.length:Int)),(9,.I s13),(17,.bool (v17.Kind==v11.2)),(18,.fn (.yield l17) []),(19,task_Task.Pv v17)] [(2011,vS (.sl 2019) 1),(2019,⟨List.map iF s14,(List.map iF s14).length,true,1,true⟩)]) ?_
    refine a3T hR20 (congrArg some hg25) J J J J J (λe26 o27 o28=>?_)
    refine S6 2 J ?_
    refine⟨J,?_⟩
    refine b9<|S5 3 J<|y0 J (M3 (f:=iF) (l:=[v17.At]) J Ty.z6 Ty.s3 Ty.z3 J J nl J J)<|s6 h λv18 hv29 h=>L9 J (I8 (f:=iF) hv29 J J J J J J (.inl ⟨_,J,J⟩) Ty.z6 Ty.s3 Ty.b3 Ty.z3 J (λ_=>J)) J J J<|S2 1 J ?_
    refine⟨J,?_⟩
    refine L1 (WPE (λl=>if l=2020 then 12 else l) [(1000003,.ptr 2011 0 0),(1000006,.fn (.func 303) [.rptr (queue_Queue_task_Task.Pc v11.1),.rptr [.I v11.2]]),(0,.fn (.yield l17) []),(2,.rptr [.I v11.2]),(7,.L task_Task.Pv v11.1.L),(8,.I (v11.1.L.length:Int)),(9,.I s13),(17,.bool (v17.Kind==v11.2)),(20,.bool true)] [(2011,vS (.sl 2020) 1),(2020,⟨List.map iF v18,s14.length,true,1,true⟩)])<|y0 (congrArg some hg25) (a0C J J)<|y0 J (a7j J J hg25)<|yN ?_
    refine F8 false J (λq=>nomatch q) (λ_=>?_)
    refine a8<|S6 2 J ?_
    exact eL h (Wk.trans (l4 _ [2020]) (WP (λl=>if l=912511 then 2020 else l)))
   ·have h:=ifF h hg25
    refine a1f (congrArg some hg25)<|a1f (congrArg some hg25)<|y0 J (a7i J J hg25)<|yN ?_
    refine F8 false J (λq=>nomatch q) (λ_=>?_)
    refine a8<|S6 2 J ?_
    exact eL h (Wk.trans (l4 _ [912511]) W)
  ·refine k8 ?_
   refine b7<|b7<|g8 ?_
   refine .inl ⟨J,?_⟩
   have h:=xL hx23 h
   exact eJ h (Wk.trans (l4 _ [912511]) (WP (λl=>if l=2001 then 2011 else if l=912501 then 912511 else l)))

theorem b3F{a0}:PO Tryz.prog 94 [hold_Heap.Pv a0] (a43 a0) λr=>.L iF r:=by
 refine pO Tryz.func94 λr h _ _=>?_
 refine S4 2 J<|S4 1 J ?_
 refine jq h (λj13=>St.of [(1,.ptr 1 0 0),(3,.sl 910003)] [(910003,⟨List.map iF j13,(List.map iF j13).length,true,1,true⟩),(1,vR (hold_Heap.Pv a0) 8)]) (λj13 h=>?_) λκ12 h=>?_
 ·refine S3 3 J ?_
  refine cF h b5U J J λv14 _ h=>s6 h λv15 hv11 h=>L9 J (I8 (f:=iF) hv11 J J J J J J (.inl ⟨_,J,J⟩) Ty.z6 Ty.s3 Ty.b3 Ty.z3 J (λ_=>J)) J J J<|S2 1 J<|a7 ?_
  cases h
  exact f1
 ·refine S3 2 J ?_
  refine nL J Ty.z6<|S2 1 J<|b9<|lq h (λq=>St.of [(1,.ptr 1 0 0),(3,.sl 910003),(7,.L iF a0.Roots),(8,.I (a0.Roots.length:Int)),(9,.I q.1)] [(1,vR (hold_Heap.Pv a0) 8),(910003,⟨List.map iF q.2,(List.map iF q.2).length,true,1,true⟩)]) (Wk.trans (I0 (t:=3) (l:=920003) (z:=1) J J) (WP (λl=>if l=910003 then 920003 else l))) λq20 x19 h hx14=>?_
  obtain⟨s17,s18⟩:=q20
  refine S4 1 J<|g5 ?_
  refine cN h (λhc h=>?_) λhc h=>?_
  ·refine a8 ?_
   refine jq h (λj24=>St.of [(1,.ptr 1 0 0),(3,.sl 18),(7,.L iF a0.Roots),(8,.I (a0.Roots.length:Int)),(9,.I s17)] [(18,⟨List.map iF j24,(List.map iF j24).length,true,1,true⟩),(1,vR (hold_Heap.Pv a0) 8)]) (λj24 h=>?_) λκ23 h=>?_
   ·refine S6 2 J ?_
    exact eL h (Wk.trans (l4 _ [18]) (WP (λl=>if l=910003 then 18 else l)))
   ·refine b9 ?_
    refine sR<|iL h J J Ty.z6 Ty.s3 λv25 _ h=>S2 2 J<|S4 2 J ?_
    refine cN h (λhc h=>?_) λhc h=>?_
    ·refine S5 2 J ?_
     refine y0 J (M3 (f:=iF) (l:=[v25]) J Ty.z6 Ty.s3 Ty.z3 J J nl J J)<|s6 h λv26 hv19 h=>L9 J (I8 (f:=iF) hv19 J J J J J J (.inl ⟨_,J,J⟩) Ty.z6 Ty.s3 Ty.b3 Ty.z3 J (λ_=>J)) J J J<|S2 1 J ?_
     exact eJ h (Wk.trans (l4 _ [18]) W)
    ·refine a8 ?_
     exact eJ h (Wk.trans (l4 _ [910003]) (WP (λl=>if l=18 then 910003 else l)))
  ·refine k8 ?_
   refine b7<|b7<|g8 ?_
   have h:=xL hx14 h
   exact eJ h (Wk.trans (l4 _ [910003]) W)

theorem b16{a0}:PO Tryz.prog 171 [.I a0] (a6h a0) λr=>.bool r:=by
 refine pO Tryz.func171 λr h _ _=>?_
 refine S4 1 J<|S3 1 J<|cA h V3 J J λv1 _ h=>S2 1 J<|a7 ?_
 cases h
 exact f1

theorem b3N{a0}:PO Tryz.prog 325 [store_Store.Pv a0] (a5v a0) λr=>.fn (.func 332) [.rptr (store_Store.Pc r)]:=by
 refine pO Tryz.func325 λr h _ _=>?_
 unfold a5v at h
 refine S4 2 J<|S4 2 J<|a7 ?_
 cases h
 exact f1

theorem b7a{a0 a1}:PO Tryz.prog 333 [store_Store.Pv a0,.I a1] (a9Q a0 a1) λr=>.L iF r:=by
 refine pO Tryz.func333 λr h _ _=>?_
 refine S4 2 J<|S3 2 J<|cF h A6 J J λv1 _ h=>S2 6 J<|S3 2 J<|cF h b0e J J λv2 _ h=>S2 1 J<|a7 ?_
 cases h
 exact f1

theorem b8p{a0 a1}:PO Tryz.prog 301 [store_Store.Pv a0,.I a1] (b1S a0 a1) λr=>.I r:=by
 refine pO Tryz.func301 λr h _ _=>?_
 refine S4 3 J<|S4 2 J ?_
 refine jq h (λj31=>St.of [(5,.ptr 2001 0 0)] [(2001,vR (.I j31) 1)]) (λj31 h=>?_) λκ30 h=>?_
 ·refine S4 2 J ?_
  refine a7 ?_
  cases h
  exact f1
 ·refine S3 1 J ?_
  refine cF h b3N J J λv32 _ h=>yN<|b9<|a2m (WPE (λl=>if l=2003 then 5 else if l=2004 then 3 else l) [(3,.ptr 2004 0 0),(5,.ptr 2003 0 0),(9,.fn (.func 332) [.rptr (store_Store.Pc v32)])] [(2003,vR (.I 0) 1),(2004,vR (.I a1) 1)]) ?_
  refine a0b (fn:=Tryz.f332) (N1:=29) J Tryz.func332 J J nl J Ty.c9X J J (λl33 e34 o35 hR36=>?_)
  refine c2I<|g5<|c2H<|S3 1 J<|cF h a0i J J λv33 _ h=>nL J Ty.z6<|S2 1 J<|b9<|lq h (λq=>St.of [(1000003,.ptr 2004 0 0),(1000005,.ptr 2003 0 0),(1000009,.fn (.func 332) [.rptr (store_Store.Pc v32)]),(0,.fn (.yield l33) []),(1,.rptr (store_Store.Pc v32)),(8,.L iF v33),(9,.I (v33.length:Int)),(10,.I q.1)] [(2003,vR (.I q.2) 1),(2004,vR (.I a1) 1)]) W λq38 x37 h hx40=>?_
  obtain⟨s35,s36⟩:=q38
  refine S4 1 J<|g5 ?_
  refine cN h (λhc h=>?_) λhc h=>?_
  ·refine a8 ?_
   refine jq h (λj50=>St.of [(1000003,.ptr 2004 0 0),(1000005,.ptr 2003 0 0),(1000009,.fn (.func 332) [.rptr (store_Store.Pc v32)]),(0,.fn (.yield l33) []),(1,.rptr (store_Store.Pc v32)),(8,.L iF v33),(9,.I (v33.length:Int)),(10,.I s35)] [(2003,vR (.I j50) 1),(2004,vR (.I a1) 1)]) (λj50 h=>?_) λκ49 h=>?_
   ·refine S6 2 J ?_
    exact eL h W
   ·refine b9 ?_
    refine sR<|iL h J J Ty.z6 Ty.s3 λv51 _ h=>S2 2 J<|S3 2 J<|cF h b7a J J λv52 _ h=>nL J Ty.z6<|S2 1 J<|b9<|lq h (λq=>St.of [(1000003,.ptr 2004 0 0),(1000005,.ptr 2003 0 0),(1000009,.fn (.func 332) [.rptr (store_Store.Pc v32)]),(0,.fn (.yield l33) []),(1,.rptr (store_Store.Pc v32)),(4,.I v51),(8,.L iF v33),(9,.I (v33.length:Int)),(10,.I s35),(16,.L iF v52),(17,.I (v52.length:Int)),(18,.I q.1)] [(2003,vR (.I q.2) 1),(2004,vR (.I a1) 1)]) W λq57 x56 h hx56=>?_
    obtain⟨s54,s55⟩:=q57
    refine S4 1 J<|g5 ?_
    refine cN h (λhc h=>?_) λhc h=>?_
    ·refine a8 ?_
     refine g5<|b9<|sR<|iL h J J Ty.z6 Ty.s3 λv58 _ h=>S2 2 J<|S3 3 J<|L1 (WE [(1000003,.ptr 2004 0 0),(1000005,.ptr 2003 0 0),(1000009,.fn (.func 332) [.rptr (store_Store.Pc v32)]),(0,.fn (.yield l33) []),(1,.rptr (store_Store.Pc v32)),(4,.I v51),(8,.L iF v33),(9,.I (v33.length:Int)),(10,.I s35),(16,.L iF v52),(17,.I (v52.length:Int)),(18,.I s54),(22,.fn (.yield l33) []),(23,.I v51),(24,.I v58)] [(2003,vR (.I s55) 1),(2004,vR (.I a1) 1)]) ?_
     refine a3T hR36 J J J J J J (λe58 o59 o60=>?_)
     refine S6 1 J ?_
     refine⟨J,?_⟩
     refine jqE h (λj60=>St.of [(2000003,.ptr 2004 0 0),(2000005,.ptr 2003 0 0),(2000009,.fn (.func 332) [.rptr (store_Store.Pc v32)]),(1000000,.fn (.yield l33) []),(1000001,.rptr (store_Store.Pc v32)),(1000004,.I v51),(1000008,.L iF v33),(1000009,.I (v33.length:Int)),(1000010,.I s35),(1000016,.L iF v52),(1000017,.I (v52.length:Int)),(1000018,.I s54),(1000022,.fn (.yield l33) []),(1000023,.I v51),(1000024,.I v58)] [(2003,vR (.I j60) 1),(2004,vR (.I a1) 1)]) (λj60 h=>?_) λκ59 h=>?_
     ·refine⟨J,?_⟩
      refine L1 (WE [(1000003,.ptr 2004 0 0),(1000005,.ptr 2003 0 0),(1000009,.fn (.func 332) [.rptr (store_Store.Pc v32)]),(0,.fn (.yield l33) []),(1,.rptr (store_Store.Pc v32)),(4,.I v51),(8,.L iF v33),(9,.I (v33.length:Int)),(10,.I s35),(16,.L iF v52),(17,.I (v52.length:Int)),(18,.I s54),(25,.bool true)] [(2003,vR (.I j60) 1),(2004,vR (.I a1) 1)])<|S2 1 J ?_
      refine F8 false J (λq=>nomatch q) (λ_=>?_)
      refine a8<|S6 2 J ?_
      exact eL h W
     ·refine b9 ?_
      refine S4 3 J ?_
      refine cN h (λhc h=>?_) λhc h=>?_
      ·refine S6 3 J ?_
       exact eJ h W
      ·refine a8 ?_
       exact eJ h W
    ·refine k8 ?_
     refine b7<|b7<|g8 ?_
     have h:=xL hx56 h
     exact eJ h W
  ·refine k8 ?_
   refine b7<|b7<|g8<|b3U ?_
   refine .inl ⟨J,?_⟩
   have h:=xL hx40 h
   exact eJ h (WP (λl=>if l=2001 then 2003 else l))

theorem b0t{a0 a1}:PO Tryz.prog 326 [j5.Pv a0,.rptr [.I a1]] (a1J a0 a1) λr=>.bool r:=by
 refine pO Tryz.func326 λr h _ _=>?_
 unfold a1J at h
 refine S4 2 J<|S3 3 J<|b8 J (λhg=>oF J Ty.c1o J)<|b8 J (λhg=>oS (ct hg) J J Ty.a3 J)<|b8 J (λhg=>B4 J Ty.a3 J)<|b8 J (λhg=>j8 (ct hg) (ct hg) J)<|y0 J (l7 J J J (λq=>L5 q))<|S2 1 J<|a7 ?_
 cases h
 exact f1

theorem H4{a0 a1}:PO Tryz.prog 243 [.fn (.func 298) [.rptr [.L hash_Place.Pv a0]],.fn (.func 326) [.rptr [.I a1]]] (w9 a0 a1) λr=>.L j5.Pv r:=by
 refine pO Tryz.func243 λr h _ _=>?_
 refine S4 2 J<|S4 1 J ?_
 refine jq h (λj16=>St.of [(5,.ptr 2001 0 0)] [(2001,vS (.sl 912501) 1),(912501,⟨List.map j5.Pv j16,(List.map j5.Pv j16).length,true,2,true⟩)]) (λj16 h=>?_) λκ15 h=>?_
 ·refine S4 2 J ?_
  refine a7 ?_
  cases h
  exact f1
 ·refine S4 1 J ?_
  refine b9<|a2m (WPE (λl=>if l=2012 then 5 else if l=2013 then 3 else l) [(3,.ptr 2013 0 0),(5,.ptr 2012 0 0),(7,.fn (.func 298) [.rptr [.L hash_Place.Pv a0]])] [(2012,vR (.nl) 1),(2013,vR (.fn (.func 326) [.rptr [.I a1]]) 1)]) ?_
  refine a0b (fn:=Tryz.f298) (N1:=27) J Tryz.func298 J J nl J Ty.c72 J J (λl20 e21 o22 hR23=>?_)
  refine S3 1 J<|cF h a9a J J λv17 _ h=>nL J Ty.z6<|S2 1 J<|b9<|lq h (λq=>St.of [(1000003,.ptr 2013 0 0),(1000005,.ptr 2012 0 0),(1000007,.fn (.func 298) [.rptr [.L hash_Place.Pv a0]]),(0,.fn (.yield l20) []),(1,.rptr [.L hash_Place.Pv a0]),(8,.L iF v17),(9,.I (v17.length:Int)),(10,.I q.1)] [(2012,vS (.sl 912512) 1),(2013,vR (.fn (.func 326) [.rptr [.I a1]]) 1),(912512,⟨List.map j5.Pv q.2,(List.map j5.Pv q.2).length,true,2,true⟩)]) (Wk.trans (a7M (l0:=2012) (j:=0) (l:=922512) (z:=2) J J J J J) (WP (λl=>if l=912512 then 922512 else l))) λq22 x21 h hx27=>?_
  obtain⟨s19,s20⟩:=q22
  refine S4 1 J<|g5 ?_
  refine cN h (λhc h=>?_) λhc h=>?_
  ·refine a8 ?_
   refine g5<|b9<|sR<|iL h J J Ty.z6 Ty.s3 λv23 _ h=>S2 2 J<|S3 2 J<|cA h a3A J J λv24 _ h=>S2 5 J<|S3 3 J<|y0 J (m7 (cs:=[.I v23,.I v24.1]) J Ty.c8k Ty.c0M J J J)<|L1 (WPE (λl=>if l=2021 then 912512 else l) [(1000003,.ptr 2013 0 0),(1000005,.ptr 2012 0 0),(1000007,.fn (.func 298) [.rptr [.L hash_Place.Pv a0]]),(0,.fn (.yield l20) []),(1,.rptr [.L hash_Place.Pv a0]),(8,.L iF v17),(9,.I (v17.length:Int)),(10,.I s19),(20,.fn (.yield l20) []),(23,.agg [.I v23,.I v24.1])] [(2012,vS (.sl 2021) 1),(2021,⟨List.map j5.Pv s20,(List.map j5.Pv s20).length,true,2,true⟩),(2013,vR (.fn (.func 326) [.rptr [.I a1]]) 1)]) ?_
   refine a3T hR23 J J J J J J (λe30 o31 o32=>?_)
   refine S6 2 J ?_
   refine⟨J,?_⟩
   refine jqE h (λj28=>St.of [(2000003,.ptr 2013 0 0),(2000005,.ptr 2012 0 0),(2000007,.fn (.func 298) [.rptr [.L hash_Place.Pv a0]]),(1000000,.fn (.yield l20) []),(1000001,.rptr [.L hash_Place.Pv a0]),(1000008,.L iF v17),(1000009,.I (v17.length:Int)),(1000010,.I s19),(1000020,.fn (.yield l20) []),(1000023,.agg [.I v23,.I v24.1])] [(2012,vS (.sl 15) 1),(15,⟨List.map j5.Pv j28,(List.map j5.Pv j28).length,true,2,true⟩),(2013,vR (.fn (.func 326) [.rptr [.I a1]]) 1)]) (λj28 h=>?_) λκ27 h=>?_
   ·refine⟨J,?_⟩
    refine L1 (WPE (λl=>if l=2022 then 15 else l) [(1000003,.ptr 2013 0 0),(1000005,.ptr 2012 0 0),(1000007,.fn (.func 298) [.rptr [.L hash_Place.Pv a0]]),(0,.fn (.yield l20) []),(1,.rptr [.L hash_Place.Pv a0]),(8,.L iF v17),(9,.I (v17.length:Int)),(10,.I s19),(24,.bool true)] [(2012,vS (.sl 2022) 1),(2022,⟨List.map j5.Pv j28,(List.map j5.Pv j28).length,true,2,true⟩),(2013,vR (.fn (.func 326) [.rptr [.I a1]]) 1)])<|S2 1 J ?_
    refine F8 false J (λq=>nomatch q) (λ_=>?_)
    refine a8<|S6 2 J ?_
    exact eL h (Wk.trans (l4 _ [2022]) (WP (λl=>if l=912512 then 2022 else l)))
   ·refine b9 ?_
    refine S3 2 J<|cA h b0t J J λv29 _ h=>yN ?_
    refine cN h (λhc h=>?_) λhc h=>?_
    ·refine S5 2 J ?_
     refine y0 J (M3 (f:=j5.Pv) (l:=[(⟨v23,v24.1⟩:j5)]) J Ty.b7G Ty.c22 Ty.c0M J J nl J J)<|s6 h λv30 hv37 h=>L9 J (I8 (f:=j5.Pv) hv37 J J J J J J (.inl ⟨_,J,J⟩) Ty.b7G Ty.c22 Ty.c7M Ty.c0M J (λ_=>J)) J J J<|S2 1 J ?_
     exact eJ h (Wk.trans (l4 _ [15]) W)
    ·refine a8 ?_
     exact eJ h (Wk.trans (l4 _ [2021]) (WP (λl=>if l=15 then 2021 else l)))
  ·refine k8 ?_
   refine b7<|b7<|g8 ?_
   refine .inl ⟨J,?_⟩
   have h:=xL hx27 h
   exact eJ h (Wk.trans (l4 _ [912512]) (WP (λl=>if l=2001 then 2012 else if l=912501 then 912512 else l)))

theorem b2a{a0 a1}:PO Tryz.prog 302 [.L hash_Place.Pv a0,.I a1] (a3w a0 a1) λr=>.I r:=by
 refine pO Tryz.func302 λr h _ _=>?_
 refine S4 2 J<|S3 1 J<|cF h a6k J J λv1 _ h=>S1 1 J<|s6 h λv2 hv2 h=>ycL J (y8 J H4 J hv2) J<|nL J Ty.b7G<|S2 1 J<|a7 ?_
 cases h
 exact f1

theorem b3e{a0 a1 a2}:PO Tryz.prog 251 [store_Store.Pv a0,.L hash_Place.Pv a1,.I a2] (a3R a0 a1 a2) λr=>.I r:=by
 refine pO Tryz.func251 λr h _ _=>?_
 refine S4 2 J<|S3 2 J<|cA h b8p J J λv1 _ h=>S1 2 J<|cA h b2a J J λv2 _ h=>S2 2 J<|a7 ?_
 cases h
 exact f1

theorem b3Z{a0 a1 a2}:PO Tryz.prog 172 [store_Store.Pv a0,.L hash_Place.Pv a1,.I a2] (a5K a0 a1 a2) λr=>.I r:=by
 refine pO Tryz.func172 λr h _ _=>?_
 refine S4 2 J<|S3 2 J<|cF h A6 J J λv1 _ h=>S2 6 J<|g5<|S4 2 J ?_
 refine cN h (λhc h=>?_) λhc h=>?_
 ·refine S4 1 J ?_
  refine a7 ?_
  cases h
  exact f1
 ·refine a8 ?_
  refine dr [] Ty.mix (by kernel_rfl) (by kernel_rfl)<|S7 5 J<|s6 h λv2 hv2 h=>d2 J (D3 J b3e J hv2) J<|S8 2 J<|a7 ?_
  cases h
  exact f1

theorem b50{a0 a1}:PO Tryz.prog 252 [.L iF a0,.I a1] (a7F a0 a1) λr=>.I r:=by
 refine pO Tryz.func252 λr h _ _=>?_
 refine S4 2 J<|S4 2 J ?_
 refine jq h (λj11=>St.of [(5,.ptr 2001 0 0)] [(2001,vR (.I j11) 1)]) (λj11 h=>?_) λκ10 h=>?_
 ·refine S4 2 J ?_
  refine a7 ?_
  cases h
  exact f1
 ·refine S3 1 J ?_
  refine cF h b0f J J λv12 _ h=>yN<|b9<|a2m (WPE (λl=>if l=2003 then 5 else if l=2004 then 3 else l) [(3,.ptr 2004 0 0),(5,.ptr 2003 0 0),(8,.fn (.func 316) [.rptr [.L iF v12]])] [(2003,vR (.I 0) 1),(2004,vR (.I a1) 1)]) ?_
  refine a0b (fn:=Tryz.f316) (N1:=20) J Tryz.func316 J J nl J Ty.c74 J J (λl17 e18 o19 hR20=>?_)
  refine S3 1 J<|nL J Ty.z6<|S2 1 J<|b9<|lq h (λq=>St.of [(1000003,.ptr 2004 0 0),(1000005,.ptr 2003 0 0),(1000008,.fn (.func 316) [.rptr [.L iF v12]]),(0,.fn (.yield l17) []),(5,.L iF v12),(6,.I (v12.length:Int)),(7,.I q.1)] [(2003,vR (.I q.2) 1),(2004,vR (.I a1) 1)]) W λq17 x16 h hx23=>?_
  obtain⟨s14,s15⟩:=q17
  refine S4 1 J<|g5 ?_
  refine cN h (λhc h=>?_) λhc h=>?_
  ·refine a8 ?_
   refine g5<|b9<|sR<|iL h J J Ty.z6 Ty.s3 λv18 _ h=>S2 2 J<|S3 3 J<|b8 J (λhg=>om (d:=.fn (.yield l17) []) J)<|b8 J (λhg=>mI J) ?_
   rcases Bool.eq_false_or_eq_true ((v18 != 0)==true) with hg25 | hg25
   ·have h:=ifT h hg25
    refine L1 (WE [(1000003,.ptr 2004 0 0),(1000005,.ptr 2003 0 0),(1000008,.fn (.func 316) [.rptr [.L iF v12]]),(0,.fn (.yield l17) []),(5,.L iF v12),(6,.I (v12.length:Int)),(7,.I s14),(13,.bool (v18 != 0)),(14,.fn (.yield l17) []),(15,.I v18)] [(2003,vR (.I s15) 1),(2004,vR (.I a1) 1)]) ?_
    refine a3T hR20 (congrArg some hg25) J J J J J (λe26 o27 o28=>?_)
    refine S6 1 J ?_
    refine⟨J,?_⟩
    refine jqE h (λj20=>St.of [(2000003,.ptr 2004 0 0),(2000005,.ptr 2003 0 0),(2000008,.fn (.func 316) [.rptr [.L iF v12]]),(1000000,.fn (.yield l17) []),(1000005,.L iF v12),(1000006,.I (v12.length:Int)),(1000007,.I s14),(1000013,.bool (v18 != 0)),(1000014,.fn (.yield l17) []),(1000015,.I v18)] [(2003,vR (.I j20) 1),(2004,vR (.I a1) 1)]) (λj20 h=>?_) λκ19 h=>?_
    ·refine⟨J,?_⟩
     refine L1 (WE [(1000003,.ptr 2004 0 0),(1000005,.ptr 2003 0 0),(1000008,.fn (.func 316) [.rptr [.L iF v12]]),(0,.fn (.yield l17) []),(5,.L iF v12),(6,.I (v12.length:Int)),(7,.I s14),(13,.bool (v18 != 0)),(16,.bool true)] [(2003,vR (.I j20) 1),(2004,vR (.I a1) 1)])<|b8 J (λhg=>a0C J J)<|y0 J (l7 J J J (λq=>L5 q))<|yN ?_
     refine cN h (λhc h=>?_) λhc h=>?_
     ·refine a7 ?_
      refine .inl ⟨J,?_⟩
      have h:=xL hx23 h
      exact eJ h (WP (λl=>if l=2001 then 2003 else l))
     ·refine a8 ?_
      refine S6 2 J ?_
      exact eL h W
    ·refine b9 ?_
     refine S4 3 J ?_
     refine cN h (λhc h=>?_) λhc h=>?_
     ·refine S6 3 J ?_
      exact eJ h W
     ·refine a8 ?_
      exact eJ h W
   ·have h:=ifF h hg25
    refine a1f (congrArg some hg25)<|a1f (congrArg some hg25)<|y0 J (a7i J J hg25)<|yN ?_
    refine F8 false J (λq=>nomatch q) (λ_=>?_)
    refine a8<|S6 2 J ?_
    exact eL h W
  ·refine k8 ?_
   refine b7<|b7<|g8 ?_
   refine .inl ⟨J,?_⟩
   have h:=xL hx23 h
   exact eJ h (WP (λl=>if l=2001 then 2003 else l))

theorem b3M{a0 a1}:PO Tryz.prog 173 [.L iF a0,.I a1] (a5u a0 a1) λr=>.I r:=by
 refine pO Tryz.func173 λr h _ _=>?_
 refine S4 1 J<|S3 2 J<|cA h b50 J J λv1 _ h=>S2 1 J<|a7 ?_
 cases h
 exact f1

theorem b1A{a0 a1 a2 a3 a4}:PO Tryz.prog 170 [.I a0,store_Obj.Pv a1,.rptr (store_Store.Pc a2),.rptr [.L hash_Place.Pv a3],.rptr [.L iF a4]] (a2x a0 a1 a2 a3 a4) λr=>.bool r:=by
 refine pO Tryz.func170 λr h _ _=>?_
 unfold a2x at h
 refine S4 2 J<|dr [] Ty.mix (by kernel_rfl) (by kernel_rfl)<|S7 2 J<|s6 h λv1 hv1 h=>d2 J (D3 J b16 J hv1) J<|S7 2 J<|D0 J (λhg=>b6P J Ty.a26 Ty.s26 nl J) J<|D0 J (λhg=>B4 J Ty.a29 J) J<|r9 J (λhg _ hN=>mI J) J<|s6 h λv2 hv2 h=>a6i J (λhg=>D3 J b3Z (A1 (ct hg) (A1 (ct hg) (A1 (ct hg) J))) (D2 hv2 hg)) J<|D0 J (λhg=>B4 J Ty.a27 J) J<|r9 J (λhg _ hN=>mI J) J<|s6 h λv3 hv3 h=>a6i J (λhg=>D3 J b3M (A1 (ct hg) (A1 (ct hg) J)) (D2 hv3 hg)) J<|r9 J (λhg _ hN=>j8 (ct hg) (ct hg) J) J<|d7 J (λ_ hN=>l7 J J J (λq=>L5 q)) J<|S8 1 J<|a7 ?_
 cases h
 exact f1

theorem b3Y{a0 a1 a2}:PO Tryz.prog 93 [store_Store.Pv a0,.L hash_Place.Pv a1,.L iF a2] (a5J a0 a1 a2) λr=>.bool r:=by
 refine pO Tryz.func93 λr h _ _=>?_
 refine S4 4 J<|S3 1 J<|y0 J (m7 (cs:=[.fn (.func 170) [.ptr 3 0 0,.ptr 4 0 0,.ptr 5 0 0]]) J Ty.c95 Ty.d0o J J J)<|L1 (a2p 9 (d':=.agg [.fn (.func 170) [.ptr 3 0 0,.ptr 4 0 0,.ptr 5 0 0]]) J)<|S2 2 J<|S3 2 J<|L1 (WPE (λl=>if l=2001 then 5 else if l=2002 then 4 else if l=2003 then 3 else l) [(10,.agg [.fn (.func 170) [.ptr 2003 0 0,.ptr 2002 0 0,.ptr 2001 0 0]]),(11,store_Store.Pv a0)] [(2001,vR (.L iF a2) 1),(2002,vR (.L hash_Place.Pv a1) 1),(2003,vR (store_Store.Pv a0) 3)]) ?_
 refine b7y (fn:=Tryz.f174) (N1:=34) J J Tryz.func174 J Ty.c9S J J nl (λe1 o2=>?_)
 refine jqR h (λj36=>St.of [(1000010,.agg [.fn (.func 170) [.ptr 2003 0 0,.ptr 2002 0 0,.ptr 2001 0 0]]),(1000011,store_Store.Pv a0),(4,.sl 910005)] [(910005,⟨List.map iF j36,(List.map iF j36).length,true,1,true⟩),(2001,vR (.L iF a2) 1),(2002,vR (.L hash_Place.Pv a1) 1),(2003,vR (store_Store.Pv a0) 3)]) (λj36 h=>dup ?_) λκ35 h=>?_
 ·refine⟨J,[.sl 910005],⟨J,tr⟩,?_⟩
  refine L1 (WPE (λl=>if l=2004 then 910005 else l) [(12,.sl 2004)] [(2004,⟨List.map iF j36,(List.map iF j36).length,true,1,true⟩)])<|y0 J (b9a (f:=iF) J J J Ty.z6)<|S2 2 J<|a7 ?_
  cases h
  exact f1
 ·refine S4 3 J ?_
  refine S4 1 J ?_
  refine jq h (λj54=>St.of [(1000010,.agg [.fn (.func 170) [.ptr 2003 0 0,.ptr 2002 0 0,.ptr 2001 0 0]]),(1000011,store_Store.Pv a0),(5,.sl 910005)] [(910005,⟨List.map iF j54,(List.map iF j54).length,true,1,true⟩),(2001,vR (.L iF a2) 1),(2002,vR (.L hash_Place.Pv a1) 1),(2003,vR (store_Store.Pv a0) 3)]) (λj54 h=>?_) λκ53 h=>?_
  ·refine S4 2 J ?_
   refine a7 ?_
   exact eJ h (Wk.trans (l4 _ [910005]) W)
  ·refine S3 1 J ?_
   refine cF h a0i J J λv55 _ h=>nL J Ty.z6<|S2 1 J<|b9<|lq h (λq=>St.of [(1000010,.agg [.fn (.func 170) [.ptr 2003 0 0,.ptr 2002 0 0,.ptr 2001 0 0]]),(1000011,store_Store.Pv a0),(2,.ptr 2 0 0),(3,.ptr 3 0 0),(5,.sl 910005),(11,.L iF v55),(12,.I (v55.length:Int)),(13,.I q.1)] [(3,vR (store_Store.Pv a0) 3),(2,vS (.agg [.fn (.func 170) [.ptr 2003 0 0,.ptr 2002 0 0,.ptr 2001 0 0]]) 1),(2001,vR (.L iF a2) 1),(2002,vR (.L hash_Place.Pv a1) 1),(2003,vR (store_Store.Pv a0) 3),(910005,⟨List.map iF q.2,(List.map iF q.2).length,true,1,true⟩)]) (Wk.trans (I0 (t:=5) (l:=920005) (z:=1) J J) (WP (λl=>if l=910005 then 920005 else l))) λq60 x59 h hx48=>?_
   obtain⟨s57,s58⟩:=q60
   refine S4 1 J<|g5 ?_
   refine cN h (λhc h=>?_) λhc h=>?_
   ·refine a8 ?_
    refine jq h (λj66=>St.of [(1000010,.agg [.fn (.func 170) [.ptr 2003 0 0,.ptr 2002 0 0,.ptr 2001 0 0]]),(1000011,store_Store.Pv a0),(2,.ptr 2 0 0),(3,.ptr 3 0 0),(5,.sl 31),(11,.L iF v55),(12,.I (v55.length:Int)),(13,.I s57)] [(31,⟨List.map iF j66,(List.map iF j66).length,true,1,true⟩),(3,vR (store_Store.Pv a0) 3),(2,vS (.agg [.fn (.func 170) [.ptr 2003 0 0,.ptr 2002 0 0,.ptr 2001 0 0]]) 1),(2001,vR (.L iF a2) 1),(2002,vR (.L hash_Place.Pv a1) 1),(2003,vR (store_Store.Pv a0) 3)]) (λj66 h=>?_) λκ65 h=>?_
    ·refine S6 2 J ?_
     exact eL h (Wk.trans (l4 _ [31]) (WP (λl=>if l=910005 then 31 else l)))
    ·refine b9 ?_
     refine sR<|iL h J J Ty.z6 Ty.s3 λv67 _ h=>S2 2 J<|S3 2 J<|cF h A6 J J λv68 _ h=>S2 6 J<|S3 4 J<|cA h b1A J J λv69 _ h=>yN ?_
     refine cN h (λhc h=>?_) λhc h=>?_
     ·refine S5 2 J ?_
      refine y0 J (M3 (f:=iF) (l:=[v67]) J Ty.z6 Ty.s3 Ty.z3 J J nl J J)<|s6 h λv70 hv57 h=>L9 J (I8 (f:=iF) hv57 J J J J J J (.inl ⟨_,J,J⟩) Ty.z6 Ty.s3 Ty.b3 Ty.z3 J (λ_=>J)) J J J<|S2 1 J ?_
      exact eJ h (Wk.trans (l4 _ [31]) W)
     ·refine a8 ?_
      exact eJ h (Wk.trans (l4 _ [910005]) (WP (λl=>if l=31 then 910005 else l)))
   ·refine k8 ?_
    refine b7<|b7<|g8 ?_
    have h:=xL hx48 h
    exact eJ h (Wk.trans (l4 _ [910005]) W)

theorem b3G{a0}:PO Tryz.prog 38 [hold_Heap.Pv a0] (a48 a0) λr=>.bool r:=by
 refine pO Tryz.func38 λr h _ _=>?_
 refine S4 2 J<|g5<|S3 1 J<|cA h a9f J J λv1 _ h=>S2 1 J ?_
 refine cN h (λhc h=>?_) λhc h=>?_
 ·refine S4 1 J ?_
  refine a7 ?_
  cases h
  exact f1
 ·refine a8 ?_
  refine jq h (λ_=>St.of [(1,.ptr 1 0 0)] [(1,vR (hold_Heap.Pv a0) 8)]) (λq9 h=>?_) λκ8 h=>?_
  ·refine dr [] Ty.mix (by kernel_rfl) (by kernel_rfl) ?_
   refine S7 5 J<|s6 h λv10 hv11 h=>d2f J (y8 J b3F J hv11) J<|s6 h λv11 hv12 h=>d2 J (D3 J b3Y J hv12) J<|S8 1 J<|a7 ?_
   cases h
   exact f1
  ·refine sR ?_
   refine y0 J (M3 (f:=λn:Nat=>PV.fn (.func n) []) (l:=[88,89,90,91,92]) J Ty.c53 Ty.s37 Ty.z37 J J nl J J)<|L1 (c7q 8 (d':=.lst true (List.map fvE [(some 88),(some 89),(some 90),(some 91),(some 92)])) J J J)<|nL J Ty.c53<|S2 1 J<|b9<|lq h (λs13=>St.of [(1,.ptr 1 0 0),(8,.lst true (List.map fvE [(some 88),(some 89),(some 90),(some 91),(some 92)])),(9,.I ([(some 88),(some 89),(some 90),(some 91),(some 92)].length:Int)),(10,.I s13)] [(1,vR (hold_Heap.Pv a0) 8)]) W λs13 x14 h hx15=>S4 1 J<|g5 ?_
   refine cN h (λhc h=>?_) λhc h=>?_
   ·refine a8 ?_
    refine g5<|b9<|sR<|iL h J J Ty.c53 Ty.s37 λv15 _ h=>S2 2 J<|S3 2 J ?_
    obtain⟨v16,hv17,h⟩:=a5N h
    obtain⟨n17,he18,hk19,hp20⟩:=b70 hv17
    refine L1 (b9D 14 J he18)<|y0 J (b2B J hk19 J hp20)<|S2 1 J ?_
    refine cN h (λhc h=>?_) λhc h=>?_
    ·refine S4 1 J ?_
     refine a7 ?_
     have h:=xL hx15 h
     cases h
     exact f1
    ·refine a8 ?_
     refine S6 2 J ?_
     exact eL h W
   ·refine k8 ?_
    refine b7<|b7<|g8 ?_
    have h:=xL hx15 h
    exact eJ h W

theorem Y6:PO Tryz.prog 11 [] (Q0) λr=>.bool r:=by
 refine pO Tryz.func11 λr h _ _=>?_
 refine S4 1 J<|sR<|cF h b6C J J λv1 _ h=>y0 J (m7 (cs:=[.I 1,.I 0,.I 1,.I (-1)]) J Ty.p36 Ty.z36 J J J)<|y0 J (m7 (cs:=[.I 2,.I 1,.I 0,.I 0]) J Ty.p36 Ty.z36 J J J)<|y0 J (m7 (cs:=[.I 6,.I 2,.I 1,.I 0]) J Ty.p36 Ty.z36 J J J)<|y0 J (m7 (cs:=[.I 10,.I 0,.I 1,.I 0]) J Ty.p36 Ty.z36 J J J)<|y0 J (m7 (cs:=[.I 3,.I 0,.I 0,.I 0]) J Ty.p36 Ty.z36 J J J)<|y0 J (m7 (cs:=[.I 7,.I 3,.I 2,.I 0]) J Ty.p36 Ty.z36 J J J)<|y0 J (m7 (cs:=[.I 3,.I 1,.I 0,.I 0]) J Ty.p36 Ty.z36 J J J)<|y0 J (m7 (cs:=[.I 3,.I 3,.I 0,.I 0]) J Ty.p36 Ty.z36 J J J)<|y0 J (M3 (f:=code_Op.Pv) (l:=[(⟨1,0,1,(-1)⟩:code_Op),(⟨2,1,0,0⟩:code_Op),(⟨6,2,1,0⟩:code_Op),(⟨10,0,1,0⟩:code_Op),(⟨3,0,0,0⟩:code_Op),(⟨7,3,2,0⟩:code_Op),(⟨3,1,0,0⟩:code_Op),(⟨3,3,0,0⟩:code_Op)]) J Ty.e61 Ty.s36 Ty.z36 J J nl J J)<|cF h a6x J J λv2 _ h=>S2 6 J<|S3 1 J<|y0 J (m7 (cs:=[.I 7,.I 3,.I 2,.I 0]) J Ty.p36 Ty.z36 J J J)<|cF h E3 J J λv3 _ h=>S2 8 J<|S3 1 J<|y0 J (m7 (cs:=[.I 4,.I 0,.I 0,.I 0]) J Ty.p36 Ty.z36 J J J)<|cF h E3 J J λv4 _ h=>S2 8 J<|S3 1 J<|y0 J (m7 (cs:=[.I 11,.I 0,.I 0,.I 0]) J Ty.p36 Ty.z36 J J J)<|cF h E3 J J λv5 _ h=>S2 8 J<|S3 1 J<|nL J Ty.z6<|S1 2 J<|b8 J (λhg=>om (d:=.L iF v2.2) J)<|s6 h λv6 hv6 h=>b8 J (λhg=>A3 (f:=iF) (cs:=[.I v6]) (D2 hv6 hg) (ct hg) J Ty.z6 Ty.s3 J J)<|b8 J (λhg=>B4 (ct hg) Ty.a3 J)<|b8 J (λhg=>j8 (ct hg) J J)<|y0 J (l7 J J J (λq=>L5 q))<|S1 1 J<|b8 J (λhg=>om (d:=.L iF v2.2) J)<|s6 h λv7 hv7 h=>b8 J (λhg=>A3 (f:=iF) (cs:=[.I v7]) (D2 hv7 hg) (ct hg) J Ty.z6 Ty.s3 J J)<|b8 J (λhg=>B4 (ct hg) Ty.a3 J)<|b8 J (λhg=>j8 (ct hg) J J)<|y0 J (l7 J J J (λq=>L5 q))<|S1 1 J<|b8 J (λhg=>om (d:=.L iF v2.2) J)<|s6 h λv8 hv8 h=>b8 J (λhg=>A3 (f:=iF) (cs:=[.I v8]) (D2 hv8 hg) (ct hg) J Ty.z6 Ty.s3 J J)<|b8 J (λhg=>B4 (ct hg) Ty.a3 J)<|b8 J (λhg=>j8 (ct hg) J J)<|y0 J (l7 J J J (λq=>L5 q))<|S1 1 J<|b8 J (λhg=>om (d:=.L iF v2.2) J)<|s6 h λv9 hv9 h=>b8 J (λhg=>A3 (f:=iF) (cs:=[.I v9]) (D2 hv9 hg) (ct hg) J Ty.z6 Ty.s3 J J)<|b8 J (λhg=>B4 (ct hg) Ty.a3 J)<|b8 J (λhg=>j8 (ct hg) J J)<|y0 J (l7 J J J (λq=>L5 q))<|S1 1 J<|b8 J (λhg=>om (d:=.L iF v2.2) J)<|s6 h λv10 hv10 h=>b8 J (λhg=>A3 (f:=iF) (cs:=[.I v10]) (D2 hv10 hg) (ct hg) J Ty.z6 Ty.s3 J J)<|b8 J (λhg=>B4 (ct hg) Ty.a3 J)<|b8 J (λhg=>j8 (ct hg) J J)<|y0 J (l7 J J J (λq=>L5 q))<|S1 1 J<|b8 J (λhg=>om (d:=.L iF v2.2) J)<|s6 h λv11 hv11 h=>b8 J (λhg=>A3 (f:=iF) (cs:=[.I v11]) (D2 hv11 hg) (ct hg) J Ty.z6 Ty.s3 J J)<|b8 J (λhg=>B4 (ct hg) Ty.a3 J)<|b8 J (λhg=>j8 (ct hg) J J)<|y0 J (l7 J J J (λq=>L5 q))<|S1 1 J<|b8 J (λhg=>om (d:=.L iF v2.2) J)<|s6 h λv12 hv12 h=>b8 J (λhg=>A3 (f:=iF) (cs:=[.I v12]) (D2 hv12 hg) (ct hg) J Ty.z6 Ty.s3 J J)<|b8 J (λhg=>B4 (ct hg) Ty.a3 J)<|b8 J (λhg=>j8 (ct hg) J J)<|y0 J (l7 J J J (λq=>L5 q))<|S1 1 J<|b8 J (λhg=>mI J)<|b8 J (λhg=>j8 (ct hg) J J)<|y0 J (l7 J J J (λq=>L5 q))<|S1 1 J<|b8 J (λhg=>mI J)<|b8 J (λhg=>j8 (ct hg) J J)<|y0 J (l7 J J J (λq=>L5 q))<|S1 1 J<|b8 J (λhg=>mI J)<|b8 J (λhg=>j8 (ct hg) J J)<|y0 J (l7 J J J (λq=>L5 q))<|S1 1 J<|b8 J (λhg=>mI J)<|b8 J (λhg=>j8 (ct hg) J J)<|y0 J (l7 J J J (λq=>L5 q))<|S1 1 J<|b8 J (λhg=>oF J Ty.b6q J)<|b8 J (λhg=>oF (ct hg) Ty.c1r J)<|b8 J (λhg=>oS (ct hg) J J Ty.a30 J)<|b8 J (λhg=>M0 (f:=task_Task.Pv) (ct hg) Ty.e30)<|b8 J (λhg=>j8 (ct hg) J J)<|y0 J (l7 J J J (λq=>L5 q))<|S1 1 J<|b8 J (λhg=>oF J Ty.c1s J)<|b8 J (λhg=>oL (ct hg) J J Ty.a26 Ty.s26 nl J)<|s6 h λv13 hv13 h=>c3o J (λhg=>y8 J a0i (A1 (ct hg) J) (D2 hv13 hg))<|b8 J (λhg=>M0 (f:=iF) (ct hg) Ty.z6)<|b8 J (λhg=>j8 (ct hg) J J)<|y0 J (l7 J J J (λq=>L5 q))<|S1 1 J<|b8 J (λhg=>oL J J J Ty.U6 Ty.O0 nl J)<|s6 h λv14 hv14 h=>b8 J (λhg=>D3 J N4 (A1 (ct hg) (A1 J J)) (D2 hv14 hg))<|b8 J (λhg=>j8 (ct hg) J J)<|y0 J (l7 J J J (λq=>L5 q))<|S1 1 J<|b8 J (λhg=>oL J J J Ty.U6 Ty.O0 nl J)<|s6 h λv15 hv15 h=>b8 J (λhg=>D3 J b3G (A1 (ct hg) J) (D2 hv15 hg))<|y0 J (l7 J J J (λq=>L5 q))<|S2 1 J<|a7 ?_
 cases h
 exact f1

theorem b2O{a0 a1}:PO Tryz.prog 229 [.L iF a0,.I a1] (a7m a0 a1) λr=>.bool r:=by
 refine pO Tryz.func229 λr h _ _=>?_
 refine S4 1 J<|S3 2 J<|cA h a2t J J λv1 _ h=>S2 2 J<|a7 ?_
 cases h
 exact f1

theorem a9D{a0 a1 a2}:PO Tryz.prog 226 [.L iF a0,.L iF a1,.bool a2] (a4A a0 a1 a2) λr=>.L iF r:=by
 refine pO Tryz.func226 λr h _ _=>?_
 refine S4 1 J<|sR<|y0 J (F7 J Ty.z6 Ty.s3)<|S2 1 J ?_
 refine jq h (λj15=>St.of [(7,.sl 910007)] [(910007,⟨List.map iF j15,(List.map iF j15).length,true,1,true⟩)]) (λj15 h=>?_) λκ14 h=>?_
 ·refine S4 2 J ?_
  refine a7 ?_
  cases h
  exact f1
 ·refine S4 1 J ?_
  refine b9<|lq h (λq=>St.of [(0,.L iF a0),(1,.L iF a1),(2,.bool a2),(7,.sl 910007),(8,.I q.1)] [(910007,⟨List.map iF q.2,(List.map iF q.2).length,true,1,true⟩)]) (Wk.trans (I0 (t:=7) (l:=920007) (z:=1) J J) (WP (λl=>if l=910007 then 920007 else l))) λq20 x19 h hx14=>?_
  obtain⟨s17,s18⟩:=q20
  refine g5<|S3 2 J<|nL J Ty.z6<|S2 1 J ?_
  refine cN h (λhc h=>?_) λhc h=>?_
  ·refine a8 ?_
   refine jq h (λj25=>St.of [(0,.L iF a0),(1,.L iF a1),(2,.bool a2),(7,.sl 30),(8,.I s17)] [(30,⟨List.map iF j25,(List.map iF j25).length,true,1,true⟩)]) (λj25 h=>?_) λκ24 h=>?_
   ·refine S6 3 J ?_
    exact eL h (Wk.trans (l4 _ [30]) (WP (λl=>if l=910007 then 30 else l)))
   ·refine b9 ?_
    refine S3 3 J<|iL h J J Ty.z6 Ty.s3 λv26 hv19 h=>S1 1 J<|cA h b2O J J λv27 _ h=>S1 1 J<|y0 J (c8h J J Ty.u4 J)<|yN ?_
    refine cN h (λhc h=>?_) λhc h=>?_
    ·refine S5 3 J ?_
     refine y0 J (A3 (f:=iF) (cs:=[.I v26]) hv19 J J Ty.z6 Ty.s3 J J)<|S1 1 J<|y0 J (M3 (f:=iF) (l:=[v26]) J Ty.z6 Ty.s3 Ty.z3 J J nl J J)<|s6 h λv28 hv21 h=>L9 J (I8 (f:=iF) hv21 J J J J J J (.inl ⟨_,J,J⟩) Ty.z6 Ty.s3 Ty.b3 Ty.z3 J (λ_=>J)) J J J<|S2 1 J ?_
     exact eJ h (Wk.trans (l4 _ [30]) W)
    ·refine a8 ?_
     exact eJ h (Wk.trans (l4 _ [910007]) (WP (λl=>if l=30 then 910007 else l)))
  ·refine k8 ?_
   refine b7<|b7<|g8 ?_
   have h:=xL hx14 h
   exact eJ h (Wk.trans (l4 _ [910007]) W)

theorem b1f{a0 a1}:PO Tryz.prog 148 [j1.Pv a0,.L iF a1] (a4z a0 a1) λr=>.L iF r:=by
 refine pO Tryz.func148 λr h _ _=>?_
 refine S4 2 J<|S3 1 J<|cF h a0D J J λv1 _ h=>S2 1 J<|S3 2 J<|cF h a9D J J λv2 _ h=>S2 1 J ?_
 refine jq h (λj51=>St.of [(6,.L iF j51)] []) (λj51 h=>?_) λκ50 h=>?_
 ·refine S4 2 J ?_
  refine a7 ?_
  cases h
  exact f1
 ·refine S4 1 J ?_
  refine b9<|lq h (λq=>St.of [(2,.ptr 2 0 0),(5,.L iF v1),(6,.L iF q.1),(7,.I q.2)] [(2,vR (j1.Pv a0) 3)]) W λq56 x55 h hx40=>?_
  obtain⟨s53,s54⟩:=q56
  refine g5<|S3 2 J<|nL J Ty.z6<|S2 1 J ?_
  refine cN h (λhc h=>?_) λhc h=>?_
  ·refine a8 ?_
   refine jq h (λj78=>St.of [(2,.ptr 2 0 0),(5,.L iF v1),(6,.L iF j78),(7,.I s54)] [(2,vR (j1.Pv a0) 3)]) (λj78 h=>?_) λκ77 h=>?_
   ·refine S6 3 J ?_
    exact eL h W
   ·refine b9 ?_
    refine sR<|y0 J (F7 J Ty.z6 Ty.s3)<|S1 1 J<|s6 h λv79 hv57 h=>y1 J (b2A (f:=iF) hv57 J J (.inl ⟨_,J,J⟩) Ty.z6 Ty.s3 Ty.b3 Ty.z3 J (λ_=>J)) J<|S2 1 J ?_
    refine jq h (λj89=>St.of [(2,.ptr 2 0 0),(5,.L iF v1),(7,.I s54),(8,.sl 23)] [(23,⟨List.map iF j89,(List.map iF j89).length,true,1,true⟩),(2,vR (j1.Pv a0) 3)]) (λj89 h=>?_) λκ88 h=>?_
    ·refine S5 2 J ?_
     obtain⟨v90,hv65,h⟩:=a5N h
     refine ycL J (y8 J a9D J hv65) J<|S2 1 J ?_
     exact eJ h W
    ·refine S4 1 J ?_
     refine b9<|lq h (λq=>St.of [(2,.ptr 2 0 0),(5,.L iF v1),(6,.L iF s53),(7,.I s54),(8,.sl 23),(9,.I q.1)] [(23,⟨List.map iF q.2,(List.map iF q.2).length,true,1,true⟩),(2,vR (j1.Pv a0) 3)]) (Wk.trans (l4 _ [23]) W) λq95 x94 h hx68=>?_
     obtain⟨s92,s93⟩:=q95
     refine g5<|S3 2 J<|nL J Ty.z6<|S2 1 J ?_
     refine cN h (λhc h=>?_) λhc h=>?_
     ·refine a8 ?_
      refine g5<|b9<|a6A [] Ty.mix (by kernel_rfl) (by kernel_rfl)<|S7 4 J<|s6 h λv96 hv69 h=>d0 J (A3 (f:=iF) (cs:=[.I v96]) hv69 J J Ty.z6 Ty.s3 J J) J<|S7 1 J<|s6 h λv97 hv70 h=>d2f J (y8 J b2N J hv70) J<|s6 h λv98 hv71 h=>d3a J (I8 (f:=iF) hv71 J J J J J J (.inl ⟨_,J,J⟩) Ty.z6 Ty.s3 Ty.b3 Ty.z3 J (λ_=>J)) J J J J J<|S8 1 J<|S6 3 J ?_
      exact eL h (Wk.trans (l4 _ [37]) (WP (λl=>if l=23 then 37 else l)))
     ·refine k8 ?_
      refine b7<|b7<|g8 ?_
      have h:=xL hx68 h
      exact eJ h (Wk.trans (l4 _ [23]) W)
  ·refine k8 ?_
   refine b7<|b7<|g8 ?_
   have h:=xL hx40 h
   exact eJ h W

theorem a9I{a0 a1}:PO Tryz.prog 228 [j1.Pv a0,.I a1] (a4B a0 a1) λr=>.bool r:=by
 refine pO Tryz.func228 λr h _ _=>?_
 refine S4 2 J<|S3 2 J<|cF h N6 J J λv1 _ h=>S2 6 J<|S4 3 J<|a7 ?_
 cases h
 exact f1

theorem b63{a0 a1 a2}:PO Tryz.prog 149 [j1.Pv a0,.L j2.Pv a1,.L iF a2] (a6F a0 a1 a2) λr=>.L iF r:=by
 refine pO Tryz.func149 λr h _ _=>?_
 refine S4 2 J<|sR<|y0 J (F7 J Ty.z6 Ty.s3)<|S2 1 J<|S3 1 J<|cF h a5p J J λv1 _ h=>S2 1 J ?_
 refine jq h (λj20=>St.of [(7,.sl 910007)] [(910007,⟨List.map iF j20,(List.map iF j20).length,true,1,true⟩)]) (λj20 h=>?_) λκ19 h=>?_
 ·refine S4 2 J ?_
  refine a7 ?_
  cases h
  exact f1
 ·refine S4 1 J ?_
  refine b9<|lq h (λq=>St.of [(2,.L iF a2),(3,.ptr 3 0 0),(7,.sl 910007),(8,.L r7.Pv v1),(9,.I q.1)] [(3,vR (j1.Pv a0) 3),(910007,⟨List.map iF q.2,(List.map iF q.2).length,true,1,true⟩)]) (Wk.trans (I0 (t:=7) (l:=920007) (z:=1) J J) (WP (λl=>if l=910007 then 920007 else l))) λq25 x24 h hx19=>?_
  obtain⟨s22,s23⟩:=q25
  refine g5<|S3 2 J<|nL J Ty.b0r<|S2 1 J ?_
  refine cN h (λhc h=>?_) λhc h=>?_
  ·refine a8 ?_
   refine jq h (λj32=>St.of [(2,.L iF a2),(3,.ptr 3 0 0),(7,.sl 51),(8,.L r7.Pv v1),(9,.I s22)] [(51,⟨List.map iF j32,(List.map iF j32).length,true,1,true⟩),(3,vR (j1.Pv a0) 3)]) (λj32 h=>?_) λκ31 h=>?_
   ·refine S6 3 J ?_
    exact eL h (Wk.trans (l4 _ [51]) (WP (λl=>if l=910007 then 51 else l)))
   ·refine b9 ?_
    refine dr [] Ty.mix (by kernel_rfl) (by kernel_rfl)<|S7 3 J<|s6 h λv33 hv26 h=>d0 J (A3 (f:=r7.Pv) (cs:=r7.Pc v33) hv26 J J Ty.b0r Ty.b3S J J) J<|S7 2 J<|s6 h λv34 hv27 h=>d2 J (D3 J a9I J hv27) J<|S7 1 J<|r9 J (λhg _ hN=>om (d:=.L iF a2) J) J<|r9 J (λhg _ hN=>om (d:=.L r7.Pv v1) J) J<|r9 J (λhg _ hN=>mI J) J<|D0 J (λhg=>A3 (f:=r7.Pv) (cs:=r7.Pc v33) hv26 (ct hg) (ct hg) Ty.b0r Ty.b3S J J) J<|r9 J (λhg _ hN=>B2 (ct hg) Ty.c6f J) J<|D0 J (λhg=>B4 (ct hg) Ty.a3 J) J<|s6 h λv35 hv28 h=>a6i J (λhg=>D3 J b2O (A1 (ct hg) (A1 (ct hg) J)) (D2 hv28 hg)) J<|d7 J (λ_ hN=>l7 J J J (λq=>L5 q)) J<|S7 1 J<|D0 J (λhg=>oL J J J Ty.a44 Ty.s44 nl J) J<|r9 J (λhg _ hN=>om (d:=.L r7.Pv v1) J) J<|r9 J (λhg _ hN=>mI J) J<|D0 J (λhg=>A3 (f:=r7.Pv) (cs:=r7.Pc v33) hv26 (ct hg) (ct hg) Ty.b0r Ty.b3S J J) J<|r9 J (λhg _ hN=>B2 (ct hg) Ty.c1m J) J<|D0 J (λhg=>B4 (ct hg) Ty.a3 J) J<|s6 h λv36 hv29 h=>a6i J (λhg=>D3 J a9I (A1 (ct hg) (A1 (ct hg) J)) (D2 hv29 hg)) J<|d7 J (λ_ hN=>l7 J J J (λq=>L5 q)) J<|a0M ?_
    refine cN h (λhc h=>?_) λhc h=>?_
    ·refine S5 3 J ?_
     refine y0 J (A3 (f:=r7.Pv) (cs:=r7.Pc v33) hv26 J J Ty.b0r Ty.b3S J J)<|S1 2 J<|y0 J (M3 (f:=iF) (l:=[v33.Val]) J Ty.z6 Ty.s3 Ty.z3 J J nl J J)<|s6 h λv37 hv30 h=>L9 J (I8 (f:=iF) hv30 J J J J J J (.inl ⟨_,J,J⟩) Ty.z6 Ty.s3 Ty.b3 Ty.z3 J (λ_=>J)) J J J<|S2 1 J ?_
     exact eJ h (Wk.trans (l4 _ [51]) W)
    ·refine a8 ?_
     exact eJ h (Wk.trans (l4 _ [910007]) (WP (λl=>if l=51 then 910007 else l)))
  ·refine k8 ?_
   refine b7<|b7<|g8 ?_
   have h:=xL hx19 h
   exact eJ h (Wk.trans (l4 _ [910007]) W)

theorem b6W{a0 a1}:PO Tryz.prog 27 [.L iF a0,.L iF a1] (a9y a0 a1) λr=>.bool r:=by
 refine pO Tryz.func27 λr h _ _=>?_
 refine S4 1 J<|g5<|S3 1 J<|nL J Ty.z6<|S1 1 J<|nL J Ty.z6<|S2 1 J ?_
 refine cN h (λhc h=>?_) λhc h=>?_
 ·refine S4 1 J ?_
  refine a7 ?_
  cases h
  exact f1
 ·refine a8 ?_
  refine jq h (λ_=>St.of [] []) (λq7 h=>?_) λκ6 h=>?_
  ·refine S4 1 J ?_
   refine a7 ?_
   cases h
   exact f1
  ·refine S4 1 J ?_
   refine b9<|lq h (λs9=>St.of [(0,.L iF a0),(1,.L iF a1),(5,.I s9)] []) W λs9 x10 h hx9=>g5<|S3 2 J<|nL J Ty.z6<|S2 1 J ?_
   refine cN h (λhc h=>?_) λhc h=>?_
   ·refine a8 ?_
    refine g5<|b9<|dr [] Ty.mix (by kernel_rfl) (by kernel_rfl)<|S7 2 J<|s6 h λv11 hv10 h=>d0 J (A3 (f:=iF) (cs:=[.I v11]) hv10 J J Ty.z6 Ty.s3 J J) J<|S7 3 J<|s6 h λv12 hv11 h=>d0 J (A3 (f:=iF) (cs:=[.I v12]) hv11 J J Ty.z6 Ty.s3 J J) J<|S8 2 J ?_
    refine cN h (λhc h=>?_) λhc h=>?_
    ·refine S4 1 J ?_
     refine a7 ?_
     have h:=xL hx9 h
     cases h
     exact f1
    ·refine a8 ?_
     refine S6 3 J ?_
     exact eL h W
   ·refine k8 ?_
    refine b7<|b7<|g8 ?_
    have h:=xL hx9 h
    exact eJ h W

theorem b3L{a0 a1 a2}:PO Tryz.prog 76 [j1.Pv a0,.L j2.Pv a1,.L iF a2] (a5q a0 a1 a2) λr=>.tup [.L iF r.1,.I r.2]:=by
 refine pO Tryz.func76 λr h _ _=>?_
 refine S4 3 J<|S3 2 J<|cF h b1f J J λv1 _ h=>S2 1 J ?_
 refine jq h (λj13=>St.of [(8,.L iF j13)] []) (λj13 h=>?_) λκ12 h=>?_
 ·refine S4 3 J ?_
  refine a7 ?_
  cases h
  exact f2
 ·refine S4 1 J ?_
  refine b9<|lq h (λq=>St.of [(1,.L j2.Pv a1),(3,.ptr 3 0 0),(8,.L iF q.1),(9,.I q.2)] [(3,vR (j1.Pv a0) 3)]) W λq18 x17 h hx13=>?_
  obtain⟨s15,s16⟩:=q18
  refine g5<|S4 2 J ?_
  refine cN h (λhc h=>?_) λhc h=>?_
  ·refine a8 ?_
   refine g5<|b9<|dr [9] Ty.mix (by kernel_rfl) (by kernel_rfl)<|S7 1 J<|d1n J (F7 J Ty.z6 Ty.s3) J<|S7 1 J<|s6 h λv19 hv14 h=>d3 J (b2A (f:=iF) hv14 J J (.inl ⟨_,J,J⟩) Ty.z6 Ty.s3 Ty.b3 Ty.z3 J (λ_=>J)) J J J<|S7 3 J<|s6 h λv20 hv15 h=>d2f J (y8 J b63 J hv15) J<|s6 h λv21 hv16 h=>d3a J (I8 (f:=iF) hv16 J J J J J J (.inl ⟨_,J,J⟩) Ty.z6 Ty.s3 Ty.b3 Ty.z3 J (λ_=>J)) J J J J J<|s6 h λv22 hv17 h=>d5f J (y8 J b1f J hv17) J J<|S8 1 J<|g5<|S3 2 J<|cA h b6W J J λv23 _ h=>yN ?_
   refine cN h (λhc h=>?_) λhc h=>?_
   ·refine S4 4 J ?_
    refine a7 ?_
    have h:=xL hx13 h
    cases h
    exact f2
   ·refine a8 ?_
    refine S6 2 J<|S6 3 J ?_
    exact eL h W
  ·refine k8 ?_
   refine b7<|b7<|g8 ?_
   have h:=xL hx13 h
   exact eJ h W

theorem b62{a0 a1 a2}:PO Tryz.prog 30 [j1.Pv a0,.L j2.Pv a1,.L iF a2] (a9H a0 a1 a2) λr=>.L iF r:=by
 refine pO Tryz.func30 λr h _ _=>?_
 refine S4 2 J<|S3 3 J<|cF h b3L J J λv1 _ h=>S2 5 J<|S4 2 J<|a7 ?_
 cases h
 exact f1

theorem w18_MachineKeeps_ok{a0 a1}:PO Tryz.prog 6 [hold_Heap.Pv a0,code_Op.Pv a1] (a1E a0 a1) λr=>.bool r:=by
 refine pO Tryz.func6 λr h _ _=>?_
 refine S4 3 J<|g5<|S3 1 J<|cA h a60 J J λv1 _ h=>S1 2 J<|s6 h λv2 hv2 h=>b8 J (λhg=>D3 J Y6 J (D2 hv2 hg))<|b8 J (λhg=>a0C (ct hg) J)<|y0 J (o0 J J J (λq=>H3 q))<|yN ?_
 refine cN h (λhc h=>?_) λhc h=>?_
 ·refine sR ?_
  refine cA h Y6 J J λv3 _ h=>S2 1 J<|a7 ?_
  cases h
  exact f1
 ·refine a8 ?_
  refine S3 2 J<|cF h E3 J J λv4 _ h=>S2 8 J<|g5<|S3 1 J<|cA h a8N J J λv5 _ h=>S2 1 J ?_
  refine cN h (λhc h=>?_) λhc h=>?_
  ·refine S4 1 J ?_
   refine a7 ?_
   cases h
   exact f1
  ·refine a8 ?_
   refine S3 1 J<|cF h a61 J J λv6 _ h=>S2 2 J<|dr [] Ty.mix (by kernel_rfl) (by kernel_rfl)<|S7 5 J<|s6 h λv7 hv7 h=>d2f J (y8 J a9L J hv7) J<|s6 h λv8 hv8 h=>d2f J (y8 J b62 J hv8) J<|S8 1 J<|S3 2 J<|cF h a0D J J λv9 _ h=>S2 1 J ?_
   refine jq h (λ_=>St.of [] []) (λq19 h=>?_) λκ18 h=>?_
   ·refine S4 1 J ?_
    refine a7 ?_
    cases h
    exact f1
   ·refine S4 1 J ?_
    refine b9<|lq h (λs21=>St.of [(2,.ptr 2 0 0),(8,.ptr 8 0 0),(9,.L iF v8),(10,.L iF v9),(11,.I s21)] [(8,vR (g6.Pv v6) 8),(2,vR (hold_Heap.Pv a0) 8)]) W λs21 x22 h hx21=>g5<|S3 2 J<|nL J Ty.z6<|S2 1 J ?_
    refine cN h (λhc h=>?_) λhc h=>?_
    ·refine a8 ?_
     refine g5<|b9<|dr [] Ty.mix (by kernel_rfl) (by kernel_rfl)<|S7 2 J<|s6 h λv23 hv22 h=>d2f J (y8 J b3j J hv22) J<|S7 2 J<|s6 h λv24 hv23 h=>d0 J (A3 (f:=iF) (cs:=[.I v24]) hv23 J J Ty.z6 Ty.s3 J J) J<|S7 1 J<|s6 h λv25 hv24 h=>d2f J (y8 J N6 J hv24) J<|S7 4 J<|Z7 (x':=A5.Pv v25.1) (cl':=true) J J (.inr J) Ty.s78<|S8 1 J<|dr [] Ty.mix (by kernel_rfl) (by kernel_rfl)<|S7 4 J<|d0 J (A3 (f:=iF) (cs:=[.I v24]) hv23 J J Ty.z6 Ty.s3 J J) J<|S7 1 J<|s6 h λv26 hv25 h=>d2f J (y8 J N6 J hv25) J<|S7 4 J<|Z7 (x':=A5.Pv v26.1) (cl':=true) J J (.inr J) Ty.s78<|S8 1 J<|S3 3 J<|y0 J (A3 (f:=iF) (cs:=[.I v24]) hv23 J J Ty.z6 Ty.s3 J J)<|S1 1 J<|cA h a2t J J λv27 _ h=>S1 2 J<|b8 J (λhg=>mI J)<|b8 J (λhg=>j8 (ct hg) J J)<|b8 J (λhg=>om (d:=.bool (v25.2==0)) (ct hg))<|b8 (m8 J J J) (λhg=>oF J Ty.b07 J)<|b8 (m8 J J J) (λhg=>oS (ct hg) J J Ty.a3 J)<|b8 (m8 J J J) (λhg=>oF J Ty.b07 J)<|b8 (m8 J J J) (λhg=>oS (ct hg) J J Ty.a3 J)<|b8 (m8 J J J) (λhg=>j8 (ct hg) (ct hg) J)<|b8 J (λhg=>l7 (ct hg) J J (λq=>a1g hg (L5 q)))<|y0 J (o0 J J J (λq=>H3 q))<|S1 1 J<|b8 J (λhg=>mI J)<|b8 J (λhg=>j8 (ct hg) J J)<|b8 J (λhg=>om (d:=.bool (v25.2 != 0)) (ct hg))<|b8 (m8 J J J) (λhg=>oF J Ty.b07 J)<|b8 (m8 J J J) (λhg=>oS (ct hg) J J Ty.a3 J)<|b8 (m8 J J J) (λhg=>oF J Ty.c1s J)<|b8 (m8 J J J) (λhg=>oF (ct hg) Ty.b8S J)<|b8 (m8 J J J) (λhg=>oS (ct hg) J J Ty.a3 J)<|b8 (m8 J J J) (λhg=>a4t (ct hg) J J)<|b8 (m8 J J J) (λhg=>j8 (ct hg) (ct hg) J) ?_
     refine b8 J (λhg=>l7 (ct hg) J J (λq=>a1g hg (L5 q)))<|y0 J (o0 J J J (λq=>H3 q))<|yN ?_
     refine cN h (λhc h=>?_) λhc h=>?_
     ·refine S4 1 J ?_
      refine a7 ?_
      have h:=xL hx21 h
      cases h
      exact f1
     ·refine a8 ?_
      refine S6 3 J ?_
      exact eL h W
    ·refine k8 ?_
     refine b7<|b7<|g8 ?_
     have h:=xL hx21 h
     exact eJ h W

theorem w18_MachineLoads_ok{a0 a1 a2 a3 a4}:PO Tryz.prog 7 [hold_Heap.Pv a0,.I a1,.I a2,.I a3,.L code_Op.Pv a4] (a1F a0 a1 a2 a3 a4) λr=>.bool r:=by
 refine pO Tryz.func7 λr h _ _=>?_
 refine S4 2 J<|g5<|S3 1 J<|cA h a60 J J λv1 _ h=>S1 2 J<|b8 J (λhg=>mI J)<|b8 J (λhg=>j8 (ct hg) J J)<|y0 J (o0 J J J (λq=>H3 q))<|S1 1 J<|b8 J (λhg=>mI J)<|b8 J (λhg=>j8 (ct hg) J J)<|y0 J (o0 J J J (λq=>H3 q))<|S1 1 J<|b8 J (λhg=>mI J)<|b8 J (λhg=>j8 (ct hg) J J)<|y0 J (o0 J J J (λq=>H3 q))<|S1 1 J<|b8 J (λhg=>mI J)<|b8 J (λhg=>j8 (ct hg) J J)<|y0 J (o0 J J J (λq=>H3 q))<|S1 1 J<|b8 J (λhg=>mI J)<|b8 J (λhg=>j8 (ct hg) J J)<|y0 J (o0 J J J (λq=>H3 q))<|S1 1 J<|b8 J (λhg=>mI J)<|b8 J (λhg=>j8 (ct hg) J J)<|y0 J (o0 J J J (λq=>H3 q))<|S1 1 J<|b8 J (λhg=>om (d:=.L code_Op.Pv a4) J) ?_
 refine b8 J (λhg=>M0 (f:=code_Op.Pv) (ct hg) Ty.e61)<|b8 J (λhg=>j8 (ct hg) J J)<|y0 J (o0 J J J (λq=>H3 q))<|S1 1 J<|s6 h λv2 hv2 h=>b8 J (λhg=>D3 J Y6 J (D2 hv2 hg))<|b8 J (λhg=>a0C (ct hg) J)<|y0 J (o0 J J J (λq=>H3 q))<|yN ?_
 refine cN h (λhc h=>?_) λhc h=>?_
 ·refine sR ?_
  refine cA h Y6 J J λv3 _ h=>S2 1 J<|a7 ?_
  cases h
  exact f1
 ·refine a8 ?_
  refine S3 3 J<|y0 J (m7 (cs:=[.I 6,.I a1,.I a2,.I (-1)]) J Ty.p36 Ty.z36 J J J)<|cF h E3 J J λv4 _ h=>S2 8 J<|g5<|S4 2 J ?_
  refine cN h (λhc h=>?_) λhc h=>?_
  ·refine S3 3 J ?_
   refine b8 J (λhg=>mI J)<|b8 J (λhg=>j8 (ct hg) J J)<|y0 J (o0 J J J (λq=>H3 q))<|S2 1 J<|a7 ?_
   cases h
   exact f1
  ·refine a8 ?_
   refine jq h (λ_=>St.of [(1,.I a1),(3,.I a3),(4,.L code_Op.Pv a4),(11,.ptr 11 0 0),(12,.I v4.2.1)] [(11,vR (hold_Heap.Pv v4.1) 8)]) (λq10 h=>?_) λκ9 h=>?_
   ·refine S3 2 J ?_
    refine cF h a6x J J λv11 _ h=>S2 6 J<|g5<|S3 1 J<|cA h a8N J J λv12 _ h=>S1 2 J<|b8 J (λhg=>oF J Ty.b35 J)<|b8 J (λhg=>oS (ct hg) J J Ty.a28 J)<|b8 J (λhg=>M0 (f:=weak_Cell.Pv) (ct hg) Ty.e28)<|b8 J (λhg=>j8 (ct hg) J J)<|y0 J (o0 J J J (λq=>H3 q))<|yN ?_
    refine cN h (λhc h=>?_) λhc h=>?_
    ·refine S4 1 J ?_
     refine a7 ?_
     cases h
     exact f1
    ·refine a8 ?_
     refine S3 3 J<|y0 J (m7 (cs:=[.I 7,.I a3,.I a1,.I 0]) J Ty.p36 Ty.z36 J J J)<|cF h E3 J J λv13 _ h=>S2 8 J<|g5<|S3 3 J<|iL h J J Ty.e28 Ty.s84 λv14 _ h=>S2 3 J ?_
     refine cN h (λhc h=>?_) λhc h=>?_
     ·refine S3 3 J ?_
      refine b8 J (λhg=>mI J)<|b8 J (λhg=>j8 (ct hg) J J)<|y0 J (l7 J J J (λq=>L5 q))<|S2 1 J<|a7 ?_
      cases h
      exact f1
     ·refine a8 ?_
      refine S3 3 J<|b8 J (λhg=>mI J)<|b8 J (λhg=>mI J)<|b8 J (λhg=>j8 (ct hg) (ct hg) J)<|y0 J (l7 J J J (λq=>L5 q))<|S1 1 J<|b8 J (λhg=>oL J J J Ty.U6 Ty.O0 nl J)<|b8 J (λhg=>mI J)<|s6 h λv15 hv14 h=>b8 J (λhg=>D3 J N4 (A1 (ct hg) (A1 (ct hg) J)) (D2 hv14 hg))<|b8 J (λhg=>mI J)<|b8 J (λhg=>j8 (ct hg) (ct hg) J)<|y0 J (l7 J J J (λq=>L5 q))<|S2 1 J<|a7 ?_
      cases h
      exact f1
   ·refine S4 1 J ?_
    refine b9<|lq h (λs17=>St.of [(1,.I a1),(3,.I a3),(4,.L code_Op.Pv a4),(11,.ptr 11 0 0),(12,.I v4.2.1),(14,.I s17)] [(11,vR (hold_Heap.Pv v4.1) 8)]) W λs17 x18 h hx17=>g5<|S3 2 J<|nL J Ty.e61<|S2 1 J ?_
    refine cN h (λhc h=>?_) λhc h=>?_
    ·refine a8 ?_
     refine g5<|b9<|S3 2 J<|iL h J J Ty.e61 Ty.s36 λv19 hv18 h=>S1 4 J<|b8 J (λhg=>om (d:=.L code_Op.Pv a4) J)<|b8 J (λhg=>mI J)<|b8 J (λhg=>A3 (f:=code_Op.Pv) (cs:=code_Op.Pc v19) hv18 (ct hg) (ct hg) Ty.e61 Ty.s36 J J)<|b8 J (λhg=>B2 (ct hg) Ty.c7U J)<|b8 J (λhg=>B4 (ct hg) Ty.a3 J)<|b8 J (λhg=>mI J)<|b8 J (λhg=>j8 (ct hg) (ct hg) J)<|y0 J (l7 J J J (λq=>L5 q))<|yN ?_
     refine cN h (λhc h=>?_) λhc h=>?_
     ·refine S4 1 J ?_
      refine a7 ?_
      have h:=xL hx17 h
      cases h
      exact f1
     ·refine a8 ?_
      refine S6 3 J ?_
      exact eL h W
    ·refine k8 ?_
     refine b7<|b7<|g8 ?_
     have h:=xL hx17 h
     exact eJ h W

theorem w18_MachineStores_ok{a0 a1 a2 a3 a4}:PO Tryz.prog 9 [hold_Heap.Pv a0,.I a1,.I a2,.I a3,.I a4] (a1e a0 a1 a2 a3 a4) λr=>.bool r:=by
 refine pO Tryz.func9 λr h _ _=>?_
 refine S4 2 J<|g5<|S3 1 J<|cA h a60 J J λv1 _ h=>S1 2 J<|b8 J (λhg=>mI J)<|b8 J (λhg=>j8 (ct hg) J J)<|y0 J (o0 J J J (λq=>H3 q))<|S1 1 J<|b8 J (λhg=>mI J)<|b8 J (λhg=>j8 (ct hg) J J)<|y0 J (o0 J J J (λq=>H3 q))<|S1 1 J<|b8 J (λhg=>mI J)<|b8 J (λhg=>j8 (ct hg) J J)<|y0 J (o0 J J J (λq=>H3 q))<|S1 1 J<|b8 J (λhg=>mI J)<|b8 J (λhg=>j8 (ct hg) J J)<|y0 J (o0 J J J (λq=>H3 q))<|S1 1 J<|b8 J (λhg=>mI J)<|b8 J (λhg=>j8 (ct hg) J J)<|y0 J (o0 J J J (λq=>H3 q))<|S1 1 J<|b8 J (λhg=>mI J)<|b8 J (λhg=>j8 (ct hg) J J)<|y0 J (o0 J J J (λq=>H3 q))<|S1 1 J<|b8 J (λhg=>mI J) ?_
 refine b8 J (λhg=>j8 (ct hg) J J)<|y0 J (o0 J J J (λq=>H3 q))<|S1 1 J<|b8 J (λhg=>mI J)<|b8 J (λhg=>j8 (ct hg) J J)<|y0 J (o0 J J J (λq=>H3 q))<|S1 1 J<|s6 h λv2 hv2 h=>b8 J (λhg=>D3 J Y6 J (D2 hv2 hg))<|b8 J (λhg=>a0C (ct hg) J)<|y0 J (o0 J J J (λq=>H3 q))<|yN ?_
 refine cN h (λhc h=>?_) λhc h=>?_
 ·refine sR ?_
  refine cA h Y6 J J λv3 _ h=>S2 1 J<|a7 ?_
  cases h
  exact f1
 ·refine a8 ?_
  refine S3 4 J<|y0 J (m7 (cs:=[.I 5,.I a1,.I a2,.I a3]) J Ty.p36 Ty.z36 J J J)<|cF h E3 J J λv4 _ h=>S2 8 J<|S3 4 J<|y0 J (m7 (cs:=[.I 4,.I a4,.I a1,.I a2]) J Ty.p36 Ty.z36 J J J)<|cF h E3 J J λv5 _ h=>S2 8 J<|g5<|S3 3 J<|b8 J (λhg=>mI J)<|b8 J (λhg=>j8 (ct hg) J J)<|b8 J (λhg=>om (d:=.bool (v5.2.2 != 0)) (ct hg))<|b8 (m8 J J J) (λhg=>mI J)<|b8 (m8 J J J) (λhg=>mI J)<|b8 (m8 J J J) (λhg=>j8 (ct hg) (ct hg) J)<|b8 J (λhg=>o0 (ct hg) J J (λq=>a1g hg (H3 q)))<|b8 J (λhg=>om (d:=.bool ((v5.2.2 != 0)||(v5.2.1 != v4.2.1))) (ct hg))<|b8 (m8 J J J) (λhg=>oL J J J Ty.U6 Ty.O0 nl J)<|b8 (m8 J J J) (λhg=>mI J)<|s6 h λv6 hv6 h=>b8 (m8 J J J) (λhg=>D3 J N4 (A1 (ct hg) (A1 (ct hg) J)) (D2 hv6 hg))<|b8 (m8 J J J) (λhg=>mI J)<|b8 (m8 J J J) (λhg=>j8 (ct hg) (ct hg) J)<|b8 J (λhg=>o0 (ct hg) J J (λq=>a1g hg (H3 q)))<|y0 J (l7 J J J (λq=>L5 q))<|yN ?_
  refine cN h (λhc h=>?_) λhc h=>?_
  ·refine S4 1 J ?_
   refine a7 ?_
   cases h
   exact f1
  ·refine a8 ?_
   refine S3 3 J<|y0 J (m7 (cs:=[.I 8,.I a1,.I a3,.I 0]) J Ty.p36 Ty.z36 J J J)<|cF h E3 J J λv7 _ h=>S2 8 J<|S3 3 J<|y0 J (m7 (cs:=[.I 9,.I a4,.I a1,.I 0]) J Ty.p36 Ty.z36 J J J)<|cF h E3 J J λv8 _ h=>S2 8 J<|g5<|S4 2 J ?_
   refine cN h (λhc h=>?_) λhc h=>?_
   ·refine S3 3 J ?_
    refine b8 J (λhg=>mI J)<|b8 J (λhg=>j8 (ct hg) J J)<|y0 J (o0 J J J (λq=>H3 q))<|S2 1 J<|a7 ?_
    cases h
    exact f1
   ·refine a8 ?_
    refine g5<|S4 2 J ?_
    refine cN h (λhc h=>?_) λhc h=>?_
    ·refine S3 3 J ?_
     refine b8 J (λhg=>mI J)<|b8 J (λhg=>j8 (ct hg) J J)<|y0 J (l7 J J J (λq=>L5 q))<|S2 1 J<|a7 ?_
     cases h
     exact f1
    ·refine a8 ?_
     refine S3 3 J<|b8 J (λhg=>mI J)<|b8 J (λhg=>mI J)<|b8 J (λhg=>j8 (ct hg) (ct hg) J)<|y0 J (l7 J J J (λq=>L5 q))<|S1 1 J<|b8 J (λhg=>oL J J J Ty.U6 Ty.O0 nl J)<|b8 J (λhg=>mI J)<|s6 h λv9 hv9 h=>b8 J (λhg=>D3 J N4 (A1 (ct hg) (A1 (ct hg) J)) (D2 hv9 hg))<|b8 J (λhg=>mI J)<|b8 J (λhg=>j8 (ct hg) (ct hg) J)<|y0 J (l7 J J J (λq=>L5 q))<|S2 1 J<|a7 ?_
     cases h
     exact f1

end Go.Proofs.YtfihndcobnkiaaaGreat.Ok
