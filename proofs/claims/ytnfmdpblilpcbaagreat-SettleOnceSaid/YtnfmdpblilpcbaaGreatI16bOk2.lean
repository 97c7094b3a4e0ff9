/-
 The functions of the program do as the plain functions do.
-/
import Derived.Test.YtnfmdpblilpcbaaGreatI16bOk1
namespace Go.Proofs.YtnfmdpblilpcbaaGreat.Ok
open Go Go.Pw Go.Sh Go.Proofs
set_option linter.unusedVariables false
set_option maxRecDepth 100000
set_option maxHeartbeats 4000000
theorem slab_Give_store_Obj_ok {a0 a1} : PO Tryz.prog 165 [slab_Slab_store_Obj.Pv a0, .I a1] (slab_Give_store_Obj a0 a1) fun r => .tup [slab_Slab_store_Obj.Pv r.1, .I r.2] := by
 refine pO Tryz.func165 fun r h _ _ => ?_
 refine S4 3 J <| S3 2 J <| cA h slab_Find_store_Obj_ok J J fun v1 _ h => S2 5 J <| pw_seq <| S4 2 J ?_
 refine cN h (fun hc h => ?_) fun hc h => ?_
 ·refine S4 4 J ?_
  refine pw_ret ?_
  cases h
  exact ⟨J, [_, _], ⟨oL J J J Ty.a24 Ty.s24 nl J, ⟨J, tr⟩⟩, J, io⟩
 ·refine pw_skip ?_
  refine S3 3 J <| iL h J J Ty.e22 Ty.s141 fun v2 _ h => S2 3 J <| pw_seq <| S4 4 J ?_
  refine cN h (fun hc h => ?_) fun hc h => ?_
  ·refine S3 3 J ?_
   refine y0 J (o_build (cs := [.I 3, .I v2.Gen, .I 0, .I 0, .I 0, .I 0, .bool false, .nl]) J Ty.p141 Ty.z141 J J J) <| cF h slab_with_store_Obj_ok J J fun v3 _ h => S2 2 J <| pw_ret ?_
   cases h
   exact ⟨J, [_, _], ⟨oL J J J Ty.a24 Ty.s24 nl J, ⟨J, tr⟩⟩, J, io⟩
  ·refine pw_skip ?_
   refine S3 4 J <| y0 J (o_build (cs := [.I 0, .I (w64 (v2.Gen + 1)), .I 0, .I 0, .I 0, .I 0, .bool false, .nl]) J Ty.p141 Ty.z141 J J J) <| cF h slab_with_store_Obj_ok J J fun v4 _ h => S2 2 J <| pw_ret ?_
   cases h
   exact ⟨J, [_, _], ⟨oL J J J Ty.a24 Ty.s24 nl J, ⟨J, tr⟩⟩, J, io⟩

theorem hold_unmarked_ok {a0 a1} : PO Tryz.prog 82 [hold_Heap.Pv a0, .I a1] (hold_unmarked a0 a1) fun r => hold_Heap.Pv r := by
 refine pO Tryz.func82 fun r h _ _ => ?_
 refine S4 2 J <| S3 2 J <| cF h hold_marked_ok J J fun v1 _ h => S2 1 J <| S3 4 J <| cA h slab_Find_store_Obj_ok J J fun v2 _ h => S2 5 J <| pw_seq <| S4 2 J ?_
 refine cN h (fun hc h => ?_) fun hc h => ?_
 ·refine S4 2 J ?_
  refine pw_ret ?_
  cases h
  exact ⟨J, [_], ⟨oL J J J Ty.a34 Ty.s34 nl J, tr⟩, J, io⟩
 ·refine pw_skip ?_
  refine pw_seq <| S3 5 J <| iL h J J Ty.e22 Ty.s141 fun v3 _ h => S2 3 J <| S3 4 J <| y_if J (fun hg => oF J Ty.f141_2 J) <| y_if J (fun hg => oF (ct hg) Ty.f91_2 J) <| y_if J (fun hg => oS (ct hg) J J Ty.a3 J) <| y_if J (fun hg => o_cmp (ct hg) J J) <| y0 J (pk_and J J J (fun q => eqT q)) <| yN ?_
  refine cN h (fun hc h => ?_) fun hc h => ?_
  ·refine S5 4 J ?_
   refine cF h slab_Give_store_Obj_ok J J fun v4 _ h => S2 6 J <| S4 2 J <| pw_ret ?_
   cases h
   exact ⟨J, [_], ⟨oL J J J Ty.a34 Ty.s34 nl J, tr⟩, J, io⟩
  ·refine pw_skip ?_
   refine S4 2 J <| pw_ret ?_
   cases h
   exact ⟨J, [_], ⟨oL J J J Ty.a34 Ty.s34 nl J, tr⟩, J, io⟩

theorem hold_Weak_ok {a0 a1 a2 a3} : PO Tryz.prog 24 [hold_Heap.Pv a0, .I a1, .I a2, .I a3] (hold_Weak a0 a1 a2 a3) fun r => .tup [hold_Heap.Pv r.1, .I r.2] := by
 refine pO Tryz.func24 fun r h _ _ => ?_
 unfold hold_Weak at h
 refine S4 3 J <| pw_seq <| S3 3 J <| y_if J (fun hg => mI J) <| y_if J (fun hg => oF J Ty.f34_2 J) <| y_if J (fun hg => oS (ct hg) J J Ty.a28 J) <| y_if J (fun hg => o_lnL (f := weak_Cell.Pv) (ct hg) Ty.e28) <| y_if J (fun hg => o_cmp (ct hg) (ct hg) J) <| y0 J (pk_or J J J (fun q => eqF q)) <| S1 1 J <| y_if J (fun hg => oF J Ty.f34_4 J) <| y_if J (fun hg => oL (ct hg) J J Ty.a32 Ty.s32 nl J) <| y_if J (fun hg => mI J) <| bnE h fun v1 hv1 h => y_if J (fun hg => o_cl J task_Waits_ok (consE (ct hg) (consE (ct hg) J)) (onlyE hv1 hg)) <| y0 J (pk_or J J J (fun q => eqF q)) <| yN ?_
 refine cN h (fun hc h => ?_) fun hc h => ?_
 ·refine S4 3 J ?_
  refine pw_ret ?_
  cases h
  exact ⟨J, [_, _], ⟨oL J J J Ty.a34 Ty.s34 nl J, ⟨J, tr⟩⟩, J, io⟩
 ·refine pw_skip ?_
  refine pw_seq <| S3 2 J <| cA h hold_nameable_ok J J fun v2 _ h => S2 1 J ?_
  refine cN h (fun hc h => ?_) fun hc h => ?_
  ·refine S4 3 J ?_
   refine pw_ret ?_
   cases h
   exact ⟨J, [_, _], ⟨oL J J J Ty.a34 Ty.s34 nl J, ⟨J, tr⟩⟩, J, io⟩
  ·refine pw_skip ?_
   refine S3 5 J <| cF h weak_Set_ok J J fun v3 _ h => S2 7 J <| S4 3 J <| S3 2 J <| cF h hold_marked_ok J J fun v4 _ h => S1 1 J <| cF h hold_unmarked_ok J J fun v5 _ h => S2 2 J <| pw_ret ?_
   cases h
   exact ⟨J, [_, _], ⟨oL J J J Ty.a34 Ty.s34 nl J, ⟨J, tr⟩⟩, J, io⟩

theorem cmp_isNaN_int_ok {a0} : PO Tryz.prog 199 [.I a0] (cmp_isNaN_int a0) fun r => .bool r := by
 refine pO Tryz.func199 fun r h _ _ => ?_
 unfold cmp_isNaN_int at h
 refine S4 1 J <| S4 4 J <| pw_ret ?_
 cases h
 exact f1

theorem cmp_Compare_int_ok {a0 a1} : PO Tryz.prog 144 [.I a0, .I a1] (cmp_Compare_int a0 a1) fun r => .I r := by
 refine pO Tryz.func144 fun r h _ _ => ?_
 refine S4 1 J <| S3 1 J <| cA h cmp_isNaN_int_ok J J fun v1 _ h => S2 1 J <| S3 1 J <| cA h cmp_isNaN_int_ok J J fun v2 _ h => S2 1 J <| pw_seq <| S4 1 J ?_
 refine cN h (fun hc h => ?_) fun hc h => ?_
 ·refine pw_seq ?_
  refine S4 1 J ?_
  refine cN h (fun hc h => ?_) fun hc h => ?_
  ·refine S4 1 J ?_
   refine pw_ret ?_
   cases h
   exact f1
  ·refine pw_skip ?_
   refine S4 1 J <| pw_ret ?_
   cases h
   exact f1
 ·refine pw_skip ?_
  refine pw_seq <| S4 1 J ?_
  refine cN h (fun hc h => ?_) fun hc h => ?_
  ·refine S4 1 J ?_
   refine pw_ret ?_
   cases h
   exact f1
  ·refine pw_skip ?_
   refine pw_seq <| S4 3 J ?_
   refine cN h (fun hc h => ?_) fun hc h => ?_
   ·refine S4 1 J ?_
    refine pw_ret ?_
    cases h
    exact f1
   ·refine pw_skip ?_
    refine pw_seq <| S4 3 J ?_
    refine cN h (fun hc h => ?_) fun hc h => ?_
    ·refine S4 1 J ?_
     refine pw_ret ?_
     cases h
     exact f1
    ·refine pw_skip ?_
     refine S4 1 J <| pw_ret ?_
     cases h
     exact f1

theorem store_Live_1_ok {a0 a1 a2} : PO Tryz.prog 143 [.I a0, .I a1, .rptr [.abs (ImMap (List.map (ent iF iF) a2))]] (store_Live_1 a0 a1 a2) fun r => .I r := by
 refine pO Tryz.func143 fun r h _ _ => ?_
 refine S4 1 J <| S3 2 J <| y0 J (o_lkI (es := a2) (k := a0) (E := iF) (EK := iF) (d := .I ((mget a2 a0).getD (0 : Int))) J J Ty.mm175 (keyT_int Ty.u3) Ty.z3 J (lk1 _ _ _)) <| S1 2 J <| y0 J (o_lkI (es := a2) (k := a1) (E := iF) (EK := iF) (d := .I ((mget a2 a1).getD (0 : Int))) J J Ty.mm175 (keyT_int Ty.u3) Ty.z3 J (lk1 _ _ _)) <| cA h cmp_Compare_int_ok J J fun v1 _ h => S2 1 J <| pw_ret ?_
 cases h
 exact f1

theorem store_Live_ok {a0} : PO Tryz.prog 60 [store_Store.Pv a0] (store_Live a0) fun r => .L iF r := by
 refine pO Tryz.func60 fun r h _ _ => ?_
 refine S4 2 J <| S4 1 J <| sR <| y_mkM (KT := Int) (VT := Int) (EK := iF) (E := iF) 5000008 J J <| S2 2 J ?_
 refine jq h (fun q => St.of [(3, .sl 910003), (4, .ptr 4 0 0)] [(4, vS (.mp 5000008) 1), (5000008, ⟨[.mapc (List.map (ent iF iF) q.1)], 0, false, 0, false⟩), (910003, ⟨List.map iF q.2, 0, true, 1, true⟩)]) (fun q20 h => ?_) fun κ17 h => ?_
 ·obtain ⟨j18, j19⟩ := q20
  refine S3 2 J <| y_wk (Wk.trans (wk_mfz0 5000008 nl J) (wk_mvC 4 0 5000008 J J J J)) <| bnE h fun v21 hv12 h => y_sort hv12 J J Ty.k142 sortAt J J J Ty.k143 J J J J J (fun p q r h => store_Live_1_ok.2 r h) <| yN <| S4 2 J <| pw_ret ?_
  cases h
  exact f1
 ·refine S3 3 J ?_
  refine nL J Ty.e22 <| S2 1 J <| pw_block <| lq h (fun q => St.of [(3, .sl 910003), (4, .ptr 4 0 0), (11, .L slab_Cell_store_Obj.Pv a0.S.Cells), (12, .I (a0.S.Cells.length : Int)), (13, .I q.1)] [(4, vS (.mp 5000008) 1), (5000008, ⟨[.mapc (List.map (ent iF iF) q.2.1)], 0, false, 0, false⟩), (910003, ⟨List.map iF q.2.2, 0, true, 1, true⟩)]) (Wk.trans (wk_nil (t := 3) (l := 920003) (z := 1) J J) (WP (fun l => if l = 910003 then 920003 else l))) fun q27 x26 h hx15 => ?_
  obtain ⟨s23, s24, s25⟩ := q27
  refine S4 1 J <| pw_seq ?_
  refine cN h (fun hc h => ?_) fun hc h => ?_
  ·refine pw_skip ?_
   refine jq h (fun q => St.of [(3, .sl 33), (4, .ptr 4 0 0), (11, .L slab_Cell_store_Obj.Pv a0.S.Cells), (12, .I (a0.S.Cells.length : Int)), (13, .I s23)] [(4, vS (.mp 5000008) 1), (5000008, ⟨[.mapc (List.map (ent iF iF) q.1)], 0, false, 0, false⟩), (33, ⟨List.map iF q.2, 0, true, 1, true⟩)]) (fun q34 h => ?_) fun κ31 h => ?_
   ·obtain ⟨j32, j33⟩ := q34
    refine S6 2 J ?_
    exact eL h (WP (fun l => if l = 910003 then 33 else l))
   ·refine pw_block ?_
    refine S3 1 J <| iL h J J Ty.e22 Ty.s141 fun v35 _ h => S2 4 J <| S4 3 J ?_
    refine cN h (fun hc h => ?_) fun hc h => ?_
    ·refine S3 3 J ?_
     refine cA h handle_Pack_ok J J fun v36 _ h => S2 1 J <| S3 5 J <| y_setM (es := s24) (k := v36) (v := v35.Val.Serial) (E := iF) (EK := iF) (.inl J) J J J J J J Ty.mm175 (keyT_int Ty.u3) <| yN <| S5 2 J <| y0 J (o_bI (f := iF) (l := [v36]) J Ty.e27 Ty.s3 Ty.z3 J J nl J J) <| bnE h fun v37 hv22 h => y_apO (f := iF) (b := 8) [(4, .ptr 4 0 0), (11, .L slab_Cell_store_Obj.Pv a0.S.Cells), (12, .I (a0.S.Cells.length : Int)), (13, .I s23), (14, .bool (decide (s23 < (a0.S.Cells.length : Int)))), (15, .I s23), (16, .rptr (slab_Cell_store_Obj.Pc v35)), (17, slab_Cell_store_Obj.Pv v35), (6, .ptr 6 0 0), (5, .I s23), (18, .ptr 6 0 0), (19, .I v35.State), (20, .bool (v35.State == 1)), (21, .I s23), (22, .ptr 6 0 1), (23, .I v35.Gen), (24, .I v36), (7, .I v36), (25, .mp 5000008), (26, .I v36), (27, .ptr 6 0 2), (28, .ptr 6 0 2), (29, .I v35.Val.Serial), (31, .I v36), (32, .lst true (List.map iF [v36]))] [(6, vR (slab_Cell_store_Obj.Pv v35) 8), (5000008, ⟨[.mapc (List.map (ent iF iF) (mput s24 v36 v35.Val.Serial))], 0, false, 0, false⟩), (4, vS (.mp 5000008) 1)] J hv22 ⟨J, J, J, J, J, J, J, J, J, J, J, J, J, J, J, J, J, J, J, J, J, J, J, J, J, J, J, J, J, J, J, J, J, J, J, J, J, J, J, J, J, J, J, J, J, J, J, J, J, J, J, J, J, J, J, J, J, J, J, J, J, J, J, J, J, J, J, J, J, J, J, J, J, J, J, tr⟩ ⟨rS, rowLe_open J J J (fun q => nomatch q) J J J J, rowLe_open J J J (fun q => nomatch q) J J J J, tr⟩ J J J J (.inl ⟨_, J, J⟩) Ty.e27 Ty.s3 Ty.b3 Ty.z3 J (fun _ => J) <| S2 1 J ?_
     exact eJ h W
    ·refine pw_skip ?_
     exact eJ h (WP (fun l => if l = 33 then 910003 else l))
  ·refine pw_exit ?_
   refine thenQ_exit <| thenQ_exit <| blockQ_exit ?_
   have h := xL hx15 h
   exact eJ h W

theorem settle_Zero_ok {a0} : PO Tryz.prog 42 [hold_Heap.Pv a0] (settle_Zero a0) fun r => .L iF r := by
 refine pO Tryz.func42 fun r h _ _ => ?_
 refine S4 2 J <| S4 1 J ?_
 refine jq h (fun j16 => St.of [(3, .sl 910003)] [(910003, ⟨List.map iF j16, (List.map iF j16).length, true, 1, true⟩)]) (fun j16 h => ?_) fun κ15 h => ?_
 ·refine S4 2 J ?_
  refine pw_ret ?_
  cases h
  exact f1
 ·refine S3 2 J ?_
  refine cF h store_Live_ok J J fun v17 _ h => nL J Ty.e27 <| S2 1 J <| pw_block <| lq h (fun q => St.of [(1, .ptr 1 0 0), (3, .sl 910003), (10, .L iF v17), (11, .I (v17.length : Int)), (12, .I q.1)] [(1, vR (hold_Heap.Pv a0) 8), (910003, ⟨List.map iF q.2, (List.map iF q.2).length, true, 1, true⟩)]) (Wk.trans (wk_nil (t := 3) (l := 920003) (z := 1) J J) (WP (fun l => if l = 910003 then 920003 else l))) fun q22 x21 h hx16 => ?_
  obtain ⟨s19, s20⟩ := q22
  refine S4 1 J <| pw_seq ?_
  refine cN h (fun hc h => ?_) fun hc h => ?_
  ·refine pw_skip ?_
   refine jq h (fun j27 => St.of [(1, .ptr 1 0 0), (3, .sl 29), (10, .L iF v17), (11, .I (v17.length : Int)), (12, .I s19)] [(29, ⟨List.map iF j27, (List.map iF j27).length, true, 1, true⟩), (1, vR (hold_Heap.Pv a0) 8)]) (fun j27 h => ?_) fun κ26 h => ?_
   ·refine S6 2 J ?_
    exact eL h (Wk.trans (wk_frz _ [29]) (WP (fun l => if l = 910003 then 29 else l)))
   ·refine pw_block ?_
    refine sR <| iL h J J Ty.e27 Ty.s3 fun v28 _ h => S2 2 J <| S3 3 J <| cF h store_Get_ok J J fun v29 _ h => S2 6 J <| S4 3 J ?_
    refine cN h (fun hc h => ?_) fun hc h => ?_
    ·refine S5 2 J ?_
     refine y0 J (o_bI (f := iF) (l := [v28]) J Ty.e27 Ty.s3 Ty.z3 J J nl J J) <| bnE h fun v30 hv23 h => y_app J (o_apR (f := iF) hv23 J J J J J J (.inl ⟨_, J, J⟩) Ty.e27 Ty.s3 Ty.b3 Ty.z3 J (fun _ => J)) J J J <| S2 1 J ?_
     exact eJ h (Wk.trans (wk_frz _ [29]) W)
    ·refine pw_skip ?_
     exact eJ h (Wk.trans (wk_frz _ [910003]) (WP (fun l => if l = 29 then 910003 else l)))
  ·refine pw_exit ?_
   refine thenQ_exit <| thenQ_exit <| blockQ_exit ?_
   have h := xL hx16 h
   exact eJ h (Wk.trans (wk_frz _ [910003]) W)

theorem settle_owesRun_ok {a0} : PO Tryz.prog 112 [store_Obj.Pv a0] (settle_owesRun a0) fun r => .bool r := by
 refine pO Tryz.func112 fun r h _ _ => ?_
 unfold settle_owesRun at h
 refine S4 2 J <| S3 4 J <| y_if J (fun hg => oF J Ty.f91_4 J) <| y_if J (fun hg => oS (ct hg) J J Ty.a4 J) <| y_if J (fun hg => o_not (ct hg) J) <| y0 J (pk_and J J J (fun q => eqT q)) <| S2 1 J <| pw_ret ?_
 cases h
 exact f1

theorem queue_Len_task_Task_ok {a0} : PO Tryz.prog 234 [queue_Queue_task_Task.Pv a0] (queue_Len_task_Task a0) fun r => .I r := by
 refine pO Tryz.func234 fun r h _ _ => ?_
 unfold queue_Len_task_Task at h
 refine S4 2 J <| S3 2 J <| nL J Ty.e30 <| S2 1 J <| pw_ret ?_
 cases h
 exact f1

theorem queue_part_task_Task_ok {a0 a1 a2} : PO Tryz.prog 235 [.L task_Task.Pv a0, .I a1, .I a2] (queue_part_task_Task a0 a1 a2) fun r => .lst true (List.map task_Task.Pv r) := by
 refine pO Tryz.func235 fun r h _ _ => ?_
 unfold queue_part_task_Task at h
 refine S4 1 J <| S3 4 J <| bnE h fun v1 hv1 h => y0 J (o_cutT (f := task_Task.Pv) hv1 J ⟨_, J⟩ ⟨_, J⟩ ⟨_, J⟩ J J Ty.e30 Ty.s82 (fun _ => J)) <| S2 1 J <| pw_ret ?_
 cases h
 exact f1

theorem queue_Push_task_Task_ok {a0 a1} : PO Tryz.prog 188 [queue_Queue_task_Task.Pv a0, task_Task.Pv a1] (queue_Push_task_Task a0 a1) fun r => .tup [queue_Queue_task_Task.Pv r.1, .I r.2] := by
 refine pO Tryz.func188 fun r h _ _ => ?_
 unfold queue_Push_task_Task at h
 refine S4 4 J <| pw_seq <| dr [] Ty.mix (by kernel_rfl) (by kernel_rfl) <| S7 1 J <| bnE h fun v1 hv1 h => d2 J (o_cl J queue_Len_task_Task_ok J hv1) J <| S8 3 J ?_
 refine cN h (fun hc h => ?_) fun hc h => ?_
 ·refine S4 3 J ?_
  refine pw_ret ?_
  cases h
  exact ⟨J, [_, _], ⟨oL J J J Ty.a32 Ty.s32 nl J, ⟨J, tr⟩⟩, J, io⟩
 ·refine pw_skip ?_
  refine dr [] Ty.mix (by kernel_rfl) (by kernel_rfl) <| S7 3 J <| d2 J (o_cl J queue_Len_task_Task_ok J hv1) J <| bnE h fun v2 hv2 h => d2f J (o_clF J queue_part_task_Task_ok J hv2) J <| S7 1 J <| d1n J (o_bI (f := task_Task.Pv) (l := [a1]) J Ty.e30 Ty.s82 Ty.z82 J J nl J J) J <| bnE h fun v3 hv3 h => d3 J (o_apT (f := task_Task.Pv) hv3 J J (.inl ⟨_, J, J⟩) Ty.e30 Ty.s82 Ty.b82 Ty.z82 J (fun _ => J)) J J J <| S7 1 J <| d_sto (x' := .agg [.sl 19, .I a0.Cap]) (cl' := false) J J (.inl J) Ty.s30 <| d_nil <| S4 3 J <| pw_ret ?_
  cases h
  exact ⟨J, [_, _], ⟨oL J J J Ty.a32 Ty.s32 nl J, ⟨J, tr⟩⟩, J, io⟩

theorem task_Add_ok {a0 a1} : PO Tryz.prog 114 [queue_Queue_task_Task.Pv a0, task_Task.Pv a1] (task_Add a0 a1) fun r => .tup [queue_Queue_task_Task.Pv r.1, .I r.2] := by
 refine pO Tryz.func114 fun r h _ _ => ?_
 refine S4 4 J <| S3 2 J <| cF h queue_Push_task_Task_ok J J fun v1 _ h => S2 4 J <| pw_ret ?_
 cases h
 exact ⟨J, [_, _], ⟨oL J J J Ty.a32 Ty.s32 nl J, ⟨J, tr⟩⟩, J, io⟩

theorem settle_Queued_ok {a0 a1} : PO Tryz.prog 38 [hold_Heap.Pv a0, .I a1] (settle_Queued a0 a1) fun r => hold_Heap.Pv r := by
 refine pO Tryz.func38 fun r h _ _ => ?_
 refine S4 2 J <| S3 3 J <| cF h store_Get_ok J J fun v1 _ h => S2 6 J <| pw_seq <| S3 3 J <| y_if J (fun hg => oL J J J Ty.a91 Ty.s91 nl J) <| bnE h fun v2 hv2 h => y_if J (fun hg => o_cl J settle_owesRun_ok (consE (ct hg) J) (onlyE hv2 hg)) <| y_if J (fun hg => o_not (ct hg) J) <| y0 J (pk_or J J J (fun q => eqF q)) <| yN ?_
 refine cN h (fun hc h => ?_) fun hc h => ?_
 ·refine S4 2 J ?_
  refine pw_ret ?_
  cases h
  exact ⟨J, [_], ⟨oL J J J Ty.a34 Ty.s34 nl J, tr⟩, J, io⟩
 ·refine pw_skip ?_
  refine S4 2 J <| S3 4 J <| cF h store_Set_ok J J fun v3 _ h => S2 5 J <| S3 5 J <| y0 J (o_build (cs := [.I 1, .I a1, .I v1.1.Prog]) J Ty.p82 Ty.z82 J J J) <| cF h task_Add_ok J J fun v4 _ h => S2 5 J <| S3 2 J <| cF h hold_Retain_ok J J fun v5 _ h => S2 1 J <| pw_ret ?_
  cases h
  exact ⟨J, [_], ⟨oL J J J Ty.a34 Ty.s34 nl J, tr⟩, J, io⟩

theorem settle_livesOnce_ok {a0 a1} : PO Tryz.prog 118 [hold_Heap.Pv a0, .L iF a1] (settle_livesOnce a0 a1) fun r => .L iF r := by
 refine pO Tryz.func118 fun r h _ _ => ?_
 refine S4 2 J <| sR <| y_mkM (KT := Int) (VT := Bool) (EK := iF) (E := PV.bool) 5000011 J J <| S2 1 J <| S4 1 J ?_
 refine jq h (fun j18 => St.of [(6, .sl 910006)] [(910006, ⟨List.map iF j18, (List.map iF j18).length, true, 1, true⟩)]) (fun j18 h => ?_) fun κ17 h => ?_
 ·refine S4 2 J ?_
  refine pw_ret ?_
  cases h
  exact f1
 ·refine S3 1 J ?_
  refine nL J Ty.e27 <| S2 1 J <| pw_block <| lq h (fun q => St.of [(2, .ptr 2 0 0), (5, .mp 5000011), (6, .sl 910006), (12, .L iF a1), (13, .I (a1.length : Int)), (14, .I q.1)] [(5000011, ⟨[.mapc (List.map (ent iF PV.bool) q.2.1)], 0, false, 0, false⟩), (2, vR (hold_Heap.Pv a0) 8), (910006, ⟨List.map iF q.2.2, (List.map iF q.2.2).length, true, 1, true⟩)]) (Wk.trans (wk_nil (t := 6) (l := 920006) (z := 1) J J) (WP (fun l => if l = 910006 then 920006 else l))) fun q24 x23 h hx16 => ?_
  obtain ⟨s20, s21, s22⟩ := q24
  refine S4 1 J <| pw_seq ?_
  refine cN h (fun hc h => ?_) fun hc h => ?_
  ·refine pw_skip ?_
   refine jq h (fun q => St.of [(2, .ptr 2 0 0), (5, .mp 5000011), (6, .sl 38), (12, .L iF a1), (13, .I (a1.length : Int)), (14, .I s20)] [(38, ⟨List.map iF q.1, (List.map iF q.1).length, true, 1, true⟩), (5000011, ⟨[.mapc (List.map (ent iF PV.bool) q.2)], 0, false, 0, false⟩), (2, vR (hold_Heap.Pv a0) 8)]) (fun q31 h => ?_) fun κ28 h => ?_
   ·obtain ⟨j29, j30⟩ := q31
    refine S6 2 J ?_
    exact eL h (Wk.trans (wk_frz _ [38]) (WP (fun l => if l = 910006 then 38 else l)))
   ·refine pw_block ?_
    refine sR <| iL h J J Ty.e27 Ty.s3 fun v32 _ h => S2 2 J <| S3 3 J <| cF h store_Get_ok J J fun v33 _ h => S2 6 J <| S3 3 J <| y_if J (fun hg => om (d := .mp 5000011) J) <| y_if J (fun hg => mI J) ?_
    rcases Bool.eq_false_or_eq_true ((v33.2 == 0) == true) with hg24 | hg24
    ·have h := ifT h hg24
     refine y_lkM (es := s21) (k := v32) (E := PV.bool) (EK := iF) (d := .bool ((mget s21 v32).getD (false : Bool))) (congrArg some hg24) (ct hg24) J (ct hg24) Ty.mm222 (keyT_int Ty.u3) Ty.z4 J (lk1 _ _ _) <| y0 (congrArg some hg24) (o_not J J) <| y0 J (pk_andT J J hg24) <| yN ?_
     refine cN h (fun hc h => ?_) fun hc h => ?_
     ·refine S3 2 J ?_
      refine y_setM (es := s21) (k := v32) (v := true) (E := PV.bool) (EK := iF) (.inl J) J J J J J J Ty.mm222 (keyT_int Ty.u3) <| yN <| S5 2 J <| y0 J (o_bI (f := iF) (l := [v32]) J Ty.e27 Ty.s3 Ty.z3 J J nl J J) <| bnE h fun v34 hv25 h => y_app J (o_apR (f := iF) hv25 J J J J J J (.inl ⟨_, J, J⟩) Ty.e27 Ty.s3 Ty.b3 Ty.z3 J (fun _ => J)) J J J <| S2 1 J ?_
      exact eJ h (Wk.trans (wk_frz _ [38]) W)
     ·refine pw_skip ?_
      exact eJ h (Wk.trans (wk_frz _ [910006]) (WP (fun l => if l = 38 then 910006 else l)))
    ·have h := ifF h hg24
     refine y_skip (congrArg some hg24) <| y_skip (congrArg some hg24) <| y0 J (pk_andF J J hg24) <| yN ?_
     refine pw_cond false J (fun q => nomatch q) (fun _ => ?_)
     refine pw_skip ?_
     exact eJ h (Wk.trans (wk_frz _ [910006]) (WP (fun l => if l = 38 then 910006 else l)))
  ·refine pw_exit ?_
   refine thenQ_exit <| thenQ_exit <| blockQ_exit ?_
   have h := xL hx16 h
   exact eJ h (Wk.trans (wk_frz _ [910006]) W)

theorem slices_Index_int_int_ok {a0 a1} : PO Tryz.prog 269 [.L iF a0, .I a1] (slices_Index_int_int a0 a1) fun r => .I r := by
 refine pO Tryz.func269 fun r h _ _ => ?_
 refine S4 1 J ?_
 refine jq h (fun _ => St.of [] []) (fun q6 h => ?_) fun κ5 h => ?_
 ·refine S4 1 J ?_
  refine pw_ret ?_
  cases h
  exact f1
 ·refine S3 1 J ?_
  refine nL J Ty.e27 <| S2 1 J <| pw_block <| lq h (fun s8 => St.of [(0, .L iF a0), (1, .I a1), (7, .I (a0.length : Int)), (8, .I s8)] []) W fun s8 x9 h hx8 => S4 1 J <| pw_seq ?_
  refine cN h (fun hc h => ?_) fun hc h => ?_
  ·refine pw_skip ?_
   refine pw_seq <| pw_block <| S4 2 J <| S3 3 J <| iL h J J Ty.e27 Ty.s3 fun v10 _ h => S2 2 J ?_
   refine cN h (fun hc h => ?_) fun hc h => ?_
   ·refine S4 2 J ?_
    refine pw_ret ?_
    have h := xL hx8 h
    cases h
    exact f1
   ·refine pw_skip ?_
    refine S6 2 J ?_
    exact eL h W
  ·refine pw_exit ?_
   refine thenQ_exit <| thenQ_exit <| blockQ_exit ?_
   have h := xL hx8 h
   exact eJ h W

theorem slices_Contains_int_int_ok {a0 a1} : PO Tryz.prog 238 [.L iF a0, .I a1] (slices_Contains_int_int a0 a1) fun r => .bool r := by
 refine pO Tryz.func238 fun r h _ _ => ?_
 refine S4 1 J <| S3 2 J <| cA h slices_Index_int_int_ok J J fun v1 _ h => S2 2 J <| pw_ret ?_
 cases h
 exact f1

theorem weak_Clear_1_ok {a0 a1} : PO Tryz.prog 237 [weak_Cell.Pv a0, .rptr [.L iF a1]] (weak_Clear_1 a0 a1) fun r => .bool r := by
 refine pO Tryz.func237 fun r h _ _ => ?_
 unfold weak_Clear_1 at h
 refine S4 2 J <| S3 3 J <| y_if J (fun hg => oF J Ty.f84_0 J) <| y_if J (fun hg => oS (ct hg) J J Ty.a3 J) <| y_if J (fun hg => o_cmp (ct hg) J J) <| y0 J (pk_and J J J (fun q => eqT q)) <| S1 1 J <| y_if J (fun hg => o_loadRS J Ty.a27 J) <| y_if J (fun hg => oF J Ty.f84_0 J) <| y_if J (fun hg => oS (ct hg) J J Ty.a3 J) <| bnE h fun v1 hv1 h => y_if J (fun hg => o_cl J slices_Contains_int_int_ok (consE (ct hg) (consE (ct hg) J)) (onlyE hv1 hg)) <| y0 J (pk_and J J J (fun q => eqT q)) <| S2 1 J <| pw_ret ?_
 cases h
 exact f1

theorem weak_picked__weak_Clear_1_ok {a0 a1} : PO Tryz.prog 236 [.L weak_Cell.Pv a0, .fn (.func 237) [.rptr [.L iF a1]]] (weak_picked__weak_Clear_1 a0 a1) fun r => .L iF r := by
 refine pO Tryz.func236 fun r h _ _ => ?_
 refine S4 1 J <| S4 1 J ?_
 refine jq h (fun j15 => St.of [(5, .sl 910005)] [(910005, ⟨List.map iF j15, (List.map iF j15).length, true, 1, true⟩)]) (fun j15 h => ?_) fun κ14 h => ?_
 ·refine S4 2 J ?_
  refine pw_ret ?_
  cases h
  exact f1
 ·refine S3 1 J ?_
  refine nL J Ty.e28 <| S2 1 J <| pw_block <| lq h (fun q => St.of [(1, .fn (.func 237) [.rptr [.L iF a1]]), (5, .sl 910005), (8, .L weak_Cell.Pv a0), (9, .I (a0.length : Int)), (10, .I q.1)] [(910005, ⟨List.map iF q.2, (List.map iF q.2).length, true, 1, true⟩)]) (Wk.trans (wk_nil (t := 5) (l := 920005) (z := 1) J J) (WP (fun l => if l = 910005 then 920005 else l))) fun q20 x19 h hx14 => ?_
  obtain ⟨s17, s18⟩ := q20
  refine S4 1 J <| pw_seq ?_
  refine cN h (fun hc h => ?_) fun hc h => ?_
  ·refine pw_skip ?_
   refine jq h (fun j25 => St.of [(1, .fn (.func 237) [.rptr [.L iF a1]]), (5, .sl 21), (8, .L weak_Cell.Pv a0), (9, .I (a0.length : Int)), (10, .I s17)] [(21, ⟨List.map iF j25, (List.map iF j25).length, true, 1, true⟩)]) (fun j25 h => ?_) fun κ24 h => ?_
   ·refine S6 2 J ?_
    exact eL h (Wk.trans (wk_frz _ [21]) (WP (fun l => if l = 910005 then 21 else l)))
   ·refine pw_block ?_
    refine S3 1 J <| iL h J J Ty.e28 Ty.s84 fun v26 _ h => S2 4 J <| S3 2 J <| cA h weak_Clear_1_ok J J fun v27 _ h => yN ?_
    refine cN h (fun hc h => ?_) fun hc h => ?_
    ·refine S5 2 J ?_
     refine y0 J (o_bI (f := iF) (l := [s17]) J Ty.e27 Ty.s3 Ty.z3 J J nl J J) <| bnE h fun v28 hv21 h => y_app J (o_apR (f := iF) hv21 J J J J J J (.inl ⟨_, J, J⟩) Ty.e27 Ty.s3 Ty.b3 Ty.z3 J (fun _ => J)) J J J <| S2 1 J ?_
     exact eJ h (Wk.trans (wk_frz _ [21]) W)
    ·refine pw_skip ?_
     exact eJ h (Wk.trans (wk_frz _ [910005]) (WP (fun l => if l = 21 then 910005 else l)))
  ·refine pw_exit ?_
   refine thenQ_exit <| thenQ_exit <| blockQ_exit ?_
   have h := xL hx14 h
   exact eJ h (Wk.trans (wk_frz _ [910005]) W)

theorem weak_Clear_ok {a0 a1} : PO Tryz.prog 189 [.L weak_Cell.Pv a0, .L iF a1] (weak_Clear a0 a1) fun r => .tup [.L weak_Cell.Pv r.1, .L iF r.2] := by
 refine pO Tryz.func189 fun r h _ _ => ?_
 unfold weak_Clear at h
 refine S4 3 J <| S3 2 J <| bnE h fun v1 hv1 h => ycL J (o_clF J weak_picked__weak_Clear_1_ok J hv1) J <| S2 1 J <| S3 1 J <| bnE h fun v2 hv2 h => ycN J (o_clN J weak_copied_okN J hv2) J J <| S2 1 J <| S4 1 J ?_
 refine jq h (fun q => St.of [(7, .sl 15), (8, .sl 910008)] [(910008, ⟨List.map iF q.1, (List.map iF q.1).length, true, 1, true⟩), (15, ⟨List.map weak_Cell.Pv q.2, 0, true, 3, true⟩)]) (fun q24 h => ?_) fun κ21 h => ?_
 ·obtain ⟨j22, j23⟩ := q24
  refine S4 4 J <| pw_ret ?_
  cases h
  exact f2
 ·refine S3 1 J ?_
  refine nL J Ty.e27 <| S2 1 J <| pw_block <| lq h (fun q => St.of [(7, .sl 15), (8, .sl 910008), (16, .L iF v1), (17, .I (v1.length : Int)), (18, .I q.1)] [(15, ⟨List.map weak_Cell.Pv q.2.1, 0, true, 3, true⟩), (910008, ⟨List.map iF q.2.2, (List.map iF q.2.2).length, true, 1, true⟩)]) (Wk.trans (wk_nil (t := 8) (l := 920008) (z := 1) J J) (WP (fun l => if l = 910008 then 920008 else l))) fun q30 x29 h hx18 => ?_
  obtain ⟨s26, s27, s28⟩ := q30
  refine S4 1 J <| pw_seq ?_
  refine cN h (fun hc h => ?_) fun hc h => ?_
  ·refine pw_skip ?_
   refine jq h (fun q => St.of [(7, .sl 15), (8, .sl 35), (16, .L iF v1), (17, .I (v1.length : Int)), (18, .I s26)] [(35, ⟨List.map iF q.1, (List.map iF q.1).length, true, 1, true⟩), (15, ⟨List.map weak_Cell.Pv q.2, 0, true, 3, true⟩)]) (fun q38 h => ?_) fun κ35 h => ?_
   ·obtain ⟨j36, j37⟩ := q38
    refine S6 2 J ?_
    exact eL h (Wk.trans (wk_frz _ [35]) (WP (fun l => if l = 910008 then 35 else l)))
   ·refine pw_block ?_
    refine sR <| iL h J J Ty.e27 Ty.s3 fun v39 _ h => S2 2 J <| S3 2 J <| bnE h fun v40 hv25 h => y0 J (o_ixR (f := weak_Cell.Pv) hv25 J J J J Ty.e28 Ty.s84 J) <| S1 1 J <| y_stE (f := weak_Cell.Pv) (v := (⟨v40.Target, false, v40.Call⟩ : weak_Cell)) hv25 J J (.inl J) Ty.s4 <| yN <| S3 2 J <| bnE h fun v41 hv26 h => y0 J (o_ixR (f := weak_Cell.Pv) hv26 J J J J Ty.e28 Ty.s84 J) <| S1 1 J <| y0 J (o_ldS (f := weak_Cell.Pv) hv26 J J J Ty.a3 J) <| S2 1 J ?_
    refine cN h (fun hc h => ?_) fun hc h => ?_
    ·refine S5 2 J ?_
     refine y0 J (o_bI (f := iF) (l := [v39]) J Ty.e27 Ty.s3 Ty.z3 J J nl J J) <| bnE h fun v42 hv27 h => y_app J (o_apR (f := iF) hv27 J J J J J J (.inl ⟨_, J, J⟩) Ty.e27 Ty.s3 Ty.b3 Ty.z3 J (fun _ => J)) J J J <| S2 1 J ?_
     exact eJ h (Wk.trans (wk_frz _ [35]) W)
    ·refine pw_skip ?_
     exact eJ h (Wk.trans (wk_frz _ [910008]) (WP (fun l => if l = 35 then 910008 else l)))
  ·refine pw_exit ?_
   refine thenQ_exit <| thenQ_exit <| blockQ_exit ?_
   have h := xL hx18 h
   exact eJ h (Wk.trans (wk_frz _ [910008]) W)

theorem settle_cleared_ok {a0 a1} : PO Tryz.prog 119 [hold_Heap.Pv a0, .L iF a1] (settle_cleared a0 a1) fun r => hold_Heap.Pv r := by
 refine pO Tryz.func119 fun r h _ _ => ?_
 refine S4 2 J <| S3 3 J <| cF h weak_Clear_ok J J fun v1 _ h => S2 5 J <| S4 3 J ?_
 refine jq h (fun j11 => St.of [(2, .ptr 2 0 0), (4, .ptr 4 0 0)] [(4, vR (.agg [.nl, .I 0, .I 0, .nl, .nl, .nl, .nl, .I 0]) 8), (2, vR (.agg [.L slab_Cell_store_Obj.Pv a0.S.S.Cells, .I a0.S.S.Last, .I a0.S.Serial, .L iF a0.Roots, .L weak_Cell.Pv v1.1, .L hash_Place.Pv a0.T, .L task_Task.Pv j11.L, .I j11.Cap]) 8)]) (fun j11 h => ?_) fun κ10 h => ?_
 ·refine S4 2 J ?_
  refine pw_ret ?_
  cases h
  exact ⟨J, [_], ⟨oL J J J Ty.a34 Ty.s34 nl J, tr⟩, J, io⟩
 ·refine S3 1 J ?_
  refine nL J Ty.e27 <| S2 1 J <| pw_block <| lq h (fun q => St.of [(2, .ptr 2 0 0), (4, .ptr 4 0 0), (5, .L weak_Cell.Pv v1.1), (18, .L iF v1.2), (19, .I (v1.2.length : Int)), (20, .I q.1)] [(4, vR (.agg [.nl, .I 0, .I 0, .nl, .nl, .nl, .nl, .I 0]) 8), (2, vR (.agg [.L slab_Cell_store_Obj.Pv a0.S.S.Cells, .I a0.S.S.Last, .I a0.S.Serial, .L iF a0.Roots, .L weak_Cell.Pv v1.1, .L hash_Place.Pv a0.T, .L task_Task.Pv q.2.L, .I q.2.Cap]) 8)]) W fun q16 x15 h hx11 => ?_
  obtain ⟨s13, s14⟩ := q16
  refine S4 1 J <| pw_seq ?_
  refine cN h (fun hc h => ?_) fun hc h => ?_
  ·refine pw_skip ?_
   refine pw_seq <| pw_block <| sR <| iL h J J Ty.e27 Ty.s3 fun v17 _ h => S2 2 J <| pw_drw [] Ty.mix (by kernel_rfl) (by kernel_rfl) <| S7 5 J <| bnE h fun v18 hv13 h => d0 J (o_ixL (f := weak_Cell.Pv) (cs := weak_Cell.Pc v18) hv13 J J Ty.e28 Ty.s84 J J) J <| S7 2 J <| d7 J (fun _ hN => o_build (cs := [.I 2, .I v17, .I v18.Call]) J Ty.p82 Ty.z82 J J J) J <| bnE h fun v19 hv14 h => d2f J (o_clF J task_Add_ok J hv14) J <| S7 4 J <| d_sto (x' := .agg [.L slab_Cell_store_Obj.Pv a0.S.S.Cells, .I a0.S.S.Last, .I a0.S.Serial, .L iF a0.Roots, .L weak_Cell.Pv v1.1, .L hash_Place.Pv a0.T, .L task_Task.Pv v19.1.L, .I v19.1.Cap]) (cl' := true) J J (.inr J) Ty.s32 <| d_nil <| S6 2 J ?_
   exact eL h W
  ·refine pw_exit ?_
   refine thenQ_exit <| thenQ_exit <| blockQ_exit ?_
   have h := xL hx11 h
   exact eJ h W

theorem vec_named_ok {a0} : PO Tryz.prog 190 [.L iF a0] (vec_named a0) fun r => .fn (.func 239) [.rptr [.L iF r]] := by
 refine pO Tryz.func190 fun r h _ _ => ?_
 unfold vec_named at h
 refine S4 2 J <| S4 2 J <| pw_ret ?_
 cases h
 exact f1

theorem vec_Names_ok {a0} : PO Tryz.prog 121 [.L iF a0] (vec_Names a0) fun r => .L iF r := by
 refine pO Tryz.func121 fun r h _ _ => ?_
 refine S4 1 J <| S4 1 J ?_
 refine jq h (fun j10 => St.of [(3, .ptr 2001 0 0)] [(2001, vS (.sl 912501) 1), (912501, ⟨List.map iF j10, (List.map iF j10).length, true, 1, true⟩)]) (fun j10 h => ?_) fun κ9 h => ?_
 ·refine S4 2 J ?_
  refine pw_ret ?_
  cases h
  exact f1
 ·refine S3 1 J ?_
  refine cF h vec_named_ok J J fun v11 _ h => yN <| pw_block <| pw_wk (WPE (fun l => if l = 2011 then 3 else l) [(3, .ptr 2011 0 0), (6, .fn (.func 239) [.rptr [.L iF v11]])] [(2011, vR (.nl) 1)]) ?_
  refine pw_range (fn := Tryz.f239) (N1 := 20) J Tryz.func239 J J nl J Ty.k239 J J (fun l17 e18 o19 hR20 => ?_)
  refine S3 1 J <| nL J Ty.e27 <| S2 1 J <| pw_block <| lq h (fun q => St.of [(1000003, .ptr 2011 0 0), (1000006, .fn (.func 239) [.rptr [.L iF v11]]), (0, .fn (.yield l17) []), (5, .L iF v11), (6, .I (v11.length : Int)), (7, .I q.1)] [(2011, vS (.sl 912511) 1), (912511, ⟨List.map iF q.2, (List.map iF q.2).length, true, 1, true⟩)]) (Wk.trans (wk_nilC (l0 := 2011) (j := 0) (l := 922511) (z := 1) J J J J J) (WP (fun l => if l = 912511 then 922511 else l))) fun q16 x15 h hx23 => ?_
  obtain ⟨s13, s14⟩ := q16
  refine S4 1 J <| pw_seq ?_
  refine cN h (fun hc h => ?_) fun hc h => ?_
  ·refine pw_skip ?_
   refine pw_seq <| pw_block <| sR <| iL h J J Ty.e27 Ty.s3 fun v17 _ h => S2 2 J <| S3 3 J <| y_if J (fun hg => om (d := .fn (.yield l17) []) J) <| y_if J (fun hg => mI J) ?_
   rcases Bool.eq_false_or_eq_true ((v17 != 0) == true) with hg25 | hg25
   ·have h := ifT h hg25
    refine y_wk (WPE (fun l => if l = 2019 then 912511 else l) [(1000003, .ptr 2011 0 0), (1000006, .fn (.func 239) [.rptr [.L iF v11]]), (0, .fn (.yield l17) []), (5, .L iF v11), (6, .I (v11.length : Int)), (7, .I s13), (13, .bool (v17 != 0)), (14, .fn (.yield l17) []), (15, .I v17)] [(2011, vS (.sl 2019) 1), (2019, ⟨List.map iF s14, (List.map iF s14).length, true, 1, true⟩)]) ?_
    refine y_yield hR20 (congrArg some hg25) J J J J J (fun e26 o27 o28 => ?_)
    refine S6 1 J ?_
    refine ⟨J, ?_⟩
    refine pw_block <| S5 2 J <| y0 J (o_bI (f := iF) (l := [v17]) J Ty.e27 Ty.s3 Ty.z3 J J nl J J) <| bnE h fun v18 hv29 h => y_app J (o_apR (f := iF) hv29 J J J J J J (.inl ⟨_, J, J⟩) Ty.e27 Ty.s3 Ty.b3 Ty.z3 J (fun _ => J)) J J J <| S2 1 J ?_
    refine ⟨J, ?_⟩
    refine y_wk (WPE (fun l => if l = 2020 then 11 else l) [(1000003, .ptr 2011 0 0), (1000006, .fn (.func 239) [.rptr [.L iF v11]]), (0, .fn (.yield l17) []), (5, .L iF v11), (6, .I (v11.length : Int)), (7, .I s13), (13, .bool (v17 != 0)), (16, .bool true)] [(2011, vS (.sl 2020) 1), (2020, ⟨List.map iF v18, s14.length, true, 1, true⟩)]) <| y0 (congrArg some hg25) (o_not J J) <| y0 J (pk_andT J J hg25) <| yN ?_
    refine pw_cond false J (fun q => nomatch q) (fun _ => ?_)
    refine pw_skip <| S6 2 J ?_
    exact eL h (Wk.trans (wk_frz _ [2020]) (WP (fun l => if l = 912511 then 2020 else l)))
   ·have h := ifF h hg25
    refine y_skip (congrArg some hg25) <| y_skip (congrArg some hg25) <| y0 J (pk_andF J J hg25) <| yN ?_
    refine pw_cond false J (fun q => nomatch q) (fun _ => ?_)
    refine pw_skip <| S6 2 J ?_
    exact eL h (Wk.trans (wk_frz _ [912511]) W)
  ·refine pw_exit ?_
   refine thenQ_exit <| thenQ_exit <| blockQ_exit ?_
   refine .inl ⟨J, ?_⟩
   have h := xL hx23 h
   exact eJ h (Wk.trans (wk_frz _ [912511]) (WP (fun l => if l = 2001 then 2011 else if l = 912501 then 912511 else l)))

theorem hash_road_ok {a0 a1} : PO Tryz.prog 229 [.I a0, .I a1] (hash_road a0 a1) fun r => .fn (.func 265) [.rptr [.I r.1], .rptr [.I r.2]] := by
 refine pO Tryz.func229 fun r h _ _ => ?_
 unfold hash_road at h
 refine S4 3 J <| S4 2 J <| pw_ret ?_
 cases h
 exact f1

theorem hash_Home_ok {a0 a1} : PO Tryz.prog 266 [.I a0, .I a1] (hash_Home a0 a1) fun r => .I r := by
 refine pO Tryz.func266 fun r h _ _ => ?_
 refine S4 1 J <| pw_seq <| S4 2 J ?_
 refine cN h (fun hc h => ?_) fun hc h => ?_
 ·refine S4 1 J ?_
  refine pw_ret ?_
  cases h
  exact f1
 ·refine pw_skip ?_
  refine S3 4 J <| bnE h fun v1 hv1 h => y0 J (o_ari J J hv1) <| S2 1 J <| pw_seq <| S4 2 J ?_
  refine cN h (fun hc h => ?_) fun hc h => ?_
  ·refine S6 4 J ?_
   refine S4 2 J <| pw_ret ?_
   cases h
   exact f1
  ·refine pw_skip ?_
   refine S4 2 J <| pw_ret ?_
   cases h
   exact f1

theorem hash_Find_ok {a0 a1} : PO Tryz.prog 227 [.L hash_Place.Pv a0, .I a1] (hash_Find a0 a1) fun r => .I r := by
 refine pO Tryz.func227 fun r h _ _ => ?_
 refine S4 3 J ?_
 refine jq h (fun _ => St.of [(4, .ptr 2001 0 0)] [(2001, vR (.I 0) 1)]) (fun q9 h => ?_) fun κ8 h => ?_
 ·refine S4 1 J ?_
  refine pw_ret ?_
  cases h
  exact ⟨J, [_], ⟨oS J J J Ty.a3 J, tr⟩, J, io⟩
 ·refine S3 1 J ?_
  refine nL J Ty.e29 <| S1 1 J <| cF h hash_road_ok J J fun v10 _ h => yN <| pw_block <| pw_wk (WPE (fun l => if l = 2004 then 4 else if l = 2005 then 3 else if l = 2006 then 2 else l) [(2, .ptr 2006 0 0), (3, .ptr 2005 0 0), (4, .ptr 2004 0 0), (9, .fn (.func 265) [.rptr [.I v10.1], .rptr [.I v10.2]])] [(2004, vR (.I 0) 1), (2005, vR (.I a1) 1), (2006, vR (.L hash_Place.Pv a0) 1)]) ?_
  refine pw_range (fn := Tryz.f265) (N1 := 20) J Tryz.func265 J J nl J Ty.k265 J J (fun l17 e18 o19 hR20 => ?_)
  refine S4 2 J <| pw_block <| lq h (fun s12 => St.of [(1000002, .ptr 2006 0 0), (1000003, .ptr 2005 0 0), (1000004, .ptr 2004 0 0), (1000009, .fn (.func 265) [.rptr [.I v10.1], .rptr [.I v10.2]]), (0, .fn (.yield l17) []), (1, .rptr [.I v10.1]), (2, .rptr [.I v10.2]), (5, .I v10.1), (6, .I s12)] [(2004, vR (.I 0) 1), (2005, vR (.I a1) 1), (2006, vR (.L hash_Place.Pv a0) 1)]) W fun s12 x13 h hx23 => S4 1 J <| pw_seq ?_
  refine cN h (fun hc h => ?_) fun hc h => ?_
  ·refine pw_skip ?_
   refine pw_seq <| pw_block <| S4 2 J <| drY [] 8 Ty.mix (by kernel_rfl) (by kernel_rfl) (by kernel_rfl) (by kernel_rfl) nl <| S7 3 J <| bnE h fun v14 hv24 h => d2 J (o_cl J hash_Home_ok J hv24) J <| S7 3 J <| bnE h fun v15 hv25 h => d7 J (fun _ hN => o_ari J J hv25) J <| d_nil <| opq_wk (WE [(1000002, .ptr 2006 0 0), (1000003, .ptr 2005 0 0), (1000004, .ptr 2004 0 0), (1000009, .fn (.func 265) [.rptr [.I v10.1], .rptr [.I v10.2]]), (0, .fn (.yield l17) []), (1, .rptr [.I v10.1]), (2, .rptr [.I v10.2]), (5, .I v10.1), (6, .I s12), (9, .fn (.yield l17) []), (16, .I v15)] [(2004, vR (.I 0) 1), (2005, vR (.I a1) 1), (2006, vR (.L hash_Place.Pv a0) 1)]) ?_
   refine y_yield0 J hR20 J J J J J J (fun e26 o27 o28 => ?_)
   refine S6 1 J ?_
   refine ⟨J, ?_⟩
   refine pw_block <| pw_seq <| S3 2 J <| iL h J J Ty.e29 Ty.s183 fun v16 hv29 h => S2 3 J ?_
   refine cN h (fun hc h => ?_) fun hc h => ?_
   ·refine pw_exit ?_
    refine thenQ_exit <| blockQ_other (by decide) ?_
    refine ⟨J, ?_⟩
    refine ⟨_, wk_st [(1000002, .ptr 2006 0 0), (1000003, .ptr 2005 0 0), (1000004, .ptr 2004 0 0), (1000009, .fn (.func 265) [.rptr [.I v10.1], .rptr [.I v10.2]]), (0, .fn (.yield l17) []), (1, .rptr [.I v10.1]), (2, .rptr [.I v10.2]), (5, .I v10.1), (6, .I s12), (17, .bool false)] [(2004, vR (.I 0) 1), (2005, vR (.I a1) 1), (2006, vR (.L hash_Place.Pv a0) 1)] ⟨J, J, J, J, J, J, J, J, J, J, J, J, J, J, J, J, J, J, J, J, J, J, J, J, J, J, J, J, J, J, tr⟩ ⟨rS, rS, rS, tr⟩, ?_⟩
    refine S8 1 J ?_
    refine pw_cond true J (fun _ => ?_) (fun q => nomatch q)
    refine pw_ret ?_
    refine .inr ⟨.exit 0, J, jmpE ?_⟩
    refine blockQ_exit ?_
    have h := xL hx23 h
    exact eJ h (WP (fun l => if l = 2001 then 2004 else l))
   ·refine pw_skip ?_
    refine dr [] Ty.mix (by kernel_rfl) (by kernel_rfl) <| S7 2 J <| d0 J (o_ixL (f := hash_Place.Pv) (cs := hash_Place.Pc v16) hv29 J J Ty.e29 Ty.s183 J J) J <| S7 4 J <| d_if0 J (fun hg => oS J J J Ty.a29 J) J <| d_if7 J (fun hg _ hN => mI J) J <| d_if0 J (fun hg => o_ixL (f := hash_Place.Pv) (cs := hash_Place.Pc v16) hv29 (ct hg) (ct hg) Ty.e29 Ty.s183 J J) J <| d_if7 J (fun hg _ hN => o_fieldAddrR (ct hg) Ty.f183_1 J) J <| d_if0 J (fun hg => o_loadRS (ct hg) Ty.a3 J) J <| d_if0 J (fun hg => oS J J J Ty.a3 J) J <| d_if7 J (fun hg _ hN => o_cmp (ct hg) (ct hg) J) J <| d7 J (fun _ hN => pk_and J J J (fun q => eqT q)) J <| d_nil ?_
    refine cN h (fun hc h => ?_) fun hc h => ?_
    ·refine S4 2 J ?_
     refine pw_ret ?_
     refine ⟨J, ?_⟩
     refine ⟨_, wk_st [(1000002, .ptr 2006 0 0), (1000003, .ptr 2005 0 0), (1000004, .ptr 2004 0 0), (1000009, .fn (.func 265) [.rptr [.I v10.1], .rptr [.I v10.2]]), (0, .fn (.yield l17) []), (1, .rptr [.I v10.1]), (2, .rptr [.I v10.2]), (5, .I v10.1), (6, .I s12), (17, .bool false)] [(2004, vR (.I v15) 1), (2005, vR (.I a1) 1), (2006, vR (.L hash_Place.Pv a0) 1)] ⟨J, J, J, J, J, J, J, J, J, J, J, J, J, J, J, J, J, J, J, J, J, J, J, J, J, J, J, J, J, J, tr⟩ ⟨rS, rS, rS, tr⟩, ?_⟩
     refine S8 1 J ?_
     refine pw_cond true J (fun _ => ?_) (fun q => nomatch q)
     refine pw_ret ?_
     refine .inr ⟨.ret, J, jmpR ?_⟩
     have h := xL hx23 h
     cases h
     exact ⟨J, [_], ⟨oS J J J Ty.a3 J, tr⟩, J, io⟩
    ·refine pw_skip ?_
     refine ⟨J, ?_⟩
     refine ⟨_, wk_st [(1000002, .ptr 2006 0 0), (1000003, .ptr 2005 0 0), (1000004, .ptr 2004 0 0), (1000009, .fn (.func 265) [.rptr [.I v10.1], .rptr [.I v10.2]]), (0, .fn (.yield l17) []), (1, .rptr [.I v10.1]), (2, .rptr [.I v10.2]), (5, .I v10.1), (6, .I s12), (17, .bool true)] [(2004, vR (.I 0) 1), (2005, vR (.I a1) 1), (2006, vR (.L hash_Place.Pv a0) 1)] ⟨J, J, J, J, J, J, J, J, J, J, J, J, J, J, J, J, J, J, J, J, J, J, J, J, J, J, J, J, J, J, tr⟩ ⟨rS, rS, rS, tr⟩, ?_⟩
     refine S8 1 J ?_
     refine pw_cond false J (fun q => nomatch q) (fun _ => ?_)
     refine pw_skip <| S6 2 J ?_
     exact eL h W
  ·refine pw_exit ?_
   refine thenQ_exit <| thenQ_exit <| blockQ_exit ?_
   refine .inl ⟨J, ?_⟩
   have h := xL hx23 h
   exact eJ h (WP (fun l => if l = 2001 then 2004 else l))

theorem slices_Clone_hash_Place_hash_Place_okN {a0} : PON Tryz.prog 264 [.L hash_Place.Pv a0] (slices_Clone_hash_Place_hash_Place a0) fun r => ⟨List.map hash_Place.Pv r, 0, true, 3, true⟩ := by
 refine pON Tryz.func264 fun r h _ _ => ?_
 unfold slices_Clone_hash_Place_hash_Place at h
 refine S4 1 J <| pw_seq <| S3 1 J <| y_eqnil J Ty.e29 fun b hb => yN ?_
 refine pw_cond b J (fun hc => ?_) (fun hc => ?_)
 ·obtain rfl : a0 = [] := by simpa using hb hc
  refine S4 1 J <| pw_wk (wk_nil (t := 2) (l := 920000) (z := 3) J J) <| pw_ret ?_
  cases h
  exact ⟨J, _, _, J, J, J, J⟩
 ·refine pw_skip ?_
  refine sR <| y0 J (o_nslice J Ty.e29 Ty.s183) <| S1 1 J <| y1 J (o_apT (f := hash_Place.Pv) h J J (.inl ⟨_, J, J⟩) Ty.e29 Ty.s183 Ty.b183 Ty.z183 J (fun _ => J)) J <| S2 1 J <| pw_ret ?_
  exact ⟨J, _, _, J, J, J, J⟩

theorem hash_with_ok {a0 a1 a2} : PO Tryz.prog 228 [.L hash_Place.Pv a0, .I a1, hash_Place.Pv a2] (hash_with a0 a1 a2) fun r => .L hash_Place.Pv r := by
 refine pO Tryz.func228 fun r h _ _ => ?_
 unfold hash_with at h
 refine S4 2 J <| S3 1 J <| bnE h fun v1 hv1 h => ycN J (o_clN J slices_Clone_hash_Place_hash_Place_okN J hv1) J J <| S2 1 J <| S3 3 J <| bnE h fun v2 hv2 h => y0 J (o_ixR (f := hash_Place.Pv) hv2 J J J J Ty.e29 Ty.s183 J) <| y_stE (f := hash_Place.Pv) (v := a2) hv2 J J (.inl J) Ty.s183 <| yN <| S4 2 J <| pw_ret ?_
 cases h
 exact f1

theorem hash_Drop_ok {a0 a1} : PO Tryz.prog 170 [.L hash_Place.Pv a0, .I a1] (hash_Drop a0 a1) fun r => .tup [.L hash_Place.Pv r.1, .I r.2.1, .I r.2.2] := by
 refine pO Tryz.func170 fun r h _ _ => ?_
 refine S4 3 J <| S3 2 J <| cA h hash_Find_ok J J fun v1 _ h => S2 1 J <| pw_seq <| S4 2 J ?_
 refine cN h (fun hc h => ?_) fun hc h => ?_
 ·refine S4 4 J ?_
  refine pw_ret ?_
  cases h
  exact f3
 ·refine pw_skip ?_
  refine dr [] Ty.mix (by kernel_rfl) (by kernel_rfl) <| S7 2 J <| d7 J (fun _ hN => o_build (cs := [.I 2, .I 0, .I 0]) J Ty.p183 Ty.z183 J J J) J <| bnE h fun v2 hv2 h => d2f J (o_clF J hash_with_ok J hv2) J <| S7 2 J <| bnE h fun v3 hv3 h => d0 J (o_ixL (f := hash_Place.Pv) (cs := hash_Place.Pc v3) hv3 J J Ty.e29 Ty.s183 J J) J <| S8 5 J <| pw_ret ?_
  cases h
  exact f3

theorem ephem_Without_ok {a0 a1} : PO Tryz.prog 122 [.L hash_Place.Pv a0, .L iF a1] (ephem_Without a0 a1) fun r => .tup [.L hash_Place.Pv r.1, .L iF r.2] := by
 refine pO Tryz.func122 fun r h _ _ => ?_
 refine S4 2 J <| S4 1 J ?_
 refine jq h (fun q => St.of [(0, .L hash_Place.Pv q.1), (6, .sl 910006)] [(910006, ⟨List.map iF q.2, (List.map iF q.2).length, true, 1, true⟩)]) (fun q20 h => ?_) fun κ17 h => ?_
 ·obtain ⟨j18, j19⟩ := q20
  refine S4 4 J <| pw_ret ?_
  cases h
  exact f2
 ·refine S3 1 J ?_
  refine nL J Ty.e27 <| S2 1 J <| pw_block <| lq h (fun q => St.of [(0, .L hash_Place.Pv q.1), (6, .sl 910006), (12, .L iF a1), (13, .I (a1.length : Int)), (14, .I q.2.1)] [(910006, ⟨List.map iF q.2.2, (List.map iF q.2.2).length, true, 1, true⟩)]) (Wk.trans (wk_nil (t := 6) (l := 920006) (z := 1) J J) (WP (fun l => if l = 910006 then 920006 else l))) fun q26 x25 h hx14 => ?_
  obtain ⟨s22, s23, s24⟩ := q26
  refine S4 1 J <| pw_seq ?_
  refine cN h (fun hc h => ?_) fun hc h => ?_
  ·refine pw_skip ?_
   refine jq h (fun q => St.of [(0, .L hash_Place.Pv q.1), (6, .sl 31), (12, .L iF a1), (13, .I (a1.length : Int)), (14, .I s23)] [(31, ⟨List.map iF q.2, (List.map iF q.2).length, true, 1, true⟩)]) (fun q33 h => ?_) fun κ30 h => ?_
   ·obtain ⟨j31, j32⟩ := q33
    refine S6 2 J ?_
    exact eL h (Wk.trans (wk_frz _ [31]) (WP (fun l => if l = 910006 then 31 else l)))
   ·refine pw_block ?_
    refine sR <| iL h J J Ty.e27 Ty.s3 fun v34 _ h => S2 2 J <| S3 2 J <| cF h hash_Drop_ok J J fun v35 _ h => S2 7 J <| S4 2 J ?_
    refine cN h (fun hc h => ?_) fun hc h => ?_
    ·refine S5 3 J ?_
     refine y0 J (o_bI (f := iF) (l := [v35.2.1]) J Ty.e27 Ty.s3 Ty.z3 J J nl J J) <| bnE h fun v36 hv21 h => y_app J (o_apR (f := iF) hv21 J J J J J J (.inl ⟨_, J, J⟩) Ty.e27 Ty.s3 Ty.b3 Ty.z3 J (fun _ => J)) J J J <| S2 2 J ?_
     exact eJ h (Wk.trans (wk_frz _ [31]) W)
    ·refine pw_skip ?_
     exact eJ h (Wk.trans (wk_frz _ [910006]) (WP (fun l => if l = 31 then 910006 else l)))
  ·refine pw_exit ?_
   refine thenQ_exit <| thenQ_exit <| blockQ_exit ?_
   have h := xL hx14 h
   exact eJ h (Wk.trans (wk_frz _ [910006]) W)

theorem slab_Kill_store_Obj_ok {a0 a1} : PO Tryz.prog 191 [slab_Slab_store_Obj.Pv a0, .I a1] (slab_Kill_store_Obj a0 a1) fun r => .tup [slab_Slab_store_Obj.Pv r.1, .I r.2] := by
 refine pO Tryz.func191 fun r h _ _ => ?_
 refine S4 3 J <| S3 2 J <| cF h slab_Get_store_Obj_ok J J fun v1 _ h => S2 6 J <| pw_seq <| S4 2 J ?_
 refine cN h (fun hc h => ?_) fun hc h => ?_
 ·refine S4 4 J ?_
  refine pw_ret ?_
  cases h
  exact ⟨J, [_, _], ⟨oL J J J Ty.a24 Ty.s24 nl J, ⟨J, tr⟩⟩, J, io⟩
 ·refine pw_skip ?_
  refine dr [] Ty.mix (by kernel_rfl) (by kernel_rfl) <| S7 2 J <| bnE h fun v2 hv2 h => d2 J (o_cl J handle_Slot_ok J hv2) J <| S7 1 J <| bnE h fun v3 hv3 h => d2 J (o_cl J handle_Gen_ok J hv3) J <| S7 1 J <| d7 J (fun _ hN => o_build (cs := [.I 2, .I v3, .I v1.1.Serial, .I v1.1.Strong, .I v1.1.Weak, .I v1.1.Prog, .bool v1.1.Started, .L iF v1.1.Fields]) J Ty.p141 Ty.z141 J J J) J <| bnE h fun v4 hv4 h => d2f J (o_clF J slab_with_store_Obj_ok J hv4) J <| d_sto (x' := slab_Slab_store_Obj.Pv v4) (cl' := true) J J (.inr J) Ty.s24 <| S8 1 J <| pw_ret ?_
  cases h
  exact ⟨J, [_, _], ⟨oL J J J Ty.a24 Ty.s24 nl J, ⟨J, tr⟩⟩, J, io⟩

theorem settle_killed_ok {a0 a1} : PO Tryz.prog 123 [hold_Heap.Pv a0, .I a1] (settle_killed a0 a1) fun r => hold_Heap.Pv r := by
 refine pO Tryz.func123 fun r h _ _ => ?_
 refine S4 2 J <| S3 3 J <| cF h store_Get_ok J J fun v1 _ h => S2 6 J <| S3 1 J <| y_sto (x' := .agg [.I v1.1.Serial, .I v1.1.Strong, .I v1.1.Weak, .I v1.1.Prog, .bool v1.1.Started, .nl]) (cl' := true) J J (.inl J) Ty.s27 <| S1 1 J <| y_sto (x' := .agg [.I v1.1.Serial, .I 0, .I v1.1.Weak, .I v1.1.Prog, .bool v1.1.Started, .nl]) (cl' := true) J J (.inl J) Ty.s3 <| yN <| S3 4 J <| cF h store_Set_ok J J fun v2 _ h => S2 5 J <| S3 4 J <| cF h slab_Kill_store_Obj_ok J J fun v3 _ h => S2 6 J <| pw_seq <| S4 3 J ?_
 refine cN h (fun hc h => ?_) fun hc h => ?_
 ·refine S5 4 J ?_
  refine cF h slab_Give_store_Obj_ok J J fun v4 _ h => S2 6 J <| S4 2 J <| pw_ret ?_
  cases h
  exact ⟨J, [_], ⟨oL J J J Ty.a34 Ty.s34 nl J, tr⟩, J, io⟩
 ·refine pw_skip ?_
  refine S4 2 J <| pw_ret ?_
  cases h
  exact ⟨J, [_], ⟨oL J J J Ty.a34 Ty.s34 nl J, tr⟩, J, io⟩

theorem settle_Bury_ok {a0 a1} : PO Tryz.prog 51 [hold_Heap.Pv a0, .L iF a1] (settle_Bury a0 a1) fun r => hold_Heap.Pv r := by
 refine pO Tryz.func51 fun r h _ _ => ?_
 refine S4 2 J <| S3 2 J <| cF h settle_livesOnce_ok J J fun v1 _ h => S2 1 J <| S3 2 J <| cF h settle_cleared_ok J J fun v2 _ h => S2 1 J <| S4 1 J <| S4 2 J ?_
 refine jq h (fun j13 => St.of [(2, .ptr 2 0 0), (4, .ptr 4 0 0), (5, .L iF v1), (6, .ptr 6 0 0), (7, .fn (.func 120) [.ptr 6 0 0])] [(6, vS (.sl 910506) 1), (910506, ⟨List.map iF j13, (List.map iF j13).length, true, 1, true⟩), (4, vR (.agg [.nl, .I 0, .I 0, .nl, .nl, .nl, .nl, .I 0]) 8), (2, vR (hold_Heap.Pv v2) 8)]) (fun j13 h => ?_) fun κ12 h => ?_
 ·refine S3 3 J ?_
  refine cF h ephem_Without_ok J J fun v14 _ h => S2 5 J <| S3 2 J <| y_wk (WPE (fun l => if l = 2025 then 6 else if l = 2026 then 4 else if l = 2027 then 2 else if l = 2028 then 910506 else l) [(2, .ptr 2027 0 0), (4, .ptr 2026 0 0), (5, .L iF v1), (6, .ptr 2025 0 0), (12, .L hash_Place.Pv v14.1), (51, .fn (.func 120) [.ptr 2025 0 0]), (52, .L iF v14.2)] [(2025, vS (.sl 2028) 1), (2028, ⟨List.map iF j13, (List.map iF j13).length, true, 1, true⟩), (2026, vR (.agg [.nl, .I 0, .I 0, .nl, .nl, .nl, .nl, .I 0]) 8), (2027, vR (hold_Heap.Pv v2) 8)]) ?_
  refine y_inl (fn := Tryz.f120) (N1 := 6) J J Tryz.func120 J Ty.k120 J J nl (fun e14 o15 => ?_)
  refine S5 2 J <| bnE h fun v15 hv16 h => y_app J (o_apR (f := iF) hv16 J J J J J J (.inl ⟨_, J, J⟩) Ty.e27 Ty.s3 Ty.b3 Ty.z3 J (fun _ => J)) J J J <| S2 1 J ?_
  refine ⟨J, [], tr, ?_⟩
  refine y_wk (WPE (fun l => if l = 2029 then 5 else l) [(2, .ptr 2027 0 0), (4, .ptr 2026 0 0), (5, .L iF v1), (6, .ptr 2025 0 0), (12, .L hash_Place.Pv v14.1)] [(2025, vS (.sl 2029) 1), (2029, ⟨List.map iF v15, j13.length, true, 1, true⟩), (2026, vR (.agg [.nl, .I 0, .I 0, .nl, .nl, .nl, .nl, .I 0]) 8), (2027, vR (hold_Heap.Pv v2) 8)]) <| yN <| S4 3 J ?_
  refine jq h (fun j24 => St.of [(2, .ptr 2027 0 0), (4, .ptr 2026 0 0), (6, .ptr 2025 0 0)] [(2025, vS (.sl 2029) 1), (2029, ⟨List.map iF v15, j13.length, true, 1, true⟩), (2026, vR (.agg [.nl, .I 0, .I 0, .nl, .nl, .nl, .nl, .I 0]) 8), (2027, vR (hold_Heap.Pv j24) 8)]) (fun j24 h => ?_) fun κ23 h => ?_
  ·refine jq h (fun j33 => St.of [(2, .ptr 2027 0 0), (4, .ptr 2026 0 0)] [(2026, vR (.agg [.nl, .I 0, .I 0, .nl, .nl, .nl, .nl, .I 0]) 8), (2027, vR (hold_Heap.Pv j33) 8)]) (fun j33 h => ?_) fun κ32 h => ?_
   ·refine S4 2 J ?_
    refine pw_ret ?_
    cases h
    exact ⟨J, [_], ⟨oL J J J Ty.a34 Ty.s34 nl J, tr⟩, J, io⟩
   ·refine S3 1 J ?_
    refine y0 J (o_lnR (f := iF) J J J Ty.e27) <| S2 1 J <| pw_block <| lq h (fun q => St.of [(2, .ptr 2027 0 0), (4, .ptr 2026 0 0), (66, .sl 2029), (67, .I (v15.length : Int)), (68, .I q.1)] [(2029, ⟨List.map iF v15, j13.length, true, 1, true⟩), (2026, vR (.agg [.nl, .I 0, .I 0, .nl, .nl, .nl, .nl, .I 0]) 8), (2027, vR (hold_Heap.Pv q.2) 8)]) W fun q38 x37 h hx31 => ?_
    obtain ⟨s35, s36⟩ := q38
    refine S4 1 J <| pw_seq ?_
    refine cN h (fun hc h => ?_) fun hc h => ?_
    ·refine pw_skip ?_
     refine pw_seq <| pw_block <| sR <| bnE h fun v39 hv32 h => y0 J (o_ixR (f := iF) hv32 J J J J Ty.e27 Ty.s3 J) <| y0 J (o_ldS (f := iF) hv32 J J J Ty.a3 J) <| S2 1 J <| S5 2 J <| cF h hold_Release_ok J J fun v40 _ h => S2 1 J <| S6 2 J ?_
     exact eL h W
    ·refine pw_exit ?_
     refine thenQ_exit <| thenQ_exit <| blockQ_exit ?_
     have h := xL hx31 h
     exact eJ h W
  ·refine S3 1 J ?_
   refine nL J Ty.e27 <| S2 1 J <| pw_block <| lq h (fun q => St.of [(2, .ptr 2027 0 0), (4, .ptr 2026 0 0), (6, .ptr 2025 0 0), (56, .L iF v1), (57, .I (v1.length : Int)), (58, .I q.1)] [(2025, vS (.sl 2029) 1), (2029, ⟨List.map iF v15, j13.length, true, 1, true⟩), (2026, vR (.agg [.nl, .I 0, .I 0, .nl, .nl, .nl, .nl, .I 0]) 8), (2027, vR (hold_Heap.Pv q.2) 8)]) W fun q45 x44 h hx36 => ?_
   obtain ⟨s42, s43⟩ := q45
   refine S4 1 J <| pw_seq ?_
   refine cN h (fun hc h => ?_) fun hc h => ?_
   ·refine pw_skip ?_
    refine pw_seq <| pw_block <| sR <| iL h J J Ty.e27 Ty.s3 fun v46 _ h => S2 2 J <| S5 2 J <| cF h settle_killed_ok J J fun v47 _ h => S2 1 J <| S6 2 J ?_
    exact eL h W
   ·refine pw_exit ?_
    refine thenQ_exit <| thenQ_exit <| blockQ_exit ?_
    have h := xL hx36 h
    exact eJ h W
 ·refine S3 1 J ?_
  refine nL J Ty.e27 <| S2 1 J <| pw_block <| lq h (fun q => St.of [(2, .ptr 2 0 0), (4, .ptr 4 0 0), (5, .L iF v1), (6, .ptr 6 0 0), (7, .fn (.func 120) [.ptr 6 0 0]), (25, .L iF v1), (26, .I (v1.length : Int)), (27, .I q.1)] [(6, vS (.sl 910506) 1), (4, vR (.agg [.nl, .I 0, .I 0, .nl, .nl, .nl, .nl, .I 0]) 8), (2, vR (hold_Heap.Pv v2) 8), (910506, ⟨List.map iF q.2, (List.map iF q.2).length, true, 1, true⟩)]) (Wk.trans (wk_nilC (l0 := 6) (j := 0) (l := 920506) (z := 1) J J J J J) (WP (fun l => if l = 910506 then 920506 else l))) fun q52 x51 h hx41 => ?_
  obtain ⟨s49, s50⟩ := q52
  refine S4 1 J <| pw_seq ?_
  refine cN h (fun hc h => ?_) fun hc h => ?_
  ·refine pw_skip ?_
   refine pw_seq <| pw_block <| sR <| iL h J J Ty.e27 Ty.s3 fun v53 _ h => S2 2 J <| S3 3 J <| cF h store_Get_ok J J fun v54 _ h => S2 6 J <| S5 3 J <| cF h vec_Names_ok J J fun v55 _ h => y_wk (WPE (fun l => if l = 2049 then 6 else if l = 2050 then 4 else if l = 2051 then 2 else if l = 2052 then 910506 else l) [(2, .ptr 2051 0 0), (4, .ptr 2050 0 0), (5, .L iF v1), (6, .ptr 2049 0 0), (7, .fn (.func 120) [.ptr 2049 0 0]), (25, .L iF v1), (26, .I (v1.length : Int)), (27, .I s49), (38, .fn (.func 120) [.ptr 2049 0 0]), (41, .L iF v55)] [(2049, vS (.sl 2052) 1), (2052, ⟨List.map iF s50, (List.map iF s50).length, true, 1, true⟩), (2050, vR (.agg [.nl, .I 0, .I 0, .nl, .nl, .nl, .nl, .I 0]) 8), (2051, vR (hold_Heap.Pv v2) 8)]) ?_
   refine y_inl (fn := Tryz.f120) (N1 := 6) J J Tryz.func120 J Ty.k120 J J nl (fun e45 o46 => ?_)
   refine S5 2 J <| bnE h fun v56 hv47 h => y_app J (o_apR (f := iF) hv47 J J J J J J (.inl ⟨_, J, J⟩) Ty.e27 Ty.s3 Ty.b3 Ty.z3 J (fun _ => J)) J J J <| S2 1 J ?_
   refine ⟨J, [], tr, ?_⟩
   refine y_wk (WPE (fun l => if l = 2053 then 5 else l) [(2, .ptr 2051 0 0), (4, .ptr 2050 0 0), (5, .L iF v1), (6, .ptr 2049 0 0), (7, .fn (.func 120) [.ptr 2049 0 0]), (25, .L iF v1), (26, .I (v1.length : Int)), (27, .I s49)] [(2049, vS (.sl 2053) 1), (2053, ⟨List.map iF v56, s50.length, true, 1, true⟩), (2050, vR (.agg [.nl, .I 0, .I 0, .nl, .nl, .nl, .nl, .I 0]) 8), (2051, vR (hold_Heap.Pv v2) 8)]) <| yN <| S6 2 J ?_
   exact eL h (Wk.trans (wk_frz _ [2053]) (WP (fun l => if l = 2 then 2051 else if l = 4 then 2050 else if l = 6 then 2049 else if l = 910506 then 2053 else l)))
  ·refine pw_exit ?_
   refine thenQ_exit <| thenQ_exit <| blockQ_exit ?_
   have h := xL hx41 h
   exact eJ h (Wk.trans (wk_frz _ [910506]) W)

theorem settle_Settle_ok {a0} : PO Tryz.prog 39 [hold_Heap.Pv a0] (settle_Settle a0) fun r => hold_Heap.Pv r := by
 refine pO Tryz.func39 fun r h _ _ => ?_
 refine S4 2 J <| lqS h (fun s2 => St.of [(1, .ptr 1 0 0), (2, .ptr 2 0 0)] [(2, vR (.agg [.nl, .I 0, .I 0, .nl, .nl, .nl, .nl, .I 0]) 8), (1, vR (hold_Heap.Pv s2) 8)]) W fun s2 x3 h hx3 => S3 1 J <| cF h settle_Zero_ok J J fun v4 _ h => S2 1 J <| pw_seq <| S3 1 J <| nL J Ty.e27 <| S2 1 J ?_
 refine cN h (fun hc h => ?_) fun hc h => ?_
 ·refine S4 2 J ?_
  refine pw_ret ?_
  have h := xL hx3 h
  cases h
  exact ⟨J, [_], ⟨oL J J J Ty.a34 Ty.s34 nl J, tr⟩, J, io⟩
 ·refine pw_skip ?_
  refine pw_seq <| dr [] Ty.mix (by kernel_rfl) (by kernel_rfl) <| S7 3 J <| bnE h fun v5 hv5 h => d0 J (o_ixL (f := iF) (cs := [.I v5]) hv5 J J Ty.e27 Ty.s3 J J) J <| S7 1 J <| bnE h fun v6 hv6 h => d2f J (o_clF J store_Get_ok J hv6) J <| S7 4 J <| d_sto (x' := store_Obj.Pv v6.1) (cl' := true) J J (.inr J) Ty.s91 <| S8 1 J <| S3 1 J <| cA h settle_owesRun_ok J J fun v7 _ h => yN ?_
  refine cN h (fun hc h => ?_) fun hc h => ?_
  ·refine pw_drw [] Ty.mix (by kernel_rfl) (by kernel_rfl) ?_
   refine S7 2 J <| d0 J (o_ixL (f := iF) (cs := [.I v5]) hv5 J J Ty.e27 Ty.s3 J J) J <| S7 1 J <| bnE h fun v8 hv8 h => d2f J (o_clF J settle_Queued_ok J hv8) J <| d_sto (x' := hold_Heap.Pv v8) (cl' := true) J J (.inr J) Ty.s34 <| d_nil <| pw_goto ?_
   exact eS h W
  ·refine pw_drw [] Ty.mix (by kernel_rfl) (by kernel_rfl) ?_
   refine S7 2 J <| bnE h fun v9 hv9 h => d0 J (o_cutL (f := iF) hv9 J J ⟨_, J⟩ Ty.e27 Ty.s3 (fun _ => J)) J <| bnE h fun v10 hv10 h => d2f J (o_clF J settle_Bury_ok J hv10) J <| d_sto (x' := hold_Heap.Pv v10) (cl' := true) J J (.inr J) Ty.s34 <| d_nil <| pw_goto ?_
   exact eS h W

theorem weak_Load_ok {a0 a1} : PO Tryz.prog 109 [.L weak_Cell.Pv a0, .I a1] (weak_Load a0 a1) fun r => .tup [.I r.1, .I r.2] := by
 refine pO Tryz.func109 fun r h _ _ => ?_
 refine S4 2 J <| pw_seq <| S3 2 J <| cA h weak_has_ok J J fun v1 _ h => S2 1 J ?_
 refine cN h (fun hc h => ?_) fun hc h => ?_
 ·refine S4 2 J ?_
  refine pw_ret ?_
  cases h
  exact f2
 ·refine pw_skip ?_
  refine pw_seq <| S3 2 J <| iL h J J Ty.e28 Ty.s84 fun v2 hv2 h => S1 4 J <| y_if J (fun hg => om (d := .L weak_Cell.Pv a0) J) <| y_if J (fun hg => mI J) <| y_if J (fun hg => o_ixL (f := weak_Cell.Pv) (cs := weak_Cell.Pc v2) hv2 (ct hg) (ct hg) Ty.e28 Ty.s84 J J) <| y_if J (fun hg => o_fieldAddrR (ct hg) Ty.f84_1 J) <| y_if J (fun hg => o_loadRS (ct hg) Ty.a4 J) <| y_if J (fun hg => o_not (ct hg) J) <| y0 J (pk_or J J J (fun q => eqF q)) <| yN ?_
  refine cN h (fun hc h => ?_) fun hc h => ?_
  ·refine S4 2 J ?_
   refine pw_ret ?_
   cases h
   exact f2
  ·refine pw_skip ?_
   refine S3 2 J <| y0 J (o_ixL (f := weak_Cell.Pv) (cs := weak_Cell.Pc v2) hv2 J J Ty.e28 Ty.s84 J J) <| S2 4 J <| pw_ret ?_
   cases h
   exact f2

theorem settle_Settled_ok {a0} : PO Tryz.prog 44 [hold_Heap.Pv a0] (settle_Settled a0) fun r => .bool r := by
 refine pO Tryz.func44 fun r h _ _ => ?_
 refine S4 2 J <| S3 1 J <| cF h settle_Zero_ok J J fun v1 _ h => nL J Ty.e27 <| S2 2 J <| pw_ret ?_
 cases h
 exact f1

theorem store_rules_ok : PO Tryz.prog 253 [] (store_rules) fun r => .lst true (List.map store_rule.Pv r) := by
 refine pO Tryz.func253 fun r h _ _ => ?_
 unfold store_rules at h
 refine S4 1 J <| sR <| y0 J (o_build (cs := [.fn (.func 275) []]) J Ty.p281 Ty.z281 J J J) <| y_wk (wk_fv 1 (d' := .agg [fvE (some 275)]) J) <| y0 J (o_build (cs := [.fn (.func 276) []]) J Ty.p281 Ty.z281 J J J) <| y_wk (wk_fv 2 (d' := .agg [fvE (some 276)]) J) <| y0 J (o_build (cs := [.fn (.func 277) []]) J Ty.p281 Ty.z281 J J J) <| y_wk (wk_fv 3 (d' := .agg [fvE (some 277)]) J) <| y0 J (o_build (cs := [.fn (.func 278) []]) J Ty.p281 Ty.z281 J J J) <| y_wk (wk_fv 4 (d' := .agg [fvE (some 278)]) J) <| y0 J (o_bI (f := store_rule.Pv) (l := [(⟨(some 275)⟩ : store_rule), (⟨(some 276)⟩ : store_rule), (⟨(some 277)⟩ : store_rule), (⟨(some 278)⟩ : store_rule)]) J Ty.e277 Ty.s281 Ty.z281 J J nl J J) <| S2 1 J <| pw_ret ?_
 cases h
 exact f1

theorem store_stateFits_ok {a0 a1} : PO Tryz.prog 275 [store_Store.Pv a0, slab_Cell_store_Obj.Pv a1] (store_stateFits a0 a1) fun r => .bool r := by
 refine pO Tryz.func275 fun r h _ _ => ?_
 unfold store_stateFits at h
 refine S4 3 J <| S3 4 J <| y_if J (fun hg => oF J Ty.f141_0 J) <| y_if J (fun hg => oS (ct hg) J J Ty.a3 J) <| y_if J (fun hg => o_cmp (ct hg) J J) <| y0 J (pk_and J J J (fun q => eqT q)) <| S2 1 J <| pw_ret ?_
 cases h
 exact f1

theorem store_generationFits_ok {a0 a1} : PO Tryz.prog 276 [store_Store.Pv a0, slab_Cell_store_Obj.Pv a1] (store_generationFits a0 a1) fun r => .bool r := by
 refine pO Tryz.func276 fun r h _ _ => ?_
 unfold store_generationFits at h
 refine S4 3 J <| S3 4 J <| y_if J (fun hg => oF J Ty.f141_1 J) <| y_if J (fun hg => oS (ct hg) J J Ty.a3 J) <| y_if J (fun hg => oF J Ty.f26_0 J) <| y_if J (fun hg => oF (ct hg) Ty.f24_1 J) <| y_if J (fun hg => oS (ct hg) J J Ty.a3 J) <| y_if J (fun hg => o_cmp (ct hg) (ct hg) J) <| y0 J (pk_and J J J (fun q => eqT q)) <| S2 1 J <| pw_ret ?_
 cases h
 exact f1

theorem store_holdsObject_ok {a0} : PO Tryz.prog 279 [slab_Cell_store_Obj.Pv a0] (store_holdsObject a0) fun r => .bool r := by
 refine pO Tryz.func279 fun r h _ _ => ?_
 unfold store_holdsObject at h
 refine S4 2 J <| S3 4 J <| y_if J (fun hg => oF J Ty.f141_0 J) <| y_if J (fun hg => oS (ct hg) J J Ty.a3 J) <| y_if J (fun hg => o_cmp (ct hg) J J) <| y0 J (pk_or J J J (fun q => eqF q)) <| S2 1 J <| pw_ret ?_
 cases h
 exact f1

theorem store_objectFits_ok {a0 a1} : PO Tryz.prog 277 [store_Store.Pv a0, slab_Cell_store_Obj.Pv a1] (store_objectFits a0 a1) fun r => .bool r := by
 refine pO Tryz.func277 fun r h _ _ => ?_
 refine S4 3 J <| S4 4 J <| S3 1 J <| cA h store_holdsObject_ok J J fun v1 _ h => S1 2 J <| y_if J (fun hg => oF J Ty.f91_0 J) <| y_if J (fun hg => oS (ct hg) J J Ty.a3 J) <| y_if J (fun hg => o_cmp (ct hg) J J) <| y_if J (fun hg => om (d := .bool (decide (a1.Val.Serial ≥ 1))) (ct hg)) <| y_if (want2 J J J) (fun hg => oF J Ty.f91_0 J) <| y_if (want2 J J J) (fun hg => oS (ct hg) J J Ty.a3 J) <| y_if (want2 J J J) (fun hg => oF J Ty.f26_1 J) <| y_if (want2 J J J) (fun hg => oS (ct hg) J J Ty.a3 J) <| y_if (want2 J J J) (fun hg => o_cmp (ct hg) (ct hg) J) <| y_if J (fun hg => pk_and (ct hg) J J (fun q => andI hg (eqT q))) <| y_if J (fun hg => om (d := .bool ((decide (a1.Val.Serial ≥ 1)) && (decide (a1.Val.Serial ≤ a0.Serial)))) (ct hg)) <| y_if (want2 J J J) (fun hg => oF J Ty.f91_1 J) <| y_if (want2 J J J) (fun hg => oS (ct hg) J J Ty.a3 J) <| y_if (want2 J J J) (fun hg => o_cmp (ct hg) J J) <| y_if J (fun hg => pk_and (ct hg) J J (fun q => andI hg (eqT q))) <| y_if J (fun hg => om (d := .bool (((decide (a1.Val.Serial ≥ 1)) && (decide (a1.Val.Serial ≤ a0.Serial))) && (decide (a1.Val.Strong ≥ 0)))) (ct hg)) <| y_if (want2 J J J) (fun hg => oF J Ty.f91_2 J) <| y_if (want2 J J J) (fun hg => oS (ct hg) J J Ty.a3 J) <| y_if (want2 J J J) (fun hg => o_cmp (ct hg) J J) <| y_if J (fun hg => pk_and (ct hg) J J (fun q => andI hg (eqT q))) <| y_if J (fun hg => om (d := .bool ((((decide (a1.Val.Serial ≥ 1)) && (decide (a1.Val.Serial ≤ a0.Serial))) && (decide (a1.Val.Strong ≥ 0))) && (decide (a1.Val.Weak ≥ 0)))) (ct hg)) <| y_if (want2 J J J) (fun hg => oF J Ty.f91_3 J) <| y_if (want2 J J J) (fun hg => oS (ct hg) J J Ty.a3 J) <| bnE h fun v2 hv2 h => y_if (want2 J J J) (fun hg => o_cl J store_programFits_ok (consE (ct hg) J) (onlyE hv2 hg)) <| y_if J (fun hg => pk_and (ct hg) J J (fun q => andI hg (eqT q))) <| y_if J (fun hg => om (d := .bool (((((decide (a1.Val.Serial ≥ 1)) && (decide (a1.Val.Serial ≤ a0.Serial))) && (decide (a1.Val.Strong ≥ 0))) && (decide (a1.Val.Weak ≥ 0))) && v2)) (ct hg)) <| y_if (want2 J J J) (fun hg => oF J Ty.f91_5 J) <| y_if (want2 J J J) (fun hg => oS (ct hg) J J Ty.a27 J) <| y_if (want2 J J J) (fun hg => o_lnL (f := iF) (ct hg) Ty.e27) <| y_if (want2 J J J) (fun hg => o_cmp (ct hg) J J) <| y_if J (fun hg => pk_and (ct hg) J J (fun q => andI hg (eqT q))) <| y0 J (pk_or J J J (fun q => eqF q)) <| S2 1 J <| pw_ret ?_
 cases h
 exact f1

theorem store_nothingIsLeft_ok {a0 a1} : PO Tryz.prog 278 [store_Store.Pv a0, slab_Cell_store_Obj.Pv a1] (store_nothingIsLeft a0 a1) fun r => .bool r := by
 refine pO Tryz.func278 fun r h _ _ => ?_
 refine S4 3 J <| S4 4 J <| S3 8 J <| y0 J (o_build (cs := [.I a1.Val.Serial, .I a1.Val.Strong, .I a1.Val.Weak, .I a1.Val.Prog]) J Ty.p303 Ty.z303 J J J) <| S2 2 J <| S3 1 J <| cA h store_holdsObject_ok J J fun v1 _ h => S1 1 J <| y_if J (fun hg => oL J J J Ty.a303 Ty.s303 nl J) <| y_if J (fun hg => o_build (cs := [.I 0, .I 0, .I 0, .I 0]) J Ty.p303 Ty.z303 J J J) <| y_if J (fun hg => o_eqA (xs := [.I a1.Val.Serial, .I a1.Val.Strong, .I a1.Val.Weak, .I a1.Val.Prog]) (ys := [.I 0, .I 0, .I 0, .I 0]) Ty.q303 (ct hg) (ct hg) J) <| y_if J (fun hg => om (d := .bool ((a1.Val.Serial == 0) && ((a1.Val.Strong == 0) && ((a1.Val.Weak == 0) && ((a1.Val.Prog == 0) && true))))) (ct hg)) <| y_if (want2 J J J) (fun hg => oF J Ty.f91_4 J) <| y_if (want2 J J J) (fun hg => oS (ct hg) J J Ty.a4 J) <| y_if (want2 J J J) (fun hg => o_not (ct hg) J) <| y_if J (fun hg => pk_and (ct hg) J J (fun q => andI hg (eqT q))) <| y_if J (fun hg => om (d := .bool (((a1.Val.Serial == 0) && ((a1.Val.Strong == 0) && ((a1.Val.Weak == 0) && ((a1.Val.Prog == 0) && true)))) && (!a1.Val.Started))) (ct hg)) <| y_if (want2 J J J) (fun hg => oF J Ty.f91_5 J) <| y_if (want2 J J J) (fun hg => oS (ct hg) J J Ty.a27 J) <| y_if (want2 J J J) (fun hg => o_lnL (f := iF) (ct hg) Ty.e27) <| y_if (want2 J J J) (fun hg => o_cmp (ct hg) J J) <| y_if J (fun hg => pk_and (ct hg) J J (fun q => andI hg (eqT q))) <| y0 J (pk_or J J J (fun q => eqF q)) <| S2 1 J <| pw_ret ?_
 cases h
 exact f1

theorem fvcall0_ok {f : Fv} {a0 : store_Store} {a1 : slab_Cell_store_Obj} {r : Bool} (h : fvcall0 f a0 a1 = some r) : ∃ n, f = some n ∧ Callable Tryz.prog n ∧ PCalls Tryz.prog n [store_Store.Pv a0, slab_Cell_store_Obj.Pv a1] (.bool r) := by
 unfold fvcall0 at h
 by_cases e275 : f = some 275
 ·rw [if_pos e275] at h; exact ⟨275, e275, (@store_stateFits_ok a0 a1).1, (@store_stateFits_ok a0 a1).2 _ h⟩
 rw [if_neg e275] at h
 by_cases e276 : f = some 276
 ·rw [if_pos e276] at h; exact ⟨276, e276, (@store_generationFits_ok a0 a1).1, (@store_generationFits_ok a0 a1).2 _ h⟩
 rw [if_neg e276] at h
 by_cases e277 : f = some 277
 ·rw [if_pos e277] at h; exact ⟨277, e277, (@store_objectFits_ok a0 a1).1, (@store_objectFits_ok a0 a1).2 _ h⟩
 rw [if_neg e277] at h
 by_cases e278 : f = some 278
 ·rw [if_pos e278] at h; exact ⟨278, e278, (@store_nothingIsLeft_ok a0 a1).1, (@store_nothingIsLeft_ok a0 a1).2 _ h⟩
 rw [if_neg e278] at h
 cases h

theorem store_serialsDiffer_ok {a0} : PO Tryz.prog 254 [store_Store.Pv a0] (store_serialsDiffer a0) fun r => .bool r := by
 refine pO Tryz.func254 fun r h _ _ => ?_
 refine S4 2 J <| sR <| y_mkM (KT := Int) (VT := Bool) (EK := iF) (E := PV.bool) 5000006 J J <| S2 1 J ?_
 refine jq h (fun _ => St.of [] []) (fun q13 h => ?_) fun κ12 h => ?_
 ·refine S4 1 J ?_
  refine pw_ret ?_
  cases h
  exact f1
 ·refine S3 3 J ?_
  refine nL J Ty.e22 <| S2 1 J <| pw_block <| lq h (fun q => St.of [(3, .mp 5000006), (9, .L slab_Cell_store_Obj.Pv a0.S.Cells), (10, .I (a0.S.Cells.length : Int)), (11, .I q.1)] [(5000006, ⟨[.mapc (List.map (ent iF PV.bool) q.2)], 0, false, 0, false⟩)]) W fun q18 x17 h hx12 => ?_
  obtain ⟨s15, s16⟩ := q18
  refine S4 1 J <| pw_seq ?_
  refine cN h (fun hc h => ?_) fun hc h => ?_
  ·refine pw_skip ?_
   refine jq h (fun j22 => St.of [(3, .mp 5000006), (9, .L slab_Cell_store_Obj.Pv a0.S.Cells), (10, .I (a0.S.Cells.length : Int)), (11, .I s15)] [(5000006, ⟨[.mapc (List.map (ent iF PV.bool) j22)], 0, false, 0, false⟩)]) (fun j22 h => ?_) fun κ21 h => ?_
   ·refine S6 2 J ?_
    exact eL h W
   ·refine pw_block ?_
    refine sR <| iL h J J Ty.e22 Ty.s141 fun v23 _ h => S2 3 J <| pw_seq <| S3 1 J <| cA h store_holdsObject_ok J J fun v24 _ h => S2 1 J ?_
    refine cN h (fun hc h => ?_) fun hc h => ?_
    ·refine pw_exit ?_
     refine thenQ_exit <| blockQ_exit ?_
     exact eJ h W
    ·refine pw_skip ?_
     refine pw_seq <| S3 4 J <| y_lkM (es := s16) (k := v23.Val.Serial) (E := PV.bool) (EK := iF) (d := .bool ((mget s16 v23.Val.Serial).getD (false : Bool))) J J J J Ty.mm222 (keyT_int Ty.u3) Ty.z4 J (lk1 _ _ _) <| yN ?_
     refine cN h (fun hc h => ?_) fun hc h => ?_
     ·refine S4 1 J ?_
      refine pw_ret ?_
      have h := xL hx12 h
      cases h
      exact f1
     ·refine pw_skip ?_
      refine S5 4 J <| y_setM (es := s16) (k := v23.Val.Serial) (v := true) (E := PV.bool) (EK := iF) (.inl J) J J J J J J Ty.mm222 (keyT_int Ty.u3) <| yN ?_
      exact eJ h W
  ·refine pw_exit ?_
   refine thenQ_exit <| thenQ_exit <| blockQ_exit ?_
   have h := xL hx12 h
   exact eJ h W

theorem store_Right_ok {a0} : PO Tryz.prog 200 [store_Store.Pv a0] (store_Right a0) fun r => .bool r := by
 refine pO Tryz.func200 fun r h _ _ => ?_
 refine S4 2 J <| pw_seq <| S3 3 J <| nL J Ty.e22 <| S1 2 J <| y_if J (fun hg => oF J Ty.f26_0 J) <| y_if J (fun hg => oF (ct hg) Ty.f24_1 J) <| y_if J (fun hg => oS (ct hg) J J Ty.a3 J) <| y_if J (fun hg => o_cmp (ct hg) J J) <| y0 J (pk_or J J J (fun q => eqF q)) <| S1 1 J <| y_if J (fun hg => oF J Ty.f26_0 J) <| y_if J (fun hg => oF (ct hg) Ty.f24_1 J) <| y_if J (fun hg => oS (ct hg) J J Ty.a3 J) <| y_if J (fun hg => o_cmp (ct hg) J J) <| y0 J (pk_or J J J (fun q => eqF q)) <| S1 1 J <| y_if J (fun hg => oF J Ty.f26_1 J) <| y_if J (fun hg => oS (ct hg) J J Ty.a3 J) <| y_if J (fun hg => o_cmp (ct hg) J J) <| y0 J (pk_or J J J (fun q => eqF q)) <| yN ?_
 refine cN h (fun hc h => ?_) fun hc h => ?_
 ·refine S4 1 J ?_
  refine pw_ret ?_
  cases h
  exact f1
 ·refine pw_skip ?_
  refine jq h (fun _ => St.of [(1, .ptr 1 0 0)] [(1, vR (store_Store.Pv a0) 3)]) (fun q23 h => ?_) fun κ22 h => ?_
  ·refine S3 1 J ?_
   refine cA h store_serialsDiffer_ok J J fun v24 _ h => S2 1 J <| pw_ret ?_
   cases h
   exact f1
  ·refine S3 3 J ?_
   refine nL J Ty.e22 <| S2 1 J <| pw_block <| lq h (fun s26 => St.of [(1, .ptr 1 0 0), (31, .L slab_Cell_store_Obj.Pv a0.S.Cells), (32, .I (a0.S.Cells.length : Int)), (33, .I s26)] [(1, vR (store_Store.Pv a0) 3)]) W fun s26 x27 h hx29 => S4 1 J <| pw_seq ?_
   refine cN h (fun hc h => ?_) fun hc h => ?_
   ·refine pw_skip ?_
    refine jq h (fun _ => St.of [(1, .ptr 1 0 0), (31, .L slab_Cell_store_Obj.Pv a0.S.Cells), (32, .I (a0.S.Cells.length : Int)), (33, .I s26)] [(1, vR (store_Store.Pv a0) 3)]) (fun q37 h => ?_) fun κ36 h => ?_
    ·refine S6 2 J ?_
     exact eL h W
    ·refine pw_block ?_
     refine sR <| iL h J J Ty.e22 Ty.s141 fun v38 _ h => S2 3 J <| sR <| cF h store_rules_ok J J fun v39 _ h => nL J Ty.e277 <| S2 1 J <| pw_block <| lq h (fun s41 => St.of [(1, .ptr 1 0 0), (4, .ptr 4 0 0), (31, .L slab_Cell_store_Obj.Pv a0.S.Cells), (32, .I (a0.S.Cells.length : Int)), (33, .I s26), (37, .lst true (List.map store_rule.Pv v39)), (38, .I (v39.length : Int)), (39, .I s41)] [(4, vR (slab_Cell_store_Obj.Pv v38) 8), (1, vR (store_Store.Pv a0) 3)]) W fun s41 x42 h hx45 => S4 1 J <| pw_seq ?_
     refine cN h (fun hc h => ?_) fun hc h => ?_
     ·refine pw_skip ?_
      refine pw_seq <| pw_block <| sR <| iL h J J Ty.e277 Ty.s281 fun v43 _ h => S2 3 J <| S3 4 J ?_
      obtain ⟨v44, hv47, h⟩ := bindE h
      obtain ⟨n45, he48, hk49, hp50⟩ := fvcall0_ok hv47
      refine y_wk (wk_fn 44 J he48) <| y0 J (o_call J hk49 J hp50) <| S2 1 J ?_
      refine cN h (fun hc h => ?_) fun hc h => ?_
      ·refine S4 1 J ?_
       refine pw_ret ?_
       have h := xL hx45 h
       have h := xL hx29 h
       cases h
       exact f1
      ·refine pw_skip ?_
       refine S6 2 J ?_
       exact eL h W
     ·refine pw_exit ?_
      refine thenQ_exit <| thenQ_exit <| blockQ_exit ?_
      have h := xL hx45 h
      exact eJ h W
   ·refine pw_exit ?_
    refine thenQ_exit <| thenQ_exit <| blockQ_exit ?_
    have h := xL hx29 h
    exact eJ h W

theorem hash_Right_ok {a0} : PO Tryz.prog 201 [.L hash_Place.Pv a0] (hash_Right a0) fun r => .bool r := by
 refine pO Tryz.func201 fun r h _ _ => ?_
 refine S4 1 J <| pw_seq <| S3 1 J <| nL J Ty.e29 <| S1 2 J <| y_if J (fun hg => om (d := .L hash_Place.Pv a0) J) <| y_if J (fun hg => o_lnL (f := hash_Place.Pv) (ct hg) Ty.e29) <| y_if J (fun hg => o_cmp (ct hg) J J) <| y0 J (pk_or J J J (fun q => eqF q)) <| yN ?_
 refine cN h (fun hc h => ?_) fun hc h => ?_
 ·refine S4 1 J ?_
  refine pw_ret ?_
  cases h
  exact f1
 ·refine pw_skip ?_
  refine jq h (fun _ => St.of [] []) (fun q7 h => ?_) fun κ6 h => ?_
  ·refine S4 1 J ?_
   refine pw_ret ?_
   cases h
   exact f1
  ·refine S3 1 J ?_
   refine nL J Ty.e29 <| S2 1 J <| pw_block <| lq h (fun s9 => St.of [(0, .L hash_Place.Pv a0), (14, .L hash_Place.Pv a0), (15, .I (a0.length : Int)), (16, .I s9)] []) W fun s9 x10 h hx9 => S4 1 J <| pw_seq ?_
   refine cN h (fun hc h => ?_) fun hc h => ?_
   ·refine pw_skip ?_
    refine pw_seq <| pw_block <| S3 1 J <| iL h J J Ty.e29 Ty.s183 fun v11 _ h => S2 4 J <| S3 1 J <| y0 J (o_build (cs := [.I 0, .I 0, .I 0]) J Ty.p183 Ty.z183 J J J) <| y0 J (o_eqA (xs := hash_Place.Pc v11) (ys := [.I 0, .I 0, .I 0]) Ty.q183 J J J) <| S1 1 J <| y_if J (fun hg => oL J J J Ty.a183 Ty.s183 nl J) <| y_if J (fun hg => o_build (cs := [.I 2, .I 0, .I 0]) J Ty.p183 Ty.z183 J J J) <| y_if J (fun hg => o_eqA (xs := hash_Place.Pc v11) (ys := [.I 2, .I 0, .I 0]) Ty.q183 (ct hg) (ct hg) J) <| y0 J (pk_or J J J (fun q => eqF q)) <| S2 1 J <| S3 3 J <| y_if J (fun hg => oF J Ty.f183_0 J) <| y_if J (fun hg => oS (ct hg) J J Ty.a3 J) <| y_if J (fun hg => o_cmp (ct hg) J J) <| y_if J (fun hg => om (d := .bool (v11.State != 1)) (ct hg)) <| y_if (want2 J J J) (fun hg => om (d := .L hash_Place.Pv a0) J) <| y_if (want2 J J J) (fun hg => oF J Ty.f183_1 J) <| y_if (want2 J J J) (fun hg => oS (ct hg) J J Ty.a3 J) <| bnE h fun v12 hv11 h => y_if (want2 J J J) (fun hg => o_cl J hash_Find_ok (consE (ct hg) (consE (ct hg) J)) (onlyE hv11 hg)) <| y_if (want2 J J J) (fun hg => mI J) <| y_if (want2 J J J) (fun hg => o_cmp (ct hg) (ct hg) J) <| y_if J (fun hg => pk_or (ct hg) J J (fun q => andI hg (eqF q))) <| y0 J (pk_and J J J (fun q => eqT q)) <| yN ?_
    refine cN h (fun hc h => ?_) fun hc h => ?_
    ·refine S4 1 J ?_
     refine pw_ret ?_
     have h := xL hx9 h
     cases h
     exact f1
    ·refine pw_skip ?_
     refine S6 2 J ?_
     exact eL h W
   ·refine pw_exit ?_
    refine thenQ_exit <| thenQ_exit <| blockQ_exit ?_
    have h := xL hx9 h
    exact eJ h W

theorem hold_shapesFit_ok {a0} : PO Tryz.prog 146 [hold_Heap.Pv a0] (hold_shapesFit a0) fun r => .bool r := by
 refine pO Tryz.func146 fun r h _ _ => ?_
 refine S4 2 J <| sR <| cF h task_New_ok J J fun v1 _ h => S2 2 J <| S3 2 J <| cA h store_Right_ok J J fun v2 _ h => S1 1 J <| y_if J (fun hg => oF J Ty.f34_3 J) <| y_if J (fun hg => oS (ct hg) J J Ty.a29 J) <| bnE h fun v3 hv3 h => y_if J (fun hg => o_cl J hash_Right_ok (consE (ct hg) J) (onlyE hv3 hg)) <| y0 J (pk_and J J J (fun q => eqT q)) <| S1 1 J <| y_if J (fun hg => oF J Ty.f34_1 J) <| y_if J (fun hg => oS (ct hg) J J Ty.a27 J) <| y_if J (fun hg => o_lnL (f := iF) (ct hg) Ty.e27) <| y_if J (fun hg => o_cmp (ct hg) J J) <| y0 J (pk_and J J J (fun q => eqT q)) <| S1 1 J <| y_if J (fun hg => oF J Ty.f34_2 J) <| y_if J (fun hg => oS (ct hg) J J Ty.a28 J) <| y_if J (fun hg => o_lnL (f := weak_Cell.Pv) (ct hg) Ty.e28) <| y_if J (fun hg => o_cmp (ct hg) J J) <| y0 J (pk_and J J J (fun q => eqT q)) <| S1 1 J <| y_if J (fun hg => oF J Ty.f34_4 J) <| y_if J (fun hg => oF (ct hg) Ty.f32_1 J) <| y_if J (fun hg => oS (ct hg) J J Ty.a3 J) <| y_if J (fun hg => mI J) <| y_if J (fun hg => o_cmp (ct hg) (ct hg) J) <| y0 J (pk_and J J J (fun q => eqT q)) <| S1 1 J <| y_if J (fun hg => oF J Ty.f34_4 J) <| y_if J (fun hg => oF (ct hg) Ty.f32_0 J) <| y_if J (fun hg => oS (ct hg) J J Ty.a30 J) <| y_if J (fun hg => o_lnL (f := task_Task.Pv) (ct hg) Ty.e30) <| y_if J (fun hg => mI J) <| y_if J (fun hg => o_cmp (ct hg) (ct hg) J) <| y0 J (pk_and J J J (fun q => eqT q)) <| S2 1 J ?_
 refine pw_ret ?_
 cases h
 exact f1

theorem slices_Clone_int_int_okN {a0} : PON Tryz.prog 155 [.L iF a0] (slices_Clone_int_int a0) fun r => ⟨List.map iF r, 0, true, 1, true⟩ := by
 refine pON Tryz.func155 fun r h _ _ => ?_
 unfold slices_Clone_int_int at h
 refine S4 1 J <| pw_seq <| S3 1 J <| y_eqnil J Ty.e27 fun b hb => yN ?_
 refine pw_cond b J (fun hc => ?_) (fun hc => ?_)
 ·obtain rfl : a0 = [] := by simpa using hb hc
  refine S4 1 J <| pw_wk (wk_nil (t := 2) (l := 920000) (z := 1) J J) <| pw_ret ?_
  cases h
  exact ⟨J, _, _, J, J, J, J⟩
 ·refine pw_skip ?_
  refine sR <| y0 J (o_nslice J Ty.e27 Ty.s3) <| S1 1 J <| y1 J (o_apT (f := iF) h J J (.inl ⟨_, J, J⟩) Ty.e27 Ty.s3 Ty.b3 Ty.z3 J (fun _ => J)) J <| S2 1 J <| pw_ret ?_
  exact ⟨J, _, _, J, J, J, J⟩

theorem hold_namesLive_1_ok {a0 a1} : PO Tryz.prog 203 [.I a0, .rptr (hold_Heap.Pc a1)] (hold_namesLive_1 a0 a1) fun r => .bool r := by
 refine pO Tryz.func203 fun r h _ _ => ?_
 refine S4 1 J <| S3 2 J <| cA h hold_nameable_ok J J fun v1 _ h => S2 1 J <| pw_ret ?_
 cases h
 exact f1

theorem hold_all_int__hold_namesLive_1_ok {a0 a1} : PO Tryz.prog 202 [.L iF a0, .fn (.func 203) [.rptr (hold_Heap.Pc a1)]] (hold_all_int__hold_namesLive_1 a0 a1) fun r => .bool r := by
 refine pO Tryz.func202 fun r h _ _ => ?_
 refine S4 1 J ?_
 refine jq h (fun _ => St.of [] []) (fun q7 h => ?_) fun κ6 h => ?_
 ·refine S4 1 J ?_
  refine pw_ret ?_
  cases h
  exact f1
 ·refine S3 1 J ?_
  refine nL J Ty.e27 <| S2 1 J <| pw_block <| lq h (fun s9 => St.of [(1, .fn (.func 203) [.rptr (hold_Heap.Pc a1)]), (7, .L iF a0), (8, .I (a0.length : Int)), (9, .I s9)] []) W fun s9 x10 h hx9 => S4 1 J <| pw_seq ?_
  refine cN h (fun hc h => ?_) fun hc h => ?_
  ·refine pw_skip ?_
   refine pw_seq <| pw_block <| sR <| iL h J J Ty.e27 Ty.s3 fun v11 _ h => S2 2 J <| S3 2 J <| cA h hold_namesLive_1_ok J J fun v12 _ h => S2 1 J ?_
   refine cN h (fun hc h => ?_) fun hc h => ?_
   ·refine S4 1 J ?_
    refine pw_ret ?_
    have h := xL hx9 h
    cases h
    exact f1
   ·refine pw_skip ?_
    refine S6 2 J ?_
    exact eL h W
  ·refine pw_exit ?_
   refine thenQ_exit <| thenQ_exit <| blockQ_exit ?_
   have h := xL hx9 h
   exact eJ h W

theorem hold_namesLive_ok {a0} : PO Tryz.prog 147 [hold_Heap.Pv a0] (hold_namesLive a0) fun r => .bool r := by
 refine pO Tryz.func147 fun r h _ _ => ?_
 unfold hold_namesLive at h
 refine S4 2 J <| S3 2 J <| bnE h fun v1 hv1 h => ycN J (o_clN J slices_Clone_int_int_okN J hv1) J J <| S2 1 J ?_
 refine jq h (fun j12 => St.of [(1, .ptr 1 0 0), (3, .sl 10)] [(10, ⟨List.map iF j12, (List.map iF j12).length, true, 1, true⟩), (1, vR (hold_Heap.Pv a0) 8)]) (fun j12 h => ?_) fun κ11 h => ?_
 ·refine S3 2 J ?_
  refine cA h hold_all_int__hold_namesLive_1_ok J J fun v13 _ h => S2 1 J <| pw_ret ?_
  cases h
  exact f1
 ·refine S3 2 J ?_
  refine cF h store_Live_ok J J fun v14 _ h => nL J Ty.e27 <| S2 1 J <| pw_block <| lq h (fun q => St.of [(1, .ptr 1 0 0), (3, .sl 10), (13, .L iF v14), (14, .I (v14.length : Int)), (15, .I q.1)] [(10, ⟨List.map iF q.2, (List.map iF q.2).length, true, 1, true⟩), (1, vR (hold_Heap.Pv a0) 8)]) (Wk.trans (wk_frz _ [10]) W) fun q19 x18 h hx14 => ?_
  obtain ⟨s16, s17⟩ := q19
  refine S4 1 J <| pw_seq ?_
  refine cN h (fun hc h => ?_) fun hc h => ?_
  ·refine pw_skip ?_
   refine pw_seq <| pw_block <| sR <| iL h J J Ty.e27 Ty.s3 fun v20 _ h => S2 2 J <| S3 3 J <| cF h store_Get_ok J J fun v21 _ h => S2 6 J <| S5 3 J <| bnE h fun v22 hv17 h => y_app J (o_apR (f := iF) hv17 J J J J J J (.inl ⟨_, J, J⟩) Ty.e27 Ty.s3 Ty.b3 Ty.z3 J (fun _ => J)) J J J <| S2 1 J <| S6 2 J ?_
   exact eL h (Wk.trans (wk_frz _ [29]) (WP (fun l => if l = 10 then 29 else l)))
  ·refine pw_exit ?_
   refine thenQ_exit <| thenQ_exit <| blockQ_exit ?_
   have h := xL hx14 h
   exact eJ h (Wk.trans (wk_frz _ [10]) W)

theorem ephem_pairs_ok {a0} : PO Tryz.prog 256 [.L hash_Place.Pv a0] (ephem_pairs a0) fun r => .fn (.func 280) [.rptr [.L hash_Place.Pv r]] := by
 refine pO Tryz.func256 fun r h _ _ => ?_
 unfold ephem_pairs at h
 refine S4 2 J <| S4 2 J <| pw_ret ?_
 cases h
 exact f1

theorem hash_Keys_ok {a0} : PO Tryz.prog 281 [.L hash_Place.Pv a0] (hash_Keys a0) fun r => .L iF r := by
 refine pO Tryz.func281 fun r h _ _ => ?_
 refine S4 1 J <| S4 1 J ?_
 refine jq h (fun j13 => St.of [(3, .sl 910003)] [(910003, ⟨List.map iF j13, (List.map iF j13).length, true, 1, true⟩)]) (fun j13 h => ?_) fun κ12 h => ?_
 ·refine S4 2 J ?_
  refine pw_ret ?_
  cases h
  exact f1
 ·refine S3 1 J ?_
  refine nL J Ty.e29 <| S2 1 J <| pw_block <| lq h (fun q => St.of [(3, .sl 910003), (6, .L hash_Place.Pv a0), (7, .I (a0.length : Int)), (8, .I q.1)] [(910003, ⟨List.map iF q.2, (List.map iF q.2).length, true, 1, true⟩)]) (Wk.trans (wk_nil (t := 3) (l := 920003) (z := 1) J J) (WP (fun l => if l = 910003 then 920003 else l))) fun q18 x17 h hx12 => ?_
  obtain ⟨s15, s16⟩ := q18
  refine S4 1 J <| pw_seq ?_
  refine cN h (fun hc h => ?_) fun hc h => ?_
  ·refine pw_skip ?_
   refine jq h (fun j22 => St.of [(3, .sl 19), (6, .L hash_Place.Pv a0), (7, .I (a0.length : Int)), (8, .I s15)] [(19, ⟨List.map iF j22, (List.map iF j22).length, true, 1, true⟩)]) (fun j22 h => ?_) fun κ21 h => ?_
   ·refine S6 2 J ?_
    exact eL h (Wk.trans (wk_frz _ [19]) (WP (fun l => if l = 910003 then 19 else l)))
   ·refine pw_block ?_
    refine sR <| iL h J J Ty.e29 Ty.s183 fun v23 _ h => S2 3 J <| S4 3 J ?_
    refine cN h (fun hc h => ?_) fun hc h => ?_
    ·refine S5 3 J ?_
     refine y0 J (o_bI (f := iF) (l := [v23.Key]) J Ty.e27 Ty.s3 Ty.z3 J J nl J J) <| bnE h fun v24 hv17 h => y_app J (o_apR (f := iF) hv17 J J J J J J (.inl ⟨_, J, J⟩) Ty.e27 Ty.s3 Ty.b3 Ty.z3 J (fun _ => J)) J J J <| S2 1 J ?_
     exact eJ h (Wk.trans (wk_frz _ [19]) W)
    ·refine pw_skip ?_
     exact eJ h (Wk.trans (wk_frz _ [910003]) (WP (fun l => if l = 19 then 910003 else l)))
  ·refine pw_exit ?_
   refine thenQ_exit <| thenQ_exit <| blockQ_exit ?_
   have h := xL hx12 h
   exact eJ h (Wk.trans (wk_frz _ [910003]) W)

theorem hash_Get_ok {a0 a1} : PO Tryz.prog 169 [.L hash_Place.Pv a0, .I a1] (hash_Get a0 a1) fun r => .tup [.I r.1, .I r.2] := by
 refine pO Tryz.func169 fun r h _ _ => ?_
 refine S4 2 J <| S3 2 J <| cA h hash_Find_ok J J fun v1 _ h => S2 1 J <| pw_seq <| S4 2 J ?_
 refine cN h (fun hc h => ?_) fun hc h => ?_
 ·refine S4 2 J ?_
  refine pw_ret ?_
  cases h
  exact f2
 ·refine pw_skip ?_
  refine S3 2 J <| iL h J J Ty.e29 Ty.s183 fun v2 _ h => S2 4 J <| pw_ret ?_
  cases h
  exact f2

theorem ephem_Pairs_1_ok {a0} : PO Tryz.prog 257 [ephem_Pair.Pv a0] (ephem_Pairs_1 a0) fun r => .bool r := by
 refine pO Tryz.func257 fun r h _ _ => ?_
 unfold ephem_Pairs_1 at h
 refine S4 2 J <| S4 1 J <| pw_ret ?_
 cases h
 exact f1

theorem ephem_gathered_ephem_Pair__ephem_pairs_1__ephem_Pairs_1_ok {a0} : PO Tryz.prog 255 [.fn (.func 280) [.rptr [.L hash_Place.Pv a0]], .fn (.func 257) []] (ephem_gathered_ephem_Pair__ephem_pairs_1__ephem_Pairs_1 a0) fun r => .L ephem_Pair.Pv r := by
 refine pO Tryz.func255 fun r h _ _ => ?_
 refine S4 2 J <| S4 1 J ?_
 refine jq h (fun j16 => St.of [(5, .ptr 2001 0 0)] [(2001, vS (.sl 912501) 1), (912501, ⟨List.map ephem_Pair.Pv j16, (List.map ephem_Pair.Pv j16).length, true, 2, true⟩)]) (fun j16 h => ?_) fun κ15 h => ?_
 ·refine S4 2 J ?_
  refine pw_ret ?_
  cases h
  exact f1
 ·refine S4 1 J ?_
  refine pw_block <| pw_wk (WPE (fun l => if l = 2012 then 5 else if l = 2013 then 3 else l) [(3, .ptr 2013 0 0), (5, .ptr 2012 0 0), (7, .fn (.func 280) [.rptr [.L hash_Place.Pv a0]])] [(2012, vR (.nl) 1), (2013, vR (.fn (.func 257) []) 1)]) ?_
  refine pw_range (fn := Tryz.f280) (N1 := 27) J Tryz.func280 J J nl J Ty.k280 J J (fun l20 e21 o22 hR23 => ?_)
  refine S3 1 J <| cF h hash_Keys_ok J J fun v17 _ h => nL J Ty.e27 <| S2 1 J <| pw_block <| lq h (fun q => St.of [(1000003, .ptr 2013 0 0), (1000005, .ptr 2012 0 0), (1000007, .fn (.func 280) [.rptr [.L hash_Place.Pv a0]]), (0, .fn (.yield l20) []), (1, .rptr [.L hash_Place.Pv a0]), (8, .L iF v17), (9, .I (v17.length : Int)), (10, .I q.1)] [(2012, vS (.sl 912512) 1), (2013, vR (.fn (.func 257) []) 1), (912512, ⟨List.map ephem_Pair.Pv q.2, (List.map ephem_Pair.Pv q.2).length, true, 2, true⟩)]) (Wk.trans (wk_nilC (l0 := 2012) (j := 0) (l := 922512) (z := 2) J J J J J) (WP (fun l => if l = 912512 then 922512 else l))) fun q22 x21 h hx27 => ?_
  obtain ⟨s19, s20⟩ := q22
  refine S4 1 J <| pw_seq ?_
  refine cN h (fun hc h => ?_) fun hc h => ?_
  ·refine pw_skip ?_
   refine pw_seq <| pw_block <| sR <| iL h J J Ty.e27 Ty.s3 fun v23 _ h => S2 2 J <| S3 2 J <| cA h hash_Get_ok J J fun v24 _ h => S2 5 J <| S3 3 J <| y0 J (o_build (cs := [.I v23, .I v24.1]) J Ty.p238 Ty.z238 J J J) <| y_wk (WPE (fun l => if l = 2021 then 912512 else l) [(1000003, .ptr 2013 0 0), (1000005, .ptr 2012 0 0), (1000007, .fn (.func 280) [.rptr [.L hash_Place.Pv a0]]), (0, .fn (.yield l20) []), (1, .rptr [.L hash_Place.Pv a0]), (8, .L iF v17), (9, .I (v17.length : Int)), (10, .I s19), (20, .fn (.yield l20) []), (23, .agg [.I v23, .I v24.1])] [(2012, vS (.sl 2021) 1), (2021, ⟨List.map ephem_Pair.Pv s20, (List.map ephem_Pair.Pv s20).length, true, 2, true⟩), (2013, vR (.fn (.func 257) []) 1)]) ?_
   refine y_yield hR23 J J J J J J (fun e30 o31 o32 => ?_)
   refine S6 2 J ?_
   refine ⟨J, ?_⟩
   refine jqE h (fun j28 => St.of [(2000003, .ptr 2013 0 0), (2000005, .ptr 2012 0 0), (2000007, .fn (.func 280) [.rptr [.L hash_Place.Pv a0]]), (1000000, .fn (.yield l20) []), (1000001, .rptr [.L hash_Place.Pv a0]), (1000008, .L iF v17), (1000009, .I (v17.length : Int)), (1000010, .I s19), (1000020, .fn (.yield l20) []), (1000023, .agg [.I v23, .I v24.1])] [(2012, vS (.sl 15) 1), (15, ⟨List.map ephem_Pair.Pv j28, (List.map ephem_Pair.Pv j28).length, true, 2, true⟩), (2013, vR (.fn (.func 257) []) 1)]) (fun j28 h => ?_) fun κ27 h => ?_
   ·refine ⟨J, ?_⟩
    refine y_wk (WPE (fun l => if l = 2022 then 15 else l) [(1000003, .ptr 2013 0 0), (1000005, .ptr 2012 0 0), (1000007, .fn (.func 280) [.rptr [.L hash_Place.Pv a0]]), (0, .fn (.yield l20) []), (1, .rptr [.L hash_Place.Pv a0]), (8, .L iF v17), (9, .I (v17.length : Int)), (10, .I s19), (24, .bool true)] [(2012, vS (.sl 2022) 1), (2022, ⟨List.map ephem_Pair.Pv j28, (List.map ephem_Pair.Pv j28).length, true, 2, true⟩), (2013, vR (.fn (.func 257) []) 1)]) <| S2 1 J ?_
    refine pw_cond false J (fun q => nomatch q) (fun _ => ?_)
    refine pw_skip <| S6 2 J ?_
    exact eL h (Wk.trans (wk_frz _ [2022]) (WP (fun l => if l = 912512 then 2022 else l)))
   ·refine pw_block ?_
    refine S3 2 J <| cA h ephem_Pairs_1_ok J J fun v29 _ h => yN ?_
    refine cN h (fun hc h => ?_) fun hc h => ?_
    ·refine S5 2 J ?_
     refine y0 J (o_bI (f := ephem_Pair.Pv) (l := [(⟨v23, v24.1⟩ : ephem_Pair)]) J Ty.e239 Ty.s238 Ty.z238 J J nl J J) <| bnE h fun v30 hv37 h => y_app J (o_apR (f := ephem_Pair.Pv) hv37 J J J J J J (.inl ⟨_, J, J⟩) Ty.e239 Ty.s238 Ty.b238 Ty.z238 J (fun _ => J)) J J J <| S2 1 J ?_
     exact eJ h (Wk.trans (wk_frz _ [15]) W)
    ·refine pw_skip ?_
     exact eJ h (Wk.trans (wk_frz _ [2021]) (WP (fun l => if l = 15 then 2021 else l)))
  ·refine pw_exit ?_
   refine thenQ_exit <| thenQ_exit <| blockQ_exit ?_
   refine .inl ⟨J, ?_⟩
   have h := xL hx27 h
   exact eJ h (Wk.trans (wk_frz _ [912512]) (WP (fun l => if l = 2001 then 2012 else if l = 912501 then 912512 else l)))

theorem ephem_Pairs_ok {a0} : PO Tryz.prog 205 [.L hash_Place.Pv a0] (ephem_Pairs a0) fun r => .L ephem_Pair.Pv r := by
 refine pO Tryz.func205 fun r h _ _ => ?_
 refine S4 1 J <| S3 1 J <| cF h ephem_pairs_ok J J fun v1 _ h => cF h ephem_gathered_ephem_Pair__ephem_pairs_1__ephem_Pairs_1_ok J J fun v2 _ h => S2 1 J <| pw_ret ?_
 cases h
 exact f1

theorem hold_pairsLive_1_ok {a0 a1} : PO Tryz.prog 206 [ephem_Pair.Pv a0, .rptr (hold_Heap.Pc a1)] (hold_pairsLive_1 a0 a1) fun r => .bool r := by
 refine pO Tryz.func206 fun r h _ _ => ?_
 refine S4 2 J <| S3 3 J <| cA h hold_isLive_ok J J fun v1 _ h => S1 1 J <| y_if J (fun hg => o_loadRA J Ty.a34 Ty.s34 nl J) <| y_if J (fun hg => oF J Ty.f238_1 J) <| y_if J (fun hg => oS (ct hg) J J Ty.a3 J) <| bnE h fun v2 hv2 h => y_if J (fun hg => o_cl J hold_isLive_ok (consE (ct hg) (consE (ct hg) J)) (onlyE hv2 hg)) <| y0 J (pk_and J J J (fun q => eqT q)) <| S2 1 J <| pw_ret ?_
 cases h
 exact f1

theorem hold_all_ephem_Pair__hold_pairsLive_1_ok {a0 a1} : PO Tryz.prog 204 [.L ephem_Pair.Pv a0, .fn (.func 206) [.rptr (hold_Heap.Pc a1)]] (hold_all_ephem_Pair__hold_pairsLive_1 a0 a1) fun r => .bool r := by
 refine pO Tryz.func204 fun r h _ _ => ?_
 refine S4 1 J ?_
 refine jq h (fun _ => St.of [] []) (fun q7 h => ?_) fun κ6 h => ?_
 ·refine S4 1 J ?_
  refine pw_ret ?_
  cases h
  exact f1
 ·refine S3 1 J ?_
  refine nL J Ty.e239 <| S2 1 J <| pw_block <| lq h (fun s9 => St.of [(1, .fn (.func 206) [.rptr (hold_Heap.Pc a1)]), (7, .L ephem_Pair.Pv a0), (8, .I (a0.length : Int)), (9, .I s9)] []) W fun s9 x10 h hx9 => S4 1 J <| pw_seq ?_
  refine cN h (fun hc h => ?_) fun hc h => ?_
  ·refine pw_skip ?_
   refine pw_seq <| pw_block <| sR <| iL h J J Ty.e239 Ty.s238 fun v11 _ h => S2 3 J <| S3 2 J <| cA h hold_pairsLive_1_ok J J fun v12 _ h => S2 1 J ?_
   refine cN h (fun hc h => ?_) fun hc h => ?_
   ·refine S4 1 J ?_
    refine pw_ret ?_
    have h := xL hx9 h
    cases h
    exact f1
   ·refine pw_skip ?_
    refine S6 2 J ?_
    exact eL h W
  ·refine pw_exit ?_
   refine thenQ_exit <| thenQ_exit <| blockQ_exit ?_
   have h := xL hx9 h
   exact eJ h W

theorem hold_pairsLive_ok {a0} : PO Tryz.prog 148 [hold_Heap.Pv a0] (hold_pairsLive a0) fun r => .bool r := by
 refine pO Tryz.func148 fun r h _ _ => ?_
 refine S4 2 J <| S3 2 J <| cF h ephem_Pairs_ok J J fun v1 _ h => S1 1 J <| cA h hold_all_ephem_Pair__hold_pairsLive_1_ok J J fun v2 _ h => S2 1 J <| pw_ret ?_
 cases h
 exact f1

theorem hold_taskIsFor_ok {a0 a1} : PO Tryz.prog 209 [hold_Heap.Pv a0, task_Task.Pv a1] (hold_taskIsFor a0 a1) fun r => .bool r := by
 refine pO Tryz.func209 fun r h _ _ => ?_
 refine S4 3 J <| pw_seq <| S4 2 J <| pw_block <| S4 2 J ?_
 refine cN h (fun hc h => ?_) fun hc h => ?_
 ·refine S3 4 J ?_
  refine cF h store_Get_ok J J fun v1 _ h => S2 6 J <| S3 3 J <| y_if J (fun hg => oF J Ty.f91_4 J) <| y_if J (fun hg => oS (ct hg) J J Ty.a4 J) <| y0 J (pk_and J J J (fun q => eqT q)) <| S2 1 J <| pw_ret ?_
  cases h
  exact f1
 ·refine S4 2 J ?_
  refine cN h (fun hc h => ?_) fun hc h => ?_
  ·refine S3 4 J ?_
   refine y_if J (fun hg => oF J Ty.f82_1 J) <| y_if J (fun hg => oS (ct hg) J J Ty.a3 J) <| y_if J (fun hg => oF J Ty.f34_2 J) <| y_if J (fun hg => oS (ct hg) J J Ty.a28 J) <| y_if J (fun hg => o_lnL (f := weak_Cell.Pv) (ct hg) Ty.e28) <| y_if J (fun hg => o_cmp (ct hg) (ct hg) J) <| y0 J (pk_and J J J (fun q => eqT q)) <| S1 1 J <| y_if J (fun hg => oF J Ty.f34_2 J) <| y_if J (fun hg => oS (ct hg) J J Ty.a28 J) <| y_if J (fun hg => oF J Ty.f82_1 J) <| y_if J (fun hg => oS (ct hg) J J Ty.a3 J) <| bnE h fun v2 hv2 h => y_if J (fun hg => o_ixL (f := weak_Cell.Pv) (cs := weak_Cell.Pc v2) (onlyE hv2 hg) (ct hg) (ct hg) Ty.e28 Ty.s84 J J) <| y_if J (fun hg => o_fieldAddrR (ct hg) Ty.f84_1 J) <| y_if J (fun hg => o_loadRS (ct hg) Ty.a4 J) <| y_if J (fun hg => o_not (ct hg) J) <| y0 J (pk_and J J J (fun q => eqT q)) <| S2 1 J <| pw_ret ?_
   cases h
   exact f1
  ·refine pw_skip ?_
   refine S4 1 J <| pw_ret ?_
   cases h
   exact f1

theorem hold_tasksFit_ok {a0} : PO Tryz.prog 149 [hold_Heap.Pv a0] (hold_tasksFit a0) fun r => .bool r := by
 refine pO Tryz.func149 fun r h _ _ => ?_
 refine S4 2 J <| sR <| y_mkM (KT := task_Task) (VT := Bool) (EK := task_Task.Pv) (E := PV.bool) 5000004 J J <| S2 2 J <| S3 4 J <| y_wk (WPE (fun l => if l = 2001 then 1 else if l = 2002 then 3 else if l = 5002003 then 5000004 else l) [(7, .L task_Task.Pv a0.Q.L), (8, .fn (.func 208) [.ptr 2002 0 0, .ptr 2001 0 0])] [(2001, vR (hold_Heap.Pv a0) 8), (2002, vS (.mp 5002003) 1), (5002003, ⟨[.mapc (List.map (ent task_Task.Pv PV.bool) [])], 0, false, 0, false⟩)]) ?_
 refine y_inl (fn := Tryz.f207) (N1 := 18) J J Tryz.func207 J Ty.k207 J J nl (fun e1 o2 => ?_)
 refine jqR h (fun q => St.of [(1000007, .L task_Task.Pv a0.Q.L), (1000008, .fn (.func 208) [.ptr 2002 0 0, .ptr 2001 0 0]), (4, .bool q.1)] [(2001, vR (hold_Heap.Pv a0) 8), (2002, vS (.mp 5002003) 1), (5002003, ⟨[.mapc (List.map (ent task_Task.Pv PV.bool) q.2)], 0, false, 0, false⟩)]) (fun q20 h => dup ?_) fun κ17 h => ?_
 ·obtain ⟨j18, j19⟩ := q20
  refine ⟨J, [.bool j18], ⟨J, tr⟩, ?_⟩
  refine y_wk (WE [(9, .bool j18)] []) <| S2 1 J <| pw_ret ?_
  cases h
  exact f1
 ·refine S4 1 J ?_
  refine jq h (fun j29 => St.of [(1000007, .L task_Task.Pv a0.Q.L), (1000008, .fn (.func 208) [.ptr 2002 0 0, .ptr 2001 0 0])] [(2001, vR (hold_Heap.Pv a0) 8), (2002, vS (.mp 5002003) 1), (5002003, ⟨[.mapc (List.map (ent task_Task.Pv PV.bool) j29)], 0, false, 0, false⟩)]) (fun j29 h => ?_) fun κ28 h => ?_
  ·refine S4 1 J ?_
   refine pw_ret ?_
   exact eJ h W
  ·refine S3 1 J ?_
   refine nL J Ty.e30 <| S2 1 J <| pw_block <| lq h (fun q => St.of [(1000007, .L task_Task.Pv a0.Q.L), (1000008, .fn (.func 208) [.ptr 2002 0 0, .ptr 2001 0 0]), (1, .fn (.func 208) [.ptr 2002 0 0, .ptr 2001 0 0]), (7, .L task_Task.Pv a0.Q.L), (8, .I (a0.Q.L.length : Int)), (9, .I q.1)] [(2001, vR (hold_Heap.Pv a0) 8), (2002, vS (.mp 5002003) 1), (5002003, ⟨[.mapc (List.map (ent task_Task.Pv PV.bool) q.2)], 0, false, 0, false⟩)]) W fun q34 x33 h hx29 => ?_
   obtain ⟨s31, s32⟩ := q34
   refine S4 1 J <| pw_seq ?_
   refine cN h (fun hc h => ?_) fun hc h => ?_
   ·refine pw_skip ?_
    refine pw_seq <| pw_block <| sR <| iL h J J Ty.e30 Ty.s82 fun v35 _ h => S2 3 J <| S3 2 J <| y_wk (WE [(1000007, .L task_Task.Pv a0.Q.L), (1000008, .fn (.func 208) [.ptr 2002 0 0, .ptr 2001 0 0]), (1, .fn (.func 208) [.ptr 2002 0 0, .ptr 2001 0 0]), (7, .L task_Task.Pv a0.Q.L), (8, .I (a0.Q.L.length : Int)), (9, .I s31), (13, .fn (.func 208) [.ptr 2002 0 0, .ptr 2001 0 0]), (14, task_Task.Pv v35)] [(2001, vR (hold_Heap.Pv a0) 8), (2002, vS (.mp 5002003) 1), (5002003, ⟨[.mapc (List.map (ent task_Task.Pv PV.bool) s32)], 0, false, 0, false⟩)]) ?_
    refine y_inl (fn := Tryz.f208) (N1 := 34) J J Tryz.func208 J Ty.k208 J J nl (fun e31 o32 => ?_)
    refine S4 2 J <| S3 4 J <| y0 J (o_build (cs := [.I v35.Kind, .I v35.At, .I 0]) J Ty.p82 Ty.z82 J J J) <| S2 2 J <| S3 2 J <| y_lkM (es := s32) (k := (⟨v35.Kind, v35.At, 0⟩ : task_Task)) (E := PV.bool) (EK := task_Task.Pv) (d := .bool ((mget s32 (⟨v35.Kind, v35.At, 0⟩ : task_Task)).getD (false : Bool))) J J J J Ty.mm242 (keyT_agg task_Task.Pc (fun _ => J) Ty.q82 (by decide) (fun _ _ => J) task_Task.beq_eq (fun _ => J) (fun _ => ⟨J, J⟩)) Ty.z4 J (lk1 _ _ _) <| S2 1 J <| S3 2 J <| y_setM (es := s32) (k := (⟨v35.Kind, v35.At, 0⟩ : task_Task)) (v := true) (E := PV.bool) (EK := task_Task.Pv) (.inl J) J J J J J J Ty.mm242 (keyT_agg task_Task.Pc (fun _ => J) Ty.q82 (by decide) (fun _ _ => J) task_Task.beq_eq (fun _ => J) (fun _ => ⟨J, J⟩)) <| yN <| S3 3 J <| y_if J (fun hg => oF J Ty.f82_2 J) <| y_if J (fun hg => oS (ct hg) J J Ty.a3 J) <| y_if J (fun hg => o_cmp (ct hg) J J) <| y0 J (pk_and J J J (fun q => eqT q)) <| S1 1 J <| y_if J (fun hg => oF J Ty.f82_2 J) <| y_if J (fun hg => oS (ct hg) J J Ty.a3 J) <| y_if J (fun hg => o_cmp (ct hg) J J) <| y0 J (pk_and J J J (fun q => eqT q)) <| S1 1 J <| y_if J (fun hg => oL J J J Ty.a34 Ty.s34 nl J) <| y_if J (fun hg => oL J J J Ty.a82 Ty.s82 nl J) <| bnE h fun v36 hv33 h => y_if J (fun hg => o_cl J hold_taskIsFor_ok (consE (ct hg) (consE (ct hg) J)) (onlyE hv33 hg)) <| y0 J (pk_and J J J (fun q => eqT q)) <| S2 1 J <| pw_ret ?_
    refine ⟨J, [.bool ((((!((mget s32 (⟨v35.Kind, v35.At, 0⟩ : task_Task)).getD (false : Bool))) && (decide (v35.Prog ≥ 0))) && (decide (v35.Prog < 6))) && v36)], ⟨J, tr⟩, ?_⟩
    refine y_wk (WE [(1000007, .L task_Task.Pv a0.Q.L), (1000008, .fn (.func 208) [.ptr 2002 0 0, .ptr 2001 0 0]), (1, .fn (.func 208) [.ptr 2002 0 0, .ptr 2001 0 0]), (7, .L task_Task.Pv a0.Q.L), (8, .I (a0.Q.L.length : Int)), (9, .I s31), (15, .bool ((((!((mget s32 (⟨v35.Kind, v35.At, 0⟩ : task_Task)).getD (false : Bool))) && (decide (v35.Prog ≥ 0))) && (decide (v35.Prog < 6))) && v36))] [(2001, vR (hold_Heap.Pv a0) 8), (2002, vS (.mp 5002003) 1), (5002003, ⟨[.mapc (List.map (ent task_Task.Pv PV.bool) (mput s32 (⟨v35.Kind, v35.At, 0⟩ : task_Task) true))], 0, false, 0, false⟩)]) <| S2 1 J ?_
    refine cN h (fun hc h => ?_) fun hc h => ?_
    ·refine S4 1 J ?_
     refine pw_ret ?_
     have h := xL hx29 h
     exact eJ h W
    ·refine pw_skip ?_
     refine S6 2 J ?_
     exact eL h W
   ·refine pw_exit ?_
    refine thenQ_exit <| thenQ_exit <| blockQ_exit ?_
    have h := xL hx29 h
    exact eJ h W

theorem hold_cellsFit_1_ok {a0 a1} : PO Tryz.prog 211 [weak_Cell.Pv a0, .rptr (hold_Heap.Pc a1)] (hold_cellsFit_1 a0 a1) fun r => .bool r := by
 refine pO Tryz.func211 fun r h _ _ => ?_
 refine S4 2 J <| pw_seq <| S3 4 J <| y_if J (fun hg => oF J Ty.f84_2 J) <| y_if J (fun hg => oS (ct hg) J J Ty.a3 J) <| y_if J (fun hg => o_cmp (ct hg) J J) <| y0 J (pk_or J J J (fun q => eqF q)) <| yN ?_
 refine cN h (fun hc h => ?_) fun hc h => ?_
 ·refine S4 1 J ?_
  refine pw_ret ?_
  cases h
  exact f1
 ·refine pw_skip ?_
  refine pw_seq <| S4 2 J ?_
  refine cN h (fun hc h => ?_) fun hc h => ?_
  ·refine S3 3 J ?_
   refine cA h hold_isLive_ok J J fun v1 _ h => S2 1 J <| pw_ret ?_
   cases h
   exact f1
  ·refine pw_skip ?_
   refine S3 5 J <| cA h slab_Find_store_Obj_ok J J fun v2 _ h => S2 5 J <| S3 4 J <| y_if J (fun hg => mI J) <| y_if J (fun hg => o_cmp (ct hg) J J) <| y0 J (pk_or J J J (fun q => eqF q)) <| S2 1 J <| pw_ret ?_
   cases h
   exact f1

theorem hold_all_weak_Cell__hold_cellsFit_1_ok {a0 a1} : PO Tryz.prog 210 [.L weak_Cell.Pv a0, .fn (.func 211) [.rptr (hold_Heap.Pc a1)]] (hold_all_weak_Cell__hold_cellsFit_1 a0 a1) fun r => .bool r := by
 refine pO Tryz.func210 fun r h _ _ => ?_
 refine S4 1 J ?_
 refine jq h (fun _ => St.of [] []) (fun q7 h => ?_) fun κ6 h => ?_
 ·refine S4 1 J ?_
  refine pw_ret ?_
  cases h
  exact f1
 ·refine S3 1 J ?_
  refine nL J Ty.e28 <| S2 1 J <| pw_block <| lq h (fun s9 => St.of [(1, .fn (.func 211) [.rptr (hold_Heap.Pc a1)]), (7, .L weak_Cell.Pv a0), (8, .I (a0.length : Int)), (9, .I s9)] []) W fun s9 x10 h hx9 => S4 1 J <| pw_seq ?_
  refine cN h (fun hc h => ?_) fun hc h => ?_
  ·refine pw_skip ?_
   refine pw_seq <| pw_block <| sR <| iL h J J Ty.e28 Ty.s84 fun v11 _ h => S2 3 J <| S3 2 J <| cA h hold_cellsFit_1_ok J J fun v12 _ h => S2 1 J ?_
   refine cN h (fun hc h => ?_) fun hc h => ?_
   ·refine S4 1 J ?_
    refine pw_ret ?_
    have h := xL hx9 h
    cases h
    exact f1
   ·refine pw_skip ?_
    refine S6 2 J ?_
    exact eL h W
  ·refine pw_exit ?_
   refine thenQ_exit <| thenQ_exit <| blockQ_exit ?_
   have h := xL hx9 h
   exact eJ h W

theorem hold_cellsFit_ok {a0} : PO Tryz.prog 150 [hold_Heap.Pv a0] (hold_cellsFit a0) fun r => .bool r := by
 refine pO Tryz.func150 fun r h _ _ => ?_
 refine S4 2 J <| S3 3 J <| cA h hold_all_weak_Cell__hold_cellsFit_1_ok J J fun v1 _ h => S2 1 J <| pw_ret ?_
 cases h
 exact f1

theorem weak_Naming_1_ok {a0 a1} : PO Tryz.prog 258 [weak_Cell.Pv a0, .rptr [.I a1]] (weak_Naming_1 a0 a1) fun r => .bool r := by
 refine pO Tryz.func258 fun r h _ _ => ?_
 unfold weak_Naming_1 at h
 refine S4 2 J <| S3 3 J <| y_if J (fun hg => oF J Ty.f84_0 J) <| y_if J (fun hg => oS (ct hg) J J Ty.a3 J) <| y_if J (fun hg => o_loadRS J Ty.a3 J) <| y_if J (fun hg => o_cmp (ct hg) (ct hg) J) <| y0 J (pk_and J J J (fun q => eqT q)) <| S2 1 J <| pw_ret ?_
 cases h
 exact f1

theorem weak_picked__weak_Naming_1_ok {a0 a1} : PO Tryz.prog 236 [.L weak_Cell.Pv a0, .fn (.func 258) [.rptr [.I a1]]] (weak_picked__weak_Naming_1 a0 a1) fun r => .L iF r := by
 refine pO Tryz.func236 fun r h _ _ => ?_
 refine S4 1 J <| S4 1 J ?_
 refine jq h (fun j15 => St.of [(5, .sl 910005)] [(910005, ⟨List.map iF j15, (List.map iF j15).length, true, 1, true⟩)]) (fun j15 h => ?_) fun κ14 h => ?_
 ·refine S4 2 J ?_
  refine pw_ret ?_
  cases h
  exact f1
 ·refine S3 1 J ?_
  refine nL J Ty.e28 <| S2 1 J <| pw_block <| lq h (fun q => St.of [(1, .fn (.func 258) [.rptr [.I a1]]), (5, .sl 910005), (8, .L weak_Cell.Pv a0), (9, .I (a0.length : Int)), (10, .I q.1)] [(910005, ⟨List.map iF q.2, (List.map iF q.2).length, true, 1, true⟩)]) (Wk.trans (wk_nil (t := 5) (l := 920005) (z := 1) J J) (WP (fun l => if l = 910005 then 920005 else l))) fun q20 x19 h hx14 => ?_
  obtain ⟨s17, s18⟩ := q20
  refine S4 1 J <| pw_seq ?_
  refine cN h (fun hc h => ?_) fun hc h => ?_
  ·refine pw_skip ?_
   refine jq h (fun j25 => St.of [(1, .fn (.func 258) [.rptr [.I a1]]), (5, .sl 21), (8, .L weak_Cell.Pv a0), (9, .I (a0.length : Int)), (10, .I s17)] [(21, ⟨List.map iF j25, (List.map iF j25).length, true, 1, true⟩)]) (fun j25 h => ?_) fun κ24 h => ?_
   ·refine S6 2 J ?_
    exact eL h (Wk.trans (wk_frz _ [21]) (WP (fun l => if l = 910005 then 21 else l)))
   ·refine pw_block ?_
    refine S3 1 J <| iL h J J Ty.e28 Ty.s84 fun v26 _ h => S2 4 J <| S3 2 J <| cA h weak_Naming_1_ok J J fun v27 _ h => yN ?_
    refine cN h (fun hc h => ?_) fun hc h => ?_
    ·refine S5 2 J ?_
     refine y0 J (o_bI (f := iF) (l := [s17]) J Ty.e27 Ty.s3 Ty.z3 J J nl J J) <| bnE h fun v28 hv21 h => y_app J (o_apR (f := iF) hv21 J J J J J J (.inl ⟨_, J, J⟩) Ty.e27 Ty.s3 Ty.b3 Ty.z3 J (fun _ => J)) J J J <| S2 1 J ?_
     exact eJ h (Wk.trans (wk_frz _ [21]) W)
    ·refine pw_skip ?_
     exact eJ h (Wk.trans (wk_frz _ [910005]) (WP (fun l => if l = 21 then 910005 else l)))
  ·refine pw_exit ?_
   refine thenQ_exit <| thenQ_exit <| blockQ_exit ?_
   have h := xL hx14 h
   exact eJ h (Wk.trans (wk_frz _ [910005]) W)

theorem weak_Naming_ok {a0 a1} : PO Tryz.prog 212 [.L weak_Cell.Pv a0, .I a1] (weak_Naming a0 a1) fun r => .I r := by
 refine pO Tryz.func212 fun r h _ _ => ?_
 unfold weak_Naming at h
 refine S4 2 J <| S3 2 J <| bnE h fun v1 hv1 h => ycL J (o_clF J weak_picked__weak_Naming_1_ok J hv1) J <| nL J Ty.e27 <| S2 1 J <| pw_ret ?_
 cases h
 exact f1

theorem hold_foundFit_ok {a0} : PO Tryz.prog 151 [hold_Heap.Pv a0] (hold_foundFit a0) fun r => .bool r := by
 refine pO Tryz.func151 fun r h _ _ => ?_
 refine S4 2 J ?_
 refine jq h (fun _ => St.of [] []) (fun q13 h => ?_) fun κ12 h => ?_
 ·refine S4 1 J ?_
  refine pw_ret ?_
  cases h
  exact f1
 ·refine S3 4 J ?_
  refine nL J Ty.e22 <| S2 1 J <| pw_block <| lq h (fun s15 => St.of [(1, .ptr 1 0 0), (8, .L slab_Cell_store_Obj.Pv a0.S.S.Cells), (9, .I (a0.S.S.Cells.length : Int)), (10, .I s15)] [(1, vR (hold_Heap.Pv a0) 8)]) W fun s15 x16 h hx14 => S4 1 J <| pw_seq ?_
  refine cN h (fun hc h => ?_) fun hc h => ?_
  ·refine pw_skip ?_
   refine jq h (fun _ => St.of [(1, .ptr 1 0 0), (8, .L slab_Cell_store_Obj.Pv a0.S.S.Cells), (9, .I (a0.S.S.Cells.length : Int)), (10, .I s15)] [(1, vR (hold_Heap.Pv a0) 8)]) (fun q21 h => ?_) fun κ20 h => ?_
   ·refine S6 2 J ?_
    exact eL h W
   ·refine pw_block ?_
    refine S3 1 J <| iL h J J Ty.e22 Ty.s141 fun v22 _ h => S2 4 J <| pw_seq <| S3 4 J <| y_if J (fun hg => oF J Ty.f141_0 J) <| y_if J (fun hg => oS (ct hg) J J Ty.a3 J) <| y_if J (fun hg => o_cmp (ct hg) J J) <| y0 J (pk_and J J J (fun q => eqT q)) <| yN ?_
    refine cN h (fun hc h => ?_) fun hc h => ?_
    ·refine pw_exit ?_
     refine thenQ_exit <| blockQ_exit ?_
     exact eJ h W
    ·refine pw_skip ?_
     refine pw_seq <| dr [] Ty.mix (by kernel_rfl) (by kernel_rfl) <| S7 8 J <| bnE h fun v23 hv20 h => d2 J (o_cl J handle_Pack_ok J hv20) J <| bnE h fun v24 hv21 h => d2 J (o_cl J weak_Naming_ok J hv21) J <| S8 1 J ?_
     refine cN h (fun hc h => ?_) fun hc h => ?_
     ·refine S4 1 J ?_
      refine pw_ret ?_
      have h := xL hx14 h
      cases h
      exact f1
     ·refine pw_skip ?_
      refine S3 4 J <| y_if J (fun hg => oF J Ty.f141_2 J) <| y_if J (fun hg => oF (ct hg) Ty.f91_2 J) <| y_if J (fun hg => oS (ct hg) J J Ty.a3 J) <| y_if J (fun hg => o_cmp (ct hg) J J) <| y_if J (fun hg => om (d := .bool (decide (v22.Val.Weak < 1))) (ct hg)) <| y_if (want2 J J J) (fun hg => oF J Ty.f141_2 J) <| y_if (want2 J J J) (fun hg => oF (ct hg) Ty.f91_5 J) <| y_if (want2 J J J) (fun hg => oS (ct hg) J J Ty.a27 J) <| y_if (want2 J J J) (fun hg => o_lnL (f := iF) (ct hg) Ty.e27) <| y_if (want2 J J J) (fun hg => o_cmp (ct hg) J J) <| y_if J (fun hg => pk_or (ct hg) J J (fun q => andI hg (eqF q))) <| y_if J (fun hg => om (d := .bool ((decide (v22.Val.Weak < 1)) || (decide ((v22.Val.Fields.length : Int) > 0)))) (ct hg)) <| y_if (want2 J J J) (fun hg => oF J Ty.f141_2 J) <| y_if (want2 J J J) (fun hg => oF (ct hg) Ty.f91_1 J) <| y_if (want2 J J J) (fun hg => oS (ct hg) J J Ty.a3 J) <| y_if (want2 J J J) (fun hg => o_cmp (ct hg) J J) <| y_if J (fun hg => pk_or (ct hg) J J (fun q => andI hg (eqF q))) <| y0 J (pk_and J J J (fun q => eqT q)) <| yN ?_
      refine cN h (fun hc h => ?_) fun hc h => ?_
      ·refine S4 1 J ?_
       refine pw_ret ?_
       have h := xL hx14 h
       cases h
       exact f1
      ·refine pw_skip ?_
       exact eJ h W
  ·refine pw_exit ?_
   refine thenQ_exit <| thenQ_exit <| blockQ_exit ?_
   have h := xL hx14 h
   exact eJ h W

theorem fvcall1_ok {f : Fv} {a0 : hold_Heap} {r : Bool} (h : fvcall1 f a0 = some r) : ∃ n, f = some n ∧ Callable Tryz.prog n ∧ PCalls Tryz.prog n [hold_Heap.Pv a0] (.bool r) := by
 unfold fvcall1 at h
 by_cases e147 : f = some 147
 ·rw [if_pos e147] at h; exact ⟨147, e147, (@hold_namesLive_ok a0).1, (@hold_namesLive_ok a0).2 _ h⟩
 rw [if_neg e147] at h
 by_cases e148 : f = some 148
 ·rw [if_pos e148] at h; exact ⟨148, e148, (@hold_pairsLive_ok a0).1, (@hold_pairsLive_ok a0).2 _ h⟩
 rw [if_neg e148] at h
 by_cases e149 : f = some 149
 ·rw [if_pos e149] at h; exact ⟨149, e149, (@hold_tasksFit_ok a0).1, (@hold_tasksFit_ok a0).2 _ h⟩
 rw [if_neg e149] at h
 by_cases e150 : f = some 150
 ·rw [if_pos e150] at h; exact ⟨150, e150, (@hold_cellsFit_ok a0).1, (@hold_cellsFit_ok a0).2 _ h⟩
 rw [if_neg e150] at h
 by_cases e151 : f = some 151
 ·rw [if_pos e151] at h; exact ⟨151, e151, (@hold_foundFit_ok a0).1, (@hold_foundFit_ok a0).2 _ h⟩
 rw [if_neg e151] at h
 cases h

theorem task_Held_ok {a0} : PO Tryz.prog 153 [queue_Queue_task_Task.Pv a0] (task_Held a0) fun r => .L iF r := by
 refine pO Tryz.func153 fun r h _ _ => ?_
 refine S4 2 J <| S4 1 J ?_
 refine jq h (fun j10 => St.of [(3, .ptr 2001 0 0)] [(2001, vS (.sl 912501) 1), (912501, ⟨List.map iF j10, (List.map iF j10).length, true, 1, true⟩)]) (fun j10 h => ?_) fun κ9 h => ?_
 ·refine S4 2 J ?_
  refine pw_ret ?_
  cases h
  exact f1
 ·refine S3 1 J ?_
  refine cF h task_of_ok J J fun v11 _ h => yN <| pw_block <| pw_wk (WPE (fun l => if l = 2011 then 3 else l) [(3, .ptr 2011 0 0), (6, .fn (.func 220) [.rptr (queue_Queue_task_Task.Pc v11.1), .rptr [.I v11.2]])] [(2011, vR (.nl) 1)]) ?_
  refine pw_range (fn := Tryz.f220) (N1 := 24) J Tryz.func220 J J nl J Ty.k220 J J (fun l17 e18 o19 hR20 => ?_)
  refine S3 2 J <| nL J Ty.e30 <| S2 1 J <| pw_block <| lq h (fun q => St.of [(1000003, .ptr 2011 0 0), (1000006, .fn (.func 220) [.rptr (queue_Queue_task_Task.Pc v11.1), .rptr [.I v11.2]]), (0, .fn (.yield l17) []), (2, .rptr [.I v11.2]), (7, .L task_Task.Pv v11.1.L), (8, .I (v11.1.L.length : Int)), (9, .I q.1)] [(2011, vS (.sl 912511) 1), (912511, ⟨List.map iF q.2, (List.map iF q.2).length, true, 1, true⟩)]) (Wk.trans (wk_nilC (l0 := 2011) (j := 0) (l := 922511) (z := 1) J J J J J) (WP (fun l => if l = 912511 then 922511 else l))) fun q16 x15 h hx23 => ?_
  obtain ⟨s13, s14⟩ := q16
  refine S4 1 J <| pw_seq ?_
  refine cN h (fun hc h => ?_) fun hc h => ?_
  ·refine pw_skip ?_
   refine pw_seq <| pw_block <| sR <| iL h J J Ty.e30 Ty.s82 fun v17 _ h => S2 3 J <| S3 5 J <| y_if J (fun hg => om (d := .fn (.yield l17) []) J) <| y_if J (fun hg => oL J J J Ty.a82 Ty.s82 nl J) ?_
   rcases Bool.eq_false_or_eq_true ((v17.Kind == v11.2) == true) with hg25 | hg25
   ·have h := ifT h hg25
    refine y_wk (WPE (fun l => if l = 2019 then 912511 else l) [(1000003, .ptr 2011 0 0), (1000006, .fn (.func 220) [.rptr (queue_Queue_task_Task.Pc v11.1), .rptr [.I v11.2]]), (0, .fn (.yield l17) []), (2, .rptr [.I v11.2]), (7, .L task_Task.Pv v11.1.L), (8, .I (v11.1.L.length : Int)), (9, .I s13), (17, .bool (v17.Kind == v11.2)), (18, .fn (.yield l17) []), (19, task_Task.Pv v17)] [(2011, vS (.sl 2019) 1), (2019, ⟨List.map iF s14, (List.map iF s14).length, true, 1, true⟩)]) ?_
    refine y_yield hR20 (congrArg some hg25) J J J J J (fun e26 o27 o28 => ?_)
    refine S6 2 J ?_
    refine ⟨J, ?_⟩
    refine pw_block <| S5 3 J <| y0 J (o_bI (f := iF) (l := [v17.At]) J Ty.e27 Ty.s3 Ty.z3 J J nl J J) <| bnE h fun v18 hv29 h => y_app J (o_apR (f := iF) hv29 J J J J J J (.inl ⟨_, J, J⟩) Ty.e27 Ty.s3 Ty.b3 Ty.z3 J (fun _ => J)) J J J <| S2 1 J ?_
    refine ⟨J, ?_⟩
    refine y_wk (WPE (fun l => if l = 2020 then 12 else l) [(1000003, .ptr 2011 0 0), (1000006, .fn (.func 220) [.rptr (queue_Queue_task_Task.Pc v11.1), .rptr [.I v11.2]]), (0, .fn (.yield l17) []), (2, .rptr [.I v11.2]), (7, .L task_Task.Pv v11.1.L), (8, .I (v11.1.L.length : Int)), (9, .I s13), (17, .bool (v17.Kind == v11.2)), (20, .bool true)] [(2011, vS (.sl 2020) 1), (2020, ⟨List.map iF v18, s14.length, true, 1, true⟩)]) <| y0 (congrArg some hg25) (o_not J J) <| y0 J (pk_andT J J hg25) <| yN ?_
    refine pw_cond false J (fun q => nomatch q) (fun _ => ?_)
    refine pw_skip <| S6 2 J ?_
    exact eL h (Wk.trans (wk_frz _ [2020]) (WP (fun l => if l = 912511 then 2020 else l)))
   ·have h := ifF h hg25
    refine y_skip (congrArg some hg25) <| y_skip (congrArg some hg25) <| y0 J (pk_andF J J hg25) <| yN ?_
    refine pw_cond false J (fun q => nomatch q) (fun _ => ?_)
    refine pw_skip <| S6 2 J ?_
    exact eL h (Wk.trans (wk_frz _ [912511]) W)
  ·refine pw_exit ?_
   refine thenQ_exit <| thenQ_exit <| blockQ_exit ?_
   refine .inl ⟨J, ?_⟩
   have h := xL hx23 h
   exact eJ h (Wk.trans (wk_frz _ [912511]) (WP (fun l => if l = 2001 then 2011 else if l = 912501 then 912511 else l)))

theorem hold_Outer_ok {a0} : PO Tryz.prog 63 [hold_Heap.Pv a0] (hold_Outer a0) fun r => .L iF r := by
 refine pO Tryz.func63 fun r h _ _ => ?_
 refine S4 2 J <| S4 1 J ?_
 refine jq h (fun j13 => St.of [(1, .ptr 1 0 0), (3, .sl 910003)] [(910003, ⟨List.map iF j13, (List.map iF j13).length, true, 1, true⟩), (1, vR (hold_Heap.Pv a0) 8)]) (fun j13 h => ?_) fun κ12 h => ?_
 ·refine S3 3 J ?_
  refine cF h task_Held_ok J J fun v14 _ h => bnE h fun v15 hv11 h => y_app J (o_apR (f := iF) hv11 J J J J J J (.inl ⟨_, J, J⟩) Ty.e27 Ty.s3 Ty.b3 Ty.z3 J (fun _ => J)) J J J <| S2 1 J <| pw_ret ?_
  cases h
  exact f1
 ·refine S3 2 J ?_
  refine nL J Ty.e27 <| S2 1 J <| pw_block <| lq h (fun q => St.of [(1, .ptr 1 0 0), (3, .sl 910003), (7, .L iF a0.Roots), (8, .I (a0.Roots.length : Int)), (9, .I q.1)] [(1, vR (hold_Heap.Pv a0) 8), (910003, ⟨List.map iF q.2, (List.map iF q.2).length, true, 1, true⟩)]) (Wk.trans (wk_nil (t := 3) (l := 920003) (z := 1) J J) (WP (fun l => if l = 910003 then 920003 else l))) fun q20 x19 h hx14 => ?_
  obtain ⟨s17, s18⟩ := q20
  refine S4 1 J <| pw_seq ?_
  refine cN h (fun hc h => ?_) fun hc h => ?_
  ·refine pw_skip ?_
   refine jq h (fun j24 => St.of [(1, .ptr 1 0 0), (3, .sl 18), (7, .L iF a0.Roots), (8, .I (a0.Roots.length : Int)), (9, .I s17)] [(18, ⟨List.map iF j24, (List.map iF j24).length, true, 1, true⟩), (1, vR (hold_Heap.Pv a0) 8)]) (fun j24 h => ?_) fun κ23 h => ?_
   ·refine S6 2 J ?_
    exact eL h (Wk.trans (wk_frz _ [18]) (WP (fun l => if l = 910003 then 18 else l)))
   ·refine pw_block ?_
    refine sR <| iL h J J Ty.e27 Ty.s3 fun v25 _ h => S2 2 J <| S4 2 J ?_
    refine cN h (fun hc h => ?_) fun hc h => ?_
    ·refine S5 2 J ?_
     refine y0 J (o_bI (f := iF) (l := [v25]) J Ty.e27 Ty.s3 Ty.z3 J J nl J J) <| bnE h fun v26 hv19 h => y_app J (o_apR (f := iF) hv19 J J J J J J (.inl ⟨_, J, J⟩) Ty.e27 Ty.s3 Ty.b3 Ty.z3 J (fun _ => J)) J J J <| S2 1 J ?_
     exact eJ h (Wk.trans (wk_frz _ [18]) W)
    ·refine pw_skip ?_
     exact eJ h (Wk.trans (wk_frz _ [910003]) (WP (fun l => if l = 18 then 910003 else l)))
  ·refine pw_exit ?_
   refine thenQ_exit <| thenQ_exit <| blockQ_exit ?_
   have h := xL hx14 h
   exact eJ h (Wk.trans (wk_frz _ [910003]) W)

theorem count_Stuck_ok {a0} : PO Tryz.prog 214 [.I a0] (count_Stuck a0) fun r => .bool r := by
 refine pO Tryz.func214 fun r h _ _ => ?_
 refine S4 1 J <| S3 1 J <| cA h count_tally_stuck_ok J J fun v1 _ h => S2 1 J <| pw_ret ?_
 cases h
 exact f1

theorem refs_edges_ok {a0} : PO Tryz.prog 285 [store_Store.Pv a0] (refs_edges a0) fun r => .fn (.func 287) [.rptr (store_Store.Pc r)] := by
 refine pO Tryz.func285 fun r h _ _ => ?_
 unfold refs_edges at h
 refine S4 2 J <| S4 2 J <| pw_ret ?_
 cases h
 exact f1

theorem refs_Out_ok {a0 a1} : PO Tryz.prog 288 [store_Store.Pv a0, .I a1] (refs_Out a0 a1) fun r => .L iF r := by
 refine pO Tryz.func288 fun r h _ _ => ?_
 refine S4 2 J <| S3 2 J <| cF h store_Get_ok J J fun v1 _ h => S2 6 J <| S3 2 J <| cF h vec_Names_ok J J fun v2 _ h => S2 1 J <| pw_ret ?_
 cases h
 exact f1

theorem refs_In_ok {a0 a1} : PO Tryz.prog 282 [store_Store.Pv a0, .I a1] (refs_In a0 a1) fun r => .I r := by
 refine pO Tryz.func282 fun r h _ _ => ?_
 refine S4 3 J <| S4 2 J ?_
 refine jq h (fun j31 => St.of [(5, .ptr 2001 0 0)] [(2001, vR (.I j31) 1)]) (fun j31 h => ?_) fun κ30 h => ?_
 ·refine S4 2 J ?_
  refine pw_ret ?_
  cases h
  exact f1
 ·refine S3 1 J ?_
  refine cF h refs_edges_ok J J fun v32 _ h => yN <| pw_block <| pw_wk (WPE (fun l => if l = 2003 then 5 else if l = 2004 then 3 else l) [(3, .ptr 2004 0 0), (5, .ptr 2003 0 0), (9, .fn (.func 287) [.rptr (store_Store.Pc v32)])] [(2003, vR (.I 0) 1), (2004, vR (.I a1) 1)]) ?_
  refine pw_range (fn := Tryz.f287) (N1 := 29) J Tryz.func287 J J nl J Ty.k287 J J (fun l33 e34 o35 hR36 => ?_)
  refine pw_scope <| pw_seq <| pw_label <| S3 1 J <| cF h store_Live_ok J J fun v33 _ h => nL J Ty.e27 <| S2 1 J <| pw_block <| lq h (fun q => St.of [(1000003, .ptr 2004 0 0), (1000005, .ptr 2003 0 0), (1000009, .fn (.func 287) [.rptr (store_Store.Pc v32)]), (0, .fn (.yield l33) []), (1, .rptr (store_Store.Pc v32)), (8, .L iF v33), (9, .I (v33.length : Int)), (10, .I q.1)] [(2003, vR (.I q.2) 1), (2004, vR (.I a1) 1)]) W fun q38 x37 h hx40 => ?_
  obtain ⟨s35, s36⟩ := q38
  refine S4 1 J <| pw_seq ?_
  refine cN h (fun hc h => ?_) fun hc h => ?_
  ·refine pw_skip ?_
   refine jq h (fun j50 => St.of [(1000003, .ptr 2004 0 0), (1000005, .ptr 2003 0 0), (1000009, .fn (.func 287) [.rptr (store_Store.Pc v32)]), (0, .fn (.yield l33) []), (1, .rptr (store_Store.Pc v32)), (8, .L iF v33), (9, .I (v33.length : Int)), (10, .I s35)] [(2003, vR (.I j50) 1), (2004, vR (.I a1) 1)]) (fun j50 h => ?_) fun κ49 h => ?_
   ·refine S6 2 J ?_
    exact eL h W
   ·refine pw_block ?_
    refine sR <| iL h J J Ty.e27 Ty.s3 fun v51 _ h => S2 2 J <| S3 2 J <| cF h refs_Out_ok J J fun v52 _ h => nL J Ty.e27 <| S2 1 J <| pw_block <| lq h (fun q => St.of [(1000003, .ptr 2004 0 0), (1000005, .ptr 2003 0 0), (1000009, .fn (.func 287) [.rptr (store_Store.Pc v32)]), (0, .fn (.yield l33) []), (1, .rptr (store_Store.Pc v32)), (4, .I v51), (8, .L iF v33), (9, .I (v33.length : Int)), (10, .I s35), (16, .L iF v52), (17, .I (v52.length : Int)), (18, .I q.1)] [(2003, vR (.I q.2) 1), (2004, vR (.I a1) 1)]) W fun q57 x56 h hx56 => ?_
    obtain ⟨s54, s55⟩ := q57
    refine S4 1 J <| pw_seq ?_
    refine cN h (fun hc h => ?_) fun hc h => ?_
    ·refine pw_skip ?_
     refine pw_seq <| pw_block <| sR <| iL h J J Ty.e27 Ty.s3 fun v58 _ h => S2 2 J <| S3 3 J <| y_wk (WE [(1000003, .ptr 2004 0 0), (1000005, .ptr 2003 0 0), (1000009, .fn (.func 287) [.rptr (store_Store.Pc v32)]), (0, .fn (.yield l33) []), (1, .rptr (store_Store.Pc v32)), (4, .I v51), (8, .L iF v33), (9, .I (v33.length : Int)), (10, .I s35), (16, .L iF v52), (17, .I (v52.length : Int)), (18, .I s54), (22, .fn (.yield l33) []), (23, .I v51), (24, .I v58)] [(2003, vR (.I s55) 1), (2004, vR (.I a1) 1)]) ?_
     refine y_yield hR36 J J J J J J (fun e58 o59 o60 => ?_)
     refine S6 1 J ?_
     refine ⟨J, ?_⟩
     refine jqE h (fun j60 => St.of [(2000003, .ptr 2004 0 0), (2000005, .ptr 2003 0 0), (2000009, .fn (.func 287) [.rptr (store_Store.Pc v32)]), (1000000, .fn (.yield l33) []), (1000001, .rptr (store_Store.Pc v32)), (1000004, .I v51), (1000008, .L iF v33), (1000009, .I (v33.length : Int)), (1000010, .I s35), (1000016, .L iF v52), (1000017, .I (v52.length : Int)), (1000018, .I s54), (1000022, .fn (.yield l33) []), (1000023, .I v51), (1000024, .I v58)] [(2003, vR (.I j60) 1), (2004, vR (.I a1) 1)]) (fun j60 h => ?_) fun κ59 h => ?_
     ·refine ⟨J, ?_⟩
      refine y_wk (WE [(1000003, .ptr 2004 0 0), (1000005, .ptr 2003 0 0), (1000009, .fn (.func 287) [.rptr (store_Store.Pc v32)]), (0, .fn (.yield l33) []), (1, .rptr (store_Store.Pc v32)), (4, .I v51), (8, .L iF v33), (9, .I (v33.length : Int)), (10, .I s35), (16, .L iF v52), (17, .I (v52.length : Int)), (18, .I s54), (25, .bool true)] [(2003, vR (.I j60) 1), (2004, vR (.I a1) 1)]) <| S2 1 J ?_
      refine pw_cond false J (fun q => nomatch q) (fun _ => ?_)
      refine pw_skip <| S6 2 J ?_
      exact eL h W
     ·refine pw_block ?_
      refine S4 3 J ?_
      refine cN h (fun hc h => ?_) fun hc h => ?_
      ·refine S6 3 J ?_
       exact eJ h W
      ·refine pw_skip ?_
       exact eJ h W
    ·refine pw_exit ?_
     refine thenQ_exit <| thenQ_exit <| blockQ_exit ?_
     have h := xL hx56 h
     exact eJ h W
  ·refine pw_exit ?_
   refine thenQ_exit <| thenQ_exit <| blockQ_exit <| scopeQ_normal ?_
   refine .inl ⟨J, ?_⟩
   have h := xL hx40 h
   exact eJ h (WP (fun l => if l = 2001 then 2003 else l))

theorem ephem_Owned_1_ok {a0 a1} : PO Tryz.prog 286 [ephem_Pair.Pv a0, .rptr [.I a1]] (ephem_Owned_1 a0 a1) fun r => .bool r := by
 refine pO Tryz.func286 fun r h _ _ => ?_
 unfold ephem_Owned_1 at h
 refine S4 2 J <| S3 3 J <| y_if J (fun hg => oF J Ty.f238_1 J) <| y_if J (fun hg => oS (ct hg) J J Ty.a3 J) <| y_if J (fun hg => o_loadRS J Ty.a3 J) <| y_if J (fun hg => o_cmp (ct hg) (ct hg) J) <| y0 J (pk_and J J J (fun q => eqT q)) <| S2 1 J <| pw_ret ?_
 cases h
 exact f1

theorem ephem_gathered_ephem_Pair__ephem_pairs_1__ephem_Owned_1_ok {a0 a1} : PO Tryz.prog 255 [.fn (.func 280) [.rptr [.L hash_Place.Pv a0]], .fn (.func 286) [.rptr [.I a1]]] (ephem_gathered_ephem_Pair__ephem_pairs_1__ephem_Owned_1 a0 a1) fun r => .L ephem_Pair.Pv r := by
 refine pO Tryz.func255 fun r h _ _ => ?_
 refine S4 2 J <| S4 1 J ?_
 refine jq h (fun j16 => St.of [(5, .ptr 2001 0 0)] [(2001, vS (.sl 912501) 1), (912501, ⟨List.map ephem_Pair.Pv j16, (List.map ephem_Pair.Pv j16).length, true, 2, true⟩)]) (fun j16 h => ?_) fun κ15 h => ?_
 ·refine S4 2 J ?_
  refine pw_ret ?_
  cases h
  exact f1
 ·refine S4 1 J ?_
  refine pw_block <| pw_wk (WPE (fun l => if l = 2012 then 5 else if l = 2013 then 3 else l) [(3, .ptr 2013 0 0), (5, .ptr 2012 0 0), (7, .fn (.func 280) [.rptr [.L hash_Place.Pv a0]])] [(2012, vR (.nl) 1), (2013, vR (.fn (.func 286) [.rptr [.I a1]]) 1)]) ?_
  refine pw_range (fn := Tryz.f280) (N1 := 27) J Tryz.func280 J J nl J Ty.k280 J J (fun l20 e21 o22 hR23 => ?_)
  refine S3 1 J <| cF h hash_Keys_ok J J fun v17 _ h => nL J Ty.e27 <| S2 1 J <| pw_block <| lq h (fun q => St.of [(1000003, .ptr 2013 0 0), (1000005, .ptr 2012 0 0), (1000007, .fn (.func 280) [.rptr [.L hash_Place.Pv a0]]), (0, .fn (.yield l20) []), (1, .rptr [.L hash_Place.Pv a0]), (8, .L iF v17), (9, .I (v17.length : Int)), (10, .I q.1)] [(2012, vS (.sl 912512) 1), (2013, vR (.fn (.func 286) [.rptr [.I a1]]) 1), (912512, ⟨List.map ephem_Pair.Pv q.2, (List.map ephem_Pair.Pv q.2).length, true, 2, true⟩)]) (Wk.trans (wk_nilC (l0 := 2012) (j := 0) (l := 922512) (z := 2) J J J J J) (WP (fun l => if l = 912512 then 922512 else l))) fun q22 x21 h hx27 => ?_
  obtain ⟨s19, s20⟩ := q22
  refine S4 1 J <| pw_seq ?_
  refine cN h (fun hc h => ?_) fun hc h => ?_
  ·refine pw_skip ?_
   refine pw_seq <| pw_block <| sR <| iL h J J Ty.e27 Ty.s3 fun v23 _ h => S2 2 J <| S3 2 J <| cA h hash_Get_ok J J fun v24 _ h => S2 5 J <| S3 3 J <| y0 J (o_build (cs := [.I v23, .I v24.1]) J Ty.p238 Ty.z238 J J J) <| y_wk (WPE (fun l => if l = 2021 then 912512 else l) [(1000003, .ptr 2013 0 0), (1000005, .ptr 2012 0 0), (1000007, .fn (.func 280) [.rptr [.L hash_Place.Pv a0]]), (0, .fn (.yield l20) []), (1, .rptr [.L hash_Place.Pv a0]), (8, .L iF v17), (9, .I (v17.length : Int)), (10, .I s19), (20, .fn (.yield l20) []), (23, .agg [.I v23, .I v24.1])] [(2012, vS (.sl 2021) 1), (2021, ⟨List.map ephem_Pair.Pv s20, (List.map ephem_Pair.Pv s20).length, true, 2, true⟩), (2013, vR (.fn (.func 286) [.rptr [.I a1]]) 1)]) ?_
   refine y_yield hR23 J J J J J J (fun e30 o31 o32 => ?_)
   refine S6 2 J ?_
   refine ⟨J, ?_⟩
   refine jqE h (fun j28 => St.of [(2000003, .ptr 2013 0 0), (2000005, .ptr 2012 0 0), (2000007, .fn (.func 280) [.rptr [.L hash_Place.Pv a0]]), (1000000, .fn (.yield l20) []), (1000001, .rptr [.L hash_Place.Pv a0]), (1000008, .L iF v17), (1000009, .I (v17.length : Int)), (1000010, .I s19), (1000020, .fn (.yield l20) []), (1000023, .agg [.I v23, .I v24.1])] [(2012, vS (.sl 15) 1), (15, ⟨List.map ephem_Pair.Pv j28, (List.map ephem_Pair.Pv j28).length, true, 2, true⟩), (2013, vR (.fn (.func 286) [.rptr [.I a1]]) 1)]) (fun j28 h => ?_) fun κ27 h => ?_
   ·refine ⟨J, ?_⟩
    refine y_wk (WPE (fun l => if l = 2022 then 15 else l) [(1000003, .ptr 2013 0 0), (1000005, .ptr 2012 0 0), (1000007, .fn (.func 280) [.rptr [.L hash_Place.Pv a0]]), (0, .fn (.yield l20) []), (1, .rptr [.L hash_Place.Pv a0]), (8, .L iF v17), (9, .I (v17.length : Int)), (10, .I s19), (24, .bool true)] [(2012, vS (.sl 2022) 1), (2022, ⟨List.map ephem_Pair.Pv j28, (List.map ephem_Pair.Pv j28).length, true, 2, true⟩), (2013, vR (.fn (.func 286) [.rptr [.I a1]]) 1)]) <| S2 1 J ?_
    refine pw_cond false J (fun q => nomatch q) (fun _ => ?_)
    refine pw_skip <| S6 2 J ?_
    exact eL h (Wk.trans (wk_frz _ [2022]) (WP (fun l => if l = 912512 then 2022 else l)))
   ·refine pw_block ?_
    refine S3 2 J <| cA h ephem_Owned_1_ok J J fun v29 _ h => yN ?_
    refine cN h (fun hc h => ?_) fun hc h => ?_
    ·refine S5 2 J ?_
     refine y0 J (o_bI (f := ephem_Pair.Pv) (l := [(⟨v23, v24.1⟩ : ephem_Pair)]) J Ty.e239 Ty.s238 Ty.z238 J J nl J J) <| bnE h fun v30 hv37 h => y_app J (o_apR (f := ephem_Pair.Pv) hv37 J J J J J J (.inl ⟨_, J, J⟩) Ty.e239 Ty.s238 Ty.b238 Ty.z238 J (fun _ => J)) J J J <| S2 1 J ?_
     exact eJ h (Wk.trans (wk_frz _ [15]) W)
    ·refine pw_skip ?_
     exact eJ h (Wk.trans (wk_frz _ [2021]) (WP (fun l => if l = 15 then 2021 else l)))
  ·refine pw_exit ?_
   refine thenQ_exit <| thenQ_exit <| blockQ_exit ?_
   refine .inl ⟨J, ?_⟩
   have h := xL hx27 h
   exact eJ h (Wk.trans (wk_frz _ [912512]) (WP (fun l => if l = 2001 then 2012 else if l = 912501 then 912512 else l)))

theorem ephem_Owned_ok {a0 a1} : PO Tryz.prog 283 [.L hash_Place.Pv a0, .I a1] (ephem_Owned a0 a1) fun r => .I r := by
 refine pO Tryz.func283 fun r h _ _ => ?_
 refine S4 2 J <| S3 1 J <| cF h ephem_pairs_ok J J fun v1 _ h => S1 1 J <| bnE h fun v2 hv2 h => ycL J (o_clF J ephem_gathered_ephem_Pair__ephem_pairs_1__ephem_Owned_1_ok J hv2) J <| nL J Ty.e239 <| S2 1 J <| pw_ret ?_
 cases h
 exact f1

theorem trial_Inner_ok {a0 a1 a2} : PO Tryz.prog 259 [store_Store.Pv a0, .L hash_Place.Pv a1, .I a2] (trial_Inner a0 a1 a2) fun r => .I r := by
 refine pO Tryz.func259 fun r h _ _ => ?_
 refine S4 2 J <| S3 2 J <| cA h refs_In_ok J J fun v1 _ h => S1 2 J <| cA h ephem_Owned_ok J J fun v2 _ h => S2 2 J <| pw_ret ?_
 cases h
 exact f1

theorem trial_Rest_ok {a0 a1 a2} : PO Tryz.prog 215 [store_Store.Pv a0, .L hash_Place.Pv a1, .I a2] (trial_Rest a0 a1 a2) fun r => .I r := by
 refine pO Tryz.func215 fun r h _ _ => ?_
 refine S4 2 J <| S3 2 J <| cF h store_Get_ok J J fun v1 _ h => S2 6 J <| pw_seq <| S4 2 J ?_
 refine cN h (fun hc h => ?_) fun hc h => ?_
 ·refine S4 1 J ?_
  refine pw_ret ?_
  cases h
  exact f1
 ·refine pw_skip ?_
  refine dr [] Ty.mix (by kernel_rfl) (by kernel_rfl) <| S7 5 J <| bnE h fun v2 hv2 h => d2 J (o_cl J trial_Inner_ok J hv2) J <| S8 2 J <| pw_ret ?_
  cases h
  exact f1

theorem vec_Count_ok {a0 a1} : PO Tryz.prog 260 [.L iF a0, .I a1] (vec_Count a0 a1) fun r => .I r := by
 refine pO Tryz.func260 fun r h _ _ => ?_
 refine S4 2 J <| S4 2 J ?_
 refine jq h (fun j11 => St.of [(5, .ptr 2001 0 0)] [(2001, vR (.I j11) 1)]) (fun j11 h => ?_) fun κ10 h => ?_
 ·refine S4 2 J ?_
  refine pw_ret ?_
  cases h
  exact f1
 ·refine S3 1 J ?_
  refine cF h vec_named_ok J J fun v12 _ h => yN <| pw_block <| pw_wk (WPE (fun l => if l = 2003 then 5 else if l = 2004 then 3 else l) [(3, .ptr 2004 0 0), (5, .ptr 2003 0 0), (8, .fn (.func 239) [.rptr [.L iF v12]])] [(2003, vR (.I 0) 1), (2004, vR (.I a1) 1)]) ?_
  refine pw_range (fn := Tryz.f239) (N1 := 20) J Tryz.func239 J J nl J Ty.k239 J J (fun l17 e18 o19 hR20 => ?_)
  refine S3 1 J <| nL J Ty.e27 <| S2 1 J <| pw_block <| lq h (fun q => St.of [(1000003, .ptr 2004 0 0), (1000005, .ptr 2003 0 0), (1000008, .fn (.func 239) [.rptr [.L iF v12]]), (0, .fn (.yield l17) []), (5, .L iF v12), (6, .I (v12.length : Int)), (7, .I q.1)] [(2003, vR (.I q.2) 1), (2004, vR (.I a1) 1)]) W fun q17 x16 h hx23 => ?_
  obtain ⟨s14, s15⟩ := q17
  refine S4 1 J <| pw_seq ?_
  refine cN h (fun hc h => ?_) fun hc h => ?_
  ·refine pw_skip ?_
   refine pw_seq <| pw_block <| sR <| iL h J J Ty.e27 Ty.s3 fun v18 _ h => S2 2 J <| S3 3 J <| y_if J (fun hg => om (d := .fn (.yield l17) []) J) <| y_if J (fun hg => mI J) ?_
   rcases Bool.eq_false_or_eq_true ((v18 != 0) == true) with hg25 | hg25
   ·have h := ifT h hg25
    refine y_wk (WE [(1000003, .ptr 2004 0 0), (1000005, .ptr 2003 0 0), (1000008, .fn (.func 239) [.rptr [.L iF v12]]), (0, .fn (.yield l17) []), (5, .L iF v12), (6, .I (v12.length : Int)), (7, .I s14), (13, .bool (v18 != 0)), (14, .fn (.yield l17) []), (15, .I v18)] [(2003, vR (.I s15) 1), (2004, vR (.I a1) 1)]) ?_
    refine y_yield hR20 (congrArg some hg25) J J J J J (fun e26 o27 o28 => ?_)
    refine S6 1 J ?_
    refine ⟨J, ?_⟩
    refine jqE h (fun j20 => St.of [(2000003, .ptr 2004 0 0), (2000005, .ptr 2003 0 0), (2000008, .fn (.func 239) [.rptr [.L iF v12]]), (1000000, .fn (.yield l17) []), (1000005, .L iF v12), (1000006, .I (v12.length : Int)), (1000007, .I s14), (1000013, .bool (v18 != 0)), (1000014, .fn (.yield l17) []), (1000015, .I v18)] [(2003, vR (.I j20) 1), (2004, vR (.I a1) 1)]) (fun j20 h => ?_) fun κ19 h => ?_
    ·refine ⟨J, ?_⟩
     refine y_wk (WE [(1000003, .ptr 2004 0 0), (1000005, .ptr 2003 0 0), (1000008, .fn (.func 239) [.rptr [.L iF v12]]), (0, .fn (.yield l17) []), (5, .L iF v12), (6, .I (v12.length : Int)), (7, .I s14), (13, .bool (v18 != 0)), (16, .bool true)] [(2003, vR (.I j20) 1), (2004, vR (.I a1) 1)]) <| y_if J (fun hg => o_not J J) <| y0 J (pk_and J J J (fun q => eqT q)) <| yN ?_
     refine cN h (fun hc h => ?_) fun hc h => ?_
     ·refine pw_ret ?_
      refine .inl ⟨J, ?_⟩
      have h := xL hx23 h
      exact eJ h (WP (fun l => if l = 2001 then 2003 else l))
     ·refine pw_skip ?_
      refine S6 2 J ?_
      exact eL h W
    ·refine pw_block ?_
     refine S4 3 J ?_
     refine cN h (fun hc h => ?_) fun hc h => ?_
     ·refine S6 3 J ?_
      exact eJ h W
     ·refine pw_skip ?_
      exact eJ h W
   ·have h := ifF h hg25
    refine y_skip (congrArg some hg25) <| y_skip (congrArg some hg25) <| y0 J (pk_andF J J hg25) <| yN ?_
    refine pw_cond false J (fun q => nomatch q) (fun _ => ?_)
    refine pw_skip <| S6 2 J ?_
    exact eL h W
  ·refine pw_exit ?_
   refine thenQ_exit <| thenQ_exit <| blockQ_exit ?_
   refine .inl ⟨J, ?_⟩
   have h := xL hx23 h
   exact eJ h (WP (fun l => if l = 2001 then 2003 else l))

theorem refs_Times_ok {a0 a1} : PO Tryz.prog 216 [.L iF a0, .I a1] (refs_Times a0 a1) fun r => .I r := by
 refine pO Tryz.func216 fun r h _ _ => ?_
 refine S4 1 J <| S3 2 J <| cA h vec_Count_ok J J fun v1 _ h => S2 1 J <| pw_ret ?_
 cases h
 exact f1

theorem trial_Fair_1_ok {a0 a1 a2 a3 a4} : PO Tryz.prog 213 [.I a0, store_Obj.Pv a1, .rptr (store_Store.Pc a2), .rptr [.L hash_Place.Pv a3], .rptr [.L iF a4]] (trial_Fair_1 a0 a1 a2 a3 a4) fun r => .bool r := by
 refine pO Tryz.func213 fun r h _ _ => ?_
 unfold trial_Fair_1 at h
 refine S4 2 J <| dr [] Ty.mix (by kernel_rfl) (by kernel_rfl) <| S7 2 J <| bnE h fun v1 hv1 h => d2 J (o_cl J count_Stuck_ok J hv1) J <| S7 2 J <| d_if0 J (fun hg => o_loadRA J Ty.a26 Ty.s26 nl J) J <| d_if0 J (fun hg => o_loadRS J Ty.a29 J) J <| d_if7 J (fun hg _ hN => mI J) J <| bnE h fun v2 hv2 h => d_if2 J (fun hg => o_cl J trial_Rest_ok (consE (ct hg) (consE (ct hg) (consE (ct hg) J))) (onlyE hv2 hg)) J <| d_if0 J (fun hg => o_loadRS J Ty.a27 J) J <| d_if7 J (fun hg _ hN => mI J) J <| bnE h fun v3 hv3 h => d_if2 J (fun hg => o_cl J refs_Times_ok (consE (ct hg) (consE (ct hg) J)) (onlyE hv3 hg)) J <| d_if7 J (fun hg _ hN => o_cmp (ct hg) (ct hg) J) J <| d7 J (fun _ hN => pk_and J J J (fun q => eqT q)) J <| S8 1 J <| pw_ret ?_
 cases h
 exact f1

theorem trial_Fair_ok {a0 a1 a2} : PO Tryz.prog 152 [store_Store.Pv a0, .L hash_Place.Pv a1, .L iF a2] (trial_Fair a0 a1 a2) fun r => .bool r := by
 refine pO Tryz.func152 fun r h _ _ => ?_
 refine S4 4 J <| S3 1 J <| y0 J (o_build (cs := [.fn (.func 213) [.ptr 3 0 0, .ptr 4 0 0, .ptr 5 0 0]]) J Ty.p252 Ty.z252 J J J) <| y_wk (wk_fv 9 (d' := .agg [.fn (.func 213) [.ptr 3 0 0, .ptr 4 0 0, .ptr 5 0 0]]) J) <| S2 2 J <| S3 2 J <| y_wk (WPE (fun l => if l = 2001 then 5 else if l = 2002 then 4 else if l = 2003 then 3 else l) [(10, .agg [.fn (.func 213) [.ptr 2003 0 0, .ptr 2002 0 0, .ptr 2001 0 0]]), (11, store_Store.Pv a0)] [(2001, vR (.L iF a2) 1), (2002, vR (.L hash_Place.Pv a1) 1), (2003, vR (store_Store.Pv a0) 3)]) ?_
 refine y_inl (fn := Tryz.f217) (N1 := 34) J J Tryz.func217 J Ty.k217 J J nl (fun e1 o2 => ?_)
 refine jqR h (fun j36 => St.of [(1000010, .agg [.fn (.func 213) [.ptr 2003 0 0, .ptr 2002 0 0, .ptr 2001 0 0]]), (1000011, store_Store.Pv a0), (4, .sl 910005)] [(910005, ⟨List.map iF j36, (List.map iF j36).length, true, 1, true⟩), (2001, vR (.L iF a2) 1), (2002, vR (.L hash_Place.Pv a1) 1), (2003, vR (store_Store.Pv a0) 3)]) (fun j36 h => dup ?_) fun κ35 h => ?_
 ·refine ⟨J, [.sl 910005], ⟨J, tr⟩, ?_⟩
  refine y_wk (WPE (fun l => if l = 2004 then 910005 else l) [(12, .sl 2004)] [(2004, ⟨List.map iF j36, (List.map iF j36).length, true, 1, true⟩)]) <| y0 J (o_lnR (f := iF) J J J Ty.e27) <| S2 2 J <| pw_ret ?_
  cases h
  exact f1
 ·refine S4 3 J ?_
  refine S4 1 J ?_
  refine jq h (fun j54 => St.of [(1000010, .agg [.fn (.func 213) [.ptr 2003 0 0, .ptr 2002 0 0, .ptr 2001 0 0]]), (1000011, store_Store.Pv a0), (5, .sl 910005)] [(910005, ⟨List.map iF j54, (List.map iF j54).length, true, 1, true⟩), (2001, vR (.L iF a2) 1), (2002, vR (.L hash_Place.Pv a1) 1), (2003, vR (store_Store.Pv a0) 3)]) (fun j54 h => ?_) fun κ53 h => ?_
  ·refine S4 2 J ?_
   refine pw_ret ?_
   exact eJ h (Wk.trans (wk_frz _ [910005]) W)
  ·refine S3 1 J ?_
   refine cF h store_Live_ok J J fun v55 _ h => nL J Ty.e27 <| S2 1 J <| pw_block <| lq h (fun q => St.of [(1000010, .agg [.fn (.func 213) [.ptr 2003 0 0, .ptr 2002 0 0, .ptr 2001 0 0]]), (1000011, store_Store.Pv a0), (2, .ptr 2 0 0), (3, .ptr 3 0 0), (5, .sl 910005), (11, .L iF v55), (12, .I (v55.length : Int)), (13, .I q.1)] [(3, vR (store_Store.Pv a0) 3), (2, vS (.agg [.fn (.func 213) [.ptr 2003 0 0, .ptr 2002 0 0, .ptr 2001 0 0]]) 1), (2001, vR (.L iF a2) 1), (2002, vR (.L hash_Place.Pv a1) 1), (2003, vR (store_Store.Pv a0) 3), (910005, ⟨List.map iF q.2, (List.map iF q.2).length, true, 1, true⟩)]) (Wk.trans (wk_nil (t := 5) (l := 920005) (z := 1) J J) (WP (fun l => if l = 910005 then 920005 else l))) fun q60 x59 h hx48 => ?_
   obtain ⟨s57, s58⟩ := q60
   refine S4 1 J <| pw_seq ?_
   refine cN h (fun hc h => ?_) fun hc h => ?_
   ·refine pw_skip ?_
    refine jq h (fun j66 => St.of [(1000010, .agg [.fn (.func 213) [.ptr 2003 0 0, .ptr 2002 0 0, .ptr 2001 0 0]]), (1000011, store_Store.Pv a0), (2, .ptr 2 0 0), (3, .ptr 3 0 0), (5, .sl 31), (11, .L iF v55), (12, .I (v55.length : Int)), (13, .I s57)] [(31, ⟨List.map iF j66, (List.map iF j66).length, true, 1, true⟩), (3, vR (store_Store.Pv a0) 3), (2, vS (.agg [.fn (.func 213) [.ptr 2003 0 0, .ptr 2002 0 0, .ptr 2001 0 0]]) 1), (2001, vR (.L iF a2) 1), (2002, vR (.L hash_Place.Pv a1) 1), (2003, vR (store_Store.Pv a0) 3)]) (fun j66 h => ?_) fun κ65 h => ?_
    ·refine S6 2 J ?_
     exact eL h (Wk.trans (wk_frz _ [31]) (WP (fun l => if l = 910005 then 31 else l)))
    ·refine pw_block ?_
     refine sR <| iL h J J Ty.e27 Ty.s3 fun v67 _ h => S2 2 J <| S3 2 J <| cF h store_Get_ok J J fun v68 _ h => S2 6 J <| S3 4 J <| cA h trial_Fair_1_ok J J fun v69 _ h => yN ?_
     refine cN h (fun hc h => ?_) fun hc h => ?_
     ·refine S5 2 J ?_
      refine y0 J (o_bI (f := iF) (l := [v67]) J Ty.e27 Ty.s3 Ty.z3 J J nl J J) <| bnE h fun v70 hv57 h => y_app J (o_apR (f := iF) hv57 J J J J J J (.inl ⟨_, J, J⟩) Ty.e27 Ty.s3 Ty.b3 Ty.z3 J (fun _ => J)) J J J <| S2 1 J ?_
      exact eJ h (Wk.trans (wk_frz _ [31]) W)
     ·refine pw_skip ?_
      exact eJ h (Wk.trans (wk_frz _ [910005]) (WP (fun l => if l = 31 then 910005 else l)))
   ·refine pw_exit ?_
    refine thenQ_exit <| thenQ_exit <| blockQ_exit ?_
    have h := xL hx48 h
    exact eJ h (Wk.trans (wk_frz _ [910005]) W)

theorem hold_Right_ok {a0} : PO Tryz.prog 62 [hold_Heap.Pv a0] (hold_Right a0) fun r => .bool r := by
 refine pO Tryz.func62 fun r h _ _ => ?_
 refine S4 2 J <| pw_seq <| S3 1 J <| cA h hold_shapesFit_ok J J fun v1 _ h => S2 1 J ?_
 refine cN h (fun hc h => ?_) fun hc h => ?_
 ·refine S4 1 J ?_
  refine pw_ret ?_
  cases h
  exact f1
 ·refine pw_skip ?_
  refine jq h (fun _ => St.of [(1, .ptr 1 0 0)] [(1, vR (hold_Heap.Pv a0) 8)]) (fun q9 h => ?_) fun κ8 h => ?_
  ·refine dr [] Ty.mix (by kernel_rfl) (by kernel_rfl) ?_
   refine S7 5 J <| bnE h fun v10 hv11 h => d2f J (o_clF J hold_Outer_ok J hv11) J <| bnE h fun v11 hv12 h => d2 J (o_cl J trial_Fair_ok J hv12) J <| S8 1 J <| pw_ret ?_
   cases h
   exact f1
  ·refine sR ?_
   refine y0 J (o_bI (f := fun n : Nat => PV.fn (.func n) []) (l := [147, 148, 149, 150, 151]) J Ty.e178 Ty.s35 Ty.z35 J J nl J J) <| y_wk (wk_fvL 8 (d' := .lst true (List.map fvE [(some 147), (some 148), (some 149), (some 150), (some 151)])) J J J) <| nL J Ty.e178 <| S2 1 J <| pw_block <| lq h (fun s13 => St.of [(1, .ptr 1 0 0), (8, .lst true (List.map fvE [(some 147), (some 148), (some 149), (some 150), (some 151)])), (9, .I ([(some 147), (some 148), (some 149), (some 150), (some 151)].length : Int)), (10, .I s13)] [(1, vR (hold_Heap.Pv a0) 8)]) W fun s13 x14 h hx15 => S4 1 J <| pw_seq ?_
   refine cN h (fun hc h => ?_) fun hc h => ?_
   ·refine pw_skip ?_
    refine pw_seq <| pw_block <| sR <| iL h J J Ty.e178 Ty.s35 fun v15 _ h => S2 2 J <| S3 2 J ?_
    obtain ⟨v16, hv17, h⟩ := bindE h
    obtain ⟨n17, he18, hk19, hp20⟩ := fvcall1_ok hv17
    refine y_wk (wk_fn 14 J he18) <| y0 J (o_call J hk19 J hp20) <| S2 1 J ?_
    refine cN h (fun hc h => ?_) fun hc h => ?_
    ·refine S4 1 J ?_
     refine pw_ret ?_
     have h := xL hx15 h
     cases h
     exact f1
    ·refine pw_skip ?_
     refine S6 2 J ?_
     exact eL h W
   ·refine pw_exit ?_
    refine thenQ_exit <| thenQ_exit <| blockQ_exit ?_
    have h := xL hx15 h
    exact eJ h W

end Go.Proofs.YtnfmdpblilpcbaaGreat.Ok
