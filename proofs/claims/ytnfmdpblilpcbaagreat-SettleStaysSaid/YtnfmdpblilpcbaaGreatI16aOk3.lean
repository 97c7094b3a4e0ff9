/-
 The functions of the program do as the plain functions do.
-/
import Derived.Test.YtnfmdpblilpcbaaGreatI16aOk2
namespace Go.Proofs.YtnfmdpblilpcbaaGreat.Ok
open Go Go.Pw Go.Sh Go.Proofs
set_option linter.unusedVariables false
set_option maxRecDepth 100000
set_option maxHeartbeats 4000000
theorem w16_shown_ok : PO Tryz.prog 36 [] (w16_shown) fun r => .bool r := by
 refine pO Tryz.func36 fun r h _ _ => ?_
 refine S4 1 J <| sR <| cF h hold_New_ok J J fun v1 _ h => S2 2 J <| S3 2 J <| cF h store_Make_ok J J fun v2 _ h => S2 8 J <| S3 1 J <| cF h store_Make_ok J J fun v3 _ h => S2 7 J <| S3 1 J <| cF h store_Make_ok J J fun v4 _ h => S2 7 J <| S4 3 J <| S3 3 J <| cF h hold_Field_ok J J fun v5 _ h => S2 4 J <| S3 3 J <| cF h hold_Field_ok J J fun v6 _ h => S2 4 J <| S3 2 J <| cF h hold_Weak_ok J J fun v7 _ h => S2 4 J <| S3 1 J <| cF h settle_Zero_ok J J fun v8 _ h => S2 1 J <| S3 1 J <| cF h settle_Settle_ok J J fun v9 _ h => S2 2 J <| S3 3 J ?_
 refine cF h store_Get_ok J J fun v10 _ h => S2 6 J <| S3 3 J <| cF h store_Get_ok J J fun v11 _ h => S2 6 J <| S3 2 J <| cA h weak_Load_ok J J fun v12 _ h => S2 5 J <| S3 1 J <| nL J Ty.e27 <| S1 2 J <| y_if J (fun hg => om (d := .L iF v8) J) <| bnE h fun v13 hv13 h => y_if J (fun hg => o_ixL (f := iF) (cs := [.I v13]) (onlyE hv13 hg) (ct hg) J Ty.e27 Ty.s3 J J) <| y_if J (fun hg => o_loadRS (ct hg) Ty.a3 J) <| y_if J (fun hg => mI J) <| y_if J (fun hg => o_cmp (ct hg) (ct hg) J) <| y0 J (pk_and J J J (fun q => eqT q)) <| S1 1 J <| y_if J (fun hg => oF J Ty.f34_0 J) <| y_if J (fun hg => oL (ct hg) J J Ty.a26 Ty.s26 nl J) <| bnE h fun v14 hv14 h => y_ifc J (fun hg => o_clF J store_Live_ok (consE (ct hg) J) (onlyE hv14 hg)) <| y_if J (fun hg => o_lnL (f := iF) (ct hg) Ty.e27) <| y_if J (fun hg => o_cmp (ct hg) J J) <| y0 J (pk_and J J J (fun q => eqT q)) <| S1 1 J <| y_if J (fun hg => mI J) <| y_if J (fun hg => o_cmp (ct hg) J J) <| y0 J (pk_and J J J (fun q => eqT q)) <| S1 1 J <| y_if J (fun hg => oF J Ty.f91_4 J) <| y_if J (fun hg => oS (ct hg) J J Ty.a4 J) <| y0 J (pk_and J J J (fun q => eqT q)) <| S1 1 J <| y_if J (fun hg => oF J Ty.f91_1 J) <| y_if J (fun hg => oS (ct hg) J J Ty.a3 J) <| y_if J (fun hg => o_cmp (ct hg) J J) <| y0 J (pk_and J J J (fun q => eqT q)) <| S1 1 J <| y_if J (fun hg => mI J) <| y_if J (fun hg => o_cmp (ct hg) J J) <| y0 J (pk_and J J J (fun q => eqT q)) <| S1 1 J <| y_if J (fun hg => mI J) <| y_if J (fun hg => o_cmp (ct hg) J J) <| y0 J (pk_and J J J (fun q => eqT q)) <| S1 1 J <| y_if J (fun hg => oF J Ty.f34_4 J) <| y_if J (fun hg => oF (ct hg) Ty.f32_0 J) <| y_if J (fun hg => oS (ct hg) J J Ty.a30 J) <| y_if J (fun hg => o_lnL (f := task_Task.Pv) (ct hg) Ty.e30) ?_
 refine y_if J (fun hg => o_cmp (ct hg) J J) <| y0 J (pk_and J J J (fun q => eqT q)) <| S1 1 J <| y_if J (fun hg => oF J Ty.f34_4 J) <| y_if J (fun hg => oF (ct hg) Ty.f32_0 J) <| y_if J (fun hg => oS (ct hg) J J Ty.a30 J) <| bnE h fun v15 hv15 h => y_if J (fun hg => o_ixL (f := task_Task.Pv) (cs := task_Task.Pc v15) (onlyE hv15 hg) (ct hg) J Ty.e30 Ty.s82 J J) <| y_if J (fun hg => o_loadRA (ct hg) Ty.a82 Ty.s82 nl J) <| y_if J (fun hg => o_build (cs := [.I 2, .I 0, .I 2]) J Ty.p82 Ty.z82 J J J) <| y_if J (fun hg => o_eqA (xs := task_Task.Pc v15) (ys := [.I 2, .I 0, .I 2]) Ty.q82 (ct hg) (ct hg) J) <| y0 J (pk_and J J J (fun q => eqT q)) <| S1 1 J <| y_if J (fun hg => oF J Ty.f34_4 J) <| y_if J (fun hg => oF (ct hg) Ty.f32_0 J) <| y_if J (fun hg => oS (ct hg) J J Ty.a30 J) <| bnE h fun v16 hv16 h => y_if J (fun hg => o_ixL (f := task_Task.Pv) (cs := task_Task.Pc v16) (onlyE hv16 hg) (ct hg) J Ty.e30 Ty.s82 J J) <| y_if J (fun hg => o_loadRA (ct hg) Ty.a82 Ty.s82 nl J) <| y_if J (fun hg => mI J) <| y_if J (fun hg => o_build (cs := [.I 1, .I v4.2.1, .I 3]) (consE (partE J) (consE (partE (ct hg)) (consE (partE J) J))) Ty.p82 Ty.z82 J J J) <| y_if J (fun hg => o_eqA (xs := task_Task.Pc v16) (ys := [.I 1, .I v4.2.1, .I 3]) Ty.q82 (ct hg) (ct hg) J) <| y0 J (pk_and J J J (fun q => eqT q)) <| S1 1 J <| y_if J (fun hg => oL J J J Ty.a34 Ty.s34 nl J) <| bnE h fun v17 hv17 h => y_if J (fun hg => o_cl J settle_Settled_ok (consE (ct hg) J) (onlyE hv17 hg)) <| y0 J (pk_and J J J (fun q => eqT q)) <| S1 1 J <| y_if J (fun hg => oL J J J Ty.a34 Ty.s34 nl J) <| bnE h fun v18 hv18 h => y_if J (fun hg => o_cl J hold_Right_ok (consE (ct hg) J) (onlyE hv18 hg)) <| y0 J (pk_and J J J (fun q => eqT q)) <| S2 1 J <| pw_ret ?_
 cases h
 exact f1

theorem r16_Zero_ok {a0} : PO Tryz.prog 43 [r15_Heap.Pv a0] (r16_Zero a0) fun r => .L iF r := by
 refine pO Tryz.func43 fun r h _ _ => ?_
 refine S4 2 J <| sR <| y0 J (o_nslice J Ty.e27 Ty.s3) <| S2 1 J <| S3 2 J <| cF h r06_Live_ok J J fun v1 _ h => S2 1 J ?_
 refine jq h (fun j16 => St.of [(3, .sl 910003)] [(910003, ⟨List.map iF j16, (List.map iF j16).length, true, 1, true⟩)]) (fun j16 h => ?_) fun κ15 h => ?_
 ·refine S4 2 J ?_
  refine pw_ret ?_
  cases h
  exact f1
 ·refine S4 1 J ?_
  refine pw_block <| lq h (fun q => St.of [(1, .ptr 1 0 0), (3, .sl 910003), (4, .L iF v1), (5, .I q.1)] [(1, vR (r15_Heap.Pv a0) 8), (910003, ⟨List.map iF q.2, (List.map iF q.2).length, true, 1, true⟩)]) (Wk.trans (wk_nil (t := 3) (l := 920003) (z := 1) J J) (WP (fun l => if l = 910003 then 920003 else l))) fun q21 x20 h hx15 => ?_
  obtain ⟨s18, s19⟩ := q21
  refine pw_seq <| S3 2 J <| nL J Ty.e27 <| S2 1 J ?_
  refine cN h (fun hc h => ?_) fun hc h => ?_
  ·refine pw_skip ?_
   refine jq h (fun j26 => St.of [(1, .ptr 1 0 0), (3, .sl 37), (4, .L iF v1), (5, .I s18)] [(37, ⟨List.map iF j26, (List.map iF j26).length, true, 1, true⟩), (1, vR (r15_Heap.Pv a0) 8)]) (fun j26 h => ?_) fun κ25 h => ?_
   ·refine S6 3 J ?_
    exact eL h (Wk.trans (wk_frz _ [37]) (WP (fun l => if l = 910003 then 37 else l)))
   ·refine pw_block ?_
    refine dr [] Ty.mix (by kernel_rfl) (by kernel_rfl) <| S7 4 J <| bnE h fun v27 hv20 h => d0 J (o_ixL (f := iF) (cs := [.I v27]) hv20 J J Ty.e27 Ty.s3 J J) J <| S7 1 J <| bnE h fun v28 hv21 h => d2f J (o_clF J r06_Get_ok J hv21) J <| S7 4 J <| d_sto (x' := r06_Obj.Pv v28.1) (cl' := true) J J (.inr J) Ty.s63 <| S8 1 J <| S4 3 J ?_
    refine cN h (fun hc h => ?_) fun hc h => ?_
    ·refine S5 3 J ?_
     refine y0 J (o_ixL (f := iF) (cs := [.I v27]) hv20 J J Ty.e27 Ty.s3 J J) <| S1 1 J <| y0 J (o_bI (f := iF) (l := [v27]) J Ty.e27 Ty.s3 Ty.z3 J J nl J J) <| bnE h fun v29 hv22 h => y_app J (o_apR (f := iF) hv22 J J J J J J (.inl ⟨_, J, J⟩) Ty.e27 Ty.s3 Ty.b3 Ty.z3 J (fun _ => J)) J J J <| S2 1 J ?_
     exact eJ h (Wk.trans (wk_frz _ [37]) W)
    ·refine pw_skip ?_
     exact eJ h (Wk.trans (wk_frz _ [910003]) (WP (fun l => if l = 37 then 910003 else l)))
  ·refine pw_exit ?_
   refine thenQ_exit <| thenQ_exit <| blockQ_exit ?_
   have h := xL hx15 h
   exact eJ h (Wk.trans (wk_frz _ [910003]) W)

theorem r02_Ints_ok {a0 a1} : PO Tryz.prog 41 [.L iF a0, .L iF a1] (r02_Ints a0 a1) fun r => .bool r := by
 refine pO Tryz.func41 fun r h _ _ => ?_
 refine S4 1 J <| pw_seq <| S3 1 J <| nL J Ty.e27 <| S1 1 J <| nL J Ty.e27 <| S2 1 J ?_
 refine cN h (fun hc h => ?_) fun hc h => ?_
 ·refine S4 1 J ?_
  refine pw_ret ?_
  cases h
  exact f1
 ·refine pw_skip ?_
  refine jq h (fun _ => St.of [] []) (fun q7 h => ?_) fun κ6 h => ?_
  ·refine S4 1 J ?_
   refine pw_ret ?_
   cases h
   exact f1
  ·refine S4 1 J ?_
   refine pw_block <| lq h (fun s9 => St.of [(0, .L iF a0), (1, .L iF a1), (5, .I s9)] []) W fun s9 x10 h hx9 => pw_seq <| S3 2 J <| nL J Ty.e27 <| S2 1 J ?_
   refine cN h (fun hc h => ?_) fun hc h => ?_
   ·refine pw_skip ?_
    refine pw_seq <| pw_block <| dr [] Ty.mix (by kernel_rfl) (by kernel_rfl) <| S7 2 J <| bnE h fun v11 hv10 h => d0 J (o_ixL (f := iF) (cs := [.I v11]) hv10 J J Ty.e27 Ty.s3 J J) J <| S7 3 J <| bnE h fun v12 hv11 h => d0 J (o_ixL (f := iF) (cs := [.I v12]) hv11 J J Ty.e27 Ty.s3 J J) J <| S8 2 J ?_
    refine cN h (fun hc h => ?_) fun hc h => ?_
    ·refine S4 1 J ?_
     refine pw_ret ?_
     have h := xL hx9 h
     cases h
     exact f1
    ·refine pw_skip ?_
     refine S6 3 J ?_
     exact eL h W
   ·refine pw_exit ?_
    refine thenQ_exit <| thenQ_exit <| blockQ_exit ?_
    have h := xL hx9 h
    exact eJ h W

theorem r16_Settled_ok {a0} : PO Tryz.prog 45 [r15_Heap.Pv a0] (r16_Settled a0) fun r => .bool r := by
 refine pO Tryz.func45 fun r h _ _ => ?_
 refine S4 2 J <| S3 1 J <| cF h r16_Zero_ok J J fun v1 _ h => nL J Ty.e27 <| S2 2 J <| pw_ret ?_
 cases h
 exact f1

theorem r16_Due_ok {a0 a1} : PO Tryz.prog 116 [r15_Heap.Pv a0, .I a1] (r16_Due a0 a1) fun r => .bool r := by
 refine pO Tryz.func116 fun r h _ _ => ?_
 refine S4 2 J <| S3 3 J <| cF h r06_Get_ok J J fun v1 _ h => S2 6 J <| S3 2 J <| cA h r15_Lives_ok J J fun v2 _ h => S1 1 J <| y_if J (fun hg => oF J Ty.f63_3 J) <| y_if J (fun hg => oS (ct hg) J J Ty.a3 J) <| y_if J (fun hg => o_cmp (ct hg) J J) <| y0 J (pk_and J J J (fun q => eqT q)) <| S1 1 J <| y_if J (fun hg => oF J Ty.f63_4 J) <| y_if J (fun hg => oS (ct hg) J J Ty.a4 J) <| y_if J (fun hg => o_not (ct hg) J) <| y0 J (pk_and J J J (fun q => eqT q)) <| S2 1 J <| pw_ret ?_
 cases h
 exact f1

theorem r06_with_ok {a0 a1 a2} : PO Tryz.prog 167 [r06_Store.Pv a0, .I a1, r06_Obj.Pv a2] (r06_with a0 a1 a2) fun r => r06_Store.Pv r := by
 refine pO Tryz.func167 fun r h _ _ => ?_
 unfold r06_with at h
 refine S4 3 J <| sR <| y0 J (o_nslice J Ty.e40 Ty.s139) <| S1 2 J <| bnE h fun v1 hv1 h => y1 J (o_apT (f := r06_Cell.Pv) hv1 J J (.inl ⟨_, J, J⟩) Ty.e40 Ty.s139 Ty.b139 Ty.z139 J (fun _ => J)) J <| S2 1 J <| S3 3 J <| bnE h fun v2 hv2 h => y0 J (o_ixR (f := r06_Cell.Pv) hv2 J J J J Ty.e40 Ty.s139 J) <| S1 1 J <| y_stE (f := r06_Cell.Pv) (v := (⟨v2.State, v2.Gen, a2⟩ : r06_Cell)) hv2 J J (.inr J) Ty.s63 <| yN <| S3 5 J <| y0 J (o_build (cs := [.sl 11, .I a0.Last, .I a0.Serial]) J Ty.p42 Ty.z42 J J J) <| S2 1 J <| pw_ret ?_
 cases h
 exact ⟨J, [_], ⟨oL J J J Ty.a42 Ty.s42 nl J, tr⟩, J, io⟩

theorem r06_Set_ok {a0 a1 a2} : PO Tryz.prog 86 [r06_Store.Pv a0, .I a1, r06_Obj.Pv a2] (r06_Set a0 a1 a2) fun r => .tup [r06_Store.Pv r.1, .I r.2] := by
 refine pO Tryz.func86 fun r h _ _ => ?_
 refine S4 4 J <| S3 1 J <| cF h r06_Plain_ok J J fun v1 _ h => S1 1 J <| cA h r03_Find_ok J J fun v2 _ h => S2 5 J <| pw_seq <| S4 2 J ?_
 refine cN h (fun hc h => ?_) fun hc h => ?_
 ·refine S4 4 J ?_
  refine pw_ret ?_
  cases h
  exact ⟨J, [_, _], ⟨oL J J J Ty.a42 Ty.s42 nl J, ⟨J, tr⟩⟩, J, io⟩
 ·refine pw_skip ?_
  refine S3 3 J <| cF h r06_with_ok J J fun v3 _ h => S2 2 J <| pw_ret ?_
  cases h
  exact ⟨J, [_, _], ⟨oL J J J Ty.a42 Ty.s42 nl J, ⟨J, tr⟩⟩, J, io⟩

theorem r14_Add_ok {a0 a1} : PO Tryz.prog 117 [r14_Queue.Pv a0, r14_Task.Pv a1] (r14_Add a0 a1) fun r => .tup [r14_Queue.Pv r.1, .I r.2] := by
 refine pO Tryz.func117 fun r h _ _ => ?_
 refine S4 4 J <| pw_seq <| S3 2 J <| nL J Ty.e45 <| S2 3 J ?_
 refine cN h (fun hc h => ?_) fun hc h => ?_
 ·refine S4 3 J ?_
  refine pw_ret ?_
  cases h
  exact ⟨J, [_, _], ⟨oL J J J Ty.a47 Ty.s47 nl J, ⟨J, tr⟩⟩, J, io⟩
 ·refine pw_skip ?_
  refine dr [] Ty.mix (by kernel_rfl) (by kernel_rfl) <| d1n J (o_nslice J Ty.e45 Ty.s151) J <| S7 2 J <| bnE h fun v1 hv1 h => d3 J (o_apT (f := r14_Task.Pv) hv1 J J (.inl ⟨_, J, J⟩) Ty.e45 Ty.s151 Ty.b151 Ty.z151 J (fun _ => J)) J J J <| S7 1 J <| d1n J (o_bI (f := r14_Task.Pv) (l := [a1]) J Ty.e45 Ty.s151 Ty.z151 J J nl J J) J <| bnE h fun v2 hv2 h => d3a J (o_apR (f := r14_Task.Pv) hv2 J J J J J J (.inl ⟨_, J, J⟩) Ty.e45 Ty.s151 Ty.b151 Ty.z151 J (fun _ => J)) J J J J J <| S7 2 J <| d7 J (fun _ hN => o_build (cs := [.sl 19, .I a0.Cap]) J Ty.p47 Ty.z47 J J J) J <| d_sto (x' := .agg [.sl 19, .I a0.Cap]) (cl' := false) J J (.inl J) Ty.s47 <| S8 1 J <| pw_ret ?_
  cases h
  exact ⟨J, [_, _], ⟨oL J J J Ty.a47 Ty.s47 nl J, ⟨J, tr⟩⟩, J, io⟩

theorem r04_Inc_ok {a0} : PO Tryz.prog 97 [.I a0] (r04_Inc a0) fun r => .I r := by
 refine pO Tryz.func97 fun r h _ _ => ?_
 refine S4 1 J <| pw_seq <| S3 1 J <| cA h r04_Stuck_ok J J fun v1 _ h => yN ?_
 refine cN h (fun hc h => ?_) fun hc h => ?_
 ·refine S4 1 J ?_
  refine pw_ret ?_
  cases h
  exact f1
 ·refine pw_skip ?_
  refine pw_seq <| S4 2 J ?_
  refine cN h (fun hc h => ?_) fun hc h => ?_
  ·refine S4 1 J ?_
   refine pw_ret ?_
   cases h
   exact f1
  ·refine pw_skip ?_
   refine S4 3 J <| pw_ret ?_
   cases h
   exact f1

theorem r15_Strong_ok {a0 a1 a2} : PO Tryz.prog 96 [r15_Heap.Pv a0, .I a1, .I a2] (r15_Strong a0 a1 a2) fun r => r15_Heap.Pv r := by
 refine pO Tryz.func96 fun r h _ _ => ?_
 refine S4 2 J <| S3 3 J <| cF h r06_Get_ok J J fun v1 _ h => S2 6 J <| pw_seq <| S4 2 J ?_
 refine cN h (fun hc h => ?_) fun hc h => ?_
 ·refine S4 2 J ?_
  refine pw_ret ?_
  cases h
  exact ⟨J, [_], ⟨oL J J J Ty.a49 Ty.s49 nl J, tr⟩, J, io⟩
 ·refine pw_skip ?_
  refine S4 3 J <| S3 4 J <| cF h r06_Set_ok J J fun v2 _ h => S2 5 J <| S4 2 J <| pw_ret ?_
  cases h
  exact ⟨J, [_], ⟨oL J J J Ty.a49 Ty.s49 nl J, tr⟩, J, io⟩

theorem r15_Retain_ok {a0 a1} : PO Tryz.prog 30 [r15_Heap.Pv a0, .I a1] (r15_Retain a0 a1) fun r => r15_Heap.Pv r := by
 refine pO Tryz.func30 fun r h _ _ => ?_
 refine S4 2 J <| S3 3 J <| cF h r06_Get_ok J J fun v1 _ h => S2 6 J <| dr [] Ty.mix (by kernel_rfl) (by kernel_rfl) <| S7 4 J <| bnE h fun v2 hv2 h => d2 J (o_cl J r04_Inc_ok J hv2) J <| bnE h fun v3 hv3 h => d2f J (o_clF J r15_Strong_ok J hv3) J <| d_sto (x' := r15_Heap.Pv v3) (cl' := true) J J (.inr J) Ty.s49 <| d_nil <| pw_ret ?_
 cases h
 exact ⟨J, [_], ⟨oL J J J Ty.a49 Ty.s49 nl J, tr⟩, J, io⟩

theorem r16_Queued_ok {a0 a1} : PO Tryz.prog 46 [r15_Heap.Pv a0, .I a1] (r16_Queued a0 a1) fun r => r15_Heap.Pv r := by
 refine pO Tryz.func46 fun r h _ _ => ?_
 refine S4 2 J <| pw_seq <| S3 2 J <| cA h r16_Due_ok J J fun v1 _ h => S2 1 J ?_
 refine cN h (fun hc h => ?_) fun hc h => ?_
 ·refine S4 2 J ?_
  refine pw_ret ?_
  cases h
  exact ⟨J, [_], ⟨oL J J J Ty.a49 Ty.s49 nl J, tr⟩, J, io⟩
 ·refine pw_skip ?_
  refine S3 3 J <| cF h r06_Get_ok J J fun v2 _ h => S2 6 J <| S4 2 J <| S3 4 J <| cF h r06_Set_ok J J fun v3 _ h => S2 5 J <| S3 5 J <| y0 J (o_build (cs := [.I 1, .I a1, .I v2.1.Prog]) J Ty.p151 Ty.z151 J J J) <| cF h r14_Add_ok J J fun v4 _ h => S2 5 J <| S3 2 J <| cF h r15_Retain_ok J J fun v5 _ h => S2 1 J <| pw_ret ?_
  cases h
  exact ⟨J, [_], ⟨oL J J J Ty.a49 Ty.s49 nl J, tr⟩, J, io⟩

theorem r06_Alike_ok {a0 a1} : PO Tryz.prog 160 [r06_Obj.Pv a0, r06_Obj.Pv a1] (r06_Alike a0 a1) fun r => .bool r := by
 refine pO Tryz.func160 fun r h _ _ => ?_
 unfold r06_Alike at h
 refine S4 3 J <| S3 6 J <| y_if J (fun hg => oF J Ty.f63_1 J) <| y_if J (fun hg => oS (ct hg) J J Ty.a3 J) <| y_if J (fun hg => oF J Ty.f63_1 J) <| y_if J (fun hg => oS (ct hg) J J Ty.a3 J) <| y_if J (fun hg => o_cmp (ct hg) (ct hg) J) <| y0 J (pk_and J J J (fun q => eqT q)) <| S1 1 J <| y_if J (fun hg => oF J Ty.f63_2 J) <| y_if J (fun hg => oS (ct hg) J J Ty.a3 J) <| y_if J (fun hg => oF J Ty.f63_2 J) <| y_if J (fun hg => oS (ct hg) J J Ty.a3 J) <| y_if J (fun hg => o_cmp (ct hg) (ct hg) J) <| y0 J (pk_and J J J (fun q => eqT q)) <| S1 1 J <| y_if J (fun hg => oF J Ty.f63_3 J) <| y_if J (fun hg => oS (ct hg) J J Ty.a3 J) <| y_if J (fun hg => oF J Ty.f63_3 J) <| y_if J (fun hg => oS (ct hg) J J Ty.a3 J) <| y_if J (fun hg => o_cmp (ct hg) (ct hg) J) <| y0 J (pk_and J J J (fun q => eqT q)) <| S1 1 J <| y_if J (fun hg => oF J Ty.f63_4 J) <| y_if J (fun hg => oS (ct hg) J J Ty.a4 J) <| y_if J (fun hg => oF J Ty.f63_4 J) <| y_if J (fun hg => oS (ct hg) J J Ty.a4 J) <| y_if J (fun hg => o_eqB (ct hg) (ct hg) Ty.u4 J) <| y0 J (pk_and J J J (fun q => eqT q)) <| S1 1 J ?_
 refine y_if J (fun hg => oF J Ty.f63_5 J) <| y_if J (fun hg => oS (ct hg) J J Ty.a27 J) <| y_if J (fun hg => oF J Ty.f63_5 J) <| y_if J (fun hg => oS (ct hg) J J Ty.a27 J) <| bnE h fun v1 hv1 h => y_if J (fun hg => o_cl J r02_Ints_ok (consE (ct hg) (consE (ct hg) J)) (onlyE hv1 hg)) <| y0 J (pk_and J J J (fun q => eqT q)) <| S2 1 J <| pw_ret ?_
 cases h
 exact f1

theorem r06_Same_ok {a0 a1} : PO Tryz.prog 76 [r06_Store.Pv a0, r06_Store.Pv a1] (r06_Same a0 a1) fun r => .bool r := by
 refine pO Tryz.func76 fun r h _ _ => ?_
 refine S4 3 J <| pw_seq <| S3 6 J <| y_if J (fun hg => oF J Ty.f42_2 J) <| y_if J (fun hg => oS (ct hg) J J Ty.a3 J) <| y_if J (fun hg => oF J Ty.f42_2 J) <| y_if J (fun hg => oS (ct hg) J J Ty.a3 J) <| y_if J (fun hg => o_cmp (ct hg) (ct hg) J) <| y0 J (pk_or J J J (fun q => eqF q)) <| S1 1 J <| y_if J (fun hg => oF J Ty.f42_0 J) <| y_if J (fun hg => oS (ct hg) J J Ty.a40 J) <| y_if J (fun hg => o_lnL (f := r06_Cell.Pv) (ct hg) Ty.e40) <| y_if J (fun hg => oF J Ty.f42_0 J) <| y_if J (fun hg => oS (ct hg) J J Ty.a40 J) <| y_if J (fun hg => o_lnL (f := r06_Cell.Pv) (ct hg) Ty.e40) <| y_if J (fun hg => o_cmp (ct hg) (ct hg) J) <| y0 J (pk_or J J J (fun q => eqF q)) <| yN ?_
 refine cN h (fun hc h => ?_) fun hc h => ?_
 ·refine S4 1 J ?_
  refine pw_ret ?_
  cases h
  exact f1
 ·refine pw_skip ?_
  refine jq h (fun _ => St.of [] []) (fun q8 h => ?_) fun κ7 h => ?_
  ·refine S4 1 J ?_
   refine pw_ret ?_
   cases h
   exact f1
  ·refine S4 1 J ?_
   refine pw_block <| lq h (fun s10 => St.of [(2, .ptr 2 0 0), (3, .ptr 3 0 0), (5, .I s10)] [(3, vR (r06_Store.Pv a1) 3), (2, vR (r06_Store.Pv a0) 3)]) W fun s10 x11 h hx10 => pw_seq <| S3 3 J <| nL J Ty.e40 <| S2 1 J ?_
   refine cN h (fun hc h => ?_) fun hc h => ?_
   ·refine pw_skip ?_
    refine pw_seq <| pw_block <| dr [] Ty.mix (by kernel_rfl) (by kernel_rfl) <| S7 3 J <| bnE h fun v12 hv11 h => d0 J (o_ixL (f := r06_Cell.Pv) (cs := r06_Cell.Pc v12) hv11 J J Ty.e40 Ty.s139 J J) J <| S7 5 J <| bnE h fun v13 hv12 h => d0 J (o_ixL (f := r06_Cell.Pv) (cs := r06_Cell.Pc v13) hv12 J J Ty.e40 Ty.s139 J J) J <| S7 4 J <| d_if7 J (fun hg _ hN => oF J Ty.f42_0 J) J <| d_if0 J (fun hg => oS (ct hg) J J Ty.a40 J) J <| d_if7 J (fun hg _ hN => mI J) J <| d_if0 J (fun hg => o_ixL (f := r06_Cell.Pv) (cs := r06_Cell.Pc v12) hv11 (ct hg) (ct hg) Ty.e40 Ty.s139 J J) J <| d_if7 J (fun hg _ hN => o_fieldAddrR (ct hg) Ty.f139_1 J) J <| d_if0 J (fun hg => o_loadRS (ct hg) Ty.a3 J) J <| d_if7 J (fun hg _ hN => oF J Ty.f42_0 J) J <| d_if0 J (fun hg => oS (ct hg) J J Ty.a40 J) J <| d_if7 J (fun hg _ hN => mI J) J <| d_if0 J (fun hg => o_ixL (f := r06_Cell.Pv) (cs := r06_Cell.Pc v13) hv12 (ct hg) (ct hg) Ty.e40 Ty.s139 J J) J <| d_if7 J (fun hg _ hN => o_fieldAddrR (ct hg) Ty.f139_1 J) J <| d_if0 J (fun hg => o_loadRS (ct hg) Ty.a3 J) J <| d_if7 J (fun hg _ hN => o_cmp (ct hg) (ct hg) J) J <| d7 J (fun _ hN => pk_or J J J (fun q => eqF q)) J <| S7 1 J <| d_if7 J (fun hg _ hN => oF J Ty.f42_0 J) J <| d_if0 J (fun hg => oS (ct hg) J J Ty.a40 J) J <| d_if7 J (fun hg _ hN => mI J) J <| d_if0 J (fun hg => o_ixL (f := r06_Cell.Pv) (cs := r06_Cell.Pc v12) hv11 (ct hg) (ct hg) Ty.e40 Ty.s139 J J) J <| d_if7 J (fun hg _ hN => o_fieldAddrR (ct hg) Ty.f139_2 J) J <| d_if0 J (fun hg => o_loadRA (ct hg) Ty.a63 Ty.s63 nl J) J <| d_if7 J (fun hg _ hN => oF J Ty.f42_0 J) J <| d_if0 J (fun hg => oS (ct hg) J J Ty.a40 J) J <| d_if7 J (fun hg _ hN => mI J) J <| d_if0 J (fun hg => o_ixL (f := r06_Cell.Pv) (cs := r06_Cell.Pc v13) hv12 (ct hg) (ct hg) Ty.e40 Ty.s139 J J) J <| d_if7 J (fun hg _ hN => o_fieldAddrR (ct hg) Ty.f139_2 J) J <| d_if0 J (fun hg => o_loadRA (ct hg) Ty.a63 Ty.s63 nl J) J <| bnE h fun v14 hv13 h => d_if2 J (fun hg => o_cl J r06_Alike_ok (consE (ct hg) (consE (ct hg) J)) (onlyE hv13 hg)) J <| d_if7 J (fun hg _ hN => o_not (ct hg) J) J <| d7 J (fun _ hN => pk_or J J J (fun q => eqF q)) J <| d_nil ?_
    refine cN h (fun hc h => ?_) fun hc h => ?_
    ·refine S4 1 J ?_
     refine pw_ret ?_
     have h := xL hx10 h
     cases h
     exact f1
    ·refine pw_skip ?_
     refine S6 3 J ?_
     exact eL h W
   ·refine pw_exit ?_
    refine thenQ_exit <| thenQ_exit <| blockQ_exit ?_
    have h := xL hx10 h
    exact eJ h W

theorem r09_Same_ok {a0 a1} : PO Tryz.prog 77 [.L r09_Cell.Pv a0, .L r09_Cell.Pv a1] (r09_Same a0 a1) fun r => .bool r := by
 refine pO Tryz.func77 fun r h _ _ => ?_
 refine S4 1 J <| pw_seq <| S3 1 J <| nL J Ty.e43 <| S1 1 J <| nL J Ty.e43 <| S2 1 J ?_
 refine cN h (fun hc h => ?_) fun hc h => ?_
 ·refine S4 1 J ?_
  refine pw_ret ?_
  cases h
  exact f1
 ·refine pw_skip ?_
  refine jq h (fun _ => St.of [] []) (fun q7 h => ?_) fun κ6 h => ?_
  ·refine S4 1 J ?_
   refine pw_ret ?_
   cases h
   exact f1
  ·refine S4 1 J ?_
   refine pw_block <| lq h (fun s9 => St.of [(0, .L r09_Cell.Pv a0), (1, .L r09_Cell.Pv a1), (5, .I s9)] []) W fun s9 x10 h hx9 => pw_seq <| S3 2 J <| nL J Ty.e43 <| S2 1 J ?_
   refine cN h (fun hc h => ?_) fun hc h => ?_
   ·refine pw_skip ?_
    refine pw_seq <| pw_block <| dr [] Ty.mix (by kernel_rfl) (by kernel_rfl) <| S7 2 J <| bnE h fun v11 hv10 h => d0 J (o_ixL (f := r09_Cell.Pv) (cs := r09_Cell.Pc v11) hv10 J J Ty.e43 Ty.s160 J J) J <| S7 3 J <| bnE h fun v12 hv11 h => d0 J (o_ixL (f := r09_Cell.Pv) (cs := r09_Cell.Pc v12) hv11 J J Ty.e43 Ty.s160 J J) J <| S7 1 J <| d7 J (fun _ hN => o_neA (xs := r09_Cell.Pc v11) (ys := r09_Cell.Pc v12) Ty.q160 J J J J) J <| d_nil ?_
    refine cN h (fun hc h => ?_) fun hc h => ?_
    ·refine S4 1 J ?_
     refine pw_ret ?_
     have h := xL hx9 h
     cases h
     exact f1
    ·refine pw_skip ?_
     refine S6 3 J ?_
     exact eL h W
   ·refine pw_exit ?_
    refine thenQ_exit <| thenQ_exit <| blockQ_exit ?_
    have h := xL hx9 h
    exact eJ h W

theorem r10_Same_ok {a0 a1} : PO Tryz.prog 78 [.L r10_Place.Pv a0, .L r10_Place.Pv a1] (r10_Same a0 a1) fun r => .bool r := by
 refine pO Tryz.func78 fun r h _ _ => ?_
 refine S4 1 J <| pw_seq <| S3 1 J <| nL J Ty.e44 <| S1 1 J <| nL J Ty.e44 <| S2 1 J ?_
 refine cN h (fun hc h => ?_) fun hc h => ?_
 ·refine S4 1 J ?_
  refine pw_ret ?_
  cases h
  exact f1
 ·refine pw_skip ?_
  refine jq h (fun _ => St.of [] []) (fun q7 h => ?_) fun κ6 h => ?_
  ·refine S4 1 J ?_
   refine pw_ret ?_
   cases h
   exact f1
  ·refine S4 1 J ?_
   refine pw_block <| lq h (fun s9 => St.of [(0, .L r10_Place.Pv a0), (1, .L r10_Place.Pv a1), (5, .I s9)] []) W fun s9 x10 h hx9 => pw_seq <| S3 2 J <| nL J Ty.e44 <| S2 1 J ?_
   refine cN h (fun hc h => ?_) fun hc h => ?_
   ·refine pw_skip ?_
    refine pw_seq <| pw_block <| dr [] Ty.mix (by kernel_rfl) (by kernel_rfl) <| S7 2 J <| bnE h fun v11 hv10 h => d0 J (o_ixL (f := r10_Place.Pv) (cs := r10_Place.Pc v11) hv10 J J Ty.e44 Ty.s182 J J) J <| S7 3 J <| bnE h fun v12 hv11 h => d0 J (o_ixL (f := r10_Place.Pv) (cs := r10_Place.Pc v12) hv11 J J Ty.e44 Ty.s182 J J) J <| S7 1 J <| d7 J (fun _ hN => o_neA (xs := r10_Place.Pc v11) (ys := r10_Place.Pc v12) Ty.q182 J J J J) J <| d_nil ?_
    refine cN h (fun hc h => ?_) fun hc h => ?_
    ·refine S4 1 J ?_
     refine pw_ret ?_
     have h := xL hx9 h
     cases h
     exact f1
    ·refine pw_skip ?_
     refine S6 3 J ?_
     exact eL h W
   ·refine pw_exit ?_
    refine thenQ_exit <| thenQ_exit <| blockQ_exit ?_
    have h := xL hx9 h
    exact eJ h W

theorem r14_Same_ok {a0 a1} : PO Tryz.prog 79 [r14_Queue.Pv a0, r14_Queue.Pv a1] (r14_Same a0 a1) fun r => .bool r := by
 refine pO Tryz.func79 fun r h _ _ => ?_
 refine S4 3 J <| pw_seq <| S3 6 J <| y_if J (fun hg => oF J Ty.f47_0 J) <| y_if J (fun hg => oS (ct hg) J J Ty.a45 J) <| y_if J (fun hg => o_lnL (f := r14_Task.Pv) (ct hg) Ty.e45) <| y_if J (fun hg => oF J Ty.f47_0 J) <| y_if J (fun hg => oS (ct hg) J J Ty.a45 J) <| y_if J (fun hg => o_lnL (f := r14_Task.Pv) (ct hg) Ty.e45) <| y_if J (fun hg => o_cmp (ct hg) (ct hg) J) <| y0 J (pk_or J J J (fun q => eqF q)) <| yN ?_
 refine cN h (fun hc h => ?_) fun hc h => ?_
 ·refine S4 1 J ?_
  refine pw_ret ?_
  cases h
  exact f1
 ·refine pw_skip ?_
  refine jq h (fun _ => St.of [] []) (fun q7 h => ?_) fun κ6 h => ?_
  ·refine S4 1 J ?_
   refine pw_ret ?_
   cases h
   exact f1
  ·refine S4 1 J ?_
   refine pw_block <| lq h (fun s9 => St.of [(2, .ptr 2 0 0), (3, .ptr 3 0 0), (5, .I s9)] [(3, vR (r14_Queue.Pv a1) 2), (2, vR (r14_Queue.Pv a0) 2)]) W fun s9 x10 h hx9 => pw_seq <| S3 3 J <| nL J Ty.e45 <| S2 1 J ?_
   refine cN h (fun hc h => ?_) fun hc h => ?_
   ·refine pw_skip ?_
    refine pw_seq <| pw_block <| dr [] Ty.mix (by kernel_rfl) (by kernel_rfl) <| S7 3 J <| bnE h fun v11 hv10 h => d0 J (o_ixL (f := r14_Task.Pv) (cs := r14_Task.Pc v11) hv10 J J Ty.e45 Ty.s151 J J) J <| S7 4 J <| bnE h fun v12 hv11 h => d0 J (o_ixL (f := r14_Task.Pv) (cs := r14_Task.Pc v12) hv11 J J Ty.e45 Ty.s151 J J) J <| S7 1 J <| d7 J (fun _ hN => o_neA (xs := r14_Task.Pc v11) (ys := r14_Task.Pc v12) Ty.q151 J J J J) J <| d_nil ?_
    refine cN h (fun hc h => ?_) fun hc h => ?_
    ·refine S4 1 J ?_
     refine pw_ret ?_
     have h := xL hx9 h
     cases h
     exact f1
    ·refine pw_skip ?_
     refine S6 3 J ?_
     exact eL h W
   ·refine pw_exit ?_
    refine thenQ_exit <| thenQ_exit <| blockQ_exit ?_
    have h := xL hx9 h
    exact eJ h W

theorem r15_Same_ok {a0 a1} : PO Tryz.prog 23 [r15_Heap.Pv a0, r15_Heap.Pv a1] (r15_Same a0 a1) fun r => .bool r := by
 refine pO Tryz.func23 fun r h _ _ => ?_
 refine S4 3 J <| S3 4 J <| cA h r06_Same_ok J J fun v1 _ h => S1 1 J <| y_if J (fun hg => oF J Ty.f49_1 J) <| y_if J (fun hg => oS (ct hg) J J Ty.a27 J) <| y_if J (fun hg => oF J Ty.f49_1 J) <| y_if J (fun hg => oS (ct hg) J J Ty.a27 J) <| bnE h fun v2 hv2 h => y_if J (fun hg => o_cl J r02_Ints_ok (consE (ct hg) (consE (ct hg) J)) (onlyE hv2 hg)) <| y0 J (pk_and J J J (fun q => eqT q)) <| S1 1 J <| y_if J (fun hg => oF J Ty.f49_2 J) <| y_if J (fun hg => oS (ct hg) J J Ty.a43 J) <| y_if J (fun hg => oF J Ty.f49_2 J) <| y_if J (fun hg => oS (ct hg) J J Ty.a43 J) <| bnE h fun v3 hv3 h => y_if J (fun hg => o_cl J r09_Same_ok (consE (ct hg) (consE (ct hg) J)) (onlyE hv3 hg)) <| y0 J (pk_and J J J (fun q => eqT q)) <| S1 1 J <| y_if J (fun hg => oF J Ty.f49_3 J) <| y_if J (fun hg => oS (ct hg) J J Ty.a44 J) <| y_if J (fun hg => oF J Ty.f49_3 J) <| y_if J (fun hg => oS (ct hg) J J Ty.a44 J) <| bnE h fun v4 hv4 h => y_if J (fun hg => o_cl J r10_Same_ok (consE (ct hg) (consE (ct hg) J)) (onlyE hv4 hg)) <| y0 J (pk_and J J J (fun q => eqT q)) <| S1 1 J <| y_if J (fun hg => oF J Ty.f49_4 J) <| y_if J (fun hg => oL (ct hg) J J Ty.a47 Ty.s47 nl J) <| y_if J (fun hg => oF J Ty.f49_4 J) <| y_if J (fun hg => oL (ct hg) J J Ty.a47 Ty.s47 nl J) <| bnE h fun v5 hv5 h => y_if J (fun hg => o_cl J r14_Same_ok (consE (ct hg) (consE (ct hg) J)) (onlyE hv5 hg)) <| y0 J (pk_and J J J (fun q => eqT q)) <| S2 1 J <| pw_ret ?_
 cases h
 exact f1

theorem r08_Has_ok {a0 a1} : PO Tryz.prog 50 [.L iF a0, .I a1] (r08_Has a0 a1) fun r => .bool r := by
 refine pO Tryz.func50 fun r h _ _ => ?_
 refine S4 1 J <| S3 2 J <| cA h r07_Times_ok J J fun v1 _ h => S2 2 J <| pw_ret ?_
 cases h
 exact f1

theorem r16_each_ok {a0 a1} : PO Tryz.prog 124 [r15_Heap.Pv a0, .L iF a1] (r16_each a0 a1) fun r => .L iF r := by
 refine pO Tryz.func124 fun r h _ _ => ?_
 refine S4 2 J <| sR <| y0 J (o_nslice J Ty.e27 Ty.s3) <| S2 1 J ?_
 refine jq h (fun j17 => St.of [(5, .sl 910005)] [(910005, ⟨List.map iF j17, (List.map iF j17).length, true, 1, true⟩)]) (fun j17 h => ?_) fun κ16 h => ?_
 ·refine S4 2 J ?_
  refine pw_ret ?_
  cases h
  exact f1
 ·refine S4 1 J ?_
  refine pw_block <| lq h (fun q => St.of [(1, .L iF a1), (2, .ptr 2 0 0), (5, .sl 910005), (6, .I q.1)] [(2, vR (r15_Heap.Pv a0) 8), (910005, ⟨List.map iF q.2, (List.map iF q.2).length, true, 1, true⟩)]) (Wk.trans (wk_nil (t := 5) (l := 920005) (z := 1) J J) (WP (fun l => if l = 910005 then 920005 else l))) fun q22 x21 h hx16 => ?_
  obtain ⟨s19, s20⟩ := q22
  refine pw_seq <| S3 2 J <| nL J Ty.e27 <| S2 1 J ?_
  refine cN h (fun hc h => ?_) fun hc h => ?_
  ·refine pw_skip ?_
   refine jq h (fun j28 => St.of [(1, .L iF a1), (2, .ptr 2 0 0), (5, .sl 35), (6, .I s19)] [(35, ⟨List.map iF j28, (List.map iF j28).length, true, 1, true⟩), (2, vR (r15_Heap.Pv a0) 8)]) (fun j28 h => ?_) fun κ27 h => ?_
   ·refine S6 3 J ?_
    exact eL h (Wk.trans (wk_frz _ [35]) (WP (fun l => if l = 910005 then 35 else l)))
   ·refine pw_block ?_
    refine dr [] Ty.mix (by kernel_rfl) (by kernel_rfl) <| S7 3 J <| bnE h fun v29 hv22 h => d0 J (o_ixL (f := iF) (cs := [.I v29]) hv22 J J Ty.e27 Ty.s3 J J) J <| S7 1 J <| bnE h fun v30 hv23 h => d2 J (o_cl J r15_Lives_ok J hv23) J <| S7 1 J <| d_if7 J (fun hg _ hN => om (d := .sl 910005) J) J <| d_if7 J (fun hg _ hN => om (d := .L iF a1) J) J <| d_if7 J (fun hg _ hN => mI J) J <| d_if0 J (fun hg => o_ixL (f := iF) (cs := [.I v29]) hv22 (ct hg) (ct hg) Ty.e27 Ty.s3 J J) J <| d_if0 J (fun hg => o_loadRS (ct hg) Ty.a3 J) J <| bnE h fun v31 hv24 h => d_if2 J (fun hg => o_cl J r08_Has_ok (consE (ct hg) (consE (ct hg) J)) (onlyE hv24 hg)) J <| d_if7 J (fun hg _ hN => o_not (ct hg) J) J <| d7 J (fun _ hN => pk_and J J J (fun q => eqT q)) J <| d_nil ?_
    refine cN h (fun hc h => ?_) fun hc h => ?_
    ·refine S5 3 J ?_
     refine y0 J (o_ixL (f := iF) (cs := [.I v29]) hv22 J J Ty.e27 Ty.s3 J J) <| S1 1 J <| y0 J (o_bI (f := iF) (l := [v29]) J Ty.e27 Ty.s3 Ty.z3 J J nl J J) <| bnE h fun v32 hv25 h => y_app J (o_apR (f := iF) hv25 J J J J J J (.inl ⟨_, J, J⟩) Ty.e27 Ty.s3 Ty.b3 Ty.z3 J (fun _ => J)) J J J <| S2 1 J ?_
     exact eJ h (Wk.trans (wk_frz _ [35]) W)
    ·refine pw_skip ?_
     exact eJ h (Wk.trans (wk_frz _ [910005]) (WP (fun l => if l = 35 then 910005 else l)))
  ·refine pw_exit ?_
   refine thenQ_exit <| thenQ_exit <| blockQ_exit ?_
   have h := xL hx16 h
   exact eJ h (Wk.trans (wk_frz _ [910005]) W)

theorem r09_Clear_ok {a0 a1} : PO Tryz.prog 125 [.L r09_Cell.Pv a0, .L iF a1] (r09_Clear a0 a1) fun r => .tup [.L r09_Cell.Pv r.1, .L iF r.2] := by
 refine pO Tryz.func125 fun r h _ _ => ?_
 refine S4 2 J <| sR <| y0 J (o_nslice J Ty.e43 Ty.s160) <| S2 1 J <| sR <| y0 J (o_nslice J Ty.e27 Ty.s3) <| S2 1 J ?_
 refine jq h (fun q => St.of [(6, .sl 910006), (7, .sl 910007)] [(910007, ⟨List.map iF q.1, (List.map iF q.1).length, true, 1, true⟩), (910006, ⟨List.map r09_Cell.Pv q.2, (List.map r09_Cell.Pv q.2).length, true, 3, true⟩)]) (fun q20 h => ?_) fun κ17 h => ?_
 ·obtain ⟨j18, j19⟩ := q20
  refine S4 4 J <| pw_ret ?_
  cases h
  exact f2
 ·refine S4 1 J ?_
  refine pw_block <| lq h (fun q => St.of [(0, .L r09_Cell.Pv a0), (1, .L iF a1), (6, .sl 910006), (7, .sl 910007), (8, .I q.1)] [(910006, ⟨List.map r09_Cell.Pv q.2.1, (List.map r09_Cell.Pv q.2.1).length, true, 3, true⟩), (910007, ⟨List.map iF q.2.2, (List.map iF q.2.2).length, true, 1, true⟩)]) (Wk.trans (wk_nil (t := 6) (l := 920006) (z := 3) J J) (Wk.trans (wk_nil (t := 7) (l := 920007) (z := 1) J J) (WP (fun l => if l = 910006 then 920006 else if l = 910007 then 920007 else l)))) fun q26 x25 h hx14 => ?_
  obtain ⟨s22, s23, s24⟩ := q26
  refine pw_seq <| S3 2 J <| nL J Ty.e43 <| S2 1 J ?_
  refine cN h (fun hc h => ?_) fun hc h => ?_
  ·refine pw_skip ?_
   refine pw_seq <| pw_block <| S3 2 J <| iL h J J Ty.e43 Ty.s160 fun v27 _ h => S2 3 J ?_
   refine jq h (fun q => St.of [(0, .L r09_Cell.Pv a0), (1, .L iF a1), (6, .sl 910006), (7, .sl 38), (8, .I s22), (9, .ptr 9 0 0)] [(9, vR (.agg [.I v27.Target, .bool q.1, .I v27.Call]) 3), (38, ⟨List.map iF q.2, (List.map iF q.2).length, true, 1, true⟩), (910006, ⟨List.map r09_Cell.Pv s23, (List.map r09_Cell.Pv s23).length, true, 3, true⟩)]) (fun q33 h => ?_) fun κ30 h => ?_
   ·obtain ⟨j31, j32⟩ := q33
    refine S5 2 J <| y0 J (o_bI (f := r09_Cell.Pv) (l := [(⟨v27.Target, j31, v27.Call⟩ : r09_Cell)]) J Ty.e43 Ty.s160 Ty.z160 J J nl J J) <| bnE h fun v34 hv19 h => y_app J (o_apR (f := r09_Cell.Pv) hv19 J J J J J J (.inl ⟨_, J, J⟩) Ty.e43 Ty.s160 Ty.b160 Ty.z160 J (fun _ => J)) J J J <| S2 1 J <| S6 3 J ?_
    exact eL h (Wk.trans (wk_frz _ [42, 38]) (WP (fun l => if l = 910006 then 42 else if l = 910007 then 38 else l)))
   ·refine S3 3 J ?_
    refine y_if J (fun hg => om (d := .L iF a1) J) <| y_if J (fun hg => oF J Ty.f160_0 J) <| y_if J (fun hg => oS (ct hg) J J Ty.a3 J) <| bnE h fun v35 hv20 h => y_if J (fun hg => o_cl J r07_Times_ok (consE (ct hg) (consE (ct hg) J)) (onlyE hv20 hg)) <| y_if J (fun hg => o_cmp (ct hg) J J) <| y0 J (pk_and J J J (fun q => eqT q)) <| yN ?_
    refine cN h (fun hc h => ?_) fun hc h => ?_
    ·refine S4 2 J ?_
     refine S4 3 J ?_
     refine cN h (fun hc h => ?_) fun hc h => ?_
     ·refine S5 2 J ?_
      refine y0 J (o_bI (f := iF) (l := [s22]) J Ty.e27 Ty.s3 Ty.z3 J J nl J J) <| bnE h fun v36 hv21 h => y_app J (o_apR (f := iF) hv21 J J J J J J (.inl ⟨_, J, J⟩) Ty.e27 Ty.s3 Ty.b3 Ty.z3 J (fun _ => J)) J J J <| S2 1 J ?_
      exact eJ h (Wk.trans (wk_frz _ [910006, 38]) W)
     ·refine pw_skip ?_
      exact eJ h (Wk.trans (wk_frz _ [910006, 910007]) (WP (fun l => if l = 38 then 910007 else l)))
    ·refine pw_skip ?_
     exact eJ h (Wk.trans (wk_frz _ [910006, 910007]) (WP (fun l => if l = 38 then 910007 else l)))
  ·refine pw_exit ?_
   refine thenQ_exit <| thenQ_exit <| blockQ_exit ?_
   have h := xL hx14 h
   exact eJ h (Wk.trans (wk_frz _ [910006, 910007]) W)

theorem r10_with_ok {a0 a1 a2} : PO Tryz.prog 230 [.L r10_Place.Pv a0, .I a1, r10_Place.Pv a2] (r10_with a0 a1 a2) fun r => .L r10_Place.Pv r := by
 refine pO Tryz.func230 fun r h _ _ => ?_
 unfold r10_with at h
 refine S4 2 J <| sR <| y0 J (o_nslice J Ty.e44 Ty.s182) <| S1 1 J <| bnE h fun v1 hv1 h => y1 J (o_apT (f := r10_Place.Pv) hv1 J J (.inl ⟨_, J, J⟩) Ty.e44 Ty.s182 Ty.b182 Ty.z182 J (fun _ => J)) J <| S2 1 J <| S3 3 J <| bnE h fun v2 hv2 h => y0 J (o_ixR (f := r10_Place.Pv) hv2 J J J J Ty.e44 Ty.s182 J) <| y_stE (f := r10_Place.Pv) (v := a2) hv2 J J (.inl J) Ty.s182 <| yN <| S4 2 J <| pw_ret ?_
 cases h
 exact f1

theorem r10_Drop_ok {a0 a1} : PO Tryz.prog 173 [.L r10_Place.Pv a0, .I a1] (r10_Drop a0 a1) fun r => .tup [.L r10_Place.Pv r.1, .I r.2.1, .I r.2.2] := by
 refine pO Tryz.func173 fun r h _ _ => ?_
 refine S4 3 J <| S3 2 J <| cA h r10_Find_ok J J fun v1 _ h => S2 1 J <| pw_seq <| S4 2 J ?_
 refine cN h (fun hc h => ?_) fun hc h => ?_
 ·refine S4 4 J ?_
  refine pw_ret ?_
  cases h
  exact f3
 ·refine pw_skip ?_
  refine dr [] Ty.mix (by kernel_rfl) (by kernel_rfl) <| S7 2 J <| d7 J (fun _ hN => o_build (cs := [.I 2, .I 0, .I 0]) J Ty.p182 Ty.z182 J J J) J <| bnE h fun v2 hv2 h => d2f J (o_clF J r10_with_ok J hv2) J <| S7 2 J <| bnE h fun v3 hv3 h => d0 J (o_ixL (f := r10_Place.Pv) (cs := r10_Place.Pc v3) hv3 J J Ty.e44 Ty.s182 J J) J <| S8 5 J <| pw_ret ?_
  cases h
  exact f3

theorem r11_Without_ok {a0 a1} : PO Tryz.prog 127 [.L r10_Place.Pv a0, .L iF a1] (r11_Without a0 a1) fun r => .tup [.L r10_Place.Pv r.1, .L iF r.2] := by
 refine pO Tryz.func127 fun r h _ _ => ?_
 refine S4 2 J <| sR <| y0 J (o_nslice J Ty.e27 Ty.s3) <| S2 1 J ?_
 refine jq h (fun q => St.of [(0, .L r10_Place.Pv q.1), (6, .sl 910006)] [(910006, ⟨List.map iF q.2, (List.map iF q.2).length, true, 1, true⟩)]) (fun q20 h => ?_) fun κ17 h => ?_
 ·obtain ⟨j18, j19⟩ := q20
  refine S4 4 J <| pw_ret ?_
  cases h
  exact f2
 ·refine S4 1 J ?_
  refine pw_block <| lq h (fun q => St.of [(0, .L r10_Place.Pv q.1), (1, .L iF a1), (6, .sl 910006), (7, .I q.2.1)] [(910006, ⟨List.map iF q.2.2, (List.map iF q.2.2).length, true, 1, true⟩)]) (Wk.trans (wk_nil (t := 6) (l := 920006) (z := 1) J J) (WP (fun l => if l = 910006 then 920006 else l))) fun q26 x25 h hx14 => ?_
  obtain ⟨s22, s23, s24⟩ := q26
  refine pw_seq <| S3 2 J <| nL J Ty.e27 <| S2 1 J ?_
  refine cN h (fun hc h => ?_) fun hc h => ?_
  ·refine pw_skip ?_
   refine jq h (fun q => St.of [(0, .L r10_Place.Pv q.1), (1, .L iF a1), (6, .sl 34), (7, .I s23)] [(34, ⟨List.map iF q.2, (List.map iF q.2).length, true, 1, true⟩)]) (fun q33 h => ?_) fun κ30 h => ?_
   ·obtain ⟨j31, j32⟩ := q33
    refine S6 3 J ?_
    exact eL h (Wk.trans (wk_frz _ [34]) (WP (fun l => if l = 910006 then 34 else l)))
   ·refine pw_block ?_
    refine S3 3 J <| iL h J J Ty.e27 Ty.s3 fun v34 _ h => S1 1 J <| cF h r10_Drop_ok J J fun v35 _ h => S2 7 J <| S4 2 J ?_
    refine cN h (fun hc h => ?_) fun hc h => ?_
    ·refine S4 2 J ?_
     refine S5 2 J <| y0 J (o_bI (f := iF) (l := [v35.2.1]) J Ty.e27 Ty.s3 Ty.z3 J J nl J J) <| bnE h fun v36 hv21 h => y_app J (o_apR (f := iF) hv21 J J J J J J (.inl ⟨_, J, J⟩) Ty.e27 Ty.s3 Ty.b3 Ty.z3 J (fun _ => J)) J J J <| S2 1 J ?_
     exact eJ h (Wk.trans (wk_frz _ [34]) W)
    ·refine pw_skip ?_
     exact eJ h (Wk.trans (wk_frz _ [910006]) (WP (fun l => if l = 34 then 910006 else l)))
  ·refine pw_exit ?_
   refine thenQ_exit <| thenQ_exit <| blockQ_exit ?_
   have h := xL hx14 h
   exact eJ h (Wk.trans (wk_frz _ [910006]) W)

theorem r03_with_ok {a0 a1 a2} : PO Tryz.prog 263 [r03_Slab.Pv a0, .I a1, r03_Cell.Pv a2] (r03_with a0 a1 a2) fun r => r03_Slab.Pv r := by
 refine pO Tryz.func263 fun r h _ _ => ?_
 unfold r03_with at h
 refine S4 3 J <| sR <| y0 J (o_nslice J Ty.e134 Ty.s220) <| S1 2 J <| bnE h fun v1 hv1 h => y1 J (o_apT (f := r03_Cell.Pv) hv1 J J (.inl ⟨_, J, J⟩) Ty.e134 Ty.s220 Ty.b220 Ty.z220 J (fun _ => J)) J <| S2 1 J <| S3 3 J <| bnE h fun v2 hv2 h => y0 J (o_ixR (f := r03_Cell.Pv) hv2 J J J J Ty.e134 Ty.s220 J) <| y_stE (f := r03_Cell.Pv) (v := a2) hv2 J J (.inl J) Ty.s220 <| yN <| S3 3 J <| y0 J (o_build (cs := [.sl 11, .I a0.Last]) J Ty.p136 Ty.z136 J J J) <| S2 1 J <| pw_ret ?_
 cases h
 exact ⟨J, [_], ⟨oL J J J Ty.a136 Ty.s136 nl J, tr⟩, J, io⟩

theorem r03_Kill_ok {a0 a1} : PO Tryz.prog 240 [r03_Slab.Pv a0, .I a1] (r03_Kill a0 a1) fun r => .tup [r03_Slab.Pv r.1, .I r.2] := by
 refine pO Tryz.func240 fun r h _ _ => ?_
 refine S4 3 J <| S3 2 J <| cA h r03_Get_ok J J fun v1 _ h => S2 5 J <| pw_seq <| S4 2 J ?_
 refine cN h (fun hc h => ?_) fun hc h => ?_
 ·refine S4 4 J ?_
  refine pw_ret ?_
  cases h
  exact ⟨J, [_, _], ⟨oL J J J Ty.a136 Ty.s136 nl J, ⟨J, tr⟩⟩, J, io⟩
 ·refine pw_skip ?_
  refine S3 2 J <| cA h r03_Find_ok J J fun v2 _ h => S2 5 J <| dr [] Ty.mix (by kernel_rfl) (by kernel_rfl) <| S7 5 J <| bnE h fun v3 hv3 h => d0 J (o_ixL (f := r03_Cell.Pv) (cs := r03_Cell.Pc v3) hv3 J J Ty.e134 Ty.s220 J J) J <| S7 5 J <| d0 J (o_ixL (f := r03_Cell.Pv) (cs := r03_Cell.Pc v3) hv3 J J Ty.e134 Ty.s220 J J) J <| S7 2 J <| d7 J (fun _ hN => o_build (cs := [.I 2, .I v3.Gen, .I v3.Val]) J Ty.p220 Ty.z220 J J J) J <| bnE h fun v4 hv4 h => d2f J (o_clF J r03_with_ok J hv4) J <| d_sto (x' := r03_Slab.Pv v4) (cl' := true) J J (.inr J) Ty.s136 <| S8 1 J <| pw_ret ?_
  cases h
  exact ⟨J, [_, _], ⟨oL J J J Ty.a136 Ty.s136 nl J, ⟨J, tr⟩⟩, J, io⟩

theorem r06_Turned_ok {a0 a1} : PO Tryz.prog 226 [r06_Store.Pv a0, r03_Slab.Pv a1] (r06_Turned a0 a1) fun r => r06_Store.Pv r := by
 refine pO Tryz.func226 fun r h _ _ => ?_
 refine S4 3 J <| sR <| y0 J (o_nslice J Ty.e40 Ty.s139) <| S2 1 J ?_
 refine jq h (fun j10 => St.of [(2, .ptr 2 0 0), (4, .ptr 4 0 0), (5, .sl 910005)] [(910005, ⟨List.map r06_Cell.Pv j10, (List.map r06_Cell.Pv j10).length, true, 8, true⟩), (4, vR (.agg [.nl, .I 0, .I 0]) 3), (2, vR (r06_Store.Pv a0) 3)]) (fun j10 h => ?_) fun κ9 h => ?_
 ·refine S3 5 J ?_
  refine y0 J (o_build (cs := [.sl 910005, .I a0.Last, .I a0.Serial]) J Ty.p42 Ty.z42 J J J) <| S2 1 J <| pw_ret ?_
  cases h
  exact ⟨J, [_], ⟨oL J J J Ty.a42 Ty.s42 nl J, tr⟩, J, io⟩
 ·refine S4 1 J ?_
  refine pw_block <| lq h (fun q => St.of [(2, .ptr 2 0 0), (3, .ptr 3 0 0), (4, .ptr 4 0 0), (5, .sl 910005), (6, .I q.1)] [(4, vR (.agg [.nl, .I 0, .I 0]) 3), (3, vR (r03_Slab.Pv a1) 2), (2, vR (r06_Store.Pv a0) 3), (910005, ⟨List.map r06_Cell.Pv q.2, (List.map r06_Cell.Pv q.2).length, true, 8, true⟩)]) (Wk.trans (wk_nil (t := 5) (l := 920005) (z := 8) J J) (WP (fun l => if l = 910005 then 920005 else l))) fun q15 x14 h hx10 => ?_
  obtain ⟨s12, s13⟩ := q15
  refine pw_seq <| S3 3 J <| nL J Ty.e40 <| S2 1 J ?_
  refine cN h (fun hc h => ?_) fun hc h => ?_
  ·refine pw_skip ?_
   refine pw_seq <| pw_block <| pw_drw [] Ty.mix (by kernel_rfl) (by kernel_rfl) <| S7 4 J <| bnE h fun v16 hv11 h => d0 J (o_ixL (f := r03_Cell.Pv) (cs := r03_Cell.Pc v16) hv11 J J Ty.e134 Ty.s220 J J) J <| S7 5 J <| d0 J (o_ixL (f := r03_Cell.Pv) (cs := r03_Cell.Pc v16) hv11 J J Ty.e134 Ty.s220 J J) J <| S7 5 J <| bnE h fun v17 hv12 h => d0 J (o_ixL (f := r06_Cell.Pv) (cs := r06_Cell.Pc v17) hv12 J J Ty.e40 Ty.s139 J J) J <| S7 2 J <| d7 J (fun _ hN => o_build (cs := [.I v16.State, .I v16.Gen, .I v17.Val.Serial, .I v17.Val.Strong, .I v17.Val.Weak, .I v17.Val.Prog, .bool v17.Val.Started, .L iF v17.Val.Fields]) J Ty.p139 Ty.z139 J J J) J <| d1n J (o_bI (f := r06_Cell.Pv) (l := [(⟨v16.State, v16.Gen, v17.Val⟩ : r06_Cell)]) J Ty.e40 Ty.s139 Ty.z139 J J nl J J) J <| bnE h fun v18 hv13 h => d3a J (o_apR (f := r06_Cell.Pv) hv13 J J J J J J (.inl ⟨_, J, J⟩) Ty.e40 Ty.s139 Ty.b139 Ty.z139 J (fun _ => J)) J J J J J <| S8 1 J <| S6 3 J ?_
   exact eL h (Wk.trans (wk_frz _ [36]) (WP (fun l => if l = 910005 then 36 else l)))
  ·refine pw_exit ?_
   refine thenQ_exit <| thenQ_exit <| blockQ_exit ?_
   have h := xL hx10 h
   exact eJ h (Wk.trans (wk_frz _ [910005]) W)

theorem r06_Kill_ok {a0 a1} : PO Tryz.prog 192 [r06_Store.Pv a0, .I a1] (r06_Kill a0 a1) fun r => r06_Store.Pv r := by
 refine pO Tryz.func192 fun r h _ _ => ?_
 refine S4 2 J <| S3 1 J <| cF h r06_Plain_ok J J fun v1 _ h => S1 1 J <| cF h r03_Kill_ok J J fun v2 _ h => S2 6 J <| S3 2 J <| cF h r06_Turned_ok J J fun v3 _ h => S2 1 J <| pw_ret ?_
 cases h
 exact ⟨J, [_], ⟨oL J J J Ty.a42 Ty.s42 nl J, tr⟩, J, io⟩

theorem r03_Give_ok {a0 a1} : PO Tryz.prog 225 [r03_Slab.Pv a0, .I a1] (r03_Give a0 a1) fun r => .tup [r03_Slab.Pv r.1, .I r.2] := by
 refine pO Tryz.func225 fun r h _ _ => ?_
 refine S4 3 J <| S3 2 J <| cA h r03_Find_ok J J fun v1 _ h => S2 5 J <| pw_seq <| S4 2 J ?_
 refine cN h (fun hc h => ?_) fun hc h => ?_
 ·refine S4 4 J ?_
  refine pw_ret ?_
  cases h
  exact ⟨J, [_, _], ⟨oL J J J Ty.a136 Ty.s136 nl J, ⟨J, tr⟩⟩, J, io⟩
 ·refine pw_skip ?_
  refine S3 3 J <| iL h J J Ty.e134 Ty.s220 fun v2 _ h => S2 3 J <| pw_seq <| S4 4 J ?_
  refine cN h (fun hc h => ?_) fun hc h => ?_
  ·refine S3 3 J ?_
   refine y0 J (o_build (cs := [.I 3, .I v2.Gen, .I 0]) J Ty.p220 Ty.z220 J J J) <| cF h r03_with_ok J J fun v3 _ h => S2 2 J <| pw_ret ?_
   cases h
   exact ⟨J, [_, _], ⟨oL J J J Ty.a136 Ty.s136 nl J, ⟨J, tr⟩⟩, J, io⟩
  ·refine pw_skip ?_
   refine S3 4 J <| y0 J (o_build (cs := [.I 0, .I (w64 (v2.Gen + 1)), .I 0]) J Ty.p220 Ty.z220 J J J) <| cF h r03_with_ok J J fun v4 _ h => S2 2 J <| pw_ret ?_
   cases h
   exact ⟨J, [_, _], ⟨oL J J J Ty.a136 Ty.s136 nl J, ⟨J, tr⟩⟩, J, io⟩

theorem r06_Give_ok {a0 a1} : PO Tryz.prog 168 [r06_Store.Pv a0, .I a1] (r06_Give a0 a1) fun r => r06_Store.Pv r := by
 refine pO Tryz.func168 fun r h _ _ => ?_
 refine S4 2 J <| S3 1 J <| cF h r06_Plain_ok J J fun v1 _ h => S1 1 J <| cF h r03_Give_ok J J fun v2 _ h => S2 6 J <| pw_seq <| S4 2 J ?_
 refine cN h (fun hc h => ?_) fun hc h => ?_
 ·refine S4 2 J ?_
  refine pw_ret ?_
  cases h
  exact ⟨J, [_], ⟨oL J J J Ty.a42 Ty.s42 nl J, tr⟩, J, io⟩
 ·refine pw_skip ?_
  refine S3 2 J <| cF h r06_Turned_ok J J fun v3 _ h => S1 1 J <| cA h r01_Slot_ok J J fun v4 _ h => y0 J (o_build (cs := [.I 0, .I 0, .I 0, .I 0, .bool false, .nl]) J Ty.p63 Ty.z63 J J J) <| cF h r06_with_ok J J fun v5 _ h => S2 1 J <| pw_ret ?_
  cases h
  exact ⟨J, [_], ⟨oL J J J Ty.a42 Ty.s42 nl J, tr⟩, J, io⟩

theorem r16_gone_ok {a0 a1} : PO Tryz.prog 128 [r15_Heap.Pv a0, .I a1] (r16_gone a0 a1) fun r => r15_Heap.Pv r := by
 refine pO Tryz.func128 fun r h _ _ => ?_
 refine S4 2 J <| S3 3 J <| cF h r06_Get_ok J J fun v1 _ h => S2 6 J <| S3 1 J <| y_sto (x' := .agg [.I v1.1.Serial, .I v1.1.Strong, .I v1.1.Weak, .I v1.1.Prog, .bool v1.1.Started, .nl]) (cl' := true) J J (.inl J) Ty.s27 <| yN <| S3 1 J <| y_sto (x' := .agg [.I v1.1.Serial, .I 0, .I v1.1.Weak, .I v1.1.Prog, .bool v1.1.Started, .nl]) (cl' := true) J J (.inl J) Ty.s3 <| yN <| S3 4 J <| cF h r06_Set_ok J J fun v2 _ h => S2 5 J <| S3 3 J <| cF h r06_Kill_ok J J fun v3 _ h => S2 2 J <| pw_seq <| S4 3 J ?_
 refine cN h (fun hc h => ?_) fun hc h => ?_
 ·refine S5 3 J ?_
  refine cF h r06_Give_ok J J fun v4 _ h => S2 2 J <| S4 2 J <| pw_ret ?_
  cases h
  exact ⟨J, [_], ⟨oL J J J Ty.a49 Ty.s49 nl J, tr⟩, J, io⟩
 ·refine pw_skip ?_
  refine S4 2 J <| pw_ret ?_
  cases h
  exact ⟨J, [_], ⟨oL J J J Ty.a49 Ty.s49 nl J, tr⟩, J, io⟩

theorem r04_Dec_ok {a0} : PO Tryz.prog 98 [.I a0] (r04_Dec a0) fun r => .tup [.I r.1, .I r.2] := by
 refine pO Tryz.func98 fun r h _ _ => ?_
 refine S4 2 J <| pw_seq <| S3 1 J <| cA h r04_Stuck_ok J J fun v1 _ h => yN ?_
 refine cN h (fun hc h => ?_) fun hc h => ?_
 ·refine S4 2 J ?_
  refine pw_ret ?_
  cases h
  exact f2
 ·refine pw_skip ?_
  refine pw_seq <| S4 2 J ?_
  refine cN h (fun hc h => ?_) fun hc h => ?_
  ·refine S4 2 J ?_
   refine pw_ret ?_
   cases h
   exact f2
  ·refine pw_skip ?_
   refine S4 4 J <| pw_ret ?_
   cases h
   exact f2

theorem r15_Release_ok {a0 a1} : PO Tryz.prog 31 [r15_Heap.Pv a0, .I a1] (r15_Release a0 a1) fun r => r15_Heap.Pv r := by
 refine pO Tryz.func31 fun r h _ _ => ?_
 refine S4 2 J <| S3 3 J <| cF h r06_Get_ok J J fun v1 _ h => S2 6 J <| S3 2 J <| cA h r04_Dec_ok J J fun v2 _ h => S2 5 J <| pw_seq <| S4 2 J ?_
 refine cN h (fun hc h => ?_) fun hc h => ?_
 ·refine S4 2 J ?_
  refine pw_ret ?_
  cases h
  exact ⟨J, [_], ⟨oL J J J Ty.a49 Ty.s49 nl J, tr⟩, J, io⟩
 ·refine pw_skip ?_
  refine S3 3 J <| cF h r15_Strong_ok J J fun v3 _ h => S2 1 J <| pw_ret ?_
  cases h
  exact ⟨J, [_], ⟨oL J J J Ty.a49 Ty.s49 nl J, tr⟩, J, io⟩

theorem r16_Bury_ok {a0 a1} : PO Tryz.prog 52 [r15_Heap.Pv a0, .L iF a1] (r16_Bury a0 a1) fun r => r15_Heap.Pv r := by
 refine pO Tryz.func52 fun r h _ _ => ?_
 refine S4 2 J <| S3 2 J <| cF h r16_each_ok J J fun v1 _ h => S2 1 J <| S3 3 J <| cF h r09_Clear_ok J J fun v2 _ h => S2 5 J <| S4 3 J ?_
 refine jq h (fun j12 => St.of [(2, .ptr 2 0 0), (4, .ptr 4 0 0), (5, .L iF v1)] [(4, vR (.agg [.nl, .I 0, .I 0, .nl, .nl, .nl, .nl, .I 0]) 8), (2, vR (.agg [.L r06_Cell.Pv a0.S.Cells, .I a0.S.Last, .I a0.S.Serial, .L iF a0.Roots, .L r09_Cell.Pv v2.1, .L r10_Place.Pv a0.T, .L r14_Task.Pv j12.L, .I j12.Cap]) 8)]) (fun j12 h => ?_) fun κ11 h => ?_
 ·refine sR ?_
  refine y0 J (o_nslice J Ty.e27 Ty.s3) <| S2 1 J ?_
  refine jq h (fun j23 => St.of [(2, .ptr 2 0 0), (4, .ptr 4 0 0), (5, .L iF v1), (9, .sl 910009)] [(910009, ⟨List.map iF j23, (List.map iF j23).length, true, 1, true⟩), (4, vR (.agg [.nl, .I 0, .I 0, .nl, .nl, .nl, .nl, .I 0]) 8), (2, vR (.agg [.L r06_Cell.Pv a0.S.Cells, .I a0.S.Last, .I a0.S.Serial, .L iF a0.Roots, .L r09_Cell.Pv v2.1, .L r10_Place.Pv a0.T, .L r14_Task.Pv j12.L, .I j12.Cap]) 8)]) (fun j23 h => ?_) fun κ22 h => ?_
  ·refine S3 3 J ?_
   refine cF h r11_Without_ok J J fun v24 _ h => S2 5 J <| S4 3 J <| S3 2 J <| bnE h fun v25 hv19 h => y_app J (o_apR (f := iF) hv19 J J J J J J (.inl ⟨_, J, J⟩) Ty.e27 Ty.s3 Ty.b3 Ty.z3 J (fun _ => J)) J J J <| S2 1 J ?_
   refine jq h (fun j34 => St.of [(2, .ptr 2 0 0), (4, .ptr 4 0 0), (9, .sl 88)] [(88, ⟨List.map iF v25, j23.length, true, 1, true⟩), (4, vR (.agg [.nl, .I 0, .I 0, .nl, .nl, .nl, .nl, .I 0]) 8), (2, vR (r15_Heap.Pv j34) 8)]) (fun j34 h => ?_) fun κ33 h => ?_
   ·refine jq h (fun j43 => St.of [(2, .ptr 2 0 0), (4, .ptr 4 0 0)] [(4, vR (.agg [.nl, .I 0, .I 0, .nl, .nl, .nl, .nl, .I 0]) 8), (2, vR (r15_Heap.Pv j43) 8)]) (fun j43 h => ?_) fun κ42 h => ?_
    ·refine S4 2 J ?_
     refine pw_ret ?_
     cases h
     exact ⟨J, [_], ⟨oL J J J Ty.a49 Ty.s49 nl J, tr⟩, J, io⟩
    ·refine S4 1 J ?_
     refine pw_block <| lq h (fun q => St.of [(2, .ptr 2 0 0), (4, .ptr 4 0 0), (9, .sl 88), (16, .I q.1)] [(88, ⟨List.map iF v25, j23.length, true, 1, true⟩), (4, vR (.agg [.nl, .I 0, .I 0, .nl, .nl, .nl, .nl, .I 0]) 8), (2, vR (r15_Heap.Pv q.2) 8)]) W fun q48 x47 h hx34 => ?_
     obtain ⟨s45, s46⟩ := q48
     refine pw_seq <| S3 2 J <| y0 J (o_lnR (f := iF) J J J Ty.e27) <| S2 1 J ?_
     refine cN h (fun hc h => ?_) fun hc h => ?_
     ·refine pw_skip ?_
      refine pw_seq <| pw_block <| pw_drw [] Ty.mix (by kernel_rfl) (by kernel_rfl) <| S7 3 J <| bnE h fun v49 hv35 h => d0 J (o_ixR (f := iF) hv35 J J J J Ty.e27 Ty.s3 J) J <| d0 J (o_ldS (f := iF) hv35 J J J Ty.a3 J) J <| bnE h fun v50 hv36 h => d2f J (o_clF J r15_Release_ok J hv36) J <| d_sto (x' := r15_Heap.Pv v50) (cl' := true) J J (.inr J) Ty.s49 <| d_nil <| S6 3 J ?_
      exact eL h W
     ·refine pw_exit ?_
      refine thenQ_exit <| thenQ_exit <| blockQ_exit ?_
      have h := xL hx34 h
      exact eJ h W
   ·refine S4 1 J ?_
    refine pw_block <| lq h (fun q => St.of [(2, .ptr 2 0 0), (4, .ptr 4 0 0), (5, .L iF v1), (9, .sl 88), (15, .I q.1)] [(88, ⟨List.map iF v25, j23.length, true, 1, true⟩), (4, vR (.agg [.nl, .I 0, .I 0, .nl, .nl, .nl, .nl, .I 0]) 8), (2, vR (r15_Heap.Pv q.2) 8)]) W fun q55 x54 h hx39 => ?_
    obtain ⟨s52, s53⟩ := q55
    refine pw_seq <| S3 2 J <| nL J Ty.e27 <| S2 1 J ?_
    refine cN h (fun hc h => ?_) fun hc h => ?_
    ·refine pw_skip ?_
     refine pw_seq <| pw_block <| pw_drw [] Ty.mix (by kernel_rfl) (by kernel_rfl) <| S7 3 J <| bnE h fun v56 hv40 h => d0 J (o_ixL (f := iF) (cs := [.I v56]) hv40 J J Ty.e27 Ty.s3 J J) J <| S7 1 J <| bnE h fun v57 hv41 h => d2f J (o_clF J r16_gone_ok J hv41) J <| d_sto (x' := r15_Heap.Pv v57) (cl' := true) J J (.inr J) Ty.s49 <| d_nil <| S6 3 J ?_
     exact eL h W
    ·refine pw_exit ?_
     refine thenQ_exit <| thenQ_exit <| blockQ_exit ?_
     have h := xL hx39 h
     exact eJ h W
  ·refine S4 1 J ?_
   refine pw_block <| lq h (fun q => St.of [(2, .ptr 2 0 0), (4, .ptr 4 0 0), (5, .L iF v1), (9, .sl 910009), (10, .I q.1)] [(4, vR (.agg [.nl, .I 0, .I 0, .nl, .nl, .nl, .nl, .I 0]) 8), (2, vR (.agg [.L r06_Cell.Pv a0.S.Cells, .I a0.S.Last, .I a0.S.Serial, .L iF a0.Roots, .L r09_Cell.Pv v2.1, .L r10_Place.Pv a0.T, .L r14_Task.Pv j12.L, .I j12.Cap]) 8), (910009, ⟨List.map iF q.2, (List.map iF q.2).length, true, 1, true⟩)]) (Wk.trans (wk_nil (t := 9) (l := 920009) (z := 1) J J) (WP (fun l => if l = 910009 then 920009 else l))) fun q62 x61 h hx44 => ?_
   obtain ⟨s59, s60⟩ := q62
   refine pw_seq <| S3 2 J <| nL J Ty.e27 <| S2 1 J ?_
   refine cN h (fun hc h => ?_) fun hc h => ?_
   ·refine pw_skip ?_
    refine pw_seq <| pw_block <| dr [] Ty.mix (by kernel_rfl) (by kernel_rfl) <| S7 4 J <| bnE h fun v63 hv45 h => d0 J (o_ixL (f := iF) (cs := [.I v63]) hv45 J J Ty.e27 Ty.s3 J J) J <| S7 1 J <| bnE h fun v64 hv46 h => d2f J (o_clF J r06_Get_ok J hv46) J <| S7 4 J <| d_sto (x' := r06_Obj.Pv v64.1) (cl' := true) J J (.inr J) Ty.s63 <| S8 1 J <| S5 3 J <| cF h r05_Names_ok J J fun v65 _ h => bnE h fun v66 hv48 h => y_app J (o_apR (f := iF) hv48 J J J J J J (.inl ⟨_, J, J⟩) Ty.e27 Ty.s3 Ty.b3 Ty.z3 J (fun _ => J)) J J J <| S2 1 J <| S6 3 J ?_
    exact eL h (Wk.trans (wk_frz _ [76]) (WP (fun l => if l = 910009 then 76 else l)))
   ·refine pw_exit ?_
    refine thenQ_exit <| thenQ_exit <| blockQ_exit ?_
    have h := xL hx44 h
    exact eJ h (Wk.trans (wk_frz _ [910009]) W)
 ·refine S4 1 J ?_
  refine pw_block <| lq h (fun q => St.of [(2, .ptr 2 0 0), (4, .ptr 4 0 0), (5, .L iF v1), (6, .L r09_Cell.Pv v2.1), (7, .L iF v2.2), (8, .I q.1)] [(4, vR (.agg [.nl, .I 0, .I 0, .nl, .nl, .nl, .nl, .I 0]) 8), (2, vR (.agg [.L r06_Cell.Pv a0.S.Cells, .I a0.S.Last, .I a0.S.Serial, .L iF a0.Roots, .L r09_Cell.Pv v2.1, .L r10_Place.Pv a0.T, .L r14_Task.Pv q.2.L, .I q.2.Cap]) 8)]) W fun q71 x70 h hx51 => ?_
  obtain ⟨s68, s69⟩ := q71
  refine pw_seq <| S3 2 J <| nL J Ty.e27 <| S2 1 J ?_
  refine cN h (fun hc h => ?_) fun hc h => ?_
  ·refine pw_skip ?_
   refine pw_seq <| pw_block <| pw_drw [] Ty.mix (by kernel_rfl) (by kernel_rfl) <| S7 4 J <| bnE h fun v72 hv52 h => d0 J (o_ixL (f := iF) (cs := [.I v72]) hv52 J J Ty.e27 Ty.s3 J J) J <| S7 4 J <| d0 J (o_ixL (f := iF) (cs := [.I v72]) hv52 J J Ty.e27 Ty.s3 J J) J <| S7 1 J <| bnE h fun v73 hv53 h => d0 J (o_ixL (f := r09_Cell.Pv) (cs := r09_Cell.Pc v73) hv53 J J Ty.e43 Ty.s160 J J) J <| S7 2 J <| d7 J (fun _ hN => o_build (cs := [.I 2, .I v72, .I v73.Call]) J Ty.p151 Ty.z151 J J J) J <| bnE h fun v74 hv54 h => d2f J (o_clF J r14_Add_ok J hv54) J <| S7 4 J <| d_sto (x' := .agg [.L r06_Cell.Pv a0.S.Cells, .I a0.S.Last, .I a0.S.Serial, .L iF a0.Roots, .L r09_Cell.Pv v2.1, .L r10_Place.Pv a0.T, .L r14_Task.Pv v74.1.L, .I v74.1.Cap]) (cl' := true) J J (.inr J) Ty.s47 <| d_nil <| S6 3 J ?_
   exact eL h W
  ·refine pw_exit ?_
   refine thenQ_exit <| thenQ_exit <| blockQ_exit ?_
   have h := xL hx51 h
   exact eJ h W

theorem r16_Settle_ok {a0} : PO Tryz.prog 47 [r15_Heap.Pv a0] (r16_Settle a0) fun r => r15_Heap.Pv r := by
 refine pO Tryz.func47 fun r h _ _ => ?_
 refine S4 2 J ?_
 refine jq h (fun j21 => St.of [(1, .ptr 1 0 0), (2, .ptr 2 0 0)] [(2, vR (.agg [.nl, .I 0, .I 0, .nl, .nl, .nl, .nl, .I 0]) 8), (1, vR (r15_Heap.Pv j21) 8)]) (fun j21 h => ?_) fun κ20 h => ?_
 ·refine S4 2 J ?_
  refine pw_ret ?_
  cases h
  exact ⟨J, [_], ⟨oL J J J Ty.a49 Ty.s49 nl J, tr⟩, J, io⟩
 ·refine S4 1 J ?_
  refine pw_block <| lq h (fun q => St.of [(1, .ptr 1 0 0), (2, .ptr 2 0 0), (3, .I q.1)] [(2, vR (.agg [.nl, .I 0, .I 0, .nl, .nl, .nl, .nl, .I 0]) 8), (1, vR (r15_Heap.Pv q.2) 8)]) W fun q26 x25 h hx20 => ?_
  obtain ⟨s23, s24⟩ := q26
  refine pw_seq <| S4 2 J ?_
  refine cN h (fun hc h => ?_) fun hc h => ?_
  ·refine pw_skip ?_
   refine jq h (fun j34 => St.of [(1, .ptr 1 0 0), (2, .ptr 2 0 0), (3, .I s23)] [(2, vR (.agg [.nl, .I 0, .I 0, .nl, .nl, .nl, .nl, .I 0]) 8), (1, vR (r15_Heap.Pv j34) 8)]) (fun j34 h => ?_) fun κ33 h => ?_
   ·refine S6 3 J ?_
    exact eL h W
   ·refine pw_block ?_
    refine S3 1 J <| cF h r16_Zero_ok J J fun v35 _ h => S2 1 J <| pw_seq <| S3 1 J <| nL J Ty.e27 <| S2 1 J ?_
    refine cN h (fun hc h => ?_) fun hc h => ?_
    ·refine S4 2 J ?_
     refine pw_ret ?_
     have h := xL hx20 h
     cases h
     exact ⟨J, [_], ⟨oL J J J Ty.a49 Ty.s49 nl J, tr⟩, J, io⟩
    ·refine pw_skip ?_
     refine dr [] Ty.mix (by kernel_rfl) (by kernel_rfl) <| S7 2 J <| bnE h fun v36 hv29 h => d0 J (o_ixL (f := iF) (cs := [.I v36]) hv29 J J Ty.e27 Ty.s3 J J) J <| S7 1 J <| bnE h fun v37 hv30 h => d2 J (o_cl J r16_Due_ok J hv30) J <| d_nil ?_
     refine cN h (fun hc h => ?_) fun hc h => ?_
     ·refine pw_drw [] Ty.mix (by kernel_rfl) (by kernel_rfl) ?_
      refine S7 2 J <| d0 J (o_ixL (f := iF) (cs := [.I v36]) hv29 J J Ty.e27 Ty.s3 J J) J <| S7 1 J <| bnE h fun v38 hv31 h => d2f J (o_clF J r16_Queued_ok J hv31) J <| d_sto (x' := r15_Heap.Pv v38) (cl' := true) J J (.inr J) Ty.s49 <| d_nil ?_
      exact eJ h W
     ·refine pw_drw [] Ty.mix (by kernel_rfl) (by kernel_rfl) ?_
      refine S7 2 J <| bnE h fun v39 hv32 h => d0 J (o_cutL (f := iF) hv32 J J ⟨_, J⟩ Ty.e27 Ty.s3 (fun _ => J)) J <| bnE h fun v40 hv33 h => d2f J (o_clF J r16_Bury_ok J hv33) J <| d_sto (x' := r15_Heap.Pv v40) (cl' := true) J J (.inr J) Ty.s49 <| d_nil ?_
      exact eJ h W
  ·refine pw_exit ?_
   refine thenQ_exit <| thenQ_exit <| blockQ_exit ?_
   have h := xL hx20 h
   exact eJ h W

theorem w16_SettleActs_ok {a0 a1} : PO Tryz.prog 8 [hold_Heap.Pv a0, .I a1] (w16_SettleActs a0 a1) fun r => .bool r := by
 refine pO Tryz.func8 fun r h _ _ => ?_
 refine S4 2 J <| pw_seq <| S3 1 J <| cA h w16_sound_ok J J fun v1 _ h => S1 2 J <| bnE h fun v2 hv2 h => y_if J (fun hg => o_cl J w16_shown_ok J (onlyE hv2 hg)) <| y_if J (fun hg => o_not (ct hg) J) <| y0 J (pk_or J J J (fun q => eqF q)) <| yN ?_
 refine cN h (fun hc h => ?_) fun hc h => ?_
 ·refine sR ?_
  refine cA h w16_shown_ok J J fun v3 _ h => S2 1 J <| pw_ret ?_
  cases h
  exact f1
 ·refine pw_skip ?_
  refine S3 1 J <| cF h w16_heap_ok J J fun v4 _ h => S2 2 J <| S3 2 J <| cF h settle_Queued_ok J J fun v5 _ h => S2 2 J <| S3 1 J <| cF h settle_Settle_ok J J fun v6 _ h => S2 2 J <| dr [] Ty.mix (by kernel_rfl) (by kernel_rfl) <| S7 1 J <| bnE h fun v7 hv7 h => d2 J (o_cl J w16_few_ok J hv7) J <| S7 1 J <| d_if0 J (fun hg => oL J J J Ty.a34 Ty.s34 nl J) J <| bnE h fun v8 hv8 h => d_if2 J (fun hg => o_cl J w16_few_ok (consE (ct hg) J) (onlyE hv8 hg)) J <| d7 J (fun _ hN => pk_and J J J (fun q => eqT q)) J <| S7 1 J <| d_if0 J (fun hg => oL J J J Ty.a34 Ty.s34 nl J) J <| bnE h fun v9 hv9 h => d_if2f J (fun hg => o_clF J settle_Zero_ok (consE (ct hg) J) (onlyE hv9 hg)) J <| d_if0 J (fun hg => oL J J J Ty.a49 Ty.s49 nl J) J <| bnE h fun v10 hv10 h => d_if2f J (fun hg => o_clF J r16_Zero_ok (consE (ct hg) J) (onlyE hv10 hg)) J <| bnE h fun v11 hv11 h => d_if2 J (fun hg => o_cl J r02_Ints_ok (consE (ct hg) (consE (ct hg) J)) (onlyE hv11 hg)) J <| d7 J (fun _ hN => pk_and J J J (fun q => eqT q)) J <| S7 1 J <| d_if0 J (fun hg => oL J J J Ty.a34 Ty.s34 nl J) J <| bnE h fun v12 hv12 h => d_if2 J (fun hg => o_cl J settle_Settled_ok (consE (ct hg) J) (onlyE hv12 hg)) J <| d_if0 J (fun hg => oL J J J Ty.a49 Ty.s49 nl J) J <| bnE h fun v13 hv13 h => d_if2 J (fun hg => o_cl J r16_Settled_ok (consE (ct hg) J) (onlyE hv13 hg)) J <| d_if7 J (fun hg _ hN => o_eqB (ct hg) (ct hg) Ty.u4 J) J <| d7 J (fun _ hN => pk_and J J J (fun q => eqT q)) J <| S7 1 J <| d_if0 J (fun hg => oL J J J Ty.a34 Ty.s34 nl J) J <| bnE h fun v14 hv14 h => d_if2f J (fun hg => o_clF J w16_heap_ok (consE (ct hg) J) (onlyE hv14 hg)) J <| d_if0 J (fun hg => oL J J J Ty.a49 Ty.s49 nl J) J <| d_if7 J (fun hg _ hN => mI J) J <| bnE h fun v15 hv15 h => d_if2f J (fun hg => o_clF J r16_Queued_ok (consE (ct hg) (consE (ct hg) J)) (onlyE hv15 hg)) J <| bnE h fun v16 hv16 h => d_if2 J (fun hg => o_cl J r15_Same_ok (consE (ct hg) (consE (ct hg) J)) (onlyE hv16 hg)) J <| d7 J (fun _ hN => pk_and J J J (fun q => eqT q)) J <| S7 1 J <| d_if0 J (fun hg => oL J J J Ty.a34 Ty.s34 nl J) J <| bnE h fun v17 hv17 h => d_if2f J (fun hg => o_clF J w16_heap_ok (consE (ct hg) J) (onlyE hv17 hg)) J <| d_if0 J (fun hg => oL J J J Ty.a49 Ty.s49 nl J) J <| bnE h fun v18 hv18 h => d_if2f J (fun hg => o_clF J r16_Settle_ok (consE (ct hg) J) (onlyE hv18 hg)) J <| bnE h fun v19 hv19 h => d_if2 J (fun hg => o_cl J r15_Same_ok (consE (ct hg) (consE (ct hg) J)) (onlyE hv19 hg)) J <| d7 J (fun _ hN => pk_and J J J (fun q => eqT q)) J <| S8 1 J <| pw_ret ?_
  cases h
  exact f1

theorem w16_SettleBuries_ok {a0 a1} : PO Tryz.prog 9 [hold_Heap.Pv a0, .L iF a1] (w16_SettleBuries a0 a1) fun r => .bool r := by
 refine pO Tryz.func9 fun r h _ _ => ?_
 refine S4 2 J <| pw_seq <| S3 1 J <| cA h w16_sound_ok J J fun v1 _ h => S1 2 J <| y_if J (fun hg => om (d := .L iF a1) J) <| y_if J (fun hg => o_lnL (f := iF) (ct hg) Ty.e27) <| y_if J (fun hg => o_cmp (ct hg) J J) <| y0 J (pk_or J J J (fun q => eqF q)) <| S1 1 J <| bnE h fun v2 hv2 h => y_if J (fun hg => o_cl J w16_shown_ok J (onlyE hv2 hg)) <| y_if J (fun hg => o_not (ct hg) J) <| y0 J (pk_or J J J (fun q => eqF q)) <| yN ?_
 refine cN h (fun hc h => ?_) fun hc h => ?_
 ·refine sR ?_
  refine cA h w16_shown_ok J J fun v3 _ h => S2 1 J <| pw_ret ?_
  cases h
  exact f1
 ·refine pw_skip ?_
  refine S3 2 J <| cF h w16_tasks_ok J J fun v4 _ h => cF h r14_Held_ok J J fun v5 _ h => S2 1 J ?_
  refine jq h (fun _ => St.of [(1, .L iF a1), (2, .ptr 2 0 0)] [(2, vR (hold_Heap.Pv a0) 8)]) (fun q12 h => ?_) fun κ11 h => ?_
  ·refine S3 2 J ?_
   refine cF h settle_Bury_ok J J fun v13 _ h => S2 2 J <| dr [] Ty.mix (by kernel_rfl) (by kernel_rfl) <| S7 1 J <| bnE h fun v14 hv13 h => d2 J (o_cl J w16_few_ok J hv13) J <| S7 1 J <| d_if0 J (fun hg => oL J J J Ty.a34 Ty.s34 nl J) J <| bnE h fun v15 hv14 h => d_if2f J (fun hg => o_clF J w16_heap_ok (consE (ct hg) J) (onlyE hv14 hg)) J <| d_if0 J (fun hg => oL J J J Ty.a34 Ty.s34 nl J) J <| bnE h fun v16 hv15 h => d_if2f J (fun hg => o_clF J w16_heap_ok (consE (ct hg) J) (onlyE hv15 hg)) J <| d_if7 J (fun hg _ hN => om (d := .L iF a1) J) J <| bnE h fun v17 hv16 h => d_if2f J (fun hg => o_clF J r16_Bury_ok (consE (ct hg) (consE (ct hg) J)) (onlyE hv16 hg)) J <| bnE h fun v18 hv17 h => d_if2 J (fun hg => o_cl J r15_Same_ok (consE (ct hg) (consE (ct hg) J)) (onlyE hv17 hg)) J <| d7 J (fun _ hN => pk_and J J J (fun q => eqT q)) J <| S8 1 J <| pw_ret ?_
   cases h
   exact f1
  ·refine S4 1 J ?_
   refine pw_block <| lq h (fun s20 => St.of [(1, .L iF a1), (2, .ptr 2 0 0), (5, .L iF v5), (6, .I s20)] [(2, vR (hold_Heap.Pv a0) 8)]) W fun s20 x21 h hx20 => pw_seq <| S3 2 J <| nL J Ty.e27 <| S2 1 J ?_
   refine cN h (fun hc h => ?_) fun hc h => ?_
   ·refine pw_skip ?_
    refine pw_seq <| pw_block <| S3 3 J <| iL h J J Ty.e27 Ty.s3 fun v22 _ h => S1 1 J <| cA h r08_Has_ok J J fun v23 _ h => yN ?_
    refine cN h (fun hc h => ?_) fun hc h => ?_
    ·refine S4 1 J ?_
     refine pw_ret ?_
     have h := xL hx20 h
     cases h
     exact f1
    ·refine pw_skip ?_
     refine S6 3 J ?_
     exact eL h W
   ·refine pw_exit ?_
    refine thenQ_exit <| thenQ_exit <| blockQ_exit ?_
    have h := xL hx20 h
    exact eJ h W

theorem w16_SettleStays_ok {a0} : PO Tryz.prog 10 [hold_Heap.Pv a0] (w16_SettleStays a0) fun r => .bool r := by
 refine pO Tryz.func10 fun r h _ _ => ?_
 refine S4 2 J <| pw_seq <| S3 1 J <| cA h w16_sound_ok J J fun v1 _ h => S1 2 J <| bnE h fun v2 hv2 h => y_if J (fun hg => o_cl J w16_shown_ok J (onlyE hv2 hg)) <| y_if J (fun hg => o_not (ct hg) J) <| y0 J (pk_or J J J (fun q => eqF q)) <| yN ?_
 refine cN h (fun hc h => ?_) fun hc h => ?_
 ·refine sR ?_
  refine cA h w16_shown_ok J J fun v3 _ h => S2 1 J <| pw_ret ?_
  cases h
  exact f1
 ·refine pw_skip ?_
  refine S3 1 J <| cF h settle_Settle_ok J J fun v4 _ h => S2 2 J <| pw_seq <| S3 1 J <| cA h w16_few_ok J J fun v5 _ h => S2 1 J ?_
  refine cN h (fun hc h => ?_) fun hc h => ?_
  ·refine S4 1 J ?_
   refine pw_ret ?_
   cases h
   exact f1
  ·refine pw_skip ?_
   refine S3 1 J <| cF h settle_Settle_ok J J fun v6 _ h => S2 2 J <| dr [] Ty.mix (by kernel_rfl) (by kernel_rfl) <| S7 1 J <| bnE h fun v7 hv7 h => d2f J (o_clF J w16_heap_ok J hv7) J <| bnE h fun v8 hv8 h => d2 J (o_cl J r15_Right_ok J hv8) J <| S7 1 J <| d_if0 J (fun hg => oL J J J Ty.a34 Ty.s34 nl J) J <| d_if2f J (fun hg => o_clF J w16_heap_ok (consE (ct hg) J) hv7) J <| bnE h fun v9 hv9 h => d_if2 J (fun hg => o_cl J r16_Settled_ok (consE (ct hg) J) (onlyE hv9 hg)) J <| d7 J (fun _ hN => pk_and J J J (fun q => eqT q)) J <| S7 1 J <| d_if0 J (fun hg => oL J J J Ty.a34 Ty.s34 nl J) J <| bnE h fun v10 hv10 h => d_if2 J (fun hg => o_cl J w16_few_ok (consE (ct hg) J) (onlyE hv10 hg)) J <| d7 J (fun _ hN => pk_and J J J (fun q => eqT q)) J <| S7 1 J <| d_if0 J (fun hg => oL J J J Ty.a34 Ty.s34 nl J) J <| d_if2f J (fun hg => o_clF J w16_heap_ok (consE (ct hg) J) hv7) J <| d_if0 J (fun hg => oL J J J Ty.a34 Ty.s34 nl J) J <| bnE h fun v11 hv11 h => d_if2f J (fun hg => o_clF J w16_heap_ok (consE (ct hg) J) (onlyE hv11 hg)) J <| bnE h fun v12 hv12 h => d_if2 J (fun hg => o_cl J r15_Same_ok (consE (ct hg) (consE (ct hg) J)) (onlyE hv12 hg)) J <| d7 J (fun _ hN => pk_and J J J (fun q => eqT q)) J <| S8 1 J <| pw_ret ?_
   cases h
   exact f1

end Go.Proofs.YtnfmdpblilpcbaaGreat.Ok
