/-
 The functions of the program do as the plain functions do.
-/
import Derived.Test.YtnfmdpblilpcbaaGreatI16bOk2
namespace Go.Proofs.YtnfmdpblilpcbaaGreat.Ok
open Go Go.Pw Go.Sh Go.Proofs
set_option linter.unusedVariables false
set_option maxRecDepth 100000
set_option maxHeartbeats 4000000
theorem w16_shown_ok : PO Tryz.prog 36 [] (w16_shown) fun r => .bool r := by
 refine pO Tryz.func36 fun r h _ _ => ?_
 refine S4 1 J <| sR <| cF h hold_New_ok J J fun v1 _ h => S2 2 J <| S3 2 J <| cF h store_Make_ok J J fun v2 _ h => S2 8 J <| S3 1 J <| cF h store_Make_ok J J fun v3 _ h => S2 7 J <| S3 1 J <| cF h store_Make_ok J J fun v4 _ h => S2 7 J <| S4 3 J <| S3 3 J <| cF h hold_Field_ok J J fun v5 _ h => S2 4 J <| S3 3 J <| cF h hold_Field_ok J J fun v6 _ h => S2 4 J <| S3 2 J <| cF h hold_Weak_ok J J fun v7 _ h => S2 4 J <| S3 1 J <| cF h settle_Zero_ok J J fun v8 _ h => S2 1 J <| S3 1 J <| cF h settle_Settle_ok J J fun v9 _ h => S2 2 J <| S3 3 J ?_
 refine cF h store_Get_ok J J fun v10 _ h => S2 6 J <| S3 3 J <| cF h store_Get_ok J J fun v11 _ h => S2 6 J <| S3 2 J <| cA h weak_Load_ok J J fun v12 _ h => S2 5 J <| S3 1 J <| nL J Ty.e27 <| S1 2 J <| y_if J (fun hg => om (d := .L iF v8) J) <| bnE h fun v13 hv13 h => y_if J (fun hg => o_ixL (f := iF) (cs := [.I v13]) (onlyE hv13 hg) (ct hg) J Ty.e27 Ty.s3 J J) <| y_if J (fun hg => o_loadRS (ct hg) Ty.a3 J) <| y_if J (fun hg => mI J) <| y_if J (fun hg => o_cmp (ct hg) (ct hg) J) <| y0 J (pk_and J J J (fun q => eqT q)) <| S1 1 J <| y_if J (fun hg => oF J Ty.f34_0 J) <| y_if J (fun hg => oL (ct hg) J J Ty.a26 Ty.s26 nl J) <| bnE h fun v14 hv14 h => y_ifc J (fun hg => o_clF J store_Live_ok (consE (ct hg) J) (onlyE hv14 hg)) <| y_if J (fun hg => o_lnL (f := iF) (ct hg) Ty.e27) <| y_if J (fun hg => o_cmp (ct hg) J J) <| y0 J (pk_and J J J (fun q => eqT q)) <| S1 1 J <| y_if J (fun hg => mI J) <| y_if J (fun hg => o_cmp (ct hg) J J) <| y0 J (pk_and J J J (fun q => eqT q)) <| S1 1 J <| y_if J (fun hg => oF J Ty.f91_4 J) <| y_if J (fun hg => oS (ct hg) J J Ty.a4 J) <| y0 J (pk_and J J J (fun q => eqT q)) <| S1 1 J <| y_if J (fun hg => oF J Ty.f91_1 J) <| y_if J (fun hg => oS (ct hg) J J Ty.a3 J) <| y_if J (fun hg => o_cmp (ct hg) J J) <| y0 J (pk_and J J J (fun q => eqT q)) <| S1 1 J <| y_if J (fun hg => mI J) <| y_if J (fun hg => o_cmp (ct hg) J J) <| y0 J (pk_and J J J (fun q => eqT q)) <| S1 1 J <| y_if J (fun hg => mI J) <| y_if J (fun hg => o_cmp (ct hg) J J) <| y0 J (pk_and J J J (fun q => eqT q)) <| S1 1 J <| y_if J (fun hg => oF J Ty.f34_4 J) <| y_if J (fun hg => oF (ct hg) Ty.f32_0 J) <| y_if J (fun hg => oS (ct hg) J J Ty.a30 J) <| y_if J (fun hg => o_lnL (f := task_Task.Pv) (ct hg) Ty.e30) ?_
 refine y_if J (fun hg => o_cmp (ct hg) J J) <| y0 J (pk_and J J J (fun q => eqT q)) <| S1 1 J <| y_if J (fun hg => oF J Ty.f34_4 J) <| y_if J (fun hg => oF (ct hg) Ty.f32_0 J) <| y_if J (fun hg => oS (ct hg) J J Ty.a30 J) <| bnE h fun v15 hv15 h => y_if J (fun hg => o_ixL (f := task_Task.Pv) (cs := task_Task.Pc v15) (onlyE hv15 hg) (ct hg) J Ty.e30 Ty.s82 J J) <| y_if J (fun hg => o_loadRA (ct hg) Ty.a82 Ty.s82 nl J) <| y_if J (fun hg => o_build (cs := [.I 2, .I 0, .I 2]) J Ty.p82 Ty.z82 J J J) <| y_if J (fun hg => o_eqA (xs := task_Task.Pc v15) (ys := [.I 2, .I 0, .I 2]) Ty.q82 (ct hg) (ct hg) J) <| y0 J (pk_and J J J (fun q => eqT q)) <| S1 1 J <| y_if J (fun hg => oF J Ty.f34_4 J) <| y_if J (fun hg => oF (ct hg) Ty.f32_0 J) <| y_if J (fun hg => oS (ct hg) J J Ty.a30 J) <| bnE h fun v16 hv16 h => y_if J (fun hg => o_ixL (f := task_Task.Pv) (cs := task_Task.Pc v16) (onlyE hv16 hg) (ct hg) J Ty.e30 Ty.s82 J J) <| y_if J (fun hg => o_loadRA (ct hg) Ty.a82 Ty.s82 nl J) <| y_if J (fun hg => mI J) <| y_if J (fun hg => o_build (cs := [.I 1, .I v4.2.1, .I 3]) (consE (partE J) (consE (partE (ct hg)) (consE (partE J) J))) Ty.p82 Ty.z82 J J J) <| y_if J (fun hg => o_eqA (xs := task_Task.Pc v16) (ys := [.I 1, .I v4.2.1, .I 3]) Ty.q82 (ct hg) (ct hg) J) <| y0 J (pk_and J J J (fun q => eqT q)) <| S1 1 J <| y_if J (fun hg => oL J J J Ty.a34 Ty.s34 nl J) <| bnE h fun v17 hv17 h => y_if J (fun hg => o_cl J settle_Settled_ok (consE (ct hg) J) (onlyE hv17 hg)) <| y0 J (pk_and J J J (fun q => eqT q)) <| S1 1 J <| y_if J (fun hg => oL J J J Ty.a34 Ty.s34 nl J) <| bnE h fun v18 hv18 h => y_if J (fun hg => o_cl J hold_Right_ok (consE (ct hg) J) (onlyE hv18 hg)) <| y0 J (pk_and J J J (fun q => eqT q)) <| S2 1 J <| pw_ret ?_
 cases h
 exact f1

theorem r08_Has_ok {a0 a1} : PO Tryz.prog 50 [.L iF a0, .I a1] (r08_Has a0 a1) fun r => .bool r := by
 refine pO Tryz.func50 fun r h _ _ => ?_
 refine S4 1 J <| S3 2 J <| cA h r07_Times_ok J J fun v1 _ h => S2 2 J <| pw_ret ?_
 cases h
 exact f1

theorem r08_those_ok {a0 a1 a2} : PO Tryz.prog 129 [.L iF a0, .L iF a1, .bool a2] (r08_those a0 a1 a2) fun r => .L iF r := by
 refine pO Tryz.func129 fun r h _ _ => ?_
 refine S4 1 J <| sR <| y0 J (o_nslice J Ty.e27 Ty.s3) <| S2 1 J ?_
 refine jq h (fun j15 => St.of [(7, .sl 910007)] [(910007, ⟨List.map iF j15, (List.map iF j15).length, true, 1, true⟩)]) (fun j15 h => ?_) fun κ14 h => ?_
 ·refine S4 2 J ?_
  refine pw_ret ?_
  cases h
  exact f1
 ·refine S4 1 J ?_
  refine pw_block <| lq h (fun q => St.of [(0, .L iF a0), (1, .L iF a1), (2, .bool a2), (7, .sl 910007), (8, .I q.1)] [(910007, ⟨List.map iF q.2, (List.map iF q.2).length, true, 1, true⟩)]) (Wk.trans (wk_nil (t := 7) (l := 920007) (z := 1) J J) (WP (fun l => if l = 910007 then 920007 else l))) fun q20 x19 h hx14 => ?_
  obtain ⟨s17, s18⟩ := q20
  refine pw_seq <| S3 2 J <| nL J Ty.e27 <| S2 1 J ?_
  refine cN h (fun hc h => ?_) fun hc h => ?_
  ·refine pw_skip ?_
   refine jq h (fun j25 => St.of [(0, .L iF a0), (1, .L iF a1), (2, .bool a2), (7, .sl 30), (8, .I s17)] [(30, ⟨List.map iF j25, (List.map iF j25).length, true, 1, true⟩)]) (fun j25 h => ?_) fun κ24 h => ?_
   ·refine S6 3 J ?_
    exact eL h (Wk.trans (wk_frz _ [30]) (WP (fun l => if l = 910007 then 30 else l)))
   ·refine pw_block ?_
    refine S3 3 J <| iL h J J Ty.e27 Ty.s3 fun v26 hv19 h => S1 1 J <| cA h r08_Has_ok J J fun v27 _ h => S1 1 J <| y0 J (o_eqB J J Ty.u4 J) <| yN ?_
    refine cN h (fun hc h => ?_) fun hc h => ?_
    ·refine S5 3 J ?_
     refine y0 J (o_ixL (f := iF) (cs := [.I v26]) hv19 J J Ty.e27 Ty.s3 J J) <| S1 1 J <| y0 J (o_bI (f := iF) (l := [v26]) J Ty.e27 Ty.s3 Ty.z3 J J nl J J) <| bnE h fun v28 hv21 h => y_app J (o_apR (f := iF) hv21 J J J J J J (.inl ⟨_, J, J⟩) Ty.e27 Ty.s3 Ty.b3 Ty.z3 J (fun _ => J)) J J J <| S2 1 J ?_
     exact eJ h (Wk.trans (wk_frz _ [30]) W)
    ·refine pw_skip ?_
     exact eJ h (Wk.trans (wk_frz _ [910007]) (WP (fun l => if l = 30 then 910007 else l)))
  ·refine pw_exit ?_
   refine thenQ_exit <| thenQ_exit <| blockQ_exit ?_
   have h := xL hx14 h
   exact eJ h (Wk.trans (wk_frz _ [910007]) W)

theorem r08_From_ok {a0 a1} : PO Tryz.prog 53 [r06_Store.Pv a0, .L iF a1] (r08_From a0 a1) fun r => .L iF r := by
 refine pO Tryz.func53 fun r h _ _ => ?_
 refine S4 2 J <| S3 1 J <| cF h r06_Live_ok J J fun v1 _ h => S2 1 J <| S3 2 J <| cF h r08_those_ok J J fun v2 _ h => S2 1 J ?_
 refine jq h (fun j51 => St.of [(6, .L iF j51)] []) (fun j51 h => ?_) fun κ50 h => ?_
 ·refine S4 2 J ?_
  refine pw_ret ?_
  cases h
  exact f1
 ·refine S4 1 J ?_
  refine pw_block <| lq h (fun q => St.of [(2, .ptr 2 0 0), (5, .L iF v1), (6, .L iF q.1), (7, .I q.2)] [(2, vR (r06_Store.Pv a0) 3)]) W fun q56 x55 h hx40 => ?_
  obtain ⟨s53, s54⟩ := q56
  refine pw_seq <| S3 2 J <| nL J Ty.e27 <| S2 1 J ?_
  refine cN h (fun hc h => ?_) fun hc h => ?_
  ·refine pw_skip ?_
   refine jq h (fun j78 => St.of [(2, .ptr 2 0 0), (5, .L iF v1), (6, .L iF j78), (7, .I s54)] [(2, vR (r06_Store.Pv a0) 3)]) (fun j78 h => ?_) fun κ77 h => ?_
   ·refine S6 3 J ?_
    exact eL h W
   ·refine pw_block ?_
    refine sR <| y0 J (o_nslice J Ty.e27 Ty.s3) <| S1 1 J <| bnE h fun v79 hv57 h => y1 J (o_apT (f := iF) hv57 J J (.inl ⟨_, J, J⟩) Ty.e27 Ty.s3 Ty.b3 Ty.z3 J (fun _ => J)) J <| S2 1 J ?_
    refine jq h (fun j89 => St.of [(2, .ptr 2 0 0), (5, .L iF v1), (7, .I s54), (8, .sl 23)] [(23, ⟨List.map iF j89, (List.map iF j89).length, true, 1, true⟩), (2, vR (r06_Store.Pv a0) 3)]) (fun j89 h => ?_) fun κ88 h => ?_
    ·refine S5 2 J ?_
     obtain ⟨v90, hv65, h⟩ := bindE h
     refine ycL J (o_clF J r08_those_ok J hv65) J <| S2 1 J ?_
     exact eJ h W
    ·refine S4 1 J ?_
     refine pw_block <| lq h (fun q => St.of [(2, .ptr 2 0 0), (5, .L iF v1), (6, .L iF s53), (7, .I s54), (8, .sl 23), (9, .I q.1)] [(23, ⟨List.map iF q.2, (List.map iF q.2).length, true, 1, true⟩), (2, vR (r06_Store.Pv a0) 3)]) (Wk.trans (wk_frz _ [23]) W) fun q95 x94 h hx68 => ?_
     obtain ⟨s92, s93⟩ := q95
     refine pw_seq <| S3 2 J <| nL J Ty.e27 <| S2 1 J ?_
     refine cN h (fun hc h => ?_) fun hc h => ?_
     ·refine pw_skip ?_
      refine pw_seq <| pw_block <| pw_drw [] Ty.mix (by kernel_rfl) (by kernel_rfl) <| S7 4 J <| bnE h fun v96 hv69 h => d0 J (o_ixL (f := iF) (cs := [.I v96]) hv69 J J Ty.e27 Ty.s3 J J) J <| S7 1 J <| bnE h fun v97 hv70 h => d2f J (o_clF J r07_Out_ok J hv70) J <| bnE h fun v98 hv71 h => d3a J (o_apR (f := iF) hv71 J J J J J J (.inl ⟨_, J, J⟩) Ty.e27 Ty.s3 Ty.b3 Ty.z3 J (fun _ => J)) J J J J J <| S8 1 J <| S6 3 J ?_
      exact eL h (Wk.trans (wk_frz _ [37]) (WP (fun l => if l = 23 then 37 else l)))
     ·refine pw_exit ?_
      refine thenQ_exit <| thenQ_exit <| blockQ_exit ?_
      have h := xL hx68 h
      exact eJ h (Wk.trans (wk_frz _ [23]) W)
  ·refine pw_exit ?_
   refine thenQ_exit <| thenQ_exit <| blockQ_exit ?_
   have h := xL hx40 h
   exact eJ h W

theorem r02_Ints_ok {a0 a1} : PO Tryz.prog 41 [.L iF a0, .L iF a1] (r02_Ints a0 a1) fun r => .bool r := by
 refine pO Tryz.func41 fun r h _ _ => ?_
 refine S4 1 J <| pw_seq <| S3 1 J <| nL J Ty.e27 <| S1 1 J <| nL J Ty.e27 <| S2 1 J ?_
 refine cN h (fun hc h => ?_) fun hc h => ?_
 ·refine S4 1 J ?_
  refine pw_ret ?_
  cases h
  exact f1
 ·refine pw_skip ?_
  refine jq h (fun _ => St.of [] []) (fun q7 h => ?_) fun κ6 h => ?_
  ·refine S4 1 J ?_
   refine pw_ret ?_
   cases h
   exact f1
  ·refine S4 1 J ?_
   refine pw_block <| lq h (fun s9 => St.of [(0, .L iF a0), (1, .L iF a1), (5, .I s9)] []) W fun s9 x10 h hx9 => pw_seq <| S3 2 J <| nL J Ty.e27 <| S2 1 J ?_
   refine cN h (fun hc h => ?_) fun hc h => ?_
   ·refine pw_skip ?_
    refine pw_seq <| pw_block <| dr [] Ty.mix (by kernel_rfl) (by kernel_rfl) <| S7 2 J <| bnE h fun v11 hv10 h => d0 J (o_ixL (f := iF) (cs := [.I v11]) hv10 J J Ty.e27 Ty.s3 J J) J <| S7 3 J <| bnE h fun v12 hv11 h => d0 J (o_ixL (f := iF) (cs := [.I v12]) hv11 J J Ty.e27 Ty.s3 J J) J <| S8 2 J ?_
    refine cN h (fun hc h => ?_) fun hc h => ?_
    ·refine S4 1 J ?_
     refine pw_ret ?_
     have h := xL hx9 h
     cases h
     exact f1
    ·refine pw_skip ?_
     refine S6 3 J ?_
     exact eL h W
   ·refine pw_exit ?_
    refine thenQ_exit <| thenQ_exit <| blockQ_exit ?_
    have h := xL hx9 h
    exact eJ h W

theorem w16_SettleKeeps_ok {a0} : PO Tryz.prog 11 [hold_Heap.Pv a0] (w16_SettleKeeps a0) fun r => .bool r := by
 refine pO Tryz.func11 fun r h _ _ => ?_
 refine S4 2 J <| pw_seq <| S3 1 J <| cA h w16_sound_ok J J fun v1 _ h => S1 2 J <| bnE h fun v2 hv2 h => y_if J (fun hg => o_cl J w16_shown_ok J (onlyE hv2 hg)) <| y_if J (fun hg => o_not (ct hg) J) <| y0 J (pk_or J J J (fun q => eqF q)) <| yN ?_
 refine cN h (fun hc h => ?_) fun hc h => ?_
 ·refine sR ?_
  refine cA h w16_shown_ok J J fun v3 _ h => S2 1 J <| pw_ret ?_
  cases h
  exact f1
 ·refine pw_skip ?_
  refine S3 1 J <| cF h settle_Settle_ok J J fun v4 _ h => S2 2 J <| pw_seq <| S3 1 J <| cA h w16_few_ok J J fun v5 _ h => S2 1 J ?_
  refine cN h (fun hc h => ?_) fun hc h => ?_
  ·refine S4 1 J ?_
   refine pw_ret ?_
   cases h
   exact f1
  ·refine pw_skip ?_
   refine dr [] Ty.mix (by kernel_rfl) (by kernel_rfl) <| S7 2 J <| bnE h fun v6 hv6 h => d2f J (o_clF J w16_its_ok J hv6) J <| S7 1 J <| bnE h fun v7 hv7 h => d2f J (o_clF J w16_heap_ok J hv7) J <| bnE h fun v8 hv8 h => d2f J (o_clF J r15_Outer_ok J hv8) J <| bnE h fun v9 hv9 h => d2f J (o_clF J r08_From_ok J hv9) J <| S8 1 J ?_
   refine jq h (fun _ => St.of [(1, .ptr 1 0 0), (3, .ptr 3 0 0)] [(3, vR (hold_Heap.Pv v4) 8), (1, vR (hold_Heap.Pv a0) 8)]) (fun q19 h => ?_) fun κ18 h => ?_
   ·refine S3 4 J ?_
    refine cA h r02_Ints_ok J J fun v20 _ h => S2 1 J <| pw_ret ?_
    cases h
    exact f1
   ·refine S4 1 J ?_
    refine pw_block <| lq h (fun s22 => St.of [(1, .ptr 1 0 0), (3, .ptr 3 0 0), (4, .L iF v9), (5, .I s22)] [(3, vR (hold_Heap.Pv v4) 8), (1, vR (hold_Heap.Pv a0) 8)]) W fun s22 x23 h hx22 => pw_seq <| S3 2 J <| nL J Ty.e27 <| S2 1 J ?_
    refine cN h (fun hc h => ?_) fun hc h => ?_
    ·refine pw_skip ?_
     refine pw_seq <| pw_block <| dr [] Ty.mix (by kernel_rfl) (by kernel_rfl) <| S7 2 J <| d2f J (o_clF J w16_its_ok J hv6) J <| S7 2 J <| bnE h fun v24 hv23 h => d0 J (o_ixL (f := iF) (cs := [.I v24]) hv23 J J Ty.e27 Ty.s3 J J) J <| S7 1 J <| bnE h fun v25 hv24 h => d2f J (o_clF J r06_Get_ok J hv24) J <| S7 4 J <| d_sto (x' := r06_Obj.Pv v25.1) (cl' := true) J J (.inr J) Ty.s63 <| S8 1 J <| dr [] Ty.mix (by kernel_rfl) (by kernel_rfl) <| S7 2 J <| bnE h fun v26 hv25 h => d2f J (o_clF J w16_its_ok J hv25) J <| S7 2 J <| d0 J (o_ixL (f := iF) (cs := [.I v24]) hv23 J J Ty.e27 Ty.s3 J J) J <| S7 1 J <| bnE h fun v27 hv26 h => d2f J (o_clF J r06_Get_ok J hv26) J <| S7 4 J <| d_sto (x' := r06_Obj.Pv v27.1) (cl' := true) J J (.inr J) Ty.s63 <| S8 1 J <| S3 3 J <| y_if J (fun hg => oF J Ty.f63_0 J) <| y_if J (fun hg => oS (ct hg) J J Ty.a3 J) <| y_if J (fun hg => oF J Ty.f63_0 J) <| y_if J (fun hg => oS (ct hg) J J Ty.a3 J) <| y_if J (fun hg => o_cmp (ct hg) (ct hg) J) <| y0 J (pk_or J J J (fun q => eqF q)) <| S1 1 J <| y_if J (fun hg => oF J Ty.f63_5 J) <| y_if J (fun hg => oS (ct hg) J J Ty.a27 J) <| y_if J (fun hg => oF J Ty.f63_5 J) <| y_if J (fun hg => oS (ct hg) J J Ty.a27 J) <| bnE h fun v28 hv27 h => y_if J (fun hg => o_cl J r02_Ints_ok (consE (ct hg) (consE (ct hg) J)) (onlyE hv27 hg)) <| y_if J (fun hg => o_not (ct hg) J) <| y0 J (pk_or J J J (fun q => eqF q)) <| yN ?_
     refine cN h (fun hc h => ?_) fun hc h => ?_
     ·refine S4 1 J ?_
      refine pw_ret ?_
      have h := xL hx22 h
      cases h
      exact f1
     ·refine pw_skip ?_
      refine S6 3 J ?_
      exact eL h W
    ·refine pw_exit ?_
     refine thenQ_exit <| thenQ_exit <| blockQ_exit ?_
     have h := xL hx22 h
     exact eJ h W

theorem w16_SettleOnce_ok {a0} : PO Tryz.prog 12 [hold_Heap.Pv a0] (w16_SettleOnce a0) fun r => .bool r := by
 refine pO Tryz.func12 fun r h _ _ => ?_
 refine S4 2 J <| pw_seq <| S3 1 J <| cA h w16_sound_ok J J fun v1 _ h => S1 2 J <| bnE h fun v2 hv2 h => y_if J (fun hg => o_cl J w16_shown_ok J (onlyE hv2 hg)) <| y_if J (fun hg => o_not (ct hg) J) <| y0 J (pk_or J J J (fun q => eqF q)) <| yN ?_
 refine cN h (fun hc h => ?_) fun hc h => ?_
 ·refine sR ?_
  refine cA h w16_shown_ok J J fun v3 _ h => S2 1 J <| pw_ret ?_
  cases h
  exact f1
 ·refine pw_skip ?_
  refine S3 1 J <| cF h settle_Settle_ok J J fun v4 _ h => S2 2 J <| pw_seq <| S3 1 J <| cA h w16_few_ok J J fun v5 _ h => S1 2 J <| y_if J (fun hg => oF J Ty.f34_4 J) <| y_if J (fun hg => oF (ct hg) Ty.f32_0 J) <| y_if J (fun hg => oS (ct hg) J J Ty.a30 J) <| y_if J (fun hg => o_lnL (f := task_Task.Pv) (ct hg) Ty.e30) <| y_if J (fun hg => oF J Ty.f34_4 J) <| y_if J (fun hg => oF (ct hg) Ty.f32_0 J) <| y_if J (fun hg => oS (ct hg) J J Ty.a30 J) <| y_if J (fun hg => o_lnL (f := task_Task.Pv) (ct hg) Ty.e30) <| y_if J (fun hg => o_cmp (ct hg) (ct hg) J) <| y0 J (pk_or J J J (fun q => eqF q)) <| yN ?_
  refine cN h (fun hc h => ?_) fun hc h => ?_
  ·refine S4 1 J ?_
   refine pw_ret ?_
   cases h
   exact f1
  ·refine pw_skip ?_
   refine S3 3 J <| nL J Ty.e30 <| S2 1 J <| S4 1 J <| S3 2 J <| cF h w16_its_ok J J fun v6 hv6 h => cF h r06_Live_ok J J fun v7 _ h => S2 1 J ?_
   refine jq h (fun j24 => St.of [(1, .ptr 1 0 0), (3, .ptr 3 0 0), (4, .I (a0.Q.L.length : Int)), (5, .I j24)] [(3, vR (hold_Heap.Pv v4) 8), (1, vR (hold_Heap.Pv a0) 8)]) (fun j24 h => ?_) fun κ23 h => ?_
   ·refine S4 1 J ?_
    refine jq h (fun j41 => St.of [(5, .I j24), (12, .I j41)] []) (fun j41 h => ?_) fun κ40 h => ?_
    ·refine S4 4 J ?_
     refine pw_ret ?_
     cases h
     exact f1
    ·refine S4 1 J ?_
     refine pw_block <| lq h (fun q => St.of [(1, .ptr 1 0 0), (3, .ptr 3 0 0), (4, .I (a0.Q.L.length : Int)), (5, .I j24), (12, .I q.1), (13, .I q.2)] [(3, vR (hold_Heap.Pv v4) 8), (1, vR (hold_Heap.Pv a0) 8)]) W fun q46 x45 h hx36 => ?_
     obtain ⟨s43, s44⟩ := q46
     refine pw_seq <| S3 4 J <| nL J Ty.e30 <| S2 1 J ?_
     refine cN h (fun hc h => ?_) fun hc h => ?_
     ·refine pw_skip ?_
      refine jq h (fun j52 => St.of [(1, .ptr 1 0 0), (3, .ptr 3 0 0), (4, .I (a0.Q.L.length : Int)), (5, .I j24), (12, .I j52), (13, .I s44)] [(3, vR (hold_Heap.Pv v4) 8), (1, vR (hold_Heap.Pv a0) 8)]) (fun j52 h => ?_) fun κ51 h => ?_
      ·refine S6 3 J ?_
       exact eL h W
      ·refine pw_block ?_
       refine S3 4 J <| iL h J J Ty.e30 Ty.s82 fun v53 _ h => S2 3 J <| pw_seq <| dr [] Ty.mix (by kernel_rfl) (by kernel_rfl) <| S7 4 J <| d_if0 J (fun hg => oL J J J Ty.a82 Ty.s82 nl J) J <| d_if7 J (fun hg _ hN => oF J Ty.f34_4 J) J <| d_if7 J (fun hg _ hN => oF (ct hg) Ty.f32_0 J) J <| d_if0 J (fun hg => oS (ct hg) J J Ty.a30 J) J <| d_if7 J (fun hg _ hN => mI J) J <| bnE h fun v54 hv43 h => d_if0 J (fun hg => o_ixL (f := task_Task.Pv) (cs := task_Task.Pc v54) (onlyE hv43 hg) (ct hg) (ct hg) Ty.e30 Ty.s82 J J) J <| d_if0 J (fun hg => o_loadRA (ct hg) Ty.a82 Ty.s82 nl J) J <| d_if7 J (fun hg _ hN => o_neA (xs := task_Task.Pc v53) (ys := task_Task.Pc v54) Ty.q82 (ct hg) (ct hg) J J) J <| d7 J (fun _ hN => pk_and J J J (fun q => eqT q)) J <| d_nil ?_
       refine cN h (fun hc h => ?_) fun hc h => ?_
       ·refine S4 1 J ?_
        refine pw_ret ?_
        have h := xL hx36 h
        cases h
        exact f1
       ·refine pw_skip ?_
        refine S3 4 J <| y_if J (fun hg => oF J Ty.f82_0 J) <| y_if J (fun hg => oS (ct hg) J J Ty.a3 J) <| y_if J (fun hg => o_cmp (ct hg) J J) <| y0 J (pk_and J J J (fun q => eqT q)) <| yN ?_
        refine cN h (fun hc h => ?_) fun hc h => ?_
        ·refine dr [] Ty.mix (by kernel_rfl) (by kernel_rfl) ?_
         refine S7 2 J <| bnE h fun v55 hv44 h => d2f J (o_clF J w16_its_ok J hv44) J <| S7 2 J <| bnE h fun v56 hv45 h => d2f J (o_clF J r06_Get_ok J hv45) J <| S7 4 J <| d_sto (x' := r06_Obj.Pv v56.1) (cl' := true) J J (.inr J) Ty.s63 <| S8 1 J <| pw_seq <| S4 2 J ?_
         refine cN h (fun hc h => ?_) fun hc h => ?_
         ·refine S4 1 J ?_
          refine pw_ret ?_
          have h := xL hx36 h
          cases h
          exact f1
         ·refine pw_skip ?_
          refine S6 3 J ?_
          exact eJ h W
        ·refine pw_skip ?_
         exact eJ h W
     ·refine pw_exit ?_
      refine thenQ_exit <| thenQ_exit <| blockQ_exit ?_
      have h := xL hx36 h
      exact eJ h W
   ·refine S4 1 J ?_
    refine pw_block <| lq h (fun q => St.of [(1, .ptr 1 0 0), (3, .ptr 3 0 0), (4, .I (a0.Q.L.length : Int)), (5, .I q.1), (6, .L iF v7), (7, .I q.2)] [(3, vR (hold_Heap.Pv v4) 8), (1, vR (hold_Heap.Pv a0) 8)]) W fun q61 x60 h hx48 => ?_
    obtain ⟨s58, s59⟩ := q61
    refine pw_seq <| S3 2 J <| nL J Ty.e27 <| S2 1 J ?_
    refine cN h (fun hc h => ?_) fun hc h => ?_
    ·refine pw_skip ?_
     refine jq h (fun j67 => St.of [(1, .ptr 1 0 0), (3, .ptr 3 0 0), (4, .I (a0.Q.L.length : Int)), (5, .I j67), (6, .L iF v7), (7, .I s59)] [(3, vR (hold_Heap.Pv v4) 8), (1, vR (hold_Heap.Pv a0) 8)]) (fun j67 h => ?_) fun κ66 h => ?_
     ·refine S6 3 J ?_
      exact eL h W
     ·refine pw_block ?_
      refine dr [] Ty.mix (by kernel_rfl) (by kernel_rfl) <| S7 2 J <| bnE h fun v68 hv54 h => d2f J (o_clF J w16_its_ok J hv54) J <| S7 2 J <| bnE h fun v69 hv55 h => d0 J (o_ixL (f := iF) (cs := [.I v69]) hv55 J J Ty.e27 Ty.s3 J J) J <| S7 1 J <| bnE h fun v70 hv56 h => d2f J (o_clF J r06_Get_ok J hv56) J <| S7 4 J <| d_sto (x' := r06_Obj.Pv v70.1) (cl' := true) J J (.inr J) Ty.s63 <| S8 1 J <| dr [] Ty.mix (by kernel_rfl) (by kernel_rfl) <| S7 2 J <| d2f J (o_clF J w16_its_ok J hv6) J <| S7 2 J <| d0 J (o_ixL (f := iF) (cs := [.I v69]) hv55 J J Ty.e27 Ty.s3 J J) J <| S7 1 J <| bnE h fun v71 hv57 h => d2f J (o_clF J r06_Get_ok J hv57) J <| S7 4 J <| d_sto (x' := r06_Obj.Pv v71.1) (cl' := true) J J (.inr J) Ty.s63 <| S8 1 J <| pw_seq <| S3 3 J <| y_if J (fun hg => oF J Ty.f63_4 J) <| y_if J (fun hg => oS (ct hg) J J Ty.a4 J) <| y_if J (fun hg => om (d := .bool v70.1.Started) (ct hg)) <| y_if (want2 J J J) (fun hg => oF J Ty.f63_4 J) <| y_if (want2 J J J) (fun hg => oS (ct hg) J J Ty.a4 J) <| y_if (want2 J J J) (fun hg => o_not (ct hg) J) <| y_if J (fun hg => pk_and (ct hg) J J (fun q => andI hg (eqT q))) <| y0 J (pk_or J J J (fun q => eqF q)) <| yN ?_
      refine cN h (fun hc h => ?_) fun hc h => ?_
      ·refine S4 1 J ?_
       refine pw_ret ?_
       have h := xL hx48 h
       cases h
       exact f1
      ·refine pw_skip ?_
       refine S3 3 J <| y_if J (fun hg => oF J Ty.f63_4 J) <| y_if J (fun hg => oS (ct hg) J J Ty.a4 J) <| y_if J (fun hg => o_not (ct hg) J) <| y0 J (pk_and J J J (fun q => eqT q)) <| yN ?_
       refine cN h (fun hc h => ?_) fun hc h => ?_
       ·refine S6 3 J ?_
        exact eJ h W
       ·refine pw_skip ?_
        exact eJ h W
    ·refine pw_exit ?_
     refine thenQ_exit <| thenQ_exit <| blockQ_exit ?_
     have h := xL hx48 h
     exact eJ h W

theorem w16_SettleWeak_ok {a0} : PO Tryz.prog 13 [hold_Heap.Pv a0] (w16_SettleWeak a0) fun r => .bool r := by
 refine pO Tryz.func13 fun r h _ _ => ?_
 refine S4 2 J <| pw_seq <| S3 1 J <| cA h w16_sound_ok J J fun v1 _ h => S1 2 J <| bnE h fun v2 hv2 h => y_if J (fun hg => o_cl J w16_shown_ok J (onlyE hv2 hg)) <| y_if J (fun hg => o_not (ct hg) J) <| y0 J (pk_or J J J (fun q => eqF q)) <| yN ?_
 refine cN h (fun hc h => ?_) fun hc h => ?_
 ·refine sR ?_
  refine cA h w16_shown_ok J J fun v3 _ h => S2 1 J <| pw_ret ?_
  cases h
  exact f1
 ·refine pw_skip ?_
  refine S3 1 J <| cF h settle_Settle_ok J J fun v4 _ h => S2 2 J <| pw_seq <| S3 2 J <| nL J Ty.e28 <| S1 2 J <| nL J Ty.e28 <| S1 2 J <| y_if J (fun hg => oL J J J Ty.a34 Ty.s34 nl J) <| bnE h fun v5 hv5 h => y_if J (fun hg => o_cl J w16_few_ok (consE (ct hg) J) (onlyE hv5 hg)) <| y_if J (fun hg => o_not (ct hg) J) <| y0 J (pk_or J J J (fun q => eqF q)) <| yN ?_
  refine cN h (fun hc h => ?_) fun hc h => ?_
  ·refine S4 1 J ?_
   refine pw_ret ?_
   cases h
   exact f1
  ·refine pw_skip ?_
   refine S3 2 J <| cF h w16_its_ok J J fun v6 _ h => cF h r06_Live_ok J J fun v7 _ h => S2 1 J ?_
   refine jq h (fun _ => St.of [] []) (fun q15 h => ?_) fun κ14 h => ?_
   ·refine S4 1 J ?_
    refine pw_ret ?_
    cases h
    exact f1
   ·refine S4 1 J ?_
    refine pw_block <| lq h (fun s17 => St.of [(1, .ptr 1 0 0), (3, .ptr 3 0 0), (4, .L iF v7), (5, .I s17)] [(3, vR (hold_Heap.Pv v4) 8), (1, vR (hold_Heap.Pv a0) 8)]) W fun s17 x18 h hx17 => pw_seq <| S3 3 J <| nL J Ty.e28 <| S2 1 J ?_
    refine cN h (fun hc h => ?_) fun hc h => ?_
    ·refine pw_skip ?_
     refine pw_seq <| pw_block <| S3 3 J <| iL h J J Ty.e28 Ty.s84 fun v19 _ h => S2 3 J <| dr [] Ty.mix (by kernel_rfl) (by kernel_rfl) <| S7 5 J <| bnE h fun v20 hv19 h => d0 J (o_ixL (f := weak_Cell.Pv) (cs := weak_Cell.Pc v20) hv19 J J Ty.e28 Ty.s84 J J) J <| S7 4 J <| d_if7 J (fun hg _ hN => oF J Ty.f84_2 J) J <| d_if0 J (fun hg => oS (ct hg) J J Ty.a3 J) J <| d_if7 J (fun hg _ hN => oF J Ty.f34_2 J) J <| d_if0 J (fun hg => oS (ct hg) J J Ty.a28 J) J <| d_if7 J (fun hg _ hN => mI J) J <| d_if0 J (fun hg => o_ixL (f := weak_Cell.Pv) (cs := weak_Cell.Pc v20) hv19 (ct hg) (ct hg) Ty.e28 Ty.s84 J J) J <| d_if7 J (fun hg _ hN => o_fieldAddrR (ct hg) Ty.f84_2 J) J <| d_if0 J (fun hg => o_loadRS (ct hg) Ty.a3 J) J <| d_if7 J (fun hg _ hN => o_cmp (ct hg) (ct hg) J) J <| d7 J (fun _ hN => pk_or J J J (fun q => eqF q)) J <| S7 1 J <| d_if7 J (fun hg _ hN => oF J Ty.f34_2 J) J <| d_if0 J (fun hg => oS (ct hg) J J Ty.a28 J) J <| d_if7 J (fun hg _ hN => mI J) J <| d_if0 J (fun hg => o_ixL (f := weak_Cell.Pv) (cs := weak_Cell.Pc v20) hv19 (ct hg) (ct hg) Ty.e28 Ty.s84 J J) J <| d_if7 J (fun hg _ hN => o_fieldAddrR (ct hg) Ty.f84_1 J) J <| d_if0 J (fun hg => o_loadRS (ct hg) Ty.a4 J) J <| d_if7 J (fun hg _ hN => oF J Ty.f84_1 J) J <| d_if0 J (fun hg => oS (ct hg) J J Ty.a4 J) J <| d_if7 J (fun hg _ hN => om (d := .bool v19.Intact) (ct hg)) J <| d_if7 (want2 J J J) (fun hg _ hN => om (d := .L iF v7) J) J <| d_if7 (want2 J J J) (fun hg _ hN => oF J Ty.f84_0 J) J <| d_if0 (want2 J J J) (fun hg => oS (ct hg) J J Ty.a3 J) J <| bnE h fun v21 hv20 h => d_if2 (want2 J J J) (fun hg => o_cl J r07_Times_ok (consE (ct hg) (consE (ct hg) J)) (onlyE hv20 hg)) J <| d_if7 (want2 J J J) (fun hg _ hN => o_cmp (ct hg) J J) J <| d_if7 J (fun hg _ hN => pk_and (ct hg) J J (fun q => andI hg (eqT q))) J <| d_if7 J (fun hg _ hN => o_neB (ct hg) (ct hg) Ty.u4 J) J <| d7 J (fun _ hN => pk_or J J J (fun q => eqF q)) J <| d_nil ?_
     refine cN h (fun hc h => ?_) fun hc h => ?_
     ·refine S4 1 J ?_
      refine pw_ret ?_
      have h := xL hx17 h
      cases h
      exact f1
     ·refine pw_skip ?_
      refine S6 3 J ?_
      exact eL h W
    ·refine pw_exit ?_
     refine thenQ_exit <| thenQ_exit <| blockQ_exit ?_
     have h := xL hx17 h
     exact eJ h W

end Go.Proofs.YtnfmdpblilpcbaaGreat.Ok
